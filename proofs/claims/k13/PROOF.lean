import PyProof.Rows.All
import Wide.All
import OpenK.AllK
import Wide.FinOn
import Lean
import PyProof.EqAt
import PyProof.EqKinds
import PyProof.TupleCall
import PyProof.P3In
import KE.KDictLaws
import KE.KTabLook
import KE.KRevIter
import KE.KItemsList
import PyProof.TupleOfGen
import KE.KSortTup
import KE.KDictSum
import KE.KEqDict
import PyProof.EnumMake
import PyProof.EnumFor
import PyProof.EnumStmt
import PyProof.AttrMissHeap
import KE.KDictOf
import PyProof.Rows.SortShell
import PySem.Challenge.RW_rootstamp_k13_knots_by_hand
set_option Elab.async false
set_option linter.all false
set_option maxRecDepth 100000
set_option maxHeartbeats 4000000
namespace L2
open PySem PySem.Spec PyProof.Rows
abbrev Key:=Sum Int Str
def iY:Key→Value→Bool
 | .inl k,v=>Value.isInt k v
 | .inr x,v=>Value.isStrOf x v
def Gw (w:World):Key→Int
 | .inl k=>hashInt k
 | .inr x=>hashStr w x
theorem bJ : ∀ {k : Key} {v : Value}, iY k v = true → (∃ i t, k = Sum.inl i ∧ v = Value.int i t) ∨ (∃ x t, k = Sum.inr x ∧ v = Value.str x t)
  | .inl i, v, h => by
    obtain ⟨t, e⟩ := Value.isInt_shape (k := i) (v := v) h
    exact .inl ⟨i, t, rfl, e⟩
  | .inr x, v, h => by
    obtain ⟨t, e⟩ := Value.isStrOf_shape (x := x) (v := v) h
    exact .inr ⟨x, t, rfl, e⟩
theorem rT (i:Int) (t:Tok):iY (.inl i) (.int i t)=true:=by simp [iY,Value.isInt]
theorem su (x:Str) (t:Tok):iY (.inr x) (.str x t)=true:=by simp [iY,Value.isStrOf]
theorem Al (a b:Int):decide ((Sum.inl a:Key)=Sum.inl b)=(a==b):=by
 by_cases e:a=b
 · subst e;simp
 · have h:¬ (Sum.inl a:Key)=Sum.inl b:=fun q=>e (Sum.inl.inj q)
   rw [decide_eq_false h]
   exact (beq_eq_false_iff_ne.mpr e).symm
theorem AA (a b:Str):decide ((Sum.inr a:Key)=Sum.inr b)=decide (a=b):=by
 by_cases e:a=b
 · subst e;simp
 · have h:¬ (Sum.inr a:Key)=Sum.inr b:=fun q=>e (Sum.inr.inj q)
   rw [decide_eq_false h,decide_eq_false e]
theorem AW (a:Int) (b:Str):decide ((Sum.inl a:Key)=Sum.inr b)=false:=decide_eq_false (fun q=>nomatch q)
theorem Ap (a:Str) (b:Int):decide ((Sum.inr a:Key)=Sum.inl b)=false:=decide_eq_false (fun q=>nomatch q)
def ba (prog:Program) (w:World):PySem.KeyKind prog w Key where
 is:=iY
 hash:=Gw w
 inj:=fun v a b ha hb=>by
  rcases bJ ha with ⟨i,t,rfl,rfl⟩ | ⟨x,t,rfl,rfl⟩
  · rcases bJ hb with ⟨j,u,rfl,e⟩ | ⟨y,u,rfl,e⟩
    · injection e with e1 _;rw [e1]
    · exact nomatch e
  · rcases bJ hb with ⟨j,u,rfl,e⟩ | ⟨y,u,rfl,e⟩
    · exact nomatch e
    · injection e with e1 _;rw [e1]
 byValue:=fun k v h=>by
  rcases bJ h with ⟨i,t,rfl,rfl⟩ | ⟨x,t,rfl,rfl⟩ <;> rfl
 pyHash:=fun hv h=>by
  rcases bJ hv with ⟨i,t,rfl,rfl⟩ | ⟨x,t,rfl,rfl⟩
  · exact wpAny_pyHash_int h
  · exact wpAny_pyHash_str h
 eqBool:=fun hu hv h=>by
  rcases bJ hu with ⟨i,t,rfl,rfl⟩ | ⟨x,t,rfl,rfl⟩
  · rcases bJ hv with ⟨j,u,rfl,rfl⟩ | ⟨y,u,rfl,rfl⟩
    · rw [Al] at h;exact wpAny_eqBool_int h
    · rw [AW] at h;exact SeqAt.EqAt.int_str i t y u _ _ _ _ h
  · rcases bJ hv with ⟨j,u,rfl,rfl⟩ | ⟨y,u,rfl,rfl⟩
    · rw [Ap] at h;exact SeqAt.EqAt.str_int x t j u _ _ _ _ h
    · rw [AA] at h;exact wpAny_eqBool_str h
 «strs»:=fun k x t v h=>by
  rcases bJ h with ⟨i,u,rfl,e⟩ | ⟨y,u,rfl,e⟩
  · exact nomatch e
  · injection e with e1 _
    subst e1
    cases v <;> rfl
theorem jo (prog:Program) (w:World) (i:Int) (t:Tok):(ba prog w).is (.inl i) (.int i t)=true:=rT i t
theorem oR (prog:Program) (w:World) (x:Str) (t:Tok):(ba prog w).is (.inr x) (.str x t)=true:=su x t
inductive V where
 | non | bl (b:Bool) | int (i:Int) | str (x:Str) | byt (b:Array UInt8) | flt (b:UInt64) | ref (a:Addr) | ty (n:String)
 deriving DecidableEq
def aE:V→Value→Prop
 | .non,u=>u=Value.none
 | .bl b,u=>u=Value.bool b
 | .int i,u=>∃ t,u=Value.int i t
 | .str x,u=>∃ t,u=Value.str x t
 | .byt b,u=>∃ t,u=Value.bytes b t
 | .flt b,u=>∃ t,u=Value.float b t
 | .ref a,u=>u=Value.ref a
 | .ty n,u=>u=Value.type n
abbrev aG:List V→List Value→Prop:=Paired aE
theorem aG.length {xs:List V} {us:List Value} (r:aG xs us):xs.length=us.length:=Paired.length r
theorem aG.get : ∀ {xs : List V} {us : List Value} {i : Nat} {x : V}, aG xs us → xs[i]? = some x → ∃ u, us[i]? = some u ∧ aE x u
  | _, _, _, _, .nil, e => by simp at e
  | _, _, 0, _, .cons r _, e => by simp at e; subst e; exact ⟨_, rfl, r⟩
  | _, _, i + 1, x, .cons _ t, e => by
    obtain ⟨u, h1, h2⟩ := aG.get (i := i) (x := x) t (by simpa using e)
    exact ⟨u, by simpa using h1, h2⟩
theorem aG.set {x:V} {u:Value} (r:aE x u):∀ {xs:List V} {us:List Value} (i:Nat),aG xs us→aG (xs.set i x) (us.set i u)
 | _,_,_,.nil=> .nil
 | _,_,0,.cons _ t=> .cons r t
 | _,_,i+1,.cons q t=> .cons q (aG.set r i t)
theorem aG.append:∀ {xs ys:List V} {us ws:List Value},aG xs us→aG ys ws→aG (xs++ys) (us++ws)
 | _,_,_,_,.nil,s=>s
 | _,_,_,_,.cons r t,s=> .cons r (aG.append t s)
theorem aG.take:∀ {xs:List V} {us:List Value} (n:Nat),aG xs us→aG (xs.take n) (us.take n)
 | _,_,0,_=> .nil
 | _,_,_+1,.nil=> .nil
 | _,_,n+1,.cons r t=> .cons r (aG.take n t)
theorem aG.drop:∀ {xs:List V} {us:List Value} (n:Nat),aG xs us→aG (xs.drop n) (us.drop n)
 | _,_,0,r=>r
 | _,_,_+1,.nil=> .nil
 | _,_,n+1,.cons _ t=>aG.drop n t
def cy:Option V→Option Value→Prop
 | some v,some u=>aE v u
 | none,none=>True
 | _,_=>False
def KV {κ:Type}:List (κ×V)→List (κ×Value)→Prop:=Paired fun (p:κ×V) (q:κ×Value)=>p.1=q.1∧aE p.2 q.2
def kV:Key→V
 | .inl i=> .int i
 | .inr x=> .str x
inductive HO where
 | lst (xs:List V)
 | tup (xs:List V)
 | dK (kvs:List (Key×V)) | dT (kvs:List (List Key×V))
 | set (S:Int→Bool) (n:Nat)
 | ins (C dx:Addr) (fs:List (Str×V))
 | own (x:Addr)
 | xd (fs:List (Str×V))
 | met (f x:Addr)
 | rng (lo hi:Int)
 | frz (o:Obj) (u:HO)
 | tbl (ps:Array Value)
 | ext (φ:Heap→Prop)
abbrev Hp:=Addr→Option HO
def upd (H:Hp) (a:Addr) (o:HO):Hp:=fun b=>if b=a then some o else H b
theorem af {H:Hp} {a:Addr} {o:HO}:upd H a o a=some o:=by unfold upd;rw [if_pos rfl]
theorem ak {H:Hp} {a b:Addr} {o:HO} (h:b≠a):upd H a o b=H b:=by unfold upd;rw [if_neg h]
theorem dm {H:Hp} {a:Addr} {o u:HO}:upd (upd H a o) a u=upd H a u:=by
 funext b;unfold upd;split <;> rfl
theorem cY {H:Hp} {a b:Addr} {o u:HO} (h:H a=some o) (h':H b=some u) (d:o≠u):a≠b:=by
 intro e;subst e;rw [h] at h';exact d (Option.some.inj h')
theorem ar {H:Hp} {a b:Addr} {o:HO} (h:H a=some o) (h':H b=none):a≠b:=by
 intro e;subst e;rw [h] at h';cases h'
section
variable (P:Program) (w:World)
def aQ (H:Hp) (h:Heap) (a:Addr):HO→Prop
 | .lst xs=>xs.length≤sizeLine∧∃ (its:List Value) (n:Nat),aG xs its∧h.get? a=some { cls:=.type "list",data:=.seq its.toArray n }
 | .tup xs=>xs.length≤sizeLine∧∃ its:List Value,aG xs its∧IsTup h a its.toArray
 | .dK kvs=>kvs.length≤sizeLine∧(a==sysModules)=false∧∃ vs,KV kvs vs∧h.DictOf (ba P w) a vs
 | .dT kvs=>kvs.length≤sizeLine∧(a==sysModules)=false∧∃ xs:List (List Key×Addr×Value),
  Paired (fun (p:List Key×V) (q:List Key×Addr×Value)=>p.1=q.1∧H q.2.1=some (.tup (p.1.map kV))∧aE p.2 q.2.2) kvs xs∧
  ∃ o es ep,h.get? a=some o∧o.ExactDict∧o.data=.dict es ep∧es.toList=xs.map (entryOfKey (tupleKind (ba P w)))∧(xs.map (·.1)).Nodup
 | .set S n=>h.SetOf (intKind P w) a S n
 | .ins C dx fs=>H dx=some (.own a)∧fs.length≤1000∧dx≠a∧h.get? a=some (W.instObj C dx)∧
  ∃ mA,h.Ns1 dx mA∧(∀ f,cy (fs.lookup f) (mA f))∧PySem.Within mA (fs.map (·.1))
 | .own _=>∃ o,h.get? a=some o
 | .xd fs=>∃ mA,h.Ns1 a mA∧∀ f,cy (fs.lookup f) (mA f)
 | .rng lo hi=>∃ t u v,h.get? a=some { cls:=.type "range",data:=.fields #[.int lo t,.int hi u,.int 1 v] }
 | .frz o u=>h.get? a=some o∧aQ H h a u
 | .tbl ps=>h.get? a=some { cls:=.none,data:=.fields ps }
 | .met f x=>h.get? a=some (W.methodObj (.ref f) (.ref x))
 | .ext φ=>φ h∧(∃ o,h.get? a=some o)∧∀ h1 h2:Heap,φ h1→(∀ o,h1.get? a=some o→h2.get? a=some o)→φ h2
def HOk (H:Hp) (h:Heap):Prop:=∀ a o,H a=some o→aQ P w H h a o
end
section
variable {P:Program} {w:World} {H H':Hp} {h h':Heap} {a:Addr} {o:HO}
theorem aQ.lt (x:aQ P w H h a o):a<h.objs.size:=by
 cases o with
 | lst xs=>obtain ⟨_,_,_,_,e⟩:=x;exact Heap.lt_size e
 | tup xs=>obtain ⟨_,_,_,p⟩:=x;exact p.lt
 | dK kvs=>obtain ⟨_,_,_,_,o,_,_,e,_⟩:=x;exact Heap.lt_size e
 | dT kvs=>obtain ⟨_,_,_,_,o,_,_,e,_⟩:=x;exact Heap.lt_size e
 | set S n=>obtain ⟨o,_,_,_,e,_⟩:=x;exact Heap.lt_size e
 | ins C dx fs=>obtain ⟨_,_,_,e,_⟩:=x;exact Heap.lt_size e
 | own y=>obtain ⟨_,e⟩:=x;exact Heap.lt_size e
 | xd fs=>obtain ⟨_,⟨_,_,_,e,_⟩,_⟩:=x;exact Heap.lt_size e
 | rng lo hi=>obtain ⟨_,_,_,e⟩:=x;exact Heap.lt_size e
 | frz ob u=>obtain ⟨e,_⟩:=x;exact Heap.lt_size e
 | tbl ps=>exact Heap.lt_size (show h.get? a=some _ from x)
 | met f y=>exact Heap.lt_size (show h.get? a=some _ from x)
 | ext φ=>obtain ⟨_,⟨_,e⟩,_⟩:=x;exact Heap.lt_size e
theorem Paired.mapP {α β:Type} {F G:α→β→Prop}:∀ {l₁:List α} {l₂:List β},Paired F l₁ l₂→(∀ a b,F a b→G a b)→Paired G l₁ l₂
 | _,_,.nil,_=> .nil
 | _,_,.cons r t,f=> .cons (f _ _ r) (Paired.mapP t f)
theorem aQ.stay (x : aQ P w H h a o) (k : ∀ b u, (b = a ∨ H b = some (.own a)) → h.get? b = some u → h'.get? b = some u)
    (ho : ∀ b, H b = some (.own a) → H' b = some (.own a)) (ht : ∀ b xs, H b = some (.tup xs) → H' b = some (.tup xs)) : aQ P w H' h' a o := by
  induction o with
  | lst xs => obtain ⟨z, its, n, r, e⟩ := x; exact ⟨z, its, n, r, k _ _ (.inl rfl) e⟩
  | tup xs => obtain ⟨z, its, r, ob, e, c⟩ := x; exact ⟨z, its, r, ob, k _ _ (.inl rfl) e, c⟩
  | dK kvs => obtain ⟨z, y, vs, r, ob, es, ep, e, c⟩ := x; exact ⟨z, y, vs, r, ob, es, ep, k _ _ (.inl rfl) e, c⟩
  | dT kvs =>
    obtain ⟨z, y, xs, r, ob, es, ep, e, c⟩ := x
    exact ⟨z, y, xs, Paired.mapP r fun p q z => ⟨z.1, ht _ _ z.2.1, z.2.2⟩, ob, es, ep, k _ _ (.inl rfl) e, c⟩
  | set S n => obtain ⟨ob, es, ep, t, e, c⟩ := x; exact ⟨ob, es, ep, t, k _ _ (.inl rfl) e, c⟩
  | ins C dx fs =>
    obtain ⟨d, z, ne, e, mA, ⟨od, es, ep, e2, c⟩, r⟩ := x
    exact ⟨ho _ d, z, ne, k _ _ (.inl rfl) e, mA, ⟨od, es, ep, k _ _ (.inr d) e2, c⟩, r⟩
  | own y => obtain ⟨ob, e⟩ := x; exact ⟨ob, k _ _ (.inl rfl) e⟩
  | xd fs => obtain ⟨mA, ⟨od, es, ep, e, c⟩, r⟩ := x; exact ⟨mA, ⟨od, es, ep, k _ _ (.inl rfl) e, c⟩, r⟩
  | rng lo hi => obtain ⟨t, u, v, e⟩ := x; exact ⟨t, u, v, k _ _ (.inl rfl) e⟩
  | frz ob u ih => obtain ⟨e, q⟩ := x; exact ⟨k _ _ (.inl rfl) e, ih q⟩
  | tbl ps =>
    have e : h.get? a = some { cls := .none, data := .fields ps } := x
    show h'.get? a = some { cls := .none, data := .fields ps }
    exact k a _ (.inl rfl) e
  | met f y =>
    have e : h.get? a = some (W.methodObj (.ref f) (.ref y)) := x
    show h'.get? a = some (W.methodObj (.ref f) (.ref y))
    exact k a _ (.inl rfl) e
  | ext φ => obtain ⟨p, ⟨o, e⟩, st⟩ := x; exact ⟨st _ _ p fun o q => k _ _ (.inl rfl) q, ⟨o, k _ _ (.inl rfl) e⟩, st⟩
theorem HOk.lt (x:HOk P w H h) (e:H a=some o):a<h.objs.size:=(x a o e).lt
theorem HOk.fresh (x:HOk P w H h) (e:h.objs.size≤a):H a=none:=by
 cases q:H a with
 | none=>rfl
 | some u=>exact absurd (Nat.lt_of_lt_of_le (x.lt q) e) (Nat.lt_irrefl _)
theorem HOk.kept (x:HOk P w H h) (k:∀ b u,h.get? b=some u→h'.get? b=some u):HOk P w H h':=fun a o e=>
 (x a o e).stay (fun b u _ q=>k b u q) (fun _ q=>q) fun _ _ q=>q
theorem HOk.laid (x:HOk P w H h) (k:∀ b u,h.get? b=some u→h'.get? b=some u) (hp:h.objs.size≤a) (new:aQ P w (upd H a o) h' a o):HOk P w (upd H a o) h':=fun b u e=>by
 have hn:=x.fresh hp
 by_cases hb:b=a
 · subst hb;rw [af] at e;cases e;exact new
 · rw [ak hb] at e
   exact (x b u e).stay (fun c v _ q=>k c v q) (fun c q=>by rw [ak (ar q hn)];exact q) fun c xs q=>by rw [ak (ar q hn)];exact q
end
def Rd (H:Hp) (a:Addr) (u:HO):Prop:=H a=some u∨∃ o,H a=some (.frz o u)
theorem Rd.ok {P:Program} {w:World} {H:Hp} {h:Heap} {a:Addr} {u:HO} (r:Rd H a u) (x:HOk P w H h):aQ P w H h a u:=by
 rcases r with r | ⟨o,r⟩
 · exact x a u r
 · obtain ⟨_,q⟩:=x a _ r
   exact q
def Mut:Option HO→Prop
 | some (.lst _)=>True
 | some (.dK _)=>True
 | some (.dT _)=>True
 | some (.set _ _)=>True
 | some (.ins _ _ _)=>True
 | some (.ext _)=>True
 | _=>False
section
variable {P:Program} {w:World} {H:Hp} {h h':Heap} {x e:Addr} {o':HO}
theorem HOk.write (ok:HOk P w H h) (mu:Mut (H x)) (he:e=x∨H e=some (.own x)) (k:∀ b u,b≠e→h.get? b=some u→h'.get? b=some u) (heo:∃ u,h'.get? e=some u)
   (new:aQ P w (upd H x o') h' x o'):HOk P w (upd H x o') h':=fun b u q=>by
 have nown:∀ c y,H c=some (.own y)→c≠x:=fun c y r z=>by subst z;rw [r] at mu;exact mu
 have ntup:∀ c xs,H c=some (.tup xs)→c≠x:=fun c xs r z=>by subst z;rw [r] at mu;exact mu
 by_cases hb:b=x
 · subst hb;rw [af] at q;cases q;exact new
 · rw [ak hb] at q
   by_cases hbe:b=e
   · have q':H b=some (.own x):=by
       rcases he with z | z
       · exact absurd (hbe.trans z) hb
       · rw [hbe];exact z
     rw [q] at q';cases q'
     obtain ⟨v,hv⟩:=heo
     exact ⟨v,by rw [hbe];exact hv⟩
   · refine (ok b u q).stay (fun c v hc r=>k c v ?_ r) (fun c r=>by rw [ak (nown c b r)];exact r) fun c xs r=>by rw [ak (ntup c xs r)];exact r
     rcases hc with rfl | hc
     · exact hbe
     · rintro rfl
       rcases he with z | z
       · exact nown c b hc z
       · rw [hc] at z;cases z;exact hb rfl
end
structure Un (fs ex:List Addr) (H H':Hp) (h h':Heap):Prop where
 keep:∀ b o,h.get? b=some o→H b=none→b∉fs→b∉ex→h'.get? b=some o
 slot:∀ b o,h.get? b=some o→H b=none→b∈fs→b∉ex→∃ sl,h'.get? b=some { o with slots:=sl }
 free:∀ b o,h.get? b=some o→H b=none→b∉ex→H' b=none
 there:∀ b o,h.get? b=some o→b∉ex→∃ o',h'.get? b=some o'
 tups:∀ b xs,H b=some (.tup xs)→H' b=some (.tup xs)
 frzs:∀ b o u,H b=some (.frz o u)→H' b=some (.frz o u)
 tbls:∀ b ps,H b=some (.tbl ps)→∃ more,H' b=some (.tbl (ps++more))
section
variable {fs fs' ex ex':List Addr} {H H1 H2:Hp} {h h1 h2 h':Heap} {a x e:Addr} {o:HO}
theorem Un.any (u:Un fs ex H H1 h h1) {b:Addr} {ob:Obj} (q:h.get? b=some ob) (n:H b=none) (hx:b∉ex):∃ sl,h1.get? b=some { ob with slots:=sl }:=by
 by_cases hb:b∈fs
 · exact u.slot b ob q n hb hx
 · exact ⟨ob.slots,u.keep b ob q n hb hx⟩
theorem Un.kept (k:∀ b u,h.get? b=some u→h'.get? b=some u):Un fs ex H H h h':=
 ⟨fun b ob q _ _ _=>k b ob q,fun b ob q _ _ _=>⟨ob.slots,k b ob q⟩,fun _ _ _ n _=>n,fun b ob q _=>⟨ob,k b ob q⟩,fun _ _ q=>q,fun _ _ _ q=>q,fun _ ps q=>⟨#[],by rw [q];simp⟩⟩
theorem Un.refl:Un fs ex H H h h:=Un.kept fun _ _ q=>q
theorem Un.laid (k:∀ b u,h.get? b=some u→h'.get? b=some u) (hp:h.objs.size≤a) (hn:H a=none):Un fs ex H (upd H a o) h h' where
 keep:=fun b u q _ _ _=>k b u q
 slot:=fun b u q _ _ _=>⟨u.slots,k b u q⟩
 free:=fun b u q n _=>by rw [ak (Nat.ne_of_lt (Nat.lt_of_lt_of_le (Heap.lt_size q) hp))];exact n
 there:=fun b u q _=>⟨u,k b u q⟩
 tups:=fun b xs q=>by rw [ak (ar q hn)];exact q
 frzs:=fun b u xs q=>by rw [ak (ar q hn)];exact q
 tbls:=fun b ps q=>⟨#[],by rw [ak (ar q hn),q];simp⟩
theorem Un.write (mu:Mut (H x)) (he:e=x∨H e=some (.own x)) (k:∀ b u,b≠e→h.get? b=some u→h'.get? b=some u) (heo:∃ u,h'.get? e=some u):Un fs ex H (upd H x o) h h':=by
 have hx:∀ b,H b=none→b≠x:=fun b n z=>by subst z;rw [n] at mu;exact mu
 have hb:∀ b,H b=none→b≠e:=fun b n z=>by
   subst z
   rcases he with r | r
   · exact hx b n r
   · rw [n] at r;cases r
 have hm:∀ b u,H b=some u→¬ Mut (some u)→b≠x:=fun b u q nm z=>by subst z;rw [q] at mu;exact nm mu
 refine ⟨fun b u q n _ _=>k b u (hb b n) q,fun b u q n _ _=>⟨u.slots,k b u (hb b n) q⟩,fun b u q n _=>by rw [ak (hx b n)];exact n,fun b u q _=>?_,
   fun b xs q=>by rw [ak (hm b _ q fun z=>z)];exact q,fun b u xs q=>by rw [ak (hm b _ q fun z=>z)];exact q,fun b ps q=>⟨#[],by rw [ak (hm b _ q fun z=>z),q];simp⟩⟩
 by_cases hbe:b=e
 · subst hbe;exact heo
 · exact ⟨u,k b u hbe q⟩
end
def trk (h:Heap) (H:Hp):List Addr:=(List.range h.objs.size).filter fun a=>(H a).isSome
def fD (h:Heap) (H:Hp):Heap:=W.hideAll h (trk h H)
theorem ue (h:Heap) (H:Hp):(fD h H).objs.size=h.objs.size:=W.hideAll_size _ _
theorem vF {h:Heap} {H:Hp} {b:Addr} {o:Obj} (e:h.get? b=some o) (n:H b=none):(fD h H).get? b=some o:=
 W.hideAll_get _ e fun hm=>by
  have q:(H b).isSome=true:=(List.mem_filter.mp hm).2
  rw [n] at q;simp at q
theorem yq {h : Heap} {H : Hp} {b : Addr} {o : Obj} (e : (fD h H).get? b = some o) : h.get? b = some o ∧ H b = none := by
  have e' : h.get? b = some o := W.of_hideAll (trk h H) e
  refine ⟨e', ?_⟩
  cases q : H b with
  | none => rfl
  | some x =>
    have hm : b ∈ trk h H := List.mem_filter.mpr ⟨List.mem_range.mpr (Heap.lt_size e'), by simp [q]⟩
    have z : (fD h H).get? b = none := W.hideAll_none (trk h H) hm
    rw [z] at e; cases e
def yA (g h:Heap) (L:Addr):List (Addr×Obj):=(List.range h.objs.size).filterMap fun a=>if a=L∨(g.get? a).isSome=true then none else (h.get? a).map fun o=>(a,o)
def bv (g h:Heap) (L d:Addr):List (Addr×Obj):=(yA g h L).filter fun p=>decide (p.1≠d)
structure Mod (K:W.Frag) (mg:Str→Option Value) (base:Heap):Prop where
 kin:K.In base
 glob:base.Ns mainGlobals mg
 blt:∃ mb,base.Ns builtinsNs mb∧∀ x:Str,x≠ "__name__" →mb x=bootBuiltins x
 nolimit:base.NoLimit
set_option genInjectivity false in
set_option genSizeOf false in
structure Cx where
 prog:Program
 w:World
 K:W.Frag
 mg:Str→Option Value
 base:Heap
 A:Around
 N:List Str
 s₀:Shared
 H₀:Hp
 env:Env
 outer:List Env
 stack:List Env
 ex:List Addr
 fn:Str→Bool
 calm:Bool
 pn:List (Addr×Obj)
 xe:Value→Shared→Prop
def frs (l:List Env):List Addr:=l.filterMap (·.frame)
abbrev Cx.fs (X:Cx):List Addr:=frs X.outer
def Vis (sc:Scope) (x:Str):Prop:=sc.names.lookup x=some .local∨sc.names.lookup x=some .cell∨sc.names.lookup x=some .free
def Loc (sc:Scope) (x:Str):Prop:=sc.names.lookup x=some .local∨sc.names.lookup x=some .cell
def Bo (env:Env) (h:Heap) (m:Str→Option Value) (x:Str) (u:Value):Prop:=
 (env.kindOf x=some .local∧m x=some u)∨((env.kindOf x=some .cell∨env.kindOf x=some .free)∧∃ c,env.cells.lookup x=some c∧h.IsCell c (some u))
set_option genInjectivity false in
set_option genSizeOf false in
structure Cx.Ok (X:Cx):Prop where
 mod:Mod X.K X.mg X.base
 kind:X.env.scope.kind=.function
 glob:X.env.globals=mainGlobals
 blt:X.env.builtins=builtinsNs
 above:X.s₀.heap.objs.size≤X.env.locals
 inj:∀ x y c,X.env.cells.lookup x=some c→X.env.cells.lookup y=some c→x=y
 has:∀ x,(X.env.kindOf x=some .cell∨X.env.kindOf x=some .free)→∃ c,X.env.cells.lookup x=some c
 cab:∀ x c,X.fn x=true→X.env.cells.lookup x=some c→X.s₀.heap.objs.size≤c
 hd:X.calm=true→X.A.handled=none
 frames:X.A.frames=some X.stack
 stk:X.stack=X.outer∨(X.stack=X.env::X.outer∧X.env.frame=some X.env.locals)
 exf:∀ b∈X.ex,b≠X.env.locals∧∀ x c,X.env.cells.lookup x=some c→c≠b
 bs:∀ b o,X.base.get? b=some o→X.s₀.heap.get? b=some o∧X.H₀ b=none
 bsz:X.base.objs.size≤X.s₀.heap.objs.size
 noex:∀ b o,X.base.get? b=some o→b∉X.ex
 exfs:∀ b∈X.ex,b∉X.fs
 funs:X.s₀.heap.FunFrames X.base X.outer
 frf:∀ b∈X.fs,X.H₀ b=none
structure Inv (X:Cx) (pins:List (Addr×Obj)) (σ:List (Option V)) (H:Hp) (s:Shared):Prop where
 ok:X.Ok
 os:s.os=X.s₀.os
 bare:AllBare s.gens
 base:Un X.fs X.ex X.H₀ H X.s₀.heap s.heap
 loc:∃ m,s.heap.Ns X.env.locals m∧∀ (i:Nat) (x:Str) (v:V),X.N[i]?=some x→σ[i]?=some (some v)→Vis X.env.scope x→∃ u,aE v u∧Bo X.env s.heap m x u
 cell:∀ x c,X.env.cells.lookup x=some c→∃ v,s.heap.IsCell c v
 free:H X.env.locals=none
 freeC:∀ x c,X.env.cells.lookup x=some c→H c=none
 pin:∀ p∈X.pn++pins,s.heap.get? p.1=some p.2∧H p.1=none∧p.1≠X.env.locals∧p.1∉X.fs∧∀ v,p.2.data≠ .cell v
 hok:HOk X.prog X.w H s.heap
 len:σ.length=X.N.length
section
variable {X:Cx} {pins:List (Addr×Obj)} {σ:List (Option V)} {H H':Hp} {s:Shared} {h':Heap}
theorem Cx.Ok.nofr (ok:X.Ok) {b:Addr} {o:Obj} (e:X.base.get? b=some o):b∉X.fs:=fun hb=>by
 have:=(ok.funs.mem hb).1
 rw [e] at this;cases this
theorem Inv.bs (I:Inv X pins σ H s):∀ b o,X.base.get? b=some o→s.heap.get? b=some o∧H b=none:=fun b o e=>
 ⟨I.base.keep b o (I.ok.bs b o e).1 (I.ok.bs b o e).2 (I.ok.nofr e) (I.ok.noex b o e),I.base.free b o (I.ok.bs b o e).1 (I.ok.bs b o e).2 (I.ok.noex b o e)⟩
theorem Inv.bk (I:Inv X pins σ H s):∀ b o,X.base.get? b=some o→s.heap.get? b=some o:=fun b o e=>(I.bs b o e).1
theorem Inv.mod (I:Inv X pins σ H s):Mod X.K X.mg X.base:=I.ok.mod
theorem Inv.kIn (I:Inv X pins σ H s):X.K.In s.heap:=I.ok.mod.kin.keeps I.bk
theorem Inv.lt (I:Inv X pins σ H s):X.env.locals<s.heap.objs.size:=let ⟨_,hn,_⟩:=I.loc;hn.lt
theorem Inv.sz (I:Inv X pins σ H s):X.s₀.heap.objs.size≤s.heap.objs.size:=Nat.le_trans I.ok.above (Nat.le_of_lt I.lt)
theorem Inv.nofs (I:Inv X pins σ H s) {a:Addr} (h:s.heap.objs.size≤a):a∉X.fs:=fun hb=>by
 obtain ⟨_,o,ho,_⟩:=I.ok.funs.mem hb
 exact absurd (Nat.lt_of_lt_of_le (Heap.lt_size ho) (Nat.le_trans I.sz h)) (Nat.lt_irrefl _)
theorem Inv.cne (I:Inv X pins σ H s):∀ x c,X.env.cells.lookup x=some c→c≠X.env.locals:=fun x c e z=>by
 obtain ⟨v,o,ho,hd⟩:=I.cell x c e
 obtain ⟨m,⟨o',es,ep,ho',hd',_⟩,_⟩:=I.loc
 rw [z,ho'] at ho;cases ho;rw [hd'] at hd;cases hd
theorem Inv.funs (I : Inv X pins σ H s) : s.heap.FunFrames X.base X.outer := by
  have all : ∀ (l : List Env), (∀ b ∈ frs l, b ∈ X.fs) → X.s₀.heap.FunFrames X.base l → s.heap.FunFrames X.base l := by
    intro l
    induction l with
    | nil => intro _ _; trivial
    | cons env r ih =>
      intro hs hl
      obtain ⟨hk, ⟨L, o, hf, hn, ho, hd⟩, hr⟩ := hl
      have hL : L ∈ X.fs := hs L (by unfold frs; rw [List.filterMap_cons, hf]; exact List.mem_cons_self)
      obtain ⟨sl, e⟩ := I.base.slot L o ho (I.ok.frf L hL) hL fun z => I.ok.exfs L z hL
      exact ⟨hk, ⟨L, _, hf, hn, e, hd⟩, ih (fun b hb => hs b (by unfold frs; rw [List.filterMap_cons, hf]; exact List.mem_cons_of_mem _ hb)) hr⟩
  exact all X.outer (fun _ hb => hb) I.ok.funs
theorem Inv.stack (I:Inv X pins σ H s):s.heap.FunFrames X.base X.stack:=by
 rcases I.ok.stk with e | ⟨e,hf⟩
 · rw [e];exact I.funs
 · rw [e]
   obtain ⟨m,hn,_⟩:=I.loc
   refine .cons (by rw [I.ok.kind];decide) hf hn ?_ I.funs
   exact Heap.get?_none_of_le (Nat.le_trans I.ok.bsz I.ok.above)
theorem Inv.stkSub (I:Inv X pins σ H s):∀ b∈frs X.stack,b∈X.env.locals::X.fs:=fun b hb=>by
 rcases I.ok.stk with e | ⟨e,hf⟩
 · rw [e] at hb;exact List.mem_cons_of_mem _ hb
 · rw [e] at hb
   unfold frs at hb
   rw [List.filterMap_cons,hf] at hb
   exact hb
theorem Inv.stkFree (I:Inv X pins σ H s):∀ b∈frs X.stack,H b=none:=fun b hb=>by
 rcases List.mem_cons.mp (I.stkSub b hb) with e | hb
 · rw [e];exact I.free
 · obtain ⟨_,o,ho,_⟩:=I.ok.funs.mem hb
   exact I.base.free b o ho (I.ok.frf b hb) fun z=>I.ok.exfs b z hb
theorem Inv.step {g':Array GenState} {t':Nat} {d':Drawn} {ch:List Addr} (I:Inv X pins σ H s)
   (hch:∀ b∈ch,(b∈X.ex∨X.s₀.heap.objs.size≤b)∧b≠X.env.locals∧(∀ x c,X.env.cells.lookup x=some c→c≠b)∧∀ p∈X.pn++pins,p.1≠b)
   (keep:∀ b o,b≠X.env.locals→b∉X.fs→b∉ch→s.heap.get? b=some o→H b=none→h'.get? b=some o)
   (slot:∀ b o,b≠X.env.locals→b∈X.fs→b∉ch→s.heap.get? b=some o→H b=none→∃ sl,h'.get? b=some { o with slots:=sl }) (free:∀ b o,b∉ch→s.heap.get? b=some o→H b=none→H' b=none)
   (there:∀ b o,b∉ch→s.heap.get? b=some o→∃ o',h'.get? b=some o')
   (tups:∀ b xs,H b=some (.tup xs)→H' b=some (.tup xs)) (frzs:∀ b o u,H b=some (.frz o u)→H' b=some (.frz o u)) (tbls:∀ b ps,H b=some (.tbl ps)→∃ more,H' b=some (.tbl (ps++more)))
   (ns:∀ m,s.heap.Ns X.env.locals m→h'.Ns X.env.locals m) (hok:HOk X.prog X.w H' h') (hg:AllBare g'):
   Inv X pins σ H' { s with heap:=h',gens:=g',drawn:=d',toks:=t' }:=by
 have neL:∀ b o,X.s₀.heap.get? b=some o→b≠X.env.locals:=fun b o e=>Nat.ne_of_lt (Nat.lt_of_lt_of_le (Heap.lt_size e) I.ok.above)
 have neC:∀ b o,X.s₀.heap.get? b=some o→b∉X.ex→b∉ch:=fun b o e hx hb=>by
   rcases (hch b hb).1 with z | z
   · exact hx z
   · exact absurd (Nat.lt_of_lt_of_le (Heap.lt_size e) z) (Nat.lt_irrefl _)
 have cellK:∀ x c,X.env.cells.lookup x=some c→∀ v,s.heap.IsCell c v→h'.IsCell c v:=fun x c e v ⟨o,ho,hd⟩=>by
   have nch:c∉ch:=fun z=>(hch c z).2.2.1 x c e rfl
   by_cases hc:c∈X.fs
   · obtain ⟨sl,q⟩:=slot c o (I.cne x c e) hc nch ho (I.freeC x c e)
     exact ⟨_,q,hd⟩
   · exact ⟨o,keep c o (I.cne x c e) hc nch ho (I.freeC x c e),hd⟩
 refine ⟨I.ok,I.os,hg,⟨fun b o e n hb hx=>?_,fun b o e n hb hx=>?_,fun b o e n hx=>?_,fun b o e hx=>?_,fun b xs e=>tups b xs (I.base.tups b xs e),fun b o xs e=>frzs b o xs (I.base.frzs b o xs e),fun b ps e=>?_⟩,?_,fun x c e=>?_,?_,fun x c e=>?_,fun p hp=>?_,hok,I.len⟩
 · exact keep b o (neL b o e) hb (neC b o e hx) (I.base.keep b o e n hb hx) (I.base.free b o e n hx)
 · obtain ⟨sl,e1⟩:=I.base.slot b o e n hb hx
   obtain ⟨sl',e2⟩:=slot b _ (neL b o e) hb (neC b o e hx) e1 (I.base.free b o e n hx)
   exact ⟨sl',e2⟩
 · obtain ⟨o',e1⟩:=I.base.there b o e hx
   exact free b o' (neC b o e hx) e1 (I.base.free b o e n hx)
 · obtain ⟨o',e1⟩:=I.base.there b o e hx
   exact there b o' (neC b o e hx) e1
 · obtain ⟨m1,e1⟩:=I.base.tbls b ps e
   obtain ⟨m2,e2⟩:=tbls b _ e1
   exact ⟨m1++m2,by rw [e2,Array.append_assoc]⟩
 · obtain ⟨m,hn,hl⟩:=I.loc
   refine ⟨m,ns m hn,fun i x v e1 e2 e3=>?_⟩
   obtain ⟨u,r,l⟩:=hl i x v e1 e2 e3
   refine ⟨u,r,?_⟩
   rcases l with l | ⟨k,c,e,z⟩
   · exact .inl l
   · exact .inr ⟨k,c,e,cellK x c e _ z⟩
 · obtain ⟨v,z⟩:=I.cell x c e
   exact ⟨v,cellK x c e v z⟩
 · obtain ⟨m,⟨o,_,_,ho,_⟩,_⟩:=I.loc
   exact free _ o (fun z=>(hch _ z).2.1 rfl) ho I.free
 · obtain ⟨v,o,ho,hd⟩:=I.cell x c e
   exact free c o (fun z=>(hch c z).2.2.1 x c e rfl) ho (I.freeC x c e)
 · obtain ⟨e,n,ne,nf,d⟩:=I.pin p hp
   have nch:p.1∉ch:=fun z=>(hch p.1 z).2.2.2 p hp rfl
   exact ⟨keep p.1 p.2 ne nf nch e n,free p.1 p.2 nch e n,ne,nf,d⟩
theorem Inv.un {t':Nat} (I:Inv X pins σ H s) (u:Un X.fs [] H H' s.heap h') (hok:HOk X.prog X.w H' h'):Inv X pins σ H' { s with heap:=h',toks:=t' }:=by
 obtain ⟨m,⟨o,es,ep,ho,r⟩,_⟩:=id I.loc
 obtain ⟨sl,hL⟩:=u.any ho I.free (by simp)
 exact I.step (g':=s.gens) (d':=s.drawn) (ch:=[]) (fun _ z=>nomatch z) (fun b o _ hb _ e n=>u.keep b o e n hb (by simp)) (fun b o _ hb _ e n=>u.slot b o e n hb (by simp)) (fun b o _ e n=>u.free b o e n (by simp)) (fun b o _ e=>u.there b o e (by simp)) u.tups u.frzs u.tbls (fun m' hm=>by
  obtain ⟨o',es',ep',ho',r'⟩:=hm
  rw [ho] at ho';cases ho'
  exact ⟨_,es',ep',hL,r'⟩) hok I.bare
theorem Inv.call {g':Array GenState} {t':Nat} {d':Drawn} {ch:List Addr} (I:Inv X pins σ H s) (u:Un (frs X.stack) ch H H' s.heap h') (hok:HOk X.prog X.w H' h') (hg:AllBare g')
  (hch:∀ b∈ch,(b∈X.ex∨X.s₀.heap.objs.size≤b)∧b≠X.env.locals∧(∀ x c,X.env.cells.lookup x=some c→c≠b)∧∀ p∈X.pn++pins,p.1≠b):
  Inv X pins σ H' { s with heap:=h',gens:=g',drawn:=d',toks:=t' }:=by
 obtain ⟨m,⟨o,es,ep,ho,r⟩,_⟩:=id I.loc
 obtain ⟨sl,hL⟩:=u.any ho I.free fun z=>(hch _ z).2.1 rfl
 exact I.step (ch:=ch) hch (fun b o hL hb hc e n=>u.keep b o e n (fun z=>(List.mem_cons.mp (I.stkSub b z)).elim hL hb) hc) (fun b o _ _ hc e n=>u.any e n hc) (fun b o hc e n=>u.free b o e n hc) (fun b o hc e=>u.there b o e hc) u.tups u.frzs u.tbls (fun m' hm=>by
  obtain ⟨o',es',ep',ho',r'⟩:=hm
  rw [ho] at ho';cases ho'
  exact ⟨_,es',ep',hL,r'⟩) hok hg
theorem Inv.turned {t':Nat} {it:Addr} (I:Inv X pins σ H s) (k:∀ b o,b≠it→s.heap.get? b=some o→h'.get? b=some o) (hn:H it=none) (hL:it≠X.env.locals)
   (h1:it∈X.ex∨X.s₀.heap.objs.size≤it) (h2:∀ x c,X.env.cells.lookup x=some c→c≠it) (h3:∀ p∈X.pn++pins,p.1≠it):Inv X pins σ H { s with heap:=h',toks:=t' }:=by
 have nit:∀ b u,H b=some u→b≠it:=fun b u e z=>by rw [z,hn] at e;cases e
 refine I.step (g':=s.gens) (d':=s.drawn) (ch:=[it]) (fun b hb=>?_) (fun b o _ _ hc e _=>k b o (fun z=>hc (by simp [z])) e) (fun b o _ _ hc e _=>⟨o.slots,k b o (fun z=>hc (by simp [z])) e⟩) (fun _ _ _ _ n=>n)
   (fun b o hc e=>⟨o,k b o (fun z=>hc (by simp [z])) e⟩) (fun _ _ e=>e) (fun _ _ _ e=>e) (fun b ps e=>⟨#[],by rw [e];simp⟩) (fun m hm=>?_) (fun b u e=>?_) I.bare
 · have e:b=it:=by simpa using hb
   subst e
   exact ⟨h1,hL,h2,h3⟩
 · obtain ⟨o,es,ep,ho,r⟩:=hm
   exact ⟨o,es,ep,k _ o (Ne.symm hL) ho,r⟩
 · refine (I.hok b u e).stay (fun c v hc q=>k c v ?_ q) (fun _ q=>q) fun _ _ q=>q
   rcases hc with z | z
   · rw [z];exact nit b u e
   · exact nit c _ z
theorem Inv.tok (I:Inv X pins σ H s) (t:Nat):Inv X pins σ H { s with toks:=t }:=I.un (h':=s.heap) (t':=t) Un.refl I.hok
theorem Inv.kept {t':Nat} (I:Inv X pins σ H s) (k:∀ b u,s.heap.get? b=some u→h'.get? b=some u):Inv X pins σ H { s with heap:=h',toks:=t' }:=I.un (Un.kept k) (I.hok.kept k)
theorem Inv.laid {a:Addr} {o:HO} {t':Nat} (I:Inv X pins σ H s) (k:∀ b u,s.heap.get? b=some u→h'.get? b=some u) (hp:s.heap.objs.size≤a) (new:aQ X.prog X.w (upd H a o) h' a o):
 Inv X pins σ (upd H a o) { s with heap:=h',toks:=t' }:=I.un (Un.laid k hp (I.hok.fresh hp)) (I.hok.laid k hp new)
theorem Inv.write {x e:Addr} {o:HO} {t':Nat} (I:Inv X pins σ H s) (mu:Mut (H x)) (he:e=x∨H e=some (.own x)) (k:∀ b u,b≠e→s.heap.get? b=some u→h'.get? b=some u) (heo:∃ u,h'.get? e=some u)
 (new:aQ X.prog X.w (upd H x o) h' x o):Inv X pins σ (upd H x o) { s with heap:=h',toks:=t' }:=I.un (Un.write mu he k heo) (I.hok.write mu he k heo new)
theorem Inv.pins_of {pins':List (Addr×Obj)} (I:Inv X pins σ H s) (h:∀ p∈pins',s.heap.get? p.1=some p.2∧H p.1=none∧p.1≠X.env.locals∧p.1∉X.fs∧∀ v,p.2.data≠ .cell v):Inv X pins' σ H s:=
 ⟨I.ok,I.os,I.bare,I.base,I.loc,I.cell,I.free,I.freeC,fun p hp=>(List.mem_append.mp hp).elim (fun z=>I.pin p (List.mem_append_left _ z)) (h p),I.hok,I.len⟩
theorem nA {N:List Str} (hN:N.Nodup) {i j:Nat} {x:Str} (a:N[i]?=some x) (b:N[j]?=some x):i=j:=by
 obtain ⟨h1,e1⟩:=List.getElem?_eq_some_iff.mp a
 obtain ⟨h2,e2⟩:=List.getElem?_eq_some_iff.mp b
 exact (List.getElem_inj hN).mp (e1.trans e2.symm)
theorem iO {M:Model} {A:Around} {E:Value→Shared→Prop} {i:Nat} {x:Str} {v:V} {u:Value} {Q:Unit→Shared→Prop} (I:Inv X pins σ H s) (hN:X.N.Nodup) (hi:X.N[i]?=some x) (hx:Loc X.env.scope x) (r:aE v u)
   (h:∀ s',Inv X pins (σ.set i (some v)) H s'→(∃ a,Heap.SameBut a s.heap s'.heap∧(a=X.env.locals∨X.env.cells.lookup x=some a))→Q () s') (hf:X.fn x=true∨X.env.scope.names.lookup x=some .local:=by first | exact .inl rfl | exact .inr rfl | assumption):wpAny M A (storeName X.env x u) Q E s:=by
 obtain ⟨m,hn,hl⟩:=id I.loc
 have hcls:(X.env.scope.kind==.class||(X.env.scope.kind==.module&&X.env.locals !=X.env.globals))=false:=by rw [I.ok.kind];rfl
 have hiσ:i<σ.length:=by rw [I.len];exact (List.getElem?_eq_some_iff.mp hi).1
 have cne:=I.cne
 have tracked:∀ {a:Addr} {h':Heap},(∃ o,s.heap.get? a=some o∧H a=none)→Heap.SameBut a s.heap h'→HOk X.prog X.w H h':=fun {a h'} ha hs b ob e=>by
   obtain ⟨_,_,hfree⟩:=ha
   refine (I.hok b ob e).stay (fun c w' hc q=>(hs.2 c ?_).trans q) (fun _ q=>q) fun _ _ q=>q
   rintro rfl
   rcases hc with rfl | hc
   · rw [hfree] at e;cases e
   · rw [hfree] at hc;cases hc
 rcases hx with hk | hk
 · refine wpAny_storeName_local hk hn (fun h' hn' hs=>?_) hcls
   obtain ⟨oL,_,_,hoL,_⟩:=id hn
   refine h _ ⟨I.ok,I.os,I.bare,⟨fun b o e n hb hx=>?_,fun b o e n hb hx=>?_,I.base.free,fun b o e hx=>?_,I.base.tups,I.base.frzs,I.base.tbls⟩,⟨_,hn',fun j y v' e1 e2 e3=>?_⟩,fun y c e=>?_,I.free,I.freeC,fun p hp=>?_,tracked ⟨oL,hoL,I.free⟩ hs,by simpa using I.len⟩ ⟨_,hs,.inl rfl⟩
   · exact (hs.2 b (Nat.ne_of_lt (Nat.lt_of_lt_of_le (Heap.lt_size e) I.ok.above))).trans (I.base.keep b o e n hb hx)
   · obtain ⟨sl,e1⟩:=I.base.slot b o e n hb hx
     exact ⟨sl,(hs.2 b (Nat.ne_of_lt (Nat.lt_of_lt_of_le (Heap.lt_size e) I.ok.above))).trans e1⟩
   · obtain ⟨o',e1⟩:=I.base.there b o e hx
     exact ⟨o',(hs.2 b (Nat.ne_of_lt (Nat.lt_of_lt_of_le (Heap.lt_size e) I.ok.above))).trans e1⟩
   · by_cases hj:j=i
     · subst hj
       rw [hi] at e1;cases e1
       rw [List.getElem?_set_self hiσ] at e2
       cases e2
       exact ⟨u,r,.inl ⟨hk,by simp⟩⟩
     · rw [List.getElem?_set_ne (Ne.symm hj)] at e2
       obtain ⟨u',r',q⟩:=hl j y v' e1 e2 e3
       refine ⟨u',r',?_⟩
       rcases q with ⟨k,e⟩ | ⟨k,c,e,z⟩
       · refine .inl ⟨k,?_⟩
         have:y≠x:=fun e=>hj (nA hN e1 (e▸hi))
         simp [this,e]
       · exact .inr ⟨k,c,e,z.sameBut hs (cne y c e)⟩
   · obtain ⟨w',z⟩:=I.cell y c e
     exact ⟨w',z.sameBut hs (cne y c e)⟩
   · obtain ⟨e,n,ne,nf,d⟩:=I.pin p hp
     exact ⟨(hs.2 p.1 ne).trans e,n,ne,nf,d⟩
 · have hfn:X.fn x=true:=by
     rcases hf with z | z
     · exact z
     · rw [z] at hk;cases hk
   obtain ⟨c,hc⟩:=I.ok.has x (.inl hk)
   obtain ⟨w',z⟩:=I.cell x c hc
   refine wpAny_storeName_cell I.ok.kind hk hc z (fun h' hc' hs=>?_)
   obtain ⟨oc,hoc,hocd⟩:=id z
   refine h { s with heap:=h' } ⟨I.ok,I.os,I.bare,⟨fun b o e n hb hx=>?_,fun b o e n hb hx=>?_,I.base.free,fun b o e hx=>?_,I.base.tups,I.base.frzs,I.base.tbls⟩,⟨m,hn.sameBut hs (Ne.symm (cne x c hc)),fun j y v' e1 e2 e3=>?_⟩,fun y c' e=>?_,I.free,I.freeC,fun p hp=>?_,tracked ⟨oc,hoc,I.freeC x c hc⟩ hs,by simpa using I.len⟩ ⟨c,hs,.inr hc⟩
   · exact (hs.2 b (Nat.ne_of_lt (Nat.lt_of_lt_of_le (Heap.lt_size e) (I.ok.cab x c hfn hc)))).trans (I.base.keep b o e n hb hx)
   · obtain ⟨sl,e1⟩:=I.base.slot b o e n hb hx
     exact ⟨sl,(hs.2 b (Nat.ne_of_lt (Nat.lt_of_lt_of_le (Heap.lt_size e) (I.ok.cab x c hfn hc)))).trans e1⟩
   · obtain ⟨o',e1⟩:=I.base.there b o e hx
     exact ⟨o',(hs.2 b (Nat.ne_of_lt (Nat.lt_of_lt_of_le (Heap.lt_size e) (I.ok.cab x c hfn hc)))).trans e1⟩
   · by_cases hj:j=i
     · subst hj
       rw [hi] at e1;cases e1
       rw [List.getElem?_set_self hiσ] at e2
       cases e2
       exact ⟨u,r,.inr ⟨.inl hk,c,hc,hc'⟩⟩
     · rw [List.getElem?_set_ne (Ne.symm hj)] at e2
       obtain ⟨u',r',q⟩:=hl j y v' e1 e2 e3
       refine ⟨u',r',?_⟩
       rcases q with q | ⟨k,c',e,z'⟩
       · exact .inl q
       · refine .inr ⟨k,c',e,z'.sameBut hs ?_⟩
         rintro rfl
         exact hj (nA hN e1 (I.ok.inj _ _ _ e hc▸hi))
   · by_cases hcc:c'=c
     · subst hcc;exact ⟨_,hc'⟩
     · obtain ⟨w2,z2⟩:=I.cell y c' e
       exact ⟨w2,z2.sameBut hs hcc⟩
   · obtain ⟨e,n,ne,nf,d⟩:=I.pin p hp
     refine ⟨(hs.2 p.1 ?_).trans e,n,ne,nf,d⟩
     intro q
     rw [q,hoc] at e
     have q':oc=p.2:=Option.some.inj e
     exact d w' (by rw [← q'];exact hocd)
theorem jv {M:Model} {A:Around} {E:Value→Shared→Prop} {i:Nat} {x:Str} {v:V} {u:Value} {Q:Unit→Shared→Prop} (I:Inv X pins σ H s) (hN:X.N.Nodup) (hi:X.N[i]?=some x) (hx:Loc X.env.scope x) (r:aE v u)
  (h:∀ s',Inv X pins (σ.set i (some v)) H s'→Q () s') (hf:X.fn x=true∨X.env.scope.names.lookup x=some .local:=by first | exact .inl rfl | exact .inr rfl | assumption):wpAny M A (storeName X.env x u) Q E s:=
 iO I hN hi hx r (fun s' I' _=>h s' I') hf
theorem Inv.call' {s':Shared} {ch:List Addr} (I:Inv X pins σ H s) (ho:s'.os=s.os) (u:Un (frs X.stack) ch H H' s.heap s'.heap) (hok:HOk X.prog X.w H' s'.heap) (hg:AllBare s'.gens)
  (hch:∀ b∈ch,(b∈X.ex∨X.s₀.heap.objs.size≤b)∧b≠X.env.locals∧(∀ x c,X.env.cells.lookup x=some c→c≠b)∧∀ p∈X.pn++pins,p.1≠b):Inv X pins σ H' s':=by
 obtain ⟨h',g',d',t',o'⟩:=s'
 have e:o'=s.os:=ho
 subst e
 exact I.call (g':=g') (t':=t') (d':=d') u hok hg hch
end
abbrev XK:=Value→Option Addr→Hp→Prop
abbrev St:=List (Option V)
abbrev VK:=V→Hp→Prop
abbrev TE:=St→Hp→VK→Prop
abbrev TT:=St→Hp→(Bool→Hp→Prop)→Prop
abbrev TA:=St→Hp→(List V→Hp→Prop)→Prop
structure em where
 nx:St→Hp→Prop
 rt:VK
 bk:St→Hp→Prop:=fun _ _=>False
 ct:St→Hp→Prop:=fun _ _=>False
abbrev TS:=em→St→Hp→Prop
def EP (X:Cx) (pins:List (Addr×Obj)) (σ:St) (Q:VK) (u:Value) (s':Shared):Prop:=∃ v H',Inv X pins σ H' s'∧aE v u∧Q v H'
def TP (X:Cx) (pins:List (Addr×Obj)) (σ:St) (Q:Bool→Hp→Prop) (b:Bool) (s':Shared):Prop:=∃ H',Inv X pins σ H' s'∧Q b H'
def AP (X:Cx) (pins:List (Addr×Obj)) (σ:St) (Q:List V→Hp→Prop) (us:List Value) (s':Shared):Prop:=∃ vs H',Inv X pins σ H' s'∧aG vs us∧Q vs H'
def SP (X:Cx) (pins:List (Addr×Obj)) (D:em) (f:Flow) (s':Shared):Prop:=
 match f with
 | .next=>∃ σ' H',Inv X pins σ' H' s'∧D.nx σ' H'
 | .brk=>∃ σ' H',Inv X pins σ' H' s'∧D.bk σ' H'
 | .cont=>∃ σ' H',Inv X pins σ' H' s'∧D.ct σ' H'
 | .ret u=>∃ v σ' H',Inv X pins σ' H' s'∧aE v u∧D.rt v H'
def PE (X:Cx) (e:Expr) (t:TE):Prop:=
 ∀ (pins:List (Addr×Obj)) (s:Shared) (σ:St) (H:Hp) (Q:VK),Inv X pins σ H s→t σ H Q→wpAny (model X.prog X.w) X.A (eval e X.env) (EP X pins σ Q) X.xe s
def PT (X:Cx) (e:Expr) (t:TT):Prop:=
 ∀ (pins:List (Addr×Obj)) (s:Shared) (σ:St) (H:Hp) (Q:Bool→Hp→Prop),Inv X pins σ H s→t σ H Q→wpAny (model X.prog X.w) X.A (isTrue e X.env (eval e X.env)) (TP X pins σ Q) X.xe s
def PW (X:Cx) (e:Expr) (t:TT):Prop:=
 ∀ (whole:Sem Value) (pins:List (Addr×Obj)) (s:Shared) (σ:St) (H:Hp) (Q:Bool→Hp→Prop),Inv X pins σ H s→t σ H Q→wpAny (model X.prog X.w) X.A (isTrue e X.env whole) (TP X pins σ Q) X.xe s
theorem PW.pt {X:Cx} {e:Expr} {t:TT} (h:PW X e t):PT X e t:=h _
def PA (X:Cx) (es:List Expr) (t:TA):Prop:=
 ∀ (pos:Pos) (pins:List (Addr×Obj)) (s:Shared) (σ:St) (H:Hp) (Q:List V→Hp→Prop),Inv X pins σ H s→t σ H Q→wpAny (model X.prog X.w) X.A (spliced (backTo pos (starEach es X.env))) (AP X pins σ Q) X.xe s
def PS (X:Cx) (st:Stmt) (t:TS):Prop:=
 ∀ (pins:List (Addr×Obj)) (s:Shared) (σ:St) (H:Hp) (D:em),Inv X pins σ H s→t D σ H→wpAny (model X.prog X.w) X.A (exec st X.env) (SP X pins D) X.xe s
def PSs (X:Cx) (st:List Stmt) (t:TS):Prop:=
 ∀ (pins:List (Addr×Obj)) (s:Shared) (σ:St) (H:Hp) (D:em),Inv X pins σ H s→t D σ H→wpAny (model X.prog X.w) X.A (execs st X.env) (SP X pins D) X.xe s
theorem thn {α:Type} {t:Sem α} {Q Q':α→Shared→Prop} {M:Model} {A:Around} {E:Value→Shared→Prop} {s:Shared} (h:wpAny M A t Q E s) (hQ:∀ a s,Q a s→Q' a s):wpAny M A t Q' E s:=wpAny_mono h hQ fun _ _ x=>x
section
variable {X:Cx}
def ES (i:Nat):TE:=fun σ H Q=>∃ v,σ[i]?=some (some v)∧Q v H
def tC (v:V):TE:=fun _ H Q=>Q v H
theorem AQ {i:Nat} {x:Str} {pos:Pos} (hN:X.N[i]?=some x) (hv:Vis X.env.scope x) (hd:(x==("__debug__" :Str))=false:=by decide) (hcd:(x==("__classdict__" :Str))=false:=by decide):PE X (.Name x pos) (ES i):=by
 intro pins s σ H Q I h
 obtain ⟨v,e,h⟩:=h
 obtain ⟨m,hn,hl⟩:=I.loc
 obtain ⟨u,r,l⟩:=hl i x v hN e hv
 have fin:EP X pins σ Q u s:=⟨v,H,I,r,h⟩
 rcases l with ⟨hk,hm⟩ | ⟨hk,c,hc,hcell⟩
 · exact wpAny_Name (wpAny_loadName_local I.ok.kind hk hn hm fin) hd
 · rcases hk with hk | hk
   · exact wpAny_Name (wpAny_loadName_cell I.ok.kind hk hc hcell fin) hd
   · exact wpAny_Name (wpAny_loadName_free I.ok.kind hk hc hcell fin hcd) hd
theorem Bi {i j pos}:PE X (.Constant (.int i) j pos) (tC (.int i)):=fun _ _ _ H _ I h=>wpAny_Constant_int ⟨.int i,H,I.tok _,⟨_,rfl⟩,h⟩
theorem DX {b j pos}:PE X (.Constant (.bool b) j pos) (tC (.bl b)):=fun _ _ _ H _ I h=>Constant_bool ⟨.bl b,H,I,rfl,h⟩
theorem zR {j pos}:PE X (.Constant .none j pos) (tC .non):=fun _ _ _ H _ I h=>Constant_none ⟨.non,H,I,rfl,h⟩
theorem Bz {x j pos}:PE X (.Constant (.str x) j pos) (tC (.str x)):=fun _ _ _ H _ I h=>Calls.Constant_str ⟨.str x,H,I.tok _,⟨_,rfl⟩,h⟩
def Gl (X:Cx) (x:Str):Prop:=X.env.kindOf x=some .globalImplicit
theorem gj {E:Value→Shared→Prop} {pins:List (Addr×Obj)} {s:Shared} {σ:St} {H:Hp} {x:Str} {u:Value} {pos:Pos} {Q:Value→Shared→Prop} (I:Inv X pins σ H s) (hg:Gl X x) (hm:X.mg x=some u) (h:Q u s)
  (hd:(x==("__debug__" :Str))=false:=by decide):wpAny (model X.prog X.w) X.A (eval (.Name x pos) X.env) Q E s:=
 Calls.Name_function_global I.ok.kind hg (Calls.loadGlobal_global (by rw [I.ok.glob];exact I.mod.glob.keeps I.bk) hm h) hd
theorem gk {E:Value→Shared→Prop} {pins:List (Addr×Obj)} {s:Shared} {σ:St} {H:Hp} {x:Str} {u:Value} {pos:Pos} {Q:Value→Shared→Prop} (I:Inv X pins σ H s) (hg:Gl X x) (hm:X.mg x=none) (hv:bootBuiltins x=some u) (h:Q u s)
  (hn:x≠ "__name__" :=by decide) (hd:(x==("__debug__" :Str))=false:=by decide):wpAny (model X.prog X.w) X.A (eval (.Name x pos) X.env) Q E s:=by
 obtain ⟨mb,h1,h2⟩:=I.mod.blt
 exact Calls.Name_function_global I.ok.kind hg (Calls.loadGlobal_builtin (by rw [I.ok.glob];exact I.mod.glob.keeps I.bk) hm (by rw [I.ok.blt];exact h1.keeps I.bk) ((h2 x hn).trans hv) h) hd
theorem lI {x:Str} {v:V} {u:Value} {pos:Pos} (hg:Gl X x) (hm:X.mg x=some u) (r:aE v u) (hd:(x==("__debug__" :Str))=false:=by decide):PE X (.Name x pos) (tC v):=
 fun _ _ _ H _ I h=>gj I hg hm ⟨v,H,I,r,h⟩ hd
theorem yG {x:Str} {v:V} {u:Value} {pos:Pos} (hg:Gl X x) (hm:X.mg x=none) (hv:bootBuiltins x=some u) (r:aE v u) (hn:x≠ "__name__" :=by decide) (hd:(x==("__debug__" :Str))=false:=by decide):PE X (.Name x pos) (tC v):=
 fun _ _ _ H _ I h=>gk I hg hm hv ⟨v,H,I,r,h⟩ hn hd
variable {a b:Expr} {ta tb:TE} {pos:Pos}
variable {tA tB':TT} {bv:List Expr}
def cI (t:TT):TT:=fun σ H Q=>t σ H fun c H1=>Q (!c) H1
theorem zg (ha:PT X a tA):PW X (.BoolOp .And [a] pos) tA:=by
 intro wh pins s σ H Q I h
 refine isTrue_and (thn (ha pins s σ H Q I h) fun c s1 e=>?_)
 cases c with
 | true=>exact isTrue_and_nil e
 | false=>exact e
theorem AU (ha:PT X a tA):PW X (.BoolOp .Or [a] pos) tA:=by
 intro wh pins s σ H Q I h
 refine isTrue_or (thn (ha pins s σ H Q I h) fun c s1 e=>?_)
 cases c with
 | false=>exact isTrue_or_nil e
 | true=>exact e
theorem AI (ha:PT X a tA):PT X (.UnaryOp .Not a pos) (cI tA):=by
 intro pins s σ H Q I h
 exact isTrue_not (ha pins s σ H (fun c H1=>Q (!c) H1) I h)
theorem Bw {op} {t:TE} (h:PE X a t):PE X (.BoolOp op [a] pos) t:=fun pins s σ H Q I hw=>BoolOp_one (h pins s σ H Q I hw)
end
def SqL (K:W.Frag) (H:Hp) (a:Addr) (xs:List V):Prop:=
 Rd H a (.lst xs)∨
  ∃ (o:Obj) (its:Array Value) (n:Nat),K.lookup a=some o∧o.cls=.type "list" ∧o.dict=none∧o.data=.seq its n∧its.size≤sizeLine∧aG xs its.toList
def SqT (K:W.Frag) (H:Hp) (a:Addr) (xs:List V):Prop:=
 Rd H a (.tup xs)∨
  ∃ (o:Obj) (its:Array Value) (n:Nat),K.lookup a=some o∧o.cls=.type "tuple" ∧o.data=.seq its n∧its.size≤sizeLine∧aG xs its.toList
def Gk:Value→Option V
 | .none=>some .non
 | .bool b=>some (.bl b)
 | .int i _=>some (.int i)
 | .str x _=>some (.str x)
 | .bytes b _=>some (.byt b)
 | .float b _=>some (.flt b)
 | .ref a=>some (.ref a)
 | .type n=>some (.ty n)
 | _=>none
theorem aE.abs {x:V} {u:Value} (r:aE x u):Gk u=some x:=by
 cases x with
 | non=>cases r;rfl
 | bl _=>cases r;rfl
 | int _=>obtain ⟨t,rfl⟩:=r;rfl
 | str _=>obtain ⟨t,rfl⟩:=r;rfl
 | byt _=>obtain ⟨t,rfl⟩:=r;rfl
 | flt _=>obtain ⟨t,rfl⟩:=r;rfl
 | ref _=>cases r;rfl
 | ty _=>cases r;rfl
theorem aE.inj {x y:V} {u:Value} (r:aE x u) (q:aE y u):x=y:=Option.some.inj (r.abs.symm.trans q.abs)
theorem aG.inj:∀ {xs ys:List V} {us:List Value},aG xs us→aG ys us→xs=ys
 | _,_,_,.nil,.nil=>rfl
 | _,_,_,.cons r t,.cons r' t'=>by rw [r.inj r',aG.inj t t']
section
variable {X:Cx} {pins:List (Addr×Obj)} {σ:St} {H:Hp} {s:Shared} {a:Addr} {xs ys:List V}
theorem SqL.of {K:W.Frag} (h:H a=some (.lst xs)):SqL K H a xs:=.inl (.inl h)
theorem SqT.of {K:W.Frag} (h:H a=some (.tup xs)):SqT K H a xs:=.inl (.inl h)
theorem Inv.list (I:Inv X pins σ H s) (h:SqL X.K H a xs):∃ its:List Value,aG xs its∧PlainL s.heap a its.toArray∧xs.length≤sizeLine:=by
 rcases h with h | ⟨o,its,n,hk,hc,hd,hs,hz,r⟩
 · obtain ⟨z,its,n,r,e⟩:=h.ok I.hok
   exact ⟨its,r,⟨_,n,e,rfl,rfl,rfl⟩,z⟩
 · refine ⟨its.toList,r,⟨o,n,I.kIn a o hk,hc,hd,by simpa using hs⟩,?_⟩
   have e:=r.length
   simp only [Array.length_toList] at e
   omega
theorem Inv.tuple (I:Inv X pins σ H s) (h:SqT X.K H a xs):∃ its:List Value,aG xs its∧IsTup s.heap a its.toArray∧xs.length≤sizeLine:=by
 rcases h with h | ⟨o,its,n,hk,hc,hs,hz,r⟩
 · obtain ⟨z,its,r,p⟩:=h.ok I.hok
   exact ⟨its,r,p,z⟩
 · refine ⟨its.toList,r,⟨o,I.kIn a o hk,hc,n,by simpa using hs⟩,?_⟩
   have e:=r.length
   simp only [Array.length_toList] at e
   omega
theorem Inv.list_inj (I:Inv X pins σ H s) (h:SqL X.K H a xs) (h':SqL X.K H a ys):xs=ys:=by
 obtain ⟨its,r,⟨o,n,e,_,_,d⟩,_⟩:=I.list h
 obtain ⟨its',r',⟨o',n',e',_,_,d'⟩,_⟩:=I.list h'
 rw [e] at e';cases e'
 rw [d] at d'
 injection d' with d1 _
 have:its=its':=by simpa using congrArg Array.toList d1
 subst this
 exact r.inj r'
theorem Inv.tuple_inj (I:Inv X pins σ H s) (h:SqT X.K H a xs) (h':SqT X.K H a ys):xs=ys:=by
 obtain ⟨its,r,⟨o,e,_,n,d⟩,_⟩:=I.tuple h
 obtain ⟨its',r',⟨o',e',_,n',d'⟩,_⟩:=I.tuple h'
 rw [e] at e';cases e'
 rw [d] at d'
 injection d' with d1 _
 have:its=its':=by simpa using congrArg Array.toList d1
 subst this
 exact r.inj r'
end
abbrev Cx.wish (X:Cx) (E:Value→Shared→Prop):Cx:={ X with xe:=E }
abbrev Cx.nox (X:Cx):Cx:=X.wish fun _ _=>False
theorem Cx.Ok.wish {X:Cx} (ok:X.Ok) (E:Value→Shared→Prop):(X.wish E).Ok:=
 ⟨ok.mod,ok.kind,ok.glob,ok.blt,ok.above,ok.inj,ok.has,ok.cab,ok.hd,ok.frames,ok.stk,ok.exf,ok.bs,ok.bsz,ok.noex,ok.exfs,ok.funs,ok.frf⟩
theorem Cx.Ok.unwish {X:Cx} {E:Value→Shared→Prop} (ok:(X.wish E).Ok):X.Ok:=
 ⟨ok.mod,ok.kind,ok.glob,ok.blt,ok.above,ok.inj,ok.has,ok.cab,ok.hd,ok.frames,ok.stk,ok.exf,ok.bs,ok.bsz,ok.noex,ok.exfs,ok.funs,ok.frf⟩
section
variable {X:Cx} {pins:List (Addr×Obj)} {σ:St} {H:Hp} {s:Shared} {E:Value→Shared→Prop}
theorem Inv.wish (I:Inv X pins σ H s) (E:Value→Shared→Prop):Inv (X.wish E) pins σ H s:=⟨I.ok.wish E,I.os,I.bare,I.base,I.loc,I.cell,I.free,I.freeC,I.pin,I.hok,I.len⟩
theorem Inv.unwish (I:Inv (X.wish E) pins σ H s):Inv X pins σ H s:=⟨I.ok.unwish,I.os,I.bare,I.base,I.loc,I.cell,I.free,I.freeC,I.pin,I.hok,I.len⟩
theorem SP.unwish {D:em} {f:Flow} {s':Shared} (h:SP (X.wish E) pins D f s'):SP X pins D f s':=by
 cases f with
 | next=>obtain ⟨σ',H',I,q⟩:=h;exact ⟨σ',H',I.unwish,q⟩
 | brk=>obtain ⟨σ',H',I,q⟩:=h;exact ⟨σ',H',I.unwish,q⟩
 | cont=>obtain ⟨σ',H',I,q⟩:=h;exact ⟨σ',H',I.unwish,q⟩
 | ret u=>obtain ⟨v,σ',H',I,r,q⟩:=h;exact ⟨v,σ',H',I.unwish,r,q⟩
theorem PE.nox {e:Expr} {t:TE} (h:PE X.nox e t):PE X e t:=fun pins s σ H Q I hw=>
 wpAny_mono (h pins s σ H Q (I.wish _) hw) (fun _ _ ⟨v,H',I',r,q⟩=>⟨v,H',I'.unwish,r,q⟩) fun _ _ z=>False.elim z
theorem PSs.nox {st:List Stmt} {t:TS} (h:PSs X.nox st t):PSs X st t:=fun pins s σ H D I hw=>
 wpAny_mono (h pins s σ H D (I.wish _) hw) (fun _ _ q=>q.unwish) fun _ _ z=>False.elim z
end
section
variable {X:Cx} {st:Stmt} {bv:List Stmt} {t u:TS} {e:Expr} {te:TE} {pos:Pos}
def aY:TS:=fun D σ H=>D.nx σ H
def aw (t u:TS):TS:=fun D σ H=>t { D with nx:=u D } σ H
theorem yL:PSs X [] aY:=fun _ _ σ H _ I h=>wpAny_execs_nil ⟨σ,H,I,h⟩
theorem vR (h1 : PS X st t) (h2 : PSs X bv u) : PSs X (st :: bv) (aw t u) := by
  intro pins s σ H D I h
  refine wpAny_execs_cons (thn (h1 pins s σ H { D with nx := u D } I h) fun f s1 q => ?_)
  cases f with
  | next =>
    obtain ⟨σ', H', I', q⟩ := q
    exact h2 pins s1 σ' H' D I' q
  | ret v => exact q
  | brk => exact q
  | cont => exact q
theorem yF (h1:PS X st t):PSs X [st] t:=by
 intro pins s σ H D I h
 refine wpAny_execs_cons (thn (h1 pins s σ H D I h) fun f s1 q=>?_)
 cases f with
 | next=>exact wpAny_execs_nil q
 | ret v=>exact q
 | brk=>exact q
 | cont=>exact q
theorem Inv.quiet {pins:List (Addr×Obj)} {σ:St} {H:Hp} {s:Shared} (I:Inv X pins σ H s):interactive X.env=false:=by simp [interactive,I.ok.kind]
def fJ (te:TE):TS:=fun D σ H=>te σ H fun _ H1=>D.nx σ H1
theorem yw (he:PE X e te) (hs:swapsWith e none pos.line X.env=pure false:=by rfl):PS X (.Expr e pos) (fJ te):=by
 intro pins s σ H D I h
 exact wpAny_Expr_any (thn (he pins s σ H _ I h) fun v s1 ⟨x,H1,I1,r1,q1⟩=>⟨σ,H1,I1,q1⟩) I.quiet hs
def aJ (te:TE):TS:=fun D σ H=>te σ H D.rt
theorem AL (he:PE X e te):PS X (.Return (some e) pos) (aJ te):=by
 intro pins s σ H D I h
 exact wpAny_Return_some (thn (he pins s σ H _ I h) fun v s1 ⟨x,H1,I1,r1,q1⟩=>⟨x,σ,H1,I1,r1,q1⟩)
def jX:TS:=fun _ _ _=>False
theorem vP:PS X st jX:=fun _ _ _ _ _ _ h=>h.elim
end
abbrev TG:=V→St→Hp→(St→Hp→Prop)→Prop
abbrev TGs:=List V→St→Hp→(St→Hp→Prop)→Prop
def PG (X:Cx) (target:Expr) (t:TG):Prop:=
 ∀ (pins:List (Addr×Obj)) (s:Shared) (σ:St) (H:Hp) (v:V) (u:Value) (Q:St→Hp→Prop),Inv X pins σ H s→aE v u→t v σ H Q→
  wpAny (model X.prog X.w) X.A (assign target X.env u) (fun _ s'=>∃ σ' H',Inv X pins σ' H' s'∧Q σ' H') X.xe s
def PGs (X:Cx) (ts:List Expr) (t:TGs):Prop:=
 ∀ (pins:List (Addr×Obj)) (s:Shared) (σ:St) (H:Hp) (vs:List V) (us:List Value) (Q:St→Hp→Prop),Inv X pins σ H s→aG vs us→t vs σ H Q→
  wpAny (model X.prog X.w) X.A (assignInOrder ((assignEach ts X.env).map (·.2)) us) (fun _ s'=>∃ σ' H',Inv X pins σ' H' s'∧Q σ' H') X.xe s
abbrev vb:=V→V→V→Hp→(Hp→Prop)→Prop
def rq (X:Cx) (t:vb):Prop:=
 ∀ (pins:List (Addr×Obj)) (s:Shared) (σ:St) (H:Hp) (o i v:V) (ov iv u:Value) (Q:Hp→Prop),Inv X pins σ H s→aE o ov→aE i iv→aE v u→t o i v H Q→
  wpAny (model X.prog X.w) X.A (setItem ov iv u) (fun _ s'=>∃ H',Inv X pins σ H' s'∧Q H') X.xe s
section
variable {X:Cx} {pos:Pos}
def av (i:Nat):TG:=fun v σ H Q=>Q (σ.set i (some v)) H
theorem gc {i:Nat} {x:Str} (hN:X.N.Nodup) (hi:X.N[i]?=some x) (hx:Loc X.env.scope x) (hf:X.fn x=true∨X.env.scope.names.lookup x=some .local:=by first | exact .inl rfl | exact .inr rfl | assumption):PG X (.Name x pos) (av i):=by
 intro pins s σ H v u Q I r h
 exact wpAny_assign_Name (jv I hN hi hx r (fun s' I'=>⟨_,H,I',h⟩) hf)
def lD:TGs:=fun vs σ H Q=>vs=[]∧Q σ H
def el (t:TG) (u:TGs):TGs:=fun vs σ H Q=>∃ v r,vs=v::r∧t v σ H fun σ' H'=>u r σ' H' Q
theorem pZ:PGs X [] lD:=by
 intro pins s σ H vs us Q I r h
 obtain ⟨e,h⟩:=h
 subst e
 cases r
 exact assignInOrder_nil ⟨σ,H,I,h⟩
theorem ib {e : Expr} {es : List Expr} {t : TG} {u : TGs} (h1 : PG X e t) (h2 : PGs X es u)
    (hs : (assignEach (e :: es) X.env).map (·.2) = assign e X.env :: (assignEach es X.env).map (·.2) := by rfl) : PGs X (e :: es) (el t u) := by
  intro pins s σ H vs us Q I r h
  obtain ⟨v, vr, e1, h⟩ := h
  subst e1
  cases r with
  | cons r rr =>
    rw [hs]
    refine assignInOrder_cons (thn (h1 pins s σ H _ _ _ I r h) fun _ s1 ⟨σ1, H1, I1, q1⟩ => ?_)
    exact h2 pins s1 σ1 H1 _ _ Q I1 rr q1
def lu (K:W.Frag) (n:Nat) (t:TGs):TG:=fun v σ H Q=>∃ a xs,v=.ref a∧SqT K H a xs∧xs.length=n∧t xs σ H Q
theorem tu {es:List Expr} {k:Nat} {t:TGs} {n:Nat} (hc:X.calm=true) (h:PGs X es t)
  (hn:(assignEach es X.env).length=n:=by rfl) (hst:(assignEach es X.env).findIdx? (·.1)=none:=by rfl):PG X (.Tuple es k pos) (lu X.K n t):=by
 intro pins s σ H v u Q I r hw
 obtain ⟨a,xs,e1,hq,hl,hw⟩:=hw
 subst e1
 cases r
 obtain ⟨its,rv,ht,hz⟩:=I.tuple hq
 refine assign_Tuple_tuple (I.ok.hd hc) ht (by simp [hn,←hl,rv.length]) hst fun h' hx=>?_
 have I1:Inv X pins σ H { s with heap:=h' }:=I.kept (t':=s.toks) fun b o e=>hx b o (Nat.ne_of_lt (Heap.lt_size e)) e
 exact h pins _ σ H xs _ Q I1 (by simpa using rv) hw
def qL (to ti:TE) (t:vb):TG:=fun v σ H Q=>to σ H fun o H1=>ti σ H1 fun i H2=>t o i v H2 fun H3=>Q σ H3
theorem Ac {o i : Expr} {to ti : TE} {t : vb} (ho : PE X o to) (hi : PE X i ti) (hs : rq X t)
  (ha : ∀ v, assign (.Subscript o i pos) X.env v = (do
   let ov ← holding [v] (eval o X.env)
   let iv ← holding [v, ov] (eval i X.env)
   standAt pos
   holding [v, ov, iv] (setItem ov iv v)
   release [v, ov, iv] []) := by intro _; rfl) : PG X (.Subscript o i pos) (qL to ti t) := by
 intro pins s σ H v u Q I r h
 rw [ha]
 refine wpAny_bind (wpAny_holding (thn (ho pins s σ H _ I h) fun ov s1 ⟨x, H1, I1, r1, q1⟩ => ?_))
 refine wpAny_bind (wpAny_holding (thn (hi pins s1 σ H1 _ I1 q1) fun iv s2 ⟨y, H2, I2, r2, q2⟩ => ?_))
 refine wpAny_bind (wpAny_standAt (wpAny_bind (wpAny_holding (thn (hs pins s2 σ H2 x y v ov iv u _ I2 r1 r2 r q2) fun _ s3 ⟨H3, I3, q3⟩ => ?_))))
 exact wpAny_release ⟨σ, H3, I3, q3⟩
def aP (te:TE) (g:TG):TS:=fun D σ H=>te σ H fun x H1=>g x σ H1 D.nx
theorem Az {tg e:Expr} {te:TE} {g:TG} (he:PE X e te) (hg:PG X tg g) (hs:swapsWithSole [tg] e pos.line X.env=pure false:=by rfl) (hw:swappedStores [tg] e X.env=pure none:=by rfl)
  (h1:(assignEach [tg] X.env).map (·.2)=[assign tg X.env]:=by rfl):PS X (.Assign [tg] e pos) (aP te g):=by
 intro pins s σ H D I h
 refine wpAny_Assign_stores (thn (he pins s σ H _ I h) fun v s1 ⟨x,H1,I1,r1,q1⟩=>?_) hs hw
 rw [h1]
 exact thn (hg pins s1 σ H1 x v _ I1 r1 q1) fun _ s2 q=>q
theorem zZ {i:Nat} {x:Str} {e:Expr} {te:TE} {pos':Pos} (hN:X.N.Nodup) (hi:X.N[i]?=some x) (hx:Loc X.env.scope x) (he:PE X e te) (hs:swapsWith e (some (.Name x pos')) pos.line X.env=pure false:=by rfl) (hf:X.fn x=true∨X.env.scope.names.lookup x=some .local:=by first | exact .inl rfl | exact .inr rfl | assumption):
  PS X (.Assign [.Name x pos'] e pos) (aP te (av i)):=by
 intro pins s σ H D I h
 refine wpAny_Assign_Name (thn (he pins s σ H _ I h) fun v s1 ⟨y,H1,I1,r1,q1⟩=>?_) hs
 exact jv I1 hN hi hx r1 (fun s2 I2=>⟨_,H1,I2,q1⟩) hf
end
section
variable {X:Cx} {pos:Pos}
def ow (c:TT) (tb:TS):TS:=fun D σ H=>∃ W:Nat→St→Hp→Prop,(∃ m,W m σ H)∧∀ m σ H,W m σ H→
 c σ H fun b H1=>if b=true then ∃ N:St→Hp→Prop,(∀ σ' H',N σ' H'→∃ m',m'<m∧W m' σ' H')∧tb { D with nx:=N,ct:=N,bk:=D.nx } σ H1 else D.nx σ H1
theorem ui {c : Expr} {body : List Stmt} {tc : TT} {tb : TS} (hp : PassesOwn (model X.prog X.w) X.A X.env X.xe) (hc : PT X c tc) (hb : PSs X body tb) : PS X (.While c body [] pos) (ow tc tb) := by
  intro pins s σ H D I h
  obtain ⟨W, ⟨m0, w0⟩, turn⟩ := h
  refine wpAny_While (codeAny_whileLoop (fun n s' => ∃ σ' H', Inv X pins σ' H' s' ∧ W n σ' H') ?_ m0 ⟨σ, H, I, w0⟩)
  rintro n s1 ⟨σ1, H1, I1, w1⟩
  refine wpAny_passesOwn hp (thn (hc pins s1 σ1 H1 _ I1 (turn n σ1 H1 w1)) fun b s2 ⟨H2, I2, q2⟩ => ?_)
  cases b with
  | true =>
    obtain ⟨N, hN, q2⟩ := q2
    rw [if_pos rfl]
    refine wpAny_passesOwn hp (thn (hb pins s2 σ1 H2 _ I2 q2) fun f s3 q3 => ?_)
    cases f with
    | next =>
      obtain ⟨σ3, H3, I3, n3⟩ := q3
      obtain ⟨m', hm, w3⟩ := hN σ3 H3 n3
      exact ⟨m', hm, σ3, H3, I3, w3⟩
    | cont =>
      obtain ⟨σ3, H3, I3, n3⟩ := q3
      obtain ⟨m', hm, w3⟩ := hN σ3 H3 n3
      exact ⟨m', hm, σ3, H3, I3, w3⟩
    | brk => exact q3
    | ret v => exact q3
  | false =>
    rw [if_neg Bool.false_ne_true]
    exact wpAny_execs_nil ⟨σ1, H2, I2, q2⟩
end
structure It where
 go:Nat→Hp→Prop
 yld:Nat→Hp→V→Hp→Prop
 stop:Nat→Hp→Prop
def ft (X:Cx) (pins:List (Addr×Obj)) (H:Hp) (b:Addr):Prop:=
 H b=none∧b≠X.env.locals∧b∉X.fs∧(b∈X.ex∨X.s₀.heap.objs.size≤b)∧(∀ x c,X.env.cells.lookup x=some c→c≠b)∧∀ p∈X.pn++pins,p.1≠b
theorem Inv.fpOk {X:Cx} {pins:List (Addr×Obj)} {σ:St} {H H':Hp} {s:Shared} {b:Addr} (I:Inv X pins σ H s) (hb:s.heap.objs.size≤b) (hn:H' b=none):ft X pins H' b:=by
 refine ⟨hn,Nat.ne_of_gt (Nat.lt_of_lt_of_le I.lt hb),I.nofs hb,.inr (Nat.le_trans I.sz hb),fun x c e z=>?_,fun p hp z=>?_⟩
 · obtain ⟨v,q⟩:=I.cell x c e
   exact absurd (Nat.lt_of_lt_of_le q.lt (by rw [z];exact hb)) (Nat.lt_irrefl _)
 · exact absurd (Nat.lt_of_lt_of_le (Heap.lt_size (I.pin p hp).1) (by rw [z];exact hb)) (Nat.lt_irrefl _)
structure gS (P:Program) (w:World) (K:W.Frag) (tg:Expr) (J:It) (fp:List Addr) (it:Addr) (tn:Nat→Heap→Prop):Prop where
 mem:it∈fp
 obj:∀ i h,tn i h→∀ b∈fp,∃ o,h.get? b=some o∧∀ v,o.data≠ .cell v
 keep:∀ i h h',tn i h→(∀ b∈fp,∀ o,h.get? b=some o→h'.get? b=some o)→tn i h'
 item:∀ (X:Cx),X.prog=P→X.w=w→X.K=K→X.calm=true→∀ (i:Nat) (pins:List (Addr×Obj)) (s:Shared) (σ:St) (H:Hp) (E:Value→Shared→Prop),Inv X pins σ H s→(∀ b∈fp,ft X pins H b)→tn i s.heap→J.go i H→
  wpAny (model P w) X.A (pyNext (.ref it)) (fun r s1=>∃ u,r=some u∧
   wpAny (model P w) X.A (letOwnedTupleGo tg (.ref it) u) (fun _ s2=>∃ x H',Inv X pins σ H' s2∧aE x u∧J.yld i H x H'∧tn (i+1) s2.heap∧∀ b∈fp,H' b=none) E s1) E s
 done:∀ (X:Cx),X.prog=P→X.w=w→X.K=K→X.calm=true→∀ (i:Nat) (pins:List (Addr×Obj)) (s:Shared) (σ:St) (H:Hp) (E:Value→Shared→Prop),Inv X pins σ H s→(∀ b∈fp,ft X pins H b)→tn i s.heap→J.stop i H→
  wpAny (model P w) X.A (pyNext (.ref it)) (fun r s1=>r=none∧Inv X pins σ H s1) E s
 self:∀ (A:Around) (i:Nat) (s:Shared) (Q:Value→Shared→Prop) (E:Value→Shared→Prop),tn i s.heap→Q (.ref it) s→wpAny (model P w) A (pyIter (.ref it)) Q E s
abbrev TI:=St→Hp→(It→Hp→Prop)→Prop
def PIE (X:Cx) (pins:List (Addr×Obj)) (σ:St) (tg:Expr) (R:It→Hp→Prop) (itv:Value) (s2:Shared):Prop:=
 ∃ (it:Addr) (fp:List Addr) (tn:Nat→Heap→Prop) (J:It) (H':Hp),itv=.ref it∧Inv X pins σ H' s2∧gS X.prog X.w X.K tg J fp it tn∧tn 0 s2.heap∧(∀ b∈fp,ft X pins H' b)∧R J H'
def PI (X:Cx) (tg iter:Expr) (wi:TI):Prop:=
 ∀ (pins:List (Addr×Obj)) (s:Shared) (σ:St) (H:Hp) (R:It→Hp→Prop),Inv X pins σ H s→wi σ H R→
  wpAny (model X.prog X.w) X.A (eval iter X.env) (fun v s1=>wpAny (model X.prog X.w) X.A (pyIter v) (PIE X pins σ tg R) X.xe s1) X.xe s
theorem mx {M : Model} {A : Around} {E : Value → Shared → Prop} {s : Shared} {tg : Expr} {it : Addr} {u : Value} {o : Obj} {n : String} {vs : Array Value} {Q : Unit → Shared → Prop} (ho : s.heap.get? it = some o) (hc : o.cls = .type n) (hd : o.data = .fields vs)
    (hn : ["enumerate", "zip", "dict_itemiterator", "dict_reverseitemiterator", "odict_iterator", "itertools.zip_longest", "itertools.pairwise"].contains n = false) (hQ : Q () s) : wpAny M A (letOwnedTupleGo tg (.ref it) u) Q E s := by
  unfold letOwnedTupleGo
  cases tg <;> first
    | exact wpAny_pure hQ
    | (cases u <;> first
        | exact wpAny_pure hQ
        | (refine wpAny_bind (wpAny_load ho ?_)
           rw [hc, hd]
           show wpAny M A (if (["enumerate", "zip", "dict_itemiterator", "dict_reverseitemiterator", "odict_iterator", "itertools.zip_longest", "itertools.pairwise"].contains n && vs[0]? == some (rawInt _)) = true then _ else _) Q E s
           rw [if_neg (by intro h; rw [hn, Bool.false_and] at h; cases h)]
           exact wpAny_pure hQ))
def Itl (K:W.Frag) (a:Addr):It:=
 ⟨fun i H=>∃ xs x,SqL K H a xs∧xs[i]?=some x,fun i H x H'=>H'=H∧∀ xs,SqL K H a xs→xs[i]?=some x,fun i H=>∃ xs,SqL K H a xs∧xs.length≤i⟩
def Itt (K:W.Frag) (a:Addr):It:=
 ⟨fun i H=>∃ xs x,SqT K H a xs∧xs[i]?=some x,fun i H x H'=>H'=H∧∀ xs,SqT K H a xs→xs[i]?=some x,fun i H=>∃ xs,SqT K H a xs∧xs.length≤i⟩
def Itr (lo:Int) (n:Nat):It:=⟨fun i _=>i<n,fun i H x H'=>H'=H∧x=.int (lo+i),fun i _=>n≤i⟩
theorem tz {P:Program} {w:World} {K:W.Frag} {tg:Expr} (a it:Addr):gS P w K tg (Itl K a) [it] it (fun i h=>h.IsListIter it a i) where
 mem:=by simp
 obj:=fun i h st b hb=>by
  have e:b=it:=by simpa using hb
  subst e
  obtain ⟨o,e,c,d⟩:=st
  exact ⟨o,e,fun v z=>by rw [d] at z;cases z⟩
 keep:=fun i h h' st k=>st.at fun o e=>k it (by simp) o e
 item:=by
  intro X hP hw hK hc i pins s σ H E I hf st hg
  subst hP hw hK
  obtain ⟨xs,x,hq,hx⟩:=hg
  obtain ⟨its,rv,p,hz⟩:=I.list hq
  obtain ⟨u,hu,ru⟩:=rv.get hx
  obtain ⟨f0,f1,f2,f3,f4,f5⟩:=hf it (by simp)
  refine wpAny_pyNext_list_item st p.isList (x:=u) (by simpa using hu) fun h' st' sb=>?_
  have I1:Inv X pins σ H { s with heap:=h' }:=I.turned (t':=s.toks) (fun b o hb e=>(sb.2 b hb).trans e) f0 f1 f3 f4 f5
  obtain ⟨o,e,c,d⟩:=id st'
  exact ⟨u,rfl,mx (s:={ s with heap:=h' }) e c d (by decide) ⟨x,H,I1,ru,⟨rfl,fun ys hy=>by rw [I.list_inj hy hq];exact hx⟩,st',fun b hb=>(hf b hb).1⟩⟩
 done:=by
  intro X hP hw hK hc i pins s σ H E I hf st hg
  subst hP hw hK
  obtain ⟨xs,hq,hx⟩:=hg
  obtain ⟨its,rv,p,hz⟩:=I.list hq
  obtain ⟨f0,f1,f2,f3,f4,f5⟩:=hf it (by simp)
  have hl:=rv.length
  exact wpAny_pyNext_list_end (I.ok.hd hc) st p.isList (by simp;omega) fun h' eb=>⟨rfl,I.turned (t':=s.toks) (fun b o hb e=>eb b o hb e) f0 f1 f3 f4 f5⟩
 self:=fun _ _ _ _ _ st h=>wpAny_pyIter_listiter st h
theorem rN {P:Program} {w:World} {K:W.Frag} {tg:Expr} (a it:Addr):gS P w K tg (Itt K a) [it] it (fun i h=>h.IsTupleIter it a i) where
 mem:=by simp
 obj:=fun i h st b hb=>by
  have e:b=it:=by simpa using hb
  subst e
  obtain ⟨o,e,c,d⟩:=st
  exact ⟨o,e,fun v z=>by rw [d] at z;cases z⟩
 keep:=fun i h h' st k=>st.at fun o e=>k it (by simp) o e
 item:=by
  intro X hP hw hK hc i pins s σ H E I hf st hg
  subst hP hw hK
  obtain ⟨xs,x,hq,hx⟩:=hg
  obtain ⟨its,rv,p,hz⟩:=I.tuple hq
  obtain ⟨u,hu,ru⟩:=rv.get hx
  obtain ⟨f0,f1,f2,f3,f4,f5⟩:=hf it (by simp)
  refine wpAny_pyNext_tuple_item st (show s.heap.IsTuple a its.toArray from p) (x:=u) (by simpa using hu) fun h' st' sb=>?_
  have I1:Inv X pins σ H { s with heap:=h' }:=I.turned (t':=s.toks) (fun b o hb e=>(sb.2 b hb).trans e) f0 f1 f3 f4 f5
  obtain ⟨o,e,c,d⟩:=id st'
  exact ⟨u,rfl,mx (s:={ s with heap:=h' }) e c d (by decide) ⟨x,H,I1,ru,⟨rfl,fun ys hy=>by rw [I.tuple_inj hy hq];exact hx⟩,st',fun b hb=>(hf b hb).1⟩⟩
 done:=by
  intro X hP hw hK hc i pins s σ H E I hf st hg
  subst hP hw hK
  obtain ⟨xs,hq,hx⟩:=hg
  obtain ⟨its,rv,p,hz⟩:=I.tuple hq
  obtain ⟨f0,f1,f2,f3,f4,f5⟩:=hf it (by simp)
  have hl:=rv.length
  exact wpAny_pyNext_tuple_end (I.ok.hd hc) st (show s.heap.IsTuple a its.toArray from p) (by simp;omega) fun h' eb=>⟨rfl,I.turned (t':=s.toks) (fun b o hb e=>eb b o hb e) f0 f1 f3 f4 f5⟩
 self:=fun _ _ _ _ _ st h=>wpAny_pyIter_tupleiter st h
theorem qH {P:Program} {w:World} {K:W.Frag} {tg:Expr} (it:Addr) (lo:Int) (n:Nat):gS P w K tg (Itr lo n) [it] it (fun i h=>IsRangeIter h it (lo+(i:Nat)*1) ((n:Int) - (i:Nat)) 1) where
 mem:=by simp
 obj:=fun i h st b hb=>by
  have e:b=it:=by simpa using hb
  subst e
  exact ⟨_,st,fun v z=>by
   have z':Data.fields _=Data.cell v:=z
   cases z'⟩
 keep:=fun i h h' st k=>k it (by simp) _ st
 item:=by
  intro X hP hw hK hc i pins s σ H E I hf st hg
  subst hP hw hK
  obtain ⟨f0,f1,f2,f3,f4,f5⟩:=hf it (by simp)
  have W:=Walks.range (prog:=X.prog) (w:=X.w) (I.ok.hd hc) it lo 1 n
  refine W.item i s _ _ hg st fun v h' tk hv st' kk=>?_
  obtain ⟨t,rfl⟩:=hv
  have I1:Inv X pins σ H { s with heap:=h',toks:=tk }:=I.turned (fun b o hb e=>kk b o (by simpa using hb) e) f0 f1 f3 f4 f5
  refine ⟨_,rfl,mx (s:={ s with heap:=h',toks:=tk }) (n:= "range_iterator") st' rfl rfl (by decide) ⟨.int (lo+i),H,I1,⟨t,?_⟩,⟨rfl,rfl⟩,st',fun b hb=>(hf b hb).1⟩⟩
  rw [Int.mul_one]
 done:=by
  intro X hP hw hK hc i pins s σ H E I hf st hg
  subst hP hw hK
  obtain ⟨f0,f1,f2,f3,f4,f5⟩:=hf it (by simp)
  exact wpAny_pyNext_range_end (I.ok.hd hc) st (by have:n≤i:=hg;omega) fun h' eb=>⟨rfl,I.turned (t':=s.toks) (fun b o hb e=>eb b o hb e) f0 f1 f3 f4 f5⟩
 self:=fun _ _ _ _ _ st h=>wpAny_pyIter_rangeiter st h
section
variable {X:Cx} {tg:Expr}
theorem oA {pins:List (Addr×Obj)} {σ:St} {H:Hp} {s:Shared} {R:It→Hp→Prop} {E:Value→Shared→Prop} {lo hi:Int} {t u v:Tok} {tk:Nat} (I:Inv X pins σ H s) (h1: -(2^62)≤lo) (h2:lo<2^62) (h3: -(2^62)≤hi) (h4:hi<2^62)
   (q:R (Itr lo (hi - lo).toNat) H):wpAny (model X.prog X.w) X.A (pyIter (.ref s.heap.objs.size)) (PIE X pins σ tg R) E { s with heap:=s.heap.push { cls:=.type "range",data:=.fields #[.int lo t,.int hi u,.int 1 v] },toks:=tk }:=by
 refine wpAny_pyIter_range (IsRange.new ..) (small_one h1 h2 h3 h4) ?_
 have I1:Inv X pins σ H { s with heap:=s.heap.push { cls:=.type "range",data:=.fields #[.int lo t,.int hi u,.int 1 v] },toks:=tk }:=I.kept fun b o e=>Heap.get?_push_of_some _ e
 refine ⟨(s.heap.push { cls:=.type "range",data:=.fields #[.int lo t,.int hi u,.int 1 v] }).objs.size,[(s.heap.push { cls:=.type "range",data:=.fields #[.int lo t,.int hi u,.int 1 v] }).objs.size],_,_,H,rfl,
   I1.kept (t':=tk) fun b o e=>Heap.get?_push_of_some _ e,qH _ lo (hi - lo).toNat,?_,fun b hb=>?_,q⟩
 · have e1:lo+((0:Nat):Int)*1=lo:=by simp
   have e2:(((hi - lo).toNat:Nat):Int) - ((0:Nat):Int)=Builtin.Range.rangeSize lo hi 1:=by rw [rangeSize_one];split <;> omega
   show IsRangeIter _ _ (lo+((0:Nat):Int)*1) ((((hi - lo).toNat:Nat):Int) - ((0:Nat):Int)) 1
   rw [e1,e2]
   exact Heap.get?_push_size _ rfl
 · have e:b=(s.heap.push { cls:=.type "range",data:=.fields #[.int lo t,.int hi u,.int 1 v] }).objs.size:=by simpa using hb
   subst e
   exact I1.fpOk (Nat.le_refl _) (I1.hok.fresh (Nat.le_refl _))
def mR (ta:TA):TI:=fun σ H R=>ta σ H fun vs H1=>∃ j:Int,vs=[.int j]∧ -(2^62)≤j∧j<2^62∧R (Itr 0 j.toNat) H1
def qi (ta:TA):TI:=fun σ H R=>ta σ H fun vs H1=>∃ i j:Int,vs=[.int i,.int j]∧(-(2^62)≤i∧i<2^62∧ -(2^62)≤j∧j<2^62)∧R (Itr i (j - i).toNat) H1
theorem sx {a : Expr} {ta : TA} {p pos : Pos} (hg : Gl X "range") (hm : X.mg "range" = none) (ha : PA X [a] ta) (hs : starEach [a] X.env = [(false, eval a X.env)] := by rfl) : PI X tg (.Call (.Name "range" p) [a] [] pos) (mR ta) := by
  intro pins s σ H R I h
  refine Call_ (gk I hg hm boot_range (PyProof.Rows.callWith_type1 (thn (ha pos pins s σ H _ I h) fun us s1 ⟨vs, H1, I1, r1, q1⟩ => ?_) hs rfl))
  obtain ⟨j, e, q1, q2, q⟩ := q1
  subst e
  cases r1 with
  | cons r rr =>
    cases rr
    obtain ⟨t, rfl⟩ := r
    exact call_range_1 (oA I1 (by omega) (by omega) q1 q2 (by simpa using q))
theorem ub {a b : Expr} {ta : TA} {p pos : Pos} (hg : Gl X "range") (hm : X.mg "range" = none) (ha : PA X [a, b] ta) (hs : starEach [a, b] X.env = [(false, eval a X.env), (false, eval b X.env)] := by rfl) (hs2 : starEach [b] X.env = [(false, eval b X.env)] := by rfl) :
    PI X tg (.Call (.Name "range" p) [a, b] [] pos) (qi ta) := by
  intro pins s σ H R I h
  refine Call_ (gk I hg hm boot_range (PyProof.Rows.callWith_type1 (thn (ha pos pins s σ H _ I h) fun us s1 ⟨vs, H1, I1, r1, q1⟩ => ?_) (by rw [hs, hs2]) (by rw [hs2]; rfl)))
  obtain ⟨i, j, e, ⟨q1, q2, q3, q4⟩, q⟩ := q1
  subst e
  cases r1 with
  | cons r rr =>
    cases rr with
    | cons r' rr =>
      cases rr
      obtain ⟨t, rfl⟩ := r
      obtain ⟨t', rfl⟩ := r'
      exact call_range_2 (oA I1 q1 q2 q3 q4 q)
def fB (wi:TI) (g:TG) (tb:TS):TS:=fun D σ H=>wi σ H fun J H1=>∃ W:Nat→Nat→St→Hp→Prop,(∃ m,W 0 m σ H1)∧∀ i m σ H,W i m σ H→
 (J.stop i H∧D.nx σ H)∨(J.go i H∧∃ N:St→Hp→Prop,(∀ σ' H',N σ' H'→∃ m',m'<m∧W (i+1) m' σ' H')∧∀ x H',J.yld i H x H'→g x σ H' fun σ2 H2=>tb { D with nx:=N,ct:=N,bk:=D.nx } σ2 H2)
def gx (fp:List Addr) (h:Heap):List (Addr×Obj):=fp.filterMap fun b=>(h.get? b).map fun o=>(b,o)
theorem dw {fp:List Addr} {h:Heap} {b:Addr} {o:Obj} (hb:b∈fp) (e:h.get? b=some o):(b,o)∈gx fp h:=List.mem_filterMap.mpr ⟨b,hb,by rw [e];rfl⟩
theorem sn {fp : List Addr} {h : Heap} {p : Addr × Obj} (hp : p ∈ gx fp h) : p.1 ∈ fp ∧ h.get? p.1 = some p.2 := by
  obtain ⟨b, hb, e⟩ := List.mem_filterMap.mp hp
  cases q : h.get? b with
  | none => rw [q] at e; cases e
  | some o =>
    rw [q] at e
    have e' : (b, o) = p := Option.some.inj e
    subst e'
    exact ⟨hb, q⟩
theorem Inv.pinned {pins:List (Addr×Obj)} {σ:St} {H:Hp} {s:Shared} {fp:List Addr} (I:Inv X pins σ H s) (hf:∀ b∈fp,ft X pins H b) (ho:∀ b∈fp,∃ o,s.heap.get? b=some o∧∀ v,o.data≠ .cell v):Inv X (pins++gx fp s.heap) σ H s:=
 I.pins_of fun p hp=>(List.mem_append.mp hp).elim (fun z=>I.pin p (List.mem_append_right _ z)) fun z=>by
  obtain ⟨hb,e⟩:=sn z
  obtain ⟨f0,f1,f2,_⟩:=hf p.1 hb
  obtain ⟨o,e',d⟩:=ho p.1 hb
  rw [e] at e';cases e'
  exact ⟨e,f0,f1,f2,d⟩
theorem Inv.unpinned {pins pl:List (Addr×Obj)} {σ:St} {H:Hp} {s:Shared} (I:Inv X (pins++pl) σ H s):Inv X pins σ H s:=I.pins_of fun p hp=>I.pin p (List.mem_append_right _ (List.mem_append_left _ hp))
theorem ua {iter:Expr} {body:List Stmt} {wi:TI} {g:TG} {tb:TS} {pos:Pos} (hp:PassesOwn (model X.prog X.w) X.A X.env X.xe) (hc:X.calm=true) (hi:PI X tg iter wi) (hg:PG X tg g) (hb:PSs X body tb)
   (hs:∀ x,foldedSetIterable iter X.env x=pure x:=by intro _;rfl):PS X (.For tg iter body [] pos) (fB wi g tb):=by
 intro pins s σ H D I h
 refine wpAny_For (thn (hi pins s σ H _ I h) fun v s1 h1=>thn h1 fun itv s2 h2=>?_) hs
 obtain ⟨it,fp,tn,J,H2,e,I2,T,st2,f2,W,⟨m0,w0⟩,turn⟩:=h2
 subst e
 have stat:∀ {H':Hp},(∀ b∈fp,H' b=none)→∀ b∈fp,ft X pins H' b:=fun hn b hb=>⟨hn b hb,(f2 b hb).2⟩
 refine codeAny_forLoop_any (fun n s'=>∃ i σ' H',Inv X pins σ' H' s'∧tn i s'.heap∧(∀ b∈fp,H' b=none)∧W i n σ' H') ?_ m0 ⟨0,σ,H2,I2,st2,fun b hb=>(f2 b hb).1,w0⟩
 rintro n s3 ⟨i,σ3,H3,I3,st3,fr3,w3⟩
 rcases turn i n σ3 H3 w3 with ⟨stop,qn⟩ | ⟨go,N,hN,step⟩
 · refine wpAny_passesOwn hp (thn (T.done X rfl rfl rfl hc i pins s3 σ3 H3 X.xe I3 (stat fr3) st3 stop) fun r s4 ⟨hr,I4⟩=>?_)
   subst hr
   exact wpAny_execs_nil ⟨σ3,H3,I4,qn⟩
 · refine wpAny_passesOwn hp (thn (T.item X rfl rfl rfl hc i pins s3 σ3 H3 X.xe I3 (stat fr3) st3 go) fun r s4 ⟨u,hr,h4⟩=>?_)
   subst hr
   refine wpAny_passesOwn hp (thn h4 fun _ s5 ⟨x,H5,I5,r5,y5,st5,fr5⟩=>?_)
   have I5':=I5.pinned (stat fr5) (T.obj _ _ st5)
   refine wpAny_passesOwn hp (thn (hg _ s5 σ3 H5 x u _ I5' r5 (step x H5 y5)) fun _ s6 ⟨σ6,H6,I6,q6⟩=>?_)
   refine wpAny_passesOwn hp (thn (hb _ s6 σ6 H6 _ I6 q6) fun f s7 q7=>?_)
   have again:∀ {σ7:St} {H7:Hp},Inv X (pins++gx fp s5.heap) σ7 H7 s7→N σ7 H7→∃ m,m<n∧∃ i σ' H',Inv X pins σ' H' s7∧tn i s7.heap∧(∀ b∈fp,H' b=none)∧W i m σ' H':=fun {σ7 H7} I7 n7=>by
    obtain ⟨m',hm,w7⟩:=hN σ7 H7 n7
    refine ⟨m',hm,i+1,σ7,H7,I7.unpinned,T.keep _ _ _ st5 fun b hb o e=>(I7.pin (b,o) (List.mem_append_right _ (List.mem_append_right _ (dw hb e)))).1,fun b hb=>?_,w7⟩
    obtain ⟨o,e,d⟩:=T.obj _ _ st5 b hb
    exact (I7.pin (b,o) (List.mem_append_right _ (List.mem_append_right _ (dw hb e)))).2.1
   cases f with
   | next=>obtain ⟨σ7,H7,I7,n7⟩:=q7;exact again I7 n7
   | cont=>obtain ⟨σ7,H7,I7,n7⟩:=q7;exact again I7 n7
   | brk=>obtain ⟨σ7,H7,I7,q7⟩:=q7;exact ⟨σ7,H7,I7.unpinned,q7⟩
   | ret v=>obtain ⟨x7,σ7,H7,I7,r7,q7⟩:=q7;exact ⟨x7,σ7,H7,I7.unpinned,r7,q7⟩
end
theorem oJ {K:W.Frag} {a:Addr} {xs:List V} {g:TG} {tb:TS} {D:em} {σ:St} {H:Hp} (Pv:Nat→St→Hp→Prop) (h0:Pv 0 σ H) (hl:∀ i σ H,i≤xs.length→Pv i σ H→SqL K H a xs)
   (hs:∀ i x σ H,xs[i]?=some x→Pv i σ H→g x σ H fun σ2 H2=>tb { D with nx:=Pv (i+1),ct:=Pv (i+1),bk:=D.nx } σ2 H2) (hd:∀ σ H,Pv xs.length σ H→D.nx σ H):
   ∃ W:Nat→Nat→St→Hp→Prop,(∃ m,W 0 m σ H)∧∀ i m σ H,W i m σ H→
    ((Itl K a).stop i H∧D.nx σ H)∨((Itl K a).go i H∧∃ N:St→Hp→Prop,(∀ σ' H',N σ' H'→∃ m',m'<m∧W (i+1) m' σ' H')∧∀ x H',(Itl K a).yld i H x H'→g x σ H' fun σ2 H2=>tb { D with nx:=N,ct:=N,bk:=D.nx } σ2 H2):=by
 refine ⟨fun i m σ H=>m=xs.length - i∧i≤xs.length∧Pv i σ H,⟨xs.length,by simp,Nat.zero_le _,h0⟩,?_⟩
 rintro i m σ H ⟨rfl,hi,p⟩
 have q:=hl i σ H hi p
 by_cases hlt:i<xs.length
 · refine .inr ⟨⟨xs,xs[i],q,by simp [hlt]⟩,Pv (i+1),fun σ' H' p'=>⟨xs.length - (i+1),by omega,rfl,hlt,p'⟩,fun x H' y=>?_⟩
   obtain ⟨e,y⟩:=y
   subst e
   exact hs i x σ _ (y xs q) p
 · have e:i=xs.length:=by omega
   subst e
   exact .inl ⟨⟨xs,q,Nat.le_refl _⟩,hd σ H p⟩
theorem yD {K:W.Frag} {a:Addr} {xs:List V} {g:TG} {tb:TS} {D:em} {σ:St} {H:Hp} (Pv:Nat→St→Hp→Prop) (h0:Pv 0 σ H) (hl:∀ i σ H,i≤xs.length→Pv i σ H→SqT K H a xs)
   (hs:∀ i x σ H,xs[i]?=some x→Pv i σ H→g x σ H fun σ2 H2=>tb { D with nx:=Pv (i+1),ct:=Pv (i+1),bk:=D.nx } σ2 H2) (hd:∀ σ H,Pv xs.length σ H→D.nx σ H):
   ∃ W:Nat→Nat→St→Hp→Prop,(∃ m,W 0 m σ H)∧∀ i m σ H,W i m σ H→
    ((Itt K a).stop i H∧D.nx σ H)∨((Itt K a).go i H∧∃ N:St→Hp→Prop,(∀ σ' H',N σ' H'→∃ m',m'<m∧W (i+1) m' σ' H')∧∀ x H',(Itt K a).yld i H x H'→g x σ H' fun σ2 H2=>tb { D with nx:=N,ct:=N,bk:=D.nx } σ2 H2):=by
 refine ⟨fun i m σ H=>m=xs.length - i∧i≤xs.length∧Pv i σ H,⟨xs.length,by simp,Nat.zero_le _,h0⟩,?_⟩
 rintro i m σ H ⟨rfl,hi,p⟩
 have q:=hl i σ H hi p
 by_cases hlt:i<xs.length
 · refine .inr ⟨⟨xs,xs[i],q,by simp [hlt]⟩,Pv (i+1),fun σ' H' p'=>⟨xs.length - (i+1),by omega,rfl,hlt,p'⟩,fun x H' y=>?_⟩
   obtain ⟨e,y⟩:=y
   subst e
   exact hs i x σ _ (y xs q) p
 · have e:i=xs.length:=by omega
   subst e
   exact .inl ⟨⟨xs,q,Nat.le_refl _⟩,hd σ H p⟩
theorem se {lo:Int} {n:Nat} {g:TG} {tb:TS} {D:em} {σ:St} {H:Hp} (Pv:Nat→St→Hp→Prop) (h0:Pv 0 σ H)
   (hs:∀ i σ H,i<n→Pv i σ H→g (.int (lo+i)) σ H fun σ2 H2=>tb { D with nx:=Pv (i+1),ct:=Pv (i+1),bk:=D.nx } σ2 H2) (hd:∀ σ H,Pv n σ H→D.nx σ H):
   ∃ W:Nat→Nat→St→Hp→Prop,(∃ m,W 0 m σ H)∧∀ i m σ H,W i m σ H→
    ((Itr lo n).stop i H∧D.nx σ H)∨((Itr lo n).go i H∧∃ N:St→Hp→Prop,(∀ σ' H',N σ' H'→∃ m',m'<m∧W (i+1) m' σ' H')∧∀ x H',(Itr lo n).yld i H x H'→g x σ H' fun σ2 H2=>tb { D with nx:=N,ct:=N,bk:=D.nx } σ2 H2):=by
 refine ⟨fun i m σ H=>m=n - i∧i≤n∧Pv i σ H,⟨n,by simp,Nat.zero_le _,h0⟩,?_⟩
 rintro i m σ H ⟨rfl,hi,p⟩
 by_cases hlt:i<n
 · refine .inr ⟨hlt,Pv (i+1),fun σ' H' p'=>⟨n - (i+1),by omega,rfl,hlt,p'⟩,fun x H' y=>?_⟩
   obtain ⟨e,y⟩:=y
   subst e y
   exact hs i σ _ hlt p
 · have e:i=n:=by omega
   subst e
   exact .inl ⟨Nat.le_refl _,hd σ H p⟩
abbrev R2:=V→V→Hp→VK→Prop
def OpR (X:Cx) (f:Value→Value→Sem Value) (r:R2):Prop:=
 ∀ (pins:List (Addr×Obj)) (s:Shared) (σ:St) (H:Hp) (x y:V) (v u:Value) (Q:VK),Inv X pins σ H s→aE x v→aE y u→r x y H Q→
  wpAny (model X.prog X.w) X.A (f v u) (EP X pins σ Q) X.xe s
def UnR (X:Cx) (f:Value→Sem Value) (r:V→Hp→VK→Prop):Prop:=
 ∀ (pins:List (Addr×Obj)) (s:Shared) (σ:St) (H:Hp) (x:V) (v:Value) (Q:VK),Inv X pins σ H s→aE x v→r x H Q→
  wpAny (model X.prog X.w) X.A (f v) (EP X pins σ Q) X.xe s
def bo (X:Cx) (f:Value) (r:List V→Hp→VK→Prop):Prop:=
 ∀ (pins:List (Addr×Obj)) (s:Shared) (σ:St) (H:Hp) (xs:List V) (us:List Value) (Q:VK),Inv X pins σ H s→aG xs us→r xs H Q→
  wpAny (model X.prog X.w) X.A (call f us) (EP X pins σ Q) X.xe s
def Gx (X:Cx) (r:V→Hp→(Bool→Hp→Prop)→Prop):Prop:=
 ∀ (pins:List (Addr×Obj)) (s:Shared) (σ:St) (H:Hp) (x:V) (v:Value) (Q:Bool→Hp→Prop),Inv X pins σ H s→aE x v→r x H Q→
  wpAny (model X.prog X.w) X.A (truthy v) (TP X pins σ Q) X.xe s
def tOp (r:R2) (ta tb:TE):TE:=fun σ H Q=>ta σ H fun x H1=>tb σ H1 fun y H2=>r x y H2 Q
def tUn (r:V→Hp→VK→Prop) (ta:TE):TE:=fun σ H Q=>ta σ H fun x H1=>r x H1 Q
def rI (C:Int→Int→Prop) (g:Int→Int→V):R2:=fun x y H Q=>∃ i j,x=.int i∧y=.int j∧C i j∧Q (g i j) H
def rI0 (g:Int→Int→V):R2:=fun x y H Q=>∃ i j,x=.int i∧y=.int j∧Q (g i j) H
def rU (g:Int→V):V→Hp→VK→Prop:=fun x H Q=>∃ i,x=.int i∧Q (g i) H
section
variable {X:Cx} {a b c:Expr} {ta tb tc:TE} {pos:Pos}
theorem vZ (ha:PE X a ta) (hb:PE X b tb) {pins:List (Addr×Obj)} {s:Shared} {σ:St} {H:Hp} {R:V→V→Hp→Prop} (I:Inv X pins σ H s)
  (h:ta σ H fun x H1=>tb σ H1 fun y H2=>R x y H2) {Q:Value→Shared→Prop} {f:Value→Value→Sem Value}
  (hf:∀ v u s2 x y H2,Inv X pins σ H2 s2→aE x v→aE y u→R x y H2→wpAny (model X.prog X.w) X.A (f v u) Q X.xe s2):
  wpAny (model X.prog X.w) X.A (eval a X.env) (fun v s₁=>wpAny (model X.prog X.w) X.A (eval b X.env) (fun u s₂=>wpAny (model X.prog X.w) X.A (f v u) Q X.xe s₂) X.xe s₁) X.xe s:=by
 refine thn (ha pins s σ H _ I h) fun v s1 ⟨x,H1,I1,r1,q1⟩=>?_
 refine thn (hb pins s1 σ H1 _ I1 q1) fun u s2 ⟨y,H2,I2,r2,q2⟩=>?_
 exact hf v u s2 x y H2 I2 r1 r2 q2
theorem CN {op:Operator} {r:R2} (ho:OpR X (binaryOp op) r) (ha:PE X a ta) (hb:PE X b tb):PE X (.BinOp a op b pos) (tOp r ta tb):=by
 intro pins s σ H Q I h
 exact wpAny_BinOp (vZ ha hb I h fun v u s2 x y H2 I2 rx ry q=>ho pins s2 σ H2 x y v u Q I2 rx ry q)
theorem DU {op:UnaryOp} {r:V→Hp→VK→Prop} (ho:UnR X (unaryOp op) r) (ha:PE X a ta):PE X (.UnaryOp op a pos) (tUn r ta):=by
 intro pins s σ H Q I h
 exact UnaryOp_ (thn (ha pins s σ H _ I h) fun v s1 ⟨x,H1,I1,r1,q1⟩=>ho pins s1 σ H1 x v Q I1 r1 q1)
theorem opI {f:Value→Value→Sem Value} {C:Int→Int→Prop} {g:Int→Int→Int}
  (rule:∀ (i j:Int) (t u:Tok) (s:Shared) (Q:Value→Shared→Prop) (E:Value→Shared→Prop),C i j→Q (.int (g i j) s.toks) { s with toks:=s.toks+1 }→wpAny (model X.prog X.w) X.A (f (.int i t) (.int j u)) Q E s):
  OpR X f (rI C fun i j=> .int (g i j)):=by
 intro pins s σ H x y v u Q I rx ry h
 obtain ⟨i,j,rfl,rfl,hc,q⟩:=h
 obtain ⟨t,rfl⟩:=rx
 obtain ⟨t',rfl⟩:=ry
 exact rule i j t t' s _ _ hc ⟨.int (g i j),H,I.tok _,⟨_,rfl⟩,q⟩
theorem qw {f:Value→Value→Sem Value} {g:Int→Int→Int}
  (rule:∀ (i j:Int) (t u:Tok) (s:Shared) (Q:Value→Shared→Prop) (E:Value→Shared→Prop),Q (.int (g i j) s.toks) { s with toks:=s.toks+1 }→wpAny (model X.prog X.w) X.A (f (.int i t) (.int j u)) Q E s):
  OpR X f (rI0 fun i j=> .int (g i j)):=by
 intro pins s σ H x y v u Q I rx ry h
 obtain ⟨i,j,rfl,rfl,q⟩:=h
 obtain ⟨t,rfl⟩:=rx
 obtain ⟨t',rfl⟩:=ry
 exact rule i j t t' s _ _ ⟨.int (g i j),H,I.tok _,⟨_,rfl⟩,q⟩
theorem BY {f:Value→Value→Sem Value} {g:Int→Int→Bool}
  (rule:∀ (i j:Int) (t u:Tok) (s:Shared) (Q:Value→Shared→Prop) (E:Value→Shared→Prop),Q (.bool (g i j)) s→wpAny (model X.prog X.w) X.A (f (.int i t) (.int j u)) Q E s):
  OpR X f (rI0 fun i j=> .bl (g i j)):=by
 intro pins s σ H x y v u Q I rx ry h
 obtain ⟨i,j,rfl,rfl,q⟩:=h
 obtain ⟨t,rfl⟩:=rx
 obtain ⟨t',rfl⟩:=ry
 exact rule i j t t' s _ _ ⟨.bl (g i j),H,I,rfl,q⟩
def AY (i j:Int):Prop:=0≤j∧j≤1000000∧i.natAbs<2^64
theorem qR (k:Nat):(0:Int)≤2^k:=by
 rw [two_pow_cast]
 exact Int.natCast_nonneg _
theorem BJ:OpR X (binaryOp .Add) (rI0 fun i j=> .int (i+j)):=qw fun _ _ _ _ _ _ _ q=>add_int q
theorem Af:OpR X (binaryOp .Sub) (rI0 fun i j=> .int (i - j)):=qw fun _ _ _ _ _ _ _ q=>sub_int q
theorem zY:OpR X (binaryOp .Mod) (rI (fun _ j=>0<j) fun i j=> .int (i%j)):=opI fun i j _ _ _ _ _ hc q=>by
 have h1:(0:Int)<j:=hc
 exact mod_int' (by omega) (by rw [Int.fmod_eq_emod_of_nonneg i (by omega)];exact q)
theorem Am:OpR X (binaryOp .Pow) (rI AY fun i j=> .int (i^j.toNat)):=opI fun _ _ _ _ _ _ _ hc q=>pow_int_small hc.1 hc.2.1 hc.2.2 q
theorem Bc:OpR X (binaryOp .LShift) (rI AY fun i j=> .int (i*2^j.toNat)):=opI fun _ _ _ _ _ _ _ hc q=>lshift_int_small hc.1 hc.2.1 hc.2.2 q
theorem AB:OpR X (binaryOp .RShift) (rI (fun _ j=>0≤j) fun i j=> .int (i/2^j.toNat)):=opI fun i j _ _ _ _ _ hc q=>
 rshift_int hc (by rw [Int.fdiv_eq_ediv_of_nonneg i (qR _)];exact q)
theorem Cc:OpR X (binaryOp .BitAnd) (rI0 fun i j=> .int (Builtin.bitAnd i j)):=qw fun _ _ _ _ _ _ _ q=>and_int q
theorem BS:OpR X (binaryOp .BitXor) (rI0 fun i j=> .int (Builtin.bitXor i j)):=qw fun _ _ _ _ _ _ _ q=>xor_int q
theorem unI {f:Value→Sem Value} {g:Int→Int}
  (rule:∀ (i:Int) (t:Tok) (s:Shared) (Q:Value→Shared→Prop) (E:Value→Shared→Prop),Q (.int (g i) s.toks) { s with toks:=s.toks+1 }→wpAny (model X.prog X.w) X.A (f (.int i t)) Q E s):
  UnR X f (rU fun i=> .int (g i)):=by
 intro pins s σ H x v Q I rx h
 obtain ⟨i,rfl,q⟩:=h
 obtain ⟨t,rfl⟩:=rx
 exact rule i t s _ _ ⟨.int (g i),H,I.tok _,⟨_,rfl⟩,q⟩
theorem BA:UnR X (unaryOp .USub) (rU fun i=> .int (-i)):=unI fun _ _ _ _ _ q=>neg_int q
end
def AX:V→V→Bool
 | .non,.non=>true | .non,.int _=>true | .int _,.non=>true | .non,.bl _=>true | .bl _,.non=>true | .non,.str _=>true | .str _,.non=>true
 | .int _,.int _=>true | .bl _,.bl _=>true | .str _,.str _=>true | .byt _,.byt _=>true
 | .int _,.str _=>true | .str _,.int _=>true | .bl _,.str _=>true | .str _,.bl _=>true
 | _,_=>false
def rEq:R2:=fun x y H Q=>AX x y=true∧Q (.bl (decide (x=y))) H
def rNe:R2:=fun x y H Q=>AX x y=true∧Q (.bl (!decide (x=y))) H
theorem oY {i j:Int}:decide (V.int i=V.int j)=(i==j):=by
 rw [Bool.eq_iff_iff]
 simp
theorem tJ {i j:Bool}:decide (V.bl i=V.bl j)=(i==j):=by
 rw [Bool.eq_iff_iff]
 simp
theorem qb {i j:Str}:decide (V.str i=V.str j)=(i==j):=by
 rw [Bool.eq_iff_iff]
 simp
theorem pI {i j:Array UInt8}:decide (V.byt i=V.byt j)=(i.toList==j.toList):=by
 rw [Bool.eq_iff_iff]
 cases i
 cases j
 simp
section
variable {X:Cx} {a b c:Expr} {ta tb tc:TE} {pos:Pos}
theorem bf {pins:List (Addr×Obj)} {σ:St} {H:Hp} {s:Shared} {Q:VK} {k k':Bool} (I:Inv X pins σ H s) (q:Q (.bl k) H) (e:k=k'):EP X pins σ Q (.bool k') s:=by
 subst e
 exact ⟨.bl k,H,I,rfl,q⟩
theorem DG : OpR X (compareOp .Eq) rEq := by
  intro pins s σ H x y v u Q I rx ry h
  obtain ⟨hs, q⟩ := h
  cases x with
  | non =>
    cases rx
    cases y with
    | non => cases ry; exact PySem.EqNone.eq_none_none (bf I q (by simp))
    | bl j => cases ry; exact PySem.EqNone.eq_none_bool (bf I q (by simp))
    | int j => obtain ⟨t', rfl⟩ := ry; exact PySem.EqNone.eq_none_int (bf I q (by simp))
    | str j => obtain ⟨t', rfl⟩ := ry; exact PySem.EqNone.eq_none_str (bf I q (by simp))
    | _ => exact absurd (show false = true from hs) Bool.false_ne_true
  | bl i =>
    cases rx
    cases y with
    | non => cases ry; exact PySem.EqNone.eq_bool_none (bf I q (by simp))
    | bl j => cases ry; exact eq_bool (bf I q tJ)
    | str j => obtain ⟨t', rfl⟩ := ry; exact PySem.EqMixed.eq_bool_str (bf I q (by simp))
    | _ => exact absurd (show false = true from hs) Bool.false_ne_true
  | int i =>
    obtain ⟨t, rfl⟩ := rx
    cases y with
    | non => cases ry; exact PySem.EqNone.eq_int_none (bf I q (by simp))
    | int j => obtain ⟨t', rfl⟩ := ry; exact eq_int (bf I q oY)
    | str j => obtain ⟨t', rfl⟩ := ry; exact PySem.EqMixed.eq_int_str (bf I q (by simp))
    | _ => exact absurd (show false = true from hs) Bool.false_ne_true
  | str i =>
    obtain ⟨t, rfl⟩ := rx
    cases y with
    | non => cases ry; exact PySem.EqNone.eq_str_none (bf I q (by simp))
    | bl j => cases ry; exact PySem.EqMixed.eq_str_bool (bf I q (by simp))
    | int j => obtain ⟨t', rfl⟩ := ry; exact PySem.EqMixed.eq_str_int (bf I q (by simp))
    | str j => obtain ⟨t', rfl⟩ := ry; exact eq_str (bf I q qb)
    | _ => exact absurd (show false = true from hs) Bool.false_ne_true
  | byt i =>
    obtain ⟨t, rfl⟩ := rx
    cases y with
    | byt j => obtain ⟨t', rfl⟩ := ry; exact W.eq_bytes (bf I q pI)
    | _ => exact absurd (show false = true from hs) Bool.false_ne_true
  | _ => cases y <;> exact absurd (show false = true from hs) Bool.false_ne_true
theorem DE : OpR X (compareOp .NotEq) rNe := by
  intro pins s σ H x y v u Q I rx ry h
  obtain ⟨hs, q⟩ := h
  cases x with
  | non =>
    cases rx
    cases y with
    | non => cases ry; exact PySem.EqNone.ne_none_none (bf I q (by simp))
    | bl j => cases ry; exact PySem.EqNone.ne_none_bool (bf I q (by simp))
    | int j => obtain ⟨t', rfl⟩ := ry; exact PySem.EqNone.ne_none_int (bf I q (by simp))
    | str j => obtain ⟨t', rfl⟩ := ry; exact PySem.EqNone.ne_none_str (bf I q (by simp))
    | _ => exact absurd (show false = true from hs) Bool.false_ne_true
  | bl i =>
    cases rx
    cases y with
    | non => cases ry; exact PySem.EqNone.ne_bool_none (bf I q (by simp))
    | bl j => cases ry; exact ne_bool (bf I q (congrArg not tJ))
    | str j => obtain ⟨t', rfl⟩ := ry; exact PySem.EqMixed.ne_bool_str (bf I q (by simp))
    | _ => exact absurd (show false = true from hs) Bool.false_ne_true
  | int i =>
    obtain ⟨t, rfl⟩ := rx
    cases y with
    | non => cases ry; exact PySem.EqNone.ne_int_none (bf I q (by simp))
    | int j => obtain ⟨t', rfl⟩ := ry; exact ne_int (bf I q (congrArg not oY))
    | str j => obtain ⟨t', rfl⟩ := ry; exact PySem.EqMixed.ne_int_str (bf I q (by simp))
    | _ => exact absurd (show false = true from hs) Bool.false_ne_true
  | str i =>
    obtain ⟨t, rfl⟩ := rx
    cases y with
    | non => cases ry; exact PySem.EqNone.ne_str_none (bf I q (by simp))
    | bl j => cases ry; exact PySem.EqMixed.ne_str_bool (bf I q (by simp))
    | int j => obtain ⟨t', rfl⟩ := ry; exact PySem.EqMixed.ne_str_int (bf I q (by simp))
    | str j => obtain ⟨t', rfl⟩ := ry; exact ne_str (bf I q (congrArg not qb))
    | _ => exact absurd (show false = true from hs) Bool.false_ne_true
  | byt i =>
    obtain ⟨t, rfl⟩ := rx
    cases y with
    | byt j => obtain ⟨t', rfl⟩ := ry; exact W.ne_bytes (bf I q (congrArg not pI))
    | _ => exact absurd (show false = true from hs) Bool.false_ne_true
  | _ => cases y <;> exact absurd (show false = true from hs) Bool.false_ne_true
theorem CY:OpR X (compareOp .Lt) (rI0 fun i j=> .bl (decide (i<j))):=BY fun _ _ _ _ _ _ _ q=>lt_int q
theorem EE:OpR X (compareOp .LtE) (rI0 fun i j=> .bl (decide (i≤j))):=BY fun _ _ _ _ _ _ _ q=>le_int q
theorem rR:OpR X (compareOp .In) (fun x y H Q=>∃ i j,x=.str i∧y=.str j∧Q (.bl (!(Builtin.Str.occurrences j i 0 j.length 1).isEmpty)) H):=by
 intro pins s σ H x y v u Q I rx ry h
 obtain ⟨i,j,rfl,rfl,q⟩:=h
 obtain ⟨t,rfl⟩:=rx
 obtain ⟨t',rfl⟩:=ry
 exact in_str (bf I q rfl)
theorem OpR.or {f:Value→Value→Sem Value} {r r':R2} (h:OpR X f r) (h':OpR X f r'):OpR X f (fun x y H Q=>r x y H Q∨r' x y H Q):=by
 intro pins s σ H x y v u Q I rx ry q
 rcases q with q | q
 · exact h pins s σ H x y v u Q I rx ry q
 · exact h' pins s σ H x y v u Q I rx ry q
theorem kz (b:Expr) {op:CmpOp} (h:op≠ .In:=by decide) (h2:op≠ .NotIn:=by decide):behindInMarks op b=false:=by
 have e1:(op==CmpOp.In)=false:=by cases op <;> first | rfl | exact absurd rfl h
 have e2:(op==CmpOp.NotIn)=false:=by cases op <;> first | rfl | exact absurd rfl h2
 cases b <;> simp [behindInMarks,e1,e2]
theorem xZ {op:CmpOp} {r:R2} (ho:OpR X (compareOp op) r) (ha:PE X a ta) (hb:PE X b tb) (hm:behindInMarks op b=false):PE X (.Compare a [op] [b] pos) (tOp r ta tb):=by
 intro pins s σ H Q I h
 exact wpAny_Compare1 (vZ ha hb I h fun v u s2 x y H2 I2 rx ry q=>ho pins s2 σ H2 x y v u Q I2 rx ry q) hm
def zE (K:W.Frag) (x:V) (H:Hp) (k:Bool):Prop:=
 match x with
 | .non=>k=false
 | .bl b=>k=b
 | .int i=>k=(i !=0)
 | .str y=>y.length≤sizeLine∧k=((y.length:Int) !=0)
 | .byt y=>y.size≤sizeLine∧k=((y.size:Int) !=0)
 | .ref p=>(∃ xs,SqL K H p xs∧k= !xs.isEmpty)∨(∃ xs,SqT K H p xs∧k= !xs.isEmpty)∨∃ kvs,H p=some (.dK kvs)∧k= !kvs.isEmpty
 | _=>False
theorem rA {κ:Type} {kvs:List (κ×V)} {vs:List (κ×Value)} (r:KV kvs vs):(!vs.isEmpty)= !kvs.isEmpty:=by
 cases r <;> rfl
theorem kN {xs:List V} {its:List Value} (r:aG xs its):(!its.toArray.isEmpty)= !xs.isEmpty:=by
 cases r <;> simp
theorem gs:(sizeLine:Nat)<2^63:=by rw [sizeLine_eq];decide
theorem zq : Gx X (fun x H Q => ∃ k, zE X.K x H k ∧ Q k H) := by
  intro pins s σ H x v Q I rx h
  obtain ⟨k, e, q⟩ := h
  have hl := gs
  have hs : sizeLine = 16777216 := sizeLine_eq
  cases x with
  | non =>
    cases rx
    have e' : k = false := e
    subst e'
    exact truthy_none ⟨H, I, q⟩
  | bl b =>
    cases rx
    have e' : k = b := e
    subst e'
    exact wpAny_truthy_bool ⟨H, I, q⟩
  | int i =>
    obtain ⟨t, rfl⟩ := rx
    have e' : k = (i != 0) := e
    subst e'
    exact PySem.P.truthy_int ⟨H, I, q⟩
  | str y =>
    obtain ⟨t, rfl⟩ := rx
    obtain ⟨hy, e'⟩ : y.length ≤ sizeLine ∧ k = ((y.length : Int) != 0) := e
    subst e'
    exact PySem.P.truthy_str (by omega) ⟨H, I.tok _, q⟩
  | byt y =>
    obtain ⟨t, rfl⟩ := rx
    obtain ⟨hy, e'⟩ : y.size ≤ sizeLine ∧ k = ((y.size : Int) != 0) := e
    subst e'
    exact W.truthy_bytes (by omega) ⟨H, I.tok _, q⟩
  | ref p =>
    cases rx
    have e' : (∃ xs, SqL X.K H p xs ∧ k = !xs.isEmpty) ∨ (∃ xs, SqT X.K H p xs ∧ k = !xs.isEmpty) ∨ ∃ kvs, H p = some (.dK kvs) ∧ k = !kvs.isEmpty := e
    rcases e' with ⟨xs, hx, e'⟩ | ⟨xs, hx, e'⟩ | ⟨kvs, hx, e'⟩
    · subst e'
      obtain ⟨its, r, pl, hz⟩ := I.list hx
      have hlen := r.length
      exact wpAny_truthy_list pl.isList (by simp only [List.size_toArray]; omega) ⟨H, I.tok _, by rw [kN r]; exact q⟩
    · subst e'
      obtain ⟨its, r, pl, hz⟩ := I.tuple hx
      have hlen := r.length
      exact truthy_tuple pl (by simp only [List.size_toArray]; omega) ⟨H, I.tok _, by rw [kN r]; exact q⟩
    · subst e'
      obtain ⟨hz, hS, vs, r, m⟩ : kvs.length ≤ sizeLine ∧ (p == sysModules) = false ∧ ∃ vs, KV kvs vs ∧ s.heap.DictOf (ba X.prog X.w) p vs := I.hok p _ hx
      have hlen : kvs.length = vs.length := Paired.length r
      exact wpAny_truthy_dict hS m (by omega) ⟨H, I.tok _, by rw [rA r]; exact q⟩
  | _ => exact (show False from e).elim
theorem rK:OpR X (binaryOp .Add) (fun x y H Q=>∃ i j,x=.str i∧y=.str j∧i.length+j.length≤sizeLine∧Q (.str (i++j)) H):=by
 intro pins s σ H x y v u Q I rx ry h
 obtain ⟨i,j,rfl,rfl,hz,q⟩:=h
 obtain ⟨t,rfl⟩:=rx
 obtain ⟨t',rfl⟩:=ry
 exact add_str (fun t' tk=>⟨.str (i++j),H,I.tok _,⟨_,rfl⟩,q⟩) hz
theorem dW {x:V} {us:List Value} (r:aG [x] us):∃ u,us=[u]∧aE x u:=by
 cases r with
 | cons r1 r2=>cases r2;exact ⟨_,rfl,r1⟩
theorem gN {x y : V} {us : List Value} (r : aG [x, y] us) : ∃ u w', us = [u, w'] ∧ aE x u ∧ aE y w' := by
  cases r with
  | cons r1 r2 =>
    cases r2 with
    | cons r3 r4 => cases r4; exact ⟨_, _, rfl, r1, r3⟩
theorem rX (hc:X.calm=true):bo X (.builtin "max") (fun xs H Q=>∃ i j,xs=[.int i,.int j]∧Q (.int (if j>i then j else i)) H):=by
 intro pins s σ H xs us Q I r h
 obtain ⟨i,j,rfl,q⟩:=h
 obtain ⟨u,w',rfl,⟨t,rfl⟩,⟨t',rfl⟩⟩:=gN r
 refine max_two_ints (I.ok.hd hc) fun h' tk k=>⟨_,H,I.kept k,?_,q⟩
 by_cases hj:j>i
 · rw [if_pos hj,if_pos hj];exact ⟨_,rfl⟩
 · rw [if_neg hj,if_neg hj];exact ⟨_,rfl⟩
theorem rY (hc:X.calm=true):bo X (.builtin "min") (fun xs H Q=>∃ i j,xs=[.int i,.int j]∧Q (.int (if j<i then j else i)) H):=by
 intro pins s σ H xs us Q I r h
 obtain ⟨i,j,rfl,q⟩:=h
 obtain ⟨u,w',rfl,⟨t,rfl⟩,⟨t',rfl⟩⟩:=gN r
 refine min_two_ints (I.ok.hd hc) fun h' tk k=>⟨_,H,I.kept k,?_,q⟩
 by_cases hj:j<i
 · rw [if_pos hj,if_pos hj];exact ⟨_,rfl⟩
 · rw [if_neg hj,if_neg hj];exact ⟨_,rfl⟩
theorem nY:bo X (.type "str") (fun xs H Q=>∃ i,xs=[.int i]∧i.natAbs.log2<1920∧Q (.str (toString i)) H):=by
 intro pins s σ H xs us Q I r h
 obtain ⟨i,rfl,hz,q⟩:=h
 obtain ⟨u,rfl,t,rfl⟩:=dW r
 exact PySem.P.str_of_int hz ⟨.str _,H,I.tok _,⟨_,rfl⟩,q⟩
theorem uk:bo X (.builtin "ord") (fun xs H Q=>∃ x,xs=[.str x]∧x.length=1∧Q (.int (x.cps.getD 0 0:Nat)) H):=by
 intro pins s σ H xs us Q I r h
 obtain ⟨x,rfl,hz,q⟩:=h
 obtain ⟨u,rfl,t,rfl⟩:=dW r
 exact ord_of_one hz ⟨.int _,H,I.tok _,⟨_,rfl⟩,q⟩
def Fl (K:W.Frag) (x:V) (H:Hp) (n:Nat):Prop:=
 match x with
 | .str y=>y.length≤sizeLine∧n=y.length
 | .byt y=>y.size≤sizeLine∧n=y.size
 | .ref p=>(∃ xs,SqL K H p xs∧n=xs.length)∨∃ xs,SqT K H p xs∧n=xs.length
 | _=>False
theorem jS : bo X (.builtin "len") (fun xs H Q => ∃ x n, xs = [x] ∧ Fl X.K x H n ∧ Q (.int n) H) := by
  intro pins s σ H xs us Q I r h
  obtain ⟨x, n, rfl, e, q⟩ := h
  obtain ⟨u, rfl, rx⟩ := dW r
  have hl := gs
  have hs : sizeLine = 16777216 := sizeLine_eq
  cases x with
  | str y =>
    obtain ⟨t, rfl⟩ := rx
    obtain ⟨hy, e'⟩ : y.length ≤ sizeLine ∧ n = y.length := e
    subst e'
    exact len_str (by omega) ⟨.int _, H, I.tok _, ⟨_, rfl⟩, q⟩
  | byt y =>
    obtain ⟨t, rfl⟩ := rx
    obtain ⟨hy, e'⟩ : y.size ≤ sizeLine ∧ n = y.size := e
    subst e'
    exact W.len_bytes (by omega) ⟨.int _, H, I.tok _, ⟨_, rfl⟩, q⟩
  | ref p =>
    cases rx
    have e' : (∃ xs, SqL X.K H p xs ∧ n = xs.length) ∨ ∃ xs, SqT X.K H p xs ∧ n = xs.length := e
    rcases e' with ⟨xs, hx, e'⟩ | ⟨xs, hx, e'⟩
    · subst e'
      obtain ⟨its, r', pl, hz⟩ := I.list hx
      have hlen := r'.length
      exact Calls.call_len_list pl.isList (by simp only [List.size_toArray]; omega) ⟨.int xs.length, H, I.tok _, ⟨_, by simp only [List.size_toArray]; rw [hlen]⟩, q⟩
    · subst e'
      obtain ⟨its, r', pl, hz⟩ := I.tuple hx
      have hlen := r'.length
      exact len_tuple pl (by simp only [List.size_toArray]; omega) ⟨.int xs.length, H, I.tok _, ⟨_, by simp only [List.size_toArray]; rw [hlen]⟩, q⟩
  | _ => exact (show False from e).elim
end
structure jt (h:Heap) (x dx C:Addr) (mA:Str→Option Value):Prop where
 obj:h.get? x=some (W.instObj C dx)
 ns:h.Ns1 dx mA
 ne:dx≠x
theorem sX {h:Heap} {dx:Addr} {mA:Str→Option Value} (n:h.Ns1 dx mA):∃ od,h.get? dx=some od∧∀ name,W.lookIn name od=some (mA name):=by
 obtain ⟨o,es,ep,ho,hd,hk,_,hm⟩:=n
 refine ⟨o,ho,fun name=>?_⟩
 have e:=hm name
 unfold nsFind findBy at e
 rw [← Array.find?_toList] at e
 unfold W.lookIn
 rw [hd]
 dsimp only
 split
 · rename_i y q
   rw [q] at e
   exact congrArg some e
 · rename_i q
   rw [q] at e
   have a:es.toList.any (·.refKey)=false:=by
    rw [List.any_eq_false]
    intro y hy
    obtain ⟨z,t,hkey⟩:=hk y (Array.mem_toList_iff.mp hy)
    simp [DictEntry.refKey,hkey]
   have a':¬ es.toList.any (·.refKey)=true:=by rw [a];exact Bool.false_ne_true
   rw [if_neg a']
   exact congrArg some e
theorem jt.look {h:Heap} {x dx C:Addr} {mA:Str→Option Value} (I:jt h x dx C mA):∃ od,W.InstAt h x (W.instObj C dx) C (some od)∧∀ name,W.lookIn name od=some (mA name):=
 let ⟨od,ho,hl⟩:=sX I.ns
 ⟨od,⟨I.obj,rfl,rfl,ho⟩,hl⟩
section
variable {prog:Program} {w:World} {A:Around} {E:Value→Shared→Prop} {s:Shared} {K:W.Frag} {x dx C f:Addr} {mA:Str→Option Value} {name:Str} {v:Value}
theorem yr {expr:Bool} {Q:Value→Shared→Prop} (X:K.In s.heap) (I:jt s.heap x dx C mA) (hg:W.plainGet K C name=true) (hh:W.hasDictIn K C=true)
  (ha:W.findIn K (.ref C) name=some none) (hv:mA name=some v) (hv':W.handedIn v=true) (h:Q v { s with toks:=s.toks+1 }):
  wpAny (model prog w) A (getAttr (.ref x) name expr) Q E s:=by
 obtain ⟨od,J,hl⟩:=I.look
 exact W.get_value X J (W.plainGet_of hg).1 (W.findObj_own hh ha rfl (by rw [hl,hv])) hv' h
theorem wN {pl:Sem Bool} {Q:Value×List Value→Shared→Prop} (X:K.In s.heap) (I:jt s.heap x dx C mA) (hg:W.plainGet K C name=true)
  (hf:W.findIn K (.ref C) name=some (some (.ref f))) (ht:W.isFn K (.ref f)=true) (hv:mA name=none) (h:Q (.ref f,[.ref x]) s):
  wpAny (model prog w) A (getMethod (.ref x) name pl) Q E s:=by
 obtain ⟨od,J,hl⟩:=I.look
 exact W.method_fn X J (W.plainGet_of hg).1 (W.plainGet_of hg).2 hf (beq_iff_eq.mp ht) (by show (W.lookIn name od).map (·.isSome)=some false;rw [hl,hv];rfl) h
theorem yo {ns:List Str} {Q:Unit→Shared→Prop} (X:K.In s.heap) (I:jt s.heap x dx C mA)
  (hs:W.findIn K (.ref C) "__setattr__" =some (some (.builtin "object.__setattr__"))) (hp:W.plainOver K C=true) (ht:W.takerIn K C name=some none) (hh:W.hasDictIn K C=true)
  (hw:PySem.Within mA ns) (hsz:ns.length≤sizeLine)
  (h:∀ h',jt h' x dx C (fun y=>if y=name then some v else mA y)→Heap.SameBut dx s.heap h'→Q () { s with heap:=h',toks:=s.toks+2 }):
  wpAny (model prog w) A (setAttr (.ref x) name v) Q E s:=by
 obtain ⟨od,J,hl⟩:=I.look
 refine W.set_plain X J hs (W.osa_open (s:={ s with toks:=s.toks+1 }) (r:=none) X J hp ht fun b=>?_)
 obtain ⟨cd,hc,hd'⟩:=W.any_some hh
 have hx:s.heap.get? x=some ⟨.ref C,some dx,.plain,#[]⟩:=I.obj
 refine wpAny_bind (wpAny_pure (wpAny_bind (wpAny_bind (wpAny_loadPart hx (wpAny_bind (W.Looks.here (s:={ s with toks:=s.toks+1 }) (W.looks_clsIn X hc) ?_))))))
 rw [hd']
 refine wpAny_pure (a:=some dx) (wpAny_bind (wpAny_pure (wpAny_bind ?_)))
 refine wpAny_nsSet1 (s:={ s with toks:=s.toks+1 }) I.ns fun h' hn2 hs2=>?_
 obtain ⟨oD,esD,epD,hoD,hdD,hcD⟩:=hn2.count (PySem.Within.cons name v hw)
 refine wpAny_bind (wpAny_lookBehind hoD (by rw [hdD];exact pastItsLine_dict (Nat.le_trans hcD (by rw [List.length_cons];omega))) ?_)
 exact wpAny_pure (h _ ⟨(hs2.2 _ (Ne.symm I.ne)).trans I.obj,hn2,I.ne⟩ hs2)
theorem wz {R : Result → Shared → Prop} {vs : List Value} {kw : List (Str × Value)} (X : K.In s.heap) (hm : W.makesIn K C = true)
  (hi : W.findIn K (.ref C) "__init__" = some (some (.ref f))) (hf : W.typeIn K (.ref f) = some (.type "function"))
  (h : codeAny (model prog w) (A.under (.builtin "type.__call__" ⟨.ref C :: vs, kw⟩)) (.call (.ref f) ⟨.ref (s.heap.objs.size + 1) :: vs, kw⟩) (W.InitBack (s.heap.objs.size + 1) R)
   { s with heap := (s.heap.push W.emptyDict).push (W.instObj C s.heap.objs.size) }) :
  codeAny (model prog w) A (.call (.ref C) ⟨vs, kw⟩) R s := by
 obtain ⟨hh, g, d, t, os⟩ := s
 exact W.make_core (W.makes_of X hm) (W.looks_findIn X hi) (fun self => W.bind_fn X self hf) (.inl rfl) h
end
def cm (f:Str) (v:V):List (Str×V)→List (Str×V)
 | []=>[(f,v)]
 | (g,x)::r=>if g=f then (g,v)::r else (g,x)::cm f v r
theorem jn (f g : Str) (v : V) : ∀ fs : List (Str × V), (cm f v fs).lookup g = if g = f then some v else fs.lookup g
  | [] => by
    show List.lookup g [(f, v)] = _
    by_cases h : g = f
    · have hb : (g == f) = true := beq_iff_eq.mpr h
      simp only [List.lookup, hb, if_pos h]
    · have hb : (g == f) = false := beq_eq_false_iff_ne.mpr h
      simp only [List.lookup, hb, if_neg h]
  | (k, x) :: r => by
    have ih := jn f g v r
    rw [show cm f v ((k, x) :: r) = (if k = f then (k, v) :: r else (k, x) :: cm f v r) from rfl]
    by_cases hk : k = f
    · rw [if_pos hk]
      by_cases h : g = k
      · have hb : (g == k) = true := beq_iff_eq.mpr h
        simp only [List.lookup, hb, if_pos (h.trans hk)]
      · have hb : (g == k) = false := beq_eq_false_iff_ne.mpr h
        simp only [List.lookup, hb, if_neg (fun e : g = f => h (e.trans hk.symm))]
    · rw [if_neg hk]
      by_cases h : g = k
      · have hb : (g == k) = true := beq_iff_eq.mpr h
        simp only [List.lookup, hb, if_neg (fun e : g = f => hk (h.symm.trans e))]
      · have hb : (g == k) = false := beq_eq_false_iff_ne.mpr h
        simp only [List.lookup, hb]
        exact ih
theorem iM (f : Str) (v : V) : ∀ fs : List (Str × V), f ∈ (cm f v fs).map (·.1) ∧ ∀ g, g ∈ fs.map (·.1) → g ∈ (cm f v fs).map (·.1)
  | [] => ⟨by simp [cm], fun g h => by simp at h⟩
  | (k, x) :: r => by
    obtain ⟨i1, i2⟩ := iM f v r
    rw [show cm f v ((k, x) :: r) = (if k = f then (k, v) :: r else (k, x) :: cm f v r) from rfl]
    by_cases hk : k = f
    · rw [if_pos hk]
      subst hk
      exact ⟨by simp, fun g h => by simpa using h⟩
    · rw [if_neg hk]
      refine ⟨?_, fun g h => ?_⟩
      · rw [List.map_cons]
        exact List.mem_cons_of_mem _ i1
      · rw [List.map_cons] at h ⊢
        rcases List.mem_cons.mp h with e | e
        · exact List.mem_cons.mpr (.inl e)
        · exact List.mem_cons_of_mem _ (i2 g e)
theorem jp (f : Str) (v : V) : ∀ fs : List (Str × V), (cm f v fs).length ≤ fs.length + 1
  | [] => by simp [cm]
  | (k, x) :: r => by
    have ih := jp f v r
    rw [show cm f v ((k, x) :: r) = (if k = f then (k, v) :: r else (k, x) :: cm f v r) from rfl]
    by_cases hk : k = f
    · rw [if_pos hk, List.length_cons, List.length_cons]; omega
    · rw [if_neg hk, List.length_cons, List.length_cons]; omega
theorem cy.some_of {v:V} {o:Option Value} (r:cy (some v) o):∃ u,o=some u∧aE v u:=by
 cases o with
 | none=>exact (show False from r).elim
 | some u=>exact ⟨u,rfl,r⟩
theorem cy.none_of {o:Option Value} (r:cy none o):o=none:=by
 cases o with
 | none=>rfl
 | some u=>exact (show False from r).elim
theorem sq {v:V} {u:Value} (r:aE v u):W.handedIn u=true:=by
 cases v with
 | non=>cases (show u=Value.none from r);rfl
 | bl b=>cases (show u=Value.bool b from r);rfl
 | int i=>obtain ⟨t,e⟩:=(show ∃ t,u=Value.int i t from r);cases e;rfl
 | str x=>obtain ⟨t,e⟩:=(show ∃ t,u=Value.str x t from r);cases e;rfl
 | byt b=>obtain ⟨t,e⟩:=(show ∃ t,u=Value.bytes b t from r);cases e;rfl
 | flt b=>obtain ⟨t,e⟩:=(show ∃ t,u=Value.float b t from r);cases e;rfl
 | ref a=>cases (show u=Value.ref a from r);rfl
 | ty n=>cases (show u=Value.type n from r);rfl
section
variable {P:Program} {w:World} {H H':Hp} {h h':Heap} {a C dx:Addr} {fs fs':List (Str×V)}
theorem gi (hok:HOk P w H h) (e:H a=some (.ins C dx fs)):∃ mA,jt h a dx C mA∧(∀ f,cy (fs.lookup f) (mA f))∧PySem.Within mA (fs.map (·.1))∧fs.length≤1000∧H dx=some (.own a):=by
 obtain ⟨d,z,ne,ob,mA,n,r,q⟩:=(show aQ P w H h a (.ins C dx fs) from hok a _ e)
 exact ⟨mA,⟨ob,n,ne⟩,r,q,z,d⟩
end
structure Cls (K:W.Frag) (C:Addr):Prop where
 pg:W.plainGet K C Str.empty=true
 hd:W.hasDictIn K C=true
 po:W.plainOver K C=true
 sa:W.findIn K (.ref C) "__setattr__" =some (some (.builtin "object.__setattr__"))
theorem Cls.get {K:W.Frag} {C:Addr} (c:Cls K C) (f:Str):W.plainGet K C f=true:=c.pg
def bp (K:W.Frag) (C:Addr) (f:Str):Prop:=W.findIn K (.ref C) f=some none
theorem bp.taker {K:W.Frag} {C:Addr} {f:Str} (n:bp K C f):W.takerIn K C f=some none:=by
 unfold W.takerIn
 rw [show W.findIn K (.ref C) f=some none from n]
 rfl
structure cH (K:W.Frag) (C:Addr) (m:Str) (f:Addr):Prop where
 at_:W.findIn K (.ref C) m=some (some (.ref f))
 fn:W.isFn K (.ref f)=true
 kp:W.keepIn K (.ref f)=true
section
variable {X:Cx} {pins:List (Addr×Obj)} {σ:St} {H:Hp} {s:Shared} {a C dx:Addr} {fs:List (Str×V)} {f:Str} {v:V} {A:Around} {E:Value→Shared→Prop}
theorem qq {b:Bool} {Q:Value→Shared→Prop} (I:Inv X pins σ H s) (e:H a=some (.ins C dx fs)) (c:Cls X.K C) (n:bp X.K C f) (l:fs.lookup f=some v)
  (h:∀ u s',Inv X pins σ H s'→aE v u→Q u s'):wpAny (model X.prog X.w) A (getAttr (.ref a) f b) Q E s:=by
 obtain ⟨mA,O,r,_,_,_⟩:=gi I.hok e
 obtain ⟨u,hu,ru⟩:=cy.some_of (v:=v) (o:=mA f) (by rw [← l];exact r f)
 exact yr I.kIn O (c.get f) c.hd n hu (sq ru) (h u _ (I.tok _) ru)
theorem ig {m:Str} {g:Addr} {pl:Sem Bool} {Q:Value×List Value→Shared→Prop} (I:Inv X pins σ H s) (e:H a=some (.ins C dx fs)) (c:Cls X.K C) (k:cH X.K C m g) (l:fs.lookup m=none)
  (h:Q (.ref g,[.ref a]) s):wpAny (model X.prog X.w) A (getMethod (.ref a) m pl) Q E s:=by
 obtain ⟨mA,O,r,_,_,_⟩:=gi I.hok e
 have hn:mA m=none:=cy.none_of (by rw [← l];exact r m)
 exact wN I.kIn O (c.get m) k.at_ k.fn hn h
theorem qE {y:V} {u:Value} {Q:Unit→Shared→Prop} (I:Inv X pins σ H s) (e:H a=some (.ins C dx fs)) (c:Cls X.K C) (n:bp X.K C f) (hl:fs.length<1000) (ry:aE y u)
   (h:∀ s',Inv X pins σ (upd H a (.ins C dx (cm f y fs))) s'→Q () s'):wpAny (model X.prog X.w) A (setAttr (.ref a) f u) Q E s:=by
 obtain ⟨mA,O,r,wi,_,ho⟩:=gi I.hok e
 have hz:(fs.map (·.1)).length≤sizeLine:=by rw [List.length_map,sizeLine_eq];omega
 refine yo I.kIn O c.sa c.po n.taker c.hd wi hz fun h' O' sb=>h _ ?_
 have hd:∃ o,h'.get? dx=some o:=let ⟨o,_,_,e',_⟩:=O'.ns;⟨o,e'⟩
 refine I.write (x:=a) (e:=dx) (by rw [e];exact True.intro) (.inr ho) (fun b q hb z=>(sb.2 b hb).trans z) hd ?_
 refine ⟨by rw [ak O.ne];exact ho,?_,O.ne,O'.obj,_,O'.ns,fun g=>?_,fun g hg=>?_⟩
 · have:=jp f y fs;omega
 · show cy ((cm f y fs).lookup g) (if g=f then some u else mA g)
   rw [jn]
   by_cases q:g=f
   · rw [if_pos q,if_pos q];exact ry
   · rw [if_neg q,if_neg q];exact r g
 · by_cases q:g=f
   · rw [q];exact (iM f y fs).1
   · refine (iM f y fs).2 g (wi g fun z=>hg ?_)
     show (if g=f then some u else mA g)=none
     rw [if_neg q];exact z
theorem Inv.made (I:Inv X pins σ H s):Inv X pins σ (upd (upd H s.heap.objs.size (.own (s.heap.objs.size+1))) (s.heap.objs.size+1) (.ins C s.heap.objs.size []))
  { s with heap:=(s.heap.push W.emptyDict).push (W.instObj C s.heap.objs.size) }:=by
 have e1:(s.heap.push W.emptyDict).get? s.heap.objs.size=some W.emptyDict:=Heap.get?_push_size s.heap rfl
 have e2:((s.heap.push W.emptyDict).push (W.instObj C s.heap.objs.size)).get? (s.heap.objs.size+1)=some (W.instObj C s.heap.objs.size):=by
  have:=Heap.get?_push_size (s.heap.push W.emptyDict) (o:=W.instObj C s.heap.objs.size) rfl
  rwa [Heap.size_push] at this
 have e3:(s.heap.push W.emptyDict).Ns s.heap.objs.size (fun _=>none):=⟨W.emptyDict,#[],_,e1,rfl,(fun e he=>absurd he (by simp)),fun _=>rfl⟩
 have I1:=I.laid (a:=s.heap.objs.size) (o:=.own (s.heap.objs.size+1)) (h':=s.heap.push W.emptyDict) (t':=s.toks) (fun b u q=>Heap.get?_push_of_some _ q) (Nat.le_refl _) ⟨_,e1⟩
 refine I1.laid (a:=s.heap.objs.size+1) (o:=.ins C s.heap.objs.size []) (t':=s.toks) (fun b u q=>Heap.get?_push_of_some _ q) (Nat.le_of_eq (Heap.size_push _ _)) ?_
 have ne:s.heap.objs.size≠s.heap.objs.size+1:=Nat.ne_of_lt (Nat.lt_succ_self _)
 refine ⟨by rw [ak ne,af],Nat.zero_le _,ne,e2,fun _=>none,(Heap.Ns1.of_empty e3).at fun o q=>Heap.get?_push_of_some _ q,fun _=>True.intro,fun y hy=>absurd rfl hy⟩
theorem yN {prog:Program} {w:World} {env:Env} {e:Expr} {f:Str} {pos:Pos} {s:Shared} {Q:Value→Shared→Prop} (hb:attributeBase e f env (eval e env)=eval e env)
  (h:wpAny (model prog w) A (eval e env) (fun o s₁=>wpAny (model prog w) A (getAttr o f true) Q E s₁) E s):wpAny (model prog w) A (eval (.Attribute e f pos) env) Q E s:=
 Attribute_any_ h (by rw [arm_eval_Attribute,hb])
end
def bg (K:W.Frag) (ta:TE) (f:Str):TE:=fun σ H Q=>ta σ H fun x H1=>∃ a C dx fs v,x=.ref a∧H1 a=some (.ins C dx fs)∧Cls K C∧bp K C f∧fs.lookup f=some v∧Q v H1
def fu (K:W.Frag) (ta tv:TE) (f:Str):TS:=fun D σ H=>tv σ H fun y H1=>ta σ H1 fun x H2=>∃ a C dx fs,x=.ref a∧H2 a=some (.ins C dx fs)∧Cls K C∧bp K C f∧fs.length<1000∧
 D.nx σ (upd H2 a (.ins C dx (cm f y fs)))
section
variable {X:Cx} {o e value:Expr} {f:Str} {pos pos' tpos:Pos} {ta tv:TE}
theorem AC (he:PE X e ta) (hb:attributeBase e f X.env (eval e X.env)=eval e X.env):PE X (.Attribute e f pos) (bg X.K ta f):=by
 intro pins s σ H Q I h
 refine yN hb (thn (he pins s σ H _ I h) fun u s1 ⟨x,H1,I1,rx,a,C,dx,fs,v,ex,ea,c,n,l,q⟩=>?_)
 subst ex
 obtain rfl:u=Value.ref a:=rx
 exact qq I1 ea c n l fun u' s2 I2 ru=>⟨v,H1,I2,ru,q⟩
theorem AZ (ha:PE X o ta) (hv:PE X value tv) (hs:swapsWith value (some (.Attribute o f pos')) pos.line X.env=pure false):PS X (.Assign [.Attribute o f pos'] value pos) (fu X.K ta tv f):=by
 intro pins s σ H D I h
 refine plainObj_wpAny_Assign_Attribute (thn (hv pins s σ H _ I h) fun u s1 ⟨y,H1,I1,ry,q⟩=>thn (ha pins s1 σ H1 _ I1 q) fun ov s2 ⟨x,H2,I2,rx,a,C,dx,fs,ex,ea,c,n,l,q2⟩=>?_) hs
 subst ex
 obtain rfl:ov=Value.ref a:=rx
 exact qE I2 ea c n l ry fun s3 I3=>⟨σ,_,I3,q2⟩
end
section
variable {X:Cx} {pins:List (Addr×Obj)} {σ:St} {H:Hp} {s:Shared} {A:Around} {E:Value→Shared→Prop} {Q:Value→Shared→Prop} {c:Value} {b:Bool}
inductive eD (K:W.Frag) (H:Hp):V→Value→Prop where
 | non:eD K H .non (.type "NoneType")
 | bl (x:Bool):eD K H (.bl x) (.type "bool")
 | int (i:Int):eD K H (.int i) (.type "int")
 | str (x:Str):eD K H (.str x) (.type "str")
 | flt (x:UInt64):eD K H (.flt x) (.type "float")
 | lst {a:Addr} {xs:List V} (e:H a=some (.lst xs)):eD K H (.ref a) (.type "list")
 | frz {a:Addr} {o:Obj} {xs:List V} (e:H a=some (.frz o (.lst xs))):eD K H (.ref a) (.type "list")
 | tup {a:Addr} {xs:List V} (e:H a=some (.tup xs)):eD K H (.ref a) (.type "tuple")
 | dK {a:Addr} {kvs:List (Key×V)} (e:H a=some (.dK kvs)):eD K H (.ref a) (.type "dict")
 | dT {a:Addr} {kvs:List (List Key×V)} (e:H a=some (.dT kvs)):eD K H (.ref a) (.type "dict")
 | ins {a C dx:Addr} {fs:List (Str×V)} (e:H a=some (.ins C dx fs)) (cl:Cls K C) (ha:W.findIn K (.ref C) "__class__" =some (some (.builtin "object.__class__")))
  (hn:W.specialIn K (.builtin "object.__class__") "__get__" =some (some (.builtin "getset_descriptor.__get__"))) (htk:W.takesIn K (.builtin "object.__class__")=some true)
  (hm:W.mroIn K C (.type "object")=some true):eD K H (.ref a) (.ref C)
theorem sK {x : V} {u t : Value} (I : Inv X pins σ H s) (rx : aE x u) (ty : eD X.K H x t) (e : W.kitOne X.K t c = some b) (h : ∀ tk, Q (.bool b) { s with toks := tk }) :
    wpAny (model X.prog X.w) A (call (.builtin "isinstance") [u, c]) Q E s := by
  cases ty with
  | non => cases (show u = Value.none from rx); exact W.kia_one W.kitx_none I.kIn True.intro e (fun z => nomatch z) h
  | bl y => cases (show u = Value.bool y from rx); exact W.kia_one W.kitx_bool I.kIn True.intro e (fun z => nomatch z) h
  | int i => obtain ⟨t, q⟩ := (show ∃ t, u = Value.int i t from rx); cases q; exact W.kia_one W.kitx_int I.kIn True.intro e (fun z => nomatch z) h
  | str y => obtain ⟨t, q⟩ := (show ∃ t, u = Value.str y t from rx); cases q; exact W.kia_one W.kitx_str I.kIn True.intro e (fun z => nomatch z) h
  | flt y => obtain ⟨t, q⟩ := (show ∃ t, u = Value.float y t from rx); cases q; exact W.kia_one W.kitx_float I.kIn True.intro e (fun z => nomatch z) h
  | @lst a xs ea =>
    cases (show u = Value.ref a from rx)
    obtain ⟨_, _, n, _, h1⟩ := (show aQ X.prog X.w H s.heap a (.lst xs) from I.hok a _ ea)
    exact W.kia_one W.kitx_list I.kIn ⟨_, h1, rfl⟩ e (fun z => nomatch z) h
  | @frz a ob xs ea =>
    cases (show u = Value.ref a from rx)
    obtain ⟨_, _, _, n, _, h1⟩ := (show aQ X.prog X.w H s.heap a (.frz ob (.lst xs)) from I.hok a _ ea)
    exact W.kia_one W.kitx_list I.kIn ⟨_, h1, rfl⟩ e (fun z => nomatch z) h
  | @tup a xs ea =>
    cases (show u = Value.ref a from rx)
    obtain ⟨_, _, _, p⟩ := (show aQ X.prog X.w H s.heap a (.tup xs) from I.hok a _ ea)
    obtain ⟨o, h1, h2, _⟩ := p
    exact W.kia_one W.kitx_tuple I.kIn ⟨o, h1, h2⟩ e (fun z => nomatch z) h
  | @dK a kvs ea =>
    cases (show u = Value.ref a from rx)
    obtain ⟨_, _, vs, _, p⟩ := (show aQ X.prog X.w H s.heap a (.dK kvs) from I.hok a _ ea)
    obtain ⟨o, es, ep, h1, h2, _⟩ := p
    exact W.kia_one W.kitx_dict I.kIn ⟨o, h1, h2.1⟩ e (fun z => nomatch z) h
  | @dT a kvs ea =>
    cases (show u = Value.ref a from rx)
    obtain ⟨_, _, xs, _, o, es, ep, h1, h2, _⟩ := (show aQ X.prog X.w H s.heap a (.dT kvs) from I.hok a _ ea)
    exact W.kia_one W.kitx_dict I.kIn ⟨o, h1, h2.1⟩ e (fun z => nomatch z) h
  | @ins a C dx fs ea cl ha hn htk hm =>
    cases (show u = Value.ref a from rx)
    obtain ⟨mA, O, _⟩ := gi I.hok ea
    obtain ⟨od, J, _⟩ := O.look
    exact W.kia_one (W.kitx_own (cl.get _) cl.hd ha hn htk hm) I.kIn J e (fun z => nomatch z) h
end
structure aW (k:Nat) (A:Around):Prop where
 hd:A.handled=none
 dp:A.depth+3*k+5<recursionLimit
 un:A.units+16*k+200<cLine
theorem aW.mono {j k:Nat} {A:Around} (r:aW k A) (h:j≤k):aW j A:=⟨r.hd,by have:=r.dp;omega,by have:=r.un;omega⟩
theorem aW.deeper {k:Nat} {A:Around} (r:aW (k+1) A) (env:Env):aW k (A.deeper env):=
 ⟨r.hd,by have:=r.dp;show A.depth+1+3*k+5<_;omega,by have:=r.un;show A.units+3+16*k+200<_;omega⟩
theorem qP {A:Around} {C:Addr} {us:List Value} {kw:List (Str×Value)}:(A.under (.builtin "type.__call__" ⟨.ref C::us,kw⟩)).depth=A.depth+1:=by
 first | rfl | simp [Around.under,Code.weight,Code.isCreation,Code.isGuard,Code.isCaller,Code.frames,Code.isFrame,guardIds]
theorem qI {A:Around} {C:Addr} {us:List Value} {kw:List (Str×Value)}:(A.under (.builtin "type.__call__" ⟨.ref C::us,kw⟩)).units=A.units+1:=by
 first | rfl | simp [Around.under,Code.cUnits,Code.frames,Code.isFrame]
theorem aW.make {k:Nat} {A:Around} (r:aW (k+1) A) (C:Addr) (us:List Value) (kw:List (Str×Value)):aW k (A.under (.builtin "type.__call__" ⟨.ref C::us,kw⟩)):=
 ⟨r.hd,by have:=r.dp;rw [qP];omega,by have:=r.un;rw [qI];omega⟩
theorem aW.depth {k:Nat} {A:Around} (r:aW k A):A.depth<recursionLimit:=by have:=r.dp;omega
def ai:TA:=fun _ H Q=>Q [] H
def ac (ta:TE) (tr:TA):TA:=fun σ H Q=>ta σ H fun x H1=>tr σ H1 fun xs H2=>Q (x::xs) H2
section
variable {X:Cx} {e:Expr} {es:List Expr} {te:TE} {t:TA} {pos:Pos}
theorem zD:PA X [] ai:=fun _ _ _ _ H Q I h=>Calls.spliced_nil ⟨[],H,I,.nil,h⟩
theorem yT (ha:PE X e te) (hr:PA X es t) (hs:starEach (e::es) X.env=(false,eval e X.env)::starEach es X.env:=by rfl):PA X (e::es) (ac te t):=by
 intro pos pins s σ H Q I h
 rw [hs]
 show wpAny _ _ (spliced ((false,eval e X.env)::backTo pos (starEach es X.env))) _ _ s
 refine Calls.spliced_cons (thn (ha pins s σ H _ I h) fun u s1 ⟨x,H1,I1,r1,q1⟩=>?_)
 exact thn (hr pos pins s1 σ H1 _ I1 q1) fun us s2 ⟨xs,H2,I2,r2,q2⟩=>⟨x::xs,H2,I2,.cons r1 r2,q2⟩
def dE (t:TA):TE:=fun σ H Q=>t σ H fun xs H1=>xs.length≤sizeLine∧∀ p,H1 p=none→Q (.ref p) (upd H1 p (.tup xs))
def da (t:TA):TE:=fun σ H Q=>t σ H fun xs H1=>xs.length≤sizeLine∧∀ p,H1 p=none→Q (.ref p) (upd H1 p (.lst xs))
theorem Bu {x1} (h:PA X es t):PE X (.Tuple es x1 pos) (dE t):=by
 intro pins s σ H Q I hq
 refine wpAny_Tuple_spliced (thn (h pos pins s σ H _ I hq) fun us s1 ⟨xs,H1,I1,r,z,q⟩=>⟨by rw [← r.length];exact z,?_⟩)
 have hf:H1 s1.heap.objs.size=none:=I1.hok.fresh (Nat.le_refl _)
 refine ⟨.ref s1.heap.objs.size,upd H1 s1.heap.objs.size (.tup xs),I1.laid (t':=s1.toks) (fun b u e=>Heap.get?_push_of_some _ e) (Nat.le_refl _) ?_,rfl,q _ hf⟩
 exact ⟨z,us,r,⟨_,Heap.get?_push_size _ rfl,rfl,_,rfl⟩⟩
theorem zH (h:PA X es t):PE X (.List es pos) (da t):=by
 intro pins s σ H Q I hq
 refine wpAny_List_spliced (thn (h pos pins s σ H _ I hq) fun us s1 ⟨xs,H1,I1,r,z,q⟩=>⟨by rw [← r.length];exact z,?_⟩)
 have hf:H1 s1.heap.objs.size=none:=I1.hok.fresh (Nat.le_refl _)
 refine ⟨.ref s1.heap.objs.size,upd H1 s1.heap.objs.size (.lst xs),I1.laid (t':=s1.toks) (fun b u e=>Heap.get?_push_of_some _ e) (Nat.le_refl _) ?_,rfl,q _ hf⟩
 exact ⟨z,us,0,r,Heap.get?_push_size _ rfl⟩
end
abbrev Sp:=List V→Hp→VK→XK→Prop
abbrev CXT:=List Env→Hp→Shared→XK→Value→Shared→Prop
structure gH (P:Program) (w:World) (K:W.Frag) (mg:Str→Option Value) (base:Heap) (A:Around) (outer:List Env) (s:Shared) (H:Hp):Prop where
 frames:A.frames=some outer
 mod:Mod K mg base
 bs:∀ b o,base.get? b=some o→s.heap.get? b=some o∧H b=none
 bsz:base.objs.size≤s.heap.objs.size
 funs:s.heap.FunFrames base outer
 frf:∀ b∈frs outer,H b=none
 hok:HOk P w H s.heap
 bare:AllBare s.gens
def CE (outer:List Env) (P:Program) (w:World) (H:Hp) (s:Shared) (Q:VK) (u:Value) (s':Shared):Prop:=
 ∃ v H',s'.os=s.os∧AllBare s'.gens∧Un (frs outer) [] H H' s.heap s'.heap∧HOk P w H' s'.heap∧aE v u∧Q v H'
def CR (CX:CXT) (outer:List Env) (P:Program) (w:World) (H:Hp) (s:Shared) (Q:VK) (E:XK) (r:Result) (s':Shared):Prop:=
 match r with
 | .ok (.ret u)=>CE outer P w H s Q u s'
 | .ok _=>False
 | .error e=>CX outer H s E e s'
structure aN (P:Program) (w:World) (K:W.Frag) (mg:Str→Option Value) (base:Heap) (CX:CXT) (k:Nat) (f:Addr) (fd:FuncData) (ps:List Str) (sp:Sp):Prop where
 len:∀ vs H Q E,sp vs H Q E→vs.length=ps.length
 run:∀ (A:Around) (outer:List Env) (s:Shared) (H:Hp) (args:Args) (us:List Value) (vs:List V) (Q:VK) (E:XK),aW k A→gH P w K mg base A outer s H→BindsTo s fd args (ps.zip us)→aG vs us→sp vs H Q E→
  codeAny (model P w) A (.call (.ref f) args) (CR CX outer P w H s Q E) s
theorem gH.make {P:Program} {w:World} {K:W.Frag} {mg:Str→Option Value} {base:Heap} {A:Around} {outer:List Env} {s:Shared} {H:Hp} (e:gH P w K mg base A outer s H) (C:Addr) (us:List Value) (kw:List (Str×Value)):
 gH P w K mg base (A.under (.builtin "type.__call__" ⟨.ref C::us,kw⟩)) outer s H:=⟨by first | exact e.frames | (simpa [Around.under,Code.envs,Code.isFrame,pushEnvs] using e.frames),e.mod,e.bs,e.bsz,e.funs,e.frf,e.hok,e.bare⟩
section
variable {X:Cx} {pins:List (Addr×Obj)} {σ:St} {H:Hp} {s s':Shared}
theorem Inv.env0 (I:Inv X pins σ H s):gH X.prog X.w X.K X.mg X.base X.A X.stack s H:=
 ⟨I.ok.frames,I.ok.mod,I.bs,Nat.le_trans I.ok.bsz I.sz,I.stack,I.stkFree,I.hok,I.bare⟩
theorem Inv.after {Q:VK} {u:Value} (I:Inv X pins σ H s) (h:CE X.stack X.prog X.w H s Q u s'):EP X pins σ Q u s':=by
 obtain ⟨v,H',os,bare,un,hok,r,q⟩:=h
 obtain ⟨hh,g,d,t,os'⟩:=s'
 obtain rfl:os'=s.os:=os
 exact ⟨v,H',I.call (h':=hh) (g':=g) (d':=d) (t':=t) (ch:=[]) un hok bare (fun b z=>absurd z (by simp)),r,q⟩
end
def aU (K:W.Frag) (fd:FuncData) (ps:List Str) (ds:List Value):Prop:=
 ∀ (s:Shared) (us:List Value),K.In s.heap→(us++ds).length=ps.length→BindsTo s fd ⟨us,[]⟩ (ps.zip (us++ds))
theorem aU.all {K:W.Frag} {fd:FuncData} {ps:List Str} (h:∀ us:List Value,us.length=ps.length→bindArgs fd ⟨us,[]⟩=pure (ps.zip us)):aU K fd ps []:=fun s us _ hl=>by
 rw [List.append_nil] at hl ⊢
 exact .of_eq (h us hl)
section
variable {X:Cx} {CX:CXT} {k:Nat} {f C:Addr} {fd:FuncData} {ps:List Str} {sp:Sp} {dvs:List V} {ds:List Value} {E:XK} {x m:Str} {p pos apos:Pos} {e o:Expr} {es:List Expr} {ta:TE} {t:TA}
structure Mk (K:W.Frag) (C f:Addr):Prop where
 makes:W.makesIn K C=true
 init:W.findIn K (.ref C) "__init__" =some (some (.ref f))
 fn:W.isFn K (.ref f)=true
 kp:W.keepIn K (.ref C)=true
end
structure ay (N P:List Str) (sc:Scope):Prop where
 kind:sc.kind=.function
 co:sc.isCoroutine=false
 gen:sc.isGenerator=false
 nd:N.Nodup
 pre:N.take P.length=P
 par:∀ x∈P,sc.names.lookup x=some .local∨sc.names.lookup x=some .cell
 nofree:∀ y∈sc.names,y.2≠ .free
theorem mq {kindOf : Str → Option NameKind} {x : Str} : ∀ {binds : List (Str × Value)} {m : Str → Option Value}, (∀ v, (x, v) ∉ binds) → bindL kindOf binds m x = m x
  | [], _, _ => rfl
  | (n, v) :: r, m, h => by
    unfold bindL
    rw [mq fun w hw => h w (List.mem_cons_of_mem _ hw)]
    split
    · have : x ≠ n := by rintro rfl; exact h v List.mem_cons_self
      simp [this]
    · rfl
theorem lZ {kindOf : Str → Option NameKind} {x : Str} : ∀ {binds : List (Str × Value)} {m : Str → Option Value}, (∀ v, (x, v) ∉ binds) → bindC kindOf binds m x = m x
  | [], _, _ => rfl
  | (n, v) :: r, m, h => by
    unfold bindC
    rw [lZ fun w hw => h w (List.mem_cons_of_mem _ hw)]
    split
    · rfl
    · have : x ≠ n := by rintro rfl; exact h v List.mem_cons_self
      simp [this]
theorem lU {kindOf : Str → Option NameKind} {x : Str} {v : Value} : ∀ {P : List Str} {vs : List Value} {i : Nat} {m : Str → Option Value}, P.Nodup → P[i]? = some x → vs[i]? = some v → kindOf x = some .local →
    bindL kindOf (P.zip vs) m x = some v
  | [], _, _, _, _, h, _, _ => by simp at h
  | _ :: _, [], _, _, _, _, h, _ => by simp at h
  | p :: P, w :: vs, 0, m, nd, h1, h2, hk => by
    simp at h1 h2; subst h1; subst h2
    show bindL kindOf ((p, w) :: P.zip vs) m p = _
    unfold bindL
    rw [mq fun v hv => (List.nodup_cons.mp nd).1 (List.of_mem_zip hv).1, if_pos hk]
    simp
  | p :: P, w :: vs, i + 1, m, nd, h1, h2, hk => by
    show bindL kindOf ((p, w) :: P.zip vs) m x = _
    unfold bindL
    exact lU (i := i) (List.nodup_cons.mp nd).2 (by simpa using h1) (by simpa using h2) hk
theorem lY {kindOf : Str → Option NameKind} {x : Str} {v : Value} : ∀ {P : List Str} {vs : List Value} {i : Nat} {m : Str → Option Value}, P.Nodup → P[i]? = some x → vs[i]? = some v → kindOf x ≠ some .local →
    bindC kindOf (P.zip vs) m x = some v
  | [], _, _, _, _, h, _, _ => by simp at h
  | _ :: _, [], _, _, _, _, h, _ => by simp at h
  | p :: P, w :: vs, 0, m, nd, h1, h2, hk => by
    simp at h1 h2; subst h1; subst h2
    show bindC kindOf ((p, w) :: P.zip vs) m p = _
    unfold bindC
    rw [lZ fun v hv => (List.nodup_cons.mp nd).1 (List.of_mem_zip hv).1, if_neg hk]
    simp
  | p :: P, w :: vs, i + 1, m, nd, h1, h2, hk => by
    show bindC kindOf ((p, w) :: P.zip vs) m x = _
    unfold bindC
    exact lY (i := i) (List.nodup_cons.mp nd).2 (by simpa using h1) (by simpa using h2) hk
def bX (N:List Str) (vs:List V):St:=vs.map some++List.replicate (N.length - vs.length) none
def eC (CX:CXT) (P:Program) (w:World) (K:W.Frag) (mg:Str→Option Value) (base:Heap) (N:List Str) (qual:Str) (scope:Scope) (f:Addr) (cd:Value) (A:Around) (outer:List Env) (s:Shared) (H:Hp) (E:XK):Cx where
 prog:=P
 w:=w
 K:=K
 mg:=mg
 base:=base
 A:=A.deeper (envOfC qual scope s.heap.objs.size f cd)
 N:=N
 s₀:=s
 H₀:=H
 env:=envOfC qual scope s.heap.objs.size f cd
 outer:=outer
 stack:=envOfC qual scope s.heap.objs.size f cd::outer
 ex:=[]
 calm:=true
 fn:=fun _=>true
 pn:=[]
 xe:=fun e s'=>wpAny (model P w) (A.deeper (envOfC qual scope s.heap.objs.size f cd)) (leaving (envOfC qual scope s.heap.objs.size f cd) e) (fun _ s''=>CX outer H s E e s'') (fun e' s''=>CX outer H s E e' s'') s'
theorem og {sc:Scope} {n:Nat} {x:Str} (h:sc.names.lookup x=some .cell):∃ c,(cellsFrom n sc.names []).lookup x=some c:=by
 have q:=W.cellsFrom_some sc.names n [] (.inl h)
 exact Option.isSome_iff_exists.mp q
theorem mi {CX:CXT} {P:Program} {w:World} {K:W.Frag} {mg:Str→Option Value} {base:Heap} {N ps:List Str} {qual:Str} {scope:Scope} {f:Addr} {cd:Value} {A:Around} {outer:List Env} {s s1:Shared} {H:Hp} {E:XK} {us:List Value} {vs:List V}
   (S:ay N ps scope) (hd:A.handled=none) (e0:gH P w K mg base A outer s H) (hl:vs.length=ps.length) (r:aG vs us)
   (x:InCallC s s.heap.objs.size (bindL (envOfC qual scope s.heap.objs.size f cd).kindOf (ps.zip us) fun _=>none) (cellsFrom (s.heap.objs.size+1) scope.names []) (bindC (envOfC qual scope s.heap.objs.size f cd).kindOf (ps.zip us) fun _=>none) s1):
   Inv (eC CX P w K mg base N qual scope f cd A outer s H E) [] (bX N vs) H s1:=by
 have hpl:ps.length≤N.length:=by have:=congrArg List.length S.pre;rw [List.length_take] at this;omega
 obtain ⟨h1,tk,rfl,hk⟩:=x.done
 have noA:∀ b:Addr,b∉(eC CX P w K mg base N qual scope f cd A outer s H E).ex:=fun b z=>absurd (show b∈([]:List Addr) from z) (by simp)
 refine ⟨⟨e0.mod,S.kind,rfl,rfl,Nat.le_refl _,fun y z c h1 h2=>?_,fun y hy=>?_,fun y c _ h=>?_,fun _=>hd,Around.frames_deeper e0.frames,.inr ⟨rfl,rfl⟩,fun b z=>absurd z (noA b),e0.bs,e0.bsz,fun b _ _=>noA b,fun b z=>absurd z (noA b),e0.funs,e0.frf⟩,
   rfl,e0.bare,Un.kept hk,⟨_,x.toInCall.ns,fun i y v h1 h2 h3=>?_⟩,fun y c h=>⟨_,x.cell y c h⟩,e0.hok.fresh (Nat.le_refl _),fun y c h=>?_,fun p hp=>absurd (show p∈([]:List (Addr×Obj)) from hp) (by simp),e0.hok.kept hk,?_⟩
 · exact name_of_addr x.apart (PySem.mem_of_lookup h1) (PySem.mem_of_lookup h2)
 · have hy:scope.names.lookup y=some .cell∨scope.names.lookup y=some .free:=hy
   rcases hy with hy | hy
   · exact og hy
   · exact absurd rfl (S.nofree _ (PySem.mem_of_lookup hy))
 · exact Nat.le_of_lt (x.above y c (PySem.mem_of_lookup h))
 · have hi:i<vs.length:=by
     unfold bX at h2
     by_cases hi:i<vs.length
     · exact hi
     · rw [List.getElem?_append_right (by simpa using hi)] at h2
       rw [List.getElem?_replicate] at h2
       split at h2 <;> cases h2
   have ha:vs[i]?=some v:=by
     unfold bX at h2
     rw [List.getElem?_append_left (by simpa using hi),List.getElem?_map] at h2
     cases e:vs[i]? with
     | none=>rw [e] at h2;cases h2
     | some a=>rw [e] at h2;cases h2;rfl
   obtain ⟨u,hu,rv⟩:=r.get ha
   have hp:ps[i]?=some y:=by
     rw [← S.pre,List.getElem?_take_of_lt (by omega)];exact h1
   have ndP:ps.Nodup:=by rw [← S.pre];exact S.nd.sublist (List.take_sublist _ _)
   refine ⟨u,rv,?_⟩
   rcases S.par y (List.mem_of_getElem? hp) with k | k
   · exact .inl ⟨k,lU ndP hp hu k⟩
   · obtain ⟨c,e⟩:=og (n:=s.heap.objs.size+1) k
     refine .inr ⟨.inl k,c,e,?_⟩
     have q:=x.cell y c e
     rw [lY ndP hp hu (by show scope.names.lookup y≠_;rw [k];decide)] at q
     exact q
 · exact e0.hok.fresh (Nat.le_of_lt (x.above y c (PySem.mem_of_lookup h)))
 · unfold bX
   show _=N.length
   rw [List.length_append,List.length_map,List.length_replicate]
   omega
theorem Du {CX : CXT} {P : Program} {w : World} {K : W.Frag} {mg : Str → Option Value} {base : Heap} {k : Nat} {f : Addr} {name qual : Str} {params : Arguments} {body : List Stmt} {scope : Scope} {dV kV doc pm cdv ct oc : Value} {an od : Option Addr}
    {osl : Array (Option Value)} {N ps : List Str} {sp : Sp} (lk : K.lookup f = some ⟨oc, od, .func (W.fnOf name qual params body scope dV kV doc pm an cdv ct), osl⟩) (hcd : W.codeIn K cdv qual = true) (S : ay N ps scope)
    (len : ∀ vs H Q E, sp vs H Q E → vs.length = ps.length)
    (hbody : ∀ (A : Around) (outer : List Env) (s : Shared) (H : Hp) (vs : List V) (Q : VK) (E : XK), aW k (A.deeper (envOfC qual scope s.heap.objs.size f cdv)) → sp vs H Q E →
      ∃ t, PSs (eC CX P w K mg base N qual scope f cdv A outer s H E) body t ∧ t { nx := fun _ H' => Q .non H', rt := Q } (bX N vs) H) :
    aN P w K mg base CX (k + 1) f (W.fnOf name qual params body scope dV kV doc pm an cdv ct) ps sp := by
  refine ⟨len, fun A outer s H args us vs Q E hr e0 hb r hsp => ?_⟩
  have hl := len _ _ _ _ hsp
  have KX : K.In s.heap := e0.mod.kin.keeps fun b o e => (e0.bs b o e).1
  have lim : s.heap.NoLimit := e0.mod.nolimit.keeps fun b o e => (e0.bs b o e).1
  have hkind : ∀ y ∈ ps.zip us, scope.names.lookup y.1 = some .local ∨ (scope.names.lookup y.1 = some .cell ∧ ((cellsFrom (s.heap.objs.size + 1) scope.names []).lookup y.1).isSome = true) := fun ⟨n, v⟩ hy => by
    rcases S.par n (List.of_mem_zip hy).1 with q | q
    · exact .inl q
    · exact .inr ⟨q, W.cellsFrom_some _ _ _ (.inl q)⟩
  refine codeAny_call_function hr.depth (KX _ _ lk) rfl S.co S.gen rfl (W.codeRec_of KX hcd) (hb _ _ _ _ ?_)
  refine wpAny_newFunctionEnv_cells S.kind hkind fun env he s1 x => ?_
  subst he
  refine ⟨lim.keeps x.toInCall.keep, codeAny_func ?_⟩
  obtain ⟨t, ht, hq⟩ := hbody A outer s H vs Q E (hr.deeper _) hsp
  have I : Inv (eC CX P w K mg base N qual scope f cdv A outer s H E) [] (bX N vs) H s1 := mi S hr.hd e0 hl r x
  refine wpAny_mono (ht [] s1 (bX N vs) H _ I hq) (fun fl s' hs => ?_) fun e s' hs => hs
  have fin : ∀ {σ' : St} {H' : Hp} {v : V} {u : Value}, Inv (eC CX P w K mg base N qual scope f cdv A outer s H E) [] σ' H' s' → aE v u → Q v H' → CE outer P w H s Q u s' :=
    fun {σ' H' v u} J rv q => ⟨v, H', J.os, J.bare, J.base, J.hok, rv, q⟩
  cases fl with
  | ret u =>
    obtain ⟨v, σ', H', J, rv, q⟩ := hs
    exact fin J rv q
  | next =>
    obtain ⟨σ', H', J, q⟩ := hs
    exact fin (v := V.non) (u := Value.none) J rfl q
  | brk =>
    obtain ⟨_, _, _, q⟩ := hs
    exact False.elim q
  | cont =>
    obtain ⟨_, _, _, q⟩ := hs
    exact False.elim q
section
variable {X:Cx} {x:Str} {p pos:Pos} {e:Expr} {es:List Expr} {t:TA} {id T:String} {r:List V→Hp→VK→Prop}
def tCB (r:List V→Hp→VK→Prop) (t:TA):TE:=fun σ H Q=>t σ H fun vs H1=>r vs H1 Q
theorem wo (hc:bo X (.builtin id) r) (hg:Gl X x) (hm:X.mg x=none) (hv:bootBuiltins x=some (.builtin id)) (ha:PA X (e::es) t) (hn:x≠ "__name__" :=by decide) (hdb:(x==("__debug__" :Str))=false:=by decide)
  (he:starEach (e::es) X.env=(false,eval e X.env)::starEach es X.env:=by rfl) (hpl:(backTo pos (starEach es X.env)).any (·.1)=false:=by rfl):PE X (.Call (.Name x p) (e::es) [] pos) (tCB r t):=by
 intro pins s σ H Q I h
 refine wpAny_Call_Name_kw (gk I hg hm hv ?_ hn hdb)
 exact PyProof.Rows.callWith_builtin1 (thn (ha pos pins s σ H _ I h) fun us s1 ⟨vs,H1,I1,r1,q1⟩=>hc pins s1 σ H1 vs us Q I1 r1 q1) he hpl
theorem sY (hc:bo X (.type T) r) (hg:Gl X x) (hm:X.mg x=none) (hv:bootBuiltins x=some (.type T)) (ha:PA X (e::es) t) (hn:x≠ "__name__" :=by decide) (hdb:(x==("__debug__" :Str))=false:=by decide)
  (he:starEach (e::es) X.env=(false,eval e X.env)::starEach es X.env:=by rfl) (hpl:(backTo pos (starEach es X.env)).any (·.1)=false:=by rfl):PE X (.Call (.Name x p) (e::es) [] pos) (tCB r t):=by
 intro pins s σ H Q I h
 refine wpAny_Call_Name_kw (gk I hg hm hv ?_ hn hdb)
 exact PyProof.Rows.callWith_type1 (thn (ha pos pins s σ H _ I h) fun us s1 ⟨vs,H1,I1,r1,q1⟩=>hc pins s1 σ H1 vs us Q I1 r1 q1) he hpl
end
end L2
namespace HT
open PySem PyProof.Rows
section
open PySem.SeqAt
open PySem.AutoSeq1 (wpAny_loadPart')
open PySem.MeetsSeq PySem.MeetsSeq2 PySem.MeetsSeq3
end
section
variable {prog:Program} {w:World} {A:Around} {E:Value→Shared→Prop} {s:Shared}
theorem yh {t b:Addr} {vs ws:List Value} {Q:Value→Shared→Prop} (ht:IsTup s.heap t vs.toArray) (hb:IsTup s.heap b ws.toArray) (hv:vs≠[])
   (h1:ws=[]→Q (.ref t) s) (h2:ws≠[]→Q (.ref s.heap.objs.size) { s with heap:=s.heap.push { cls:=.type "tuple",data:=.seq (vs++ws).toArray } })
   (hsz:vs.length+ws.length≤sizeLine):wpAny (model prog w) A (binaryOp .Add (.ref t) (.ref b)) Q E s:=by
 obtain ⟨⟨cls,dd,data,sl⟩,ho,hc,n,hd⟩:=id ht
 obtain ⟨⟨cls2,dd2,data2,sl2⟩,ho2,hc2,n2,hd2⟩:=id hb
 simp only at hc hd hc2 hd2
 subst hc hd hc2 hd2
 have e:vs.toArray++ws.toArray=(vs++ws).toArray:=by simp
 by_cases hw:ws=[]
 · exact concat_meets ⟨_,ho,rfl⟩ ⟨_,ho2,rfl⟩ noFill_tuple_add seq_tuple_add PySem.F.slot_tuple_add PySem.F.entry_tuple_add (PySem.F.args_tuple_add_2 _ _)
    (tuple_addW1 t b vs.toArray ws.toArray n n2 dd dd2 sl sl2 (by simpa using hv) (by simp [hw])) ⟨ho,ho2,h1 hw⟩
 · refine concat_meets ⟨_,ho,rfl⟩ ⟨_,ho2,rfl⟩ noFill_tuple_add seq_tuple_add PySem.F.slot_tuple_add PySem.F.entry_tuple_add (PySem.F.args_tuple_add_2 _ _)
    (tuple_addW2 t b vs.toArray ws.toArray n n2 dd dd2 sl sl2 (by simpa using hv) (by simpa using hw) (by rw [List.size_toArray,List.size_toArray];exact hsz)) ⟨ho,ho2,?_⟩
   rw [e]
   exact h2 hw
def sIx (n d:Nat):Option Int→Nat
 | none=>d
 | some v=>if v<0 then (v+(n:Int)).toNat else min v.toNat n
theorem BG (n d : Nat) (hd : d ≤ n) (o : Option Int) : sIx n d o ≤ n := by
  cases o with
  | none => exact hd
  | some v =>
    show (if v < 0 then (v + (n : Int)).toNat else min v.toNat n) ≤ n
    by_cases hv : v < 0
    · rw [if_pos hv]; omega
    · rw [if_neg hv]; exact Nat.min_le_right _ _
theorem pA (v:Int) (n d:Nat):(if v<0 then max (v+(n:Int)) 0 else min v (n:Int))=((sIx n d (some v):Nat):Int):=by
 show (if v<0 then max (v+(n:Int)) 0 else min v (n:Int))=(((if v<0 then (v+(n:Int)).toNat else min v.toNat n):Nat):Int)
 by_cases hv:v<0
 · simp only [if_pos hv];omega
 · simp only [if_neg hv];omega
theorem rh (lo hi:Option Int) (n:Nat):Builtin.Slice.sliceAdjust lo hi 1 (n:Int)=(((sIx n 0 lo:Nat):Int),((sIx n n hi:Nat):Int)):=by
 have h1:¬ ((1:Int)<0):=by omega
 unfold Builtin.Slice.sliceAdjust
 simp only [h1,if_false]
 refine Prod.ext ?_ ?_
 · cases lo with
   | none=>rfl
   | some v=>exact pA v n 0
 · cases hi with
   | none=>rfl
   | some v=>exact pA v n n
theorem qo (i j:Nat):Builtin.Slice.slicePlaces (i:Int) (j:Int) 1=j - i:=by
 unfold Builtin.Slice.slicePlaces
 have h1:(1:Int)>0:=by omega
 simp only [h1,if_true,Int.ediv_one]
 split <;> omega
theorem jW {v:Value} {o:Option Int} {Q:Option Int→Shared→Prop} (p:IsPart v o) (h:Q o s):wpAny (model prog w) A (Builtin.Slice.slicePartIndex v) Q E s:=by
 cases p with
 | none=>exact slicePart_none h
 | int i t=>exact slicePart_int h
theorem fv {sl:Addr} {vl vu:Value} {lo hi:Option Int} {n:Nat} {Q:Int×Int×Nat→Shared→Prop} (hs:s.heap.IsSliceOf sl vl vu .none) (pl:IsPart vl lo) (pu:IsPart vu hi)
  (h:Q (((sIx n 0 lo:Nat):Int),1,sIx n n hi - sIx n 0 lo) s):wpAny (model prog w) A (Builtin.Slice.sliceApplied (.ref sl) (pure (n:Int))) Q E s:=by
 obtain ⟨os,hos,hcs,hds⟩:=id hs
 unfold Builtin.Slice.sliceApplied Builtin.Slice.sliceFields
 refine wpAny_bind (wpAny_bind (wpAny_field hos hds (x:=vl) rfl (wpAny_bind (wpAny_field hos hds (x:=vu) rfl (wpAny_bind (wpAny_field hos hds (x:=.none) rfl (wpAny_pure ?_)))))))
 refine wpAny_bind (slicePart_none ?_)
 show wpAny _ _ (if ((1:Int)==0)=true then _ else _) _ _ s
 rw [if_neg (by decide)]
 refine wpAny_bind (jW pl (wpAny_bind (jW pu (wpAny_bind (wpAny_pure ?_)))))
 show wpAny _ _ (match Builtin.Slice.sliceAdjust lo hi 1 (n:Int) with | (lo,hi)=>pure (lo,(1:Int),Builtin.Slice.slicePlaces lo hi 1)) _ _ s
 rw [rh lo hi n]
 show wpAny _ _ (pure (((sIx n 0 lo:Nat):Int),(1:Int),Builtin.Slice.slicePlaces ((sIx n 0 lo:Nat):Int) ((sIx n n hi:Nat):Int) 1)) _ _ s
 rw [qo]
 exact wpAny_pure h
theorem wq (xs:Array Value) (i k:Nat):((List.range k).filterMap fun (m:Nat)=>xs[((i:Int)+(m:Int)*1).toNat]?).toArray=((xs.toList.drop i).take k).toArray:=by
 have e:(fun (m:Nat)=>xs[((i:Int)+(m:Int)*1).toNat]?)=fun m=>xs[i+m]?:=by
  funext m
  have:((i:Int)+(m:Int)*1).toNat=i+m:=by omega
  rw [this]
 rw [e]
 have:=pick_run xs i k
 rw [List.filterMap_map] at this
 have e2:((fun x=>xs[x]?)∘fun x=>i+x)=fun m=>xs[i+m]?:=rfl
 rw [e2] at this
 rw [this]
theorem jl {t sl:Addr} {items:Array Value} {vl vu:Value} {lo hi:Option Int} {Q:Value→Shared→Prop} (ht:IsTup s.heap t items) (hs:s.heap.IsSliceOf sl vl vu .none) (pl:IsPart vl lo) (pu:IsPart vu hi)
  (hw:¬ (sIx items.size 0 lo=0∧sIx items.size items.size hi=items.size))
  (h:Q (.ref s.heap.objs.size) { s with heap:=s.heap.push { cls:=.type "tuple",data:=.seq ((items.toList.drop (sIx items.size 0 lo)).take (sIx items.size items.size hi - sIx items.size 0 lo)).toArray } })
  (hsz:items.size≤sizeLine):wpAny (model prog w) A (getItem (.ref t) (.ref sl)) Q E s:=by
 have htake:sizeOk (.seq ((items.toList.drop (sIx items.size 0 lo)).take (sIx items.size items.size hi - sIx items.size 0 lo)).toArray):=by
  show ((items.toList.drop (sIx items.size 0 lo)).take (sIx items.size items.size hi - sIx items.size 0 lo)).toArray.size≤sizeLine
  rw [List.size_toArray,List.length_take,List.length_drop,Array.length_toList]
  omega
 have hj:sIx items.size items.size hi≤items.size:=BG _ _ (Nat.le_refl _) hi
 obtain ⟨os,hos,hcs,hds⟩:=id hs
 have hTs:s.TypeIs (.ref sl) "slice" :=⟨os,hos,hcs⟩
 unfold getItem
 try with_reducible refine wpAny_holding ?_
 first | refine wpAny_bind (wpAny_pure ?_) | skip
 refine wpAny_bind (wpAny_sequenceKey ht.typeIs (by decide) ?_)
 refine wpAny_bind (wpAny_callSpecial?_slot (name:=Str.ofString "__getitem__") ht.typeIs PyProof.Rows.slot_tuple_getitem
  (wpAny_call_entry PyProof.Rows.slot_tuple_getitem ht.typeIs entry_tuple_getitem ?_ (args_tuple_getitem _ _)))
 show wpAny _ _ (Builtin.Tuple.tupleItemsOf (.ref t)>>=_) _ _ s
 refine wpAny_bind (tupleItemsOf_ ht ?_)
 refine wpAny_bind (wpAny_typeOf hTs ?_)
 rw [if_pos (by decide)]
 refine wpAny_bind (fv hs pl pu ?_)
 have hno:¬ ((((sIx items.size 0 lo:Nat):Int)==0&&(1:Int)==1&&(sIx items.size items.size hi - sIx items.size 0 lo)==items.size)=true):=by
  intro q
  rw [Bool.and_eq_true,Bool.and_eq_true] at q
  have q1:((sIx items.size 0 lo:Nat):Int)=0:=eq_of_beq q.1.1
  have q2:sIx items.size items.size hi - sIx items.size 0 lo=items.size:=eq_of_beq q.2
  exact hw ⟨by omega,by omega⟩
 show wpAny _ _ (if (((sIx items.size 0 lo:Nat):Int)==0&&(1:Int)==1&&(sIx items.size items.size hi - sIx items.size 0 lo)==items.size)=true then _ else _) _ _ s
 rw [if_neg hno,wq]
 first
  | exact wpAny_bind (m:=Builtin.Tuple.tupleExact _) (wpAny_newObj_type (wpAny_pure ⟨_,rfl,wpAny_pure h⟩) htake)
  | exact wpAny_bind (m:=Builtin.Tuple.tupleExact _) (wpAny_newObj_type (wpAny_bind (wpAny_pure (wpAny_pure ⟨_,rfl,wpAny_pure h⟩))) htake)
  | exact wpAny_bind (wpAny_bind (m:=Builtin.Tuple.tupleExact _) (wpAny_newObj_type (wpAny_pure (wpAny_pure ⟨_,rfl,wpAny_pure h⟩)) htake))
  | exact wpAny_bind (wpAny_bind (m:=Builtin.Tuple.tupleExact _) (wpAny_newObj_type (wpAny_pure ⟨_,rfl,wpAny_pure h⟩) htake))
end
end HT
namespace L2
open PySem PySem.Spec PyProof.Rows
abbrev TO:=St→Hp→(Option Int→Hp→Prop)→Prop
def PO (X:Cx) (e:Option Expr) (t:TO):Prop:=
 ∀ (pins:List (Addr×Obj)) (s:Shared) (σ:St) (H:Hp) (Q:Option Int→Hp→Prop),Inv X pins σ H s→t σ H Q→
  wpAny (model X.prog X.w) X.A (evalPart e X.env) (fun u s'=>∃ o H',Inv X pins σ H' s'∧IsPart u o∧Q o H') X.xe s
def fW:TO:=fun _ H Q=>Q none H
def gR (t:TE):TO:=fun σ H Q=>t σ H fun x H1=>∃ i,x=.int i∧Q (some i) H1
section
variable {X:Cx} {e:Expr} {te:TE} {lo hi:Option Expr} {tl th:TO} {pos p2:Pos}
theorem yW:PO X none fW:=by
 intro pins s σ H Q I h
 rw [evalPart_none]
 exact wpAny_pure ⟨none,H,I,.none,h⟩
theorem yO (h:PE X e te):PO X (some e) (gR te):=by
 intro pins s σ H Q I hw
 rw [evalPart_some]
 refine thn (h pins s σ H _ I hw) fun u s1 ⟨x,H1,I1,r1,q1⟩=>?_
 obtain ⟨i,rfl,q⟩:=q1
 obtain ⟨t,rfl⟩:=r1
 exact ⟨some i,H1,I1,.int i t,q⟩
def SlR (X:Cx) (r:V→Option Int→Option Int→Hp→VK→Prop):Prop:=
 ∀ (pins:List (Addr×Obj)) (s:Shared) (σ:St) (H:Hp) (x:V) (v vl vu:Value) (lo hi:Option Int) (sl:Addr) (Q:VK),Inv X pins σ H s→aE x v→s.heap.IsSliceOf sl vl vu .none→IsPart vl lo→IsPart vu hi→r x lo hi H Q→
  ∃ T id,typeLookup (.type T) "__getitem__" =pure (some (.builtin id))∧s.TypeIs v T∧wpAny (model X.prog X.w) X.A (getItem v (.ref sl)) (EP X pins σ Q) X.xe s
theorem SlR.or {r r':V→Option Int→Option Int→Hp→VK→Prop} (h:SlR X r) (h':SlR X r'):SlR X (fun x lo hi H Q=>r x lo hi H Q∨r' x lo hi H Q):=by
 intro pins s σ H x v vl vu lo hi sl Q I rx hs pl pu q
 rcases q with q | q
 · exact h pins s σ H x v vl vu lo hi sl Q I rx hs pl pu q
 · exact h' pins s σ H x v vl vu lo hi sl Q I rx hs pl pu q
def tSl (r:V→Option Int→Option Int→Hp→VK→Prop) (te:TE) (tl th:TO):TE:=fun σ H Q=>te σ H fun x H1=>tl σ H1 fun l H2=>th σ H2 fun u H3=>r x l u H3 Q
theorem vQ {r:V→Option Int→Option Int→Hp→VK→Prop} (hr:SlR X r) (he:PE X e te) (hl:PO X lo tl) (hu:PO X hi th):PE X (.Subscript e (.Slice lo hi none p2) pos) (tSl r te tl th):=by
 intro pins s σ H Q I h
 refine Subscript_ (thn (he pins s σ H _ I h) fun v s1 ⟨x,H1,I1,r1,q1⟩=>?_)
 refine wpAny_Slice (thn (hl pins s1 σ H1 _ I1 q1) fun vl s2 ⟨l,H2,I2,pl,q2⟩=>thn (hu pins s2 σ H2 _ I2 q2) fun vu s3 ⟨u,H3,I3,pu,q3⟩=>?_)
 rw [evalPart_none]
 refine wpAny_pure ?_
 have I4:Inv X pins σ H3 { s3 with heap:=s3.heap.push { cls:=.type "slice",data:=.fields #[vl,vu,.none] } }:=I3.kept (t':=s3.toks) fun b ob q=>Heap.get?_push_of_some _ q
 obtain ⟨T,id,hT,ht,hg⟩:=hr pins { s3 with heap:=s3.heap.push { cls:=.type "slice",data:=.fields #[vl,vu,.none] } } σ H3 x v vl vu l u s3.heap.objs.size Q I4 r1 (Heap.IsSliceOf.new ..) pl pu q3
 show wpAny (model X.prog X.w) X.A (subscriptTail e (.Slice lo hi none p2) v (.ref s3.heap.objs.size)) (EP X pins σ Q) X.xe { s3 with heap:=s3.heap.push { cls:=.type "slice",data:=.fields #[vl,vu,.none] } }
 exact tail_any (ops:=[.ref s3.heap.objs.size,v]) ht hT hg (by with_unfolding_all rfl)
def dO (xs:List V) (lo hi:Option Int):List V:=(xs.drop (HT.sIx xs.length 0 lo)).take (HT.sIx xs.length xs.length hi - HT.sIx xs.length 0 lo)
theorem jq (xs:List V) (lo hi:Option Int):(dO xs lo hi).length≤xs.length:=by
 unfold dO
 rw [List.length_take,List.length_drop]
 omega
def EV (K:W.Frag):V→Option Int→Option Int→Hp→VK→Prop:=fun x lo hi H Q=>∃ a xs,x=.ref a∧SqT K H a xs∧
 ¬ (HT.sIx xs.length 0 lo=0∧HT.sIx xs.length xs.length hi=xs.length)∧∀ p,H p=none→Q (.ref p) (upd H p (.tup (dO xs lo hi)))
theorem zP:SlR X (EV X.K):=by
 intro pins s σ H x v vl vu lo hi sl Q I rx hs pl pu h
 obtain ⟨a,xs,rfl,hx,hw,q⟩:=h
 cases rx
 obtain ⟨its,r,ht,hz⟩:=I.tuple hx
 have hlen:its.toArray.size=xs.length:=by rw [List.size_toArray];exact r.length.symm
 refine ⟨"tuple",_,PyProof.Rows.slot_tuple_getitem.lookup,ht.typeIs,?_⟩
 refine HT.jl ht hs pl pu (by rw [hlen];exact hw) ?_ (by rw [hlen];exact hz)
 rw [hlen]
 refine ⟨.ref s.heap.objs.size,_,I.laid (t':=s.toks) (o:=.tup (dO xs lo hi)) (fun b ob q=>Heap.get?_push_of_some _ q) (Nat.le_refl _) ?_,rfl,q _ (I.hok.fresh (Nat.le_refl _))⟩
 exact ⟨Nat.le_trans (jq xs lo hi) hz,_,(r.drop (HT.sIx xs.length 0 lo)).take (HT.sIx xs.length xs.length hi - HT.sIx xs.length 0 lo),IsTup.new _ _⟩
def EK (K:W.Frag):R2:=fun x y H Q=>∃ a b xs ys,x=.ref a∧y=.ref b∧SqT K H a xs∧SqT K H b ys∧xs≠[]∧xs.length+ys.length≤sizeLine∧
 (ys=[]→Q (.ref a) H)∧(ys≠[]→∀ p,H p=none→Q (.ref p) (upd H p (.tup (xs++ys))))
theorem aG.nil_iff {xs:List V} {us:List Value} (r:aG xs us):us=[]↔xs=[]:=by
 cases r with
 | nil=>simp
 | cons _ _=>simp
theorem yQ:OpR X (binaryOp .Add) (EK X.K):=by
 intro pins s σ H x y v u Q I rx ry h
 obtain ⟨a,b,xs,ys,rfl,rfl,ha,hb,hx,hz,q1,q2⟩:=h
 cases rx
 cases ry
 obtain ⟨its,r1,p1,_⟩:=I.tuple ha
 obtain ⟨its2,r2,p2,_⟩:=I.tuple hb
 refine HT.yh p1 p2 (fun z=>hx (r1.nil_iff.mp z)) (fun z=>⟨.ref a,H,I,rfl,q1 (r2.nil_iff.mp z)⟩) (fun z=>?_) (by rw [← r1.length,←r2.length];exact hz)
 refine ⟨.ref s.heap.objs.size,_,I.laid (t':=s.toks) (o:=.tup (xs++ys)) (fun b ob q=>Heap.get?_push_of_some _ q) (Nat.le_refl _) ?_,rfl,q2 (fun w=>z (r2.nil_iff.mpr w)) _ (I.hok.fresh (Nat.le_refl _))⟩
 exact ⟨by rw [List.length_append];exact hz,_,r1.append r2,IsTup.new _ _⟩
end
def ixN (n:Nat) (i:Int):Option Nat:=if 0≤i then (if i<n then some i.toNat else none) else if -(n:Int)≤i then some (i+n).toNat else none
def atI {α:Type} (xs:List α) (i:Int):Option α:=(ixN xs.length i).bind fun j=>xs[j]?
theorem pY {n:Nat} {i:Int} {j:Nat} (h:ixN n i=some j):seqIndex? i n=some j∧j<n∧ -(n:Int)≤i∧i<n:=by
 unfold ixN at h
 by_cases h0:0≤i
 · rw [if_pos h0] at h
   by_cases h1:i<n
   · rw [if_pos h1] at h
     have e:i.toNat=j:=Option.some.inj h
     exact ⟨by rw [seqIndex_of h0 h1,e],by omega,by omega,h1⟩
   · rw [if_neg h1] at h;cases h
 · rw [if_neg h0] at h
   by_cases h1: -(n:Int)≤i
   · rw [if_pos h1] at h
     have e:(i+n).toNat=j:=Option.some.inj h
     exact ⟨by rw [seqIndex_neg (by omega) h1,e],by omega,h1,by omega⟩
   · rw [if_neg h1] at h;cases h
theorem fe {α : Type} {xs : List α} {i : Int} {v : α} (h : atI xs i = some v) : ∃ j, seqIndex? i xs.length = some j ∧ xs[j]? = some v ∧ j < xs.length ∧ -(xs.length : Int) ≤ i ∧ i < xs.length := by
  unfold atI at h
  cases e : ixN xs.length i with
  | none => rw [e] at h; cases h
  | some j =>
    rw [e] at h
    obtain ⟨h1, h2, h3, h4⟩ := pY e
    exact ⟨j, h1, h, h2, h3, h4⟩
def pL (b:Expr):Prop:=∀ o i,subscripted b false o i=operate [o,i] (getItem o i)
def IxR (X:Cx) (r:R2):Prop:=
 ∀ (value slice:Expr) (pins:List (Addr×Obj)) (s:Shared) (σ:St) (H:Hp) (x y:V) (v u:Value) (Q:VK),Inv X pins σ H s→aE x v→aE y u→r x y H Q→
  subscripted slice false v u=operate [v,u] (getItem v u)→wpAny (model X.prog X.w) X.A (subscriptTail value slice v u) (EP X pins σ Q) X.xe s
def MtR (X:Cx) (id:String) (r:V→List V→Hp→VK→Prop):Prop:=
 ∀ (pins:List (Addr×Obj)) (s:Shared) (σ:St) (H:Hp) (x:V) (xs:List V) (v:Value) (us:List Value) (Q:VK),Inv X pins σ H s→aE x v→aG xs us→r x xs H Q→
  wpAny (model X.prog X.w) X.A (call (.builtin id) (v::us)) (EP X pins σ Q) X.xe s
section
variable {X:Cx} {a b:Expr} {ta tb:TE} {pos:Pos}
theorem IxR.or {r r':R2} (h:IxR X r) (h':IxR X r'):IxR X (fun x y H Q=>r x y H Q∨r' x y H Q):=by
 intro value slice pins s σ H x y v u Q I rx ry q hs
 rcases q with q | q
 · exact h value slice pins s σ H x y v u Q I rx ry q hs
 · exact h' value slice pins s σ H x y v u Q I rx ry q hs
theorem Dp {r:R2} (hr:IxR X r) (ha:PE X a ta) (hb:PE X b tb) (hs:pL b):PE X (.Subscript a b pos) (tOp r ta tb):=by
 intro pins s σ H Q I h
 exact Subscript_ (vZ ha hb I h fun v u s2 x y H2 I2 rx ry q=>hr a b pins s2 σ H2 x y v u Q I2 rx ry q (hs _ _))
def BZ (K:W.Frag):R2:=fun x y H Q=>∃ p xs i v,x=.ref p∧y=.int i∧SqL K H p xs∧atI xs i=some v∧Q v H
def Bv (K:W.Frag):R2:=fun x y H Q=>∃ p xs i v,x=.ref p∧y=.int i∧SqT K H p xs∧atI xs i=some v∧Q v H
def Bb:R2:=fun x y H Q=>∃ z i c,x=.str z∧y=.int i∧z.length≤sizeLine∧atI z.cps.toList i=some c∧Q (.str ⟨#[c]⟩) H
theorem yX:IxR X (BZ X.K):=by
 intro value slice pins s σ H x y v u Q I rx ry h hs
 obtain ⟨p,xs,i,z,rfl,rfl,hq,he,q⟩:=h
 cases rx
 obtain ⟨t,rfl⟩:=ry
 obtain ⟨its,r,pl,hz⟩:=I.list hq
 obtain ⟨j,h1,h2,h3,h4,h5⟩:=fe he
 obtain ⟨w,ew,rw'⟩:=r.get h2
 have hl:=r.length
 have hn:=gs
 have fin:EP X pins σ Q w s:=⟨z,H,I,rw',q⟩
 by_cases h0:0≤i
 · have hj:i.toNat=j:=by
    rw [seqIndex_of h0 h5] at h1
    exact Option.some.inj h1
   exact item_listR pl.isList h0 (by omega) (by rw [hj];simpa using ew) fin hs
 · have hj:(i+(its.toArray.size:Int)).toNat=j:=by
    rw [seqIndex_neg (by omega) h4] at h1
    rw [List.size_toArray,←hl]
    exact Option.some.inj h1
   exact subscriptTail_builtinR (x:=w) pl.isList.typeIs slot_list_getitem.lookup
    (wpAny_getItem_list_neg (Q:=fun r s'=>r=w∧EP X pins σ Q r s') pl.isList (by omega) (by rw [List.size_toArray] <;> omega) (by omega) (by rw [hj];simpa using ew) ⟨rfl,fin⟩) hs
theorem Ae:IxR X (Bv X.K):=by
 intro value slice pins s σ H x y v u Q I rx ry h hs
 obtain ⟨p,xs,i,z,rfl,rfl,hq,he,q⟩:=h
 cases rx
 obtain ⟨t,rfl⟩:=ry
 obtain ⟨its,r,pl,hz⟩:=I.tuple hq
 obtain ⟨j,h1,h2,h3,h4,h5⟩:=fe he
 obtain ⟨w,ew,rw'⟩:=r.get h2
 have hl:=r.length
 have hn:=gs
 have fin:EP X pins σ Q w s:=⟨z,H,I,rw',q⟩
 exact subscriptTail_builtinR (x:=w) pl.typeIs slot_tuple_getitem.lookup
  (getItem_tuple (j:=j) (Q:=fun r s'=>r=w∧EP X pins σ Q r s') pl (by omega) (by omega) (by rw [List.size_toArray,←hl];exact h1) (by simpa using ew) ⟨rfl,fin⟩) hs
theorem Bq:IxR X Bb:=by
 intro value slice pins s σ H x y v u Q I rx ry h hs
 obtain ⟨z,i,c,rfl,rfl,hz,he,q⟩:=h
 obtain ⟨t,rfl⟩:=rx
 obtain ⟨t',rfl⟩:=ry
 obtain ⟨j,h1,h2,h3,h4,h5⟩:=fe he
 have hl:z.cps.toList.length=z.length:=by simp [Str.length]
 rw [hl] at h1 h4 h5
 have hn:=gs
 exact tail_any (typeIs_str s z t) slot_str_getitem.lookup (getItem_str (c:=c) (by
  have e1:decide (i< -(2^63:Int))=false:=decide_eq_false (by omega)
  have e2:decide (i≥2^63)=false:=decide_eq_false (by omega)
  rw [e1,e2,Bool.or_false]) (by rw [h1];simpa using h2) ⟨.str ⟨#[c]⟩,H,I.tok _,⟨_,rfl⟩,q⟩) hs
def rIx (K:W.Frag):R2:=fun x y H Q=>BZ K x y H Q∨Bv K x y H Q∨Bb x y H Q
theorem Bs:IxR X (rIx X.K):=yX.or (Ae.or Bq)
theorem re (its:List Value) (n j:Nat) (u:Value):Obj.mapSeq (·.setIfInBounds j u) { cls:=.type "list",data:=.seq its.toArray n }={ cls:=.type "list",data:=.seq (its.set j u).toArray n }:=by
 simp [Obj.mapSeq]
theorem Inv.lst {pins:List (Addr×Obj)} {σ:St} {H:Hp} {s:Shared} {p:Addr} {xs:List V} (I:Inv X pins σ H s) (h:H p=some (.lst xs)):
  ∃ (its:List Value) (n:Nat),aG xs its∧s.heap.get? p=some { cls:=.type "list",data:=.seq its.toArray n }∧xs.length≤sizeLine:=by
 obtain ⟨z,its,n,r,e⟩:=I.hok p _ h
 exact ⟨its,n,r,e,z⟩
theorem Inv.lstUpd {pins:List (Addr×Obj)} {σ:St} {H:Hp} {s:Shared} {p:Addr} {xs ys:List V} {its its':List Value} {n n':Nat} {f:Obj→Obj} (I:Inv X pins σ H s) (h:H p=some (.lst xs))
  (ho:s.heap.get? p=some { cls:=.type "list",data:=.seq its.toArray n }) (hf:f { cls:=.type "list",data:=.seq its.toArray n }={ cls:=.type "list",data:=.seq its'.toArray n' }) (r:aG ys its') (hz:ys.length≤sizeLine) (t:Nat):
  Inv X pins σ (upd H p (.lst ys)) { s with heap:=s.heap.update p f,toks:=t }:=by
 have e:(s.heap.update p f).get? p=some { cls:=.type "list",data:=.seq its'.toArray n' }:=by
  rw [Heap.get?_update_self f ho (by rw [hf] <;> rfl),hf]
 refine I.write (x:=p) (e:=p) (by rw [h];trivial) (.inl rfl) (fun b u hb q=>(Heap.get?_update_other _ _ (Ne.symm hb)).trans q) ⟨_,e⟩ ?_
 exact ⟨hz,its',n',r,e⟩
def xn:V→V→V→Hp→(Hp→Prop)→Prop:=fun o i v H Q=>∃ p xs k j,o=.ref p∧i=.int k∧H p=some (.lst xs)∧ixN xs.length k=some j∧Q (upd H p (.lst (xs.set j v)))
theorem vw:rq X xn:=by
 intro pins s σ H o i v ov iv u Q I ro ri rv h
 obtain ⟨p,xs,k,j,rfl,rfl,hp,hj,q⟩:=h
 cases ro
 obtain ⟨t,rfl⟩:=ri
 obtain ⟨its,n,r,ho,hz⟩:=I.lst hp
 obtain ⟨h1,h2,h3,h4⟩:=pY hj
 have hl:=r.length
 have hn:=gs
 have I':Inv X pins σ (upd H p (.lst (xs.set j v))) { s with heap:=s.heap.update p (Obj.mapSeq (·.setIfInBounds j u)) }:=
   I.lstUpd hp ho (re its n j u) (r.set rv j) (by rw [List.length_set];exact hz) s.toks
 by_cases h0:0≤k
 · have hk:k.toNat=j:=by
    rw [seqIndex_of h0 h4] at h1
    exact Option.some.inj h1
   exact W.ki_setAt ho h0 (by omega) (by rw [List.size_toArray,←hl];exact h4) (by rw [hk];exact ⟨_,I',q⟩)
 · have hk:(k+(its.toArray.size:Int)).toNat=j:=by
    rw [seqIndex_neg (by omega) h3] at h1
    rw [List.size_toArray,←hl]
    exact Option.some.inj h1
   exact W.ki_setBack ho (by omega) (by rw [List.size_toArray,←hl];exact h3) (by omega) (by rw [hk];exact ⟨_,I',q⟩)
theorem nV (lo hi : Option Int) (n : Nat) : (sliceBounds lo hi none n).1 = ((HT.sIx n 0 lo : Nat) : Int) ∧ (sliceBounds lo hi none n).2.1 = ((HT.sIx n n hi : Nat) : Int) ∧ (sliceBounds lo hi none n).2.2 = 1 := by
  refine ⟨?_, ?_, rfl⟩
  · cases lo with
    | none => simp [sliceBounds, HT.sIx]
    | some i =>
      simp only [sliceBounds, HT.sIx, Option.getD_none, show (1 : Int) > 0 by decide, if_true]
      by_cases h : i < 0
      · simp only [h, if_true] <;> omega
      · simp only [h, if_false] <;> omega
  · cases hi with
    | none => simp [sliceBounds, HT.sIx]
    | some i =>
      simp only [sliceBounds, HT.sIx, Option.getD_none, show (1 : Int) > 0 by decide, if_true]
      by_cases h : i < 0
      · simp only [h, if_true] <;> omega
      · simp only [h, if_false] <;> omega
theorem mv (its:List Value) (lo hi:Option Int):slicePick its.toArray lo hi none=((its.drop (HT.sIx its.length 0 lo)).take (HT.sIx its.length its.length hi - HT.sIx its.length 0 lo)).toArray:=by
 obtain ⟨h1,h2,h3⟩:=nV lo hi its.toArray.size
 unfold slicePick
 rw [h1,h2,h3]
 simp only [sliceRange_one,pick_run,List.size_toArray] <;> rfl
def BF (K:W.Frag):V→Option Int→Option Int→Hp→VK→Prop:=fun x lo hi H Q=>∃ a xs,x=.ref a∧SqL K H a xs∧∀ p,H p=none→Q (.ref p) (upd H p (.lst (dO xs lo hi)))
theorem yn:SlR X (BF X.K):=by
 intro pins s σ H x v vl vu lo hi sl Q I rx hs pl pu h
 obtain ⟨a,xs,rfl,hx,q⟩:=h
 cases rx
 obtain ⟨its,r,ht,hz⟩:=I.list hx
 have hlen:=r.length
 refine ⟨"list",_,slot_list_getitem.lookup,ht.isList.typeIs,?_⟩
 refine wpAny_getItem_list_slice ht.isList hs pl pu .none (by simp) ?_ (by rw [List.size_toArray] <;> omega)
 rw [mv,←hlen]
 refine ⟨.ref s.heap.objs.size,_,I.laid (t':=s.toks) (o:=.lst (dO xs lo hi)) (fun b ob q=>Heap.get?_push_of_some _ q) (Nat.le_refl _) ?_,rfl,q _ (I.hok.fresh (Nat.le_refl _))⟩
 exact ⟨Nat.le_trans (jq xs lo hi) hz,_,0,(r.drop (HT.sIx xs.length 0 lo)).take (HT.sIx xs.length xs.length hi - HT.sIx xs.length 0 lo),Heap.get?_push_size _ rfl⟩
theorem bo.or {f:Value} {r r':List V→Hp→VK→Prop} (h:bo X f r) (h':bo X f r'):bo X f (fun xs H Q=>r xs H Q∨r' xs H Q):=by
 intro pins s σ H xs us Q I rs q
 rcases q with q | q
 · exact h pins s σ H xs us Q I rs q
 · exact h' pins s σ H xs us Q I rs q
def tyV (K:W.Frag) (T:String) (x:V) (H:Hp):Prop:=match x with
 | .str _=>T= "str"
 | .int _=>T= "int"
 | .ref p=>(T= "list" ∧∃ xs,SqL K H p xs)∨(T= "tuple" ∧∃ o,K.lookup p=some o∧o.cls=.type "tuple" ∧o.dict=none)∨
  (T= "dict" ∧((∃ kvs,H p=some (.dK kvs))∨∃ kvs,H p=some (.dT kvs)))∨(T= "set" ∧∃ S n,H p=some (.set S n))
 | _=>False
theorem ss {pins : List (Addr × Obj)} {σ : St} {H : Hp} {s : Shared} {T : String} {x : V} {v : Value} (I : Inv X pins σ H s) (r : aE x v) (ty : tyV X.K T x H) :
    s.TypeIs v T ∧ ∀ a, v = .ref a → ∃ ob, s.heap.get? a = some ob ∧ ob.dict = none := by
  cases x with
  | str z =>
    obtain ⟨t, rfl⟩ := r
    cases (show T = "str" from ty)
    exact ⟨typeIs_str s z t, fun _ e => nomatch e⟩
  | int i =>
    obtain ⟨t, rfl⟩ := r
    cases (show T = "int" from ty)
    exact ⟨typeIs_int s i t, fun _ e => nomatch e⟩
  | ref p =>
    cases r
    rcases ty with ⟨rfl, xs, hq⟩ | ⟨rfl, o, hk, hc, hd⟩ | ⟨rfl, hk⟩ | ⟨rfl, S, n, hk⟩
    · obtain ⟨its, _, pl, _⟩ := I.list hq
      refine ⟨pl.isList.typeIs, fun a e => ?_⟩
      cases e
      obtain ⟨o, n, e, c, hd, _⟩ := pl
      exact ⟨o, e, hd⟩
    · refine ⟨⟨o, I.kIn p o hk, hc⟩, fun a e => ?_⟩
      cases e
      exact ⟨o, I.kIn _ o hk, hd⟩
    · have z : ∃ o, s.heap.get? p = some o ∧ o.ExactDict := by
        rcases hk with ⟨kvs, hk⟩ | ⟨kvs, hk⟩
        · obtain ⟨_, _, _, _, o, _, _, e, ex, _⟩ := I.hok p _ hk
          exact ⟨o, e, ex⟩
        · obtain ⟨_, _, _, _, o, _, _, e, ex, _⟩ := I.hok p _ hk
          exact ⟨o, e, ex⟩
      obtain ⟨o, e, ex⟩ := z
      refine ⟨⟨o, e, ex.1⟩, fun a e2 => ?_⟩
      cases e2
      exact ⟨o, e, ex.2.1⟩
    · obtain ⟨o, _, _, _, e, ex, _⟩ := I.hok p _ hk
      refine ⟨⟨o, e, ex.1⟩, fun a e2 => ?_⟩
      cases e2
      exact ⟨o, e, ex.2.1⟩
  | _ => exact False.elim ty
def jN (K:W.Frag) (T:String) (r:V→List V→Hp→VK→Prop) (to:TE):TE:=fun σ H Q=>to σ H fun x H1=>tyV K T x H1∧r x [] H1 Q
def tBM (K:W.Frag) (T:String) (r:V→List V→Hp→VK→Prop) (to:TE) (t:TA):TE:=fun σ H Q=>to σ H fun x H1=>tyV K T x H1∧t σ H1 fun xs H2=>r x xs H2 Q
variable {o e:Expr} {es:List Expr} {to:TE} {t:TA} {name:Str} {apos cpos:Pos} {T id:String} {r:V→List V→Hp→VK→Prop}
theorem BB (pa:PlainAttrs T) (slot:Slot T name id) (hty:typeOf (.builtin id)=pure (.type "method_descriptor")) (hm:MtR X id r) (ho:PE X o to)
  (hbase:attributeBase o name X.env (eval o X.env)=eval o X.env:=by rfl) (hline:(apos.endLine==cpos.line)=true:=by rfl):PE X (.Call (.Attribute o name apos) [] [] cpos) (jN X.K T r to):=by
 intro pins s σ H Q I h
 refine wpAny_Call_method0_late hbase hline (thn (ho pins s σ H _ I h) fun v s1 ⟨x,H1,I1,r1,ty,q1⟩=>?_)
 obtain ⟨h1,h2⟩:=ss I1 r1 ty
 exact ⟨T,id,pa,slot,hty,h1,h2,Calls.callWith_builtin rfl (PySem.evalArgs_none (hm pins s1 σ H1 x [] v [] Q I1 r1 .nil q1))⟩
theorem CS (pa : PlainAttrs T) (slot : Slot T name id) (hty : typeOf (.builtin id) = pure (.type "method_descriptor")) (hm : MtR X id r) (ho : PE X o to) (ha : PA X (e :: es) t)
  (hbase : attributeBase o name X.env (eval o X.env) = eval o X.env := by rfl)
  (hfew : ((backTo cpos (starEach (e :: es) X.env)).all (fun x => !x.1) && (backToKw cpos (keywordEach [] X.env)).all (fun x => x.1.isSome)
   && decide ((e :: es).length + ([] : List Keyword).length + (if ([] : List Keyword).isEmpty then 0 else 1) < 30)) = true := by rfl)
  (hline : (apos.endLine == cpos.line) = true := by rfl) (hs : starEach (e :: es) X.env = (false, eval e X.env) :: starEach es X.env := by rfl) (hplain : (backTo cpos (starEach es X.env)).any (·.1) = false := by rfl) :
  PE X (.Call (.Attribute o name apos) (e :: es) [] cpos) (tBM X.K T r to t) := by
 intro pins s σ H Q I h
 refine wpAny_Call_method_late hbase hfew hline rfl (thn (ho pins s σ H _ I h) fun v s1 ⟨x, H1, I1, r1, ty, q1⟩ => ?_)
 obtain ⟨h1, h2⟩ := ss I1 r1 ty
 refine ⟨T, id, pa, slot, hty, h1, h2, ?_⟩
 have hA := ha cpos pins s1 σ H1 _ I1 q1
 rw [hs] at hA ⊢
 refine Calls.callWith_builtin (by show (false || (backTo cpos (starEach es X.env)).any (·.1)) = false; rw [hplain] <;> rfl) (Calls.evalArgs_plain ?_)
 exact thn hA fun us s2 ⟨vs, H2, I2, r2, q2⟩ => hm pins s2 σ H2 x vs v us Q I2 r1 r2 q2
end
def MtM (X:Cx) (id:String) (r:V→List V→Hp→VK→Prop):Prop:=
 ∀ (pins:List (Addr×Obj)) (s:Shared) (σ:St) (H:Hp) (x:V) (xs:List V) (v:Value) (us:List Value) (Q:VK),Inv X pins σ H s→aE x v→aG xs us→r x xs H Q→
  wpAny (model X.prog X.w) X.A (call (.builtin id) (v::us)) (EP X pins σ Q) X.xe s
theorem aG.one:∀ {x:V} {us:List Value},aG [x] us→∃ u,us=[u]∧aE x u
 | _,_,.cons r .nil=>⟨_,rfl,r⟩
theorem aG.zero:∀ {us:List Value},aG [] us→us=[]
 | _,.nil=>rfl
theorem aG.rep {xs : List V} {us : List Value} (h : aG xs us) : ∀ k : Nat, aG (List.replicate k xs).flatten (List.replicate k us).flatten
  | 0 => .nil
  | k + 1 => by
    rw [List.replicate_succ, List.replicate_succ, List.flatten_cons, List.flatten_cons]
    exact aG.append h (aG.rep h k)
theorem lX (its : List Value) : ∀ (k : Nat) (acc : List Value),
    List.foldl (fun x1 x2 => x1 ++ x2) acc.toArray (List.replicate k its.toArray) = (acc ++ (List.replicate k its).flatten).toArray
  | 0, acc => by simp
  | k + 1, acc => by
    have e : acc.toArray ++ its.toArray = (acc ++ its).toArray := by simp
    have e2 : (acc ++ its) ++ (List.replicate k its).flatten = acc ++ (List.replicate (k + 1) its).flatten := by
      rw [List.replicate_succ, List.flatten_cons, List.append_assoc]
    rw [← e2, ← lX its k (acc ++ its), ← e, List.replicate_succ, List.foldl_cons]
section
variable {X:Cx} {pins:List (Addr×Obj)} {σ:St} {H:Hp} {s:Shared} {l b:Addr} {xs ys zs:List V}
theorem Inv.lset {its its':List Value} {n:Nat} {f:Array Value→Array Value} {t':Nat} (I:Inv X pins σ H s) (hH:H l=some (.lst xs))
  (e:s.heap.get? l=some { cls:=.type "list",data:=.seq its.toArray n }) (hf:f its.toArray=its'.toArray) (hv:aG ys its') (hz:ys.length≤sizeLine):
  Inv X pins σ (upd H l (.lst ys)) { s with heap:=s.heap.update l (Obj.mapSeq f),toks:=t' }:=by
 have q:=PySem.IsL.update e f
 rw [hf] at q
 refine I.write (x:=l) (e:=l) (by rw [hH];exact trivial) (.inl rfl) (fun b' u hb hu=>(Heap.get?_update_other s.heap (Obj.mapSeq f) (Ne.symm hb)).trans hu) ⟨_,q⟩ ?_
 exact ⟨hz,its',_,hv,q⟩
theorem Inv.lnew {its:List Value} {t':Nat} (I:Inv X pins σ H s) (hv:aG ys its) (hz:ys.length≤sizeLine):
  Inv X pins σ (upd H s.heap.objs.size (.lst ys)) { s with heap:=s.heap.push { cls:=.type "list",data:=.seq its.toArray },toks:=t' }:=
 I.laid (fun _ _ q=>Heap.get?_push_of_some _ q) (Nat.le_refl _) ⟨hz,its,0,hv,Heap.get?_push_size _ rfl⟩
theorem Inv.fresh (I:Inv X pins σ H s):H s.heap.objs.size=none:=I.hok.fresh (Nat.le_refl _)
theorem Inv.lstM (I:Inv X pins σ H s) (hH:H l=some (.lst xs)):xs.length≤sizeLine∧∃ (its:List Value) (n:Nat),aG xs its∧xs.length=its.length∧s.heap.get? l=some { cls:=.type "list",data:=.seq its.toArray n }:=by
 obtain ⟨z,its,n,r,e⟩:=I.hok l _ hH
 exact ⟨z,its,n,r,r.length,e⟩
end
section
variable {X:Cx}
def pT:V→List V→Hp→VK→Prop:=fun x vs H Q=>∃ l xs y,x=.ref l∧vs=[y]∧H l=some (.lst xs)∧xs.length<sizeLine∧Q .non (upd H l (.lst (xs++[y])))
theorem iK:MtM X "list.append" pT:=by
 intro pins s σ H x vs v us Q I rx rv h
 obtain ⟨l,xs,y,rfl,rfl,hH,hz,q⟩:=h
 cases rx
 obtain ⟨u,rfl,ru⟩:=rv.one
 obtain ⟨z,its,n,r,hl,e⟩:=I.lstM hH
 refine call_meets F.slot_list_append ⟨_,e,rfl⟩ F.entry_list_append (F.args_list_append_2 _ _) (PySem.list_append l its.toArray n u (by rw [List.size_toArray];omega)) ⟨e,?_⟩
 refine ⟨.non,_,I.lset (its':=its++[u]) hH e (by simp) (r.append (.cons ru .nil)) ?_,rfl,q⟩
 rw [List.length_append,List.length_singleton]
 omega
def Ax:R2:=fun x y H Q=>∃ l b xs zs,x=.ref l∧y=.ref b∧H l=some (.lst xs)∧H b=some (.lst zs)∧xs.length+zs.length≤sizeLine∧∀ p,H p=none→Q (.ref p) (upd H p (.lst (xs++zs)))
theorem Cg:OpR X (binaryOp .Add) Ax:=by
 intro pins s σ H x y v u Q I rx ry h
 obtain ⟨l,b,xs,zs,rfl,rfl,hH,hB,hz,q⟩:=h
 cases rx
 cases ry
 obtain ⟨z,its,n,r,hl,e⟩:=I.lstM hH
 obtain ⟨z2,its2,n2,r2,hl2,e2⟩:=I.lstM hB
 refine PySem.P.add_list e e2 ?_ (by rw [List.size_toArray,List.size_toArray];omega)
 have ea:its.toArray++its2.toArray=(its++its2).toArray:=by simp
 rw [ea]
 exact ⟨.ref _,_,I.lnew (t':=s.toks) (r.append r2) (by rw [List.length_append];omega),rfl,q _ I.fresh⟩
theorem oZ {α:Type} (xs:List α) (k:Nat):(List.replicate k xs).flatten.length=k*xs.length:=by
 induction k with
 | zero=>simp
 | succ k ih=>rw [List.replicate_succ,List.flatten_cons,List.length_append,ih,Nat.succ_mul,Nat.add_comm]
end
section
variable {prog:Program} {w:World} {A:Around} {E:Value→Shared→Prop} {s:Shared}
set_option maxRecDepth 100000 in
end

section
variable {κ:Type} [DecidableEq κ]
def bx (kvs:List (κ×V)) (k:κ):Option V:=(kvs.find? fun kv=>decide (kv.1=k)).map (·.2)
def cg (kvs:List (κ×V)) (k:κ) (v:V):List (κ×V):=
 if (kvs.any fun kv=>decide (kv.1=k))=true then kvs.map (fun kv=>if kv.1=k then (kv.1,v) else kv) else kvs++[(k,v)]
def gF (kvs:List (κ×V)) (k:κ):List (κ×V):=kvs.filter fun kv=>decide (kv.1≠k)
theorem cw {p:κ×V} {r:List (κ×V)} {k:κ} (e:p.1=k):bx (p::r) k=some p.2:=by simp [bx,List.find?_cons,e]
theorem cx {p:κ×V} {r:List (κ×V)} {k:κ} (e:¬ p.1=k):bx (p::r) k=bx r k:=by simp [bx,List.find?_cons,e]
theorem fw (k : κ) : ∀ kvs : List (κ × V), (kvs.any fun kv => decide (kv.1 = k)) = (bx kvs k).isSome
  | [] => rfl
  | p :: r => by
    rw [List.any_cons]
    by_cases e : p.1 = k
    · simp only [cw e, decide_eq_true e, Bool.true_or, Option.isSome_some]
    · rw [cx e, decide_eq_false e, Bool.false_or]; exact fw k r
theorem oh (k j : κ) (y : V) : ∀ kvs : List (κ × V), bx (kvs.map fun kv => if kv.1 = k then (kv.1, y) else kv) j = (bx kvs j).map fun x => if j = k then y else x
  | [] => rfl
  | p :: r => by
    have ih := oh k j y r
    rw [List.map_cons]
    by_cases h : p.1 = k
    · rw [if_pos h]
      by_cases e : p.1 = j
      · rw [cw (p := (p.1, y)) e, cw e, Option.map_some, if_pos (e.symm.trans h)]
      · rw [cx (p := (p.1, y)) e, cx e, ih]
    · rw [if_neg h]
      by_cases e : p.1 = j
      · rw [cw (p := p) e, cw e, Option.map_some, if_neg (fun z => h (e.trans z))]
      · rw [cx (p := p) e, cx e, ih]
theorem lW (k j : κ) (y : V) : ∀ kvs : List (κ × V), bx kvs k = none → bx (kvs ++ [(k, y)]) j = if j = k then some y else bx kvs j
  | [], _ => by
    by_cases e : k = j
    · rw [if_pos e.symm]; exact cw (p := (k, y)) e
    · rw [if_neg (fun z => e z.symm)]; exact cx (p := (k, y)) e
  | p :: r, hn => by
    rw [List.cons_append]
    have hk : ¬ p.1 = k := fun z => by rw [cw z] at hn; cases hn
    rw [cx hk] at hn
    have ih := lW k j y r hn
    by_cases e : p.1 = j
    · rw [cw e, cw e, if_neg (fun z => hk (e.trans z))]
    · rw [cx e, cx e, ih]
theorem wM (kvs:List (κ×V)) (k j:κ) (y:V):bx (cg kvs k y) j=if j=k then some y else bx kvs j:=by
 unfold cg
 by_cases a:(kvs.any fun kv=>decide (kv.1=k))=true
 · rw [if_pos a,oh]
   rw [fw] at a
   by_cases e:j=k
   · obtain ⟨x,hx⟩:=Option.isSome_iff_exists.mp a
     rw [if_pos e,e,hx,Option.map_some,if_pos rfl]
   · rw [if_neg e]
     cases bx kvs j with
     | none=>rfl
     | some x=>rw [Option.map_some,if_neg e]
 · rw [if_neg a]
   refine lW k j y kvs ?_
   rw [fw] at a
   cases q:bx kvs k with
   | none=>rfl
   | some x=>rw [q] at a;exact (a rfl).elim
theorem eK (kvs:List (κ×V)) (k:κ) (v:V):(cg kvs k v).length≤kvs.length+1:=by
 unfold cg
 split
 · rw [List.length_map];omega
 · rw [List.length_append,List.length_cons,List.length_nil];omega
theorem vt {kvs:List (κ×V)} {k:κ} (v:V) (h:bx kvs k=none):cg kvs k v=kvs++[(k,v)]:=by
 unfold cg
 rw [fw,h]
 exact if_neg (by decide)
theorem cy.isSome_eq {o : Option V} {u : Option Value} (r : cy o u) : o.isSome = u.isSome := by
  cases o with
  | none => cases u with
    | none => rfl
    | some _ => exact (show False from r).elim
  | some _ => cases u with
    | none => exact (show False from r).elim
    | some _ => rfl
theorem cy.getD {o : Option V} {u : Option Value} {d : V} {d' : Value} (r : cy o u) (rd : aE d d') : aE (o.getD d) (u.getD d') := by
  cases o with
  | none => cases u with
    | none => exact rd
    | some _ => exact (show False from r).elim
  | some _ => cases u with
    | none => exact (show False from r).elim
    | some _ => exact r
theorem KV.val {kvs : List (κ × V)} {vs : List (κ × Value)} (r : KV kvs vs) (k : κ) : cy (bx kvs k) (valueAt vs k) := by
  unfold KV at r
  induction r with
  | nil => exact True.intro
  | @cons p q ps qs h t ih =>
    obtain ⟨h1, h2⟩ := h
    by_cases e : p.1 = k
    · have e' : q.1 = k := h1.symm.trans e
      have b : valueAt (q :: qs) k = some q.2 := by simp [valueAt, List.find?_cons, e']
      rw [cw e, b]; exact h2
    · have e' : ¬ q.1 = k := fun z => e (h1.trans z)
      have b : valueAt (q :: qs) k = valueAt qs k := by simp [valueAt, List.find?_cons, e']
      rw [cx e, b]; exact ih
theorem KV.any {kvs:List (κ×V)} {vs:List (κ×Value)} (r:KV kvs vs) (k:κ):(kvs.any fun kv=>decide (kv.1=k))=vs.any fun kv=>decide (kv.1=k):=by
 unfold KV at r
 induction r with
 | nil=>rfl
 | cons h t ih=>rw [List.any_cons,List.any_cons,ih,h.1]
theorem KV.repl {kvs : List (κ × V)} {vs : List (κ × Value)} (r : KV kvs vs) (k : κ) {y : V} {u : Value} (ry : aE y u) :
    KV (kvs.map fun kv => if kv.1 = k then (kv.1, y) else kv) (vs.map fun kv => if kv.1 = k then (kv.1, u) else kv) := by
  unfold KV at r ⊢
  induction r with
  | nil => exact .nil
  | @cons p q ps qs h t ih =>
    rw [List.map_cons, List.map_cons]
    refine .cons ?_ ih
    obtain ⟨h1, h2⟩ := h
    by_cases e : p.1 = k
    · rw [if_pos e, if_pos (h1.symm.trans e)]; exact ⟨h1, ry⟩
    · rw [if_neg e, if_neg (fun z => e (h1.trans z))]; exact ⟨h1, h2⟩
theorem KV.put {kvs:List (κ×V)} {vs:List (κ×Value)} (r:KV kvs vs) (k:κ) {y:V} {u:Value} (ry:aE y u):KV (cg kvs k y) (stored vs k u):=by
 unfold cg stored
 rw [r.any k]
 by_cases e:(vs.any fun kv=>decide (kv.1=k))=true
 · rw [if_pos e,if_pos e];exact r.repl k ry
 · rw [if_neg e,if_neg e];exact Paired.snoc r ⟨rfl,ry⟩
theorem KV.drop {kvs : List (κ × V)} {vs : List (κ × Value)} (r : KV kvs vs) (k : κ) : KV (gF kvs k) (without vs k) := by
  unfold KV at r ⊢
  unfold gF without
  induction r with
  | nil => exact .nil
  | @cons p q ps qs h t ih =>
    obtain ⟨h1, h2⟩ := h
    rw [List.filter_cons, List.filter_cons]
    by_cases e : p.1 = k
    · have a : ¬ decide (p.1 ≠ k) = true := by simp [e]
      have b : ¬ decide (q.1 ≠ k) = true := by simp [h1.symm.trans e]
      rw [if_neg a, if_neg b]; exact ih
    · have e' : ¬ q.1 = k := fun z => e (h1.trans z)
      have a : decide (p.1 ≠ k) = true := by simp [e]
      have b : decide (q.1 ≠ k) = true := by simp [e']
      rw [if_pos a, if_pos b]; exact .cons ⟨h1, h2⟩ ih
theorem KV.length {kvs:List (κ×V)} {vs:List (κ×Value)} (r:KV kvs vs):kvs.length=vs.length:=Paired.length r
theorem vL (kvs:List (κ×V)) (k:κ):(gF kvs k).length≤kvs.length:=List.length_filter_le _ _
end
theorem eV {P:Program} {w:World} {k:Key} {u:Value} (r:aE (kV k) u):(ba P w).is k u=true:=by
 cases k with
 | inl i=>obtain ⟨t,e⟩:=(show ∃ t,u=Value.int i t from r);subst e;exact jo P w i t
 | inr x=>obtain ⟨t,e⟩:=(show ∃ t,u=Value.str x t from r);subst e;exact oR P w x t
theorem AK {a b : Key} (e : kV a = kV b) : a = b := by
  cases a with
  | inl i => cases b with
    | inl j => have e' : V.int i = V.int j := e; injection e' with e'; rw [e']
    | inr y => exact nomatch (show V.int i = V.str y from e)
  | inr x => cases b with
    | inl j => exact nomatch (show V.str x = V.int j from e)
    | inr y => have e' : V.str x = V.str y := e; injection e' with e'; rw [e']
theorem pP : ∀ {a b : List Key}, a.map kV = b.map kV → a = b
  | [], [], _ => rfl
  | [], _ :: _, e => by simp at e
  | _ :: _, [], e => by simp at e
  | x :: xs, y :: ys, e => by
    rw [List.map_cons, List.map_cons] at e
    injection e with e1 e2
    rw [AK e1, pP e2]
theorem mh {P : Program} {w : World} : ∀ {ks : List Key} {us : List Value}, aG (ks.map kV) us → ItemsAre (ba P w) ks us
  | [], _, r => by rw [List.map_nil] at r; cases r; exact .nil
  | k :: ks, _, r => by
    rw [List.map_cons] at r
    cases r with
    | cons h t => exact .cons (eV h) (mh t)
abbrev KT (H:Hp):List (List Key×V)→List (List Key×Addr×Value)→Prop:=Paired fun p q=>p.1=q.1∧H q.2.1=some (.tup (p.1.map kV))∧aE p.2 q.2.2
theorem KT.val {H : Hp} {kvs : List (List Key × V)} {xs : List (List Key × Addr × Value)} (r : KT H kvs xs) (k : List Key) : cy (bx kvs k) ((atKey xs k).map (·.2)) := by
  induction r with
  | nil => exact True.intro
  | @cons p q ps qs h t ih =>
    obtain ⟨h1, _, h2⟩ := h
    by_cases e : p.1 = k
    · have e' : q.1 = k := h1.symm.trans e
      have b : atKey (q :: qs) k = some q.2 := by simp [atKey, List.find?_cons, e']
      rw [cw e, b]; exact h2
    · have e' : ¬ q.1 = k := fun z => e (h1.trans z)
      have b : atKey (q :: qs) k = atKey qs k := by simp [atKey, List.find?_cons, e']
      rw [cx e, b]; exact ih
theorem KT.repl {H : Hp} {kvs : List (List Key × V)} {xs : List (List Key × Addr × Value)} (r : KT H kvs xs) (k : List Key) {y : V} {u : Value} (ry : aE y u) :
    KT H (kvs.map fun kv => if kv.1 = k then (kv.1, y) else kv) (xs.map (putAt k u)) := by
  induction r with
  | nil => exact .nil
  | @cons p q ps qs h t ih =>
    rw [List.map_cons, List.map_cons]
    refine .cons ?_ ih
    obtain ⟨h1, h2, h3⟩ := h
    unfold putAt
    by_cases e : p.1 = k
    · rw [if_pos e, if_pos (h1.symm.trans e)]; exact ⟨h1, h2, ry⟩
    · rw [if_neg e, if_neg (fun z => e (h1.trans z))]; exact ⟨h1, h2, h3⟩
theorem KT.put {H:Hp} {kvs:List (List Key×V)} {xs:List (List Key×Addr×Value)} (r:KT H kvs xs) (k:List Key) {b:Addr} {y:V} {u:Value} (hb:H b=some (.tup (k.map kV))) (ry:aE y u):
   KT H (cg kvs k y) (storedH xs k b u):=by
 have e:(kvs.any fun kv=>decide (kv.1=k))=(atKey xs k).isSome:=by
   rw [fw,(r.val k).isSome_eq,Option.isSome_map]
 unfold cg storedH
 rw [e]
 by_cases q:(atKey xs k).isSome=true
 · rw [if_pos q,if_pos q];exact r.repl k ry
 · rw [if_neg q,if_neg q];exact Paired.snoc r ⟨rfl,hb,ry⟩
theorem KT.keeps {H H':Hp} {kvs:List (List Key×V)} {xs:List (List Key×Addr×Value)} (r:KT H kvs xs) (ht:∀ b ys,H b=some (.tup ys)→H' b=some (.tup ys)):KT H' kvs xs:=
 Paired.mapP r fun _ _ z=>⟨z.1,ht _ _ z.2.1,z.2.2⟩
section
variable {P:Program} {w:World} {H:Hp} {h:Heap} {a:Addr}
theorem xJ {u:HO} (ok:HOk P w H h) (e:Rd H a u):aQ P w H h a u:=e.ok ok
theorem fS {kvs:List (Key×V)} (ok:HOk P w H h) (e:Rd H a (.dK kvs)):kvs.length≤sizeLine∧(a==sysModules)=false∧∃ vs,KV kvs vs∧h.DictOf (ba P w) a vs:=
 show aQ P w H h a (.dK kvs) from xJ ok e
theorem lc {kvs:List (Key×V)} (ok:HOk P w H h) (e:H a=some (.dK kvs)):kvs.length≤sizeLine∧(a==sysModules)=false∧∃ vs,KV kvs vs∧h.DictOf (ba P w) a vs:=fS ok (.inl e)
theorem eQ {ks:List Key} (ok:HOk P w H h) (e:H a=some (.tup (ks.map kV))):(tupleKind (ba P w)).is h ks a:=by
 obtain ⟨_,its,r,o,h1,h2,n,h3⟩:=(show aQ P w H h a (.tup (ks.map kV)) from ok a _ e)
 exact ⟨o,its.toArray,n,h1,h2,h3,by simpa using mh r⟩
theorem gJ {kvs : List (List Key × V)} (ok : HOk P w H h) (e : Rd H a (.dT kvs)) : kvs.length ≤ sizeLine ∧ (a == sysModules) = false ∧
    ∃ xs, KT H kvs xs ∧ h.DictOfH (tupleKind (ba P w)) a xs := by
  obtain ⟨z, y, xs, r, o, es, ep, h1, h2, h3, h4, h5⟩ := (show aQ P w H h a (.dT kvs) from xJ ok e)
  refine ⟨z, y, xs, r, o, es, ep, h1, h2, h3, h4, fun x hx => ?_, h5⟩
  have all : ∀ {l : List (List Key × V)} {m : List (List Key × Addr × Value)}, KT H l m → ∀ x ∈ m, (tupleKind (ba P w)).is h x.1 x.2.1 := by
    intro l m q
    induction q with
    | nil => intro x hx; exact nomatch hx
    | @cons p q ps qs hq t ih =>
      intro x hx
      rcases List.mem_cons.mp hx with e | hx
      · subst e
        exact eQ ok (by rw [← hq.1]; exact hq.2.1)
      · exact ih x hx
  exact all r x hx
theorem qV {kvs:List (List Key×V)} (ok:HOk P w H h) (e:H a=some (.dT kvs)):kvs.length≤sizeLine∧(a==sysModules)=false∧
 ∃ xs,KT H kvs xs∧h.DictOfH (tupleKind (ba P w)) a xs:=gJ ok (.inl e)
end
def cB (H:Hp) (a:Addr) (y:V) (r:Option V):Prop:=
 (∃ kvs k,Rd H a (.dK kvs)∧y=kV k∧r=bx kvs k)∨∃ kvs k b,Rd H a (.dT kvs)∧y=.ref b∧H b=some (.tup (k.map kV))∧r=bx kvs k
def lP (H:Hp) (a:Addr) (y v:V) (H':Hp):Prop:=
 (∃ kvs k,H a=some (.dK kvs)∧y=kV k∧kvs.length<sizeLine∧H'=upd H a (.dK (cg kvs k v)))∨
 ∃ kvs k b,H a=some (.dT kvs)∧y=.ref b∧H b=some (.tup (k.map kV))∧kvs.length<sizeLine∧H'=upd H a (.dT (cg kvs k v))
theorem cB.k {H:Hp} {a:Addr} {kvs:List (Key×V)} {k:Key} (e:H a=some (.dK kvs)):cB H a (kV k) (bx kvs k):=.inl ⟨kvs,k,.inl e,rfl,rfl⟩
theorem cB.t {H:Hp} {a b:Addr} {kvs:List (List Key×V)} {k:List Key} (e:H a=some (.dT kvs)) (eb:H b=some (.tup (k.map kV))):cB H a (.ref b) (bx kvs k):=.inr ⟨kvs,k,b,.inl e,rfl,eb,rfl⟩
theorem lP.k {H:Hp} {a:Addr} {kvs:List (Key×V)} {k:Key} {v:V} (e:H a=some (.dK kvs)) (hl:kvs.length<sizeLine):lP H a (kV k) v (upd H a (.dK (cg kvs k v))):=.inl ⟨kvs,k,e,rfl,hl,rfl⟩
section
variable {X:Cx} {pins:List (Addr×Obj)} {σ:St} {H:Hp} {s:Shared} {a:Addr} {y v:V} {u r:Value} {o:Option V} {A:Around} {E:Value→Shared→Prop}
theorem Inv.big (I:Inv X pins σ H s):sysModules<s.heap.objs.size:=by
 have h:mainGlobals<s.heap.objs.size:=(I.mod.glob.keeps I.bk).lt
 exact Nat.lt_trans (by decide) h
theorem tB {Q:Value→Shared→Prop} (hu:A.units+1<cLine) (I:Inv X pins σ H s) (g:cB H a y (some v)) (ry:aE y u) (h:∀ w' s',Inv X pins σ H s'→aE v w'→Q w' s'):
   wpAny (model X.prog X.w) A (getItem (.ref a) u) Q E s:=by
 rcases g with ⟨kvs,k,e,ey,l⟩ | ⟨kvs,k,b,e,ey,eb,l⟩
 · subst ey
   obtain ⟨z,hd,vs,rel,dd⟩:=fS I.hok e
   obtain ⟨w',hw,rw'⟩:=cy.some_of (v:=v) (o:=valueAt vs k) (by rw [l];exact rel.val k)
   exact wpAny_getItem_of (eV ry) dd.mapOf hw (h w' _ (I.tok _) rw')
 · subst ey
   cases (show u=Value.ref b from ry)
   obtain ⟨z,hd,xs,rel,dd⟩:=gJ I.hok e
   obtain ⟨w',hw,rw'⟩:=cy.some_of (v:=v) (o:=(atKey xs k).map (·.2)) (by rw [l];exact rel.val k)
   obtain ⟨p,hp,hp2⟩:=Option.map_eq_some_iff.mp hw
   refine wpAny_getItem_heap (tupleKind_room_in1 hu) (eQ I.hok eb) dd hp ?_
   rw [hp2]
   exact h w' _ (I.tok _) rw'
theorem EY {Q:Value→Shared→Prop} (hu:A.units+1<cLine) (I:Inv X pins σ H s) (g:cB H a y o) (ry:aE y u) (h:∀ s',Inv X pins σ H s'→Q (.bool o.isSome) s'):
   wpAny (model X.prog X.w) A (compareOp .In u (.ref a)) Q E s:=by
 rcases g with ⟨kvs,k,e,ey,l⟩ | ⟨kvs,k,b,e,ey,eb,l⟩
 · subst ey
   obtain ⟨z,hd,vs,rel,dd⟩:=fS I.hok e
   refine wpAny_in_of (eV ry) hd dd.mapOf ?_
   rw [← (rel.val k).isSome_eq,←l]
   exact h _ (I.tok _)
 · subst ey
   cases (show u=Value.ref b from ry)
   obtain ⟨z,hd,xs,rel,dd⟩:=gJ I.hok e
   refine wpAny_in_heap (tupleKind_room_in1 hu) (eQ I.hok eb) hd dd ?_
   have q:=(rel.val k).isSome_eq
   rw [Option.isSome_map] at q
   rw [← q,←l]
   exact h _ (I.tok _)
theorem yE {Q:Value→Shared→Prop} (hu:A.units+1<cLine) (I:Inv X pins σ H s) (g:cB H a y o) (ry:aE y u) (h:∀ s',Inv X pins σ H s'→Q (.bool (!o.isSome)) s'):
   wpAny (model X.prog X.w) A (compareOp .NotIn u (.ref a)) Q E s:=by
 rcases g with ⟨kvs,k,e,ey,l⟩ | ⟨kvs,k,b,e,ey,eb,l⟩
 · subst ey
   obtain ⟨z,hd,vs,rel,dd⟩:=fS I.hok e
   refine wpAny_notIn_of (eV ry) hd dd.mapOf ?_
   rw [← (rel.val k).isSome_eq,←l]
   exact h _ (I.tok _)
 · subst ey
   cases (show u=Value.ref b from ry)
   obtain ⟨z,hd,xs,rel,dd⟩:=gJ I.hok e
   refine wpAny_notIn_heap (tupleKind_room_in1 hu) (eQ I.hok eb) hd dd ?_
   have q:=(rel.val k).isSome_eq
   rw [Option.isSome_map] at q
   rw [← q,←l]
   exact h _ (I.tok _)
theorem gh {h':Heap} {t':Nat} {ob:HO} (I:Inv X pins σ H s) (mu:Mut (H a)) (hs:Heap.SameBut a s.heap h') (he:∃ q,h'.get? a=some q) (new:aQ X.prog X.w (upd H a ob) h' a ob):
  Inv X pins σ (upd H a ob) { s with heap:=h',toks:=t' }:=
 I.write (x:=a) (e:=a) mu (.inl rfl) (fun b q hb z=>(hs.2 b hb).trans z) he new
theorem lb {P:Program} {w:World} {H':Hp} {h':Heap} {kvs:List (Key×V)} {vs:List (Key×Value)} (z:kvs.length≤sizeLine) (hd:(a==sysModules)=false) (rel:KV kvs vs) (dd:h'.DictOf (ba P w) a vs):
 aQ P w H' h' a (.dK kvs):=⟨z,hd,vs,rel,dd⟩
theorem tE {H':Hp} {Q:Unit→Shared→Prop} (hu:A.units+1<cLine) (I:Inv X pins σ H s) (g:lP H a y v H') (ry:aE y u) (rv:aE v r) (h:∀ s',Inv X pins σ H' s'→Q () s'):
   wpAny (model X.prog X.w) A (setItem (.ref a) u r) Q E s:=by
 rcases g with ⟨kvs,k,e,ey,l,eH⟩ | ⟨kvs,k,b,e,ey,eb,l,eH⟩
 · subst ey eH
   obtain ⟨z,hd,vs,rel,dd⟩:=lc I.hok e
   have hz:vs.length≤sizeLine:=by rw [← rel.length];exact z
   have hl:(cg kvs k v).length≤sizeLine:=by have:=eK kvs k v;omega
   refine wpAny_setItem_pairs (hsz:=hz) (eV ry) dd fun h' dd' hs=>h _ ?_
   have he:∃ q,h'.get? a=some q:=let ⟨q,_,_,hq,_⟩:=dd';⟨q,hq⟩
   exact gh I (by rw [e];exact True.intro) hs he (lb hl hd (rel.put k rv) dd')
 · subst ey eH
   cases (show u=Value.ref b from ry)
   obtain ⟨z,hd,xs,rel,dd⟩:=qV I.hok e
   have hz:xs.length≤sizeLine:=by rw [← Paired.length rel];exact z
   have hl:(cg kvs k v).length≤sizeLine:=by have:=eK kvs k v;omega
   refine wpAny_setItem_heap (hsz:=hz) (tupleKind_room_in1 hu) (eQ I.hok eb) dd fun h' dd' hs=>h _ ?_
   obtain ⟨q,es,ep,hq,h2,h3,h4,_,h5⟩:=dd'
   refine gh I (by rw [e];exact True.intro) hs ⟨q,hq⟩ ⟨hl,hd,_,(rel.put k eb rv).keeps fun c ys ec=>?_,q,es,ep,hq,h2,h3,h4,h5⟩
   rw [ak (cY ec e (fun z=>nomatch z))]
   exact ec
end
section
variable {X:Cx} {pins:List (Addr×Obj)} {σ:St} {H:Hp} {s:Shared} {a:Addr} {kvs:List (Key×V)} {k:Key} {u:Value} {A:Around} {E:Value→Shared→Prop}
theorem Cv {v:V} {more:List Value} {Q:Value→Shared→Prop} (I:Inv X pins σ H s) (e:H a=some (.dK kvs)) (ry:aE (kV k) u) (l:bx kvs k=some v) (hm:more=[]∨∃ x,more=[x])
  (h:∀ w' s',Inv X pins σ (upd H a (.dK (gF kvs k))) s'→aE v w'→Q w' s'):wpAny (model X.prog X.w) A (call (.builtin "dict.pop") (.ref a::u::more)) Q E s:=by
 obtain ⟨z,hd,vs,rel,dd⟩:=lc I.hok e
 obtain ⟨w',hw,rw'⟩:=cy.some_of (v:=v) (o:=valueAt vs k) (by rw [← l];exact rel.val k)
 have hp:(keyPart u).isSome=true:=by
  cases k with
  | inl i=>obtain ⟨t,q⟩:=(show ∃ t,u=Value.int i t from ry);subst q;rfl
  | inr x=>obtain ⟨t,q⟩:=(show ∃ t,u=Value.str x t from ry);subst q;rfl
 have ha:argsOk "dict.pop" ⟨.ref a::u::more,[]⟩:=by
  rcases hm with q | ⟨x,q⟩
  · subst q;exact PySem.F.args_dict_pop_2 _ _
  · subst q;exact PySem.F.args_dict_pop_3 _ _ _
 refine call_meetsIn PySem.F.slot_dict_pop dd.typeIs PySem.F.entry_dict_pop ha (meets_dict_pop_there (ba X.prog X.w) a (eV ry) more hm hp)
  ⟨vs,w',dd,by rw [← rel.length];exact z,hw,fun h' dd' hs=>h w' _ ?_ rw'⟩
 have he:∃ q,h'.get? a=some q:=let ⟨q,_,_,hq,_⟩:=dd';⟨q,hq⟩
 exact gh I (by rw [e];exact True.intro) hs he (lb (Nat.le_trans (vL kvs k) z) hd (rel.drop k) dd')
theorem Et {Q:Value→Shared→Prop} (I:Inv X pins σ H s) (e:Rd H a (.dK kvs)) (h:∀ t s',Inv X pins σ H s'→Q (.int kvs.length t) s'):wpAny (model X.prog X.w) A (call (.builtin "len") [.ref a]) Q E s:=by
 obtain ⟨z,hd,vs,rel,dd⟩:=fS I.hok e
 refine call_len_dict hd dd (by rw [← rel.length];rw [sizeLine_eq] at z;omega) ?_
 rw [← rel.length]
 exact h _ _ (I.tok _)
end
theorem oK {X:Cx} {pins:List (Addr×Obj)} {σ:St} {H:Hp} {s:Shared} {a:Addr} {y:V} {o:Option V} (I:Inv X pins σ H s) (g:cB H a y o):s.TypeIs (.ref a) "dict" :=by
 rcases g with ⟨kvs,k,e,_,_⟩ | ⟨kvs,k,b,e,_,_,_⟩
 · obtain ⟨_,_,vs,_,dd⟩:=fS I.hok e
   exact dd.typeIs
 · obtain ⟨_,_,xs,_,dd⟩:=gJ I.hok e
   exact dd.typeIs
theorem wI {P:Program} {w:World} {H:Hp} (h:Heap) (hb:sysModules<h.objs.size):aQ P w H (h.push { cls:=.type "dict",data:=.dict #[] }) h.objs.size (.dK []):=
 ⟨Nat.zero_le _,beq_eq_false_iff_ne.mpr (Ne.symm (Nat.ne_of_lt hb)),[],.nil,Heap.DictOf.new h⟩
theorem wH {P:Program} {w:World} {H:Hp} (h:Heap) (hb:sysModules<h.objs.size):aQ P w H (h.push { cls:=.type "dict",data:=.dict #[] }) h.objs.size (.dT []):=
 ⟨Nat.zero_le _,beq_eq_false_iff_ne.mpr (Ne.symm (Nat.ne_of_lt hb)),[],.nil,_,#[],0,Heap.get?_push_size _ rfl,⟨rfl,rfl,rfl⟩,rfl,rfl,List.nodup_nil⟩
def sT:TE:=fun _ H Q=>∀ p,H p=none→Q (.ref p) (upd H p (.dK []))
def sr:TE:=fun _ H Q=>∀ p,H p=none→Q (.ref p) (upd H p (.dT []))
section
variable {X:Cx} {pos:Pos}
theorem vS:PE X (.Dict [] [] pos) sT:=fun pins s σ H Q I h=>
 wpAny_Dict_empty ⟨.ref s.heap.objs.size,_,I.laid (a:=s.heap.objs.size) (o:=.dK []) (t':=s.toks) (fun _ _ q=>Heap.get?_push_of_some _ q) (Nat.le_refl _) (wI s.heap I.big),rfl,h _ (I.hok.fresh (Nat.le_refl _))⟩
theorem wB:PE X (.Dict [] [] pos) sr:=fun pins s σ H Q I h=>
 wpAny_Dict_empty ⟨.ref s.heap.objs.size,_,I.laid (a:=s.heap.objs.size) (o:=.dT []) (t':=s.toks) (fun _ _ q=>Heap.get?_push_of_some _ q) (Nat.le_refl _) (wH s.heap I.big),rfl,h _ (I.hok.fresh (Nat.le_refl _))⟩
end
section
variable {X:Cx} {pins:List (Addr×Obj)} {σ:St} {H:Hp} {s:Shared} {a:Addr} {y d:V} {u r:Value} {o:Option V} {A:Around} {E:Value→Shared→Prop}
theorem Bl {Q:Value→Shared→Prop} (hu:A.units+1<cLine) (I:Inv X pins σ H s) (g:cB H a y o) (ry:aE y u) (h:∀ w' s',Inv X pins σ H s'→aE (o.getD .non) w'→Q w' s'):
   wpAny (model X.prog X.w) A (call (.builtin "dict.get") [.ref a,u]) Q E s:=by
 rcases g with ⟨kvs,k,e,ey,l⟩ | ⟨kvs,k,b,e,ey,eb,l⟩
 · subst ey
   obtain ⟨z,hd,vs,rel,dd⟩:=fS I.hok e
   refine call_meetsIn PySem.F.slot_dict_get dd.typeIs PySem.F.entry_dict_get (PySem.F.args_dict_get_2 _ _) (meets_dict_get (ba X.prog X.w) a (eV ry) hd) ⟨_,dd.mapOf,h _ _ (I.tok _) ?_⟩
   rw [l]
   exact (rel.val k).getD rfl
 · subst ey
   cases (show u=Value.ref b from ry)
   obtain ⟨z,hd,xs,rel,dd⟩:=gJ I.hok e
   refine call_meetsIn PySem.F.slot_dict_get dd.typeIs PySem.F.entry_dict_get (PySem.F.args_dict_get_2 _ _) (meetsH_dict_get (tupleKind (ba X.prog X.w)) a b hd) ⟨tupleKind_room_in1 hu,k,xs,eQ I.hok eb,dd,h _ _ (I.tok _) ?_⟩
   rw [l]
   exact (rel.val k).getD rfl
end

end L2
namespace Att
open PySem PySem.W PySem.Calls PyProof.Rows
theorem ints_of_wellAll {P : Params} {h : Heap} : ∀ (ns : List Int) (vs : List Value), WellAll P h vs (ns.map WData.int) → IntsAre vs ns := by
  intro ns
  induction ns with
  | nil =>
    intro vs w
    rw [List.map_nil] at w
    cases w
    exact .nil
  | cons n ns ih =>
    intro vs w
    rw [List.map_cons] at w
    cases w with
    | cons a b =>
      cases a
      exact .cons _ _ (ih _ b)
theorem script_of {l : OpenLaw} {n : Nat} (hn : l.most = some n) {P : Params} {h : Heap} {args : List WData} {vals : List Value}
    (hpre : l.row.toRowW.claim.pre args = true) (hwl : WellAll P h vals args) :
    ∃ a vs ns, vals = [Value.ref a] ∧ args = [WData.list (ns.map WData.int)] ∧ h.get? a = some { cls := .type "list", data := .seq vs.toArray } ∧ IntsAre vs ns ∧ ns.length ≤ n := by
  have hsh : WShape.hasAll [] args [.list .int] = true := (pre_splitW hpre).1
  have hc : l.pre.holds [] { args := args } = true := (pre_splitW hpre).2
  obtain ⟨d, r, rfl, h1, h2⟩ := hasAllW_cons hsh
  obtain rfl := hasAllW_nil h2
  obtain ⟨xs, rfl, h3⟩ := hasW_list h1
  obtain ⟨ns, rfl⟩ := items_int h3
  have hlen : ns.length ≤ n := by
    unfold OpenLaw.pre at hc
    have h4 : (WTm.not (.lt (.lit (.int (n : Int))) (.len (.arg 0)))).holds [] { args := [.list (ns.map .int)] } = true := by
      have h4 := (holds_andW hc).1
      rw [hn] at h4
      exact h4
    have h5 := condW_of h4 (w_not (w_lt w_lit (w_len_list (w_arg rfl))))
    rw [List.length_map] at h5
    refine Nat.le_of_not_lt fun q => ?_
    have q' : (n : Int) < ((ns.length : Nat) : Int) := by omega
    first
      | (rw [decide_eq_true q'] at h5; exact absurd h5 (by decide))
      | (simp at h5; omega)
  cases hwl with
  | cons w1 w2 =>
    cases w2
    cases w1 with
    | list ho hall => exact ⟨_, _, ns, rfl, rfl, ho, ints_of_wellAll ns _ hall, hlen⟩
theorem post_true (l:OpenLaw) (args:List WData):l.row.toRowW.claim.post args (.bool true) args=true:=
 postW_of (r:=l.row.toRowW) (X:=(true==true))
  (show WShape.has [] (.bool true) .bool=true by first | rfl | decide | simp [WShape.has,WShape.arms,WShape.armsAll])
  (show (WTm.eq .res (.lit (.bool true))).value [] { args:=args,res:=some (.bool true),after:=args }=some (.bool (true==true)) from w_eq_bool (w_res rfl) w_lit) rfl
theorem attach_call {l : OpenLaw} {n : Nat} {q : Program} {loose : List Str} {XP : (Str → Option Value) → Heap → Prop} {YP : World → Heap → Prop} {d : DefRec}
  (hn : l.most = some n) (hdf : d.params.defaults = [])
  (call : ∀ (w : World) (s₀ s₁ : Shared) (mg mb : Str → Option Value) (fa : Addr) (o : Obj) (pm cd doc : Value) (a : Addr) (vs : List Value) (ns : List Int),
   Ground q loose [] XP w s₀ mg mb s₁.heap → YP w s₁.heap →
   s₁.heap.get? fa = some o → o.data = .func (docDef d.name d.params d.body d.scope pm cd doc) → s₁.heap.CodeRec cd d.name → mg d.name = some (.ref fa) →
   s₁.heap.get? a = some { cls := .type "list", data := .seq vs.toArray } → IntsAre vs ns → ns.length ≤ n → s₁.gens = #[] →
   codeAny (model l.prog w) callerA (.call (.ref fa) ⟨[.ref a], []⟩) (fun r s' => r = .ok (.ret (.bool true)) ∧ OldK s₁.heap s'.heap ∧ s'.os = s₁.os ∧ AllBare s'.gens) s₁) :
  WalkO q loose XP YP l.row.toRowW d [] (fun f vs => PySem.call f vs) := by
 intro w s₀ s₁ mg mb G Y fa o pm cd doc dV kV ho hd hcd hD hmg hg args vals as hpre hlay hrd hwl hlo
 obtain rfl : dV = .none := Dflts.none hD hdf
 obtain rfl : kV = .none := Dflts.noKw hD
 obtain ⟨a, vs, ns, rfl, rfl, hobj, hints, hlen⟩ := script_of hn hpre hwl
 refine enter_call (codeAny_mono (call w s₀ s₁ mg mb fa o pm cd doc a vs ns G Y ho (fd_plain hd) hcd hmg hobj hints hlen hg) fun r s' hq => ?_)
 obtain ⟨rfl, h2, h3, h4⟩ := hq
 exact ⟨.inl ⟨.bool true, .bool true, [], rfl, fun _ => rfl, .bool true, post_true l _, fun _ => ⟨List.Pairwise.nil, fun _ hm => (nomatch hm)⟩⟩, h2, h3, h4⟩

end Att
namespace L2
open PySem PySem.Spec PyProof.Rows
theorem ms:∀ {vs:List Value} {ns:List Int},IntsAre vs ns→aG (ns.map V.int) vs
 | _,_,.nil=> .nil
 | _,_,.cons n t h=> .cons ⟨t,rfl⟩ (ms h)
def br (s:Stmt):Arguments:=match s with
 | .FunctionDef _ a _ _ _ _ _ _ _ _=>a
 | _=>{ posonlyargs:=[],args:=[],vararg:=none,kwonlyargs:=[],kw_defaults:=[],kwarg:=none,defaults:=[] }
def aT (s:Stmt):List Stmt:=match s with
 | .FunctionDef _ _ b _ _ _ _ _ _ _=>b
 | _=>[]
def aj (s:Stmt):Scope:=match s with
 | .FunctionDef _ _ _ _ _ _ sc _ _ _=>sc
 | _=>{ kind:=.function,names:=[],isGenerator:=false,isCoroutine:=false }
abbrev E0:XK:=fun _ _ _=>False
structure Fun (K:W.Frag) (x qual:Str) (st:Stmt) (f:Addr) (fd:FuncData):Prop where
 ex:∃ (oc:Value) (od:Option Addr) (kV doc pm:Value) (an:Option Addr) (cdv ct:Value) (osl:Array (Option Value)),
  fd=W.fnOf x qual (br st) (aT st) (aj st) .none kV doc pm an cdv ct∧K.lookup f=some ⟨oc,od,.func fd,osl⟩∧W.codeIn K cdv qual=true
 kp:W.keepIn K (.ref f)=true
section
variable {P:Program} {w:World} {K:W.Frag} {mg:Str→Option Value} {base:Heap}
theorem Fun.binds {x qual:Str} {st:Stmt} {f:Addr} {fd:FuncData} {ps:List Str} (F:Fun K x qual st f fd)
  (h:∀ (kV doc pm:Value) (an:Option Addr) (cdv ct:Value) (us:List Value),us.length=ps.length→bindArgs (W.fnOf x qual (br st) (aT st) (aj st) .none kV doc pm an cdv ct) ⟨us,[]⟩=pure (ps.zip us)):aU K fd ps []:=by
 obtain ⟨oc,od,kV,doc,pm,an,cdv,ct,osl,rfl,lk,hcd⟩:=F.ex
 exact .all (h kV doc pm an cdv ct)
theorem bu {x qual:Str} {st:Stmt} {f:Addr} {oc:Value} {od an:Option Addr} {osl:Array (Option Value)} {kV doc pm cdv ct:Value} (l:K.lookup f=some ⟨oc,od,.func (W.fnOf x qual (br st) (aT st) (aj st) .none kV doc pm an cdv ct),osl⟩)
 (c:W.codeIn K cdv qual=true) (k:W.keepIn K (.ref f)=true):Fun K x qual st f (W.fnOf x qual (br st) (aT st) (aj st) .none kV doc pm an cdv ct):=⟨⟨oc,od,kV,doc,pm,an,cdv,ct,osl,rfl,l,c⟩,k⟩
end
theorem iF {n:Nat} (h:n≤1000):n<sizeLine:=Nat.lt_of_le_of_lt h (by decide)
section
variable {X:Cx}
theorem sH:bo X (.builtin "len") (fun xs H Q=>∃ a kvs,xs=[V.ref a]∧H a=some (.dK kvs)∧Q (.int kvs.length) H):=by
 intro pins s σ H xs us Q I r h
 obtain ⟨a,kvs,rfl,ha,q⟩:=h
 obtain ⟨u,rfl,ru⟩:=dW r
 cases ru
 exact Et I (.inl ha) fun t s' I'=>⟨.int kvs.length,H,I',⟨t,rfl⟩,q⟩
end
theorem rf {A B:Prop} (h:A):if true=true then A else B:=by
 rw [if_pos rfl]
 exact h
def aq (H H':Hp):Prop:=∀ b o,H b=some o→H' b=some o
theorem aq.refl (H:Hp):aq H H:=fun _ _ h=>h
theorem aq.trans {H H1 H2:Hp} (a:aq H H1) (b:aq H1 H2):aq H H2:=fun c o h=>b c o (a c o h)
theorem aq.seq {K:W.Frag} {H H':Hp} {a:Addr} {xs:List V} (e:aq H H') (h:SqL K H a xs):SqL K H' a xs:=by
 rcases h with (h | ⟨o,h⟩) | h
 · exact .inl (.inl (e _ _ h))
 · exact .inl (.inr ⟨o,e _ _ h⟩)
 · exact .inr h

def bZ:List (Str×NameKind)→List (Str×Addr)→List (Str×Addr)→List (Str×Addr)
 | [],_,cs=>cs
 | (n,k)::r,cells,cs=>bZ r cells (if k==.free then (match cells.lookup n with | some a=>(n,a)::cs | none=>cs) else cs)
theorem iu {scope : Scope} {env : Env} (h : ∀ y ∈ scope.names, y.2 = .free → (env.cells.lookup y.1).isSome = true) : closureFor scope env = pure (bZ scope.names env.cells []) := by
  have key : ∀ (l : List (Str × NameKind)) (cs : List (Str × Addr)), (∀ y ∈ l, y.2 = .free → (env.cells.lookup y.1).isSome = true) →
      (forIn l cs (fun (x : Str × NameKind) (cs : List (Str × Addr)) => (if (x.2 == NameKind.free) = true then (do let a ← cellOf env x.1; pure (ForInStep.yield ((x.1, a) :: cs))) else (pure (ForInStep.yield cs) : Sem _))) : Sem (List (Str × Addr))) = pure (bZ l env.cells cs) := by
    intro l
    induction l with
    | nil => intro cs _; rfl
    | cons y r ih =>
      intro cs hy
      obtain ⟨n, k⟩ := y
      rw [List.forIn_cons]
      by_cases hk : k = .free
      · subst hk
        have hs := hy (n, .free) List.mem_cons_self rfl
        cases e : env.cells.lookup n with
        | none => rw [e] at hs; cases hs
        | some a =>
          have := ih ((n, a) :: cs) (fun z hz => hy z (List.mem_cons_of_mem _ hz))
          simp only [bZ, beq_self_eq_true, if_true, e, cellOf, pure_bind]
          exact this
      · have hb : (k == NameKind.free) = false := by simpa using hk
        have := ih cs (fun z hz => hy z (List.mem_cons_of_mem _ hz))
        simp only [bZ, hb, Bool.false_eq_true, if_false, pure_bind]
        exact this
  have := key scope.names [] h
  unfold closureFor
  simpa using this
theorem iz : ∀ {l : List (Str × NameKind)} {cells cs : List (Str × Addr)} {x : Str} {c : Addr}, (∀ x c, cs.lookup x = some c → cells.lookup x = some c) → (bZ l cells cs).lookup x = some c → cells.lookup x = some c
  | [], _, _, _, _, h, e => h _ _ e
  | (n, k) :: r, cells, cs, x, c, h, e => by
    refine iz (l := r) (fun y d hy => ?_) e
    split at hy
    · split at hy
      · rename_i a ha
        by_cases hyn : y = n
        · subst hyn
          rw [List.lookup_cons_self] at hy
          rw [← hy]; exact ha
        · rw [List.lookup_cons] at hy
          have : (y == n) = false := by simpa using hyn
          rw [this] at hy
          exact h _ _ hy
      · exact h _ _ hy
    · exact h _ _ hy
theorem kX : ∀ {l : List (Str × NameKind)} {cells cs : List (Str × Addr)} {x : Str}, (cs.lookup x).isSome = true → ((bZ l cells cs).lookup x).isSome = true
  | [], _, _, _, h => h
  | (n, k) :: r, cells, cs, x, h => by
    refine kX (l := r) ?_
    split
    · split
      · rw [List.lookup_cons]
        split
        · rfl
        · exact h
      · exact h
    · exact h
theorem eP : ∀ {l : List (Str × NameKind)} {cells cs : List (Str × Addr)} {x : Str}, (x, NameKind.free) ∈ l → (cells.lookup x).isSome = true → ((bZ l cells cs).lookup x).isSome = true
  | [], _, _, _, h, _ => by cases h
  | (n, k) :: r, cells, cs, x, h, hs => by
    rcases List.mem_cons.mp h with e | h
    · cases e
      refine kX (l := r) ?_
      simp only [beq_self_eq_true, if_true]
      cases e : cells.lookup n with
      | none => rw [e] at hs; cases hs
      | some a => simp only [List.lookup_cons_self]; rfl
    · exact eP (l := r) h hs
theorem gL {x:Str} {k:NameKind}:∀ {l:List (Str×NameKind)},l.lookup x=some k→(x,k)∈l:=fun h=>PySem.mem_of_lookup h
inductive dG (X:Cx) (scope:Scope):List Str→List Nat→Prop where
 | nil:dG X scope [] []
 | cons {y:Str} {i:Nat} {ys:List Str} {is:List Nat} (h1:X.N[i]?=some y) (h2:X.env.kindOf y=some .cell∨X.env.kindOf y=some .free) (h3:scope.names.lookup y=some .free) (h:dG X scope ys is):dG X scope (y::ys) (i::is)
structure dU (scope:Scope) (x:Str) (ys:List Str):Prop where
 kind:scope.kind=.function
 nocell:∀ y∈scope.names,y.2≠ .cell
 names:∀ y∈scope.names,y.2=.local→scope.names.lookup y.1=some .local
 own:scope.names.lookup x=some .local
 all:∀ y∈scope.names,y.2=.free→y.1∈ys
 nd:(x::ys).Nodup
def aC (X:Cx) (scope:Scope) (C:Addr) (N:List Str) (s:Shared) (H:Hp) (fp:List Addr):Cx:=
 { X with N:=N,s₀:=s,H₀:=H,env:=compEnvC scope (bZ scope.names X.env.cells []) C X.env,outer:=X.stack,ex:=fp,fn:=fun _=>false,pn:=[],xe:=fun _ _=>False }
def aI (σ:St) (is:List Nat):St:=is.map fun i=>(σ[i]?).getD none
theorem gl {f : Str × NameKind → Str × NameKind} (hf : ∀ p, (f p).1 = p.1) {x : Str} : ∀ (l : List (Str × NameKind)), (l.map f).lookup x = (l.lookup x).map fun k => (f (x, k)).2
  | [] => rfl
  | (n, k) :: r => by
    have ih := gl hf (x := x) r
    have e : f (n, k) = (n, (f (n, k)).2) := Prod.ext (hf (n, k)) rfl
    rw [List.map_cons, e, List.lookup_cons, List.lookup_cons]
    cases hx : x == n with
    | true =>
      have e' : x = n := by simpa using hx
      subst e'; rfl
    | false => exact ih
theorem hJ (scope:Scope) (env:Env) (x:Str):(relabel scope env).names.lookup x=(scope.names.lookup x).map fun k=>if (k==NameKind.free&&env.scope.kind==.function&&env.kindOf x==some .cell) then NameKind.cell else k:=by
 have hf:∀ p:Str×NameKind,((fun (n,k)=>if (k==NameKind.free&&env.scope.kind==.function&&env.kindOf n==some .cell) then (n,NameKind.cell) else (n,k)) p:Str×NameKind).1=p.1:=by
  intro p
  obtain ⟨n,k⟩:=p
  show (if _ then (n,NameKind.cell) else (n,k)).1=n
  split <;> rfl
 have:=gl hf (x:=x) scope.names
 show List.lookup x (List.map _ scope.names)=_
 rw [this]
 congr 1
 funext k
 show (if _ then (x,NameKind.cell) else (x,k)).2=_
 split <;> rfl
theorem dC {scope : Scope} {env : Env} {x : Str} {k : NameKind} (nc : ∀ y ∈ scope.names, y.2 ≠ .cell) (h : (relabel scope env).names.lookup x = some k) (hk : k = .cell ∨ k = .free) : (x, NameKind.free) ∈ scope.names := by
  rw [hJ] at h
  cases q : scope.names.lookup x with
  | none => rw [q] at h; cases h
  | some k' =>
    have hm := gL q
    rw [q] at h
    have h : (if (k' == NameKind.free && env.scope.kind == .function && env.kindOf x == some .cell) then NameKind.cell else k') = k := Option.some.inj h
    by_cases hc : k' = .free
    · subst hc; exact hm
    · have hb : (k' == NameKind.free) = false := by simpa using hc
      rw [hb] at h
      have h : k' = k := h
      subst h
      rcases hk with z | z
      · exact absurd z (nc _ hm)
      · exact absurd z hc
theorem iy {scope:Scope} {env:Env} {x:Str} (h:scope.names.lookup x=some .free):(relabel scope env).names.lookup x=some .cell∨(relabel scope env).names.lookup x=some .free:=by
 rw [hJ,h]
 show some (if _ then _ else _)=_∨some (if _ then _ else _)=_
 split
 · exact .inl rfl
 · exact .inr rfl
theorem eT {scope:Scope} {env:Env} {x:Str} (h:scope.names.lookup x=some .local):(relabel scope env).names.lookup x=some .local:=by
 rw [hJ,h];rfl
theorem lQ {X : Cx} {scope : Scope} {ys : List Str} {is : List Nat} {m : Str → Option Value} {h : Heap} {σ : St} (hc : dG X scope ys is)
    (hl : ∀ (i : Nat) (x : Str) (v : V), X.N[i]? = some x → σ[i]? = some (some v) → Vis X.env.scope x → ∃ u, aE v u ∧ Bo X.env h m x u) (nd : True) :
    ∀ (j : Nat) (y : Str) (v : V), ys[j]? = some y → (aI σ is)[j]? = some (some v) → ∃ u, aE v u ∧ scope.names.lookup y = some .free ∧ ∃ c, X.env.cells.lookup y = some c ∧ h.IsCell c (some u) := by
  induction hc with
  | nil => intro j y v e; simp at e
  | @cons z i zs js h1 h2 h3 hr ih =>
    intro j y v e1 e2
    cases j with
    | zero =>
      simp at e1; subst e1
      have e2 : (σ[i]?).getD none = some v := by simpa [aI] using e2
      have e3 : σ[i]? = some (some v) := by
        cases q : σ[i]? with
        | none => rw [q] at e2; simp at e2
        | some o => rw [q] at e2; simp at e2; rw [e2]
      have hv : Vis X.env.scope z := by
        rcases h2 with q | q
        · exact .inr (.inl q)
        · exact .inr (.inr q)
      obtain ⟨u, r, l⟩ := hl i z v h1 e3 hv
      refine ⟨u, r, h3, ?_⟩
      rcases l with ⟨k, _⟩ | ⟨_, c, e, ic⟩
      · rcases h2 with q | q
        · rw [q] at k; cases k
        · rw [q] at k; cases k
      · exact ⟨c, e, ic⟩
    | succ j =>
      exact ih j y v (by simpa using e1) (by simpa [aI] using e2)
def xp (is:List Nat) (tc:TT) (te:TE) (σ:St) (D:Addr) (J:It) (H1:Hp) (Q:VK):Prop:=∃ W:Nat→Nat→List V→Hp→Prop,(∃ m,W 0 m [] (upd H1 D (.lst [])))∧
 ∀ i m ys H2,W i m ys H2→(J.stop i H2∧Q (.ref D) H2)∨(J.go i H2∧∀ x H3,J.yld i H2 x H3→tc (some x::aI σ is) H3 fun b H4=>if b=true then
  te (some x::aI σ is) H4 fun y H5=>H5 D=some (.lst ys)∧ys.length<sizeLine∧∃ m',m'<m∧W (i+1) m' (ys++[y]) (upd H5 D (.lst (ys++[y])))
  else ∃ m',m'<m∧W (i+1) m' ys H4)
def fN (is:List Nat) (wi:TI) (tc:TT) (te:TE):TE:=fun σ H Q=>wi σ H fun J H1=>∀ D,H1 D=none→xp is tc te σ D J H1 Q
theorem oP (elt target iter c : Expr) (scope : Scope) (pos : Pos) (it acc : Value) (env : Env) :
    compTurn (.ListComp elt [⟨target, iter, [c], 0⟩] scope pos) 0 it acc env = (standAt iter.pos >>= fun _ => pyNext it >>= fun r => match r with
      | none => pure (.done .next)
      | some v => letOwnedTupleGo target it v >>= fun _ => assign target env v >>= fun _ => isTrue c env (eval c env) >>= fun ok =>
        (if ok = true then (eval elt env >>= fun x => call (.builtin "list.append") [acc, x] >>= fun _ => pure ()) else pure ()) >>= fun _ =>
          again (.compLoop (.ListComp elt [⟨target, iter, [c], 0⟩] scope pos) 0 it acc env)) := by
  unfold compTurn
  simp only [List.forIn_cons, List.forIn_nil, List.getElem?_cons_zero, List.getElem?_cons_succ, List.getElem?_nil, bind_assoc, pure_bind, bne_self_eq_false, Bool.false_eq_true, if_false, if_true]
  congr 1
  funext _
  congr 1
  funext r
  cases r with
  | none => rfl
  | some v =>
    simp only [bind_assoc, pure_bind, if_true]
    congr 1; funext _
    congr 1; funext _
    congr 1; funext b
    cases b <;> simp
section
variable {prog:Program} {w:World} {A:Around} {R:Result→Shared→Prop} {s:Shared}
theorem eu {elt target iter c : Expr} {scope : Scope} {pos : Pos} {it acc : Value} {env : Env} (I : Nat → Shared → Prop)
    (turn : ∀ n s, I n s → wpAny (model prog w) A (pyNext it) (fun r s₁ => match r with
      | none => R (.ok .next) s₁
      | some v => wpAny (model prog w) A (letOwnedTupleGo target it v) (fun _ s₁ => wpAny (model prog w) A (assign target env v) (fun _ s₂ => wpAny (model prog w) A (isTrue c env (eval c env)) (fun ok s₂ => if ok = true then wpAny (model prog w) A (eval elt env) (fun x s₃ =>
          wpAny (model prog w) A (call (.builtin "list.append") [acc, x]) (fun _ s₄ => ∃ m, m < n ∧ I m s₄) (notedBy (model prog w) A env fun e s' => R (.error e) s') s₃)
          (notedBy (model prog w) A env fun e s' => R (.error e) s') s₂ else ∃ m, m < n ∧ I m s₂) (notedBy (model prog w) A env fun e s' => R (.error e) s') s₂) (notedBy (model prog w) A env fun e s' => R (.error e) s') s₁) (notedBy (model prog w) A env fun e s' => R (.error e) s') s₁) (notedBy (model prog w) A env fun e s' => R (.error e) s') s)
    (n : Nat) (h : I n s) :
    codeAny (model prog w) A (.compLoop (.ListComp elt [⟨target, iter, [c], 0⟩] scope pos) 0 it acc env) R s := by
  refine codeAny_loop rfl I (fun n s hI => ?_) n h
  show wpAny _ _ ((compTurn (.ListComp elt [⟨target, iter, [c], 0⟩] scope pos) 0 it acc env).onRaise (fun x => do noteFrame x env; theTreesLotGoes x)) _ _ s
  refine wpAny_noted ?_
  rw [oP]
  refine wpAny_bind (wpAny_standAt (wpAny_bind (wpAny_mono (turn n s hI) (fun r s₁ h₁ => ?_) fun _ _ h' => h')))
  cases r with
  | none => exact wpAny_pure h₁
  | some v =>
    refine wpAny_bind (wpAny_mono h₁ (fun _ s₁ h₁ => wpAny_bind (wpAny_mono h₁ (fun _ s₂ h₂ => wpAny_bind (wpAny_mono h₂ (fun ok s₃ h₃ => ?_) fun _ _ h' => h')) fun _ _ h' => h')) fun _ _ h' => h')
    cases ok with
    | true =>
      rw [if_pos rfl] at h₃
      simp only [if_true]
      exact wpAny_bind (wpAny_bind (wpAny_mono h₃ (fun x s₃ h₃ => wpAny_bind (wpAny_mono h₃ (fun _ s₄ h₄ => wpAny_pure (wpAny_pure ⟨rfl, h₄⟩)) fun _ _ h' => h')) fun _ _ h' => h'))
    | false =>
      rw [if_neg Bool.false_ne_true] at h₃
      simp only [Bool.false_eq_true, if_false]
      exact wpAny_bind (wpAny_pure (wpAny_pure ⟨rfl, h₃⟩))
theorem et {elt target iter : Expr} {scope : Scope} {pos : Pos} {it acc : Value} {env : Env} (I : Nat → Shared → Prop)
    (turn : ∀ n s, I n s → wpAny (model prog w) A (pyNext it) (fun r s₁ => match r with
      | none => R (.ok .next) s₁
      | some v => wpAny (model prog w) A (letOwnedTupleGo target it v) (fun _ s₁ => wpAny (model prog w) A (assign target env v) (fun _ s₂ => wpAny (model prog w) A (eval elt env) (fun x s₃ =>
          wpAny (model prog w) A (call (.builtin "list.append") [acc, x]) (fun _ s₄ => ∃ m, m < n ∧ I m s₄) (notedBy (model prog w) A env fun e s' => R (.error e) s') s₃)
          (notedBy (model prog w) A env fun e s' => R (.error e) s') s₂) (notedBy (model prog w) A env fun e s' => R (.error e) s') s₁) (notedBy (model prog w) A env fun e s' => R (.error e) s') s₁) (notedBy (model prog w) A env fun e s' => R (.error e) s') s)
    (n : Nat) (h : I n s) :
    codeAny (model prog w) A (.compLoop (.ListComp elt [⟨target, iter, [], 0⟩] scope pos) 0 it acc env) R s := by
  refine codeAny_loop rfl I (fun n s hI => ?_) n h
  show wpAny _ _ ((compTurn (.ListComp elt [⟨target, iter, [], 0⟩] scope pos) 0 it acc env).onRaise (fun x => do noteFrame x env; theTreesLotGoes x)) _ _ s
  refine wpAny_noted ?_
  rw [compTurn_list1]
  refine wpAny_bind (wpAny_standAt (wpAny_bind (wpAny_mono (turn n s hI) (fun r s₁ h₁ => ?_) fun _ _ h' => h')))
  cases r with
  | none => exact wpAny_pure h₁
  | some v =>
    exact wpAny_bind (wpAny_mono h₁ (fun _ s₁ h₁ => wpAny_bind (wpAny_mono h₁ (fun _ s₂ h₂ => wpAny_bind (wpAny_bind (wpAny_mono h₂ (fun x s₃ h₃ => wpAny_bind (wpAny_mono h₃
      (fun _ s₄ h₄ => wpAny_pure (wpAny_pure ⟨rfl, h₄⟩)) fun _ _ h' => h')) fun _ _ h' => h'))) fun _ _ h' => h')) fun _ _ h' => h')
end
def lE (X:Cx) (ifs:List Expr) (tc:TT):Prop:=match ifs with
 | []=>tc=fun _ H Q=>Q true H
 | [c]=>PT X c tc
 | _=>False
section
variable {X:Cx}
theorem nv {scope:Scope} {ys:List Str} {is:List Nat} (h:dG X scope ys is):is.length=ys.length:=by
 induction h with
 | nil=>rfl
 | cons _ _ _ _ ih=>simp [ih]
theorem fI {scope : Scope} {ys : List Str} {is : List Nat} (h : dG X scope ys is) {y : Str} (hy : y ∈ ys) : X.env.kindOf y = some .cell ∨ X.env.kindOf y = some .free := by
  induction h with
  | nil => cases hy
  | cons _ h2 _ _ ih =>
    rcases List.mem_cons.mp hy with e | e
    · rw [e]; exact h2
    · exact ih e
theorem mf {elt iter : Expr} {ifs : List Expr} {x : Str} {px pos : Pos} {scope : Scope} {ys : List Str} {is : List Nat} {tc : TT} {te : TE} {pins : List (Addr × Obj)} {σ : St} {H2 : Hp} {s2 : Shared} {it : Addr} {fp : List Addr} {tn : Nat → Heap → Prop} {J : It} {E : Value → Shared → Prop} {Q : VK} {RR : Value → Addr → Result → Shared → Prop}
    (hc : X.calm = true) (S : dU scope x ys) (hcap : dG X scope ys is)
    (hif : ∀ C s H fp, lE (aC X scope C (x :: ys) s H fp) ifs tc) (he : ∀ C s H fp, PE (aC X scope C (x :: ys) s H fp) elt te)
    (I2 : Inv X pins σ H2 s2) (T : gS X.prog X.w X.K (.Name x px) J fp it tn) (st2 : tn 0 s2.heap) (f2 : ∀ b ∈ fp, ft X pins H2 b)
    (hW : ∀ D, H2 D = none → ∃ W : Nat → Nat → List V → Hp → Prop, (∃ m, W 0 m [] (upd H2 D (.lst []))) ∧
      ∀ i m ys H2, W i m ys H2 → (J.stop i H2 ∧ Q (.ref D) H2) ∨ (J.go i H2 ∧ ∀ x H3, J.yld i H2 x H3 → tc (some x :: aI σ is) H3 fun b H4 => if b = true then
        te (some x :: aI σ is) H4 fun y H5 => H5 D = some (.lst ys) ∧ ys.length < sizeLine ∧ ∃ m', m' < m ∧ W (i + 1) m' (ys ++ [y]) (upd H5 D (.lst (ys ++ [y])))
        else ∃ m', m' < m ∧ W (i + 1) m' ys H4))
    (hRR : ∀ D C H' s', (X.s₀.heap.objs.size ≤ C ∧ ∀ p ∈ X.pn ++ pins, p.1 ≠ C) → (∃ m, s'.heap.Ns C m) → C ≠ X.env.locals → H' C = none → Inv X pins σ H' s' → (∀ h', Heap.SameBut C s'.heap h' → Inv X pins σ H' { s' with heap := h' }) → Q (.ref D) H' → RR (.ref D) C (.ok .next) s') :
    wpAny (model X.prog X.w) X.A (newList []) (fun acc s₃ => wpAny (model X.prog X.w) X.A (newFunctionEnv scope X.env.globals (bZ scope.names X.env.cells []) [] X.env.qual none .none (some X.env)) (fun cenv s₄ =>
      codeAny (model X.prog X.w) X.A (.compStart (.ListComp elt [⟨.Name x px, iter, ifs, 0⟩] scope pos) 0 (.ref it) acc { cenv with scope := relabel scope X.env }) (RR acc cenv.locals) s₄) E s₃) E s2 := by
  have hf2 : H2 s2.heap.objs.size = none := I2.fresh
  refine wpAny_newObj_type (wpAny_newFunctionEnv S.nocell (by intro y hy; simp at hy) (fun h₁ hns₁ hsb₁ => ?_) S.kind)
  dsimp only at hns₁ hsb₁ ⊢
  have I3 : Inv X pins σ (upd H2 s2.heap.objs.size (.lst [])) { s2 with heap := s2.heap.push { cls := .type "list", data := .seq ([] : List Value).toArray } } := I2.lnew (t' := s2.toks) (ys := []) .nil (Nat.zero_le _)
  obtain ⟨W, ⟨m0, w0⟩, turn⟩ := hW _ hf2
  generalize hD : s2.heap.objs.size = D at I3 w0 turn hf2 ⊢
  generalize hs3 : ({ s2 with heap := s2.heap.push { cls := .type "list", data := .seq ([] : List Value).toArray } } : Shared) = s3 at I3
  have hp3 : s2.heap.push { cls := .type "list", dict := none, data := .seq ([] : List Value).toArray } = s3.heap := by rw [← hs3]
  rw [hp3] at hns₁ hsb₁ ⊢
  have tk3 : s2.toks = s3.toks := by rw [← hs3]
  generalize hH3 : upd H2 D (.lst []) = H3 at I3 w0
  generalize hC : s3.heap.objs.size = C at hns₁ hsb₁ ⊢
  have keep2 : ∀ b o, s2.heap.get? b = some o → s3.heap.get? b = some o := fun b o e => by rw [← hp3]; exact Heap.get?_push_of_some _ e
  have keep3 : ∀ b o, s3.heap.get? b = some o → h₁.get? b = some o := fun b o e => hsb₁.extBut b o (by rw [← hC]; exact Nat.ne_of_lt (Heap.lt_size e)) (Heap.get?_push_of_some _ e)
  have st3 : tn 0 s3.heap := T.keep _ _ _ st2 fun b _ o e => keep2 b o e
  have st4 : tn 0 h₁ := T.keep _ _ _ st3 fun b _ o e => keep3 b o e
  have fp3 : ∀ b ∈ fp, H3 b = none ∧ b < C := fun b hb => by
    obtain ⟨o, e, _⟩ := T.obj _ _ st2 b hb
    refine ⟨?_, by rw [← hC]; exact Heap.lt_size (keep2 b o e)⟩
    rw [← hH3, ak (by rw [← hD]; exact Nat.ne_of_lt (Heap.lt_size e))]
    exact (f2 b hb).1
  have hcells : ∀ {z : Str} {c : Addr}, (bZ scope.names X.env.cells []).lookup z = some c → X.env.cells.lookup z = some c := fun h => iz (fun _ _ q => by cases q) h
  have hX : (aC X scope C (x :: ys) s3 H3 fp).Ok := by
    refine ⟨I3.ok.mod, S.kind, I3.ok.glob, I3.ok.blt, Nat.le_of_eq hC, fun y z c h1 h2 => I3.ok.inj y z c (hcells h1) (hcells h2), fun y hy => ?_, fun y c h _ => absurd (show false = true from h) Bool.false_ne_true, I3.ok.hd, I3.ok.frames, .inl rfl, fun b hb => ⟨Nat.ne_of_lt (fp3 b hb).2, fun y c h => (f2 b hb).2.2.2.2.1 y c (hcells h)⟩, fun b o e => I3.bs b o e, Nat.le_trans I3.ok.bsz I3.sz, fun b o e hb => ?_, fun b hb z => ?_, I3.stack, I3.stkFree⟩
    · have hy : (relabel scope X.env).names.lookup y = some .cell ∨ (relabel scope X.env).names.lookup y = some .free := hy
      have hm : (y, NameKind.free) ∈ scope.names := by
        rcases hy with q | q
        · exact dC S.nocell q (.inl rfl)
        · exact dC S.nocell q (.inr rfl)
      have hs : ∃ c, X.env.cells.lookup y = some c := by
        by_cases hk : X.env.kindOf y = some .cell ∨ X.env.kindOf y = some .free
        · exact I3.ok.has y hk
        · exact absurd (fI hcap (S.all _ hm rfl)) hk
      exact Option.isSome_iff_exists.mp (eP hm (Option.isSome_iff_exists.mpr hs))
    · rcases (f2 b hb).2.2.2.1 with z | z
      · exact I3.ok.noex b o e z
      · exact absurd (Nat.lt_of_lt_of_le (Heap.lt_size e) (Nat.le_trans I3.ok.bsz z)) (Nat.lt_irrefl _)
    · rcases List.mem_cons.mp (I3.stkSub b z) with q | q
      · exact (f2 b hb).2.1 q
      · exact (f2 b hb).2.2.1 q
  have I4 : Inv (aC X scope C (x :: ys) s3 H3 fp) [] (none :: aI σ is) H3 { s2 with heap := h₁, toks := s2.toks + ([] : List (Str × Value)).length } := by
    obtain ⟨m3, hm3, hl3⟩ := id I3.loc
    refine ⟨hX, ?_, ?_, Un.kept keep3, ⟨_, hns₁, fun i y v e1 e2 e3 => ?_⟩, fun y c e => ?_, ?_, fun y c e => I3.freeC y c (hcells e), fun p hp => absurd (show p ∈ ([] : List (Addr × Obj)) from hp) (by simp), I3.hok.kept keep3, ?_⟩
    · show s2.os = s3.os
      rw [← hs3]
    · have := I2.bare; exact this
    · cases i with
      | zero => simp at e2
      | succ j =>
        obtain ⟨u, r, hfr, c, ec, ic⟩ := lQ hcap hl3 trivial j y v (by have e1' : (x :: ys)[j + 1]? = some y := e1; simpa using e1') (by simpa using e2)
        have hk := iy (env := X.env) hfr
        obtain ⟨c', ec'⟩ := Option.isSome_iff_exists.mp (eP (cs := []) (gL hfr) (by rw [ec]; rfl) (cells := X.env.cells))
        have : c' = c := by have := hcells ec'; rw [ec] at this; exact (Option.some.inj this).symm
        subst this
        obtain ⟨o, ho, hd⟩ := ic
        exact ⟨u, r, .inr ⟨hk, c', ec', o, keep3 _ _ ho, hd⟩⟩
    · obtain ⟨v, o, ho, hd⟩ := I3.cell y c (hcells e)
      exact ⟨v, o, keep3 _ _ ho, hd⟩
    · have := I3.hok.fresh (a := C) (Nat.le_of_eq hC)
      exact this
    · have := nv hcap
      show (none :: aI σ is).length = (x :: ys).length
      simp [aI, this]
  have lenσ : ∀ v : Option V, (v :: aI σ is).set 0 = fun w => w :: aI σ is := fun v => rfl
  have hown : (relabel scope X.env).names.lookup x = some .local := eT S.own
  have loop : codeAny (model X.prog X.w) X.A (.compLoop (.ListComp elt [⟨.Name x px, iter, ifs, 0⟩] scope pos) 0 (.ref it) (.ref D) (compEnvC scope (bZ scope.names X.env.cells []) C X.env)) (RR (.ref D) C)
      { s2 with heap := h₁, toks := s2.toks + ([] : List (Str × Value)).length } := by
    have fin : ∀ {H' : Hp} {v : Option V} {s' : Shared}, Inv (aC X scope C (x :: ys) s3 H3 fp) [] (v :: aI σ is) H' s' → Q (.ref D) H' → RR (.ref D) C (.ok .next) s' := fun {H' v s'} J q => by
      obtain ⟨m', hm', _⟩ := J.loc
      have hCL : C ≠ X.env.locals := Ne.symm (by rw [← hC]; exact Nat.ne_of_lt I3.lt)
      have back : ∀ h', Heap.SameBut C s'.heap h' → Inv X pins σ H' { s' with heap := h' } := fun h' hs' => by
        have os' : s'.os = s3.os := J.os
        refine I3.call' (s' := { s' with heap := h' }) (ch := fp) os' ⟨fun b o e n hb hx => ?_, fun b o e n hb hx => ?_, fun b o e n hx => J.base.free b o e n hx, fun b o e hx => ?_, J.base.tups, J.base.frzs, J.base.tbls⟩ (fun b o e => ?_) J.bare fun b hb => ?_
        · exact hs'.extBut b o (by rw [← hC]; exact Nat.ne_of_lt (Heap.lt_size e)) (J.base.keep b o e n hb hx)
        · obtain ⟨sl, e1⟩ := J.base.slot b o e n hb hx
          exact ⟨sl, hs'.extBut b _ (by rw [← hC]; exact Nat.ne_of_lt (Heap.lt_size e)) e1⟩
        · obtain ⟨o', e1⟩ := J.base.there b o e hx
          exact ⟨o', hs'.extBut b _ (by rw [← hC]; exact Nat.ne_of_lt (Heap.lt_size e)) e1⟩
        · refine (J.hok b o e).stay (fun c w' hc q => (hs'.2 c ?_).trans q) (fun _ q => q) fun _ _ q => q
          have fC : H' C = none := J.free
          rintro rfl
          rcases hc with rfl | hc
          · rw [fC] at e; cases e
          · rw [fC] at hc; cases hc
        · obtain ⟨_, a1, _, a2, a3, a4⟩ := f2 b hb
          exact ⟨a2, a1, a3, a4⟩
      refine hRR D C H' s' ⟨by rw [← hC]; exact I3.sz, fun p hp => by rw [← hC]; exact Nat.ne_of_lt (Heap.lt_size (I3.pin p hp).1)⟩ ⟨m', hm'⟩ hCL J.free ?_ back q
      have := back s'.heap (.refl ..)
      exact this
    have stat : ∀ {H' : Hp}, (∀ b ∈ fp, H' b = none) → ∀ b ∈ fp, ft (aC X scope C (x :: ys) s3 H3 fp) [] H' b := fun hn b hb => by
      obtain ⟨_, a1, a5, a2, a3, a4⟩ := f2 b hb
      refine ⟨hn b hb, Nat.ne_of_lt (fp3 b hb).2, fun z => ?_, .inl hb, fun y c e => a3 y c (hcells e), fun p hp => absurd (show p ∈ ([] : List (Addr × Obj)) from hp) (by simp)⟩
      rcases List.mem_cons.mp (I3.stkSub b z) with q | q
      · exact a1 q
      · exact a5 q
    have turnAt : ∀ n s, (∃ i v ys' H', Inv (aC X scope C (x :: ys) s3 H3 fp) [] (v :: aI σ is) H' s ∧ tn i s.heap ∧ (∀ b ∈ fp, H' b = none) ∧ W i n ys' H') →
        wpAny (model X.prog X.w) X.A (pyNext (.ref it)) (fun r s₁ => match r with
          | none => RR (.ref D) C (.ok .next) s₁
          | some u => wpAny (model X.prog X.w) X.A (letOwnedTupleGo (.Name x px) (.ref it) u) (fun _ s₁ => wpAny (model X.prog X.w) X.A (assign (.Name x px) (compEnvC scope (bZ scope.names X.env.cells []) C X.env) u) (fun _ s₂ =>
            ∃ (xx : V) (i : Nat) (ys' : List V) (H3' H6 : Hp) (pl : List (Addr × Obj)), Inv (aC X scope C (x :: ys) s3 H3 fp) ([] ++ pl) (some xx :: aI σ is) H6 s₂ ∧
              (∀ s7 v7 H7, Inv (aC X scope C (x :: ys) s3 H3 fp) ([] ++ pl) (v7 :: aI σ is) H7 s7 → Inv (aC X scope C (x :: ys) s3 H3 fp) [] (v7 :: aI σ is) H7 s7 ∧ tn (i + 1) s7.heap ∧ ∀ b ∈ fp, H7 b = none) ∧
              (tc (some xx :: aI σ is) H6 fun b H4 => if b = true then te (some xx :: aI σ is) H4 fun y H5 => H5 D = some (.lst ys') ∧ ys'.length < sizeLine ∧ ∃ m', m' < n ∧ W (i + 1) m' (ys' ++ [y]) (upd H5 D (.lst (ys' ++ [y])))
                else ∃ m', m' < n ∧ W (i + 1) m' ys' H4)) (fun _ _ => False) s₁) (fun _ _ => False) s₁) (fun _ _ => False) s := by
      rintro n s ⟨i, v, ys', H', J, st, fr, w'⟩
      rcases turn i n ys' H' w' with ⟨stop, qn⟩ | ⟨go, step⟩
      · refine thn (T.done (aC X scope C (x :: ys) s3 H3 fp) rfl rfl rfl hc i [] s _ H' (fun _ _ => False) J (stat fr) st stop) fun r s4 ⟨hr, J4⟩ => ?_
        subst hr
        exact fin J4 qn
      · refine thn (T.item (aC X scope C (x :: ys) s3 H3 fp) rfl rfl rfl hc i [] s _ H' (fun _ _ => False) J (stat fr) st go) fun r s4 ⟨u, hr, h4⟩ => ?_
        subst hr
        refine thn h4 fun _ s5 ⟨xx, H5, J5, r5, y5, st5, fr5⟩ => ?_
        have J5' := J5.pinned (stat fr5) (T.obj _ _ st5)
        refine wpAny_assign_Name (jv (i := 0) J5' S.nd rfl (.inl hown) r5 (fun s6 J6 => ?_) (.inr hown))
        refine ⟨xx, i, ys', H5, H5, gx fp s5.heap, J6, fun s7 v7 H7 J7 => ⟨J7.unpinned, T.keep _ _ _ st5 fun b hb o e => (J7.pin (b, o) (List.mem_append_right _ (List.mem_append_right _ (dw hb e)))).1, fun b hb => ?_⟩, step xx H5 y5⟩
        obtain ⟨o, e, d⟩ := T.obj _ _ st5 b hb
        exact (J7.pin (b, o) (List.mem_append_right _ (List.mem_append_right _ (dw hb e)))).2.1
    have start0 : ∃ i v ys' H', Inv (aC X scope C (x :: ys) s3 H3 fp) [] (v :: aI σ is) H' { s2 with heap := h₁, toks := s2.toks + ([] : List (Str × Value)).length } ∧ tn i h₁ ∧ (∀ b ∈ fp, H' b = none) ∧ W i m0 ys' H' :=
      ⟨0, none, [], H3, I4, st4, fun b hb => (fp3 b hb).1, w0⟩
    have emit : ∀ (n : Nat) (xx : V) (i : Nat) (ys' : List V) (H4 : Hp) (pl : List (Addr × Obj)) (s₂ : Shared), Inv (aC X scope C (x :: ys) s3 H3 fp) ([] ++ pl) (some xx :: aI σ is) H4 s₂ →
        (∀ s7 v7 H7, Inv (aC X scope C (x :: ys) s3 H3 fp) ([] ++ pl) (v7 :: aI σ is) H7 s7 → Inv (aC X scope C (x :: ys) s3 H3 fp) [] (v7 :: aI σ is) H7 s7 ∧ tn (i + 1) s7.heap ∧ ∀ b ∈ fp, H7 b = none) →
        (te (some xx :: aI σ is) H4 fun y H5 => H5 D = some (.lst ys') ∧ ys'.length < sizeLine ∧ ∃ m', m' < n ∧ W (i + 1) m' (ys' ++ [y]) (upd H5 D (.lst (ys' ++ [y])))) →
        wpAny (model X.prog X.w) X.A (eval elt (compEnvC scope (bZ scope.names X.env.cells []) C X.env)) (fun y s₃ => wpAny (model X.prog X.w) X.A (call (.builtin "list.append") [.ref D, y]) (fun _ s₄ =>
          ∃ m, m < n ∧ ∃ i v ys' H', Inv (aC X scope C (x :: ys) s3 H3 fp) [] (v :: aI σ is) H' s₄ ∧ tn i s₄.heap ∧ (∀ b ∈ fp, H' b = none) ∧ W i m ys' H') (fun _ _ => False) s₃) (fun _ _ => False) s₂ := by
      intro n xx i ys' H4 pl s₂ J2 back q
      refine thn (he C s3 H3 fp ([] ++ pl) s₂ _ H4 _ J2 q) fun y s₃ ⟨yv, H5, J3, r3, q1, q2, q3⟩ => ?_
      refine thn (iK (X := aC X scope C (x :: ys) s3 H3 fp) ([] ++ pl) s₃ _ H5 (.ref D) [yv] (.ref D) [y] (fun v H7 => v = .non ∧ H7 = upd H5 D (.lst (ys' ++ [yv]))) J3 rfl (.cons r3 .nil) ⟨D, ys', yv, rfl, rfl, q1, q2, rfl, rfl⟩) fun _ s₄ ⟨_, H7, J4, _, _, e7⟩ => ?_
      subst e7
      obtain ⟨m', hm', w'⟩ := q3
      obtain ⟨b1, b2, b3⟩ := back s₄ _ _ J4
      exact ⟨m', hm', i + 1, some xx, ys' ++ [yv], _, b1, b2, b3, w'⟩
    have ex0 : ∀ {α : Type} {t : Sem α} {Q' : α → Shared → Prop} {E' : Value → Shared → Prop} {s : Shared}, wpAny (model X.prog X.w) X.A t Q' (fun _ _ => False) s → wpAny (model X.prog X.w) X.A t Q' E' s := fun h => wpAny_mono h (fun _ _ q => q) fun _ _ q => q.elim
    cases ifs with
    | nil =>
      have htc : tc = fun _ H Q => Q true H := hif C s3 H3 fp
      subst htc
      refine et (fun n s => ∃ i v ys' H', Inv (aC X scope C (x :: ys) s3 H3 fp) [] (v :: aI σ is) H' s ∧ tn i s.heap ∧ (∀ b ∈ fp, H' b = none) ∧ W i n ys' H') (fun n s hI => ?_) m0 start0
      refine wpAny_mono (turnAt n s hI) (fun r s₁ h₁ => ?_) fun _ _ q => q.elim
      cases r with
      | none => exact h₁
      | some u =>
        refine wpAny_mono h₁ (fun _ s₁ h₁ => wpAny_mono h₁ (fun _ s₂ h₂ => ?_) fun _ _ q => q.elim) fun _ _ q => q.elim
        obtain ⟨xx, i, ys', _, H6, pl, J2, back, q⟩ := h₂
        dsimp only at q
        rw [if_pos rfl] at q
        exact wpAny_mono (emit n xx i ys' H6 pl s₂ J2 back q) (fun y s₃ h₃ => ex0 h₃) fun _ _ q => q.elim
    | cons c r0 =>
      cases r0 with
      | cons _ _ => exact (hif C s3 H3 fp).elim
      | nil =>
        have hpt : PT (aC X scope C (x :: ys) s3 H3 fp) c tc := hif C s3 H3 fp
        refine eu (fun n s => ∃ i v ys' H', Inv (aC X scope C (x :: ys) s3 H3 fp) [] (v :: aI σ is) H' s ∧ tn i s.heap ∧ (∀ b ∈ fp, H' b = none) ∧ W i n ys' H') (fun n s hI => ?_) m0 start0
        refine wpAny_mono (turnAt n s hI) (fun r s₁ h₁ => ?_) fun _ _ q => q.elim
        cases r with
        | none => exact h₁
        | some u =>
          refine wpAny_mono h₁ (fun _ s₁ h₁ => wpAny_mono h₁ (fun _ s₂ h₂ => ?_) fun _ _ q => q.elim) fun _ _ q => q.elim
          obtain ⟨xx, i, ys', _, H6, pl, J2, back, q⟩ := h₂
          refine wpAny_mono (hpt ([] ++ pl) s₂ _ H6 _ J2 q) (fun b s₃ h₃ => ?_) fun _ _ q => q.elim
          obtain ⟨H4, J4, q4⟩ := h₃
          cases b with
          | true =>
            rw [if_pos rfl] at q4 ⊢
            exact wpAny_mono (emit n xx i ys' H4 pl s₃ J4 back q4) (fun y s₃ h₃ => ex0 h₃) fun _ _ q => q.elim
          | false =>
            rw [if_neg Bool.false_ne_true] at q4 ⊢
            obtain ⟨m', hm', w'⟩ := q4
            obtain ⟨b1, b2, b3⟩ := back s₃ _ _ J4
            exact ⟨m', hm', i + 1, some xx, ys', _, b1, b2, b3, w'⟩
  exact codeAny_compStart_list loop (T.self X.A 0 _ _ _ st4 loop)
end
section
variable {X:Cx}
theorem pF {scope:Scope} {x:Str} {ys:List Str} {is:List Nat} (ok:X.Ok) (S:dU scope x ys) (hcap:dG X scope ys is):closureFor scope X.env=pure (bZ scope.names X.env.cells []):=
 iu fun y hy hk=>by
  obtain ⟨c,e⟩:=ok.has y.1 (fI hcap (S.all y hy hk))
  rw [e];rfl
theorem yp {elt iter:Expr} {ifs:List Expr} {x:Str} {px pos:Pos} {scope:Scope} {ys:List Str} {is:List Nat} {wi:TI} {tc:TT} {te:TE}
  (hc:X.calm=true) (S:dU scope x ys) (hcap:dG X scope ys is) (hi:PI X (.Name x px) iter wi)
  (hif:∀ C s H fp,lE (aC X scope C (x::ys) s H fp) ifs tc) (he:∀ C s H fp,PE (aC X scope C (x::ys) s H fp) elt te)
  (hs:∀ x,foldedSetIterable iter X.env x=pure x:=by intro _;rfl):PE X (.ListComp elt [⟨.Name x px,iter,ifs,0⟩] scope pos) (fN is wi tc te):=by
 intro pins s σ H Q I h
 rw [eval_ListComp]
 refine wpAny_comprehension_free (use:=none) rfl hs (pF I.ok S hcap) S.kind S.names (thn (hi pins s σ H _ I h) fun v s1 h1=>thn h1 fun itv s2 h2=>?_)
 obtain ⟨it,fp,tn,J,H2,rfl,I2,T,st2,f2,hW⟩:=h2
 refine mf (RR:=fun acc C=>compPost (model X.prog X.w) X.A X.xe none (EP X pins σ Q) acc C) hc S hcap hif he I2 T st2 f2 hW ?_
 intro D C H' s' hlt hns hne hfr I' back q
 obtain ⟨m,hm⟩:=hns
 exact ⟨m,hm,fun h' hs'=>⟨.ref D,H',back h' hs',rfl,q⟩⟩
theorem qU {elt iter:Expr} {ifs:List Expr} {x y:Str} {px py pos spos:Pos} {scope:Scope} {ys:List Str} {is:List Nat} {wi:TI} {tc:TT} {te:TE} {j:Nat}
  (hN:X.N.Nodup) (hj:X.N[j]?=some y) (hy:Loc X.env.scope y)
  (hc:X.calm=true) (S:dU scope x ys) (hcap:dG X scope ys is) (hi:PI X (.Name x px) iter wi)
  (hif:∀ C s H fp,lE (aC X scope C (x::ys) s H fp) ifs tc) (he:∀ C s H fp,PE (aC X scope C (x::ys) s H fp) elt te)
  (hsw:swapsWith (.ListComp elt [⟨.Name x px,iter,ifs,0⟩] scope pos) (some (.Name y py)) spos.line X.env=pure true:=by rfl)
  (hf:X.fn y=true∨X.env.scope.names.lookup y=some .local:=by first | exact .inl rfl | exact .inr rfl | assumption)
  (hs:∀ x,foldedSetIterable iter X.env x=pure x:=by intro _;rfl):PS X (.Assign [.Name y py] (.ListComp elt [⟨.Name x px,iter,ifs,0⟩] scope pos) spos) (aP (fN is wi tc te) (av j)):=by
 intro pins s σ H D I h
 rw [exec_Assign_Name_used _ _ _ _ hsw]
 refine wpAny_bind (wpAny_standAt (wpAny_bind ?_))
 show wpAny _ X.A (do let _←comprehension (.ListComp elt [⟨.Name x px,iter,ifs,0⟩] scope pos) scope X.env _ (newList []) false (eval iter X.env) (some (assign (.Name y py) X.env))) _ _ s
 refine wpAny_bind (wpAny_mono (wpAny_comprehension_free (use:=some (assign (.Name y py) X.env)) (Q:=fun _ s'=>SP X pins D .next s') rfl hs (pF I.ok S hcap) S.kind S.names
  (thn (hi pins s σ H _ I h) fun v s1 h1=>thn h1 fun itv s2 h2=>?_)) (fun _ s' hq=>wpAny_pure (wpAny_pure hq)) fun _ _ e=>e)
 obtain ⟨it,fp,tn,J,H2,rfl,I2,T,st2,f2,hW⟩:=h2
 refine mf (Q:=fun x H1=>av j x σ H1 D.nx) (RR:=fun acc C=>compPost (model X.prog X.w) X.A X.xe (some (assign (.Name y py) X.env)) (fun _ s'=>SP X pins D .next s') acc C) hc S hcap hif he I2 T st2 f2 hW ?_
 intro Da C H' s' hlt hns hne hfr I' back q
 show wpAny _ X.A (assign (.Name y py) X.env (.ref Da)) _ _ _
 obtain ⟨m,hm⟩:=hns
 refine wpAny_assign_Name (iO I' hN hj hy (v:=.ref Da) rfl (fun s2 I2' ⟨a,hsb,ha⟩=>?_) hf)
 have hCa:C≠a:=by
  rcases ha with e | e
  · rw [e];exact hne
  · rintro rfl
    obtain ⟨v,o,ho,hd⟩:=I'.cell y C e
    obtain ⟨o2,es,ep,ho2,hd2,_⟩:=hm
    rw [ho] at ho2;cases ho2;rw [hd] at hd2;cases hd2
 refine ⟨m,hm.sameBut hsb hCa,fun h' hs'=>?_⟩
 have hCn:∀ y c,X.env.cells.lookup y=some c→c≠C:=fun z c e q=>by
  subst q
  obtain ⟨v,o,ho,hd⟩:=I'.cell z c e
  obtain ⟨o2,es,ep,ho2,hd2,_⟩:=hm
  rw [ho] at ho2;cases ho2;rw [hd] at hd2;cases hd2
 have I3:Inv X pins (σ.set j (some (.ref Da))) H' { s2 with heap:=h' }:=by
  refine I2'.step (g':=s2.gens) (d':=s2.drawn) (t':=s2.toks) (ch:=[C]) (fun b hb=>?_) (fun b o _ _ hb e _=>(hs'.2 b (fun z=>hb (by simp [z]))).trans e) (fun b o _ _ hb e _=>⟨o.slots,(hs'.2 b (fun z=>hb (by simp [z]))).trans e⟩) (fun _ _ _ _ n=>n) (fun b o hb e=>⟨o,(hs'.2 b (fun z=>hb (by simp [z]))).trans e⟩)
    (fun _ _ e=>e) (fun _ _ _ e=>e) (fun b ps e=>⟨#[],by rw [e];simp⟩) (fun m' hm'=>hm'.sameBut hs' (Ne.symm hne)) (fun b o e=>?_) I2'.bare
  · have e:b=C:=by simpa using hb
    subst e
    exact ⟨.inr hlt.1,hne,fun z c e=>hCn z c e,hlt.2⟩
  · refine (I2'.hok b o e).stay (fun c w' hc q=>(hs'.2 c ?_).trans q) (fun _ q=>q) fun _ _ q=>q
    rintro rfl
    rcases hc with rfl | hc
    · rw [hfr] at e;cases e
    · rw [hfr] at hc;cases hc
 exact ⟨_,H',I3,q⟩
end
def tyN (H : Hp) : V → Option String
  | .non => some "NoneType"
  | .bl _ => some "bool"
  | .int _ => some "int"
  | .str _ => some "str"
  | .ref a => match H a with
    | some (.lst _) => some "list"
    | some (.frz _ (.lst _)) => some "list"
    | some (.tup _) => some "tuple"
    | some (.dK _) => some "dict"
    | some (.dT _) => some "dict"
    | _ => none
  | _ => none
theorem zS {K : W.Frag} {H : Hp} {x : V} {t : String} (h : tyN H x = some t) : eD K H x (.type t) := by
  cases x with
  | non => cases h; exact .non
  | bl b => cases h; exact .bl b
  | int i => cases h; exact .int i
  | str x => cases h; exact .str x
  | byt _ => cases h
  | flt _ => cases h
  | ty _ => cases h
  | ref a =>
    unfold tyN at h
    dsimp only at h
    split at h
    · rename_i e; cases h; exact .lst e
    · rename_i e; cases h; exact .frz e
    · rename_i e; cases h; exact .tup e
    · rename_i e; cases h; exact .dK e
    · rename_i e; cases h; exact .dT e
    · cases h
def tyL:List String:=["NoneType", "bool", "int", "str", "list", "tuple", "dict"]
theorem Cb {H : Hp} {x : V} {t : String} (h : tyN H x = some t) : t ∈ tyL := by
  cases x with
  | non => cases h; decide
  | bl b => cases h; decide
  | int i => cases h; decide
  | str x => cases h; decide
  | byt _ => cases h
  | flt _ => cases h
  | ty _ => cases h
  | ref a =>
    unfold tyN at h
    dsimp only at h
    split at h <;> first | (cases h; decide) | cases h
def isI (t T:String):Bool:=t==T||(T== "int" &&t== "bool")
theorem Bx (K:W.Frag):∀ t∈tyL,∀ T∈["int", "bool", "str", "tuple", "list", "dict"],W.kitOne K (.type t) (.type T)=some (isI t T):=by
 intro t ht T hT
 simp only [tyL,List.mem_cons,List.not_mem_nil,or_false] at ht hT
 rcases ht with rfl | rfl | rfl | rfl | rfl | rfl | rfl <;> rcases hT with rfl | rfl | rfl | rfl | rfl | rfl <;> (unfold W.kitOne;first | rfl | decide +kernel | (simp only [W.kitCls];rfl))
section
variable {X:Cx}
theorem uu:bo X (.builtin "isinstance") (fun xs H Q=>∃ x T t,xs=[x,.ty T]∧T∈["int", "bool", "str", "tuple", "list", "dict"]∧tyN H x=some t∧Q (.bl (isI t T)) H):=by
 intro pins s σ H xs us Q I r h
 obtain ⟨x,T,t,rfl,hT,ht,q⟩:=h
 obtain ⟨u,w',rfl,r1,r2⟩:=gN r
 cases r2
 exact sK I r1 (zS ht) (Bx X.K t (Cb ht) T hT) fun tk=>⟨.bl _,H,I.tok tk,rfl,q⟩
end
section
variable {X:Cx}
theorem pC : ∀ {bs : List Bool} {us : List Value}, aG (bs.map V.bl) us → us = bs.map Value.bool
  | [], _, .nil => rfl
  | b :: bs, _, .cons r t => by
    have e : _ = Value.bool b := r
    rw [pC t, List.map_cons, e]
theorem sh (bs:List Bool):(List.range bs.length).all (fun i=>bs.getD i false)=bs.all id:=by
 rw [Bool.eq_iff_iff,List.all_eq_true,List.all_eq_true]
 constructor
 · intro h b hb
   obtain ⟨i,hi,e⟩:=List.mem_iff_getElem.mp hb
   have:=h i (List.mem_range.mpr hi)
   simp only [List.getD_eq_getElem?_getD,List.getElem?_eq_getElem hi,Option.getD_some] at this
   rw [← e];exact this
 · intro h i hi
   have hi:=List.mem_range.mp hi
   simp only [List.getD_eq_getElem?_getD,List.getElem?_eq_getElem hi,Option.getD_some]
   exact h _ (List.getElem_mem hi)
theorem oQ {prog : Program} {w : World} {A : Around} {bs : List Bool} : TruthOf prog w A (fun i v => (bs.map Value.bool).toArray[i]? = some v) (fun i => bs.getD i false) := by
  intro i v s Q E hP hQ
  have hP : (bs.map Value.bool)[i]? = some v := by simpa using hP
  rw [List.getElem?_map] at hP
  cases e : bs[i]? with
  | none => rw [e] at hP; cases hP
  | some b =>
    rw [e] at hP
    cases hP
    have hQ' : Q b s := by
      have e2 : bs.getD i false = b := by rw [List.getD_eq_getElem?_getD, e]; rfl
      have hQ2 : Q (bs.getD i false) s := hQ
      rw [e2] at hQ2; exact hQ2
    exact wpAny_of_eq (a := b) rfl hQ'
theorem uT (hc:X.calm=true):bo X (.builtin "all") (fun xs H Q=>∃ (a:Addr) (bs:List Bool),xs=[.ref a]∧H a=some (.lst (bs.map V.bl))∧Q (.bl (bs.all id)) H):=by
 intro pins s σ H xs us Q I r h
 obtain ⟨a,bs,rfl,hH,q⟩:=h
 obtain ⟨u,rfl,ru⟩:=dW r
 cases ru
 obtain ⟨z,its,n,rv,e⟩:=I.hok a _ hH
 have ei:=pC rv
 subst ei
 have hl:s.heap.IsList a (bs.map Value.bool).toArray:=⟨_,e,rfl,_,rfl⟩
 refine call_all_walk (wpAny_pyIter_list hl ?_)
 have hne:a≠s.heap.objs.size:=Nat.ne_of_lt (Heap.lt_size e)
 refine ⟨s.heap.objs.size,_,_,_,_,_,_,rfl,Walks.list (by show X.A.handled=none;exact I.ok.hd hc) _ a hne (bs.map Value.bool).toArray,⟨⟨_,Heap.get?_push_size _ rfl,rfl,rfl⟩,⟨_,Heap.get?_push_of_some _ e,rfl,_,rfl⟩⟩,oQ,fun h' tk hk=>?_⟩
 have e2:((bs.map Value.bool).toArray).size=bs.length:=by simp
 rw [e2,sh]
 refine ⟨.bl _,H,I.kept (t':=tk) fun b o hb=>hk b o ?_ (Heap.get?_push_of_some _ hb),rfl,q⟩
 intro z
 have:b=s.heap.objs.size:=by simpa using z
 rw [this] at hb
 exact absurd (Heap.lt_size hb) (Nat.lt_irrefl _)
theorem pD : ∀ {xs : List Str} {us : List Value}, aG (xs.map V.str) us → StrsAre us xs
  | [], _, .nil => .nil
  | x :: xs, _, .cons r t => by
    obtain ⟨tk, e⟩ := (show ∃ t, _ = Value.str x t from r)
    rw [e]
    exact .cons _ _ (pD t)
def qr:V→List V→Hp→VK→Prop:=fun x vs H Q=>∃ (z:Str) (a:Addr) (xs:List Str),x=.str z∧vs=[.ref a]∧H a=some (.lst (xs.map V.str))∧(xs.map (·.length)).sum+xs.length*z.length≤16777216∧Q (.str (Txt.join z xs)) H
theorem pE:MtM X "str.join" qr:=by
 intro pins s σ H x vs v us Q I rx rv h
 obtain ⟨z,a,xs,rfl,rfl,hH,hz,q⟩:=h
 obtain ⟨t,rfl⟩:=(show ∃ t,v=Value.str z t from rx)
 obtain ⟨u,rfl,ru⟩:=rv.one
 cases ru
 obtain ⟨_,its,n,rv,e⟩:=I.hok a _ hH
 refine join_list (items:=its.toArray) ⟨_,e,rfl,_,rfl⟩ (by simpa using pD rv) hz fun t' k=>⟨.str _,H,I.tok k,⟨_,rfl⟩,q⟩
end
@[irreducible] def Sel (b:Bool) (A B:Prop):Prop:=if b=true then A else B
theorem Sel.mk {b:Bool} {A B:Prop} (h1:b=true→A) (h2:b=false→B):Sel b A B:=by
 unfold Sel
 cases b with
 | true=>exact h1 rfl
 | false=>exact h2 rfl
theorem Sel.t {A B:Prop} (h:A):Sel true A B:=.mk (fun _=>h) fun e=>by cases e
theorem Sel.f {A B:Prop} (h:B):Sel false A B:=.mk (fun e=>by cases e) fun _=>h
theorem Sel.dec {p A B:Prop} [Decidable p] (h1:p→A) (h2:¬ p→B):Sel (decide p) A B:=.mk (fun e=>h1 (of_decide_eq_true e)) fun e=>h2 (of_decide_eq_false e)
theorem Sel.ndec {p A B:Prop} [Decidable p] (h1:¬ p→A) (h2:p→B):Sel (!decide p) A B:=.mk (fun e=>h1 (by simpa using e)) fun e=>h2 (by simpa using e)
theorem Sel.yes {b:Bool} {A B:Prop} (e:b=true) (h:A):Sel b A B:=by rw [e];exact .t h
theorem Sel.no {b:Bool} {A B:Prop} (e:b=false) (h:B):Sel b A B:=by rw [e];exact .f h
theorem dD {b:Bool} {A B:Prop} (h:Sel b A B):if b=true then A else B:=by unfold Sel at h;exact h
def ae (i:Nat):TE:=fun σ H Q=>match σ[i]? with | some (some v)=>Q v H | _=>False
section
variable {X:Cx}
theorem PE.imp {e:Expr} {t t':TE} (h:PE X e t) (i:∀ σ H Q,t' σ H Q→t σ H Q):PE X e t':=fun pins s σ H Q I q=>h pins s σ H Q I (i _ _ _ q)
theorem OpR.imp {f:Value→Value→Sem Value} {r r':R2} (h:OpR X f r) (i:∀ x y H Q,r' x y H Q→r x y H Q):OpR X f r':=fun pins s σ H x y v u Q I rx ry q=>h pins s σ H x y v u Q I rx ry (i _ _ _ _ q)
theorem qv (i:Nat) {x:Str} {pos:Pos} (hN:X.N[i]?=some x:=by rfl) (hv:Vis X.env.scope x:=by first | exact Or.inl rfl | exact Or.inr (Or.inl rfl) | exact Or.inr (Or.inr rfl)) (hd:(x==("__debug__" :Str))=false:=by decide)
   (hcd:(x==("__classdict__" :Str))=false:=by decide):PE X (.Name x pos) (ae i):=(AQ hN hv hd hcd).imp fun σ H Q q=>by
 unfold ae at q
 split at q
 · rename_i v e;exact ⟨v,e,q⟩
 · exact q.elim
theorem qgi {x:Str} {i:Int} {pos:Pos} (hm:∃ t,X.mg x=some (.int i t)) (hg:Gl X x:=by rfl) (hd:(x==("__debug__" :Str))=false:=by decide):PE X (.Name x pos) (tC (.int i)):=by
 obtain ⟨t,e⟩:=hm
 exact lI hg e ⟨t,rfl⟩ hd
def iI:R2:=fun x y H Q=>match x,y with | .int i,.int j=>Q (.int (i - j)) H | _,_=>False
theorem ls:OpR X (binaryOp .Sub) iI:=Af.imp fun x y H Q q=>by
 unfold iI at q
 split at q
 · exact ⟨_,_,rfl,rfl,q⟩
 · exact q.elim
theorem xV:OpR X (binaryOp .Mult) (rI IntMulOk fun i j=> .int (i*j)):=opI fun _ _ _ _ _ _ _ hc q=>mul_int q hc
def um:R2:=fun x y H Q=>match x,y with
 | .int i,.int j=>IntMulOk i j∧Q (.int (i*j)) H
 | _,_=>False
theorem FR:OpR X (binaryOp .Mult) um:=xV.imp fun x y H Q q=>by
 unfold um at q
 split at q
 · exact ⟨_,_,rfl,rfl,q.1,q.2⟩
 · exact q.elim
def cr:R2:=fun x y H Q=>match x,y with | .int i,.int j=>0<j∧Q (.int (i%j)) H | _,_=>False
theorem cJ:OpR X (binaryOp .Mod) cr:=zY.imp fun x y H Q q=>by
 unfold cr at q
 split at q
 · exact ⟨_,_,rfl,rfl,q.1,q.2⟩
 · exact q.elim
def uM:R2:=fun x y H Q=>match x,y with | .int i,.int j=>(0≤j∧j≤1000000∧i.natAbs<2^64)∧Q (.int (i^j.toNat)) H | _,_=>False
theorem FJ:OpR X (binaryOp .Pow) uM:=Am.imp fun x y H Q q=>by
 unfold uM at q
 split at q
 · exact ⟨_,_,rfl,rfl,q.1,q.2⟩
 · exact q.elim
def lL:R2:=fun x y H Q=>match x,y with | .int i,.int j=>(0≤j∧j≤1000000∧i.natAbs<2^64)∧Q (.int (i*2^j.toNat)) H | _,_=>False
theorem uR:OpR X (binaryOp .LShift) lL:=Bc.imp fun x y H Q q=>by
 unfold lL at q
 split at q
 · exact ⟨_,_,rfl,rfl,q.1,q.2⟩
 · exact q.elim
def ql:R2:=fun x y H Q=>match x,y with | .int i,.int j=>0≤j∧Q (.int (i/2^j.toNat)) H | _,_=>False
theorem Bh:OpR X (binaryOp .RShift) ql:=AB.imp fun x y H Q q=>by
 unfold ql at q
 split at q
 · exact ⟨_,_,rfl,rfl,q.1,q.2⟩
 · exact q.elim
def oG:R2:=fun x y H Q=>match x,y with | .int i,.int j=>Q (.int (Builtin.bitXor i j)) H | _,_=>False
theorem AV:OpR X (binaryOp .BitXor) oG:=BS.imp fun x y H Q q=>by
 unfold oG at q
 split at q
 · exact ⟨_,_,rfl,rfl,q⟩
 · exact q.elim
def rG:R2:=fun x y H Q=>match x,y with | .int i,.int j=>Q (.int (Builtin.bitAnd i j)) H | _,_=>False
theorem Cy:OpR X (binaryOp .BitAnd) rG:=Cc.imp fun x y H Q q=>by
 unfold rG at q
 split at q
 · exact ⟨_,_,rfl,rfl,q⟩
 · exact q.elim
def mLt:R2:=fun x y H Q=>match x,y with | .int i,.int j=>Q (.bl (decide (i<j))) H | _,_=>False
theorem oLt:OpR X (compareOp .Lt) mLt:=CY.imp fun x y H Q q=>by
 unfold mLt at q
 split at q
 · exact ⟨_,_,rfl,rfl,q⟩
 · exact q.elim
def mLe:R2:=fun x y H Q=>match x,y with | .int i,.int j=>Q (.bl (decide (i≤j))) H | _,_=>False
theorem oLe:OpR X (compareOp .LtE) mLe:=EE.imp fun x y H Q q=>by
 unfold mLe at q
 split at q
 · exact ⟨_,_,rfl,rfl,q⟩
 · exact q.elim
def mEq:R2:=fun x y H Q=>match x,y with
 | .int i,.int j=>Q (.bl (decide (i=j))) H
 | .str i,.str j=>Q (.bl (decide (i=j))) H
 | .bl i,.bl j=>Q (.bl (decide (i=j))) H
 | .non,.non=>Q (.bl true) H
 | .non,.int _=>Q (.bl false) H | .int _,.non=>Q (.bl false) H | .non,.bl _=>Q (.bl false) H | .bl _,.non=>Q (.bl false) H | .non,.str _=>Q (.bl false) H | .str _,.non=>Q (.bl false) H
 | .int _,.str _=>Q (.bl false) H | .str _,.int _=>Q (.bl false) H | .bl _,.str _=>Q (.bl false) H | .str _,.bl _=>Q (.bl false) H
 | _,_=>False
theorem iq {α:Type} [DecidableEq α] {f:α→V} (hf:∀ a b,f a=f b→a=b) (a b:α):decide (f a=f b)=decide (a=b):=by
 by_cases h:a=b
 · subst h;simp
 · rw [decide_eq_false h,decide_eq_false fun e=>h (hf a b e)]
theorem oEq:OpR X (compareOp .Eq) mEq:=DG.imp fun x y H Q q=>by
 unfold mEq at q
 split at q
 · exact ⟨rfl,by rw [iq (f:=V.int) fun _ _ e=>V.int.inj e];exact q⟩
 · exact ⟨rfl,by rw [iq (f:=V.str) fun _ _ e=>V.str.inj e];exact q⟩
 · exact ⟨rfl,by rw [iq (f:=V.bl) fun _ _ e=>V.bl.inj e];exact q⟩
 · exact ⟨rfl,by simpa using q⟩
 all_goals first | exact q.elim | exact ⟨rfl,q⟩
def mNe:R2:=fun x y H Q=>match x,y with
 | .int i,.int j=>Q (.bl (!decide (i=j))) H
 | .str i,.str j=>Q (.bl (!decide (i=j))) H
 | .bl i,.bl j=>Q (.bl (!decide (i=j))) H
 | .non,.non=>Q (.bl false) H
 | .non,.int _=>Q (.bl true) H | .int _,.non=>Q (.bl true) H | .non,.bl _=>Q (.bl true) H | .bl _,.non=>Q (.bl true) H | .non,.str _=>Q (.bl true) H | .str _,.non=>Q (.bl true) H
 | .int _,.str _=>Q (.bl true) H | .str _,.int _=>Q (.bl true) H | .bl _,.str _=>Q (.bl true) H | .str _,.bl _=>Q (.bl true) H
 | _,_=>False
theorem oNe:OpR X (compareOp .NotEq) mNe:=DE.imp fun x y H Q q=>by
 unfold mNe at q
 split at q
 · exact ⟨rfl,by rw [iq (f:=V.int) fun _ _ e=>V.int.inj e];exact q⟩
 · exact ⟨rfl,by rw [iq (f:=V.str) fun _ _ e=>V.str.inj e];exact q⟩
 · exact ⟨rfl,by rw [iq (f:=V.bl) fun _ _ e=>V.bl.inj e];exact q⟩
 · exact ⟨rfl,by simpa using q⟩
 all_goals first | exact q.elim | exact ⟨rfl,q⟩
def aZ (t:TE):TT:=fun σ H Q=>t σ H fun x H'=>match x with | .bl k=>Q k H' | _=>False
theorem qtc {op:CmpOp} {r:R2} {a b:Expr} {ta tb:TE} {pos:Pos} (ho:OpR X (compareOp op) r) (ha:PE X a ta) (hb:PE X b tb) (hm:behindInMarks op b=false:=by first | exact kz _ | rfl):PT X (.Compare a [op] [b] pos) (aZ (tOp r ta tb)):=by
 intro pins s σ H Q I h
 refine wpAny_isTrue_Compare1 (thn (ha pins s σ H _ I h) fun v s1 ⟨x,H1,I1,r1,q1⟩=>thn (hb pins s1 σ H1 _ I1 q1) fun u s2 ⟨y,H2,I2,r2,q2⟩=>
  thn (ho pins s2 σ H2 x y v u _ I2 r1 r2 q2) fun c s3 ⟨z,H3,I3,r3,q3⟩=>?_) hm
 cases z <;> first | exact q3.elim | (cases r3;exact wpAny_truthy_bool ⟨H3,I3,q3⟩)
theorem qc {op:CmpOp} {r:R2} {a b:Expr} {ta tb:TE} {pos:Pos} (ho:OpR X (compareOp op) r) (ha:PE X a ta) (hb:PE X b tb) (hm:behindInMarks op b=false:=by first | exact kz _ | rfl):PE X (.Compare a [op] [b] pos) (tOp r ta tb):=xZ ho ha hb hm
def gp (r r':R2) (ta tb tc:TE):TE:=fun σ H Q=>ta σ H fun x H1=>tb σ H1 fun y H2=>r x y H2 fun z H3=>match z with
 | .bl k=>Sel k (tc σ H3 fun w' H4=>r' y w' H4 Q) (Q (.bl false) H3)
 | _=>False
theorem qch {op op':CmpOp} {r r':R2} {a b c:Expr} {ta tb tc:TE} {pos:Pos} (ho:OpR X (compareOp op) r) (ho':OpR X (compareOp op') r') (ha:PE X a ta) (hb:PE X b tb) (hc:PE X c tc)
  (hm:lastMarks [op,op'] [b,c]=false:=by with_unfolding_all rfl):PE X (.Compare a [op,op'] [b,c] pos) (gp r r' ta tb tc):=by
 intro pins s σ H Q I h
 refine Compare_chain (thn (ha pins s σ H _ I h) fun v s1 ⟨x,H1,I1,r1,q1⟩=>chain_link (thn (hb pins s1 σ H1 _ I1 q1) fun u s2 ⟨y,H2,I2,r2,q2⟩=>
  thn (ho pins s2 σ H2 x y v u _ I2 r1 r2 q2) fun d s3 ⟨z,H3,I3,r3,q3⟩=>?_)) hm
 cases z <;> first | exact q3.elim | skip
 rename_i k
 cases r3
 refine wpAny_truthy_bool ?_
 have q3:=dD q3
 cases k with
 | false=>exact ite_ff ⟨.bl false,H3,I3,rfl,q3⟩
 | true=>exact ite_tt (chain_last (thn (hc pins s3 σ H3 _ I3 q3) fun w' s4 ⟨z',H4,I4,r4,q4⟩=>ho' pins s4 σ H4 y z' u w' Q I4 r2 r4 q4))
theorem FC {op op' : CmpOp} {r r' : R2} {a b c : Expr} {ta tb tc : TE} {pos : Pos} (ho : OpR X (compareOp op) r) (ho' : OpR X (compareOp op') r') (ha : PE X a ta) (hb : PE X b tb) (hc : PE X c tc)
    (hm : lastMarks [op, op'] [b, c] = false := by with_unfolding_all rfl) : PT X (.Compare a [op, op'] [b, c] pos) (aZ (gp r r' ta tb tc)) := by
  intro pins s σ H Q I h
  refine isTrue_chain (thn (ha pins s σ H _ I h) fun v s1 ⟨x, H1, I1, r1, q1⟩ => test_link (thn (hb pins s1 σ H1 _ I1 q1) fun u s2 ⟨y, H2, I2, r2, q2⟩ =>
    thn (ho pins s2 σ H2 x y v u _ I2 r1 r2 q2) fun d s3 ⟨z, H3, I3, r3, q3⟩ => ?_)) hm
  cases z <;> first | exact q3.elim | skip
  rename_i k
  cases r3
  refine wpAny_truthy_bool ?_
  have q3 := dD q3
  cases k with
  | false => exact ite_ff ⟨H3, I3, q3⟩
  | true =>
    refine ite_tt (test_last (thn (hc pins s3 σ H3 _ I3 q3) fun w' s4 ⟨z', H4, I4, r4, q4⟩ => thn (ho' pins s4 σ H4 y z' u w' _ I4 r2 r4 q4) fun d' s5 ⟨z2, H5, I5, r5, q5⟩ => ?_))
    cases z2 <;> first | exact q5.elim | (cases r5; exact wpAny_truthy_bool ⟨H5, I5, q5⟩)
def bV (K:W.Frag) (t:TE):TT:=fun σ H Q=>t σ H fun x H'=>match x with
 | .bl k=>Q k H'
 | .non=>Q false H'
 | .int i=>Q (i !=0) H'
 | x=>∃ k,zE K x H' k∧Q k H'
theorem qtb {e:Expr} {t:TE} (h:PE X e t) (he:∀ whole,isTrue e X.env whole=(do let v←whole;standAt e.pos;holding [v] (truthy v)):=by intro _;rfl):PT X e (bV X.K t):=by
 intro pins s σ H Q I q
 refine isTrue_plain (thn (h pins s σ H _ I q) fun v s1 ⟨x,H1,I1,r1,q1⟩=>zq pins s1 σ H1 x v Q I1 r1 ?_) (he _)
 cases x <;> first | exact ⟨_,rfl,q1⟩ | exact q1
def ut (t u:TT):TT:=fun σ H Q=>t σ H fun c H1=>Sel c (u σ H1 Q) (Q false H1)
def mOr (t u:TT):TT:=fun σ H Q=>t σ H fun c H1=>Sel c (Q true H1) (u σ H1 Q)
variable {a b c:Expr} {ta tb:TE} {tA tB':TT} {bv:List Expr} {pos:Pos}
theorem yf (ha:PT X a tA):PW X (.BoolOp .And [a] pos) tA:=zg ha
theorem zn (ha:PT X a tA):PW X (.BoolOp .Or [a] pos) tA:=AU ha
theorem BU (ha:PT X a tA) (hb:PW X (.BoolOp .And (b::bv) pos) tB'):PW X (.BoolOp .And (a::b::bv) pos) (ut tA tB'):=by
 intro wh pins s σ H Q I h
 refine isTrue_and (thn (ha pins s σ H _ I h) fun c s1 ⟨H1,I1,q1⟩=>?_)
 have q1:=dD q1
 cases c with
 | true=>exact hb wh pins s1 σ H1 Q I1 q1
 | false=>exact ⟨H1,I1,q1⟩
theorem EG (ha:PT X a tA) (hb:PW X (.BoolOp .Or (b::bv) pos) tB'):PW X (.BoolOp .Or (a::b::bv) pos) (mOr tA tB'):=by
 intro wh pins s σ H Q I h
 refine isTrue_or (thn (ha pins s σ H _ I h) fun c s1 ⟨H1,I1,q1⟩=>?_)
 have q1:=dD q1
 cases c with
 | true=>exact ⟨H1,I1,q1⟩
 | false=>exact hb wh pins s1 σ H1 Q I1 q1
def kA (ta tb:TE):TE:=fun σ H Q=>ta σ H fun x H1=>match x with | .bl c=>Sel c (tb σ H1 Q) (Q (.bl false) H1) | _=>False
def wG (ta tb:TE):TE:=fun σ H Q=>ta σ H fun x H1=>match x with | .bl c=>Sel c (Q (.bl true) H1) (tb σ H1 Q) | _=>False
def qM (ta:TE):TE:=fun σ H Q=>ta σ H fun x H1=>match x with | .bl c=>Q (.bl (!c)) H1 | _=>False
theorem FP (ha:PE X a ta) (hb:PE X (.BoolOp .And (b::bv) pos) tb):PE X (.BoolOp .And (a::b::bv) pos) (kA ta tb):=by
 intro pins s σ H Q I h
 refine BoolOp_and (thn (ha pins s σ H _ I h) fun v s1 ⟨x,H1,I1,r1,q1⟩=>?_)
 cases x <;> first | exact q1.elim | skip
 rename_i c
 cases r1
 refine wpAny_truthy_bool ?_
 have q1:=dD q1
 cases c with
 | true=>exact hb pins s1 σ H1 Q I1 q1
 | false=>exact ⟨.bl false,H1,I1,rfl,q1⟩
theorem qor (ha:PE X a ta) (hb:PE X (.BoolOp .Or (b::bv) pos) tb):PE X (.BoolOp .Or (a::b::bv) pos) (wG ta tb):=by
 intro pins s σ H Q I h
 refine BoolOp_or (thn (ha pins s σ H _ I h) fun v s1 ⟨x,H1,I1,r1,q1⟩=>?_)
 cases x <;> first | exact q1.elim | skip
 rename_i c
 cases r1
 refine wpAny_truthy_bool ?_
 have q1:=dD q1
 cases c with
 | false=>exact hb pins s1 σ H1 Q I1 q1
 | true=>exact ⟨.bl true,H1,I1,rfl,q1⟩
theorem CA (ha:PE X a ta):PE X (.UnaryOp .Not a pos) (qM ta):=by
 intro pins s σ H Q I h
 refine UnaryOp_ (thn (ha pins s σ H _ I h) fun v s1 ⟨x,H1,I1,r1,q1⟩=>?_)
 cases x <;> first | exact q1.elim | skip
 rename_i c
 cases r1
 exact not_of (wpAny_truthy_bool ⟨.bl (!c),H1,I1,rfl,q1⟩)
def mIf (t:TT) (ta tb:TE):TE:=fun σ H Q=>t σ H fun c H1=>Sel c (ta σ H1 Q) (tb σ H1 Q)
theorem Gp {c:Expr} (hc:PT X c tA) (ha:PE X a ta) (hb:PE X b tb):PE X (.IfExp c a b pos) (mIf tA ta tb):=by
 intro pins s σ H Q I h
 refine wpAny_IfExp (thn (hc pins s σ H _ I h) fun d s1 ⟨H1,I1,q1⟩=>?_)
 have q1:=dD q1
 cases d with
 | true=>exact ha pins s1 σ H1 Q I1 q1
 | false=>exact hb pins s1 σ H1 Q I1 q1
def bn (c:TT) (t u:TS):TS:=fun D σ H=>c σ H fun b H1=>Sel b (t D σ H1) (u D σ H1)
theorem qif {c:Expr} {l m:List Stmt} {tc:TT} {t u:TS} (hc:PT X c tc) (ha:PSs X l t) (hb:PSs X m u):PS X (.If c l m pos) (bn tc t u):=by
 intro pins s σ H D I h
 refine wpAny_If (thn (hc pins s σ H _ I h) fun d s1 ⟨H1,I1,q1⟩=>?_)
 have q1:=dD q1
 cases d with
 | true=>exact ha pins s1 σ H1 D I1 q1
 | false=>exact hb pins s1 σ H1 D I1 q1
theorem Gq:bo X (.builtin "len") (fun xs H Q=>match xs with
   | [.str y]=>y.length≤sizeLine∧Q (.int y.length) H
   | [.ref p]=>(∃ xs,SqL X.K H p xs∧Q (.int xs.length) H)∨(∃ xs,SqT X.K H p xs∧Q (.int xs.length) H)∨∃ kvs,H p=some (.dK kvs)∧Q (.int kvs.length) H
   | _=>False):=by
 intro pins s σ H xs us Q I r h
 split at h
 · rename_i y
   exact jS pins s σ H _ us Q I r ⟨_,_,rfl,⟨h.1,rfl⟩,h.2⟩
 · rename_i p
   rcases h with ⟨ys,h1,h2⟩ | ⟨ys,h1,h2⟩ | ⟨kvs,h1,h2⟩
   · exact jS pins s σ H _ us Q I r ⟨_,_,rfl,.inl ⟨ys,h1,rfl⟩,h2⟩
   · exact jS pins s σ H _ us Q I r ⟨_,_,rfl,.inr ⟨ys,h1,rfl⟩,h2⟩
   · exact sH pins s σ H _ us Q I r ⟨p,kvs,rfl,h1,h2⟩
 · exact h.elim
end
section
variable {X:Cx} {tg:Expr}
def rl:V→Hp→VK→Prop:=fun x H Q=>match x with | .int i=>Q (.int (-i)) H | _=>False
theorem Fh:UnR X (unaryOp .USub) rl:=fun pins s σ H x v Q I rx q=>BA pins s σ H x v Q I rx (by
 unfold rl at q
 split at q
 · exact ⟨_,rfl,q⟩
 · exact q.elim)
def zQ (K:W.Frag):List V→Hp→VK→Prop:=fun xs H Q=>match xs with
 | [.str y]=>y.length≤sizeLine∧Q (.int y.length) H
 | [.ref p]=>(∃ xs,SqL K H p xs∧Q (.int xs.length) H)∨(∃ xs,SqT K H p xs∧Q (.int xs.length) H)∨∃ kvs,H p=some (.dK kvs)∧Q (.int kvs.length) H
 | _=>False
theorem FZ:bo X (.builtin "len") (zQ X.K):=Gq
def eA:List V→Hp→VK→Prop:=fun xs H Q=>match xs with
 | [x,.ty T]=>T∈["int", "bool", "str", "tuple", "list", "dict"]∧∃ t,tyN H x=some t∧Q (.bl (isI t T)) H
 | _=>False
theorem fj:bo X (.builtin "isinstance") eA:=fun pins s σ H xs us Q I r h=>by
 unfold eA at h
 split at h
 · obtain ⟨h1,t,h2,h3⟩:=h
   exact uu pins s σ H _ us Q I r ⟨_,_,t,rfl,h1,h2,h3⟩
 · exact h.elim
def Ce:List V→Hp→VK→Prop:=fun xs H Q=>∃ (a:Addr) (bs:List Bool),xs=[.ref a]∧H a=some (.lst (bs.map V.bl))∧Q (.bl (bs.all id)) H
theorem Gb (hc:X.calm=true):bo X (.builtin "all") Ce:=uT hc
def vY:List V→Hp→VK→Prop:=fun xs H Q=>match xs with
 | [.int i]=>i.natAbs.log2<1920∧Q (.str (toString i)) H
 | _=>False
theorem FL:bo X (.type "str") vY:=fun pins s σ H xs us Q I r h=>by
 unfold vY at h
 split at h
 · exact nY pins s σ H _ us Q I r ⟨_,rfl,h.1,h.2⟩
 · exact h.elim
def vx:List V→Hp→VK→Prop:=fun xs H Q=>match xs with
 | [.str x]=>x.length=1∧Q (.int (x.cps.getD 0 0:Nat)) H
 | _=>False
theorem Fb:bo X (.builtin "ord") vx:=fun pins s σ H xs us Q I r h=>by
 unfold vx at h
 split at h
 · exact uk pins s σ H _ us Q I r ⟨_,rfl,h.1,h.2⟩
 · exact h.elim
end
theorem zh:bootBuiltins "all" =some (.builtin "all"):=by decide +kernel
structure cD (J:It) (n:Nat) (it:Nat→V) (Pv:Hp→Prop):Prop where
 go:∀ i H,i<n→Pv H→J.go i H
 yld:∀ i H x H',i<n→Pv H→J.yld i H x H'→H'=H∧x=it i
 stop:∀ H,Pv H→J.stop n H
theorem cD.list {K:W.Frag} {a:Addr} {xs:List V} (d:V):cD (Itl K a) xs.length (fun i=>xs.getD i d) (fun H=>SqL K H a xs) where
 go:=fun i H hi h=>⟨xs,xs[i],h,by simp [hi]⟩
 yld:=fun i H x H' hi h y=>⟨y.1,by have:=y.2 xs h;rw [List.getD_eq_getElem?_getD,this];rfl⟩
 stop:=fun H h=>⟨xs,h,Nat.le_refl _⟩
theorem cD.tuple {K:W.Frag} {a:Addr} {xs:List V} (d:V):cD (Itt K a) xs.length (fun i=>xs.getD i d) (fun H=>SqT K H a xs) where
 go:=fun i H hi h=>⟨xs,xs[i],h,by simp [hi]⟩
 yld:=fun i H x H' hi h y=>⟨y.1,by have:=y.2 xs h;rw [List.getD_eq_getElem?_getD,this];rfl⟩
 stop:=fun H h=>⟨xs,h,Nat.le_refl _⟩
theorem cD.range {lo:Int} {n:Nat}:cD (Itr lo n) n (fun i=> .int (lo+i)) (fun _=>True) where
 go:=fun i H hi _=>hi
 yld:=fun i H x H' hi _ y=>y
 stop:=fun H _=>Nat.le_refl _
def CWd (n:Nat) (Pv:Nat→List V→Hp→Prop):Nat→Nat→List V→Hp→Prop:=fun i m ys H=>i≤n∧m=n - i∧Pv i ys H
theorem CWd.next {n i:Nat} {Pv:Nat→List V→Hp→Prop} {ys:List V} {H:Hp} (hi:i<n) (h:Pv (i+1) ys H):∃ m',m'<n - i∧CWd n Pv (i+1) m' ys H:=⟨n - (i+1),by omega,hi,rfl,h⟩
theorem jd {J : It} {n : Nat} {it : Nat → V} {Pk : Hp → Prop} {σ : St} {is : List Nat} {tc : TT} {te : TE} {Q : VK} {H1 : Hp} {D : Addr} (T : cD J n it Pk) (Pv : Nat → List V → Hp → Prop)
   (hk : ∀ i ys H, i ≤ n → Pv i ys H → Pk H) (h0 : Pv 0 [] (upd H1 D (.lst [])))
   (hs : ∀ i ys H2, i < n → Pv i ys H2 → tc (some (it i) :: aI σ is) H2 fun b H4 => if b = true then
    te (some (it i) :: aI σ is) H4 fun y H5 => H5 D = some (.lst ys) ∧ ys.length < sizeLine ∧ ∃ m', m' < n - i ∧ CWd n Pv (i + 1) m' (ys ++ [y]) (upd H5 D (.lst (ys ++ [y])))
    else ∃ m', m' < n - i ∧ CWd n Pv (i + 1) m' ys H4)
   (hd : ∀ ys H, Pv n ys H → Q (.ref D) H) : xp is tc te σ D J H1 Q := by
 refine ⟨CWd n Pv, ⟨n, Nat.zero_le _, rfl, h0⟩, ?_⟩
 rintro i m ys H2 ⟨hi, rfl, p⟩
 by_cases hlt : i < n
 · refine .inr ⟨T.go i H2 hlt (hk i ys H2 hi p), fun x H3 y => ?_⟩
   obtain ⟨rfl, rfl⟩ := T.yld i H2 x H3 hlt (hk i ys H2 hi p) y
   exact hs i ys _ hlt p
 · have e : i = n := by omega
   subst e
   exact .inl ⟨T.stop H2 (hk _ ys H2 hi p), hd ys H2 p⟩
theorem aq.upd {H:Hp} {p:Addr} {o:HO} (h:H p=none):aq H (upd H p o):=fun b u e=>by rw [ak (ar e h)];exact e
theorem Bp {xs:List V} {i:Int} (h0:0≤i) (h1:i<xs.length):atI xs i=some (xs.getD i.toNat .non):=by
 unfold atI ixN
 rw [if_pos h0,if_pos h1]
 show xs[i.toNat]?=_
 rw [List.getD_eq_getElem?_getD]
 have:i.toNat<xs.length:=by omega
 rw [List.getElem?_eq_getElem this];rfl
def bA:Expr→Bool
 | .Starred _ _=>false
 | _=>true
theorem aO {e:Expr} (h:bA e=true) (bv:List Expr) (env:Env):starEach (e::bv) env=(false,eval e env)::starEach bv env:=by
 cases e <;> first | rfl | cases h
def aX:List Expr→Bool
 | []=>true
 | e::r=>bA e&&aX r
theorem bD : ∀ {es : List Expr} {env : Env} {pos : Pos}, aX es = true → (backTo pos (starEach es env)).any (·.1) = false
  | [], _, _, _ => rfl
  | e :: r, env, pos, h => by
    have h : (bA e && aX r) = true := h
    rw [Bool.and_eq_true] at h
    rw [aO h.1]
    show (false || (backTo pos (starEach r env)).any (·.1)) = false
    rw [bD h.2]; rfl
section
variable {X:Cx} {e:Expr} {es:List Expr} {te:TE} {t:TA} {pos:Pos}
theorem yV (ha:PE X e te) (hr:PA X es t) (hs:bA e=true:=by rfl):PA X (e::es) (ac te t):=yT ha hr (aO hs es X.env)
variable {x:Str} {p apos cpos:Pos} {id T:String} {r:List V→Hp→VK→Prop}
theorem yS (hc:bo X (.builtin id) r) (hg:Gl X x) (hm:X.mg x=none) (hv:bootBuiltins x=some (.builtin id)) (ha:PA X (e::es) t) (hn:x≠ "__name__" :=by decide) (hdb:(x==("__debug__" :Str))=false:=by decide)
  (hs:aX (e::es)=true:=by rfl):PE X (.Call (.Name x p) (e::es) [] pos) (tCB r t):=
 have h:(bA e&&aX es)=true:=hs
 wo hc hg hm hv ha hn hdb (aO (Bool.and_eq_true_iff.mp h).1 es X.env) (bD (Bool.and_eq_true_iff.mp h).2)
theorem uD (hc:bo X (.type T) r) (hg:Gl X x) (hm:X.mg x=none) (hv:bootBuiltins x=some (.type T)) (ha:PA X (e::es) t) (hn:x≠ "__name__" :=by decide) (hdb:(x==("__debug__" :Str))=false:=by decide)
  (hs:aX (e::es)=true:=by rfl):PE X (.Call (.Name x p) (e::es) [] pos) (tCB r t):=
 have h:(bA e&&aX es)=true:=hs
 sY hc hg hm hv ha hn hdb (aO (Bool.and_eq_true_iff.mp h).1 es X.env) (bD (Bool.and_eq_true_iff.mp h).2)
variable {CX:CXT} {k:Nat} {f C:Addr} {fd:FuncData} {ps:List Str} {sp:Sp} {dvs:List V} {ds:List Value} {E:XK} {m:Str} {o:Expr} {ta:TE}
theorem jm : ∀ {es : List Expr} {env : Env} {pos : Pos}, aX es = true → (backTo pos (starEach es env)).all (fun x => !x.1) = true
  | [], _, _, _ => rfl
  | e :: r, env, pos, h => by
    have h : (bA e && aX r) = true := h
    rw [Bool.and_eq_true] at h
    rw [aO h.1]
    show (true && (backTo pos (starEach r env)).all (fun x => !x.1)) = true
    rw [jm h.2]; rfl
variable {to:TE} {name:Str} {rm:V→List V→Hp→VK→Prop}
theorem EW (pa:PlainAttrs T) (slot:Slot T name id) (hty:typeOf (.builtin id)=pure (.type "method_descriptor")) (hm:MtR X id rm) (ho:PE X o to) (ha:PA X (e::es) t)
  (hbase:attributeBase o name X.env (eval o X.env)=eval o X.env:=by rfl) (hfew:decide ((e::es).length<30)=true:=by rfl)
  (hline:(apos.endLine==cpos.line)=true:=by rfl) (hs:aX (e::es)=true:=by rfl):PE X (.Call (.Attribute o name apos) (e::es) [] cpos) (tBM X.K T rm to t):=
 have h:(bA e&&aX es)=true:=hs
 CS pa slot hty hm ho ha hbase (by rw [jm hs];exact hfew) hline (aO (Bool.and_eq_true_iff.mp h).1 es X.env) (bD (Bool.and_eq_true_iff.mp h).2)
end
structure QE (X:Cx) (e:Expr) (t:TE):Prop where
 out:PE X e t
structure QT (X:Cx) (e:Expr) (t:TT):Prop where
 out:PT X e t
structure QW (X:Cx) (e:Expr) (t:TT):Prop where
 out:PW X e t
structure QA (X:Cx) (e:List Expr) (t:TA):Prop where
 out:PA X e t
structure QS (X:Cx) (e:Stmt) (t:TS):Prop where
 out:PS X e t
structure QSs (X:Cx) (e:List Stmt) (t:TS):Prop where
 out:PSs X e t
structure QI (X:Cx) (tg iter:Expr) (t:TI):Prop where
 out:PI X tg iter t
structure QO (X:Cx) (e:Option Expr) (t:TO):Prop where
 out:PO X e t
structure qN (X:Cx) (e:List Expr) (t:TT):Prop where
 out:lE X e t
section
variable {X:Cx} {a b c e o:Expr} {es bv:List Expr} {ta tb tc te to tv:TE} {tA tB':TT} {t:TA} {pos apos cpos p:Pos} {x y:Str}
theorem ab (i:Nat) (hN:X.N[i]?=some x:=by rfl) (hv:Vis X.env.scope x:=by first | exact Or.inl rfl | exact Or.inr (Or.inl rfl) | exact Or.inr (Or.inr rfl)) (hd:(x==("__debug__" :Str))=false:=by decide)
 (hcd:(x==("__classdict__" :Str))=false:=by decide):QE X (.Name x pos) (ae i):=⟨qv i hN hv hd hcd⟩
theorem Fe {i:Int} (hm:∃ t,X.mg x=some (.int i t)) (hg:Gl X x:=by rfl) (hd:(x==("__debug__" :Str))=false:=by decide):QE X (.Name x pos) (tC (.int i)):=⟨qgi hm hg hd⟩
theorem fE {T:String} (hm:X.mg x=none) (hv:bootBuiltins x=some (.type T)) (hg:Gl X x:=by rfl) (hn:x≠ "__name__" :=by decide) (hd:(x==("__debug__" :Str))=false:=by decide):QE X (.Name x pos) (tC (.ty T)):=⟨yG hg hm hv rfl hn hd⟩
theorem ao {i:Int} {j}:QE X (.Constant (.int i) j pos) (tC (.int i)):=⟨Bi⟩
theorem cO {b:Bool} {j}:QE X (.Constant (.bool b) j pos) (tC (.bl b)):=⟨DX⟩
theorem xE {j}:QE X (.Constant .none j pos) (tC .non):=⟨zR⟩
theorem dh {z:Str} {j}:QE X (.Constant (.str z) j pos) (tC (.str z)):=⟨Bz⟩
theorem Dk (ha:QE X a ta):QE X (.UnaryOp .USub a pos) (tUn rl ta):=⟨DU Fh ha.out⟩
theorem CQ (ha:QE X a ta):QE X (.UnaryOp .Not a pos) (qM ta):=⟨CA ha.out⟩
theorem aH {op:Operator} {r:R2} (ho:OpR X (binaryOp op) r) (ha:QE X a ta) (hb:QE X b tb):QE X (.BinOp a op b pos) (tOp r ta tb):=⟨CN ho ha.out hb.out⟩
theorem iP {op:CmpOp} {r:R2} (ho:OpR X (compareOp op) r) (ha:QE X a ta) (hb:QE X b tb) (hm:behindInMarks op b=false:=by first | exact kz _ | rfl):QE X (.Compare a [op] [b] pos) (tOp r ta tb):=⟨qc ho ha.out hb.out hm⟩
theorem yI {op op':CmpOp} {r r':R2} (ho:OpR X (compareOp op) r) (ho':OpR X (compareOp op') r') (ha:QE X a ta) (hb:QE X b tb) (hc:QE X c tc) (hm:lastMarks [op,op'] [b,c]=false:=by with_unfolding_all rfl):
 QE X (.Compare a [op,op'] [b,c] pos) (gp r r' ta tb tc):=⟨qch ho ho' ha.out hb.out hc.out hm⟩
theorem mI {op} (h:QE X a ta):QE X (.BoolOp op [a] pos) ta:=⟨Bw h.out⟩
theorem qQ (ha:QE X a ta) (hb:QE X (.BoolOp .And (b::bv) pos) tb):QE X (.BoolOp .And (a::b::bv) pos) (kA ta tb):=⟨FP ha.out hb.out⟩
theorem Fs (ha:QE X a ta) (hb:QE X (.BoolOp .Or (b::bv) pos) tb):QE X (.BoolOp .Or (a::b::bv) pos) (wG ta tb):=⟨qor ha.out hb.out⟩
theorem qX (hc:QT X c tA) (ha:QE X a ta) (hb:QE X b tb):QE X (.IfExp c a b pos) (mIf tA ta tb):=⟨Gp hc.out ha.out hb.out⟩
theorem ag:QA X [] ai:=⟨zD⟩
theorem aa (ha:QE X e te) (hr:QA X es t) (hs:bA e=true:=by rfl):QA X (e::es) (ac te t):=⟨yV ha.out hr.out hs⟩
theorem cL (h:QA X es t):QE X (.List es pos) (da t):=⟨zH h.out⟩
theorem dv {x1} (h:QA X es t):QE X (.Tuple es x1 pos) (dE t):=⟨Bu h.out⟩
theorem bF {r:R2} (hr:IxR X r) (ha:QE X a ta) (hb:QE X b tb) (hs:pL b):QE X (.Subscript a b pos) (tOp r ta tb):=⟨Dp hr ha.out hb.out hs⟩
theorem lH:QO X none fW:=⟨yW⟩
theorem fY (h:QE X e te):QO X (some e) (gR te):=⟨yO h.out⟩
theorem iX {r:V→Option Int→Option Int→Hp→VK→Prop} {lo hi:Option Expr} {tl th:TO} {p2:Pos} (hr:SlR X r) (he:QE X e te) (hl:QO X lo tl) (hu:QO X hi th):QE X (.Subscript e (.Slice lo hi none p2) pos) (tSl r te tl th):=⟨vQ hr he.out hl.out hu.out⟩
variable {id T:String} {r:List V→Hp→VK→Prop}
theorem aM (hc:bo X (.builtin id) r) (hm:X.mg x=none) (hv:bootBuiltins x=some (.builtin id)) (ha:QA X (e::es) t) (hg:Gl X x:=by rfl) (hn:x≠ "__name__" :=by decide) (hdb:(x==("__debug__" :Str))=false:=by decide)
 (hs:aX (e::es)=true:=by rfl):QE X (.Call (.Name x p) (e::es) [] pos) (tCB r t):=⟨yS hc hg hm hv ha.out hn hdb hs⟩
theorem dk (hc:bo X (.type T) r) (hm:X.mg x=none) (hv:bootBuiltins x=some (.type T)) (ha:QA X (e::es) t) (hg:Gl X x:=by rfl) (hn:x≠ "__name__" :=by decide) (hdb:(x==("__debug__" :Str))=false:=by decide)
 (hs:aX (e::es)=true:=by rfl):QE X (.Call (.Name x p) (e::es) [] pos) (tCB r t):=⟨uD hc hg hm hv ha.out hn hdb hs⟩
variable {CX:CXT} {k:Nat} {f C:Addr} {fd:FuncData} {ps:List Str} {sp:Sp} {dvs:List V} {ds:List Value} {E:XK} {m:Str}
variable {name:Str} {rm:V→List V→Hp→VK→Prop}
theorem lm (pa:PlainAttrs T) (slot:Slot T name id) (hty:typeOf (.builtin id)=pure (.type "method_descriptor")) (hm:MtR X id rm) (ho:QE X o to) (ha:QA X (e::es) t)
 (hbase:attributeBase o name X.env (eval o X.env)=eval o X.env:=by rfl) (hfew:decide ((e::es).length<30)=true:=by rfl)
 (hline:(apos.endLine==cpos.line)=true:=by rfl) (hs:aX (e::es)=true:=by rfl):QE X (.Call (.Attribute o name apos) (e::es) [] cpos) (tBM X.K T rm to t):=⟨EW pa slot hty hm ho.out ha.out hbase hfew hline hs⟩
theorem be {op:CmpOp} {r:R2} (ho:OpR X (compareOp op) r) (ha:QE X a ta) (hb:QE X b tb) (hm:behindInMarks op b=false:=by first | exact kz _ | rfl):QT X (.Compare a [op] [b] pos) (aZ (tOp r ta tb)):=⟨qtc ho ha.out hb.out hm⟩
theorem vT {op op':CmpOp} {r r':R2} (ho:OpR X (compareOp op) r) (ho':OpR X (compareOp op') r') (ha:QE X a ta) (hb:QE X b tb) (hc:QE X c tc) (hm:lastMarks [op,op'] [b,c]=false:=by with_unfolding_all rfl):
 QT X (.Compare a [op,op'] [b,c] pos) (aZ (gp r r' ta tb tc)):=⟨FC ho ho' ha.out hb.out hc.out hm⟩
theorem bw (h:QE X e te) (he:∀ whole,isTrue e X.env whole=(do let v←whole;standAt e.pos;holding [v] (truthy v)):=by intro _;rfl):QT X e (bV X.K te):=⟨qtb h.out he⟩
theorem cb (ha:QT X a tA):QT X (.UnaryOp .Not a pos) (cI tA):=⟨AI ha.out⟩
theorem x_w (h:QW X e tA):QT X e tA:=⟨h.out.pt⟩
theorem yy (ha:QT X a tA):QW X (.BoolOp .And [a] pos) tA:=⟨yf ha.out⟩
theorem eS (ha:QT X a tA):QW X (.BoolOp .Or [a] pos) tA:=⟨zn ha.out⟩
theorem zt (ha:QT X a tA) (hb:QW X (.BoolOp .And (b::bv) pos) tB'):QW X (.BoolOp .And (a::b::bv) pos) (ut tA tB'):=⟨BU ha.out hb.out⟩
theorem fb (ha:QT X a tA) (hb:QW X (.BoolOp .Or (b::bv) pos) tB'):QW X (.BoolOp .Or (a::b::bv) pos) (mOr tA tB'):=⟨EG ha.out hb.out⟩
variable {tg iter elt:Expr} {wi:TI} {ifs:List Expr} {scope:Scope} {ys:List Str} {is:List Nat} {px py spos:Pos}
theorem nJ (hm:X.mg "range" =none) (ha:QA X [a] t) (hg:Gl X "range" :=by rfl) (hs:bA a=true:=by rfl):QI X tg (.Call (.Name "range" p) [a] [] pos) (mR t):=⟨sx hg hm ha.out (aO hs [] X.env)⟩
theorem vO (hm:X.mg "range" =none) (ha:QA X [a,b] t) (hg:Gl X "range" :=by rfl) (hs:bA a=true:=by rfl) (hs2:bA b=true:=by rfl):QI X tg (.Call (.Name "range" p) [a,b] [] pos) (qi t):=
 ⟨ub hg hm ha.out (by rw [aO hs,aO hs2];rfl) (aO hs2 [] X.env)⟩
theorem iN:qN X [] (fun _ H Q=>Q true H):=⟨rfl⟩
theorem nF {tcn:TT} (S:dU scope x ys) (hcap:dG X scope ys is) (hi:QI X (.Name x px) iter wi)
 (hif:∀ C s H fp,qN (aC X scope C (x::ys) s H fp) ifs tcn) (he:∀ C s H fp,QE (aC X scope C (x::ys) s H fp) elt te) (hc:X.calm=true:=by rfl)
 (hs:∀ x,foldedSetIterable iter X.env x=pure x:=by intro _;rfl):QE X (.ListComp elt [⟨.Name x px,iter,ifs,0⟩] scope pos) (fN is wi tcn te):=⟨yp hc S hcap hi.out (fun C s H fp=>(hif C s H fp).out) (fun C s H fp=>(he C s H fp).out) hs⟩
variable {st:Stmt} {sts:List Stmt} {tS uS:TS} {i j:Nat}
theorem aV:QSs X [] aY:=⟨yL⟩
theorem ap (h:QS X st tS):QSs X [st] tS:=⟨yF h.out⟩
theorem am (h1:QS X st tS) (h2:QSs X sts uS):QSs X (st::sts) (aw tS uS):=⟨vR h1.out h2.out⟩
theorem aD (h:QE X e te):QS X (.Return (some e) pos) (aJ te):=⟨AL h.out⟩
theorem bh {l m:List Stmt} (hc:QT X c tA) (ha:QSs X l tS) (hb:QSs X m uS):QS X (.If c l m pos) (bn tA tS uS):=⟨qif hc.out ha.out hb.out⟩
theorem aR (i:Nat) (hN:X.N.Nodup) (he:QE X e te) (hi:X.N[i]?=some x:=by rfl) (hx:Loc X.env.scope x:=by first | exact .inl rfl | exact .inr rfl)
 (hs:swapsWith e (some (.Name x p)) pos.line X.env=pure false:=by rfl) (hf:X.fn x=true∨X.env.scope.names.lookup x=some .local:=by first | exact .inl rfl | exact .inr rfl):QS X (.Assign [.Name x p] e pos) (aP te (av i)):=⟨zZ hN hi hx he.out hs hf⟩
theorem tN (j:Nat) {tcn:TT} (hN:X.N.Nodup) (S:dU scope x ys) (hcap:dG X scope ys is) (hi:QI X (.Name x px) iter wi)
  (hif:∀ C s H fp,qN (aC X scope C (x::ys) s H fp) ifs tcn) (he:∀ C s H fp,QE (aC X scope C (x::ys) s H fp) elt te) (hc:X.calm=true:=by rfl)
  (hj:X.N[j]?=some y:=by rfl) (hy:Loc X.env.scope y:=by first | exact .inl rfl | exact .inr rfl)
  (hsw:swapsWith (.ListComp elt [⟨.Name x px,iter,ifs,0⟩] scope pos) (some (.Name y py)) spos.line X.env=pure true:=by rfl) (hf:X.fn y=true∨X.env.scope.names.lookup y=some .local:=by first | exact .inl rfl | exact .inr rfl)
  (hs:∀ x,foldedSetIterable iter X.env x=pure x:=by intro _;rfl):QS X (.Assign [.Name y py] (.ListComp elt [⟨.Name x px,iter,ifs,0⟩] scope pos) spos) (aP (fN is wi tcn te) (av j)):=
 ⟨qU hN hj hy hc S hcap hi.out (fun C s H fp=>(hif C s H fp).out) (fun C s H fp=>(he C s H fp).out) hsw hf hs⟩
theorem iB (h:QE X e te) (hs:swapsWith e none pos.line X.env=pure false:=by rfl):QS X (.Expr e pos) (fJ te):=⟨yw h.out hs⟩
theorem kO (i:Nat) (hN:X.N.Nodup) {body:List Stmt} (hi:QI X (.Name x px) iter wi) (hb:QSs X body tS) (hp:PassesOwn (model X.prog X.w) X.A X.env X.xe) (hc:X.calm=true:=by rfl)
 (hj:X.N[i]?=some x:=by rfl) (hx:Loc X.env.scope x:=by first | exact .inl rfl | exact .inr rfl) (hf:X.fn x=true∨X.env.scope.names.lookup x=some .local:=by first | exact .inl rfl | exact .inr rfl)
 (hs:∀ x,foldedSetIterable iter X.env x=pure x:=by intro _;rfl):QS X (.For (.Name x px) iter body [] pos) (fB wi (av i) tS):=⟨ua hp hc hi.out (gc hN hj hx hf) hb.out hs⟩
theorem zd {body:List Stmt} (hc:QT X c tA) (hb:QSs X body tS) (hp:PassesOwn (model X.prog X.w) X.A X.env X.xe):QS X (.While c body [] pos) (ow tA tS):=⟨ui hp hc.out hb.out⟩
theorem qe:QS X st jX:=⟨vP⟩
end
end L2
namespace HT
open PySem PyProof.Rows
structure Hd0 (vs:Array Value) (a0:Value):Prop where
 a:vs[0]?=some a0
 b:vs[2]?=some .none

end HT
namespace L2
open PySem PySem.Spec PyProof.Rows
structure Fly (P:Program) (w:World) (l:List Env) (H:Hp) (s:Shared) (cls fl:Value) (a:Addr) (d:Option Addr) (H':Hp) (s':Shared):Prop where
 os:s'.os=s.os
 bare:AllBare s'.gens
 un:Un (frs l) [] H H' s.heap s'.heap
 hok:HOk P w H' s'.heap
 new:s.heap.get? a=none
 free:H' a=none
 tr:∃ oe vs a0 T oT ts,s'.heap.get? a=some oe∧oe.cls=cls∧oe.dict=d∧oe.data=.fields vs∧HT.Hd0 vs a0∧vs[1]?=some (.ref T)∧T≠a∧s'.heap.get? T=some oT∧oT.data=.fields ts∧ts[3]?=some fl∧s.heap.get? T=none∧H' T=none
def CX1 (P:Program) (w:World):CXT:=fun outer H s E e s'=>∃ a C d H',e=.ref a∧Fly P w outer H s (.ref C) .none a d H' s'∧E (.ref C) d H'
theorem vm {P:Program} {w:World} {H:Hp} {h:Heap} {a:Addr} {o:HO} (x:aQ P w H h a o):∃ u,h.get? a=some u:=by
 cases o with
 | lst xs=>obtain ⟨_,_,_,_,e⟩:=x;exact ⟨_,e⟩
 | tup xs=>obtain ⟨_,_,_,p⟩:=x;obtain ⟨o,e,_⟩:=p;exact ⟨_,e⟩
 | dK kvs=>obtain ⟨_,_,_,_,o,_,_,e,_⟩:=x;exact ⟨_,e⟩
 | dT kvs=>obtain ⟨_,_,_,_,o,_,_,e,_⟩:=x;exact ⟨_,e⟩
 | set S n=>obtain ⟨o,_,_,_,e,_⟩:=x;exact ⟨_,e⟩
 | ins C dx fs=>obtain ⟨_,_,_,e,_⟩:=x;exact ⟨_,e⟩
 | own y=>exact x
 | xd fs=>obtain ⟨_,⟨_,_,_,e,_⟩,_⟩:=x;exact ⟨_,e⟩
 | rng lo hi=>obtain ⟨_,_,_,e⟩:=x;exact ⟨_,e⟩
 | frz ob u=>obtain ⟨e,_⟩:=x;exact ⟨_,e⟩
 | tbl ps=>exact ⟨_,(show h.get? a=some _ from x)⟩
 | met f y=>exact ⟨_,(show h.get? a=some _ from x)⟩
 | ext φ=>obtain ⟨_,e,_⟩:=x;exact e

def dM (CX:CXT) (X:Cx) (E:St→XK):Prop:=∀ (pins:List (Addr×Obj)) (σ:St) (H:Hp) (s:Shared) (e:Value) (s':Shared),Inv X pins σ H s→CX X.stack H s (E σ) e s'→X.xe e s'
theorem aF {P:Program} {w:World} {X:Cx}:dM (CX1 P w) X (fun _=>E0):=fun pins σ H s e s' I ⟨_,_,_,_,_,_,h⟩=>h.elim
def aA (sp:Sp) (E:St→XK) (t:TA):TE:=fun σ H Q=>t σ H fun vs H1=>sp vs H1 Q (E σ)
section
variable {X:Cx} {CX:CXT} {k:Nat} {f:Addr} {fd:FuncData} {ps:List Str} {sp:Sp} {E:St→XK} {x:Str} {p pos:Pos} {e:Expr} {es:List Expr} {t:TA}
theorem ff {pins : List (Addr × Obj)} {σ : St} {H : Hp} {s : Shared} {Q : VK} {us : List Value} {vs : List V} (F : aN X.prog X.w X.K X.mg X.base CX k f fd ps sp) (hr : aW k X.A) (hb : aU X.K fd ps []) (hx : dM CX X E)
    (I : Inv X pins σ H s) (r : aG vs us) (h : sp vs H Q (E σ)) : wpAny (model X.prog X.w) X.A (call (.ref f) us) (EP X pins σ Q) X.xe s := by
  have hl : us.length = ps.length := by rw [← r.length]; exact F.len _ _ _ _ h
  have hb' := hb s us I.kIn (by rw [List.append_nil]; exact hl)
  rw [List.append_nil] at hb'
  refine wpAny_call (codeAny_mono (F.run X.A X.stack s H ⟨us, []⟩ us vs Q (E σ) hr I.env0 hb' r h) fun r s' hq => ?_)
  cases r with
  | error e => exact hx pins σ H s e s' I hq
  | ok fl =>
    cases fl with
    | ret u => exact I.after hq
    | next => exact False.elim hq
    | brk => exact False.elim hq
    | cont => exact False.elim hq
theorem ym (F:aN X.prog X.w X.K X.mg X.base CX k f fd ps sp) (hr:aW k X.A) (hm:X.mg x=some (.ref f)) (hk:W.keepIn X.K (.ref f)=true) (hb:aU X.K fd ps []) (hx:dM CX X E)
  (ha:QA X (e::es) t) (hg:Gl X x:=by rfl) (hdb:(x==("__debug__" :Str))=false:=by decide) (hs:aX (e::es)=true:=by rfl):QE X (.Call (.Name x p) (e::es) [] pos) (aA sp E t):=by
 refine ⟨fun pins s σ H Q I h=>?_⟩
 have h':(bA e&&aX es)=true:=hs
 refine wpAny_Call_Name_kw (gj I hg hm ?_ hdb)
 refine W.callWith_K (h₀:=X.base) I.ok.mod.kin hk (thn (ha.out pos pins s σ H _ I h) fun us s1 ⟨vs,H1,I1,r,q⟩=>⟨I1.kIn,?_⟩) (aO (Bool.and_eq_true_iff.mp h').1 es X.env) (bD (Bool.and_eq_true_iff.mp h').2)
 exact ff F hr hb hx I1 r q
theorem nS (F:aN X.prog X.w X.K X.mg X.base CX k f fd ps sp) (hr:aW k X.A) (hm:X.mg x=some (.ref f)) (hk:W.keepIn X.K (.ref f)=true) (hb:aU X.K fd ps []) (hx:dM CX X E)
  (hg:Gl X x:=by rfl) (hdb:(x==("__debug__" :Str))=false:=by decide):QE X (.Call (.Name x p) [] [] pos) (aA sp E ai):=by
 refine ⟨fun pins s σ H Q I h=>?_⟩
 refine wpAny_Call_Name_kw (gj I hg hm ?_ hdb)
 exact W.callWith_K0 I.kIn hk (ff (us:=[]) F hr hb hx I .nil h)
end
abbrev TH:=em→St→Addr→Option Addr→Hp→Prop

section
variable {X:Cx}
theorem jz {x:Str} {D:Addr} {pos:Pos} (hm:X.mg x=some (.ref D)) (hg:Gl X x:=by rfl) (hd:(x==("__debug__" :Str))=false:=by decide):QE X (.Name x pos) (tC (.ref D)):=⟨lI hg hm rfl hd⟩
end
end L2
namespace HT
open PySem PyProof.Rows
section
variable {prog:Program} {w:World} {A:Around} {E:Value→Shared→Prop} {s:Shared}
theorem ij {t sl:Addr} {items:Array Value} {vl vu:Value} {lo hi:Option Int} {Q:Value→Shared→Prop} (ht:IsTup s.heap t items) (hs:s.heap.IsSliceOf sl vl vu .none) (pl:IsPart vl lo) (pu:IsPart vu hi)
  (hw:sIx items.size 0 lo=0∧sIx items.size items.size hi=items.size) (h:Q (.ref t) s):wpAny (model prog w) A (getItem (.ref t) (.ref sl)) Q E s:=by
 obtain ⟨os,hos,hcs,hds⟩:=id hs
 have hTs:s.TypeIs (.ref sl) "slice" :=⟨os,hos,hcs⟩
 unfold getItem
 try with_reducible refine wpAny_holding ?_
 first | refine wpAny_bind (wpAny_pure ?_) | skip
 refine wpAny_bind (wpAny_sequenceKey ht.typeIs (by decide) ?_)
 refine wpAny_bind (wpAny_callSpecial?_slot (name:=Str.ofString "__getitem__") ht.typeIs PyProof.Rows.slot_tuple_getitem
  (wpAny_call_entry PyProof.Rows.slot_tuple_getitem ht.typeIs entry_tuple_getitem ?_ (args_tuple_getitem _ _)))
 show wpAny _ _ (Builtin.Tuple.tupleItemsOf (.ref t)>>=_) _ _ s
 refine wpAny_bind (tupleItemsOf_ ht ?_)
 refine wpAny_bind (wpAny_typeOf hTs ?_)
 rw [if_pos (by decide)]
 refine wpAny_bind (fv hs pl pu ?_)
 have hyes:(((sIx items.size 0 lo:Nat):Int)==0&&(1:Int)==1&&(sIx items.size items.size hi - sIx items.size 0 lo)==items.size)=true:=by
  rw [hw.1,hw.2];simp
 show wpAny _ _ (if (((sIx items.size 0 lo:Nat):Int)==0&&(1:Int)==1&&(sIx items.size items.size hi - sIx items.size 0 lo)==items.size)=true then _ else _) _ _ s
 rw [if_pos hyes]
 have hte:s.TypeIs (.ref t) "tuple" :=ht.typeIs
 unfold Builtin.Tuple.tupleIsExact
 repeat (first | exact ⟨_,rfl,wpAny_pure h⟩ | (with_reducible refine wpAny_typeOf hte ?_) | wp_step)
end
section
variable {prog:Program} {w:World} {A:Around} {E:Value→Shared→Prop} {s:Shared}
theorem vo {t b:Addr} {ws:List Value} {Q:Value→Shared→Prop} (ht:IsTup s.heap t #[]) (hb:IsTup s.heap b ws.toArray) (h1:Q (.ref b) s):wpAny (model prog w) A (binaryOp .Add (.ref t) (.ref b)) Q E s:=by
 obtain ⟨⟨cls,dd,data,sl⟩,ho,hc,n,hd⟩:=id ht
 obtain ⟨⟨cls2,dd2,data2,sl2⟩,ho2,hc2,n2,hd2⟩:=id hb
 simp only at hc hd hc2 hd2
 subst hc hd hc2 hd2
 exact concat_meets ⟨_,ho,rfl⟩ ⟨_,ho2,rfl⟩ noFill_tuple_add seq_tuple_add PySem.F.slot_tuple_add PySem.F.entry_tuple_add (PySem.F.args_tuple_add_2 _ _)
  (tuple_addW0 t b #[] ws.toArray n n2 dd dd2 sl sl2 (by simp)) ⟨ho,ho2,h1⟩
end
end HT
namespace L2
open PySem PySem.Spec PyProof.Rows
theorem aq.rfl' {H:Hp}:aq H H:=fun _ _ e=>e
theorem qu {xs:List V} {lo hi:Option Int} (h:HT.sIx xs.length 0 lo=0∧HT.sIx xs.length xs.length hi=xs.length):dO xs lo hi=xs:=by
 unfold dO
 rw [h.1,h.2,List.drop_zero,Nat.sub_zero,List.take_length]
section
variable {X:Cx}
def xN:V→Option Int→Option Int→Hp→VK→Prop:=fun x lo hi H Q=>∃ a xs,x=.ref a∧H a=some (.tup xs)∧∀ p H',aq H H'→H' p=some (.tup (dO xs lo hi))→Q (.ref p) H'
theorem yJ:SlR X xN:=by
 intro pins s σ H x v vl vu lo hi sl Q I rx hs pl pu h
 obtain ⟨a,xs,rfl,hx,q⟩:=h
 have hq:SqT X.K H a xs:=.inl (.inl hx)
 by_cases hw:HT.sIx xs.length 0 lo=0∧HT.sIx xs.length xs.length hi=xs.length
 · cases rx
   obtain ⟨its,r,ht,hz⟩:=I.tuple hq
   have hlen:its.toArray.size=xs.length:=by rw [List.size_toArray];exact r.length.symm
   refine ⟨"tuple",_,PyProof.Rows.slot_tuple_getitem.lookup,ht.typeIs,?_⟩
   refine HT.ij ht hs pl pu (by rw [hlen];exact hw) ?_
   exact ⟨.ref a,H,I,rfl,q a H aq.rfl' (by rw [qu hw];exact hx)⟩
 · exact zP pins s σ H _ v vl vu lo hi sl Q I rx hs pl pu ⟨a,xs,rfl,hq,hw,fun p hp=>q p _ (aq.upd hp) (af ..)⟩
def xv:R2:=fun x y H Q=>∃ a b xs ys,x=.ref a∧y=.ref b∧H a=some (.tup xs)∧H b=some (.tup ys)∧xs.length+ys.length≤sizeLine∧∀ p H',aq H H'→H' p=some (.tup (xs++ys))→Q (.ref p) H'
theorem yB:OpR X (binaryOp .Add) xv:=by
 intro pins s σ H x y v u Q I rx ry h
 obtain ⟨a,b,xs,ys,rfl,rfl,ha,hb,hz,q⟩:=h
 by_cases hx:xs=[]
 · subst hx
   cases rx
   cases ry
   obtain ⟨its,r1,p1,_⟩:=I.tuple (.inl (.inl ha))
   obtain ⟨its2,r2,p2,_⟩:=I.tuple (.inl (.inl hb))
   cases r1
   exact HT.vo p1 p2 ⟨.ref b,H,I,rfl,q b H aq.rfl' hb⟩
 · refine yQ pins s σ H _ _ v u Q I rx ry ⟨a,b,xs,ys,rfl,rfl,.inl (.inl ha),.inl (.inl hb),hx,hz,fun e=>?_,fun _ p hp=>q p _ (aq.upd hp) (af ..)⟩
   subst e
   exact q a H aq.rfl' (by rw [List.append_nil];exact ha)
def cN (K:W.Frag):R2:=fun x y H Q=>match x,y with
 | .int i,.int j=>Q (.int (i+j)) H
 | .str i,.str j=>i.length+j.length≤sizeLine∧Q (.str (i++j)) H
 | .ref a,.ref b=>Ax (.ref a) (.ref b) H Q∨xv (.ref a) (.ref b) H Q
 | _,_=>False
theorem db:OpR X (binaryOp .Add) (cN X.K):=(BJ.or (rK.or (Cg.or yB))).imp fun x y H Q q=>by
 unfold cN at q
 split at q
 · exact .inl ⟨_,_,rfl,rfl,q⟩
 · exact .inr (.inl ⟨_,_,rfl,rfl,q.1,q.2⟩)
 · exact .inr (.inr q)
 · exact q.elim
def Aj (K:W.Frag):V→Option Int→Option Int→Hp→VK→Prop:=fun x lo hi H Q=>BF K x lo hi H Q∨xN x lo hi H Q
theorem AD:SlR X (Aj X.K):=yn.or yJ
def qt (t:TE):TE:=fun σ H Q=>t σ H fun x H'=>match x with
 | .int i=>i.natAbs.log2<1920∧Q (.str (toString i)) H'
 | .str z=>z.length≤sizeLine∧Q (.str z) H'
 | _=>False
theorem qW {e:Expr} {te:TE} {pos:Pos} (h:QE X e te):QE X (.FormattedValue e (-1) none pos) (qt te):=⟨fun pins s σ H Q I q=>by
 refine FormattedValue_plain (thn (h.out pins s σ H _ I q) fun v s1 ⟨x,H1,I1,r1,q1⟩=>?_)
 cases x <;> first | exact q1.elim | skip
 · rename_i i
   obtain ⟨t,rfl⟩:=(show ∃ t,v=Value.int i t from r1)
   exact formatField_int_small q1.1 ⟨.str _,H1,I1.tok _,⟨_,rfl⟩,q1.2⟩
 · rename_i z
   obtain ⟨t,rfl⟩:=(show ∃ t,v=Value.str z t from r1)
   exact formatField_str (fun t' tk=>⟨.str _,H1,I1.tok _,⟨_,rfl⟩,q1.2⟩) q1.1⟩
def mJ : List TE → Str → TE
  | [], acc => fun σ H Q => acc.length ≤ sizeLine ∧ Q (.str acc) H
  | t :: r, acc => fun σ H Q => t σ H fun x H' => match x with
    | .str y => (acc ++ y).length ≤ sizeLine ∧ mJ r (acc ++ y) σ H' Q
    | _ => False
inductive QJ (X:Cx):List Expr→List TE→Prop where
 | nil:QJ X [] []
 | cons {e:Expr} {t:TE} {es:List Expr} {ts:List TE}:QE X e t→QJ X es ts→QJ X (e::es) (t::ts)
theorem DT {es : List Expr} {ts : List TE} (j : QJ X es ts) : ∀ {pins : List (Addr × Obj)} {s : Shared} {σ : St} {H : Hp} {Q : VK} {acc : Str}, Inv X pins σ H s → mJ ts acc σ H Q → wpAny (model X.prog X.w) X.A (joinParts acc (evalEach es X.env)) (EP X pins σ Q) X.xe s := by
  induction j with
  | nil => intro pins s σ H Q acc I q; exact joinParts_nil ⟨.str _, H, I.tok _, ⟨_, rfl⟩, q.2⟩ q.1
  | cons h _ ih =>
    intro pins s σ H Q acc I q
    refine joinParts_cons (thn (h.out pins s σ H _ I q) fun v s1 ⟨x, H1, I1, r1, q1⟩ => ?_)
    cases x <;> first | exact q1.elim | skip
    rename_i z
    obtain ⟨t, rfl⟩ := (show ∃ t, v = Value.str z t from r1)
    exact ⟨q1.1, ih I1 q1.2⟩
theorem tL {v1 v2:Expr} {bv:List Expr} {ts:List TE} {pos:Pos} (j:QJ X (v1::v2::bv) ts):QE X (.JoinedStr (v1::v2::bv) pos) (mJ ts Str.empty):=⟨fun pins s σ H Q I q=>JoinedStr_many (DT j I q)⟩
end
theorem Fun.okN {P : Program} {w : World} {K : W.Frag} {mg : Str → Option Value} {base : Heap} {CX : CXT} {x qual : Str} {st : Stmt} {f : Addr} {fd : FuncData} {N ps : List Str} {k : Nat} {sp : Sp} (F : Fun K x qual st f fd) (S : ay N ps (aj st)) (len : ∀ vs H Q E, sp vs H Q E → vs.length = ps.length)
  (hbody : ∀ (cdv : Value) (A : Around) (outer : List Env) (s : Shared) (H : Hp) (vs : List V) (Q : VK) (E : XK), aW k (A.deeper (envOfC qual (aj st) s.heap.objs.size f cdv)) → sp vs H Q E →
   ∃ t, PSs (eC CX P w K mg base N qual (aj st) f cdv A outer s H E).nox (aT st) t ∧ t { nx := fun _ H' => Q .non H', rt := Q } (bX N vs) H) : aN P w K mg base CX (k + 1) f fd ps sp := by
 obtain ⟨oc, od, kV, doc, pm, an, cdv, ct, osl, rfl, lk, hcd⟩ := F.ex
 refine Du lk hcd S len fun A outer s H vs Q E hr hsp => ?_
 obtain ⟨t, h, q⟩ := hbody cdv A outer s H vs Q E hr hsp
 exact ⟨t, h.nox, q⟩
section
variable {X:Cx}
def AO:V→Option Int→Option Int→Hp→VK→Prop:=fun x lo hi H Q=>∃ z,x=.str z∧z.length≤sizeLine∧Q (.str (Txt.slice z lo hi)) H
theorem zX : SlR X AO := by
  intro pins s σ H x v vl vu lo hi sl Q I rx hs pl pu h
  obtain ⟨z, rfl, hz, q⟩ := h
  obtain ⟨t, rfl⟩ := (show ∃ t, v = Value.str z t from rx)
  refine ⟨"str", _, F.slot_str_getitem.lookup, typeIs_str _ _ _, ?_⟩
  have fin : ∀ (l u : Option (Int × Tok)), l.map (·.1) = lo → u.map (·.1) = hi → s.heap.IsSlice sl l u none → wpAny (model X.prog X.w) X.A (getItem (.str z t) (.ref sl)) (EP X pins σ Q) X.xe s := fun l u e1 e2 hs' => by
    subst e1 e2
    refine wpAny_getItem_str_slice (l := l) (u := u) (st := none) hs' rfl (post_val_or_str ⟨Nat.le_trans (Txt.slice_le z _ _) hz, fun t' k => ⟨.str _, H, I.tok k, ⟨_, rfl⟩, q⟩⟩)
  obtain ⟨os, hos, hcs, hds⟩ := hs
  cases pl with
  | none => cases pu with
    | none => exact fin none none rfl rfl ⟨os, hos, hcs, hds⟩
    | int j tj => exact fin none (some (j, tj)) rfl rfl ⟨os, hos, hcs, hds⟩
  | int i ti => cases pu with
    | none => exact fin (some (i, ti)) none rfl rfl ⟨os, hos, hcs, hds⟩
    | int j tj => exact fin (some (i, ti)) (some (j, tj)) rfl rfl ⟨os, hos, hcs, hds⟩
def nD (K:W.Frag):V→Option Int→Option Int→Hp→VK→Prop:=fun x lo hi H Q=>Aj K x lo hi H Q∨AO x lo hi H Q
theorem lg:SlR X (nD X.K):=AD.or zX
def jZ:V→Bool
 | .int _=>true
 | .str _=>true
 | _=>false
theorem qj {A:Around} {s:Shared} {x y:V} {u v:Value} (rx:aE x u) (ry:aE y v) (hx:jZ x=true) (hy:jZ y=true):PySem.SeqAt.EqAt A s u v (decide (x=y)):=by
 cases x <;> first | cases hx | skip
 all_goals (cases y <;> first | cases hy | skip)
 · obtain ⟨t,rfl⟩:=rx;obtain ⟨t',rfl⟩:=ry
   have e:=PySem.SeqAt.EqAt.int_int (A:=A) (s:=s) ‹Int› t ‹Int› t'
   rename_i i j
   have e2:decide (V.int i=V.int j)=(i==j):=by rw [iq (f:=V.int) fun _ _ e=>V.int.inj e];rfl
   rw [e2];exact PySem.SeqAt.EqAt.int_int i t j t'
 · obtain ⟨t,rfl⟩:=rx;obtain ⟨t',rfl⟩:=ry
   exact PySem.SeqAt.EqAt.int_str _ _ _ _
 · obtain ⟨t,rfl⟩:=rx;obtain ⟨t',rfl⟩:=ry
   exact PySem.SeqAt.EqAt.str_int _ _ _ _
 · obtain ⟨t,rfl⟩:=rx;obtain ⟨t',rfl⟩:=ry
   rename_i i j
   have e2:decide (V.str i=V.str j)=(i==j):=by
    rw [iq (f:=V.str) fun _ _ e=>V.str.inj e]
    by_cases h:i=j
    · rw [h];simp
    · rw [decide_eq_false h];exact (beq_eq_false_iff_ne.mpr h).symm
   rw [e2];exact PySem.SeqAt.EqAt.str_str i t j t'
theorem tU {xs ys:List V}:decide (xs=ys)=((List.range (min xs.length ys.length)).all (fun j=>decide (xs[j]?=ys[j]?))&&xs.length==ys.length):=by
 by_cases h:xs=ys
 · subst h;simp
 · rw [decide_eq_false h]
   by_cases hl:xs.length=ys.length
   · rw [hl,Nat.min_self,beq_self_eq_true,Bool.and_true]
     symm
     rw [List.all_eq_false]
     apply Classical.byContradiction
     intro hn
     apply h
     apply List.ext_getElem? fun i=>?_
     by_cases hi:i<ys.length
     · apply Classical.byContradiction
       intro hne
       exact hn ⟨i,List.mem_range.mpr hi,by simpa using hne⟩
     · rw [List.getElem?_eq_none (by omega),List.getElem?_eq_none (by omega)]
   · have:(xs.length==ys.length)=false:=by simpa using hl
     rw [this,Bool.and_false]
def AR (K:W.Frag):R2:=fun x y H Q=>∃ a b xs ys,x=.ref a∧y=.ref b∧SqT K H a xs∧SqT K H b ys∧xs.all jZ=true∧ys.all jZ=true∧Q (.bl (decide (xs=ys))) H
theorem BV (hu:X.A.units<cLine):OpR X (compareOp .Eq) (AR X.K):=by
 intro pins s σ H x y v u Q I rx ry h
 obtain ⟨a,b,xs,ys,rfl,rfl,ha,hb,px,py,q⟩:=h
 cases rx
 cases ry
 obtain ⟨its,r1,p1,_⟩:=I.tuple ha
 obtain ⟨its2,r2,p2,_⟩:=I.tuple hb
 have l1:=r1.length
 have l2:=r2.length
 refine PySem.SeqAt.eq_tupleAt (e:=fun j=>decide (xs[j]?=ys[j]?)) p1 p2 hu (fun j h1 h2=>?_) ?_
 · have h1:j<its.length:=by simpa using h1
   have h2:j<its2.length:=by simpa using h2
   have e1:xs[j]?=some xs[j]:=List.getElem?_eq_getElem (by omega)
   have e2:ys[j]?=some ys[j]:=List.getElem?_eq_getElem (by omega)
   obtain ⟨u1,g1,ru1⟩:=r1.get e1
   obtain ⟨u2,g2,ru2⟩:=r2.get e2
   have g1':its.toArray[j]=u1:=by
    rw [List.getElem?_eq_getElem h1] at g1;simpa using Option.some.inj g1
   have g2':its2.toArray[j]=u2:=by
    rw [List.getElem?_eq_getElem h2] at g2;simpa using Option.some.inj g2
   rw [g1',g2',e1,e2]
   have:decide (some xs[j]=some ys[j])=decide (xs[j]=ys[j]):=by simp
   rw [this]
   exact qj ru1 ru2 (List.all_eq_true.mp px _ (List.getElem_mem _)) (List.all_eq_true.mp py _ (List.getElem_mem _))
 · have e:=tU (xs:=xs) (ys:=ys)
   rw [l1,l2] at e
   simp only [List.size_toArray]
   rw [← e]
   exact ⟨.bl _,H,I,rfl,q⟩
def vv:R2:=fun x y H Q=>match x,y with
 | .str i,.str j=>Q (.bl (!(Builtin.Str.occurrences j i 0 j.length 1).isEmpty)) H
 | _,_=>False
theorem FM:OpR X (compareOp .In) vv:=rR.imp fun x y H Q q=>by
 unfold vv at q
 split at q
 · exact ⟨_,_,rfl,rfl,q⟩
 · exact q.elim
def rM:List V→Hp→VK→Prop:=fun xs H Q=>match xs with
 | [.str z]=>∃ n,PySem.intText? z=some n∧z.length≤640∧Q (.int n) H
 | [.bl b]=>Q (.int (if b then 1 else 0)) H
 | _=>False
theorem AS:bo X (.type "int") rM:=fun pins s σ H xs us Q I r h=>by
 unfold rM at h
 split at h
 · obtain ⟨n,h1,h2,q⟩:=h
   obtain ⟨u,rfl,ru⟩:=dW r
   obtain ⟨t,rfl⟩:=ru
   exact W.KIN.call_text h1 h2 ⟨.int n,H,I.tok _,⟨_,rfl⟩,q⟩
 · obtain ⟨u,rfl,ru⟩:=dW r
   cases ru
   exact call_int_bool ⟨.int _,H,I.tok _,⟨_,rfl⟩,h⟩
 · exact h.elim
end
end L2
namespace HT
open PySem PyProof.Rows
section
variable {prog:Program} {w:World} {A:Around} {E:Value→Shared→Prop} {s:Shared}
theorem jw {it t:Addr} {i:Nat} {items:Array Value} {x:Value} {Q:Value→Shared→Prop} (hit:s.heap.IsTupleIter it t i) (ht:s.heap.IsTuple t items) (hx:items[i]?=some x)
  (hQ:∀ h',h'.IsTupleIter it t (i+1)→Heap.SameBut it s.heap h'→Q x { s with heap:=h' }):wpAny (model prog w) A (Builtin.SmallTypes.nextOf (.ref it)) Q E s:=by
 obtain ⟨o,ho,hc,hd⟩:=id hit
 obtain ⟨ol,hol,_,nl,hdl⟩:=ht
 unfold Builtin.SmallTypes.nextOf
 refine wpAny_bind (wpAny_callSpecial?_slot (name:=Str.ofString "__next__") hit.typeIs F.slot_tuple_iterator_next
  (wpAny_call_entry F.slot_tuple_iterator_next hit.typeIs F.entry_tuple_iterator_next ?_ (F.args_tuple_iterator_next_1 _)))
 show wpAny _ _ (field (.ref it) 0>>=_) _ _ s
 refine wpAny_bind (wpAny_field ho hd (x:=.ref t) rfl ?_)
 show wpAny _ _ (if (Value.ref t==Value.none)=true then _ else _) _ _ s
 rw [if_neg (show ¬ ((Value.ref t==Value.none)=true) from Bool.false_ne_true)]
 show wpAny _ _ (field (.ref it) 1>>=_) _ _ s
 refine wpAny_bind (wpAny_field ho hd (x:=.int i 0) rfl ?_)
 show wpAny _ _ (seqItems? (.ref t)>>=_) _ _ s
 refine wpAny_bind (wpAny_seqItems hol hdl ?_)
 simp only [Int.toNat_natCast,hx]
 refine wpAny_bind (wpAny_setField ho hd (by simp) (wpAny_pure ⟨x,rfl,wpAny_pure (hQ _ ?_ (Heap.SameBut.update ..))⟩))
 exact ⟨_,Heap.get?_update_self _ ho (Obj.isFreed_of_fields (Obj.data_mapFields hd _)),(Obj.cls_mapFields ..).trans hc,by rw [Obj.data_mapFields hd];simp [rawInt]⟩
theorem iG {it t:Addr} {i:Nat} {items:Array Value} {Q:Value→Shared→Prop} (hh:A.handled=none) (hit:s.heap.IsTupleIter it t i) (ht:s.heap.IsTuple t items) (hx:items[i]?=none)
  (hE:∀ h' e,Heap.ExtBut it s.heap h'→(∃ o,h'.get? e=some o∧o.cls=.type "StopIteration")→E (.ref e) { s with heap:=h' }):wpAny (model prog w) A (Builtin.SmallTypes.nextOf (.ref it)) Q E s:=by
 obtain ⟨o,ho,hc,hd⟩:=id hit
 obtain ⟨ol,hol,_,nl,hdl⟩:=ht
 unfold Builtin.SmallTypes.nextOf
 refine wpAny_bind (wpAny_callSpecial?_slot (name:=Str.ofString "__next__") hit.typeIs F.slot_tuple_iterator_next
  (wpAny_call_entry F.slot_tuple_iterator_next hit.typeIs F.entry_tuple_iterator_next ?_ (F.args_tuple_iterator_next_1 _)))
 show wpAny _ _ (field (.ref it) 0>>=_) _ _ s
 refine wpAny_bind (wpAny_field ho hd (x:=.ref t) rfl ?_)
 show wpAny _ _ (if (Value.ref t==Value.none)=true then _ else _) _ _ s
 rw [if_neg (show ¬ ((Value.ref t==Value.none)=true) from Bool.false_ne_true)]
 show wpAny _ _ (field (.ref it) 1>>=_) _ _ s
 refine wpAny_bind (wpAny_field ho hd (x:=.int i 0) rfl ?_)
 show wpAny _ _ (seqItems? (.ref t)>>=_) _ _ s
 refine wpAny_bind (wpAny_seqItems hol hdl ?_)
 simp only [Int.toNat_natCast,hx]
 refine wpAny_bind (wpAny_rule (wpAny_bind (wpAny_setField ho hd (by simp) ?_)))
 show wpAny _ _ (newExc (.type "StopIteration") []>>=_) _ _ _
 refine wpAny_bind ?_
 simp only [newExc,newTuple]
 refine wpAny_bind (wpAny_newObj_type ?_ (by size_fits))
 refine wpAny_bind (m:=firstArgMember _ _) (wpAny_of_eq (a:=Value.none) (by first | rfl | (simp only [firstArgMember];rfl)) ?_)
 refine wpAny_newObj_type ?_ (by size_fits)
 simp only [raiseNew]
 refine wpAny_bind (wpAny_handled ?_)
 first | rw [show A.in1.handled=none from hh] | rw [hh]
 refine wpAny_bind (wpAny_pure (wpAny_throw ?_))
 exact hE _ _ (((Heap.SameBut.update ..).extBut.push _).push _) ⟨_,Heap.get?_push_size _ rfl,rfl⟩
structure kC (h:Heap) (z TI TO i1 i2 t1 t2:Addr) (xs ys:Array Value) (f0:Value) (k:Nat):Prop where
 z:IsZip h z TI TO f0
 ti:IsPair h TI (.ref i1) (.ref i2)
 to:∃ a b,IsPair h TO a b
 j1:h.IsTupleIter i1 t1 k
 j2:h.IsTupleIter i2 t2 k
theorem sk {z TI TO i1 i2 t1 t2 : Addr} {k : Nat} {xs ys : Array Value} {x y : Value} {Q : Option Value → Shared → Prop} (D : ZipApart z TI TO i1 i2 t1 t2) (Z : kC s.heap z TI TO i1 i2 t1 t2 xs ys .none k)
  (ht1 : s.heap.IsTuple t1 xs) (ht2 : s.heap.IsTuple t2 ys) (hx : xs[k]? = some x) (hy : ys[k]? = some y)
  (hQ : ∀ h', kC h' z TI TO i1 i2 t1 t2 xs ys (rawInt s.heap.objs.size) (k + 1) → IsPair h' s.heap.objs.size x y →
   (∀ c o, c ≠ z → c ≠ TO → c ≠ i1 → c ≠ i2 → s.heap.get? c = some o → h'.get? c = some o) → Q (some (.ref s.heap.objs.size)) { s with heap := h' }) :
  wpAny (model prog w) A (pyNext (.ref z)) Q E s := by
 obtain ⟨hz, hTI, ⟨a, b, hTO⟩, h1, h2⟩ := Z
 have hT : s.TypeIs (.ref z) "zip" := ⟨_, hz, rfl⟩
 unfold pyNext
 refine wpAny_bind (wpAny_attempt (wpAny_callSpecial?_slot (name := Str.ofString "__next__") hT F.slot_zip_next (wpAny_call_entry F.slot_zip_next hT F.entry_zip_next ?_ (F.args_zip_next_1 _))))
 show wpAny _ _ (field (.ref z) 2 >>= _) _ _ _
 refine wpAny_bind (wpAny_field hz rfl (x := .bool false) rfl ?_)
 show wpAny _ _ (field (.ref z) 3 >>= _) _ _ _
 refine wpAny_bind (wpAny_field hz rfl (x := .ref TI) rfl (wpAny_bind (wpAny_seqItems hTI rfl ?_)))
 show wpAny _ _ (Builtin.SmallTypes.ownedTupleIsFree (.ref z) >>= _) _ _ _
 refine wpAny_bind ?_
 unfold Builtin.SmallTypes.ownedTupleIsFree
 refine wpAny_bind (wpAny_field hz rfl (x := .none) rfl (wpAny_pure ?_))
 simp only [if_true]
 refine wpAny_bind (wpAny_rule (wpAny_bind (wpAny_field hz rfl (x := .ref TO) rfl (wpAny_bind (wpAny_setField_rec hz (by simp) fun ha hza hsa => wpAny_bind ?_)))))
 replace hza : IsZip ha z TI TO .ellipsis := hza
 simp only [List.zipIdx_cons, List.zipIdx_nil, List.forIn_cons, List.forIn_nil]
 refine wpAny_bind (wpAny_bind (wpAny_onRaise ?_))
 show wpAny _ _ (Builtin.SmallTypes.nextOf (.ref i1) >>= _) _ _ _
 refine wpAny_bind (jw (h1.at fun o e => hsa.extBut _ _ D.i1z e) (ht1.at fun o e => hsa.extBut _ _ D.l1z e) hx fun hb h1b hsb => wpAny_pure ?_)
 have hTOb : IsPair hb TO a b := hsb.extBut _ _ D.TOi1 (hsa.extBut _ _ D.TOz hTO)
 refine wpAny_bind (wpAny_seqItems hTOb rfl (wpAny_bind (wpAny_updateSeq_pair hTOb fun hc hTOc hsc => ?_)))
 replace hTOc : IsPair hc TO x b := hTOc
 refine wpAny_bind (wpAny_letGo (wpAny_pure ?_))
 refine wpAny_bind (wpAny_bind (wpAny_onRaise ?_))
 show wpAny _ _ (Builtin.SmallTypes.nextOf (.ref i2) >>= _) _ _ _
 refine wpAny_bind (jw (h2.at fun o e => hsc.extBut _ _ D.TOi2.symm (hsb.extBut _ _ D.i12.symm (hsa.extBut _ _ D.i2z e)))
  (ht2.at fun o e => hsc.extBut _ _ D.l2TO (hsb.extBut _ _ D.l2i1 (hsa.extBut _ _ D.l2z e))) hy fun hd h2d hsd => wpAny_pure ?_)
 have hTOd : IsPair hd TO x b := hsd.extBut _ _ D.TOi2 hTOc
 refine wpAny_bind (wpAny_seqItems hTOd rfl (wpAny_bind (wpAny_updateSeq_pair hTOd fun he hTOe hse => ?_)))
 replace hTOe : IsPair he TO x y := hTOe
 refine wpAny_bind (wpAny_letGo (wpAny_pure (wpAny_pure ?_)))
 refine wpAny_bind (wpAny_seqItems hTOe rfl (wpAny_bind (wpAny_newTuple ?_)))
 have hsz : he.objs.size = s.heap.objs.size := by rw [hse.1, hsd.1, hsc.1, hsb.1, hsa.1]
 have hze : IsZip he z TI TO .ellipsis := hse.extBut _ _ D.TOz.symm (hsd.extBut _ _ D.i2z.symm (hsc.extBut _ _ D.TOz.symm (hsb.extBut _ _ D.i1z.symm hza)))
 have hke : ∀ c o, c ≠ z → c ≠ TO → c ≠ i1 → c ≠ i2 → s.heap.get? c = some o → he.get? c = some o := fun c o c1 c2 c3 c4 e =>
  hse.extBut _ _ c2 (hsd.extBut _ _ c4 (hsc.extBut _ _ c2 (hsb.extBut _ _ c3 (hsa.extBut _ _ c1 e))))
 have h1e : he.IsTupleIter i1 t1 (k + 1) := h1b.at fun o e => hse.extBut _ _ D.TOi1.symm (hsd.extBut _ _ D.i12 (hsc.extBut _ _ D.TOi1.symm e))
 have h2e : he.IsTupleIter i2 t2 (k + 1) := h2d.at fun o e => hse.extBut _ _ D.TOi2.symm e
 show wpAny _ _ (Builtin.SmallTypes.ownedTupleHandOut (.ref z) (.ref he.objs.size) >>= _) _ _ _
 refine wpAny_bind ?_
 unfold Builtin.SmallTypes.ownedTupleHandOut
 have hzf : IsZip (he.push { cls := .type "tuple", data := .seq #[x, y] }) z TI TO .ellipsis := Heap.get?_push_of_some _ hze
 refine wpAny_bind (wpAny_setField_rec hzf (by simp) fun hg hzg hsg => ?_)
 replace hzg : IsZip hg z TI TO (rawInt he.objs.size) := hzg
 refine wpAny_setField_rec hzg (by simp) fun hh hzh hsh => ?_
 replace hzh : IsZip hh z TI TO (rawInt he.objs.size) := hzh
 have up : ∀ c o, c ≠ z → he.get? c = some o → hh.get? c = some o := fun c o c1 e => hsh.extBut _ _ c1 (hsg.extBut _ _ c1 (Heap.get?_push_of_some _ e))
 have hTh : IsPair hh he.objs.size x y := hsh.extBut _ _ (Nat.ne_of_gt (Heap.lt_size hze)) (hsg.extBut _ _ (Nat.ne_of_gt (Heap.lt_size hze)) (Heap.get?_push_size _ rfl))
 rw [hsz] at hzh hTh
 have fin := hQ hh ⟨hzh, up _ _ D.TIz (hke _ _ D.TIz D.TITO D.TIi1 D.TIi2 hTI), ⟨x, y, up _ _ D.TOz hTOe⟩, h1e.at fun o e => up _ o D.i1z e, h2e.at fun o e => up _ o D.i2z e⟩ hTh fun c o c1 c2 c3 c4 e => up c o c1 (hke c o c1 c2 c3 c4 e)
 rw [← hsz] at fin
 exact wpAny_pure ⟨_, rfl, wpAny_pure fin⟩
theorem uE {z TI TO i1 i2 t1 t2 : Addr} {k : Nat} {xs ys : Array Value} {Q : Option Value → Shared → Prop} (hh : A.handled = none) (D : ZipApart z TI TO i1 i2 t1 t2) (Z : kC s.heap z TI TO i1 i2 t1 t2 xs ys .none k)
    (ht1 : s.heap.IsTuple t1 xs) (ht2 : s.heap.IsTuple t2 ys) (hend : xs[k]? = none ∨ ys[k]? = none)
    (hQ : ∀ h', (∀ c o, c ≠ z → c ≠ TO → c ≠ i1 → c ≠ i2 → s.heap.get? c = some o → h'.get? c = some o) → Q none { s with heap := h' }) : wpAny (model prog w) A (pyNext (.ref z)) Q E s := by
  obtain ⟨hz, hTI, ⟨a, b, hTO⟩, h1, h2⟩ := Z
  have hT : s.TypeIs (.ref z) "zip" := ⟨_, hz, rfl⟩
  have fin : ∀ h' e, (∀ c o, c ≠ z → c ≠ TO → c ≠ i1 → c ≠ i2 → s.heap.get? c = some o → h'.get? c = some o) → (∃ o, h'.get? e = some o ∧ o.cls = .type "StopIteration") →
      wpAny (model prog w) A (do if ← isInstance (.ref e) (.type "StopIteration") then pure none else throw (.ref e)) Q E { s with heap := h' } := fun h' e hk ⟨o, ho, hc⟩ =>
    wpAny_bind (wpAny_isInstance (T := "StopIteration") (b := true) ⟨o, ho, hc⟩ isSubtype_stop (wpAny_pure (hQ _ hk)))
  unfold pyNext
  refine wpAny_bind (wpAny_attempt (wpAny_callSpecial?_slot (name := Str.ofString "__next__") hT F.slot_zip_next (wpAny_call_entry F.slot_zip_next hT F.entry_zip_next ?_ (F.args_zip_next_1 _))))
  show wpAny _ _ (field (.ref z) 2 >>= _) _ _ _
  refine wpAny_bind (wpAny_field hz rfl (x := .bool false) rfl ?_)
  show wpAny _ _ (field (.ref z) 3 >>= _) _ _ _
  refine wpAny_bind (wpAny_field hz rfl (x := .ref TI) rfl (wpAny_bind (wpAny_seqItems hTI rfl ?_)))
  show wpAny _ _ (Builtin.SmallTypes.ownedTupleIsFree (.ref z) >>= _) _ _ _
  refine wpAny_bind ?_
  unfold Builtin.SmallTypes.ownedTupleIsFree
  refine wpAny_bind (wpAny_field hz rfl (x := .none) rfl (wpAny_pure ?_))
  simp only [if_true]
  refine wpAny_bind (wpAny_rule (wpAny_bind (wpAny_field hz rfl (x := .ref TO) rfl (wpAny_bind (wpAny_setField_rec hz (by simp) fun ha hza hsa => wpAny_bind ?_)))))
  replace hza : IsZip ha z TI TO .ellipsis := hza
  simp only [List.zipIdx_cons, List.zipIdx_nil, List.forIn_cons, List.forIn_nil]
  refine wpAny_bind (wpAny_bind (wpAny_onRaise ?_))
  show wpAny _ _ (Builtin.SmallTypes.nextOf (.ref i1) >>= _) _ _ _
  cases hx : xs[k]? with
  | none =>
    refine wpAny_bind (iG hh (h1.at fun o e => hsa.extBut _ _ D.i1z e) (ht1.at fun o e => hsa.extBut _ _ D.l1z e) hx fun hb e hsb he => ?_)
    obtain ⟨oe, hoe, hce⟩ := he
    have hzb : IsZip hb z TI TO .ellipsis := hsb _ _ D.i1z.symm hza
    have hez : e ≠ z := fun x => by subst x; rw [hzb] at hoe; cases hoe; simp at hce
    exact wpAny_setField_rec hzb (by simp) fun hc _ hsc => fin hc e (fun c o c1 _ c3 _ x => hsc.extBut _ _ c1 (hsb _ _ c3 (hsa.extBut _ _ c1 x))) ⟨oe, hsc.extBut _ _ hez hoe, hce⟩
  | some x =>
    have hy : ys[k]? = none := by rcases hend with h | h; rw [hx] at h; cases h; exact h
    refine wpAny_bind (jw (h1.at fun o e => hsa.extBut _ _ D.i1z e) (ht1.at fun o e => hsa.extBut _ _ D.l1z e) hx fun hb h1b hsb => wpAny_pure ?_)
    have hTOb : IsPair hb TO a b := hsb.extBut _ _ D.TOi1 (hsa.extBut _ _ D.TOz hTO)
    refine wpAny_bind (wpAny_seqItems hTOb rfl (wpAny_bind (wpAny_updateSeq_pair hTOb fun hc hTOc hsc => ?_)))
    refine wpAny_bind (wpAny_letGo (wpAny_pure ?_))
    refine wpAny_bind (wpAny_bind (wpAny_onRaise ?_))
    show wpAny _ _ (Builtin.SmallTypes.nextOf (.ref i2) >>= _) _ _ _
    refine wpAny_bind (iG hh (h2.at fun o e => hsc.extBut _ _ D.TOi2.symm (hsb.extBut _ _ D.i12.symm (hsa.extBut _ _ D.i2z e)))
      (ht2.at fun o e => hsc.extBut _ _ D.l2TO (hsb.extBut _ _ D.l2i1 (hsa.extBut _ _ D.l2z e))) hy fun hd e hsd he => ?_)
    obtain ⟨oe, hoe, hce⟩ := he
    have hzd : IsZip hd z TI TO .ellipsis := hsd _ _ D.i2z.symm (hsc.extBut _ _ D.TOz.symm (hsb.extBut _ _ D.i1z.symm hza))
    have hez : e ≠ z := fun x => by subst x; rw [hzd] at hoe; cases hoe; simp at hce
    exact wpAny_setField_rec hzd (by simp) fun hf _ hsf => fin hf e (fun c o c1 c2 c3 c4 x => hsf.extBut _ _ c1 (hsd _ _ c4 (hsc.extBut _ _ c2 (hsb.extBut _ _ c3 (hsa.extBut _ _ c1 x))))) ⟨oe, hsf.extBut _ _ hez hoe, hce⟩
end
abbrev itO (t:Addr):Obj:={ cls:=.type "tuple_iterator",data:=.fields #[.ref t,.int 0 0] }
abbrev zh1 (h:Heap) (t1:Addr):Heap:=h.push (itO t1)
abbrev zh2 (h:Heap) (t1 t2:Addr):Heap:=(zh1 h t1).push (itO t2)
abbrev zh3 (h:Heap) (t1 t2:Addr):Heap:=(zh2 h t1 t2).push { cls:=.type "tuple",data:=.seq #[.ref h.objs.size,.ref (zh1 h t1).objs.size] }
abbrev zh4 (h:Heap) (t1 t2:Addr):Heap:=(zh3 h t1 t2).push { cls:=.type "tuple",data:=.seq #[.none,.none] }
abbrev zh5 (h:Heap) (t1 t2:Addr):Heap:=(zh4 h t1 t2).push { cls:=.type "zip",data:=.fields #[.none,.bool false,.bool false,.ref (zh2 h t1 t2).objs.size,.ref (zh3 h t1 t2).objs.size] }
theorem uO (t1 t2:Addr) (xs ys:Array Value):
  Meets (Builtin.«zip.__new__» ⟨[.type "zip",.ref t1,.ref t2],[]⟩) (fun _ R s=>s.heap.IsTuple t1 xs∧s.heap.IsTuple t2 ys∧R (.ok (.ret (.ref (zh4 s.heap t1 t2).objs.size))) { s with heap:=zh5 s.heap t1 t2 }):=
 .of_wp fun prog w A R s h=>by
  obtain ⟨hp,g,d,tk,os⟩:=s;obtain ⟨hl1,hl2,h⟩:=h
  have hsub:=sub_zip
  have hL1:Heap.IsTuple (Shared.heap ⟨hp,g,d,tk,os⟩) t1 xs:=hl1
  have hL2:Heap.IsTuple (Shared.heap ⟨hp.push (itO t1),g,d,tk,os⟩) t2 ys:=hl2.at fun o e=>Heap.get?_push_of_some _ e
  wp_walk using wpAny_pyIter_tuple hL1,wpAny_pyIter_tuple hL2
  exact ⟨_,rfl,h⟩
section
variable {prog:Program} {w:World} {A:Around} {E:Value→Shared→Prop} {s:Shared}
theorem tV {t1 t2:Addr} {xs ys:Array Value} {Q:Value→Shared→Prop} (hl1:s.heap.IsTuple t1 xs) (hl2:s.heap.IsTuple t2 ys)
  (h:∀ h',kC h' (s.heap.objs.size+4) (s.heap.objs.size+2) (s.heap.objs.size+3) s.heap.objs.size (s.heap.objs.size+1) t1 t2 xs ys .none 0→(∀ c o,s.heap.get? c=some o→h'.get? c=some o)→Q (.ref (s.heap.objs.size+4)) { s with heap:=h' }):
  wpAny (model prog w) A (call (.type "zip") [.ref t1,.ref t2]) Q E s:=by
 refine callType_new F.called_zip (by decide) (F.typeCall_zip_2 _ _) (F.newCall_zip_2 _ _) (fun obj=>F.args_object_init_3 obj _ _) F.entry_zip_new (uO t1 t2 xs ys) ⟨hl1,hl2,?_⟩
 have z1:(zh1 s.heap t1).objs.size=s.heap.objs.size+1:=Heap.size_push ..
 have z2:(zh2 s.heap t1 t2).objs.size=s.heap.objs.size+2:=by rw [Heap.size_push,z1]
 have z3:(zh3 s.heap t1 t2).objs.size=s.heap.objs.size+3:=by rw [Heap.size_push,z2]
 have z4:(zh4 s.heap t1 t2).objs.size=s.heap.objs.size+4:=by rw [Heap.size_push,z3]
 have g5:(zh5 s.heap t1 t2).get? (zh4 s.heap t1 t2).objs.size=some _:=Heap.get?_push_size _ rfl
 have g4:(zh5 s.heap t1 t2).get? (zh3 s.heap t1 t2).objs.size=some _:=Heap.get?_push_of_some _ (Heap.get?_push_size _ rfl)
 have g3:(zh5 s.heap t1 t2).get? (zh2 s.heap t1 t2).objs.size=some _:=Heap.get?_push_of_some _ (Heap.get?_push_of_some _ (Heap.get?_push_size _ rfl))
 have g2:(zh5 s.heap t1 t2).get? (zh1 s.heap t1).objs.size=some _:=Heap.get?_push_of_some _ (Heap.get?_push_of_some _ (Heap.get?_push_of_some _ (Heap.get?_push_size _ rfl)))
 have g1:(zh5 s.heap t1 t2).get? s.heap.objs.size=some _:=Heap.get?_push_of_some _ (Heap.get?_push_of_some _ (Heap.get?_push_of_some _ (Heap.get?_push_of_some _ (Heap.get?_push_size _ rfl))))
 show _∧_
 rw [z2,z3,z4] at g5
 rw [z1,z2] at g3
 rw [z3] at g4
 rw [z1] at g2
 rw [z4]
 exact ⟨⟨_,g5,rfl⟩,h _ ⟨g5,g3,⟨_,_,g4⟩,⟨_,g1,rfl,rfl⟩,⟨_,g2,rfl,rfl⟩⟩ fun c o x=>Heap.get?_push_of_some _ (Heap.get?_push_of_some _ (Heap.get?_push_of_some _ (Heap.get?_push_of_some _ (Heap.get?_push_of_some _ x))))⟩
end
end HT
namespace L2
open PySem PySem.Spec PyProof.Rows
section
variable {X:Cx} {pins:List (Addr×Obj)} {σ:St} {H:Hp} {s:Shared} {h':Heap}
theorem Inv.turnedL {t':Nat} {fp:List Addr} (I:Inv X pins σ H s) (k:∀ b o,b∉fp→s.heap.get? b=some o→h'.get? b=some o) (hf:∀ b∈fp,ft X pins H b):Inv X pins σ H { s with heap:=h',toks:=t' }:=by
 have nit:∀ b u,H b=some u→b∉fp:=fun b u e z=>by rw [(hf b z).1] at e;cases e
 refine I.step (g':=s.gens) (d':=s.drawn) (ch:=fp) (fun b hb=>?_) (fun b o _ _ hc e _=>k b o hc e) (fun b o _ _ hc e _=>⟨o.slots,k b o hc e⟩) (fun _ _ _ _ n=>n)
   (fun b o hc e=>⟨o,k b o hc e⟩) (fun _ _ e=>e) (fun _ _ _ e=>e) (fun b ps e=>⟨#[],by rw [e];simp⟩) (fun m hm=>?_) (fun b u e=>?_) I.bare
 · obtain ⟨f0,f1,f2,f3,f4,f5⟩:=hf b hb
   exact ⟨f3,f1,f4,f5⟩
 · obtain ⟨o,es,ep,ho,r⟩:=hm
   exact ⟨o,es,ep,k _ o (fun z=>(hf _ z).2.1 rfl) ho,r⟩
 · refine (I.hok b u e).stay (fun c v hc q=>k c v ?_ q) (fun _ q=>q) fun _ _ q=>q
   rcases hc with z | z
   · rw [z];exact nit b u e
   · exact nit c _ z
end
section
variable {X:Cx} {pins:List (Addr×Obj)} {σ:St} {H H1:Hp} {s s0:Shared} {a:Addr} {o:HO}
theorem Inv.track2 (I0:Inv X pins σ H1 s0) (I:Inv X pins σ H s) (new:s0.heap.objs.size≤a) (hn:H a=none) (ok:aQ X.prog X.w (upd H a o) s.heap a o):Inv X pins σ (upd H a o) s:=by
 have ne:∀ b u,s0.heap.get? b=some u→b≠a:=fun b u e=>Nat.ne_of_lt (Nat.lt_of_lt_of_le (Heap.lt_size e) new)
 have ne0:∀ b u,X.s₀.heap.get? b=some u→b≠a:=fun b u e=>Nat.ne_of_lt (Nat.lt_of_lt_of_le (Heap.lt_size e) (Nat.le_trans I0.sz new))
 have nL:X.env.locals≠a:=by
   obtain ⟨m,⟨o',_,_,e,_⟩,_⟩:=I0.loc
   exact ne _ _ e
 refine ⟨I.ok,I.os,I.bare,⟨I.base.keep,I.base.slot,fun b u e n hx=>?_,I.base.there,fun b xs e=>?_,fun b u v e=>?_,fun b ps e=>?_⟩,I.loc,I.cell,?_,fun x c e=>?_,fun p hp=>?_,fun b u e=>?_,I.len⟩
 · rw [ak (ne0 b u e)];exact I.base.free b u e n hx
 · have:=I.base.tups b xs e
   rw [ak (ar this hn)];exact this
 · have:=I.base.frzs b u v e
   rw [ak (ar this hn)];exact this
 · obtain ⟨more,this⟩:=I.base.tbls b ps e
   exact ⟨more,by rw [ak (ar this hn)];exact this⟩
 · rw [ak nL];exact I.free
 · obtain ⟨v,o',e',_⟩:=I0.cell x c e
   rw [ak (ne _ _ e')];exact I.freeC x c e
 · obtain ⟨h1,h2,h3⟩:=I.pin p hp
   exact ⟨h1,by rw [ak (ne _ _ (I0.pin p hp).1)];exact h2,h3⟩
 · by_cases hb:b=a
   · subst hb
     rw [af] at e;cases e
     exact ok
   · rw [ak hb] at e
     exact (I.hok b u e).stay (fun c v _ q=>q) (fun c q=>by
      have:c≠a:=ar q hn
      rw [ak this];exact q) fun c xs q=>by
      have:c≠a:=ar q hn
      rw [ak this];exact q
end
def Itz (K:W.Frag) (a b:Addr):It where
 go:=fun i H=>∃ xs ys x y,SqT K H a xs∧SqT K H b ys∧xs[i]?=some x∧ys[i]?=some y
 yld:=fun i H v H'=>∃ p,v=.ref p∧H p=none∧∀ xs ys,SqT K H a xs→SqT K H b ys→∃ x y,xs[i]?=some x∧ys[i]?=some y∧H'=upd H p (.tup [x,y])
 stop:=fun i H=>∃ xs ys,SqT K H a xs∧SqT K H b ys∧(xs.length≤i∨ys.length≤i)
theorem vq {P:Program} {w:World} {K:W.Frag} {elts:List Expr} {ek:Nat} {ep:Pos} (a b z TI TO i1 i2:Addr) (D:ZipApart z TI TO i1 i2 a b):
  gS P w K (.Tuple elts ek ep) (Itz K a b) [z,TI,TO,i1,i2] z (fun i h=>HT.kC h z TI TO i1 i2 a b #[] #[] .none i) where
 mem:=by simp
 obj:=fun i h st c hc=>by
  obtain ⟨hz,hTI,⟨x,y,hTO⟩,⟨o1,e1,c1,d1⟩,⟨o2,e2,c2,d2⟩⟩:=st
  simp only [List.mem_cons,List.not_mem_nil,or_false] at hc
  rcases hc with rfl | rfl | rfl | rfl | rfl
  · exact ⟨_,hz,fun v q=>by cases q⟩
  · exact ⟨_,hTI,fun v q=>by cases q⟩
  · exact ⟨_,hTO,fun v q=>by cases q⟩
  · exact ⟨o1,e1,fun v q=>by rw [d1] at q;cases q⟩
  · exact ⟨o2,e2,fun v q=>by rw [d2] at q;cases q⟩
 keep:=fun i h h' st k=>by
  obtain ⟨hz,hTI,⟨x,y,hTO⟩,h1,h2⟩:=st
  exact ⟨k z (by simp) _ hz,k TI (by simp) _ hTI,⟨x,y,k TO (by simp) _ hTO⟩,h1.at fun o e=>k i1 (by simp) o e,h2.at fun o e=>k i2 (by simp) o e⟩
 item:=by
  intro X hP hw hK hc i pins s σ H E I hf st hg
  subst hP hw hK
  obtain ⟨xs,ys,x,y,hx,hy,ex,ey⟩:=hg
  obtain ⟨its,r1,p1,_⟩:=I.tuple hx
  obtain ⟨its2,r2,p2,_⟩:=I.tuple hy
  obtain ⟨u,gu,ru⟩:=r1.get ex
  obtain ⟨u2,gu2,ru2⟩:=r2.get ey
  obtain ⟨z1,z2,z3,z4,z5⟩:=st
  refine HT.sk (xs:=its.toArray) (ys:=its2.toArray) (x:=u) (y:=u2) D ⟨z1,z2,z3,z4,z5⟩ p1 p2 (by simpa using gu) (by simpa using gu2) fun h1 Z1 hT hk=>?_
  obtain ⟨y1,y2,y3,y4,y5⟩:=Z1
  refine ⟨_,rfl,wpAny_letOwnedTupleGo_zip y1 fun h2 hz2 hs2=>?_⟩
  have Tn:∀ c∈[z,TI,TO,i1,i2],c≠s.heap.objs.size:=fun c hc e=>by
    obtain ⟨o,eo⟩:∃ o,s.heap.get? c=some o:=by
      simp only [List.mem_cons,List.not_mem_nil,or_false] at hc
      rcases hc with rfl | rfl | rfl | rfl | rfl
      · exact ⟨_,z1⟩
      · exact ⟨_,z2⟩
      · obtain ⟨_,_,q⟩:=z3;exact ⟨_,q⟩
      · obtain ⟨_,q,_⟩:=z4;exact ⟨_,q⟩
      · obtain ⟨_,q,_⟩:=z5;exact ⟨_,q⟩
    have:=Heap.lt_size eo
    rw [e] at this;exact Nat.lt_irrefl _ this
  have k2:∀ c o,c∉[z,TI,TO,i1,i2]→s.heap.get? c=some o→h2.get? c=some o:=fun c o hc e=>by
    simp only [List.mem_cons,List.not_mem_nil,or_false,not_or] at hc
    exact hs2.extBut _ _ hc.1 (hk c o hc.1 hc.2.2.1 hc.2.2.2.1 hc.2.2.2.2 e)
  have I1:Inv X pins σ H { s with heap:=h2,toks:=s.toks }:=I.turnedL k2 hf
  have hTz:s.heap.objs.size≠z:=fun e=>Tn z (by simp) e.symm
  have hT2:IsPair h2 s.heap.objs.size u u2:=hs2.extBut _ _ hTz hT
  have hfr:H s.heap.objs.size=none:=I.hok.fresh (Nat.le_refl _)
  have I2:Inv X pins σ (upd H s.heap.objs.size (.tup [x,y])) { s with heap:=h2,toks:=s.toks }:=
    Inv.track2 I I1 (Nat.le_refl _) hfr ⟨by show 2≤sizeLine;decide,[u,u2],.cons ru (.cons ru2 .nil),⟨_,hT2,rfl,_,rfl⟩⟩
  refine ⟨.ref s.heap.objs.size,_,I2,rfl,⟨_,rfl,hfr,fun xs' ys' hx' hy'=>⟨x,y,by rw [I.tuple_inj hx' hx];exact ex,by rw [I.tuple_inj hy' hy];exact ey,rfl⟩⟩,?_,fun c hc=>?_⟩
  · exact ⟨hz2,hs2.extBut _ _ D.TIz y2,(let ⟨m,n,q⟩:=y3;⟨m,n,hs2.extBut _ _ D.TOz q⟩),y4.at fun o e=>hs2.extBut _ _ D.i1z e,y5.at fun o e=>hs2.extBut _ _ D.i2z e⟩
  · rw [ak (Tn c hc)];exact (hf c hc).1
 done:=by
  intro X hP hw hK hc i pins s σ H E I hf st hg
  subst hP hw hK
  obtain ⟨xs,ys,hx,hy,hl⟩:=hg
  obtain ⟨its,r1,p1,_⟩:=I.tuple hx
  obtain ⟨its2,r2,p2,_⟩:=I.tuple hy
  have l1:=r1.length
  have l2:=r2.length
  obtain ⟨z1,z2,z3,z4,z5⟩:=st
  refine HT.uE (xs:=its.toArray) (ys:=its2.toArray) (I.ok.hd hc) D ⟨z1,z2,z3,z4,z5⟩ p1 p2 ?_ fun h1 hk=>⟨rfl,I.turnedL (t':=s.toks) (fun c o hc e=>?_) hf⟩
  · rcases hl with q | q
    · exact .inl (by simp;omega)
    · exact .inr (by simp;omega)
  · simp only [List.mem_cons,List.not_mem_nil,or_false,not_or] at hc
    exact hk c o hc.1 hc.2.2.1 hc.2.2.2.1 hc.2.2.2.2 e
 self:=fun _ _ _ _ _ st h=>wpAny_pyIter_zip st.z h
section
variable {X:Cx} {a b:Expr} {t:TA} {p pos ep:Pos} {elts:List Expr} {ek:Nat}
theorem BP:bootBuiltins "zip" =some (.type "zip"):=by decide +kernel
theorem uU:∀ (pins:List (Addr×Obj)) (s:Shared) (σ:St) (H:Hp) (us:List Value) (vs:List V) (R:It→Hp→Prop),Inv X pins σ H s→aG vs us→(∃ c d xs ys,vs=[.ref c,.ref d]∧SqT X.K H c xs∧SqT X.K H d ys∧R (Itz X.K c d) H)→
   wpAny (model X.prog X.w) X.A (call (.type "zip") us) (fun v s1=>wpAny (model X.prog X.w) X.A (pyIter v) (PIE X pins σ (.Tuple elts ek ep) R) X.xe s1) X.xe s:=by
 intro pins s σ H us vs R I r h
 obtain ⟨c,d,xs,ys,rfl,hx,hy,q⟩:=h
 obtain ⟨u,w',rfl,r1,r2⟩:=gN r
 cases r1
 cases r2
 obtain ⟨its,rv1,p1,_⟩:=I.tuple hx
 obtain ⟨its2,rv2,p2,_⟩:=I.tuple hy
 have lt1:c<s.heap.objs.size:=by obtain ⟨o,e,_⟩:=p1;exact Heap.lt_size e
 have lt2:d<s.heap.objs.size:=by obtain ⟨o,e,_⟩:=p2;exact Heap.lt_size e
 refine HT.tV (show s.heap.IsTuple c its.toArray from p1) (show s.heap.IsTuple d its2.toArray from p2) fun h' Z hk=>?_
 refine wpAny_pyIter_zip Z.z ?_
 refine ⟨s.heap.objs.size+4,[s.heap.objs.size+4,s.heap.objs.size+2,s.heap.objs.size+3,s.heap.objs.size,s.heap.objs.size+1],_,Itz X.K c d,H,rfl,I.kept (t':=s.toks) hk,vq c d _ _ _ _ _ (zipApart_new lt1 lt2),?_,fun b hb=>?_,q⟩
 · obtain ⟨z1,z2,z3,z4,z5⟩:=Z
   exact ⟨z1,z2,z3,z4,z5⟩
 · have:s.heap.objs.size≤b:=by
    simp only [List.mem_cons,List.not_mem_nil,or_false] at hb
    rcases hb with rfl | rfl | rfl | rfl | rfl <;> omega
   exact I.fpOk this (I.hok.fresh this)
end
theorem tW:bootBuiltins "int" =some (.type "int"):=by decide +kernel
section
variable {X:Cx} {a b:Expr} {t:TA} {p pos ep px py:Pos} {elts:List Expr} {ek:Nat} {x y:Str} {iter:Expr} {wi:TI} {tS:TS}
theorem nr (i j:Nat) (hN:X.N.Nodup) {body:List Stmt} (hi:QI X (.Tuple [.Name x px,.Name y py] ek ep) iter wi) (hb:QSs X body tS) (hp:PassesOwn (model X.prog X.w) X.A X.env X.xe) (hc:X.calm=true:=by rfl)
  (hj:X.N[i]?=some x:=by rfl) (hx:Loc X.env.scope x:=by first | exact .inl rfl | exact .inr rfl) (hf:X.fn x=true∨X.env.scope.names.lookup x=some .local:=by first | exact .inl rfl | exact .inr rfl)
  (hj2:X.N[j]?=some y:=by rfl) (hx2:Loc X.env.scope y:=by first | exact .inl rfl | exact .inr rfl) (hf2:X.fn y=true∨X.env.scope.names.lookup y=some .local:=by first | exact .inl rfl | exact .inr rfl)
  (hs:∀ x,foldedSetIterable iter X.env x=pure x:=by intro _;rfl):QS X (.For (.Tuple [.Name x px,.Name y py] ek ep) iter body [] pos) (fB wi (lu X.K 2 (el (av i) (el (av j) lD))) tS):=
 ⟨ua hp hc hi.out (tu hc (ib (gc hN hj hx hf) (ib (gc hN hj2 hx2 hf2) pZ))) hb.out hs⟩
end
theorem yj {K:W.Frag} {a b:Addr} {xs ys:List V} {g:TG} {tb:TS} {D:em} {σ:St} {H:Hp} (Pv:Nat→St→Hp→Prop) (h0:Pv 0 σ H) (hl:∀ i σ H,i≤xs.length→Pv i σ H→SqT K H a xs∧SqT K H b ys) (hlen:xs.length=ys.length)
   (hs:∀ i x y σ H p,xs[i]?=some x→ys[i]?=some y→Pv i σ H→H p=none→g (.ref p) σ (upd H p (.tup [x,y])) fun σ2 H2=>tb { D with nx:=Pv (i+1),ct:=Pv (i+1),bk:=D.nx } σ2 H2) (hd:∀ σ H,Pv xs.length σ H→D.nx σ H):
   ∃ W:Nat→Nat→St→Hp→Prop,(∃ m,W 0 m σ H)∧∀ i m σ H,W i m σ H→
    ((Itz K a b).stop i H∧D.nx σ H)∨((Itz K a b).go i H∧∃ N:St→Hp→Prop,(∀ σ' H',N σ' H'→∃ m',m'<m∧W (i+1) m' σ' H')∧∀ x H',(Itz K a b).yld i H x H'→g x σ H' fun σ2 H2=>tb { D with nx:=N,ct:=N,bk:=D.nx } σ2 H2):=by
 refine ⟨fun i m σ H=>m=xs.length - i∧i≤xs.length∧Pv i σ H,⟨xs.length,by simp,Nat.zero_le _,h0⟩,?_⟩
 rintro i m σ H ⟨rfl,hi,p⟩
 obtain ⟨q1,q2⟩:=hl i σ H hi p
 by_cases hlt:i<xs.length
 · have e1:xs[i]?=some xs[i]:=List.getElem?_eq_getElem hlt
   have e2:ys[i]?=some (ys[i]'(by omega)):=List.getElem?_eq_getElem (by omega)
   refine .inr ⟨⟨xs,ys,_,_,q1,q2,e1,e2⟩,Pv (i+1),fun σ' H' p'=>⟨xs.length - (i+1),by omega,rfl,hlt,p'⟩,fun v H' yl=>?_⟩
   obtain ⟨pp,rfl,hn,hy⟩:=yl
   obtain ⟨x,y,ex,ey,rfl⟩:=hy xs ys q1 q2
   exact hs i x y σ H pp ex ey p hn
 · have:i=xs.length:=by omega
   subst this
   exact .inl ⟨⟨xs,ys,q1,q2,.inl (Nat.le_refl _)⟩,hd σ H p⟩
def eh (C:Addr) (m:Str) (sp:Sp) (E:St→XK) (ta:TE) (t:TA):TE:=fun σ H Q=>ta σ H fun x H1=>∃ a dx fs,x=.ref a∧H1 a=some (.ins C dx fs)∧fs.lookup m=none∧t σ H1 fun vs H2=>sp (x::vs) H2 Q (E σ)
def bR (C:Addr) (sp:Sp) (E:St→XK) (t:TA):TE:=fun σ H Q=>t σ H fun vs H1=>∀ x dx,H1 x=none→H1 dx=none→dx≠x→
 sp (.ref x::vs) (upd (upd H1 dx (.own x)) x (.ins C dx [])) (fun v H2=>v=.non∧Q (.ref x) H2) (E σ)
section
variable {X:Cx} {CX:CXT} {k:Nat} {f C:Addr} {fd:FuncData} {ps:List Str} {sp:Sp} {E:St→XK} {x m fl:Str} {p pos apos pos':Pos} {e o value:Expr} {es:List Expr} {ta tv to:TE} {t:TA}
theorem aS (he:QE X e ta) (hb:attributeBase e fl X.env (eval e X.env)=eval e X.env:=by rfl):QE X (.Attribute e fl pos) (bg X.K ta fl):=⟨AC he.out hb⟩
theorem cV (ho:QE X o to) (hv:QE X value tv) (hs:swapsWith value (some (.Attribute o fl pos')) pos.line X.env=pure false:=by rfl):QS X (.Assign [.Attribute o fl pos'] value pos) (fu X.K to tv fl):=⟨AZ ho.out hv.out hs⟩
theorem dS {pl : Sem Bool} (he : QE X o ta) (c : Cls X.K C) (hm : cH X.K C m f) (F : aN X.prog X.w X.K X.mg X.base CX k f fd ps sp) (hr : aW k X.A) (hb : aU X.K fd ps []) (hx : dM CX X E) (ha : QA X (e :: es) t)
  (hs : aX (e :: es) = true := by rfl)
  (ht : eval (.Call (.Attribute o m apos) (e :: es) [] pos) X.env = (do
   let ov ← eval o X.env
   standAt apos.atName
   let (f, first) ← holding [ov] (getMethod ov m pl)
   callWith pos f first (backTo pos (starEach (e :: es) X.env)) (backToKw pos (keywordEach [] X.env))) := by rfl) :
  QE X (.Call (.Attribute o m apos) (e :: es) [] pos) (eh C m sp E ta t) := ⟨fun pins s σ H Q I h => by
 have h' : (bA e && aX es) = true := hs
 refine W.methodCall_KW (pl := pl) (thn (he.out pins s σ H _ I h) fun u s1 ⟨x, H1, I1, rx, a, dx, fs, ex, ea, l, q⟩ => ?_) ht
 subst ex
 obtain rfl : u = Value.ref a := rx
 refine ig I1 ea c hm l ?_
 refine W.callWith_K (first := [.ref a]) (h₀ := X.base) I.ok.mod.kin hm.kp (thn (ha.out pos pins s1 σ H1 _ I1 q) fun us s2 ⟨vs, H2, I2, r, q2⟩ => ⟨I2.kIn, ?_⟩)
  (aO (Bool.and_eq_true_iff.mp h').1 es X.env) (bD (Bool.and_eq_true_iff.mp h').2)
 exact ff (us := .ref a :: us) (vs := .ref a :: vs) F hr hb hx I2 (.cons rfl r) q2⟩
theorem lS {pins : List (Addr × Obj)} {σ : St} {H : Hp} {s : Shared} {Q : VK} {us : List Value} {vs : List V} (M : Mk X.K C f) (F : aN X.prog X.w X.K X.mg X.base CX k f fd ps sp) (hr : aW (k + 1) X.A) (hb : aU X.K fd ps [])
    (hx : dM CX X E) (I : Inv X pins σ H s) (r : aG vs us)
    (h : ∀ x dx, H x = none → H dx = none → dx ≠ x → sp (.ref x :: vs) (upd (upd H dx (.own x)) x (.ins C dx [])) (fun v H2 => v = .non ∧ Q (.ref x) H2) (E σ)) :
    wpAny (model X.prog X.w) X.A (call (.ref C) us) (EP X pins σ Q) X.xe s := by
  have hq := h (s.heap.objs.size + 1) s.heap.objs.size (I.hok.fresh (Nat.le_succ _)) (I.hok.fresh (Nat.le_refl _)) (Nat.ne_of_lt (Nat.lt_succ_self _))
  have I2 := Inv.made (C := C) I
  have r2 : aG (V.ref (s.heap.objs.size + 1) :: vs) (Value.ref (s.heap.objs.size + 1) :: us) := .cons rfl r
  have hl : (Value.ref (s.heap.objs.size + 1) :: us).length = ps.length := by
    have e := r2.length
    rw [F.len _ _ _ _ hq] at e
    exact e.symm
  have hb' := hb _ (Value.ref (s.heap.objs.size + 1) :: us) I2.kIn (by rw [List.append_nil]; exact hl)
  rw [List.append_nil] at hb'
  refine wpAny_call (wz (f := f) I.kIn M.makes M.init (beq_iff_eq.mp M.fn) (codeAny_mono (F.run _ X.stack _ _ ⟨Value.ref (s.heap.objs.size + 1) :: us, []⟩ (Value.ref (s.heap.objs.size + 1) :: us) _ _ (E σ) (hr.make C us [])
    (I2.env0.make C us []) hb' r2 hq) fun r s' hq' => ?_))
  cases r with
  | error e => exact hx pins σ _ _ e s' I2 hq'
  | ok fl =>
    cases fl with
    | ret u =>
      obtain ⟨v, H', I3, rv, ev, q3⟩ := I2.after hq'
      subst ev
      exact ⟨rv, ⟨V.ref (s.heap.objs.size + 1), H', I3, rfl, q3⟩⟩
    | next => exact False.elim hq'
    | brk => exact False.elim hq'
    | cont => exact False.elim hq'
theorem bT (M:Mk X.K C f) (F:aN X.prog X.w X.K X.mg X.base CX k f fd ps sp) (hr:aW (k+1) X.A) (hm:X.mg x=some (.ref C)) (hb:aU X.K fd ps []) (hx:dM CX X E) (ha:QA X (e::es) t)
  (hg:Gl X x:=by rfl) (hdb:(x==("__debug__" :Str))=false:=by decide) (hs:aX (e::es)=true:=by rfl):QE X (.Call (.Name x p) (e::es) [] pos) (bR C sp E t):=⟨fun pins s σ H Q I h=>by
 have h':(bA e&&aX es)=true:=hs
 refine wpAny_Call_Name_kw (gj I hg hm ?_ hdb)
 refine W.callWith_K (h₀:=X.base) I.ok.mod.kin M.kp (thn (ha.out pos pins s σ H _ I h) fun us s1 ⟨vs,H1,I1,r,q⟩=>⟨I1.kIn,?_⟩) (aO (Bool.and_eq_true_iff.mp h').1 es X.env) (bD (Bool.and_eq_true_iff.mp h').2)
 exact lS M F hr hb hx I1 r q⟩
theorem wL (M:Mk X.K C f) (F:aN X.prog X.w X.K X.mg X.base CX k f fd ps sp) (hr:aW (k+1) X.A) (hm:X.mg x=some (.ref C)) (hb:aU X.K fd ps []) (hx:dM CX X E)
  (hg:Gl X x:=by rfl) (hdb:(x==("__debug__" :Str))=false:=by decide):QE X (.Call (.Name x p) [] [] pos) (bR C sp E ai):=⟨fun pins s σ H Q I h=>by
 refine wpAny_Call_Name_kw (gj I hg hm ?_ hdb)
 exact W.callWith_K0 I.kIn M.kp (lS (us:=[]) M F hr hb hx I .nil h)⟩
end
mutual
inductive cT (K:W.Frag) (H:Hp):V→PyData→Prop
 | non:cT K H .non .none
 | bl (b):cT K H (.bl b) (.bool b)
 | int (i):cT K H (.int i) (.int i)
 | str (z):cT K H (.str z) (.str z)
 | lst {a xs ds}:SqL K H a xs→DatVs K H xs ds→cT K H (.ref a) (.list ds)
 | tup {a xs ds}:SqT K H a xs→DatVs K H xs ds→cT K H (.ref a) (.tuple ds)
inductive DatVs (K:W.Frag) (H:Hp):List V→List PyData→Prop
 | nil:DatVs K H [] []
 | cons {x xs d ds}:cT K H x d→DatVs K H xs ds→DatVs K H (x::xs) (d::ds)
end
section
variable {X:Cx}
mutual
theorem bL {pins : List (Addr × Obj)} {σ : St} {H : Hp} {s : Shared} (I : Inv X pins σ H s) : ∀ {x : V} {d : PyData}, cT X.K H x d → ∀ {v : Value}, aE x v → ∃ as, Reads s.heap v d as
  | _, _, .non, _, r => by cases r; exact ⟨_, .none⟩
  | _, _, .bl b, _, r => by cases r; exact ⟨_, .bool b⟩
  | _, _, .int i, _, r => by obtain ⟨t, rfl⟩ := r; exact ⟨_, .int i t⟩
  | _, _, .str z, _, r => by obtain ⟨t, rfl⟩ := r; exact ⟨_, .str z t⟩
  | _, _, .lst h hs, _, r => by
    cases r
    obtain ⟨its, r1, ⟨o, n, h1, h2, _, h3⟩, _⟩ := I.list h
    obtain ⟨as, ra⟩ := datVs_reads I hs r1
    exact ⟨_, .list h1 h2 h3 (by simpa using ra)⟩
  | _, _, .tup h hs, _, r => by
    cases r
    obtain ⟨its, r1, ⟨o, h1, h2, n, h3⟩, _⟩ := I.tuple h
    obtain ⟨as, ra⟩ := datVs_reads I hs r1
    exact ⟨_, .tuple h1 h2 h3 (by simpa using ra)⟩
theorem datVs_reads {pins : List (Addr × Obj)} {σ : St} {H : Hp} {s : Shared} (I : Inv X pins σ H s) : ∀ {xs : List V} {ds : List PyData}, DatVs X.K H xs ds → ∀ {vs : List Value}, aG xs vs → ∃ as, ReadsAll s.heap vs ds as
  | _, _, .nil, _, r => by cases r; exact ⟨_, .nil⟩
  | _, _, .cons h hs, _, r => by
    cases r with
    | cons r1 r2 =>
      obtain ⟨as, a⟩ := bL I h r1
      obtain ⟨bs, b⟩ := datVs_reads I hs r2
      exact ⟨_, .cons a b⟩
end
def qF (K:W.Frag):R2:=fun x y H Q=>∃ d e,cT K H x d∧cT K H y e∧d.canLay0=true∧e.canLay0=true∧d.depth≤150∧Q (.bl (d.eqv e)) H
def wg (K:W.Frag):R2:=fun x y H Q=>∃ d e,cT K H x d∧cT K H y e∧d.canLay0=true∧e.canLay0=true∧d.depth≤150∧Q (.bl (!d.eqv e)) H
theorem zW (hu:X.A.units+150<cLine):OpR X (compareOp .Eq) (qF X.K):=by
 intro pins s σ H x y v u Q I rx ry h
 obtain ⟨d,e,hd,he,cd,ce,dp,q⟩:=h
 obtain ⟨as,ra⟩:=bL I hd rx
 obtain ⟨bs,rb⟩:=bL I he ry
 exact PySem.SeqAt.compareEq_reads ra rb cd ce (by have:=Nat.min_le_left d.depth e.depth;omega) ⟨.bl _,H,I,rfl,q⟩
theorem zK (hu:X.A.units+150<cLine):OpR X (compareOp .NotEq) (wg X.K):=by
 intro pins s σ H x y v u Q I rx ry h
 obtain ⟨d,e,hd,he,cd,ce,dp,q⟩:=h
 obtain ⟨as,ra⟩:=bL I hd rx
 obtain ⟨bs,rb⟩:=bL I he ry
 exact PySem.SeqAt.compareNe_reads ra rb cd ce (by have:=Nat.min_le_left d.depth e.depth;omega) ⟨.bl _,H,I,rfl,q⟩
theorem aW.units150 {k:Nat} {A:Around} (r:aW k A):A.units+150<cLine:=by have:=r.un;omega
def dR (K:W.Frag):R2:=fun x y H Q=>match x,y with
 | .ref a,y=>wg K (.ref a) y H Q
 | x,.ref b=>wg K x (.ref b) H Q
 | x,y=>mNe x y H Q
theorem gG (hu:X.A.units+150<cLine):OpR X (compareOp .NotEq) (dR X.K):=((zK hu).or oNe).imp fun x y H Q q=>by
 unfold dR at q
 split at q
 · exact .inl q
 · exact .inl q
 · exact .inr q
def qT:V→List V→Hp→VK→Prop:=fun x vs H Q=>match x,vs with | .int i,[]=>Q (.int (Builtin.Int.intBits i)) H | _,_=>False
theorem yu:MtR X "int.bit_length" qT:=by
 intro pins s σ H x xs v us Q I rx rs q
 unfold qT at q
 split at q
 · obtain ⟨t,rfl⟩:=rx
   cases rs
   exact call_int_bit_length ⟨.int _,H,I.tok _,⟨_,rfl⟩,q⟩
 · exact q.elim
def vE:List V→Hp→VK→Prop:=fun xs H Q=>match xs with | [.int i,.int j]=>Q (.int (if j<i then j else i)) H | _=>False
theorem EU (hc:X.calm=true):bo X (.builtin "min") vE:=fun pins s σ H xs us Q I r q=>by
 unfold vE at q
 split at q
 · exact rY hc pins s σ H _ us Q I r ⟨_,_,rfl,q⟩
 · exact q.elim
variable {o:Expr} {to:TE} {name:Str} {apos cpos:Pos} {T id:String} {rm:V→List V→Hp→VK→Prop}
theorem rL (pa:PlainAttrs T) (slot:Slot T name id) (hty:typeOf (.builtin id)=pure (.type "method_descriptor")) (hm:MtR X id rm) (ho:QE X o to)
 (hbase:attributeBase o name X.env (eval o X.env)=eval o X.env:=by rfl) (hline:(apos.endLine==cpos.line)=true:=by rfl):QE X (.Call (.Attribute o name apos) [] [] cpos) (jN X.K T rm to):=⟨BB pa slot hty hm ho.out hbase hline⟩
end
theorem sJ:(("" :String):Str)=Str.empty:=by decide
theorem xM : ∀ xs : List Str, Str.join "" xs = xs.foldr (· ++ ·) Str.empty
  | [] => rfl
  | [x] => (Str.append_empty x).symm
  | x :: y :: r => by
    show x ++ (("" : String) : Str) ++ Str.join "" (y :: r) = x ++ (y :: r).foldr (· ++ ·) Str.empty
    rw [xM (y :: r), sJ, Str.append_empty]
theorem lN (xs:List Str):Txt.join "" xs=xs.foldr (·++·) Str.empty:=(eq_of_beq (join_plain_closes "" xs)).trans (xM xs)
theorem om : ∀ xs : List Str, (xs.foldr (· ++ ·) Str.empty).length = (xs.map (·.length)).sum
  | [] => by decide
  | x :: r => by
    show (x ++ r.foldr (· ++ ·) Str.empty).length = _
    rw [strLen_append, om r, List.map_cons, List.sum_cons]
theorem aK {n:Nat} (h:n≤1000000):n≤sizeLine:=by rw [sizeLine_eq];omega
theorem je (k:Nat):((2^k:Nat):Int)=(2:Int)^k:=by simp
theorem vM (k:Nat):(0:Int)<2^k:=by have:=Nat.two_pow_pos k;rw [← je];omega
theorem nq {α:Type} {xs:List α} {i:Int} (h0:0≤i) (h1:i<xs.length):∃ c,atI xs i=some c:=by
 unfold atI ixN
 rw [if_pos h0,if_pos h1]
 have:i.toNat<xs.length:=by omega
 exact ⟨xs[i.toNat],by show xs[i.toNat]?=_;rw [List.getElem?_eq_getElem this]⟩
theorem jT : ∀ (xs : List Str), (∀ x ∈ xs, x.length = 1) → (xs.map (·.length)).sum = xs.length
  | [], _ => rfl
  | x :: r, h => by
    rw [List.map_cons, List.sum_cons, List.length_cons, jT r fun y hy => h y (List.mem_cons_of_mem _ hy), h x List.mem_cons_self]; omega
theorem vJ (xs:List Str) (h:∀ x∈xs,x.length=1):(Txt.join "" xs).length=xs.length:=by rw [lN,om,jT xs h]
theorem xor_zero {x y:Nat} (h:x^^^y=0):x=y:=by
 have h2:x^^^y^^^y=0^^^y:=by rw [h]
 rwa [Nat.xor_assoc,Nat.xor_self,Nat.xor_zero,Nat.zero_xor] at h2
theorem rF (x y : Nat) : x ||| y = (x &&& y) + (x ^^^ y) := by
  have h : ∀ n, ∀ x y : Nat, x < 2 ^ n → y < 2 ^ n → x ||| y = (x &&& y) + (x ^^^ y) := by
    intro n
    induction n with
    | zero => intro x y hx hy; have : x = 0 := by simpa using hx
              have : y = 0 := by simpa using hy
              subst_vars; rfl
    | succ n ih =>
      intro x y hx hy
      have i := ih (x / 2) (y / 2) (by omega) (by omega)
      rw [← Nat.div_add_mod (x ||| y) 2, ← Nat.div_add_mod (x &&& y) 2, ← Nat.div_add_mod (x ^^^ y) 2]
      rw [Nat.or_div_two, Nat.and_div_two, Nat.xor_div_two, i]
      have hm : (x ||| y) % 2 = (x &&& y) % 2 + (x ^^^ y) % 2 := by
        have a := @Nat.or_mod_two_pow x y 1
        have b := @Nat.and_mod_two_pow x y 1
        have c := @Nat.xor_mod_two_pow x y 1
        rw [Nat.pow_one] at a b c
        rw [a, b, c]
        rcases Nat.mod_two_eq_zero_or_one x with h | h <;> rcases Nat.mod_two_eq_zero_or_one y with h' | h' <;> rw [h, h'] <;> rfl
      omega
  have h2 : max x y < 2 ^ (max x y) := Nat.lt_two_pow_self
  exact h (max x y) x y (by omega) (by omega)
theorem ku (x y:Nat):Builtin.bitXor x y=((x^^^y:Nat):Int):=by
 unfold Builtin.bitXor Builtin.bitOr
 have e1:Builtin.bitAnd x y=((x &&& y:Nat):Int):=by
  unfold Builtin.bitAnd
  rw [decide_eq_true (by omega:(0:Int)≤x),decide_eq_true (by omega:(0:Int)≤y)];rfl
 have n (z:Nat):Builtin.bitNot z<0:=by unfold Builtin.bitNot;omega
 have nn (z:Nat):(Builtin.bitNot (Builtin.bitNot z)).toNat=z:=by unfold Builtin.bitNot;omega
 have e2:Builtin.bitAnd (Builtin.bitNot x) (Builtin.bitNot y)=Builtin.bitNot ((x ||| y:Nat):Int):=by
  unfold Builtin.bitAnd
  rw [decide_eq_false (by have:=n x;omega:¬ 0≤Builtin.bitNot x),decide_eq_false (by have:=n y;omega:¬ 0≤Builtin.bitNot y)]
  show Builtin.bitNot (((Builtin.bitNot (Builtin.bitNot x)).toNat ||| (Builtin.bitNot (Builtin.bitNot y)).toNat:Nat):Int)=_
  rw [nn,nn]
 rw [e1,e2,rF]
 unfold Builtin.bitNot
 omega
theorem qJ (x:Nat):Builtin.bitAnd x 1=((x%2:Nat):Int):=by
 unfold Builtin.bitAnd
 rw [decide_eq_true (by omega:(0:Int)≤x),decide_eq_true (by decide:(0:Int)≤1)]
 show (((x:Int).toNat &&& (1:Int).toNat:Nat):Int)=_
 rw [Int.toNat_natCast,show (1:Int).toNat=1 from rfl,Nat.and_one_is_mod]
section
variable {X:Cx}
theorem aW.units1 {k:Nat} {A:Around} (r:aW k A):A.units+1<cLine:=by have:=r.un;omega
def Ao:R2:=fun x y H Q=>∃ a v,x=.ref a∧cB H a y (some v)∧Q v H
theorem yd (hu:X.A.units+1<cLine):IxR X Ao:=by
 intro value slice pins s σ H x y v u Q I rx ry h hs
 obtain ⟨a,w0,rfl,g,q⟩:=h
 obtain rfl:v=Value.ref a:=rx
 have hT:=oK I g
 have h2:wpAny (model X.prog X.w) X.A (getItem (.ref a) u) (EP X pins σ Q) X.xe s:=tB hu I g ry fun w' s3 I3 rw'=>⟨w0,H,I3,rw',q⟩
 unfold subscriptTail
 refine wpAny_bind ?_
 rw [getitemInPython_of_ne hT.not_modules]
 refine wpAny_bind (wpAny_specialOf hT PySem.F.slot_dict_getitem.lookup ?_)
 have fin:wpAny (model X.prog X.w) X.A (subscripted slice false (.ref a) u) (fun r s₃=>wpAny (model X.prog X.w) X.A (letTemporaryGo value (.ref a) r>>=fun _=>pure r) (EP X pins σ Q) X.xe s₃) X.xe s:=by
  rw [hs]
  exact wpAny_operating (wpAny_mono h2 (fun r s₃ h₃=>wpAny_bind (wpAny_letTemporaryGo (wpAny_pure h₃))) fun _ _ x=>x)
 first
  | exact wpAny_pure (wpAny_bind fin)
  | exact wpAny_bind (wpAny_pure (wpAny_bind fin))
  | exact wpAny_bind fin
def bq (K:W.Frag):R2:=fun x y H Q=>rIx K x y H Q∨Ao x y H Q
theorem bc (hu:X.A.units+1<cLine):IxR X (bq X.K):=Bs.or (yd hu)
def wU:V→V→V→Hp→(Hp→Prop)→Prop:=fun o i v H Q=>∃ a H',o=.ref a∧lP H a i v H'∧Q H'
theorem wv (hu:X.A.units+1<cLine):rq X wU:=by
 intro pins s σ H o i v ov iv u Q I ro ri rv h
 obtain ⟨a,H',rfl,g,q⟩:=h
 obtain rfl:ov=Value.ref a:=ro
 exact tE hu I g ri rv fun s4 I4=>⟨H',I4,q⟩
def mW:V→V→V→Hp→(Hp→Prop)→Prop:=fun o i v H Q=>xn o i v H Q∨wU o i v H Q
theorem yZ (hu:X.A.units+1<cLine):rq X mW:=by
 intro pins s σ H o i v ov iv u Q I ro ri rv h
 rcases h with h | h
 · exact vw pins s σ H o i v ov iv u Q I ro ri rv h
 · exact wv hu pins s σ H o i v ov iv u Q I ro ri rv h
variable {o e:Expr} {to te:TE} {p pos:Pos}
theorem oj {ti:TE} {i:Expr} (hu:X.A.units+1<cLine) (ho:QE X o to) (hi:QE X i ti) (he:QE X e te) (hs:swapsWithSole [.Subscript o i p] e pos.line X.env=pure false:=by rfl) (hw:swappedStores [.Subscript o i p] e X.env=pure none:=by rfl) (ha:∀ v,assign (.Subscript o i p) X.env v=(do let ov←holding [v] (eval o X.env);let iv←holding [v,ov] (eval i X.env);standAt p;holding [v,ov,iv] (setItem ov iv v);release [v,ov,iv] []):=by intro _;rfl):QS X (.Assign [.Subscript o i p] e pos) (aP te (qL to ti mW)):=⟨Az he.out (Ac ho.out hi.out (yZ hu) ha) hs hw⟩
def zT:R2:=fun y x H Q=>∃ a o,x=.ref a∧cB H a y o∧Q (.bl o.isSome) H
theorem zJ (hu:X.A.units+1<cLine):OpR X (compareOp .In) zT:=by
 intro pins s σ H x y v u Q I rx ry h
 obtain ⟨a,ov,rfl,g,q⟩:=h
 obtain rfl:u=Value.ref a:=ry
 exact EY hu I g rx fun s3 I3=>⟨.bl ov.isSome,H,I3,rfl,q⟩
def oX:R2:=fun y x H Q=>∃ a o,x=.ref a∧cB H a y o∧Q (.bl (!o.isSome)) H
theorem sE (hu:X.A.units+1<cLine):OpR X (compareOp .NotIn) oX:=by
 intro pins s σ H x y v u Q I rx ry h
 obtain ⟨a,ov,rfl,g,q⟩:=h
 obtain rfl:u=Value.ref a:=ry
 exact yE hu I g rx fun s3 I3=>⟨.bl (!ov.isSome),H,I3,rfl,q⟩
def AH (K:W.Frag):R2:=fun y x H Q=>∃ d ds,cT K H y d∧(cT K H x (.list ds)∨cT K H x (.tuple ds))∧PyData.canLayAll0 ds=true∧d.canLay0=true∧d.depth≤140∧Q (.bl (ds.any fun e=>e.eqv d)) H
def pJ (K:W.Frag):R2:=fun y x H Q=>∃ d ds,cT K H y d∧(cT K H x (.list ds)∨cT K H x (.tuple ds))∧PyData.canLayAll0 ds=true∧d.canLay0=true∧d.depth≤140∧Q (.bl (!ds.any fun e=>e.eqv d)) H
theorem zM (hu:X.A.units+150<cLine):OpR X (compareOp .In) (AH X.K):=by
 intro pins s σ H x y v u Q I rx ry h
 obtain ⟨d,ds,hd,hx,c1,c2,dp,q⟩:=h
 obtain ⟨as,ra⟩:=bL I hd rx
 have hm:X.A.units+1+min (PyData.depthAll ds) d.depth<cLine:=by have:=Nat.min_le_right (PyData.depthAll ds) d.depth;omega
 rcases hx with hx | hx
 · obtain ⟨bs,rb⟩:=bL I hx ry
   exact PySem.SeqAt.in_list_reads rb ra c1 c2 hm ⟨.bl _,H,I,rfl,q⟩
 · obtain ⟨bs,rb⟩:=bL I hx ry
   exact PySem.SeqAt.in_tuple_reads rb ra c1 c2 hm ⟨.bl _,H,I,rfl,q⟩
theorem sW (hu:X.A.units+150<cLine):OpR X (compareOp .NotIn) (pJ X.K):=by
 intro pins s σ H x y v u Q I rx ry h
 obtain ⟨d,ds,hd,hx,c1,c2,dp,q⟩:=h
 obtain ⟨as,ra⟩:=bL I hd rx
 have hm:X.A.units+1+min (PyData.depthAll ds) d.depth<cLine:=by have:=Nat.min_le_right (PyData.depthAll ds) d.depth;omega
 rcases hx with hx | hx
 · obtain ⟨bs,rb⟩:=bL I hx ry
   exact PySem.SeqAt.notIn_list_reads rb ra c1 c2 hm ⟨.bl _,H,I,rfl,q⟩
 · obtain ⟨bs,rb⟩:=bL I hx ry
   exact PySem.SeqAt.notIn_tuple_reads rb ra c1 c2 hm ⟨.bl _,H,I,rfl,q⟩
def qK (K:W.Frag):R2:=fun y x H Q=>match y,x with
 | y,.ref a=>zT y (.ref a) H Q∨AH K y (.ref a) H Q
 | y,x=>vv y x H Q
theorem EX (hu:X.A.units+150<cLine):OpR X (compareOp .In) (qK X.K):=((zJ (by omega)).or ((zM hu).or FM)).imp fun x y H Q q=>by
 unfold qK at q
 split at q
 · exact q.elim .inl fun z=> .inr (.inl z)
 · exact .inr (.inr q)
def pw (K:W.Frag):R2:=fun y x H Q=>oX y x H Q∨pJ K y x H Q
theorem yM (hu:X.A.units+150<cLine):OpR X (compareOp .NotIn) (pw X.K):=(sE (by omega)).or (sW hu)
def nz:TE:=fun σ H Q=>sT σ H Q∨sr σ H Q
theorem pB:QE X (.Dict [] [] pos) nz:=⟨fun pins s σ H Q I h=>h.elim (vS pins s σ H Q I) (wB pins s σ H Q I)⟩
theorem tT:bo X (.builtin "len") (fun xs H Q=>∃ p kvs,xs=[.ref p]∧H p=some (.dT kvs)∧Q (.int kvs.length) H):=by
 intro pins s σ H xs us Q I r h
 obtain ⟨a,kvs,rfl,e,q⟩:=h
 obtain ⟨u,rfl,r1⟩:=dW r
 cases r1
 obtain ⟨z,hd,ps,rel,dd⟩:=qV I.hok e
 have hl:ps.length=kvs.length:=(Paired.length rel).symm
 have hT:s.TypeIs (.ref a) "dict" :=dd.typeIs
 obtain ⟨o,es,ep,ho,hc,hdat,he,his,hn⟩:=dd
 have hsz:es.size=kvs.length:=by rw [← hl];have:=congrArg List.length he;simpa using this
 have M:MeetsIn X.prog X.w (Builtin.«dict.__len__» ⟨[.ref a],[]⟩) (fun _ R s=>s.heap.get? a=some o∧R (.ok (.ret (.int kvs.length s.toks))) { s with toks:=s.toks+1 }):=
  .of_wp fun A R s ⟨ho,h⟩=>by
   show wpAny _ _ (dictSize a>>=_) _ _ s
   unfold dictSize
   refine wpAny_bind (wpAny_bind (wpAny_dictEntries ho hdat (wpAny_pure ?_)))
   show wpAny _ _ (Builtin.Dict.pendingCount a>>=_) _ _ s
   refine wpAny_bind (wpAny_pendingCount_other hd ?_)
   refine wpAny_ret_mkInt ?_
   rw [Nat.add_zero,hsz];exact h
 refine Calls.call_function_entry kind_len plain_len entry_len (args_len1 _) ?_
 unfold Builtin.«len»
 refine wpAny_bind (m:=oneArg "len" _) (wpAny_pure ?_)
 refine wpAny_bind (m:=callSpecial? (.ref a) (Str.ofString "__len__")) (wpAny_callSpecial?_slot (name:=Str.ofString "__len__") hT F.slot_dict_len
  (call_meetsIn F.slot_dict_len hT F.entry_dict_len (F.args_dict_len_1 _) M ⟨ho,?_⟩))
 show wpAny _ _ _ _ _ { s with toks:=s.toks+1 }
 refine wpAny_bind (wpAny_holding (wpAny_pure ?_))
 refine wpAny_bind (wpAny_letGo ?_)
 have zz:kvs.length≤sizeLine:=z
 rw [sizeLine_eq] at zz
 show wpAny _ _ (if ((kvs.length:Nat):Int)<0 then _ else _) _ _ _
 rw [if_neg (by omega)]
 show wpAny _ _ (if ((kvs.length:Nat):Int)≥2^63 then _ else _) _ _ _
 rw [if_neg (by omega)]
 exact wpAny_bind (wpAny_mkInt (wpAny_pure ⟨_,rfl,⟨.int kvs.length,H,I.tok _,⟨_,rfl⟩,q⟩⟩))
def df (K:W.Frag):List V→Hp→VK→Prop:=fun xs H Q=>zQ K xs H Q∨∃ p kvs,xs=[.ref p]∧H p=some (.dT kvs)∧Q (.int kvs.length) H
theorem dL:bo X (.builtin "len") (df X.K):=FZ.or tT
def zi (H:Hp) (a:Addr) (y d:V) (r:V) (H':Hp):Prop:=(cB H a y (some r)∧H'=H)∨(cB H a y none∧lP H a y d H'∧r=d)
theorem en {A:Around} {E:Value→Shared→Prop} {s:Shared} {P:Program} {w:World} {K:Type} [DecidableEq K] {knd:HeapKind P w K} {d a:Addr} {xs:List (K×Addr×Value)} {k:K} {v:Value} {Q:Value→Shared→Prop} (hu:knd.room A) (hkey:knd.is s.heap k a) (hm:s.heap.DictOfH knd d xs)
   (hthere:∀ p,atKey xs k=some p→Q p.2 { s with toks:=s.toks+knd.draws k })
   (hQ:atKey xs k=none→∀ h',h'.DictOfH knd d (storedH xs k a v)→Heap.SameBut d s.heap h'→Q v { s with heap:=h',toks:=s.toks+knd.draws k })
   (hsz:xs.length≤sizeLine):
   wpAny (model P w) A (dictSetDefault d (.ref a) v) Q E s:=by
 obtain ⟨o,es,ep,ho,hc,hd,he,his,hn⟩:=hm
 unfold dictSetDefault
 try with_reducible refine wpAny_holding ?_
 refine wpAny_bind (knd.pyHash hu hkey ?_)
 refine wpAny_bind (wpAny_dictFind_heap (s:={ s with toks:=s.toks+knd.draws k }) hu hkey ho hd he his hn ?_ ?_)
 · intro hno
   have hnot:k∉xs.map (·.1):=not_mem_keys_of_get hno
   refine wpAny_bind (wpAny_rule (wpAny_bind (wpAny_updateDictKeys (hz:=by have e:=size_of_entries he;omega) (s:={ s with toks:=s.toks+knd.draws k }) ho hd (wpAny_pure (hQ (atKey_none_of_get hno) _ ⟨_,_,ep+1,Heap.get?_update_self _ ho (Obj.isFreed_of_dict (Obj.data_mapDictKeys hd _)),
     hc.mapDictKeys _,Obj.data_mapDictKeys hd _,?_,?_,?_⟩ (Heap.SameBut.update ..))))))
   · rw [storedH_new (atKey_none_of_get hno)]
     simp [he,entryOfKey]
   · rw [storedH_new (atKey_none_of_get hno)]
     intro x hx
     rcases List.mem_append.mp hx with hx | hx
     · exact knd.keeps (his x hx) ho hd (Heap.SameBut.update ..)
     · simp only [List.mem_singleton] at hx
       subst hx
       exact knd.keeps hkey ho hd (Heap.SameBut.update ..)
   · rw [storedH_new (atKey_none_of_get hno)]
     rw [List.map_append,List.nodup_append]
     refine ⟨hn,by simp,?_⟩
     intro x hx y hy
     simp only [List.map_cons,List.map_nil,List.mem_singleton] at hy
     subst hy
     exact fun e=>hnot (e▸hx)
 · intro j p hj
   refine wpAny_bind (wpAny_dictEntries (s:={ s with toks:=s.toks+knd.draws k }) ho hd ?_)
   rw [entry_at he j,hj]
   exact wpAny_bind (wpAny_rule (wpAny_pure (hthere p (atKey_of_get hn hj))))
end
theorem cX {h:Heap} {a:Addr} {its:Array Value} (p:PlainL h a its):h.IsList a its:=let ⟨o,n,e,c,_,d⟩:=p;⟨o,e,c,n,d⟩
structure Bf (h:Heap) (z TI TO i1 i2 t1 t2:Addr) (k:Nat):Prop where
 z:IsZip h z TI TO .none
 ti:IsPair h TI (.ref i1) (.ref i2)
 to:∃ a b,IsPair h TO a b
 j1:h.IsListIter i1 t1 k
 j2:h.IsListIter i2 t2 k
def ju (K:W.Frag) (a b:Addr):It where
 go:=fun i H=>∃ xs ys x y,SqL K H a xs∧SqL K H b ys∧xs[i]?=some x∧ys[i]?=some y
 yld:=fun i H v H'=>∃ p,v=.ref p∧H p=none∧∀ xs ys,SqL K H a xs→SqL K H b ys→∃ x y,xs[i]?=some x∧ys[i]?=some y∧H'=upd H p (.tup [x,y])
 stop:=fun i H=>∃ xs ys,SqL K H a xs∧SqL K H b ys∧(xs.length≤i∨ys.length≤i)
theorem sI {P:Program} {w:World} {K:W.Frag} {elts:List Expr} {ek:Nat} {ep:Pos} (a b z TI TO i1 i2:Addr) (D:ZipApart z TI TO i1 i2 a b):
  gS P w K (.Tuple elts ek ep) (ju K a b) [z,TI,TO,i1,i2] z (fun i h=>Bf h z TI TO i1 i2 a b i) where
 mem:=by simp
 obj:=fun i h st c hc=>by
  obtain ⟨hz,hTI,⟨x,y,hTO⟩,⟨o1,e1,c1,d1⟩,⟨o2,e2,c2,d2⟩⟩:=st
  simp only [List.mem_cons,List.not_mem_nil,or_false] at hc
  rcases hc with rfl | rfl | rfl | rfl | rfl
  · exact ⟨_,hz,fun v q=>by cases q⟩
  · exact ⟨_,hTI,fun v q=>by cases q⟩
  · exact ⟨_,hTO,fun v q=>by cases q⟩
  · exact ⟨o1,e1,fun v q=>by rw [d1] at q;cases q⟩
  · exact ⟨o2,e2,fun v q=>by rw [d2] at q;cases q⟩
 keep:=fun i h h' st k=>by
  obtain ⟨hz,hTI,⟨x,y,hTO⟩,h1,h2⟩:=st
  exact ⟨k z (by simp) _ hz,k TI (by simp) _ hTI,⟨x,y,k TO (by simp) _ hTO⟩,h1.at fun o e=>k i1 (by simp) o e,h2.at fun o e=>k i2 (by simp) o e⟩
 item:=by
  intro X hP hw hK hc i pins s σ H E I hf st hg
  subst hP hw hK
  obtain ⟨xs,ys,x,y,hx,hy,ex,ey⟩:=hg
  obtain ⟨its,r1,p1,_⟩:=I.list hx
  obtain ⟨its2,r2,p2,_⟩:=I.list hy
  obtain ⟨u,gu,ru⟩:=r1.get ex
  obtain ⟨u2,gu2,ru2⟩:=r2.get ey
  obtain ⟨z1,z2,z3,z4,z5⟩:=st
  obtain ⟨za,zb,z3'⟩:=z3
  refine wpAny_pyNext_zip_item (xs:=its.toArray) (ys:=its2.toArray) (x:=u) (y:=u2) D z1 z2 z3' z4 z5 (cX p1) (cX p2) (by simpa using gu) (by simpa using gu2) fun h1 y1 y3' y4 y5 hT hsz hk=>?_
  have y2:IsPair h1 TI (.ref i1) (.ref i2):=hk _ _ D.TIz D.TITO D.TIi1 D.TIi2 z2
  have y3:∃ a b,IsPair h1 TO a b:=⟨_,_,y3'⟩
  have z3:∃ a b,IsPair s.heap TO a b:=⟨za,zb,z3'⟩
  refine ⟨_,rfl,wpAny_letOwnedTupleGo_zip y1 fun h2 hz2 hs2=>?_⟩
  have Tn:∀ c∈[z,TI,TO,i1,i2],c≠s.heap.objs.size:=fun c hc e=>by
    obtain ⟨o,eo⟩:∃ o,s.heap.get? c=some o:=by
      simp only [List.mem_cons,List.not_mem_nil,or_false] at hc
      rcases hc with rfl | rfl | rfl | rfl | rfl
      · exact ⟨_,z1⟩
      · exact ⟨_,z2⟩
      · obtain ⟨_,_,q⟩:=z3;exact ⟨_,q⟩
      · obtain ⟨_,q,_⟩:=z4;exact ⟨_,q⟩
      · obtain ⟨_,q,_⟩:=z5;exact ⟨_,q⟩
    have:=Heap.lt_size eo
    rw [e] at this;exact Nat.lt_irrefl _ this
  have k2:∀ c o,c∉[z,TI,TO,i1,i2]→s.heap.get? c=some o→h2.get? c=some o:=fun c o hc e=>by
    simp only [List.mem_cons,List.not_mem_nil,or_false,not_or] at hc
    exact hs2.extBut _ _ hc.1 (hk c o hc.1 hc.2.2.1 hc.2.2.2.1 hc.2.2.2.2 e)
  have I1:Inv X pins σ H { s with heap:=h2,toks:=s.toks }:=I.turnedL k2 hf
  have hTz:s.heap.objs.size≠z:=fun e=>Tn z (by simp) e.symm
  have hT2:IsPair h2 s.heap.objs.size u u2:=hs2.extBut _ _ hTz hT
  have hfr:H s.heap.objs.size=none:=I.hok.fresh (Nat.le_refl _)
  have I2:Inv X pins σ (upd H s.heap.objs.size (.tup [x,y])) { s with heap:=h2,toks:=s.toks }:=
    Inv.track2 I I1 (Nat.le_refl _) hfr ⟨by show 2≤sizeLine;decide,[u,u2],.cons ru (.cons ru2 .nil),⟨_,hT2,rfl,_,rfl⟩⟩
  refine ⟨.ref s.heap.objs.size,_,I2,rfl,⟨_,rfl,hfr,fun xs' ys' hx' hy'=>⟨x,y,by rw [I.list_inj hx' hx];exact ex,by rw [I.list_inj hy' hy];exact ey,rfl⟩⟩,?_,fun c hc=>?_⟩
  · exact ⟨hz2,hs2.extBut _ _ D.TIz y2,(let ⟨m,n,q⟩:=y3;⟨m,n,hs2.extBut _ _ D.TOz q⟩),y4.at fun o e=>hs2.extBut _ _ D.i1z e,y5.at fun o e=>hs2.extBut _ _ D.i2z e⟩
  · rw [ak (Tn c hc)];exact (hf c hc).1
 done:=by
  intro X hP hw hK hc i pins s σ H E I hf st hg
  subst hP hw hK
  obtain ⟨xs,ys,hx,hy,hl⟩:=hg
  obtain ⟨its,r1,p1,_⟩:=I.list hx
  obtain ⟨its2,r2,p2,_⟩:=I.list hy
  have l1:=r1.length
  have l2:=r2.length
  obtain ⟨z1,z2,z3,z4,z5⟩:=st
  obtain ⟨za,zb,z3'⟩:=z3
  refine wpAny_pyNext_zip_end (xs:=its.toArray) (ys:=its2.toArray) (I.ok.hd hc) D z1 z2 z3' z4 z5 (cX p1) (cX p2) ?_ fun h1 hk=>⟨rfl,I.turnedL (t':=s.toks) (fun c o hc e=>?_) hf⟩
  · rcases hl with q | q
    · exact .inl (by simp;omega)
    · exact .inr (by simp;omega)
  · simp only [List.mem_cons,List.not_mem_nil,or_false,not_or] at hc
    exact hk c o hc.1 hc.2.2.1 hc.2.2.2.1 hc.2.2.2.2 e
 self:=fun _ _ _ _ _ st h=>wpAny_pyIter_zip st.z h
section
variable {X:Cx} {a b:Expr} {t:TA} {p pos ep:Pos} {elts:List Expr} {ek:Nat}
theorem sM:∀ (pins:List (Addr×Obj)) (s:Shared) (σ:St) (H:Hp) (us:List Value) (vs:List V) (R:It→Hp→Prop),Inv X pins σ H s→aG vs us→(∃ c d xs ys,vs=[.ref c,.ref d]∧SqL X.K H c xs∧SqL X.K H d ys∧R (ju X.K c d) H)→
   wpAny (model X.prog X.w) X.A (call (.type "zip") us) (fun v s1=>wpAny (model X.prog X.w) X.A (pyIter v) (PIE X pins σ (.Tuple elts ek ep) R) X.xe s1) X.xe s:=by
 intro pins s σ H us vs R I r h
 obtain ⟨c,d,xs,ys,rfl,hx,hy,q⟩:=h
 obtain ⟨u,w',rfl,r1,r2⟩:=gN r
 cases r1
 cases r2
 obtain ⟨its,rv1,p1,_⟩:=I.list hx
 obtain ⟨its2,rv2,p2,_⟩:=I.list hy
 have lt1:c<s.heap.objs.size:=by obtain ⟨o,e,_⟩:=(cX p1);exact Heap.lt_size e
 have lt2:d<s.heap.objs.size:=by obtain ⟨o,e,_⟩:=(cX p2);exact Heap.lt_size e
 refine call_zip_2 (show s.heap.IsList c its.toArray from (cX p1)) (show s.heap.IsList d its2.toArray from (cX p2)) fun h' y1 y2 y3 y4 y5 _ hk=>?_
 refine wpAny_pyIter_zip y1 ?_
 refine ⟨s.heap.objs.size+4,[s.heap.objs.size+4,s.heap.objs.size+2,s.heap.objs.size+3,s.heap.objs.size,s.heap.objs.size+1],_,ju X.K c d,H,rfl,I.kept (t':=s.toks) hk,sI c d _ _ _ _ _ (zipApart_new lt1 lt2),?_,fun b hb=>?_,q⟩
 · exact ⟨y1,y2,⟨_,_,y3⟩,y4,y5⟩
 · have:s.heap.objs.size≤b:=by
    simp only [List.mem_cons,List.not_mem_nil,or_false] at hb
    rcases hb with rfl | rfl | rfl | rfl | rfl <;> omega
   exact I.fpOk this (I.hok.fresh this)
end
theorem oo {K:W.Frag} {a b:Addr} {xs ys:List V} {g:TG} {tb:TS} {D:em} {σ:St} {H:Hp} (Pv:Nat→St→Hp→Prop) (h0:Pv 0 σ H) (hl:∀ i σ H,i≤xs.length→Pv i σ H→SqL K H a xs∧SqL K H b ys) (hlen:xs.length=ys.length)
   (hs:∀ i x y σ H p,xs[i]?=some x→ys[i]?=some y→Pv i σ H→H p=none→g (.ref p) σ (upd H p (.tup [x,y])) fun σ2 H2=>tb { D with nx:=Pv (i+1),ct:=Pv (i+1),bk:=D.nx } σ2 H2) (hd:∀ σ H,Pv xs.length σ H→D.nx σ H):
   ∃ W:Nat→Nat→St→Hp→Prop,(∃ m,W 0 m σ H)∧∀ i m σ H,W i m σ H→
    ((ju K a b).stop i H∧D.nx σ H)∨((ju K a b).go i H∧∃ N:St→Hp→Prop,(∀ σ' H',N σ' H'→∃ m',m'<m∧W (i+1) m' σ' H')∧∀ x H',(ju K a b).yld i H x H'→g x σ H' fun σ2 H2=>tb { D with nx:=N,ct:=N,bk:=D.nx } σ2 H2):=by
 refine ⟨fun i m σ H=>m=xs.length - i∧i≤xs.length∧Pv i σ H,⟨xs.length,by simp,Nat.zero_le _,h0⟩,?_⟩
 rintro i m σ H ⟨rfl,hi,p⟩
 obtain ⟨q1,q2⟩:=hl i σ H hi p
 by_cases hlt:i<xs.length
 · have e1:xs[i]?=some xs[i]:=List.getElem?_eq_getElem hlt
   have e2:ys[i]?=some (ys[i]'(by omega)):=List.getElem?_eq_getElem (by omega)
   refine .inr ⟨⟨xs,ys,_,_,q1,q2,e1,e2⟩,Pv (i+1),fun σ' H' p'=>⟨xs.length - (i+1),by omega,rfl,hlt,p'⟩,fun v H' yl=>?_⟩
   obtain ⟨pp,rfl,hn,hy⟩:=yl
   obtain ⟨x,y,ex,ey,rfl⟩:=hy xs ys q1 q2
   exact hs i x y σ H pp ex ey p hn
 · have:i=xs.length:=by omega
   subst this
   exact .inl ⟨⟨xs,ys,q1,q2,.inl (Nat.le_refl _)⟩,hd σ H p⟩
set_option genInjectivity false in
set_option genSizeOf false in
structure cA where
 qual:Str
 body:FuncBody
 scope:Scope
 ps:List Str
 ys:List Str
def mO (t:cA) (cs:List Addr) (c:Addr) (fd:FuncData):Prop:=
 fd.qualname=t.qual∧fd.body=t.body∧fd.scope=t.scope∧fd.globals=mainGlobals∧fd.closure=t.ys.zip cs∧fd.code=.ref c∧fd.builtins=builtinsNs∧
  (∀ us:List Value,us.length=t.ps.length→bindArgs fd ⟨us,[]⟩=pure (t.ps.zip us))∧cs.Nodup∧cs.length=t.ys.length
def dj (f:Addr) (t:cA) (cs:List Addr) (c:Addr):HO:=.ext fun h=>∃ od fd sl,h.get? f=some ⟨.type "function",od,.func fd,sl⟩∧mO t cs c fd
def cU (c:Addr) (qual:Str):HO:=.ext fun h=>∃ o vs tk,h.get? c=some o∧o.data=.fields vs∧vs[1]?=some (.str qual tk)
def bO (c:Addr) (v:V):HO:=.ext fun h=>∃ u o,aE v u∧h.get? c=some o∧o.data=.cell (some u)
abbrev bS (H:Hp):List Addr→List V→Prop:=Paired fun c v=>H c=some (bO c v)
structure de (H:Hp) (f:Addr) (t:cA) (cs:List Addr) (cvs:List V):Prop where
 ex:∃ c,H f=some (dj f t cs c)∧H c=some (cU c t.qual)
 cells:bS H cs cvs
theorem bS.mem {H : Hp} {cs : List Addr} {cvs : List V} (h : bS H cs cvs) : ∀ c ∈ cs, ∃ v, H c = some (bO c v) := by
  induction h with
  | nil => intro c hc; cases hc
  | cons r t ih =>
    intro c hc
    rcases List.mem_cons.mp hc with rfl | hc
    · exact ⟨_, r⟩
    · exact ih c hc
theorem bS.get {H : Hp} {cs : List Addr} {cvs : List V} (h : bS H cs cvs) : ∀ {i : Nat} {v : V}, cvs[i]? = some v → ∃ c, cs[i]? = some c ∧ H c = some (bO c v) := by
  induction h with
  | nil => intro i v e; cases e
  | @cons c w cs ws r t ih =>
    intro i v e
    cases i with
    | zero => cases e; exact ⟨c, rfl, r⟩
    | succ i => exact ih e
def cp (cs:List Addr) (H:Hp):Hp:=fun b=>if b∈cs then none else H b
def ck (cs:List Addr) (H H':Hp):Hp:=fun b=>if b∈cs then H b else H' b
theorem fA {cs:List Addr} {H:Hp} {b:Addr} (h:b∈cs):cp cs H b=none:=if_pos h
theorem cv {cs:List Addr} {H:Hp} {b:Addr} (h:b∉cs):cp cs H b=H b:=if_neg h
theorem hZ {cs:List Addr} {H H':Hp} {b:Addr} (h:b∈cs):ck cs H H' b=H b:=if_pos h
theorem bN {cs:List Addr} {H H':Hp} {b:Addr} (h:b∉cs):ck cs H H' b=H' b:=if_neg h
theorem tQ {cs:List Addr} {H H':Hp} {d:Addr} {o:HO} (h:d∉cs):ck cs H (upd H' d o)=upd (ck cs H H') d o:=by
 funext b
 by_cases hb:b∈cs
 · have:b≠d:=fun e=>h (e▸hb)
   rw [hZ hb,ak this,hZ hb]
 · rw [bN hb]
   by_cases e:b=d
   · subst e;rw [af,af]
   · rw [ak e,ak e,bN hb]
theorem bS.notin {H:Hp} {cs:List Addr} {cvs:List V} (h:bS H cs cvs) {b:Addr} {o:HO} (e:H b=some o) (hn:∀ φ,o≠ .ext φ):b∉cs:=fun hb=>by
 obtain ⟨v,ev⟩:=h.mem b hb
 rw [e] at ev
 exact hn _ (Option.some.inj ev)
theorem bS.hide {H:Hp} {cs:List Addr} {cvs:List V} (h:bS H cs cvs) {b:Addr} {o:HO} (e:H b=some o) (hn:∀ φ,o≠ .ext φ):cp cs H b=some o:=by
 rw [cv (h.notin e hn)];exact e
theorem aq.hide {H H':Hp} (cs:List Addr) (s:aq (cp cs H) H'):aq H (ck cs H H'):=fun b o e=>by
 by_cases hb:b∈cs
 · rw [hZ hb];exact e
 · rw [bN hb];exact s _ _ (by rw [cv hb];exact e)
section
variable {P:Program} {w:World} {fs:List Addr} {H H':Hp} {h h':Heap} {cs:List Addr} {cvs:List V}
theorem zf (hc:bS H cs cvs) (ok:HOk P w H h):HOk P w (cp cs H) h:=fun b o e=>by
 by_cases hb:b∈cs
 · rw [fA hb] at e;cases e
 · rw [cv hb] at e
   exact (ok b o e).stay (fun c u _ q=>q) (fun c q=>hc.hide q fun φ z=>nomatch z) fun c xs q=>hc.hide q fun φ z=>nomatch z
theorem pj (hc:bS H cs cvs) (hfs:∀ b∈fs,H b=none) (ok:HOk P w H h) (u:Un fs [] (cp cs H) H' h h') (ok':HOk P w H' h'):Un fs [] H (ck cs H H') h h'∧HOk P w (ck cs H H') h':=by
 have obj:∀ c∈cs,∃ v o,H c=some (bO c v)∧h.get? c=some o∧h'.get? c=some o∧H' c=none:=fun c hm=>by
   obtain ⟨v,ev⟩:=hc.mem c hm
   obtain ⟨_,⟨o,eo⟩,_⟩:=(show aQ P w H h c (bO c v) from ok c _ ev)
   refine ⟨v,o,ev,eo,u.keep c o eo (fA hm) (fun z=>?_) (by simp),u.free c o eo (fA hm) (by simp)⟩
   rw [hfs c z] at ev;cases ev
 have nin:∀ b,H b=none→b∉cs:=fun b e hb=>by
   obtain ⟨v,ev⟩:=hc.mem b hb
   rw [e] at ev;cases ev
 have nin':∀ b o,H' b=some o→b∉cs:=fun b o e hb=>by
   obtain ⟨_,_,_,_,_,z⟩:=obj b hb
   rw [e] at z;cases z
 refine ⟨⟨fun b o e n hb hx=>u.keep b o e (by rw [cv (nin b n)];exact n) hb hx,fun b o e n hb hx=>u.slot b o e (by rw [cv (nin b n)];exact n) hb hx,
   fun b o e n hx=>by rw [bN (nin b n)];exact u.free b o e (by rw [cv (nin b n)];exact n) hx,u.there,fun b xs e=>?_,fun b o v e=>?_,fun b ps e=>?_⟩,fun b o e=>?_⟩
 · have hb:=hc.notin e fun φ z=>nomatch z
   rw [bN hb];exact u.tups b xs (by rw [cv hb];exact e)
 · have hb:=hc.notin e fun φ z=>nomatch z
   rw [bN hb];exact u.frzs b o v (by rw [cv hb];exact e)
 · have hb:=hc.notin e fun φ z=>nomatch z
   rw [bN hb];exact u.tbls b ps (by rw [cv hb];exact e)
 · by_cases hb:b∈cs
   · rw [hZ hb] at e
     obtain ⟨v,o',ev,e1,e2,_⟩:=obj b hb
     rw [e] at ev;cases ev
     obtain ⟨φ1,_,φ3⟩:=(show aQ P w H h b (bO b v) from ok b _ e)
     exact ⟨φ3 h h' φ1 fun q hq=>by rw [e1] at hq;cases hq;exact e2,⟨o',e2⟩,φ3⟩
   · rw [bN hb] at e
     exact (ok' b o e).stay (fun c u _ q=>q) (fun c q=>by rw [bN (nin' c _ q)];exact q) fun c xs q=>by rw [bN (nin' c _ q)];exact q
theorem CR.back {outer : List Env} {s s' : Shared} {Q : VK} {E : XK} {r : Result} (hc : bS H cs cvs) (hfs : ∀ b ∈ frs outer, H b = none) (ok : HOk P w H s.heap)
    (h : CR (CX1 P w) outer P w (cp cs H) s (fun v H' => Q v (ck cs H H')) (fun c a H' => E c a (ck cs H H')) r s') : CR (CX1 P w) outer P w H s Q E r s' := by
  cases r with
  | error e =>
    obtain ⟨a, C, d, H', rfl, F, q⟩ := h
    obtain ⟨u, k⟩ := pj hc hfs ok F.un F.hok
    have na : a ∉ cs := fun hb => by
      obtain ⟨v, ev⟩ := hc.mem a hb
      obtain ⟨_, ⟨o, eo⟩, _⟩ := (show aQ P w H s.heap a (bO a v) from ok a _ ev)
      rw [F.new] at eo; cases eo
    obtain ⟨oe, vs, a0, T, oT, ts, t1, t2, td, t3, t4, t5, t6, t7, t8, t9, t10, t11⟩ := F.tr
    have nT : T ∉ cs := fun hb => by
      obtain ⟨v, ev⟩ := hc.mem T hb
      obtain ⟨_, ⟨o, eo⟩, _⟩ := (show aQ P w H s.heap T (bO T v) from ok T _ ev)
      rw [t10] at eo; cases eo
    exact ⟨a, C, d, _, rfl, ⟨F.os, F.bare, u, k, F.new, by rw [bN na]; exact F.free, ⟨oe, vs, a0, T, oT, ts, t1, t2, td, t3, t4, t5, t6, t7, t8, t9, t10, by rw [bN nT]; exact t11⟩⟩, q⟩
  | ok fl =>
    cases fl with
    | ret u =>
      obtain ⟨v, H', os, bare, un, hok, rv, q⟩ := h
      obtain ⟨u', k⟩ := pj hc hfs ok un hok
      exact ⟨v, _, os, bare, u', k, rv, q⟩
    | next => exact False.elim h
    | brk => exact False.elim h
    | cont => exact False.elim h
end
structure eF (P:Program) (w:World) (K:W.Frag) (mg:Str→Option Value) (base:Heap) (k:Nat) (t:cA) (sp:Sp):Prop where
 run:∀ (A:Around) (outer:List Env) (s:Shared) (H:Hp) (f:Addr) (cs:List Addr) (us:List Value) (vs cvs:List V) (Q:VK) (E:XK),aW k A→gH P w K mg base A outer s H→de H f t cs cvs→aG vs us→vs.length=t.ps.length→
  sp (vs++cvs) (cp cs H) (fun v H'=>Q v (ck cs H H')) (fun c a H'=>E c a (ck cs H H'))→codeAny (model P w) A (.call (.ref f) ⟨us,[]⟩) (CR (CX1 P w) outer P w H s Q E) s
def dH (N:List Str) (vs cvs:List V):St:=vs.map some++(List.replicate (N.length - vs.length - cvs.length) none++cvs.map some)
def fO (P:Program) (w:World) (K:W.Frag) (mg:Str→Option Value) (base:Heap) (N:List Str) (qual:Str) (scope:Scope) (f c:Addr) (cl:List (Str×Addr)) (A:Around) (outer:List Env) (s:Shared) (H:Hp) (E:XK):Cx where
 prog:=P
 w:=w
 K:=K
 mg:=mg
 base:=base
 A:=A.deeper (W.envX qual scope s.heap.objs.size f (.ref c) cl)
 N:=N
 s₀:=s
 H₀:=H
 env:=W.envX qual scope s.heap.objs.size f (.ref c) cl
 outer:=outer
 stack:=W.envX qual scope s.heap.objs.size f (.ref c) cl::outer
 ex:=[]
 calm:=true
 fn:=fun _=>false
 pn:=[]
 xe:=fun e s'=>wpAny (model P w) (A.deeper (W.envX qual scope s.heap.objs.size f (.ref c) cl)) (leaving (W.envX qual scope s.heap.objs.size f (.ref c) cl) e) (fun _ s''=>CX1 P w outer H s E e s'') (fun e' s''=>CX1 P w outer H s E e' s'') s'
structure dQ (N ps ys:List Str) (sc:Scope):Prop where
 kind:sc.kind=.function
 co:sc.isCoroutine=false
 gen:sc.isGenerator=false
 nd:N.Nodup
 pre:N.take ps.length=ps
 suf:N.drop (N.length - ys.length)=ys
 le:ps.length+ys.length≤N.length
 par:∀ x∈ps,sc.names.lookup x=some .local
 nocell:∀ x∈sc.names,x.2≠ .cell
 fr:∀ x∈ys,sc.names.lookup x=some .free
 frs:∀ y∈sc.names,y.2=.free→y.1∈ys
theorem kI {ys : List Str} {cs : List Addr} (hl : cs.length = ys.length) (nd : ys.Nodup) : ∀ {i : Nat} {y : Str} {c : Addr}, ys[i]? = some y → cs[i]? = some c → (ys.zip cs).lookup y = some c := by
  induction ys generalizing cs with
  | nil => intro i y c e; cases e
  | cons a r ih =>
    intro i y c e1 e2
    cases cs with
    | nil => cases e2
    | cons b cs =>
      cases i with
      | zero => cases e1; cases e2; show (List.lookup _ ((_, _) :: _)) = _; rw [List.lookup_cons]; simp
      | succ i =>
        have hne : y ≠ a := fun e => (List.nodup_cons.mp nd).1 (e ▸ List.mem_of_getElem? (show r[i]? = some y from e1))
        show (List.lookup y ((a, b) :: r.zip cs)) = _
        rw [List.lookup_cons, show (y == a) = false from by simpa using hne]
        exact ih (by simpa using hl) (List.nodup_cons.mp nd).2 (show r[i]? = some y from e1) (show cs[i]? = some c from e2)
theorem eU {ys : List Str} {cs : List Addr} : ∀ {y : Str} {c : Addr}, (ys.zip cs).lookup y = some c → ∃ i : Nat, ys[i]? = some y ∧ cs[i]? = some c := by
  induction ys generalizing cs with
  | nil => intro y c e; cases e
  | cons a r ih =>
    intro y c e
    cases cs with
    | nil => cases e
    | cons b cs =>
      have e : (List.lookup y ((a, b) :: r.zip cs)) = some c := e
      rw [List.lookup_cons] at e
      by_cases hy : (y == a) = true
      · rw [hy] at e; cases e; exact ⟨0, by simpa using (eq_of_beq hy).symm, rfl⟩
      · rw [show (y == a) = false from by simpa using hy] at e
        obtain ⟨i, h1, h2⟩ := ih e
        exact ⟨i + 1, h1, h2⟩
theorem lA {ps : List Str} {us : List Value} (nd : ps.Nodup) : ∀ {i : Nat} {x : Str} {u : Value}, ps[i]? = some x → us[i]? = some u → (ps.zip us).reverse.lookup x = some u := by
  induction ps generalizing us with
  | nil => intro i x u e; cases e
  | cons a r ih =>
    intro i x u e1 e2
    cases us with
    | nil => cases e2
    | cons b us =>
      show (List.lookup x ((a, b) :: r.zip us).reverse) = _
      rw [List.reverse_cons, List.lookup_append]
      cases i with
      | zero =>
        cases e1; cases e2
        have : (r.zip us).reverse.lookup a = none := by
          rw [List.lookup_eq_none_iff]
          intro p hp
          have := (List.of_mem_zip (List.mem_reverse.mp hp)).1
          simp only [beq_eq_false_iff_ne, ne_eq, bne_iff_ne]
          intro e
          exact (List.nodup_cons.mp nd).1 (by rw [← e] at this; exact this)
        rw [this]; simp
      | succ i =>
        rw [ih (List.nodup_cons.mp nd).2 (show r[i]? = some x from e1) (show us[i]? = some u from e2)]; rfl
section
variable {P:Program} {w:World} {K:W.Frag} {mg:Str→Option Value} {base:Heap} {N ps ys:List Str} {qual:Str} {scope:Scope} {f c:Addr} {A:Around} {outer:List Env} {s:Shared} {H:Hp} {E:XK} {us:List Value} {vs cvs:List V} {cs:List Addr} {h1:Heap} {tk:Nat}
theorem yR (S:dQ N ps ys scope) (hd:A.handled=none) (e0:gH P w K mg base A outer s H) (ca:bS H cs cvs) (hcs:cs.Nodup) (hcl:cs.length=ys.length) (hl:vs.length=ps.length) (r:aG vs us)
   (hns:h1.Ns s.heap.objs.size (fun x=>(ps.zip us).reverse.lookup x)) (hk:∀ b o,s.heap.get? b=some o→h1.get? b=some o):
   Inv (fO P w K mg base N qual scope f c (ys.zip cs) A outer s (cp cs H) E) [] (dH N vs cvs) (cp cs H) { s with heap:=h1,toks:=tk }:=by
 have ndY:ys.Nodup:=by rw [← S.suf];exact S.nd.sublist (List.drop_sublist _ _)
 have ndP:ps.Nodup:=by rw [← S.pre];exact S.nd.sublist (List.take_sublist _ _)
 have lcv:cvs.length=ys.length:=by rw [← hcl];exact (Paired.length ca).symm
 have cellOf:∀ c∈cs,∃ v,h1.IsCell c v:=fun c hm=>by
   obtain ⟨v,ev⟩:=ca.mem c hm
   obtain ⟨⟨u,o,_,eo,hd⟩,_,_⟩:=(show aQ P w H s.heap c (bO c v) from e0.hok c _ ev)
   exact ⟨_,o,hk _ _ eo,hd⟩
 have memC:∀ x c,(ys.zip cs).lookup x=some c→c∈cs:=fun x c e=>by
   obtain ⟨i,_,e2⟩:=eU e
   exact List.mem_of_getElem? e2
 have noA:∀ b:Addr,b∉(fO P w K mg base N qual scope f c (ys.zip cs) A outer s (cp cs H) E).ex:=fun b z=>absurd (show b∈([]:List Addr) from z) (by simp)
 have hid:∀ b,H b=none→cp cs H b=none:=fun b e=>by
   by_cases hb:b∈cs
   · exact fA hb
   · rw [cv hb];exact e
 refine ⟨⟨e0.mod,S.kind,rfl,rfl,Nat.le_refl _,fun y z c h1 h2=>?_,fun y hy=>?_,fun y c hf _=>?_,fun _=>hd,Around.frames_deeper e0.frames,.inr ⟨rfl,rfl⟩,fun b z=>absurd z (noA b),fun b o e=>⟨(e0.bs b o e).1,hid b (e0.bs b o e).2⟩,e0.bsz,fun b _ _=>noA b,fun b z=>absurd z (noA b),e0.funs,fun b hb=>hid b (e0.frf b hb)⟩,
   rfl,e0.bare,Un.kept hk,⟨_,hns,fun i y v q1 q2 q3=>?_⟩,fun y c h=>cellOf c (memC y c h),hid _ (e0.hok.fresh (Nat.le_refl _)),fun y c h=>fA (memC y c h),fun p hp=>absurd (show p∈([]:List (Addr×Obj)) from hp) (by simp),(zf ca e0.hok).kept hk,?_⟩
 · obtain ⟨i,e1,e2⟩:=eU (show (ys.zip cs).lookup y=some c from h1)
   obtain ⟨j,e3,e4⟩:=eU (show (ys.zip cs).lookup z=some c from h2)
   have:i=j:=by
     obtain ⟨a1,b1⟩:=List.getElem?_eq_some_iff.mp e2
     obtain ⟨a2,b2⟩:=List.getElem?_eq_some_iff.mp e4
     exact (List.getElem_inj hcs).mp (b1.trans b2.symm)
   subst this
   rw [e1] at e3;exact Option.some.inj e3
 · have hy:scope.names.lookup y=some .cell∨scope.names.lookup y=some .free:=hy
   rcases hy with hy | hy
   · exact absurd rfl (S.nocell _ (PySem.mem_of_lookup hy))
   · obtain ⟨i,hi,e⟩:=List.mem_iff_getElem.mp (S.frs _ (PySem.mem_of_lookup hy) rfl)
     have hi2:i<cs.length:=by omega
     exact ⟨cs[i],kI hcl ndY (List.getElem?_eq_some_iff.mpr ⟨hi,e⟩) (List.getElem?_eq_getElem hi2)⟩
 · exact absurd (show false=true from hf) Bool.false_ne_true
 · unfold dH at q2
   by_cases hi:i<vs.length
   · rw [List.getElem?_append_left (by simpa using hi),List.getElem?_map] at q2
     have ha:vs[i]?=some v:=by
       cases e:vs[i]? with
       | none=>rw [e] at q2;cases q2
       | some a=>rw [e] at q2;cases q2;rfl
     obtain ⟨u,hu,rv⟩:=r.get ha
     have hp:ps[i]?=some y:=by
       rw [← S.pre,List.getElem?_take_of_lt (by omega)];exact q1
     exact ⟨u,rv,.inl ⟨S.par y (List.mem_of_getElem? hp),lA ndP hp hu⟩⟩
   · rw [List.getElem?_append_right (by simpa using hi),List.length_map] at q2
     by_cases hj:i - vs.length<N.length - vs.length - cvs.length
     · rw [List.getElem?_append_left (by simpa using hj),List.getElem?_replicate] at q2
       split at q2 <;> cases q2
     · rw [List.getElem?_append_right (by simpa using hj),List.length_replicate,List.getElem?_map] at q2
       have ha:cvs[i - vs.length - (N.length - vs.length - cvs.length)]?=some v:=by
        cases e:cvs[i - vs.length - (N.length - vs.length - cvs.length)]? with
        | none=>rw [e] at q2;cases q2
        | some a=>rw [e] at q2;cases q2;rfl
       have hle:=S.le
       have hiN:i<N.length:=(List.getElem?_eq_some_iff.mp q1).1
       have hx:i - vs.length - (N.length - vs.length - cvs.length)=i - (N.length - ys.length):=by omega
       rw [hx] at ha
       have hy:ys[i - (N.length - ys.length)]?=some y:=by
        have e1:N.drop (N.length - ys.length)=ys:=S.suf
        have e2:(N.drop (N.length - ys.length))[i - (N.length - ys.length)]?=some y:=by
         rw [List.getElem?_drop]
         rw [show N.length - ys.length+(i - (N.length - ys.length))=i by omega];exact q1
        rw [e1] at e2;exact e2
       obtain ⟨c,ec,hc⟩:=ca.get ha
       obtain ⟨⟨u,o,ru,eo,hdo⟩,_,_⟩:=(show aQ P w H s.heap c (bO c v) from e0.hok c _ hc)
       exact ⟨u,ru,.inr ⟨.inr (S.fr y (List.mem_of_getElem? hy)),c,kI hcl ndY hy ec,o,hk _ _ eo,hdo⟩⟩
 · unfold dH
   show _=N.length
   have:=S.le
   rw [List.length_append,List.length_append,List.length_map,List.length_map,List.length_replicate]
   omega
end
section
variable {P:Program} {w:World} {K:W.Frag} {mg:Str→Option Value} {base:Heap} {k:Nat} {t:cA} {N:List Str} {sp:Sp}
theorem gf {body : Expr} (hb : t.body = .expr body) (S : dQ N t.ps t.ys t.scope)
  (hbody : ∀ (f c : Addr) (cl : List (Str × Addr)) (A : Around) (outer : List Env) (s : Shared) (H : Hp) (vs cvs : List V) (Q : VK) (E : XK), aW k (A.deeper (W.envX t.qual t.scope s.heap.objs.size f (.ref c) cl)) → vs.length = t.ps.length → cvs.length = t.ys.length → sp (vs ++ cvs) H Q E →
   ∃ te, PE (fO P w K mg base N t.qual t.scope f c cl A outer s H E) body te ∧ te (dH N vs cvs) H Q) : eF P w K mg base (k + 1) t sp := by
 refine ⟨fun A outer s H f cs us vs cvs Q E hr e0 ca r hl hsp => ?_⟩
 obtain ⟨c, hf, hcc⟩ := ca.ex
 have KX : K.In s.heap := e0.mod.kin.keeps fun b o e => (e0.bs b o e).1
 have lim : s.heap.NoLimit := e0.mod.nolimit.keeps fun b o e => (e0.bs b o e).1
 obtain ⟨⟨od, fd, sl, ho, h1, h2, h3, h4, h5, h6, h7, h8, h9, h10⟩, _, _⟩ := (show aQ P w H s.heap f (dj f t cs c) from e0.hok f _ hf)
 obtain ⟨⟨o, vs', tk, hco, hdo, hv⟩, _, _⟩ := (show aQ P w H s.heap c (cU c t.qual) from e0.hok c _ hcc)
 have hcd : s.heap.CodeRec fd.code fd.qualname := ⟨c, o, vs', tk, h6, hco, hdo, by rw [h1]; exact hv⟩
 refine codeAny_mono (W.kla_callFunE (R := CR (CX1 P w) outer P w (cp cs H) s (fun v H' => Q v (ck cs H H')) (fun c a H' => E c a (ck cs H H'))) hr.depth ho rfl (by rw [h3]; exact S.co) (by rw [h3]; exact S.gen) (h2.trans hb) hcd ?_) fun r s' h => CR.back ca.cells e0.frf e0.hok h
 rw [h8 us (by rw [← r.length]; exact hl), h3, h4, h5, h1, h6, h7]
 refine wpAny_pure (wpAny_newFunctionEnv S.nocell (fun y hy => S.par y.1 (List.of_mem_zip hy).1) (fun h' hns hsb => ⟨lim.fresh _ hsb, ?_⟩) S.kind)
 have hk : ∀ b o, s.heap.get? b = some o → h'.get? b = some o := fun b o e => hsb.extBut b o (Nat.ne_of_lt (Heap.lt_size e)) (Heap.get?_push_of_some _ e)
 have lcv : cvs.length = t.ys.length := by rw [← h10]; exact (Paired.length ca.cells).symm
 obtain ⟨te, ht, hq⟩ := hbody f c (t.ys.zip cs) A outer s (cp cs H) vs cvs _ _ (hr.deeper _) hl lcv hsp
 have I := yR (tk := s.toks + (t.ps.zip us).length) (qual := t.qual) (f := f) (c := c) (E := fun c a H' => E c a (ck cs H H')) S hr.hd e0 ca.cells h9 h10 hl r hns hk
 show codeAny _ _ (.expr body (W.envX t.qual t.scope s.heap.objs.size f (.ref c) (t.ys.zip cs))) _ _
 refine W.kla_codeExpr ?_
 refine wpAny_mono (ht [] _ (dH N vs cvs) _ _ I hq) (fun v s' hs => ?_) fun e s' hs => hs
 obtain ⟨x, H', J, rv, q⟩ := hs
 exact ⟨x, H', J.os, J.bare, J.base, J.hok, rv, q⟩
end
def BM (mg:Str→Option Value) (h:Heap):Prop:=∃ bm ob,mg "__builtins__" =some (.ref bm)∧bm≠builtinsNs∧h.get? bm=some ob∧ob.cls=.type "module" ∧ob.dict=some builtinsNs∧ob.data=.plain
section
variable {X:Cx} {pins:List (Addr×Obj)} {σ:St} {H:Hp} {s:Shared} {P c:Addr} {ps:Array Value} {t:cA} {cs:List Addr} {h':Heap} {tk:Nat} {fd:FuncData}
theorem wa {more:Array Value} (I:Inv X pins σ H s) (hP:H P=some (.tbl ps)) (hx:Heap.ExtBut P s.heap h') (hge:s.heap.objs.size≤c) (hlt:c<h'.objs.size) (hrec:h'.CodeRec (.ref c) t.qual)
   (htb:h'.get? P=some (W.tabObj (ps++more))) (hfd:mO t cs c fd):
   Inv X pins σ (upd (upd (upd H P (.tbl (ps++more))) c (cU c t.qual)) h'.objs.size (dj h'.objs.size t cs c)) { s with heap:=h'.push { cls:=.type "function",data:=.func fd },toks:=tk }:=by
 have hcn:H c=none:=I.hok.fresh hge
 have hfn:H h'.objs.size=none:=I.hok.fresh (Nat.le_of_lt (Nat.lt_of_le_of_lt hge hlt))
 have ncP:c≠P:=(ar hP hcn).symm
 have nfP:h'.objs.size≠P:=(ar hP hfn).symm
 have ncf:c≠h'.objs.size:=Nat.ne_of_lt hlt
 have old:∀ b o,s.heap.get? b=some o→b≠c∧b≠h'.objs.size:=fun b o e=>⟨Nat.ne_of_lt (Nat.lt_of_lt_of_le (Heap.lt_size e) hge),Nat.ne_of_lt (Nat.lt_of_lt_of_le (Heap.lt_size e) (Nat.le_of_lt (Nat.lt_of_le_of_lt hge hlt)))⟩
 have keepP:∀ b o,b≠P→s.heap.get? b=some o→(h'.push { cls:=.type "function",data:=.func fd }).get? b=some o:=fun b o hb e=>Heap.get?_push_of_some _ (hx b o hb e)
 have neP:∀ b,H b=none→b≠P:=fun b e z=>by rw [z,hP] at e;cases e
 have obj:∀ b o,H b=some o→∃ u,s.heap.get? b=some u:=fun b o e=>vm (I.hok b o e)
 have same:∀ b o,H b=some o→b≠P→(upd (upd (upd H P (.tbl (ps++more))) c (cU c t.qual)) h'.objs.size (dj h'.objs.size t cs c)) b=some o:=fun b o e hb=>by
   rw [ak (ar e hfn),ak (ar e hcn),ak hb];exact e
 refine I.un ⟨fun b o e n hb hx'=>keepP b o (neP b n) e,fun b o e n hb hx'=>⟨o.slots,keepP b o (neP b n) e⟩,fun b o e n hx'=>?_,fun b o e hx'=>?_,fun b xs e=>same b _ e (cY e hP (fun z=>nomatch z)),fun b o u e=>same b _ e (cY e hP (fun z=>nomatch z)),fun b qs e=>?_⟩ fun b o e=>?_
 · rw [ak (old b o e).2,ak (old b o e).1,ak (neP b n)];exact n
 · by_cases hb:b=P
   · subst hb;exact ⟨_,Heap.get?_push_of_some _ htb⟩
   · exact ⟨o,keepP b o hb e⟩
 · by_cases hb:b=P
   · subst hb
     rw [hP] at e;cases e
     exact ⟨more,by rw [ak nfP.symm,ak ncP.symm,af]⟩
   · exact ⟨#[],by rw [same b _ e hb];simp⟩
 · by_cases hf:b=h'.objs.size
   · subst hf
     rw [af] at e;cases e
     refine ⟨⟨_,fd,_,Heap.get?_push_size _ rfl,hfd⟩,⟨_,Heap.get?_push_size _ rfl⟩,?_⟩
     rintro h1 h2 ⟨od,fd',sl,e1,e2⟩ k
     exact ⟨od,fd',sl,k _ e1,e2⟩
   · rw [ak hf] at e
     by_cases hc:b=c
     · subst hc
       rw [af] at e;cases e
       obtain ⟨c2,oc,vs,tq,e0,e1,e2,e3⟩:=hrec
       cases e0
       refine ⟨⟨oc,vs,tq,Heap.get?_push_of_some _ e1,e2,e3⟩,⟨_,Heap.get?_push_of_some _ e1⟩,?_⟩
       rintro h1 h2 ⟨o,vs,tk,a1,a2,a3⟩ k
       exact ⟨o,vs,tk,k _ a1,a2,a3⟩
     · rw [ak hc] at e
       by_cases hp:b=P
       · subst hp
         rw [af] at e;cases e
         exact Heap.get?_push_of_some _ htb
       · rw [ak hp] at e
         refine (I.hok b o e).stay (fun a u ha q=>keepP a u ?_ q) (fun a q=>same a _ q (cY q hP (fun z=>nomatch z))) fun a xs q=>same a _ q (cY q hP (fun z=>nomatch z))
         rcases ha with rfl | ha
         · exact hp
         · exact cY ha hP (fun z=>nomatch z)
theorem uw (I:Inv X pins σ H s) (hk:∀ b o,s.heap.get? b=some o→h'.get? b=some o) (hsz:s.heap.objs.size≤h'.objs.size) (hfd:mO t cs c fd):
  Inv X pins σ (upd H h'.objs.size (dj h'.objs.size t cs c)) { s with heap:=h'.push { cls:=.type "function",data:=.func fd },toks:=tk }:=by
 refine I.laid (a:=h'.objs.size) (o:=dj h'.objs.size t cs c) (fun b u e=>Heap.get?_push_of_some _ (hk b u e)) hsz ⟨⟨_,fd,_,Heap.get?_push_size _ rfl,hfd⟩,⟨_,Heap.get?_push_size _ rfl⟩,?_⟩
 rintro h1 h2 ⟨od,fd',sl,e1,e2⟩ k
 exact ⟨od,fd',sl,k _ e1,e2⟩
end
def lJ (P : Addr) (pos : Pos) (t : cA) (cs : List Addr) : TE := fun _ H Q => ∃ ps, H P = some (.tbl ps) ∧ TriplesOk ps.toList ∧
  ((codeAmong pos ps.toList = none ∧ ∀ c f, H c = none → H f = none → c ≠ f → Q (.ref f) (upd (upd (upd H P (.tbl (ps ++ #[rawInt pos.line, rawInt pos.col, .ref c]))) c (cU c t.qual)) f (dj f t cs c))) ∨
   ∃ c, codeAmong pos ps.toList = some (.ref c) ∧ ∀ f, H f = none → Q (.ref f) (upd H f (dj f t cs c)))
section
variable {X:Cx} {c0 P:Addr} {params:Arguments} {scope:Scope} {pos:Pos} {t:cA} {cs:List Addr}
theorem yt {pins:List (Addr×Obj)} {σ:St} {H:Hp} {s:Shared} {ps:Array Value} (I:Inv X pins σ H s) (hP:H P=some (.tbl ps)) (B:BM X.mg X.base):
   s.heap.get? P=some (W.tabObj ps)∧s.heap.Ns mainGlobals X.mg∧mainGlobals≠P∧s.heap.BuiltinsAt X.mg P:=by
 have hPo:s.heap.get? P=some (W.tabObj ps):=I.hok P _ hP
 have hg:s.heap.Ns mainGlobals X.mg:=I.mod.glob.keeps I.bk
 have hgP:mainGlobals≠P:=fun q=>by
   obtain ⟨o,es,ep,e,hd,_⟩:=hg
   rw [q,hPo] at e;cases e;cases hd
 obtain ⟨bm,ob,b1,b2,b3,b4,b5,b6⟩:=B
 have b3':=I.bk _ _ b3
 refine ⟨hPo,hg,hgP,bm,ob,b1,b2,fun q=>?_,fun q=>?_,b3',b4,b5,b6⟩
 · obtain ⟨o,es,ep,e,hd,_⟩:=hg
   rw [q,e] at b3';cases b3';rw [hd] at b6;cases b6
 · rw [q,hPo] at b3';cases b3';cases b4
theorem kP {body:Expr} (B:BM X.mg X.base) (C:W.CodeHd X.base c0 P) (hcode:X.env.code=.ref c0) (hcl:closureFor scope X.env=pure (t.ys.zip cs)) (nd:cs.Nodup) (hl:cs.length=t.ys.length)
   (hq:X.env.qual++ "<lambda>" =t.qual) (hb:t.body=.expr body) (hs:t.scope=scope)
   (hbind:∀ (cl:List (Str×Addr)) (pm cdv ct:Value) (us:List Value),us.length=t.ps.length→bindArgs (W.kla_fn "<lambda>" t.qual params body scope cl pm cdv ct) ⟨us,[]⟩=pure (t.ps.zip us))
   (hdef:defaultsOf params X.env=([],[]):=by rfl):QE X (.Lambda params body scope pos) (lJ P pos t cs):=⟨fun pins s σ H Q I h=>by
 obtain ⟨ps,hP,ht,h⟩:=h
 obtain ⟨hPo,hg,hgP,hB⟩:=yt I hP B
 have hfd:∀ (pm ct:Value) (c:Addr),mO t cs c (W.kla_fn "<lambda>" t.qual params body scope (t.ys.zip cs) pm (.ref c) ct):=fun pm ct c=>⟨rfl,hb.symm,hs.symm,rfl,rfl,rfl,rfl,hbind _ _ _ _,nd,hl⟩
 refine W.kla_eval hdef ?_
 rw [hq]
 rcases h with ⟨hn,q⟩ | ⟨c,hf,q⟩
 · refine W.kla_makeFunction hcl I.ok.glob hg hcode (C.keeps I.bk) hPo ht hn hgP hB fun c ctv h' tk hx hge hlt hrec htb=>?_
   exact ⟨.ref h'.objs.size,_,wa I hP hx hge hlt hrec htb (hfd _ _ _),rfl,q c h'.objs.size (I.hok.fresh hge) (I.hok.fresh (Nat.le_of_lt (Nat.lt_of_le_of_lt hge hlt))) (Nat.ne_of_lt hlt)⟩
 · refine W.kla_makeFunctionHit hcl I.ok.glob hg hcode (C.keeps I.bk) hPo ht hf hB fun ctv h' tk hk hsz=>?_
   exact ⟨.ref h'.objs.size,_,uw I hk hsz (hfd _ _ _),rfl,q h'.objs.size (I.hok.fresh hsz)⟩⟩
end
section
variable {X:Cx} {k:Nat} {E:St→XK} {x:Str} {p pos:Pos} {e:Expr} {es:List Expr} {ta:TE}
abbrev la:=List (cA×Sp)
def wY (ks:la) (f:Addr) (vs:List V) (H:Hp) (Q:VK) (E:XK):Prop:=∃ ts∈ks,∃ cs cvs,de H f ts.1 cs cvs∧vs.length=ts.1.ps.length∧ts.2 (vs++cvs) (cp cs H) (fun v H'=>Q v (ck cs H H')) (fun c a H'=>E c a (ck cs H H'))
def iS (ks:la) (E:St→XK) (ta:TE) (t:TA):TE:=fun σ H Q=>ta σ H fun x H1=>∃ f,x=.ref f∧(∃ ts∈ks,∃ cs cvs,de H1 f ts.1 cs cvs)∧t σ H1 fun vs H2=>wY ks f vs H2 Q (E σ)
theorem sG {P:Program} {w:World} {H:Hp} {h:Heap} {f:Addr} {t:cA} {cs:List Addr} {cvs:List V} (ok:HOk P w H h) (c:de H f t cs cvs):W.FnAt f h:=by
 obtain ⟨c',hf,_⟩:=c.ex
 obtain ⟨⟨od,fd,sl,ho,_⟩,_,_⟩:=(show aQ P w H h f (dj f t cs c') from ok f _ hf)
 exact ⟨_,_,_,_,ho⟩
def pO (P:Program) (w:World) (K:W.Frag) (mg:Str→Option Value) (base:Heap) (k:Nat) (ks:la):Prop:=∀ ts∈ks,eF P w K mg base k ts.1 ts.2
theorem kq {ks : la} {t : TA} (hk : pO X.prog X.w X.K X.mg X.base k ks) (hr : aW k X.A) (hx : dM (CX1 X.prog X.w) X E) (hg : QE X (.Name x p) ta) (ha : QA X (e :: es) t) (hs : aX (e :: es) = true := by rfl) :
    QE X (.Call (.Name x p) (e :: es) [] pos) (iS ks E ta t) := ⟨fun pins s σ H Q I h => by
  have h' : (bA e && aX es) = true := hs
  refine wpAny_Call_Name_kw (thn (hg.out pins s σ H _ I h) fun u s1 ⟨y, H1, I1, ry, f, ey, ⟨ts, hts, cs, cvs, ca⟩, q⟩ => ?_)
  subst ey
  obtain rfl : u = Value.ref f := ry
  refine W.callWith_F (sG I1.hok ca) (thn (ha.out pos pins s1 σ H1 _ I1 q) fun us s2 ⟨vs, H2, I2, rv, ts2, hm2, cs2, cvs2, ca2, hl, hsp⟩ => ⟨sG I2.hok ca2, ?_⟩)
    (aO (Bool.and_eq_true_iff.mp h').1 es X.env) (bD (Bool.and_eq_true_iff.mp h').2)
  refine wpAny_call (codeAny_mono ((hk ts2 hm2).run X.A X.stack s2 H2 f cs2 us vs cvs2 Q (E σ) hr I2.env0 ca2 rv hl hsp) fun r s' hq => ?_)
  cases r with
  | error e => exact hx pins σ H2 s2 e s' I2 hq
  | ok fl =>
    cases fl with
    | ret u => exact I2.after hq
    | next => exact False.elim hq
    | brk => exact False.elim hq
    | cont => exact False.elim hq⟩
end
structure kJ where
 nx:St→Hp→Prop
 rt:St→VK
abbrev TSM:=kJ→St→Hp→Prop
def SPM (X:Cx) (pins:List (Addr×Obj)) (D:kJ) (f:Flow) (s':Shared):Prop:=
 match f with
 | .next=>∃ σ' H',Inv X pins σ' H' s'∧D.nx σ' H'
 | .ret u=>∃ v σ' H',Inv X pins σ' H' s'∧aE v u∧D.rt σ' v H'
 | _=>False
structure QM (X:Cx) (st:Stmt) (t:TSM):Prop where
 out:∀ (pins:List (Addr×Obj)) (s:Shared) (σ:St) (H:Hp) (D:kJ),Inv X pins σ H s→t D σ H→wpAny (model X.prog X.w) X.A (exec st X.env) (SPM X pins D) X.xe s
structure QMs (X:Cx) (st:List Stmt) (t:TSM):Prop where
 out:∀ (pins:List (Addr×Obj)) (s:Shared) (σ:St) (H:Hp) (D:kJ),Inv X pins σ H s→t D σ H→wpAny (model X.prog X.w) X.A (execs st X.env) (SPM X pins D) X.xe s
def kh:TSM:=fun D σ H=>D.nx σ H
def iC (t u:TSM):TSM:=fun D σ H=>t { D with nx:=fun σ' H'=>u D σ' H' } σ H
def mH (t:TS):TSM:=fun D σ H=>t { nx:=D.nx,rt:=fun _ _=>False } σ H
def im (te:TE):TSM:=fun D σ H=>te σ H (D.rt σ)
def nI (c:TT) (t u:TSM):TSM:=fun D σ H=>c σ H fun b H1=>Sel b (t D σ H1) (u D σ H1)
section
variable {X:Cx} {st:Stmt} {sts l m:List Stmt} {t u:TSM} {tS:TS} {e c:Expr} {te:TE} {tc:TT} {pos:Pos}
theorem nM (h:QS X st tS):QM X st (mH tS):=⟨fun pins s σ H D I hq=>thn (h.out pins s σ H _ I hq) fun f s1 q=>by
 cases f with
 | next=>exact q
 | ret v=>obtain ⟨_,_,_,_,_,z⟩:=q;exact z.elim
 | brk=>obtain ⟨_,_,_,z⟩:=q;exact z.elim
 | cont=>obtain ⟨_,_,_,z⟩:=q;exact z.elim⟩
theorem gD (h:QE X e te):QM X (.Return (some e) pos) (im te):=⟨fun pins s σ H D I hq=>
 wpAny_Return_some (thn (h.out pins s σ H _ I hq) fun v s1 ⟨x,H1,I1,r1,q1⟩=>⟨x,σ,H1,I1,r1,q1⟩)⟩
theorem rn (hc:QT X c tc) (ha:QMs X l t) (hb:QMs X m u):QM X (.If c l m pos) (nI tc t u):=⟨fun pins s σ H D I h=>by
 refine wpAny_If (thn (hc.out pins s σ H _ I h) fun d s1 ⟨H1,I1,q1⟩=>?_)
 have q1:=dD q1
 cases d with
 | true=>exact ha.out pins s1 σ H1 D I1 q1
 | false=>exact hb.out pins s1 σ H1 D I1 q1⟩
theorem mz:QMs X [] kh:=⟨fun _ _ σ H _ I h=>wpAny_execs_nil ⟨σ,H,I,h⟩⟩
theorem fy (h1 : QM X st t) (h2 : QMs X sts u) : QMs X (st :: sts) (iC t u) := ⟨fun pins s σ H D I h => by
  refine wpAny_execs_cons (thn (h1.out pins s σ H _ I h) fun f s1 q => ?_)
  cases f with
  | next =>
    obtain ⟨σ', H', I', q⟩ := q
    exact h2.out pins s1 σ' H' D I' q
  | ret v => exact q
  | brk => exact q
  | cont => exact q⟩
theorem gy (h1:QM X st t):QMs X [st] t:=⟨fun pins s σ H D I h=>by
 refine wpAny_execs_cons (thn (h1.out pins s σ H D I h) fun f s1 q=>?_)
 cases f with
 | next=>exact wpAny_execs_nil q
 | ret v=>exact q
 | brk=>exact q
 | cont=>exact q⟩
end
def cE : List (Nat × Addr) → St → Hp → Hp
  | [], _, H => H
  | (i, c) :: r, σ, H => match σ[i]? with
    | some (some v) => cE r σ (upd H c (bO c v))
    | _ => cE r σ H
theorem jx {P : Program} {w : World} {fs : List Addr} {H : Hp} {h h' : Heap} {σ : St} : ∀ (cs : List (Nat × Addr)) (H' : Hp), (cs.map (·.2)).Nodup → (∀ p ∈ cs, H' p.2 = none ∧ h.objs.size ≤ p.2 ∧ ∀ v, σ[p.1]? = some (some v) → ∃ u o, aE v u ∧ h'.get? p.2 = some o ∧ o.data = .cell (some u)) →
    Un fs [] H H' h h' → HOk P w H' h' → Un fs [] H (cE cs σ H') h h' ∧ HOk P w (cE cs σ H') h'
  | [], H', _, _, u, ok => ⟨u, ok⟩
  | (i, c) :: r, H', nd, hc, u, ok => by
    unfold cE
    have ndr := (List.nodup_cons.mp nd).2
    have hcr : ∀ p ∈ r, H' p.2 = none ∧ h.objs.size ≤ p.2 ∧ ∀ v, σ[p.1]? = some (some v) → ∃ u o, aE v u ∧ h'.get? p.2 = some o ∧ o.data = .cell (some u) := fun p hp => hc p (List.mem_cons_of_mem _ hp)
    split
    · rename_i v hv
      obtain ⟨hn, hge, hcell⟩ := hc (i, c) List.mem_cons_self
      have hn : H' c = none := hn
      have hge : h.objs.size ≤ c := hge
      obtain ⟨uv, o, ru, eo, hd⟩ := hcell v hv
      have eo : h'.get? c = some o := eo
      refine jx r (upd H' c (bO c v)) ndr (fun p hp => ⟨?_, (hcr p hp).2⟩) ⟨u.keep, u.slot, fun b ob e n hx => ?_, u.there, fun b xs e => ?_, fun b ob z e => ?_, fun b ps e => ?_⟩ fun b ob e => ?_
      · have : p.2 ≠ c := fun z => (List.nodup_cons.mp nd).1 (by rw [← z]; exact List.mem_map.mpr ⟨p, hp, rfl⟩)
        rw [ak this]; exact (hcr p hp).1
      · rw [ak (Nat.ne_of_lt (Nat.lt_of_lt_of_le (Heap.lt_size e) hge))]; exact u.free b ob e n hx
      · have z := u.tups b xs e; rw [ak (ar z hn)]; exact z
      · have z := u.frzs b ob _ e; rw [ak (ar z hn)]; exact z
      · obtain ⟨more, z⟩ := u.tbls b ps e; exact ⟨more, by rw [ak (ar z hn)]; exact z⟩
      · by_cases hb : b = c
        · subst hb
          rw [af] at e; cases e
          refine ⟨⟨uv, o, ru, eo, hd⟩, ⟨o, eo⟩, ?_⟩
          rintro h1 h2 ⟨u', o', r', e', d'⟩ k
          exact ⟨u', o', r', k _ e', d'⟩
        · rw [ak hb] at e
          exact (ok b ob e).stay (fun a q _ z => z) (fun a q => by rw [ak (ar q hn)]; exact q) fun a xs q => by rw [ak (ar q hn)]; exact q
    · exact jx r H' ndr hcr u ok
theorem Fun.okM {P : Program} {w : World} {K : W.Frag} {mg : Str → Option Value} {base : Heap} {x qual : Str} {st : Stmt} {f c0 : Addr} {fd : FuncData} {N ps : List Str} {k : Nat} {sp : Sp} {caps : Nat → List (Nat × Addr)} (F : Fun K x qual st f fd) (hcd : fd.code = .ref c0) (S : ay N ps (aj st)) (len : ∀ vs H Q E, sp vs H Q E → vs.length = ps.length)
    (hcaps : ∀ (L : Nat) (p : Nat × Addr), p ∈ caps L → ∃ y, N[p.1]? = some y ∧ (aj st).names.lookup y = some .cell ∧ (cellsFrom (L + 1) (aj st).names []).lookup y = some p.2) (hnd : ∀ L, ((caps L).map (·.2)).Nodup)
    (hbody : ∀ (A : Around) (outer : List Env) (s : Shared) (H : Hp) (vs : List V) (Q : VK) (E : XK), aW k (A.deeper (envOfC qual (aj st) s.heap.objs.size f (.ref c0))) → sp vs H Q E →
      ∃ t, QMs (eC (CX1 P w) P w K mg base N qual (aj st) f (.ref c0) A outer s H E) (aT st) t ∧ t { nx := fun σ H' => (∀ p ∈ caps s.heap.objs.size, H' p.2 = none) → Q .non (cE (caps s.heap.objs.size) σ H'), rt := fun σ v H' => (∀ p ∈ caps s.heap.objs.size, H' p.2 = none) → Q v (cE (caps s.heap.objs.size) σ H') } (bX N vs) H) : aN P w K mg base (CX1 P w) (k + 1) f fd ps sp := by
  obtain ⟨oc, od, kV, doc, pm, an, cdv, ct, osl, rfl, lk, hcd'⟩ := F.ex
  obtain rfl : cdv = .ref c0 := hcd
  refine ⟨len, fun A outer s H args us vs Q E hr e0 hb r hsp => ?_⟩
  have hl := len _ _ _ _ hsp
  have KX : K.In s.heap := e0.mod.kin.keeps fun b o e => (e0.bs b o e).1
  have lim : s.heap.NoLimit := e0.mod.nolimit.keeps fun b o e => (e0.bs b o e).1
  have hkind : ∀ y ∈ ps.zip us, (aj st).names.lookup y.1 = some .local ∨ ((aj st).names.lookup y.1 = some .cell ∧ ((cellsFrom (s.heap.objs.size + 1) (aj st).names []).lookup y.1).isSome = true) := fun ⟨n, v⟩ hy => by
    rcases S.par n (List.of_mem_zip hy).1 with q | q
    · exact .inl q
    · exact .inr ⟨q, W.cellsFrom_some _ _ _ (.inl q)⟩
  refine codeAny_call_function hr.depth (KX _ _ lk) rfl S.co S.gen rfl (W.codeRec_of KX hcd') (hb _ _ _ _ ?_)
  refine wpAny_newFunctionEnv_cells S.kind hkind fun env he s1 x => ?_
  subst he
  refine ⟨lim.keeps x.toInCall.keep, codeAny_func ?_⟩
  obtain ⟨t, ht, hq⟩ := hbody A outer s H vs Q E (hr.deeper _) hsp
  have I : Inv (eC (CX1 P w) P w K mg base N qual (aj st) f (.ref c0) A outer s H E) [] (bX N vs) H s1 := mi S hr.hd e0 hl r x
  refine wpAny_mono (ht.out [] s1 (bX N vs) H _ I hq) (fun fl s' hs => ?_) fun e s' hs => hs
  have fin : ∀ {σ' : St} {H' : Hp} {v : V} {u : Value}, Inv (eC (CX1 P w) P w K mg base N qual (aj st) f (.ref c0) A outer s H E) [] σ' H' s' → aE v u → ((∀ p ∈ caps s.heap.objs.size, H' p.2 = none) → Q v (cE (caps s.heap.objs.size) σ' H')) → CE outer P w H s Q u s' :=
    fun {σ' H' v u} J rv q => by
      have free : ∀ p ∈ caps s.heap.objs.size, H' p.2 = none := fun p hp => by
        obtain ⟨y, _, _, hc⟩ := hcaps _ p hp
        exact J.freeC y p.2 hc
      have hcond : ∀ p ∈ caps s.heap.objs.size, H' p.2 = none ∧ s.heap.objs.size ≤ p.2 ∧ ∀ v, σ'[p.1]? = some (some v) → ∃ u o, aE v u ∧ s'.heap.get? p.2 = some o ∧ o.data = .cell (some u) := fun p hp => by
        obtain ⟨y, hy, hk, hc⟩ := hcaps _ p hp
        refine ⟨free p hp, J.ok.cab y p.2 rfl hc, fun v hv => ?_⟩
        obtain ⟨m, _, hloc⟩ := J.loc
        obtain ⟨u', r', lk'⟩ := hloc p.1 y v hy hv (.inr (.inl hk))
        rcases lk' with ⟨z, _⟩ | ⟨_, c, ec, o, eo, hd⟩
        · have z : (aj st).names.lookup y = some .local := z
          rw [hk] at z; cases z
        · have ec : (cellsFrom (s.heap.objs.size + 1) (aj st).names []).lookup y = some c := ec
          rw [hc] at ec; cases ec
          exact ⟨u', o, r', eo, hd⟩
      obtain ⟨un, ok⟩ := jx (P := P) (w := w) (σ := σ') (caps s.heap.objs.size) H' (hnd _) hcond J.base J.hok
      exact ⟨v, _, J.os, J.bare, un, ok, rv, q free⟩
  cases fl with
  | ret u =>
    obtain ⟨v, σ', H', J, rv, q⟩ := hs
    exact fin J rv q
  | next =>
    obtain ⟨σ', H', J, q⟩ := hs
    exact fin (v := V.non) (u := Value.none) J rfl q
  | brk => exact False.elim hs
  | cont => exact False.elim hs
theorem uf {P : Program} {w : World} {K : W.Frag} {mg mb : Str → Option Value} {CX : CXT} {k : Nat} {fa a : Addr} {fd : FuncData} {x : Str} {sp : Sp} {s₁ : Shared} {vs : List Value} {ns : List Int} {tabs : List (Addr × Addr)}
    (KX : K.In s₁.heap) (hns : s₁.heap.Ns mainGlobals mg) (hb : s₁.heap.Ns builtinsNs mb) (hbb : ∀ x : Str, x ≠ "__name__" → mb x = bootBuiltins x) (hlim : s₁.heap.NoLimit) (hg : s₁.gens = #[]) (hB : BM mg s₁.heap)
    (hT : ∀ q ∈ tabs, W.CodeHd s₁.heap q.1 q.2 ∧ s₁.heap.get? q.2 = some (W.tabObj #[])) (hKT : W.noTabs K = true)
    (ha : s₁.heap.get? a = some { cls := .type "list", data := .seq vs.toArray }) (hi : IntsAre vs ns) (hl : ns.length ≤ sizeLine) (hr : aW k callerA)
    (F : ∀ base : Heap, K.In base → base.Ns mainGlobals mg → BM mg base → (∀ q ∈ tabs, W.CodeHd base q.1 q.2) → aN P w K mg base CX k fa fd [x] sp) (hbind : ∀ (s : Shared) (u : Value), BindsTo s fd ⟨[u], []⟩ [(x, u)])
    (hsp : ∀ H : Hp, (∀ q ∈ tabs, H q.2 = some (.tbl #[])) → SqL K H a (ns.map V.int) → sp [.ref a] H (fun v _ => v = .bl true) fun _ _ _ => False)
    (hCX : ∀ H e s', CX [] H s₁ (fun _ _ _ => False) e s' → False) :
    codeAny (model P w) callerA (.call (.ref fa) ⟨[.ref a], []⟩) (fun r s' => r = .ok (.ret (.bool true)) ∧ OldK s₁.heap s'.heap ∧ s'.os = s₁.os ∧ AllBare s'.gens) s₁ := by
  have rv := ms hi
  have lenV := hi.length
  have tabK : ∀ q ∈ tabs, K.lookup q.2 = none := fun q hq => by
    cases e : K.lookup q.2 with
    | none => rfl
    | some o =>
      have e2 := KX _ _ e
      rw [(hT q hq).2] at e2; cases e2
      have := List.all_eq_true.mp hKT _ (W.mem_of_lookupK e)
      exact absurd (show false = true from this) Bool.false_ne_true
  have tabA : ∀ q ∈ tabs, q.2 ≠ a := fun q hq e => by
    have e2 := (hT q hq).2
    rw [e, ha] at e2; cases e2
  have core : ∀ H : Hp, (∀ q ∈ tabs, H q.2 = some (.tbl #[])) → SqL K H a (ns.map V.int) → HOk P w H s₁.heap → (∀ b, H b ≠ none → (b = a ∧ ∃ o xs, H b = some (.frz o (.lst xs))) ∨ ∃ q ∈ tabs, q.2 = b) → (∀ b, H b ≠ none → K.lookup b = none) →
      codeAny (model P w) callerA (.call (.ref fa) ⟨[.ref a], []⟩) (fun r s' => r = .ok (.ret (.bool true)) ∧ OldK s₁.heap s'.heap ∧ s'.os = s₁.os ∧ AllBare s'.gens) s₁ := by
    intro H hO hS hok hA hK
    have base_of : ∀ {b : Addr} {o : Obj}, s₁.heap.get? b = some o → H b = none → (fD s₁.heap H).get? b = some o := fun e n => vF e n
    have noA : ∀ {b : Addr} {o : Obj}, s₁.heap.get? b = some o → o.cls ≠ .none → o.cls ≠ .type "list" → H b = none := fun {b o} e c1 c2 => by
      cases q : H b with
      | none => rfl
      | some u =>
        rcases hA b (by rw [q]; simp) with ⟨rfl, _⟩ | ⟨p, hp, rfl⟩
        · rw [ha] at e; cases e; exact absurd rfl c2
        · rw [(hT p hp).2] at e; cases e; exact absurd rfl c1
    have noD : ∀ {b : Addr} {o : Obj} {es : Array DictEntry} {ep : Nat}, s₁.heap.get? b = some o → o.data = .dict es ep → H b = none := fun {b o es ep} e d => by
      cases q : H b with
      | none => rfl
      | some u =>
        rcases hA b (by rw [q]; simp) with ⟨rfl, _⟩ | ⟨p, hp, rfl⟩
        · rw [ha] at e; cases e; cases d
        · rw [(hT p hp).2] at e; cases e; cases d
    have nsK : ∀ {b : Addr} {m : Str → Option Value}, s₁.heap.Ns b m → (fD s₁.heap H).Ns b m := fun {b m} ⟨o, es, ep, e, d, r⟩ => ⟨o, es, ep, base_of e (noD e d), d, r⟩
    have hKb : K.In (fD s₁.heap H) := fun b o e => base_of (KX b o e) (by
      cases q : H b with
      | none => rfl
      | some u => rw [hK b (by rw [q]; simp)] at e; cases e)
    have hBb : BM mg (fD s₁.heap H) := by
      obtain ⟨bm, ob, b1, b2, b3, b4, b5, b6⟩ := hB
      exact ⟨bm, ob, b1, b2, base_of b3 (noA b3 (by rw [b4]; intro z; cases z) (by rw [b4]; intro z; exact absurd (Value.type.inj z) (by decide))), b4, b5, b6⟩
    have hCb : ∀ q ∈ tabs, W.CodeHd (fD s₁.heap H) q.1 q.2 := fun q hq => by
      obtain ⟨o, vs, file, tf, flags, tg, inF, text, tt, e1, e2, r⟩ := (hT q hq).1
      exact ⟨o, vs, file, tf, flags, tg, inF, text, tt, base_of e1 (noA e1 (by rw [e2]; intro z; cases z) (by rw [e2]; intro z; exact absurd (Value.type.inj z) (by decide))), e2, r⟩
    have hM : Mod K mg (fD s₁.heap H) := ⟨hKb, nsK hns, ⟨mb, nsK hb, hbb⟩, let ⟨mc, h1, h2⟩ := hlim; ⟨mc, nsK h1, h2⟩⟩
    have e0 : gH P w K mg (fD s₁.heap H) callerA [] s₁ H := ⟨rfl, hM, fun b o e => yq e, Nat.le_of_eq (ue _ _), trivial, fun b hb => absurd (show b ∈ ([] : List Addr) from hb) (by simp), hok, .of_eq hg⟩
    refine codeAny_mono ((F _ hKb (nsK hns) hBb hCb).run callerA [] s₁ H ⟨[.ref a], []⟩ [.ref a] [.ref a] _ _ hr e0 (hbind s₁ (.ref a)) (.cons rfl .nil) (hsp H hO hS)) fun r s' h => ?_
    cases r with
    | error e => exact (hCX H e s' h).elim
    | ok fl =>
      cases fl with
      | next => exact False.elim h
      | brk => exact False.elim h
      | cont => exact False.elim h
      | ret u =>
        obtain ⟨v, H', os, bare, un, hok', r', q⟩ := h
        have q' : v = .bl true := q
        subst q'
        obtain rfl : u = Value.bool true := r'
        have all : ∀ b o, s₁.heap.get? b = some o → s'.heap.get? b = some o ∨ ∃ q ∈ tabs, q.2 = b ∧ ∃ more, s'.heap.get? b = some (W.tabObj more) := fun b o e => by
          cases q : H b with
          | none => exact .inl (un.keep b o e q (by intro z; exact absurd (show b ∈ ([] : List Addr) from z) (by simp)) (by simp))
          | some u =>
            rcases hA b (by rw [q]; simp) with ⟨rfl, ob, xs, z⟩ | ⟨p, hp, rfl⟩
            · have z2 := un.frzs b ob _ z
              obtain ⟨e1, _⟩ := hok b _ z
              obtain ⟨e2, _⟩ := hok' b _ z2
              rw [e] at e1; cases e1
              exact .inl e2
            · obtain ⟨more, z2⟩ := un.tbls p.2 _ (hO p hp)
              exact .inr ⟨p, hp, rfl, _, hok' p.2 _ z2⟩
        refine ⟨rfl, ⟨fun b o e => ?_, fun b o e => ?_⟩, os, bare⟩
        · rcases all b o e with z | ⟨p, hp, rfl, more, z⟩
          · exact .inl z
          · have e2 := (hT p hp).2
            rw [e] at e2; cases e2
            exact .inr (.inl ⟨((hT p hp).1.tab (hT p hp).2).isCodeTable, rfl, #[], more, rfl, by rw [Array.empty_append]; exact z⟩)
        · rcases all b o e with z | ⟨p, hp, rfl, more, z⟩
          · exact ⟨_, z⟩
          · exact ⟨_, z⟩
  cases hk : K.lookup a with
  | some o =>
    have e := KX a o hk
    rw [ha] at e
    cases e
    refine core (fun b => if b ∈ tabs.map (·.2) then some (.tbl #[]) else none) (fun q hq => if_pos (List.mem_map.mpr ⟨q, hq, rfl⟩)) (.inr ⟨_, vs.toArray, _, hk, rfl, rfl, rfl, by rw [List.size_toArray, lenV]; exact hl, by simpa using rv⟩) (fun b u z => ?_) (fun b z => ?_) fun b z => ?_
    · by_cases hb : b ∈ tabs.map (·.2)
      · have z' := (if_pos hb).symm.trans z
        cases z'
        obtain ⟨q, hq, rfl⟩ := List.mem_map.mp hb
        exact (hT q hq).2
      · have z' := (if_neg hb).symm.trans z
        cases z'
    · by_cases hb : b ∈ tabs.map (·.2)
      · obtain ⟨q, hq, e⟩ := List.mem_map.mp hb
        exact .inr ⟨q, hq, e⟩
      · exact absurd (if_neg hb) z
    · by_cases hb : b ∈ tabs.map (·.2)
      · obtain ⟨q, hq, rfl⟩ := List.mem_map.mp hb
        exact tabK q hq
      · exact absurd (if_neg hb) z
  | none =>
    refine core (fun b => if b = a then some (.frz { cls := .type "list", data := .seq vs.toArray } (.lst (ns.map V.int))) else if b ∈ tabs.map (·.2) then some (.tbl #[]) else none)
      (fun q hq => by show (if q.2 = a then _ else _) = _; rw [if_neg (tabA q hq), if_pos (List.mem_map.mpr ⟨q, hq, rfl⟩)]) (.inl (.inr ⟨{ cls := .type "list", data := .seq vs.toArray }, if_pos rfl⟩)) (fun b u z => ?_) (fun b z => ?_) fun b z => ?_
    · by_cases hb : b = a
      · have z' := (if_pos hb).symm.trans z
        cases z'
        subst hb
        exact ⟨ha, by rw [List.length_map]; exact hl, vs, _, rv, ha⟩
      · have z' : (if b ∈ tabs.map (·.2) then some (HO.tbl #[]) else none) = some u := (if_neg hb).symm.trans z
        by_cases hb2 : b ∈ tabs.map (·.2)
        · rw [if_pos hb2] at z'; cases z'
          obtain ⟨q, hq, rfl⟩ := List.mem_map.mp hb2
          exact (hT q hq).2
        · rw [if_neg hb2] at z'; cases z'
    · by_cases hb : b = a
      · exact .inl ⟨hb, _, _, if_pos hb⟩
      · by_cases hb2 : b ∈ tabs.map (·.2)
        · obtain ⟨q, hq, e⟩ := List.mem_map.mp hb2
          exact .inr ⟨q, hq, e⟩
        · exact absurd ((if_neg hb).trans (if_neg hb2)) z
    · by_cases hb : b = a
      · rw [hb]; exact hk
      · by_cases hb2 : b ∈ tabs.map (·.2)
        · obtain ⟨q, hq, rfl⟩ := List.mem_map.mp hb2
          exact tabK q hq
        · exact absurd ((if_neg hb).trans (if_neg hb2)) z
theorem vB {l : W.OpenLaw} {n k : Nat} {q : Program} {loose : List Str} {XP : (Str → Option Value) → Heap → Prop} {YP : World → Heap → Prop} {d : DefRec} {K : Params → W.Frag} {CX : World → CXT} {x : Str} {names : List Str}
  (hn : l.most = some n) (hn2 : n ≤ sizeLine) (hdf : d.params.defaults = []) (hr : aW k callerA)
  (hY : ∀ (w : World) (h : Heap), YP w h → (K w.params).In h)
  (hq : ∀ y ∈ names, ((PyProof.Rows.recsOf q).find? fun e => e.name == y).isSome = true)
  (F : ∀ (w : World) (mg : Str → Option Value) (fa : Addr) (h : Heap), (K w.params).In h → h.Ns mainGlobals mg → mg d.name = some (.ref fa) →
   ∃ (fd : FuncData) (tabs : List (Addr × Addr)) (sp : Sp), (∀ (s : Shared) (u : Value), BindsTo s fd ⟨[u], []⟩ [(x, u)]) ∧ W.noTabs (K w.params) = true ∧ (∀ t ∈ tabs, ∃ y ∈ names, W.tabIn (K w.params) y = some t) ∧
    (∀ base : Heap, (K w.params).In base → base.Ns mainGlobals mg → BM mg base → (∀ t ∈ tabs, W.CodeHd base t.1 t.2) → aN l.prog w (K w.params) mg base (CX w) k fa fd [x] sp) ∧
    ∀ (H : Hp) (a : Addr) (ns : List Int), ns.length ≤ n → (∀ t ∈ tabs, H t.2 = some (.tbl #[])) → SqL (K w.params) H a (ns.map V.int) → sp [.ref a] H (fun v _ => v = .bl true) fun _ _ _ => False)
  (hCX : ∀ (w : World) (H : Hp) (s : Shared) (e : Value) (s' : Shared), CX w [] H s (fun _ _ _ => False) e s' → False) :
  W.WalkO q loose XP YP l.row.toRowW d [] (fun f vs => PySem.call f vs) := by
 refine Att.attach_call hn hdf fun w s₀ s₁ mg mb fa o pm cd doc a vs ns G Y ho hd hcd hmg hobj hints hlen hg => ?_
 have KX := hY w _ Y
 obtain ⟨fd, tabs, sp, hb, hKT, htabs, hF, hsp⟩ := F w mg fa _ KX G.T.g hmg
 refine uf (tabs := tabs) KX G.T.g G.T.b G.T.builtins G.T.nolimit hg G.T.bmain (fun t ht => ?_) hKT hobj hints (Nat.le_trans hlen hn2) hr hF hb (fun H hO hS => hsp H a ns hlen hO hS) fun H e s' => hCX w H s₁ e s'
 obtain ⟨y, hy, e⟩ := htabs t ht
 obtain ⟨dd, hdd⟩ := Option.isSome_iff_exists.mp (hq y hy)
 exact W.tab_of G.T KX hdd e
section
variable {X:Cx}
theorem SPM.unwish {E:Value→Shared→Prop} {pins:List (Addr×Obj)} {D:kJ} {f:Flow} {s':Shared} (h:SPM (X.wish E) pins D f s'):SPM X pins D f s':=by
 cases f with
 | next=>obtain ⟨σ',H',I,q⟩:=h;exact ⟨σ',H',I.unwish,q⟩
 | brk=>exact h
 | cont=>exact h
 | ret u=>obtain ⟨v,σ',H',I,r,q⟩:=h;exact ⟨v,σ',H',I.unwish,r,q⟩
theorem QMs.nox {st:List Stmt} {t:TSM} (h:QMs X.nox st t):QMs X st t:=⟨fun pins s σ H D I hw=>
 wpAny_mono (h.out pins s σ H D (I.wish _) hw) (fun _ _ q=>SPM.unwish q) fun _ _ z=>False.elim z⟩
theorem eF.mono {P:Program} {w:World} {K:W.Frag} {mg:Str→Option Value} {base:Heap} {j k:Nat} {t:cA} {sp:Sp} (F:eF P w K mg base j t sp) (h:j≤k):eF P w K mg base k t sp:=
 ⟨fun A outer s H f cs us vs cvs Q E hr=>F.run A outer s H f cs us vs cvs Q E (hr.mono h)⟩
def qa:V→List V→Hp→VK→Prop:=fun x vs H Q=>∃ a y d r H',x=.ref a∧vs=[y,d]∧zi H a y d r H'∧Q r H'
theorem sf (hu:X.A.units+1<cLine):MtR X "dict.setdefault" qa:=by
 intro pins s σ H x xs v us Q I rx rs h
 obtain ⟨a,y,d,r,H',rfl,rfl,g,q⟩:=h
 obtain rfl:v=Value.ref a:=rx
 obtain ⟨uy,ud,rfl,ry,rd⟩:=gN rs
 rcases g with ⟨g,rfl⟩ | ⟨g,p,rfl⟩
 · rcases g with ⟨kvs,k,e,rfl,l⟩ | ⟨kvs,k,b,e,rfl,eb,l⟩
   · obtain ⟨z,hd,vs,rel,dd⟩:=fS I.hok e
     obtain ⟨w',hw,rw'⟩:=cy.some_of (v:=r) (o:=valueAt vs k) (by rw [l];exact rel.val k)
     exact call_meetsIn PySem.F.slot_dict_setdefault dd.typeIs PySem.F.entry_dict_setdefault (PySem.F.args_dict_setdefault_3 _ _ _) (kt_meets_setdefault (ba X.prog X.w) a (eV ry) hd ud)
       ⟨vs,dd,by rw [← rel.length];exact z,(fun v' hv'=>by rw [hw] at hv';cases hv';exact ⟨r,H',I.tok _,rw',q⟩),(fun hn=>by rw [hw] at hn;cases hn)⟩
   · cases (show uy=Value.ref b from ry)
     obtain ⟨z,hd,xs,rel,dd⟩:=gJ I.hok e
     obtain ⟨w',hw,rw'⟩:=cy.some_of (v:=r) (o:=(atKey xs k).map (·.2)) (by rw [l];exact rel.val k)
     obtain ⟨pp,hp,hp2⟩:=Option.map_eq_some_iff.mp hw
     refine wpAny_call_entry PySem.F.slot_dict_setdefault dd.typeIs PySem.F.entry_dict_setdefault ?_ (PySem.F.args_dict_setdefault_3 _ _ _)
     unfold Builtin.«dict.setdefault»
     refine wpAny_bind ?_
     unfold Builtin.Dict.keyAndDefault
     refine wpAny_bind (wpAny_notOrdered_dict dd.typeIs ?_)
     show wpAny _ _ (pure (a,Value.ref b,some ud)) _ _ s
     refine wpAny_pure ?_
     show wpAny _ _ (if (a==sysModules)=true then _ else (dictSetDefault a (.ref b) ud>>=_)) _ _ s
     rw [if_neg (by rw [hd];exact Bool.false_ne_true)]
     refine wpAny_bind (en (tupleKind_room_in1 hu) (eQ I.hok eb) dd (fun p' hp'=>?_) (fun hn=>?_) (by rw [← Paired.length rel];exact z))
     · rw [hp] at hp';cases hp'
       exact wpAny_pure ⟨_,rfl,⟨r,H',I.tok _,by rw [hp2];exact rw',q⟩⟩
     · rw [hp] at hn;cases hn
 · rcases g with ⟨kvs,k,e,rfl,l⟩ | ⟨kvs,k,b,e,rfl,eb,l⟩
   · rcases p with ⟨kvs',k',e',ey,lz,rfl⟩ | ⟨kvs',k',b',e',ey,_⟩
     · have ek:k=k':=by cases k <;> cases k' <;> first | (cases ey;rfl) | cases ey
       subst ek
       obtain ⟨z,hd,vs,rel,dd⟩:=lc I.hok e'
       have ee:kvs=kvs':=by
         rcases e with e | ⟨o,e⟩
         · rw [e'] at e;cases e;rfl
         · rw [e'] at e;cases e
       subst ee
       have hn:valueAt vs k=none:=cy.none_of (by rw [l];exact rel.val k)
       refine call_meetsIn PySem.F.slot_dict_setdefault dd.typeIs PySem.F.entry_dict_setdefault (PySem.F.args_dict_setdefault_3 _ _ _) (kt_meets_setdefault (ba X.prog X.w) a (eV ry) hd ud)
         ⟨vs,dd,by rw [← rel.length];exact z,(fun v' hv'=>by rw [hn] at hv';cases hv'),fun _ h' dd' hs=>?_⟩
       have he:∃ q,h'.get? a=some q:=let ⟨q,_,_,hq,_⟩:=dd';⟨q,hq⟩
       have hl:(cg kvs k r).length≤sizeLine:=by have:=eK kvs k r;omega
       exact ⟨r,_,gh I (by rw [e'];exact True.intro) hs he (lb hl hd (rel.put k rd) dd'),rd,q⟩
     · cases k <;> cases ey
   · rcases p with ⟨kvs',k',e',ey,_⟩ | ⟨kvs',k',b',e',ey,eb',lz,rfl⟩
     · cases k' <;> cases ey
     · cases ey
       have ek:k=k':=pP (HO.tup.inj (Option.some.inj (eb.symm.trans eb')))
       subst ek
       cases (show uy=Value.ref b from ry)
       obtain ⟨z,hd,xs,rel,dd⟩:=qV I.hok e'
       have ee:kvs=kvs':=by
         rcases e with e | ⟨o,e⟩
         · rw [e'] at e;cases e;rfl
         · rw [e'] at e;cases e
       subst ee
       have hn:atKey xs k=none:=by
         have:=cy.none_of (o:=(atKey xs k).map (·.2)) (by rw [l];exact rel.val k)
         exact Option.map_eq_none_iff.mp this
       refine wpAny_call_entry PySem.F.slot_dict_setdefault dd.typeIs PySem.F.entry_dict_setdefault ?_ (PySem.F.args_dict_setdefault_3 _ _ _)
       unfold Builtin.«dict.setdefault»
       refine wpAny_bind ?_
       unfold Builtin.Dict.keyAndDefault
       refine wpAny_bind (wpAny_notOrdered_dict dd.typeIs ?_)
       show wpAny _ _ (pure (a,Value.ref b,some ud)) _ _ s
       refine wpAny_pure ?_
       show wpAny _ _ (if (a==sysModules)=true then _ else (dictSetDefault a (.ref b) ud>>=_)) _ _ s
       rw [if_neg (by rw [hd];exact Bool.false_ne_true)]
       refine wpAny_bind (en (tupleKind_room_in1 hu) (eQ I.hok eb) dd (fun p' hp'=>?_) (fun _ h' dd' hs=>?_) (by rw [← Paired.length rel];exact z))
       · rw [hn] at hp';cases hp'
       · obtain ⟨q',es,ep,hq,h2,h3,h4,_,h5⟩:=dd'
         have hl:(cg kvs k r).length≤sizeLine:=by have:=eK kvs k r;omega
         refine wpAny_pure ⟨_,rfl,⟨r,_,gh (ob:=.dT (cg kvs k r)) I (by rw [e'];exact True.intro) hs ⟨q',hq⟩ ⟨hl,hd,_,(rel.put k eb rd).keeps fun c ys ec=>?_,q',es,ep,hq,h2,h3,h4,h5⟩,rd,q⟩⟩
         rw [ak (cY ec e' (fun z=>nomatch z))]
         exact ec
def Its (z:Str):It:=⟨fun i _=>i<z.length,fun i H x H'=>H'=H∧∃ c,z.cps[i]?=some c∧x=.str ⟨#[c]⟩,fun i _=>z.length≤i⟩
theorem uN {P:Program} {w:World} {K:W.Frag} {tg:Expr} (z:Str) (t:Tok) (it:Addr):gS P w K tg (Its z) [it] it (fun i h=>h.IsStrIter it "str_ascii_iterator" z t i) where
 mem:=by simp
 obj:=fun i h st b hb=>by
  have e:b=it:=by simpa using hb
  subst e
  obtain ⟨o,e,c,d⟩:=st
  exact ⟨o,e,fun v z=>by rw [d] at z;cases z⟩
 keep:=fun i h h' st k=>let ⟨o,ho,r⟩:=st;⟨o,k it (by simp) o ho,r⟩
 item:=by
  intro X hP hw hK hc i pins s σ H E I hf st hg
  subst hP hw hK
  obtain ⟨f0,f1,f2,f3,f4,f5⟩:=hf it (by simp)
  have hi:i<z.cps.size:=hg
  refine wpAny_pyNext_ascii_item st (c:=z.cps[i]) (Array.getElem?_eq_getElem hi) fun h' st' sb=>?_
  have I1:Inv X pins σ H { s with heap:=h',toks:=s.toks+1 }:=I.turned (t':=s.toks+1) (fun b o hb e=>(sb.2 b hb).trans e) f0 f1 f3 f4 f5
  obtain ⟨o,e,c,d⟩:=id st'
  exact ⟨_,rfl,mx (s:={ s with heap:=h',toks:=s.toks+1 }) e c d (by decide) ⟨.str ⟨#[z.cps[i]]⟩,H,I1,⟨_,rfl⟩,⟨rfl,_,Array.getElem?_eq_getElem hi,rfl⟩,st',fun b hb=>(hf b hb).1⟩⟩
 done:=by
  intro X hP hw hK hc i pins s σ H E I hf st hg
  subst hP hw hK
  obtain ⟨f0,f1,f2,f3,f4,f5⟩:=hf it (by simp)
  exact wpAny_pyNext_ascii_end (I.ok.hd hc) st (Array.getElem?_eq_none (show z.cps.size≤i from hg)) fun h' eb=>⟨rfl,I.turned (t':=s.toks) (fun b o hb e=>eb b o hb e) f0 f1 f3 f4 f5⟩
 self:=fun A i s Q E st h=>by
  refine wpAny_pyIter_slot st.typeIs F.slot_str_ascii_iterator_iter (wpAny_call_entry F.slot_str_ascii_iterator_iter st.typeIs F.entry_str_ascii_iterator_iter ?_ (F.args_str_ascii_iterator_iter_1 _))
  show wpAny _ _ (ret (.ref it)) _ _ s
  exact wpAny_pure ⟨_,rfl, "str_ascii_iterator",_,st.typeIs,F.slot_str_ascii_iterator_next.lookup,h⟩
variable {a:Expr} {ta:TE} {tg:Expr}
def fM (K:W.Frag) (tl:TE):TI:=fun σ H R=>tl σ H fun x H1=>match x with
 | .str z=>z.cps.all (·<128)=true∧R (Its z) H1
 | x=>∃ a,x=.ref a∧(((∃ xs,SqL K H1 a xs)∧R (Itl K a) H1)∨((∃ xs,SqT K H1 a xs)∧R (Itt K a) H1))
theorem fx (h : QE X a ta) : QI X tg a (fM X.K ta) := ⟨fun pins s σ H R I hw => by
  refine thn (h.out pins s σ H _ I hw) fun v s1 ⟨x, H1, I1, r1, q1⟩ => ?_
  cases x with
  | str z =>
    obtain ⟨t, rfl⟩ := r1
    refine wpAny_pyIter_ascii q1.1 ?_
    refine ⟨s1.heap.objs.size, [s1.heap.objs.size], _, _, H1, rfl, I1.kept (t' := s1.toks) fun b o e => Heap.get?_push_of_some _ e, uN z t _, ⟨_, Heap.get?_push_size _ rfl, rfl, rfl⟩, fun b hb => ?_, q1.2⟩
    have e : b = s1.heap.objs.size := by simpa using hb
    subst e
    exact I1.fpOk (Nat.le_refl _) (I1.hok.fresh (Nat.le_refl _))
  | ref c =>
    obtain ⟨a, e, q⟩ := q1
    cases e
    cases r1
    rcases q with ⟨⟨xs, hq⟩, q⟩ | ⟨⟨xs, hq⟩, q⟩
    · obtain ⟨its, rv, p, hz⟩ := I1.list hq
      refine wpAny_pyIter_list (cX p) ?_
      refine ⟨s1.heap.objs.size, [s1.heap.objs.size], _, _, H1, rfl, I1.kept (t' := s1.toks) fun b o e => Heap.get?_push_of_some _ e, tz _ _, ⟨_, Heap.get?_push_size _ rfl, rfl, rfl⟩, fun b hb => ?_, q⟩
      have e : b = s1.heap.objs.size := by simpa using hb
      subst e
      exact I1.fpOk (Nat.le_refl _) (I1.hok.fresh (Nat.le_refl _))
    · obtain ⟨its, rv, p, hz⟩ := I1.tuple hq
      refine wpAny_pyIter_tuple (show s1.heap.IsTuple c its.toArray from p) ?_
      refine ⟨s1.heap.objs.size, [s1.heap.objs.size], _, _, H1, rfl, I1.kept (t' := s1.toks) fun b o e => Heap.get?_push_of_some _ e, rN _ _, ⟨_, Heap.get?_push_size _ rfl, rfl, rfl⟩, fun b hb => ?_, q⟩
      have e : b = s1.heap.objs.size := by simpa using hb
      subst e
      exact I1.fpOk (Nat.le_refl _) (I1.hok.fresh (Nat.le_refl _))
  | _ => obtain ⟨_, e, _⟩ := q1; cases e⟩
theorem ye:OpR X (binaryOp .Mult) (fun x y H Q=>∃ z n,x=.str z∧y=.int n∧(-1000≤n∧n≤1000∧z.length≤1000)∧Q (.str (Txt.mul z n)) H):=by
 intro pins s σ H x y v u Q I rx ry h
 obtain ⟨z,n,rfl,rfl,⟨h1,h2,h3⟩,q⟩:=h
 obtain ⟨t,rfl⟩:=rx
 obtain ⟨t',rfl⟩:=ry
 refine SB.mul ⟨?_,fun hn _=>?_,fun hn _=>?_⟩ fun t' k=>⟨.str _,H,I.tok k,⟨_,rfl⟩,q⟩
 · rw [decide_eq_false (by omega),decide_eq_false (by omega)];rfl
 · intro hgt
   have h5:(1000:Int)≤(2^63 - 1)/n:=Int.le_ediv_of_mul_le (by omega) (by omega)
   omega
 · have h6:z.length*n.toNat≤1000*1000:=Nat.mul_le_mul h3 (by omega)
   exact decide_eq_false (by rw [sizeLine_eq];omega)
end
theorem BI {J:It} {n:Nat} {it:Nat→V} {Pk:Hp→Prop} {g:TG} {tb:TS} {D:em} {σ:St} {H:Hp} (T:cD J n it Pk) (Pv:Nat→St→Hp→Prop) (h0:Pv 0 σ H) (hl:∀ i σ H,i≤n→Pv i σ H→Pk H)
   (hs:∀ i σ H,i<n→Pv i σ H→g (it i) σ H fun σ2 H2=>tb { D with nx:=Pv (i+1),ct:=Pv (i+1),bk:=D.nx } σ2 H2) (hd:∀ σ H,Pv n σ H→D.nx σ H):
   ∃ W:Nat→Nat→St→Hp→Prop,(∃ m,W 0 m σ H)∧∀ i m σ H,W i m σ H→
    (J.stop i H∧D.nx σ H)∨(J.go i H∧∃ N:St→Hp→Prop,(∀ σ' H',N σ' H'→∃ m',m'<m∧W (i+1) m' σ' H')∧∀ x H',J.yld i H x H'→g x σ H' fun σ2 H2=>tb { D with nx:=N,ct:=N,bk:=D.nx } σ2 H2):=by
 refine ⟨fun i m σ H=>m=n - i∧i≤n∧Pv i σ H,⟨n,by simp,Nat.zero_le _,h0⟩,?_⟩
 rintro i m σ H ⟨rfl,hi,p⟩
 have q:=hl i σ H hi p
 by_cases hlt:i<n
 · refine .inr ⟨T.go i H hlt q,Pv (i+1),fun σ' H' p'=>⟨n - (i+1),by omega,rfl,hlt,p'⟩,fun x H' y=>?_⟩
   obtain ⟨rfl,rfl⟩:=T.yld i H x H' hlt q y
   exact hs i σ _ hlt p
 · have e:i=n:=by omega
   subst e
   exact .inl ⟨T.stop H q,hd σ H p⟩
theorem cD.str (z:Str):cD (Its z) z.length (fun i=> .str ⟨#[z.cps.getD i 0]⟩) (fun _=>True) where
 go:=fun i H hi _=>hi
 yld:=fun i H x H' hi _ y=>⟨y.1,by obtain ⟨_,c,hc,rfl⟩:=y;simp [Array.getD_eq_getD_getElem?,hc]⟩
 stop:=fun H _=>Nat.le_refl _
theorem ki {α β:Type} (f:β→α→β) (b:β) (l:List α) (i:Nat) (x:α) (h:l[i]?=some x):(l.take (i+1)).foldl f b=f ((l.take i).foldl f b) x:=by
 rw [List.take_succ,h];simp
theorem dq {α β:Type} {f:α→β} {l:List α} {i:Nat} {x:β} (h:(l.map f)[i]?=some x):∃ a,l[i]?=some a∧x=f a:=by
 rw [List.getElem?_map] at h
 cases e:l[i]? with
 | none=>rw [e] at h;cases h
 | some a=>rw [e] at h;cases h;exact ⟨a,rfl,rfl⟩
theorem de.keep {H H':Hp} {f:Addr} {t:cA} {cs:List Addr} {cvs:List V} (k:∀ b φ,H b=some (.ext φ)→H' b=some (.ext φ)) (c:de H f t cs cvs):de H' f t cs cvs:=by
 obtain ⟨⟨a,h1,h2⟩,h3⟩:=c
 refine ⟨⟨a,k _ _ h1,k _ _ h2⟩,?_⟩
 clear h1 h2
 induction h3 with
 | nil=>exact .nil
 | cons r t ih=>exact .cons (k _ _ r) ih
def me (K:W.Frag) (ns:List Str):Bool:=decide ((ns.map fun n=>(W.tabIn K n).map (·.2)).Nodup)
theorem uo {l:List Addr} (h:(l.map some).Nodup):l.Nodup:=List.Pairwise.of_map some (fun a b h e=>h (congrArg some e)) h
end L2
namespace HT
open PySem PyProof.Rows
theorem fh:fillsNumberSlot (.type "tuple") "mul" =pure false:=
 PySem.fillsNumberSlot_seq (id:= "tuple.__mul__") (r:=some (.builtin "tuple.__rmul__")) F.slot_tuple_mul.lookup (by decide +kernel) F.slot_tuple_rmul.lookup (by decide +kernel)
theorem iH:seqRepeat? (.type "tuple")=pure (some (.builtin "tuple.__mul__")):=by
 unfold seqRepeat?
 rw [PySem.seqSlot_of (T:= "tuple") (name:= "__mul__") (id:= "tuple.__mul__") F.slot_tuple_mul.lookup (by decide +kernel),PySem.seqSlot_of (T:= "tuple") (name:= "__rmul__") (id:= "tuple.__rmul__") F.slot_tuple_rmul.lookup (by decide +kernel)]
 rfl
theorem fZ (a:Int) (t:Tok) (l:Addr) (items:Array Value) (n:Nat) (dd:Option Addr) (sl:Array (Option Value)):
  Meets (Builtin.«int.__rmul__» ⟨[.int a t,.ref l],[]⟩) (fun _ R s=>s.heap.get? l=some { cls:=.type "tuple",dict:=dd,data:=.seq items n,slots:=sl }∧R (.ok (.ret Value.notImplemented)) s):=
 .of_wp fun prog w A R s h=>by obtain ⟨hp,g,d,tk,os⟩:=s;obtain ⟨hl,h⟩:=h;wp_walk;exact ⟨_,rfl,h⟩
theorem qO (l:Addr) (items:Array Value) (n:Nat) (x:Int) (u:Tok) (dd:Option Addr) (sl:Array (Option Value)) (h0:(decide (x< -(2^63))||decide (x≥2^63))=false) (h1:(items.isEmpty||x==1)=true):
  Meets (Builtin.«tuple.__mul__» ⟨[.ref l,.int x u],[]⟩) (fun _ R s=>s.heap.get? l=some { cls:=.type "tuple",dict:=dd,data:=.seq items n,slots:=sl }∧R (.ok (.ret (.ref l))) s):=
 .of_wp fun prog w A R s h=>by obtain ⟨hp,g,d,tk,os⟩:=s;obtain ⟨hl,h⟩:=h;have f1:=AutoSeq1.idx_int;have f2:=AutoSeq1.sub_tuple_tuple;wp_walk using wpAny_loadPart' hl;refine wpAny_ite_false (decide_eq_false (by rw [h0];decide)) ?_;wp_walk using wpAny_loadPart' hl;exact ⟨_,rfl,h⟩
theorem qS (l:Addr) (items:Array Value) (n:Nat) (x:Int) (u:Tok) (dd:Option Addr) (sl:Array (Option Value)) (h0:(decide (x< -(2^63))||decide (x≥2^63))=false) (h1:(items.isEmpty||x==1)=false)
  (h2:(decide (x≤0)||items.isEmpty)=false) (h3:¬ ((items.size:Int)*x>(2^63 - 1)/8)) (h4:¬ Builtin.Tuple.tupleTooMany (items.size*x)=true) (h5:(List.foldl (fun x1 x2=>x1++x2) #[] (List.replicate x.toNat items)).size≤sizeLine):
  Meets (Builtin.«tuple.__mul__» ⟨[.ref l,.int x u],[]⟩) (fun _ R s=>s.heap.get? l=some { cls:=.type "tuple",dict:=dd,data:=.seq items n,slots:=sl }∧R (.ok (.ret (Value.ref s.heap.objs.size))) { s with heap:=s.heap.push { cls:=Value.type "tuple",data:=Data.seq (List.foldl (fun x1 x2=>x1++x2) #[] (List.replicate x.toNat items)) },toks:=s.toks }):=
 .of_wp fun prog w A R s h=>by obtain ⟨hp,g,d,tk,os⟩:=s;obtain ⟨hl,h⟩:=h;have f1:=AutoSeq1.idx_int;have f2:=AutoSeq1.sub_tuple_tuple;wp_walk using wpAny_loadPart' hl;refine wpAny_ite_false (decide_eq_false (by rw [h0];decide)) ?_;wp_walk using wpAny_loadPart' hl;refine wpAny_ite_false (decide_eq_false h3) ?_;wp_walk using wpAny_loadPart' hl;exact ⟨_,rfl,h⟩
end HT
namespace L2
open PySem PySem.Spec PyProof.Rows
section
variable {X:Cx}
def xg:R2:=fun x y H Q=>∃ a k xs,x=.ref a∧y=.int k∧H a=some (.tup xs)∧xs≠[]∧1≤k∧k≤1000∧xs.length≤1000∧∀ p H',aq H H'→H' p=some (.tup (List.replicate k.toNat xs).flatten)→Q (.ref p) H'
theorem yk : OpR X (binaryOp .Mult) xg := by
 intro pins s σ H x y v u Q I rx ry h
 obtain ⟨a, k, xs, rfl, rfl, ha, hne, k1, k2, hl, q⟩ := h
 cases rx
 obtain ⟨t, rfl⟩ := ry
 obtain ⟨its, r, p1, hz⟩ := I.tuple (.inl (.inl ha))
 have hlen : its.length = xs.length := r.length.symm
 have hits : its ≠ [] := fun z => hne (r.nil_iff.mp z)
 obtain ⟨⟨cls, dd, data, sl⟩, ho, hc, n, hd⟩ := id p1
 simp only at hc hd
 subst hc hd
 have h0 : (decide (k < -(2 ^ 63)) || decide (k ≥ 2 ^ 63)) = false := by rw [decide_eq_false (by omega), decide_eq_false (by omega)]; rfl
 have hemp : its.toArray.isEmpty = false := by cases its with | nil => exact (hits rfl).elim | cons _ _ => rfl
 by_cases e : k = 1
 · subst e
   refine PySem.wpAny_binaryOp_repeat_ref (T := "tuple") (U := "int") (by decide) ⟨_, ho, rfl⟩ (fun s' => typeIs_int s' 1 t) HT.fh F.fills_int_mul F.slot_int_rmul HT.iH F.slot_int_index.lookup
     (call_meets F.slot_int_rmul (typeIs_int s 1 t) F.entry_int_rmul (F.args_int_rmul_2 _ _) (HT.fZ 1 t a its.toArray n dd sl)
      ⟨ho, rfl, ⟨_, ho, rfl⟩, call_meets F.slot_tuple_mul ⟨_, ho, rfl⟩ F.entry_tuple_mul (F.args_tuple_mul_2 _ _) (HT.qO a its.toArray n 1 t dd sl h0 (by rw [hemp]; rfl)) ⟨ho, ?_⟩⟩)
   exact ⟨.ref a, H, I, rfl, q a H aq.rfl' (by rw [ha]; simp)⟩
 · have hsz : its.length * k.toNat ≤ 1000000 := Nat.le_trans (Nat.mul_le_mul (by omega : its.length ≤ 1000) (by omega : k.toNat ≤ 1000)) (by decide)
   have hszI : ((its.toArray.size : Nat) : Int) * k ≤ 1000000 := by
     have e1 : ((its.length * k.toNat : Nat) : Int) = (its.length : Int) * k := by rw [Int.natCast_mul, Int.toNat_of_nonneg (by omega)]
     rw [List.size_toArray, ← e1]; omega
   have hnew : List.foldl (fun x1 x2 => x1 ++ x2) #[] (List.replicate k.toNat its.toArray) = (List.replicate k.toNat its).flatten.toArray := by
     have := lX its k.toNat []
     rw [List.nil_append] at this
     exact this
   refine PySem.wpAny_binaryOp_repeat_ref (T := "tuple") (U := "int") (by decide) ⟨_, ho, rfl⟩ (fun s' => typeIs_int s' k t) HT.fh F.fills_int_mul F.slot_int_rmul HT.iH F.slot_int_index.lookup
     (call_meets F.slot_int_rmul (typeIs_int s k t) F.entry_int_rmul (F.args_int_rmul_2 _ _) (HT.fZ k t a its.toArray n dd sl)
      ⟨ho, rfl, ⟨_, ho, rfl⟩, call_meets F.slot_tuple_mul ⟨_, ho, rfl⟩ F.entry_tuple_mul (F.args_tuple_mul_2 _ _) (HT.qS a its.toArray n k t dd sl h0 (by rw [hemp]; simp [e]) (by rw [hemp, decide_eq_false (by omega)]; rfl) (by omega) ?_ ?_) ⟨ho, ?_⟩⟩)
   · unfold Builtin.Tuple.tupleTooMany
     rw [sizeLine_eq]
     simp only [gt_iff_lt, decide_eq_true_eq]
     omega
   · rw [hnew, List.size_toArray, oZ, Nat.mul_comm]
     exact aK hsz
   · rw [hnew]
     refine ⟨.ref s.heap.objs.size, _, I.laid (t' := s.toks) (o := .tup (List.replicate k.toNat xs).flatten) (fun b ob q => Heap.get?_push_of_some _ q) (Nat.le_refl _) ?_, rfl, q _ _ (aq.upd (I.hok.fresh (Nat.le_refl _))) af⟩
     exact ⟨by rw [oZ, ← hlen, Nat.mul_comm]; exact aK hsz, _, r.rep k.toNat, IsTup.new _ _⟩
def eN:R2:=fun x y H Q=>match x,y with
 | .str z,.int n=>(-1000≤n∧n≤1000∧z.length≤1000)∧Q (.str (Txt.mul z n)) H
 | .ref a,.int n=>xg (.ref a) (.int n) H Q
 | x,y=>um x y H Q
theorem fG:OpR X (binaryOp .Mult) eN:=(ye.or (yk.or FR)).imp fun x y H Q q=>by
 unfold eN at q
 split at q
 · exact .inl ⟨_,_,rfl,rfl,q.1,q.2⟩
 · exact .inr (.inl q)
 · exact .inr (.inr q)
end
end L2
namespace HT
open PySem PyProof.Rows
theorem sub_tuple_dict:isSubtype (.type "tuple") (.type "dict")=pure false:=by rw [isSubtype_type];kernel_rfl
theorem lM:isSubtype (.type "dict") (.type "tuple")=pure false:=by rw [isSubtype_type];kernel_rfl
theorem qm (l b:Addr) (o:Obj) (hc:o.cls=.type "dict") (o2:Obj) (hc2:o2.cls=.type "tuple"):
  Meets (Builtin.«dict.__eq__» ⟨[.ref l,.ref b],[]⟩) (fun _ R s=>s.heap.get? l=some o∧s.heap.get? b=some o2∧R (.ok (.ret .notImplemented)) s):=
 .of_wp fun prog w A R s h=>by
  obtain ⟨hp,g,d,tk,os⟩:=s;obtain ⟨hl,hb,h⟩:=h;obtain ⟨cls,dd,data,sl⟩:=o;obtain ⟨cls2,dd2,data2,sl2⟩:=o2
  simp only at hc hc2;subst hc hc2
  have f1:=sub_tuple_dict;wp_walk using wpAny_loadPart' hl,wpAny_loadPart' hb;exact ⟨_,rfl,h⟩
theorem oM (l b:Addr) (o:Obj) (hc:o.cls=.type "tuple") (o2:Obj) (hc2:o2.cls=.type "dict"):
  Meets (Builtin.«tuple.__eq__» ⟨[.ref l,.ref b],[]⟩) (fun _ R s=>s.heap.get? l=some o∧s.heap.get? b=some o2∧R (.ok (.ret .notImplemented)) s):=
 .of_wp fun prog w A R s h=>by
  obtain ⟨hp,g,d,tk,os⟩:=s;obtain ⟨hl,hb,h⟩:=h;obtain ⟨cls,dd,data,sl⟩:=o;obtain ⟨cls2,dd2,data2,sl2⟩:=o2
  simp only at hc hc2;subst hc hc2
  have f1:=lM;wp_walk using wpAny_loadPart' hl,wpAny_loadPart' hb;exact ⟨_,rfl,h⟩
end HT
namespace L2
open PySem PySem.Spec PyProof.Rows
section
variable {X:Cx}
def xK (K:W.Frag):R2:=fun x y H Q=>∃ a b ys,x=.ref a∧y=.ref b∧((∃ kvs,H a=some (.dK kvs))∨∃ kvs,H a=some (.dT kvs))∧SqT K H b ys∧Q (.bl false) H
theorem xY (hu:X.A.units<cLine):OpR X (compareOp .Eq) (xK X.K):=by
 intro pins s σ H x y v u Q I rx ry h
 obtain ⟨a,b,ys,rfl,rfl,ha,hb,q⟩:=h
 cases rx
 cases ry
 obtain ⟨its,_,p1,_⟩:=I.tuple hb
 obtain ⟨o2,ho2,hc2,_⟩:=id p1
 obtain ⟨o,ho,hc⟩:∃ o,s.heap.get? a=some o∧o.cls=.type "dict" :=by
  rcases ha with ⟨kvs,e⟩ | ⟨kvs,e⟩
  · obtain ⟨_,_,_,_,o,_,_,h1,h2,_⟩:=(show aQ X.prog X.w H s.heap a (.dK kvs) from I.hok a _ e)
    exact ⟨o,h1,h2.1⟩
  · obtain ⟨_,_,_,_,o,_,_,h1,h2,_⟩:=(show aQ X.prog X.w H s.heap a (.dT kvs) from I.hok a _ e)
    exact ⟨o,h1,h2.1⟩
 have hne:a≠b:=fun e=>by
  subst e
  rw [ho] at ho2;cases ho2
  rw [hc] at hc2;exact absurd hc2 (by simp)
 show wpAny _ _ (richCompare .Eq (.ref a) (.ref b)) _ _ s
 exact SeqAt.rc_eq_decline_or (k:=false) ⟨_,ho,hc⟩ ⟨_,ho2,hc2⟩ (by decide) F.sub_tuple_dict F.slot_dict_eq F.slot_tuple_eq_refl
  (fun _ hq=>call_meets F.slot_dict_eq ⟨_,ho,hc⟩ F.entry_dict_eq (F.args_dict_eq_2 _ _) (HT.qm a b o hc o2 hc2) ⟨ho,ho2,hq⟩)
  (fun _ hq=>call_meets F.slot_tuple_eq_refl ⟨_,ho2,hc2⟩ F.entry_tuple_eq (F.args_tuple_eq_2 _ _) (HT.oM b a o2 hc2 o hc) ⟨ho2,ho,hq⟩)
  (fun _ hq=>wpAny_isSame_ref_other hne ho ho2 (by rw [hc];simp) hq) (.inr hu) ⟨.bl false,H,I,rfl,q⟩
def cn (K:W.Frag):R2:=fun x y H Q=>match x,y with
 | .ref a,.ref b=>AR K (.ref a) (.ref b) H Q∨qF K (.ref a) (.ref b) H Q∨xK K (.ref a) (.ref b) H Q
 | .ref a,y=>qF K (.ref a) y H Q
 | x,.ref b=>qF K x (.ref b) H Q
 | x,y=>mEq x y H Q
theorem cG (hu:X.A.units+150<cLine):OpR X (compareOp .Eq) (cn X.K):=((BV (by omega)).or ((zW hu).or ((xY (by omega)).or oEq))).imp fun x y H Q q=>by
 unfold cn at q
 split at q
 · exact q.elim .inl fun z=>z.elim (fun z=> .inr (.inl z)) fun z=> .inr (.inr (.inl z))
 · exact .inr (.inl q)
 · exact .inr (.inl q)
 · exact .inr (.inr (.inr q))
end
section
variable {X:Cx} {a:Expr} {t:TA} {p pos:Pos} {tg:Expr}
def uY:List V→Hp→VK→Prop:=fun xs H Q=>match xs with | [.int i,.int j]=>Q (.int (if j>i then j else i)) H | _=>False
theorem FY (hc:X.calm=true):bo X (.builtin "max") uY:=fun pins s σ H xs us Q I r q=>by
 unfold uY at q
 split at q
 · exact rX hc pins s σ H _ us Q I r ⟨_,_,rfl,q⟩
 · exact q.elim
theorem wx:OpR X (binaryOp .FloorDiv) (rI (fun _ j=>0<j∧j<1267650600228229401496703205376) fun i j=> .int (i/j)):=opI fun i j _ _ _ _ _ hc q=>by
 have h1:(0:Int)<j:=hc.1
 have h2:j<1267650600228229401496703205376:=hc.2
 have h3:j.natAbs.log2<100:=(Nat.log2_lt (by omega)).mpr (Nat.lt_of_lt_of_eq (m:=1267650600228229401496703205376) (by omega) (by decide))
 exact floordiv_int (by omega) (by rw [Int.fdiv_eq_ediv_of_nonneg i (by omega)];exact q) (.inl (PyProof.noPylong_of_log2 (by omega)))
def ci:R2:=fun x y H Q=>match x,y with | .int i,.int j=>(0<j∧j<1267650600228229401496703205376)∧Q (.int (i/j)) H | _,_=>False
theorem cS:OpR X (binaryOp .FloorDiv) ci:=wx.imp fun x y H Q q=>by
 unfold ci at q
 split at q
 · exact ⟨_,_,rfl,rfl,q.1,q.2⟩
 · exact q.elim
end
section
variable {α:Type} {l:List α}
theorem rO (h:l.length=0):l=[]:=List.length_eq_zero_iff.mp h
theorem cM (h : l.length = 1) : ∃ a0, l = [a0] := by
  cases l with
  | nil => simp at h
  | cons a l =>
    obtain rfl := rO (l := l) (by simpa using h)
    exact ⟨a, rfl⟩
theorem xm (h : l.length = 2) : ∃ a0 a1, l = [a0, a1] := by
  cases l with
  | nil => simp at h
  | cons a l =>
    obtain ⟨b0, rfl⟩ := cM (l := l) (by simpa using h)
    exact ⟨a, b0, rfl⟩
theorem xG (h : l.length = 3) : ∃ a0 a1 a2, l = [a0, a1, a2] := by
  cases l with
  | nil => simp at h
  | cons a l =>
    obtain ⟨b0, b1, rfl⟩ := xm (l := l) (by simpa using h)
    exact ⟨a, b0, b1, rfl⟩
theorem xO (h : l.length = 4) : ∃ a0 a1 a2 a3, l = [a0, a1, a2, a3] := by
  cases l with
  | nil => simp at h
  | cons a l =>
    obtain ⟨b0, b1, b2, rfl⟩ := xG (l := l) (by simpa using h)
    exact ⟨a, b0, b1, b2, rfl⟩
theorem xw (h : l.length = 5) : ∃ a0 a1 a2 a3 a4, l = [a0, a1, a2, a3, a4] := by
  cases l with
  | nil => simp at h
  | cons a l =>
    obtain ⟨b0, b1, b2, b3, rfl⟩ := xO (l := l) (by simpa using h)
    exact ⟨a, b0, b1, b2, b3, rfl⟩
theorem ED (h : l.length = 6) : ∃ a0 a1 a2 a3 a4 a5, l = [a0, a1, a2, a3, a4, a5] := by
  cases l with
  | nil => simp at h
  | cons a l =>
    obtain ⟨b0, b1, b2, b3, b4, rfl⟩ := xw (l := l) (by simpa using h)
    exact ⟨a, b0, b1, b2, b3, b4, rfl⟩
end
theorem aW.le {A:Around} {m n:Nat} (h:aW m A) (d:n≤m:=by first | decide | omega):aW n A:=h.mono d
theorem scF {N P:List Str} {sc:Scope} (h1:sc.kind=.function:=by rfl) (h2:sc.isCoroutine=false:=by rfl) (h3:sc.isGenerator=false:=by rfl) (h4:N.Nodup:=by decide +kernel) (h5:N.take P.length=P:=by rfl)
 (h6:∀ x∈P,sc.names.lookup x=some .local∨sc.names.lookup x=some .cell:=by decide +kernel) (h7:∀ y∈sc.names,y.2≠ .free:=by decide +kernel):ay N P sc:=⟨h1,h2,h3,h4,h5,h6,h7⟩
structure Fm (K:W.Frag) (mg:Str→Option Value) (x qual:Str) (st:Stmt) (a:Addr) (d:FuncData) (ps:List Str):Prop where
 f:Fun K x qual st a d
 m:mg x=some (.ref a)
 b:aU K d ps []
structure Fa (K:W.Frag) (x qual:Str) (st:Stmt) (a:Addr) (d:FuncData):Prop where
 m:W.nsIn K mainGlobals x=some (some (.ref a))
 f:Fun K x qual st a d
section
variable {P:Program} {w:World} {K:W.Frag} {mg:Str→Option Value} {base h:Heap} {x qual:Str} {st:Stmt} {a:Addr} {d:FuncData} {ps:List Str}
theorem bK {oc:Value} {od an:Option Addr} {osl:Array (Option Value)} {kV doc pm cdv ct:Value} (m:W.nsIn K mainGlobals x=some (some (.ref a))) (l:K.lookup a=some ⟨oc,od,.func (W.fnOf x qual (br st) (aT st) (aj st) .none kV doc pm an cdv ct),osl⟩)
 (c:W.codeIn K cdv qual=true) (k:W.keepIn K (.ref a)=true):Fa K x qual st a (W.fnOf x qual (br st) (aT st) (aj st) .none kV doc pm an cdv ct):=⟨m,bu l c k⟩
theorem Fa.code (F:Fa K x qual st a d) (X:K.In h) (G:h.Ns mainGlobals mg) {z t:Addr} (ht:W.tabIn K x=some (z,t)):d.code=.ref z:=by
 obtain ⟨oc,od,kV,doc,pm,an,cdv,ct,osl,e,lk,hcd⟩:=F.f.ex
 exact W.law_code X G ht (W.mg_of X G F.m) (X _ _ lk) rfl
theorem Fun.bt {p:Str} (F:Fun K x qual st a d) (hb:∀ (kV doc pm:Value) (an:Option Addr) (cdv ct v:Value),bindArgs (W.fnOf x qual (br st) (aT st) (aj st) .none kV doc pm an cdv ct) ⟨[v],[]⟩=pure [(p,v)]:=by intros;rfl) (s:Shared) (v:Value):BindsTo s d ⟨[v],[]⟩ [(p,v)]:=by
 obtain ⟨oc,od,kV,doc,pm,an,cdv,ct,osl,rfl,lk,hcd⟩:=F.ex
 exact .of_eq (hb kV doc pm an cdv ct v)
theorem Fun.b0 (F:Fun K x qual st a d) (hb:∀ (kV doc pm:Value) (an:Option Addr) (cdv ct:Value),bindArgs (W.fnOf x qual (br st) (aT st) (aj st) .none kV doc pm an cdv ct) ⟨[],[]⟩=pure (List.zip [] []):=by intros;rfl):aU K d [] []:=F.binds fun kV doc pm an cdv ct us hl=>by
 obtain rfl:=L2.rO hl
 exact hb kV doc pm an cdv ct
theorem Fa.fm0 (F:Fa K x qual st a d) (X:K.In h) (G:h.Ns mainGlobals mg) (hb:∀ (kV doc pm:Value) (an:Option Addr) (cdv ct:Value),bindArgs (W.fnOf x qual (br st) (aT st) (aj st) .none kV doc pm an cdv ct) ⟨[],[]⟩=pure (List.zip [] []):=by intros;rfl):Fm K mg x qual st a d []:=⟨F.f,W.mg_of X G F.m,F.f.b0 hb⟩
theorem Fun.b1 {p0:Str} (F:Fun K x qual st a d) (hb:∀ (kV doc pm:Value) (an:Option Addr) (cdv ct u0:Value),bindArgs (W.fnOf x qual (br st) (aT st) (aj st) .none kV doc pm an cdv ct) ⟨[u0],[]⟩=pure (List.zip [p0] [u0]):=by intros;rfl):aU K d [p0] []:=F.binds fun kV doc pm an cdv ct us hl=>by
 obtain ⟨u0,rfl⟩:=L2.cM hl
 exact hb kV doc pm an cdv ct u0
theorem Fa.fm1 {p0:Str} (F:Fa K x qual st a d) (X:K.In h) (G:h.Ns mainGlobals mg) (hb:∀ (kV doc pm:Value) (an:Option Addr) (cdv ct u0:Value),bindArgs (W.fnOf x qual (br st) (aT st) (aj st) .none kV doc pm an cdv ct) ⟨[u0],[]⟩=pure (List.zip [p0] [u0]):=by intros;rfl):Fm K mg x qual st a d [p0]:=⟨F.f,W.mg_of X G F.m,F.f.b1 hb⟩
theorem Fun.b2 {p0 p1:Str} (F:Fun K x qual st a d) (hb:∀ (kV doc pm:Value) (an:Option Addr) (cdv ct u0 u1:Value),bindArgs (W.fnOf x qual (br st) (aT st) (aj st) .none kV doc pm an cdv ct) ⟨[u0,u1],[]⟩=pure (List.zip [p0,p1] [u0,u1]):=by intros;rfl):aU K d [p0,p1] []:=F.binds fun kV doc pm an cdv ct us hl=>by
 obtain ⟨u0,u1,rfl⟩:=L2.xm hl
 exact hb kV doc pm an cdv ct u0 u1
theorem Fa.fm2 {p0 p1:Str} (F:Fa K x qual st a d) (X:K.In h) (G:h.Ns mainGlobals mg) (hb:∀ (kV doc pm:Value) (an:Option Addr) (cdv ct u0 u1:Value),bindArgs (W.fnOf x qual (br st) (aT st) (aj st) .none kV doc pm an cdv ct) ⟨[u0,u1],[]⟩=pure (List.zip [p0,p1] [u0,u1]):=by intros;rfl):Fm K mg x qual st a d [p0,p1]:=⟨F.f,W.mg_of X G F.m,F.f.b2 hb⟩
theorem Fun.b3 {p0 p1 p2:Str} (F:Fun K x qual st a d) (hb:∀ (kV doc pm:Value) (an:Option Addr) (cdv ct u0 u1 u2:Value),bindArgs (W.fnOf x qual (br st) (aT st) (aj st) .none kV doc pm an cdv ct) ⟨[u0,u1,u2],[]⟩=pure (List.zip [p0,p1,p2] [u0,u1,u2]):=by intros;rfl):aU K d [p0,p1,p2] []:=F.binds fun kV doc pm an cdv ct us hl=>by
 obtain ⟨u0,u1,u2,rfl⟩:=L2.xG hl
 exact hb kV doc pm an cdv ct u0 u1 u2
theorem Fa.fm3 {p0 p1 p2:Str} (F:Fa K x qual st a d) (X:K.In h) (G:h.Ns mainGlobals mg) (hb:∀ (kV doc pm:Value) (an:Option Addr) (cdv ct u0 u1 u2:Value),bindArgs (W.fnOf x qual (br st) (aT st) (aj st) .none kV doc pm an cdv ct) ⟨[u0,u1,u2],[]⟩=pure (List.zip [p0,p1,p2] [u0,u1,u2]):=by intros;rfl):Fm K mg x qual st a d [p0,p1,p2]:=⟨F.f,W.mg_of X G F.m,F.f.b3 hb⟩
theorem Fun.b4 {p0 p1 p2 p3:Str} (F:Fun K x qual st a d) (hb:∀ (kV doc pm:Value) (an:Option Addr) (cdv ct u0 u1 u2 u3:Value),bindArgs (W.fnOf x qual (br st) (aT st) (aj st) .none kV doc pm an cdv ct) ⟨[u0,u1,u2,u3],[]⟩=pure (List.zip [p0,p1,p2,p3] [u0,u1,u2,u3]):=by intros;rfl):aU K d [p0,p1,p2,p3] []:=F.binds fun kV doc pm an cdv ct us hl=>by
 obtain ⟨u0,u1,u2,u3,rfl⟩:=L2.xO hl
 exact hb kV doc pm an cdv ct u0 u1 u2 u3
theorem Fun.b5 {p0 p1 p2 p3 p4:Str} (F:Fun K x qual st a d) (hb:∀ (kV doc pm:Value) (an:Option Addr) (cdv ct u0 u1 u2 u3 u4:Value),bindArgs (W.fnOf x qual (br st) (aT st) (aj st) .none kV doc pm an cdv ct) ⟨[u0,u1,u2,u3,u4],[]⟩=pure (List.zip [p0,p1,p2,p3,p4] [u0,u1,u2,u3,u4]):=by intros;rfl):aU K d [p0,p1,p2,p3,p4] []:=F.binds fun kV doc pm an cdv ct us hl=>by
 obtain ⟨u0,u1,u2,u3,u4,rfl⟩:=L2.xw hl
 exact hb kV doc pm an cdv ct u0 u1 u2 u3 u4
theorem Fa.fm5 {p0 p1 p2 p3 p4:Str} (F:Fa K x qual st a d) (X:K.In h) (G:h.Ns mainGlobals mg) (hb:∀ (kV doc pm:Value) (an:Option Addr) (cdv ct u0 u1 u2 u3 u4:Value),bindArgs (W.fnOf x qual (br st) (aT st) (aj st) .none kV doc pm an cdv ct) ⟨[u0,u1,u2,u3,u4],[]⟩=pure (List.zip [p0,p1,p2,p3,p4] [u0,u1,u2,u3,u4]):=by intros;rfl):Fm K mg x qual st a d [p0,p1,p2,p3,p4]:=⟨F.f,W.mg_of X G F.m,F.f.b5 hb⟩
theorem Fun.b6 {p0 p1 p2 p3 p4 p5:Str} (F:Fun K x qual st a d) (hb:∀ (kV doc pm:Value) (an:Option Addr) (cdv ct u0 u1 u2 u3 u4 u5:Value),bindArgs (W.fnOf x qual (br st) (aT st) (aj st) .none kV doc pm an cdv ct) ⟨[u0,u1,u2,u3,u4,u5],[]⟩=pure (List.zip [p0,p1,p2,p3,p4,p5] [u0,u1,u2,u3,u4,u5]):=by intros;rfl):aU K d [p0,p1,p2,p3,p4,p5] []:=F.binds fun kV doc pm an cdv ct us hl=>by
 obtain ⟨u0,u1,u2,u3,u4,u5,rfl⟩:=L2.ED hl
 exact hb kV doc pm an cdv ct u0 u1 u2 u3 u4 u5
theorem Fa.fm6 {p0 p1 p2 p3 p4 p5:Str} (F:Fa K x qual st a d) (X:K.In h) (G:h.Ns mainGlobals mg) (hb:∀ (kV doc pm:Value) (an:Option Addr) (cdv ct u0 u1 u2 u3 u4 u5:Value),bindArgs (W.fnOf x qual (br st) (aT st) (aj st) .none kV doc pm an cdv ct) ⟨[u0,u1,u2,u3,u4,u5],[]⟩=pure (List.zip [p0,p1,p2,p3,p4,p5] [u0,u1,u2,u3,u4,u5]):=by intros;rfl):Fm K mg x qual st a d [p0,p1,p2,p3,p4,p5]:=⟨F.f,W.mg_of X G F.m,F.f.b6 hb⟩
theorem Fun.okS {CX:CXT} {N:List Str} {k:Nat} {sp:Sp} {t:TS} (F:Fun K x qual st a d) (S:ay N ps (aj st)) (len:∀ vs H Q E,sp vs H Q E→vs.length=ps.length)
  (hrd:∀ (vs:List V) (H:Hp) (Q:VK) (E:XK),sp vs H Q E→t { nx:=fun _ H'=>Q .non H',rt:=Q } (bX N vs) H)
  (hq:∀ (cdv:Value) (A:Around) (outer:List Env) (s:Shared) (H:Hp) (E:XK),aW k (A.deeper (envOfC qual (aj st) s.heap.objs.size a cdv))→QSs (eC CX P w K mg base N qual (aj st) a cdv A outer s H E).nox (aT st) t):aN P w K mg base CX (k+1) a d ps sp:=
 F.okN S len fun cdv A outer s H vs Q E hr h=>⟨t,(hq cdv A outer s H E hr).out,hrd vs H Q E h⟩
end
section
variable {X:Cx} {x q:Str} {e:Expr} {es:List Expr} {t:TA} {p pos:Pos} {st:Stmt} {f:Addr} {fd:FuncData} {ps:List Str} {k:Nat} {sp:Sp}
theorem bi {P:Program} {w:World} (F:aN X.prog X.w X.K X.mg X.base (CX1 P w) k f fd ps sp) (hr:aW k X.A) (M:Fm X.K X.mg x q st f fd ps)
 (ha:QA X (e::es) t) (hg:Gl X x:=by rfl) (hdb:(x==("__debug__" :Str))=false:=by decide) (hs:aX (e::es)=true:=by rfl):QE X (.Call (.Name x p) (e::es) [] pos) (aA sp (fun _=>E0) t):=ym F hr M.m M.f.kp M.b aF ha hg hdb hs
end
section
variable {X:Cx} {a:Expr} {t:TA} {p1 p2 pos1 pos2:Pos}
theorem pR:bootBuiltins "list" =some (.type "list"):=by decide +kernel
end
section
variable {X:Cx} {a b:Expr} {t:TA} {p pos ep:Pos} {elts:List Expr} {ek:Nat}
def mV (K:W.Frag) (t:TA):TI:=fun σ H R=>t σ H fun vs H1=>(∃ c d xs ys,vs=[.ref c,.ref d]∧SqT K H1 c xs∧SqT K H1 d ys∧R (Itz K c d) H1)∨(∃ c d xs ys,vs=[.ref c,.ref d]∧SqL K H1 c xs∧SqL K H1 d ys∧R (ju K c d) H1)
theorem nC (hm:X.mg "zip" =none) (ha:QA X [a,b] t) (hg:Gl X "zip" :=by rfl) (hs:aX [a,b]=true:=by rfl):QI X (.Tuple elts ek ep) (.Call (.Name "zip" p) [a,b] [] pos) (mV X.K t):=⟨fun pins s σ H R I h=>by
 have h':(bA a&&aX [b])=true:=hs
 refine wpAny_Call_Name_kw (gk I hg hm BP ?_ (by decide) (by decide))
 exact PyProof.Rows.callWith_type1 (thn (ha.out pos pins s σ H _ I h) fun us s1 ⟨vs,H1,I1,r1,q1⟩=>q1.elim (uU pins s1 σ H1 us vs R I1 r1) (sM pins s1 σ H1 us vs R I1 r1))
  (aO (Bool.and_eq_true_iff.mp h').1 [b] X.env) (bD (Bool.and_eq_true_iff.mp h').2)⟩
end
def cR (L:List (Addr×Sp)) (m:Str) (E:St→XK) (ta:TE) (t:TA):TE:=fun σ H Q=>ta σ H fun x H1=>∃ a C dx fs sp,x=.ref a∧H1 a=some (.ins C dx fs)∧(C,sp)∈L∧fs.lookup m=none∧t σ H1 fun vs H2=>sp (x::vs) H2 Q (E σ)
def MD (X:Cx) (m:Str) (E:St→XK) (p:Addr×Sp):Prop:=∃ CX k f fd ps,Cls X.K p.1∧cH X.K p.1 m f∧aN X.prog X.w X.K X.mg X.base CX k f fd ps p.2∧aW k X.A∧aU X.K fd ps []∧dM CX X E
structure xH (K:W.Frag) (C:Addr) (m:Str) (f:Addr):Prop where
 ga:W.specialIn K (.ref C) "__getattribute__" =some (some (.builtin "type.__getattribute__"))
 rd:W.readsIn K C (.type "type")=true
 at_:W.findCls K (.ref C) (.type "type") m=some (.val (.ref f))
 ho:W.handedIn (.ref f)=true
 kp:W.keepIn K (.ref f)=true
structure iQ (K:W.Frag) (C:Addr):Prop where
 cl:W.findIn K (.ref C) "__class__" =some (some (.builtin "object.__class__"))
 gt:W.specialIn K (.builtin "object.__class__") "__get__" =some (some (.builtin "getset_descriptor.__get__"))
 tk:W.takesIn K (.builtin "object.__class__")=some true
 mo:W.mroIn K C (.type "object")=some true
section
variable {X:Cx} {CX:CXT} {k:Nat} {f C:Addr} {fd:FuncData} {ps:List Str} {sp:Sp} {E:St→XK} {x m:Str} {p pos apos:Pos} {e:Expr} {es:List Expr} {t u:TE} {ta:TA}
theorem mdn {L:List (Addr×Sp)} (h:L=[]):∀ p∈L,MD X m E p:=fun p hp=>by subst h;cases hp
theorem mdc {L:List (Addr×Sp)} (c:Cls X.K C) (hm:cH X.K C m f) (F:aN X.prog X.w X.K X.mg X.base CX k f fd ps sp) (hr:aW k X.A) (hb:aU X.K fd ps []) (hx:dM CX X E) (h:∀ p∈L,MD X m E p):∀ p∈(C,sp)::L,MD X m E p:=fun p hp=>by
 rcases List.mem_cons.mp hp with rfl | hp
 · exact ⟨_,_,_,_,_,c,hm,F,hr,hb,hx⟩
 · exact h p hp
theorem fg {L : List (Addr × Sp)} {o : Expr} {to : TE} {pl : Sem Bool} (he : QE X o to) (hL : ∀ p ∈ L, MD X m E p) (ha : QA X (e :: es) ta) (hs : aX (e :: es) = true := by rfl)
  (ht : eval (.Call (.Attribute o m apos) (e :: es) [] pos) X.env = (do
   let ov ← eval o X.env
   standAt apos.atName
   let (f, first) ← holding [ov] (getMethod ov m pl)
   callWith pos f first (backTo pos (starEach (e :: es) X.env)) (backToKw pos (keywordEach [] X.env))) := by rfl) :
  QE X (.Call (.Attribute o m apos) (e :: es) [] pos) (cR L m E to ta) := ⟨fun pins s σ H Q I h => by
 have h' : (bA e && aX es) = true := hs
 refine W.methodCall_KW (pl := pl) (thn (he.out pins s σ H _ I h) fun u s1 ⟨x, H1, I1, rx, a, C, dx, fs, sp, ex, ea, hC, l, q⟩ => ?_) ht
 subst ex
 obtain rfl : u = Value.ref a := rx
 obtain ⟨CX, k, f, fd, ps, c, hm, F, hr, hb, hx⟩ := hL _ hC
 refine ig I1 ea c hm l ?_
 refine W.callWith_K (first := [.ref a]) (h₀ := X.base) I.ok.mod.kin hm.kp (thn (ha.out pos pins s1 σ H1 _ I1 q) fun us s2 ⟨vs, H2, I2, r, q2⟩ => ⟨I2.kIn, ?_⟩)
  (aO (Bool.and_eq_true_iff.mp h').1 es X.env) (bD (Bool.and_eq_true_iff.mp h').2)
 exact ff (us := .ref a :: us) (vs := .ref a :: vs) F hr hb hx I2 (.cons rfl r) q2⟩
theorem jC {L : List (Addr × Sp)} {o : Expr} {to : TE} {pl : Sem Bool} (he : QE X o to) (hL : ∀ p ∈ L, MD X m E p)
  (ht : eval (.Call (.Attribute o m apos) [] [] pos) X.env = (do
   let ov ← eval o X.env
   standAt apos.atName
   let (f, first) ← holding [ov] (getMethod ov m pl)
   callWith pos f first (backTo pos (starEach [] X.env)) (backToKw pos (keywordEach [] X.env))) := by rfl) :
  QE X (.Call (.Attribute o m apos) [] [] pos) (cR L m E to ai) := ⟨fun pins s σ H Q I h => by
 refine W.methodCall_KW (pl := pl) (thn (he.out pins s σ H _ I h) fun u s1 ⟨x, H1, I1, rx, a, C, dx, fs, sp, ex, ea, hC, l, q⟩ => ?_) ht
 subst ex
 obtain rfl : u = Value.ref a := rx
 obtain ⟨CX, k, f, fd, ps, c, hm, F, hr, hb, hx⟩ := hL _ hC
 refine ig I1 ea c hm l ?_
 exact W.callWith_K0 (first := [.ref a]) I1.kIn hm.kp (ff (us := [.ref a]) (vs := [.ref a]) F hr hb hx I1 (.cons rfl .nil) q)⟩
theorem ny {pl : Sem Bool} (hm : X.mg x = some (.ref C)) (c : xH X.K C m f) (F : aN X.prog X.w X.K X.mg X.base CX k f fd ps sp) (hr : aW k X.A) (hb : aU X.K fd ps []) (hx : dM CX X E) (ha : QA X (e :: es) ta)
  (hg : Gl X x := by rfl) (hd : (x == ("__debug__" : Str)) = false := by decide) (hs : aX (e :: es) = true := by rfl)
  (ht : eval (.Call (.Attribute (.Name x p) m apos) (e :: es) [] pos) X.env = (do
   let ov ← eval (.Name x p) X.env
   standAt apos.atName
   let (f, first) ← holding [ov] (getMethod ov m pl)
   callWith pos f first (backTo pos (starEach (e :: es) X.env)) (backToKw pos (keywordEach [] X.env))) := by rfl) :
  QE X (.Call (.Attribute (.Name x p) m apos) (e :: es) [] pos) (aA sp E ta) := ⟨fun pins s σ H Q I h => by
 have h' : (bA e && aX es) = true := hs
 refine W.methodCall_KW (pl := pl) (thn ((lI (v := .ref C) hg hm rfl hd) pins s σ H (fun v H1 => v = .ref C ∧ H1 = H) I ⟨rfl, rfl⟩) fun u s1 ⟨v, H1, I1, rv, ev, eH⟩ => ?_) ht
 subst ev eH
 obtain rfl : u = Value.ref C := rv
 refine W.method_cls I1.kIn c.ga (W.cls_value I1.kIn c.rd c.at_ c.ho ?_)
 refine W.callWith_K (first := []) (h₀ := X.base) I.ok.mod.kin c.kp (thn (ha.out pos pins _ σ H1 _ (I1.tok _) h) fun us s2 ⟨vs, H2, I2, r, q2⟩ => ⟨I2.kIn, ?_⟩)
  (aO (Bool.and_eq_true_iff.mp h').1 es X.env) (bD (Bool.and_eq_true_iff.mp h').2)
 exact ff F hr hb hx I2 r q2⟩
def fK (K:W.Frag):List V→Hp→VK→Prop:=fun xs H Q=>∃ a C dx fs D b,xs=[.ref a,.ref D]∧H a=some (.ins C dx fs)∧Cls K C∧iQ K C∧W.kitOne K (.ref C) (.ref D)=some b∧Q (.bl b) H
theorem gz:bo X (.builtin "isinstance") (fK X.K):=fun pins s σ H xs us Q I r h=>by
 obtain ⟨a,C,dx,fs,D,b,rfl,ha,hC,G,hk,q⟩:=h
 obtain ⟨u,w',rfl,r1,r2⟩:=gN r
 cases (show w'=Value.ref D from r2)
 cases (show u=Value.ref a from r1)
 obtain ⟨mA,O,_,_,_,_⟩:=gi I.hok ha
 obtain ⟨od,IA,_⟩:=O.look
 exact W.kia_one (W.kitx_own (hC.get _) hC.hd G.cl G.gt G.tk G.mo) I.kIn IA hk (fun z=>nomatch z) fun tk=>⟨.bl _,H,I.tok tk,rfl,q⟩
end
end L2
namespace L2
open PySem PySem.Spec PyProof.Rows PySem.W
def bj {α:Type} (c:Nat→Nat→Bool) (n:Nat):KasT α→(α→Prop)→Prop
 | .ret a,Q=>Q a
 | .ask i j k,Q=>i<n∧j<n∧i≠j∧bj c n (k (c i j)) Q
theorem bj.bind {α β:Type} {c:Nat→Nat→Bool} {n:Nat} {f:α→KasT β} {Q:β→Prop}:∀ {t:KasT α},bj c n t (fun a=>bj c n (f a) Q)→bj c n (t.bind f) Q
 | .ret _,h=>h
 | .ask _ _ _,h=>⟨h.1,h.2.1,h.2.2.1,bj.bind h.2.2.2⟩
theorem bj.mono {α:Type} {c:Nat→Nat→Bool} {n:Nat} {Q Q':α→Prop} (q:∀ a,Q a→Q' a):∀ {t:KasT α},bj c n t Q→bj c n t Q'
 | .ret _,h=>q _ h
 | .ask _ _ _,h=>⟨h.1,h.2.1,h.2.2.1,bj.mono q h.2.2.2⟩
section
variable {key:Nat→Int} {n:Nat}
structure Pm (n:Nat) (p:Array Nat):Prop where
 sz:p.size=n
 pm:p.toList.Perm (List.range n)
def at' (p:Array Nat) (i:Nat):Nat:=p.getD i 0
theorem eR {p:Array Nat} {i:Nat} (h:i<p.size):p[i]?=some (at' p i):=by
 unfold at';rw [Array.getD_eq_getD_getElem?,Array.getElem?_eq_getElem h];rfl
theorem mX {p:Array Nat} {i x:Nat} (h:p[i]?=some x):at' p i=x:=by
 unfold at';rw [Array.getD_eq_getD_getElem?,h];rfl
theorem Pm.lt {p:Array Nat} (h:Pm n p) {i:Nat} (hi:i<n):at' p i<n:=by
 have e:=eR (p:=p) (i:=i) (by rw [h.sz];exact hi)
 have m:at' p i∈p.toList:=List.mem_of_getElem? (by rw [Array.getElem?_toList];exact e)
 exact List.mem_range.mp (h.pm.mem_iff.mp m)
theorem Pm.ne {p:Array Nat} (h:Pm n p) {i j:Nat} (hi:i<n) (hj:j<n) (d:i≠j):at' p i≠at' p j:=fun e=>by
 have nd:p.toList.Nodup:=h.pm.nodup_iff.mpr List.nodup_range
 have e1:=eR (p:=p) (i:=i) (by rw [h.sz];exact hi)
 have e2:=eR (p:=p) (i:=j) (by rw [h.sz];exact hj)
 rw [e,←e2,←Array.getElem?_toList,←Array.getElem?_toList] at e1
 exact d ((List.getElem?_inj (by rw [Array.length_toList,h.sz];exact hi) nd).mp e1)
theorem Pm.of {p q:Array Nat} (h:Pm n p) (e:q.Perm p):Pm n q:=⟨by rw [e.size_eq];exact h.sz,(Array.perm_iff_toList_perm.mp e).trans h.pm⟩
def Up (key:Nat→Int) (p:Array Nat) (m:Nat):Prop:=∀ i j,i<j→j<m→key (at' p i)<key (at' p j)
abbrev cK (key:Nat→Int):Nat→Nat→Bool:=fun i j=>decide (key i<key j)
theorem bj.ask {α:Type} {i j:Nat} {k:Bool→KasT α} {Q:α→Prop} (hi:i<n) (hj:j<n) (hd:i≠j) (h1:key i<key j→bj (cK key) n (k true) Q) (h2:¬ key i<key j→bj (cK key) n (k false) Q):bj (cK key) n (.ask i j k) Q:=by
 refine ⟨hi,hj,hd,?_⟩
 show bj (cK key) n (k (decide (key i<key j))) Q
 by_cases c:key i<key j
 · rw [decide_eq_true c];exact h1 c
 · rw [decide_eq_false c];exact h2 c
theorem kT {α:Type} {a b:KasT α} {Q:α→Prop} (h:bj (cK key) n a Q):bj (cK key) n (if true=true then a else b) Q:=h
theorem kF {α:Type} {a b:KasT α} {Q:α→Prop} (h:bj (cK key) n b Q):bj (cK key) n (if false=true then a else b) Q:=h
variable (inj:∀ i j,i<n→j<n→key i=key j→i=j)
include inj
theorem qZ {p:Array Nat} (h:Pm n p) {i j:Nat} (hi:i<n) (hj:j<n) (d:i≠j) (c:¬ key (at' p i)<key (at' p j)):key (at' p j)<key (at' p i):=by
 have:key (at' p i)≠key (at' p j):=fun z=>h.ne hi hj d (inj _ _ (h.lt hi) (h.lt hj) z)
 omega
theorem iw {p : Array Nat} (h : Pm n p) : ∀ f m, 1 ≤ m → m + f = n → Up key p m → bj (cK key) n (kas_asc p f m) (fun r => m ≤ r ∧ r ≤ n ∧ Up key p r ∧ (r = n ∨ key (at' p r) < key (at' p (r - 1))))
  | 0, m, _, e, u => ⟨Nat.le_refl _, by omega, u, .inl (by omega)⟩
  | f + 1, m, m1, e, u => bj.ask (h.lt (by omega)) (h.lt (by omega)) (h.ne (by omega) (by omega) (by omega)) (fun c => kT ⟨Nat.le_refl _, by omega, u, .inr c⟩) fun c => by
    have lt := qZ inj h (i := m) (j := m - 1) (by omega) (by omega) (by omega) c
    refine kF (bj.mono (fun r x => ⟨by omega, x.2⟩) (iw h f (m + 1) (by omega) (by omega) fun i j hij hj => ?_))
    rcases Nat.lt_or_ge j m with q | q
    · exact u i j hij q
    · have : j = m := by omega
      subst this
      rcases Nat.lt_or_ge i (j - 1) with z | z
      · exact Int.lt_trans (u i (j - 1) z (by omega)) lt
      · have : i = j - 1 := by omega
        rw [this]; exact lt
def wD (key:Nat→Int) (p:Array Nat) (m:Nat):Prop:=∀ i j,i<j→j<m→key (at' p j)<key (at' p i)
theorem pS {p:Array Nat} (h:Pm n p):∀ f m,1≤m→m+f=n→wD key p m→bj (cK key) n (kas_desc f p m 0) (fun r=>r.1=p∧r.2.2=0∧m≤r.2.1∧r.2.1≤n∧wD key p r.2.1)
 | 0,m,_,e,u=>⟨rfl,rfl,Nat.le_refl _,(show m≤n by omega),u⟩
 | f+1,m,m1,e,u=>bj.ask (h.lt (by omega)) (h.lt (by omega)) (h.ne (by omega) (by omega) (by omega)) (fun c=>kT (by
  rw [if_neg (by decide)]
  refine bj.mono (fun r x=>⟨x.1,x.2.1,by omega,x.2.2.2⟩) (pS h f (m+1) (by omega) (by omega) fun i j hij hj=>?_)
  rcases Nat.lt_or_ge j m with q | q
  · exact u i j hij q
  · have:j=m:=by omega
    subst this
    rcases Nat.lt_or_ge i (j - 1) with z | z
    · exact Int.lt_trans c (u i (j - 1) z (by omega))
    · have:i=j - 1:=by omega
      rw [this];exact c)) fun c=>kF (bj.ask (h.lt (by omega)) (h.lt (by omega)) (h.ne (by omega) (by omega) (by omega)) (fun _=>kT ⟨rfl,rfl,Nat.le_refl _,(show m≤n by omega),u⟩) fun c'=>absurd (qZ inj h (i:=m) (j:=m - 1) (by omega) (by omega) (by omega) c) c')
omit inj in
theorem tG {p:Array Nat} {m i:Nat} (hm:m≤p.size) (hi:i<p.size):at' (kas_rev p 0 m) i=if i<m then at' p (m - 1 - i) else at' p i:=by
 have e:=getElem?_mirror_all (xs:=p) (i:=0) (j:=m) hm i
 refine mX ?_
 unfold kas_rev
 rw [Nat.sub_zero] at e ⊢
 rw [e]
 by_cases q:i<m
 · rw [if_pos ⟨Nat.zero_le _,q⟩,if_pos q,eR (by omega)]
   congr 2;omega
 · rw [if_neg (fun z=>q z.2),if_neg q,eR hi]
theorem jH {p : Array Nat} {k : Nat} (h : Pm n p) (hk : k < n) (u : Up key p k) : ∀ f l r, l ≤ r → r ≤ k → r - l ≤ f → (∀ i, i < l → key (at' p i) < key (at' p k)) → (∀ i, r ≤ i → i < k → key (at' p k) < key (at' p i)) →
    bj (cK key) n (kas_place p k f l r) (fun x => x ≤ k ∧ (∀ i, i < x → key (at' p i) < key (at' p k)) ∧ ∀ i, x ≤ i → i < k → key (at' p k) < key (at' p i))
  | 0, l, r, hl, hr, hf, a, b => ⟨by omega, a, fun i h1 h2 => b i (by omega) h2⟩
  | f + 1, l, r, hl, hr, hf, a, b => by
    unfold kas_place
    by_cases q : l ≥ r
    · rw [if_pos q]; exact ⟨by omega, a, fun i h1 h2 => b i (by omega) h2⟩
    rw [if_neg q]
    have g1 : (l + r) / 2 < r := by omega
    have g2 : l ≤ (l + r) / 2 := by omega
    refine bj.ask (h.lt hk) (h.lt (by omega)) (h.ne hk (by omega) (by omega)) (fun c => kT ?_) (fun c => kF ?_)
    · refine jH h hk u f l ((l + r) / 2) g2 (by omega) (by omega) a fun i h1 h2 => ?_
      rcases Nat.lt_or_ge ((l + r) / 2) i with z | z
      · exact Int.lt_trans c (u _ _ z h2)
      · have : i = (l + r) / 2 := by omega
        rw [this]; exact c
    · have lt := qZ inj h (i := k) (j := (l + r) / 2) hk (by omega) (by omega) c
      refine jH h hk u f ((l + r) / 2 + 1) r (by omega) hr (by omega) (fun i h1 => ?_) b
      rcases Nat.lt_or_ge i ((l + r) / 2) with z | z
      · exact Int.lt_trans (u _ _ z (by omega)) lt
      · have : i = (l + r) / 2 := by omega
        rw [this]; exact lt
omit inj in
theorem rP {p:Array Nat} {k d i:Nat} (hk:k<p.size) (hd:d≤k) (hi:i<p.size):at' (bubble p k d) i=if i=k - d then at' p k else if k - d<i∧i≤k then at' p (i - 1) else at' p i:=by
 refine mX ?_
 rw [getElem?_bubble hk d hd i]
 by_cases q:i=k - d
 · rw [if_pos q,if_pos q];exact eR hk
 · rw [if_neg q,if_neg q]
   by_cases z:k - d<i∧i≤k
   · rw [if_pos z,if_pos z];exact eR (by omega)
   · rw [if_neg z,if_neg z];exact eR hi
theorem rW : ∀ f (p : Array Nat) k, Pm n p → k + f = n → Up key p k → bj (cK key) n (kas_bin f p k) (fun q => Pm n q ∧ Up key q n)
  | 0, p, k, h, e, u => ⟨h, by rw [← e]; exact u⟩
  | f + 1, p, k, h, e, u => by
    have hk : k < n := by omega
    refine bj.bind (bj.mono (fun x ⟨xk, a, b⟩ => ?_) (jH inj h hk u k 0 k (Nat.zero_le _) (Nat.le_refl _) (Nat.le_refl _) (fun i hi => absurd hi (Nat.not_lt_zero _)) fun i h1 h2 => by omega))
    refine rW f _ (k + 1) (h.of (bubble_perm _ _ _)) (by omega) fun i j hij hj => ?_
    have hs := h.sz
    rw [rP (by omega) (Nat.sub_le _ _) (by omega), rP (by omega) (Nat.sub_le _ _) (by omega), show k - (k - x) = x by omega]
    by_cases i1 : i = x
    · rw [if_pos i1, if_neg (by omega), if_pos ⟨by omega, by omega⟩]
      exact b _ (by omega) (by omega)
    · rw [if_neg i1]
      by_cases i2 : x < i ∧ i ≤ k
      · rw [if_pos i2, if_neg (by omega), if_pos ⟨by omega, by omega⟩]
        exact u _ _ (by omega) (by omega)
      · rw [if_neg i2]
        by_cases j1 : j = x
        · rw [if_pos j1]; exact a _ (by omega)
        · rw [if_neg j1]
          by_cases j2 : x < j ∧ j ≤ k
          · rw [if_pos j2]
            exact u _ _ (by omega) (by omega)
          · rw [if_neg j2]
            exact u _ _ hij (by omega)
omit inj in
theorem vd:Pm n (List.toArray (List.range n)):=⟨by simp,by simp⟩
theorem oU {p:Array Nat} (h:Pm n p) (n2:2≤n) (d:key (at' p 1)<key (at' p 0)):bj (cK key) n (kas_descPart 1 n p) (fun r=>Pm n r.2∧1≤r.1∧r.1≤n∧Up key r.2 r.1):=by
 unfold kas_descPart
 have dn0:wD key p 2:=fun i j hij hj=>by
  have hi:i=0:=by omega
  have hj:j=1:=by omega
  rw [hi,hj];exact d
 refine bj.bind (bj.mono (fun r ⟨e1,e2,m1,m2,dn⟩=>?_) (pS inj h (n - (1+1)) 2 (by omega) (by omega) dn0))
 rw [e2,if_neg (by decide),e1]
 unfold kas_tail3
 have h':Pm n (kas_rev p 0 r.2.1):=h.of (mirror_perm _ _ _ _)
 have hs:=h.sz
 have up0:Up key (kas_rev p 0 r.2.1) r.2.1:=fun i j hij hj=>by
  rw [tG (by omega) (by omega),tG (by omega) (by omega),if_pos (by omega),if_pos hj]
  exact dn _ _ (by omega) (by omega)
 exact bj.bind (bj.mono (fun m ⟨g1,g2,g3,_⟩=>⟨h',(show 1≤m by omega),g2,g3⟩) (iw inj h' (n - r.2.1) r.2.1 (by omega) (by omega) up0))
theorem uG (n2:2≤n):bj (cK key) n (kas_count n (List.toArray (List.range n))) (fun r=>Pm n r.2∧1≤r.1∧r.1≤n∧Up key r.2 r.1):=by
 have h:=vd (n:=n)
 unfold kas_count
 refine bj.bind (bj.mono (fun m ⟨m1,m2,u,st⟩=>?_) (iw inj h (n - 1) 1 (Nat.le_refl _) (by omega) fun i j hij hj=>absurd hj (by omega)))
 by_cases q:m=n
 · rw [if_pos (by rw [q];exact beq_self_eq_true n)]
   exact ⟨h,m1,m2,u⟩
 · rw [if_neg (fun z=>q (beq_iff_eq.mp z))]
   by_cases q1:m>1
   · rw [if_pos q1]
     exact bj.ask (h.lt (by omega)) (h.lt (by omega)) (h.ne (by omega) (by omega) (by omega)) (fun _=>kT ⟨h,m1,m2,u⟩) fun c=>absurd (u 0 (m - 1) (by omega) (by omega)) c
   · rw [if_neg q1]
     have:m=1:=by omega
     subst this
     exact oU inj h n2 (st.resolve_left q)
theorem yi (n2:2≤n):bj (cK key) n (kas_sort n) (fun p=>Pm n p∧Up key p n):=by
 unfold kas_sort
 refine bj.bind (bj.mono (fun r ⟨g1,g2,g3,g4⟩=>?_) (uG inj n2))
 by_cases q:r.1<n
 · rw [if_pos q,show max r.1 1=r.1 by omega]
   exact rW inj _ _ _ g1 (by omega) g4
 · rw [if_neg q]
   have:r.1=n:=by omega
   exact ⟨g1,by rw [← this];exact g4⟩
end
end L2
namespace HT
open PySem PySem.Calls PySem.W PyProof.Rows L2
section
variable {prog:Program} {w:World} {A:Around} {E:Value→Shared→Prop} {s:Shared}
theorem pM {κ:SortKind} {vs:List Value} {c:Nat→Nat→Bool} {n:Nat} {Q:Array Nat→Prop} {G:Array Nat→Shared→Prop} (hc:∀ i j (C:Bool→Shared→Prop),i<n→j<n→i≠j→C (c i j) s→kas_ask prog w A κ vs i j C s) (hQ:∀ p,Q p→G p s):
  ∀ {t:KasT (Array Nat)},bj c n t Q→t.kasWp (kas_ask prog w A κ vs) G s
 | .ret p,h=>hQ p h
 | .ask i j k,h=>hc i j _ h.1 h.2.1 h.2.2.1 (pM hc hQ h.2.2.2)
theorem jF {as:List Addr} {i:Nat} (h:i<as.length):∃ a,as[i]?=some a∧(as.map Value.ref).getD i Value.none=.ref a:=by
 refine ⟨as[i],List.getElem?_eq_getElem h,?_⟩
 rw [List.getD_eq_getElem?_getD,List.getElem?_map,List.getElem?_eq_getElem h];rfl
theorem sw (vs:List Value):(pairsOf vs).map (·.2)=vs.toArray:=by
 apply Array.toList_inj.mp
 rw [Array.toList_map,pairsOf_toList,←List.unzip_snd,List.unzip_zip rfl]
theorem kM {α:Type} (l:List α) (d:α):(List.range l.length).map (fun i=>l.getD i d)=l:=by
 refine List.ext_getElem (by simp) fun i h1 h2=>?_
 rw [List.getElem_map,List.getElem_range,List.getD_eq_getElem?_getD,List.getElem?_eq_getElem h2];rfl
end
end HT
namespace L2
open PySem PySem.Spec PyProof.Rows PySem.W
section
variable {X:Cx} {pins:List (Addr×Obj)} {σ:St} {H:Hp} {s:Shared} {h':Heap} {tk:Nat}
theorem aQ.there {P:Program} {w:World} {h:Heap} {a:Addr} {o:HO} (x:aQ P w H h a o):∃ q,h.get? a=some q:=by
 cases o with
 | lst xs=>obtain ⟨_,_,_,_,e⟩:=x;exact ⟨_,e⟩
 | tup xs=>obtain ⟨_,_,_,o,e,_⟩:=x;exact ⟨_,e⟩
 | dK kvs=>obtain ⟨_,_,_,_,o,_,_,e,_⟩:=x;exact ⟨_,e⟩
 | dT kvs=>obtain ⟨_,_,_,_,o,_,_,e,_⟩:=x;exact ⟨_,e⟩
 | set S n=>obtain ⟨o,_,_,_,e,_⟩:=x;exact ⟨_,e⟩
 | ins C dx fs=>obtain ⟨_,_,_,e,_⟩:=x;exact ⟨_,e⟩
 | own y=>exact x
 | xd fs=>obtain ⟨_,⟨_,_,_,e,_⟩,_⟩:=x;exact ⟨_,e⟩
 | rng lo hi=>obtain ⟨_,_,_,e⟩:=x;exact ⟨_,e⟩
 | frz ob u=>exact ⟨_,x.1⟩
 | tbl ps=>exact ⟨_,x⟩
 | met f y=>exact ⟨_,x⟩
 | ext φ=>exact x.2.1
def New (h:Heap) (a:Addr):Prop:=∀ b u,h.get? b=some u→b≠a
theorem New.free {a:Addr} (n:New s.heap a) (I:Inv X pins σ H s):H a=none:=by
 cases e:H a with
 | none=>rfl
 | some o=>obtain ⟨q,z⟩:=(I.hok a o e).there;exact absurd rfl (n a q z)
theorem New.le {h:Heap} {a:Addr} (l:h.objs.size≤a):New h a:=fun b u e=>Nat.ne_of_lt (Nat.lt_of_lt_of_le (Heap.lt_size e) l)
theorem Inv.track3 {a:Addr} {o:HO} {H1:Hp} {s0:Shared} (I0:Inv X pins σ H1 s0) (I:Inv X pins σ H s) (ne:New s0.heap a) (hn:H a=none) (ok:aQ X.prog X.w (upd H a o) s.heap a o):Inv X pins σ (upd H a o) s:=by
 have nL:X.env.locals≠a:=let ⟨m,⟨o',_,_,e,_⟩,_⟩:=I0.loc;ne _ _ e
 refine ⟨I.ok,I.os,I.bare,⟨I.base.keep,I.base.slot,fun b u e n hx=>?_,I.base.there,fun b xs e=>?_,fun b u v e=>?_,fun b ps e=>?_⟩,I.loc,I.cell,?_,fun x c e=>?_,fun p hp=>?_,fun b u e=>?_,I.len⟩
 · obtain ⟨o',e'⟩:=I0.base.there b u e hx
   rw [ak (ne b o' e')];exact I.base.free b u e n hx
 · have:=I.base.tups b xs e
   rw [ak (ar this hn)];exact this
 · have:=I.base.frzs b u v e
   rw [ak (ar this hn)];exact this
 · obtain ⟨more,this⟩:=I.base.tbls b ps e
   exact ⟨more,by rw [ak (ar this hn)];exact this⟩
 · rw [ak nL];exact I.free
 · obtain ⟨v,o',e',_⟩:=I0.cell x c e
   rw [ak (ne _ _ e')];exact I.freeC x c e
 · obtain ⟨h1,h2,h3⟩:=I.pin p hp
   exact ⟨h1,by rw [ak (ne _ _ (I0.pin p hp).1)];exact h2,h3⟩
 · by_cases hb:b=a
   · subst hb
     rw [af] at e;cases e
     exact ok
   · rw [ak hb] at e
     have nt:∀ c q,H c=some q→upd H a o c=some q:=fun c q z=>by rw [ak (ar z hn)];exact z
     exact (I.hok b u e).stay (fun c v _ q=>q) (fun c q=>nt _ _ q) fun c xs q=>nt _ _ q
def vwO (p a:Addr):HO:=.ext fun h=>h.get? p=some { cls:=.type "dict_items",data:=.fields #[.ref a] }
def ir:V→List V→Hp→VK→Prop:=fun x vs H Q=>∃ a kvs,x=.ref a∧vs=[]∧H a=some (.dK kvs)∧∀ p,H p=none→Q (.ref p) (upd H p (vwO p a))
theorem nZ:MtR X "dict.items" ir:=by
 intro pins s σ H x vs v us Q I rx rv h
 obtain ⟨a,kvs,rfl,rfl,ha,q⟩:=h
 obtain rfl:v=Value.ref a:=rx
 have hus:=rv.zero
 subst hus
 obtain ⟨z,hd,ws,rel,dd⟩:=lc I.hok ha
 refine call_meetsIn PySem.F.slot_dict_items dd.typeIs PySem.F.entry_dict_items (PySem.F.args_dict_items_1 _) (meets_dict_items (ba X.prog X.w) a hd) ⟨⟨ws,dd⟩,?_⟩
 exact ⟨.ref _,_,I.laid (o:=vwO s.heap.objs.size a) (t':=s.toks) (fun b o e=>Heap.get?_push_of_some _ e) (Nat.le_refl _) ⟨Heap.get?_push_size _ rfl,⟨_,Heap.get?_push_size _ rfl⟩,fun h1 h2 e k=>k _ e⟩,rfl,q _ (I.hok.fresh (Nat.le_refl _))⟩
theorem km {as : List Addr} {rs : List (V × V)} {lo : Addr} (I : Inv X pins σ H s) (kk : ∀ b o, s.heap.get? b = some o → h'.get? b = some o) (hlo : s.heap.objs.size ≤ lo) (rise : as.Pairwise (· < ·)) (above : ∀ a ∈ as, lo ≤ a)
    (pr : ∀ (j : Nat) (a : Addr), as[j]? = some a → ∃ r x y, rs[j]? = some r ∧ aE r.1 x ∧ aE r.2 y ∧ h'.get? a = some ({ cls := .type "tuple", data := .seq #[x, y] } : Obj)) :
    ∀ n, n ≤ as.length → ∃ H', aq H H' ∧ (∀ (j : Nat) (a : Addr) (r : V × V), j < n → as[j]? = some a → rs[j]? = some r → H' a = some (.tup [r.1, r.2])) ∧ (∀ b, H b = none → b ∉ as.take n → H' b = none) ∧ Inv X pins σ H' { s with heap := h', toks := tk }
  | 0, _ => ⟨H, .refl H, (fun _ _ _ hj => absurd hj (Nat.not_lt_zero _)), (fun b e _ => e), I.kept kk⟩
  | n + 1, hn => by
    obtain ⟨H1, S1, t1, f1, I1⟩ := km I kk hlo rise above pr n (by omega)
    have hlt : n < as.length := by omega
    have ea : as[n]? = some as[n] := List.getElem?_eq_getElem hlt
    obtain ⟨r, x, y, er, rx, ry, e3⟩ := pr n _ ea
    have ge : s.heap.objs.size ≤ as[n] := Nat.le_trans hlo (above _ (List.mem_of_getElem? ea))
    have nin : as[n] ∉ as.take n := fun hm => by
      obtain ⟨j, hj⟩ := List.mem_iff_getElem?.mp hm
      have hjn : j < n := by have := (List.getElem?_eq_some_iff.mp hj).1; rw [List.length_take] at this; omega
      rw [List.getElem?_take, if_pos hjn] at hj
      have := List.pairwise_iff_getElem.mp rise j n (by omega) hlt hjn
      rw [(List.getElem?_eq_some_iff.mp hj).2] at this
      exact Nat.lt_irrefl _ this
    have hfree : H1 as[n] = none := f1 _ (I.hok.fresh ge) nin
    have I2 : Inv X pins σ (upd H1 as[n] (.tup [r.1, r.2])) { s with heap := h', toks := tk } := Inv.track2 I I1 ge hfree ⟨by show 2 ≤ sizeLine; decide, [x, y], .cons rx (.cons ry .nil), ⟨_, e3, rfl, _, rfl⟩⟩
    refine ⟨_, S1.trans (aq.upd hfree), fun j a r' hj ha hr => ?_, fun b e hb => ?_, I2⟩
    · rcases Nat.lt_or_eq_of_le (Nat.le_of_lt_succ hj) with h | h
      · exact aq.upd hfree _ _ (t1 j a r' h ha hr)
      · subst h
        rw [ea] at ha; cases ha
        rw [er] at hr; cases hr
        exact af
    · have nb : b ≠ as[n] := fun q => hb (by rw [q]; exact List.mem_iff_getElem?.mpr ⟨n, by rw [List.getElem?_take, if_pos (Nat.lt_succ_self _)]; exact ea⟩)
      rw [ak nb]
      exact f1 b e fun q => hb (by rw [List.take_succ]; exact List.mem_append_left _ q)
def cj (rs:List (Int×V)):List (Key×V):=rs.map fun r=>(.inl r.1,r.2)
def tH (rs:List (Int×V)) (H:Hp) (Q:VK):Prop:=
 ∀ (l:Addr) (ps:List Addr) (H':Hp),H l=none→aq H H'→ps.length=rs.length→(∀ (j:Nat) (p:Addr) (r:Int×V),ps[j]?=some p→rs[j]?=some r→H p=none∧H' p=some (.tup [.int r.1,r.2]))→H' l=some (.lst (ps.map V.ref))→Q (.ref l) H'
def gw (K:W.Frag):List V→Hp→VK→Prop:=fun xs H Q=>∃ p a rs,xs=[.ref p]∧H p=some (vwO p a)∧H a=some (.dK (cj rs))∧tH rs H Q
theorem yP {P:Program} {w:World} {i:Int} {v:Value} (h:(ba P w).is (.inl i) v=true):∃ t,v=Value.int i t:=by
 rcases bJ (k:=.inl i) (v:=v) h with ⟨j,t,e,rfl⟩ | ⟨x,t,e,_⟩
 · cases e;exact ⟨t,rfl⟩
 · cases e
theorem Dl {rs : List (Int × V)} {vs : List (Key × Value)} (r : KV (cj rs) vs) {j : Nat} {k : Key} {x : Value} (e : vs[j]? = some (k, x)) : ∃ q, rs[j]? = some q ∧ k = .inl q.1 ∧ aE q.2 x := by
  unfold KV cj at r
  induction rs generalizing vs j with
  | nil => cases r; simp at e
  | cons q rs ih =>
    cases r with
    | cons h t =>
      cases j with
      | zero => cases e; exact ⟨q, rfl, h.1.symm, h.2⟩
      | succ j => exact ih t (by simpa using e)
theorem AT {rs:List (Int×V)} {vs:List (Key×Value)} (r:KV (cj rs) vs):vs.length=rs.length:=by
 rw [← r.length];unfold cj;rw [List.length_map]
theorem lT (as:List Addr):aG (as.map V.ref) (as.map Value.ref):=by
 induction as with
 | nil=>exact .nil
 | cons a r ih=>exact .cons rfl ih
theorem rZ {Q:VK} {rs rs':List (Int×V)} {as as':List Addr} {B lo:Addr} {c:Nat} (I:Inv X pins σ H s) (kk:∀ b o,s.heap.get? b=some o→h'.get? b=some o) (hlo:s.heap.objs.size≤lo) (rise:as.Pairwise (·<·)) (above:∀ a∈as,lo≤a)
  (pr:∀ (j:Nat) (a:Addr),as[j]?=some a→∃ r t y,rs[j]?=some r∧aE r.2 y∧h'.get? a=some ({ cls:=.type "tuple",data:=.seq #[.int r.1 t,y] }:Obj))
  (hB:New s.heap B) (nB:B∉as) (oB:h'.get? B=some { cls:=.type "list",data:=.seq (as'.map Value.ref).toArray c }) (lB:as'.length≤sizeLine) (l':as'.length=rs'.length)
  (ix:∀ (j:Nat) (p:Addr) (r:Int×V),as'[j]?=some p→rs'[j]?=some r→∃ i:Nat,as[i]?=some p∧rs[i]?=some r) (q:tH rs' H Q):EP X pins σ Q (.ref B) { s with heap:=h',toks:=tk }:=by
 obtain ⟨H',S',tr,fr,I'⟩:=km (tk:=tk) (rs:=rs.map fun r=>(V.int r.1,r.2)) I kk hlo rise above (fun j a ha=>by
  obtain ⟨r,t,y,e1,e2,e3⟩:=pr j a ha
  exact ⟨(.int r.1,r.2),.int r.1 t,y,by rw [List.getElem?_map,e1];rfl,⟨t,rfl⟩,e2,e3⟩) as.length (Nat.le_refl _)
 have hBn:H' B=none:=fr _ (hB.free I) fun hm=>nB (List.mem_of_mem_take hm)
 have I2:Inv X pins σ (upd H' B (.lst (as'.map V.ref))) { s with heap:=h',toks:=tk }:=Inv.track3 I I' hB hBn ⟨by rw [List.length_map];exact lB,as'.map Value.ref,c,lT as',oB⟩
 refine ⟨.ref B,_,I2,rfl,q B as' _ (hB.free I) (S'.trans (aq.upd hBn)) l' (fun j p r hj hr=>?_) af⟩
 obtain ⟨i,e1,e2⟩:=ix j p r hj hr
 refine ⟨I.hok.fresh (Nat.le_trans hlo (above _ (List.mem_of_getElem? e1))),aq.upd hBn _ _ (tr i p (.int r.1,r.2) (List.getElem?_eq_some_iff.mp e1).1 e1 (by rw [List.getElem?_map,e2];rfl))⟩
theorem tD (hc:X.calm=true):bo X (.type "list") (gw X.K):=fun pins s σ H xs us Q I r h=>by
 obtain ⟨p,a,rs,rfl,hp,ha,q⟩:=h
 obtain ⟨u,rfl,ru⟩:=dW r
 cases (show u=Value.ref p from ru)
 obtain ⟨op,_,_⟩:=(show aQ X.prog X.w H s.heap p (vwO p a) from I.hok p _ hp)
 obtain ⟨z,hd,vs,rel,dd⟩:=lc I.hok ha
 obtain ⟨ep,dat⟩:=dd.dictAt
 have lv:=AT rel
 have lz:vs.length≤sizeLine:=by rw [← rel.length];exact z
 refine kdx_call (knd:=ba X.prog X.w) (kvs:=vs) (ep:=ep) (I.ok.hd hc) ⟨_,op,rfl,rfl⟩ dat lz fun h1 tk acc c as hk hS hl hG hacc=>?_
 refine rZ (s:=s) (rs:=rs) (rs':=rs) (as:=as) (as':=as) (lo:=s.heap.objs.size) (c:=c) I hk (Nat.le_refl _) hG.rise (fun a ha=>Nat.le_of_lt (hG.above a ha)) (fun j b hb=>?_) (New.le (Nat.le_refl _))
  (fun z=>Nat.lt_irrefl _ (hG.above _ z)) (by rw [hS,←hacc,Array.toArray_toList]) (by rw [hl];exact lz) (by rw [hl,lv]) (fun j b r h1 h2=>⟨j,h1,h2⟩) q
 obtain ⟨key,k,x,e1,e2,e3⟩:=hG.pairs j b hb
 obtain ⟨r,er,rfl,rv⟩:=Dl rel e1
 obtain ⟨t,rfl⟩:=yP e2
 exact ⟨r,t,x,er,rv,e3⟩
def xD:V→List V→Hp→VK→Prop:=fun x vs H Q=>∃ a y o,x=.ref a∧vs=[y]∧cB H a y o∧Q (o.getD .non) H
theorem yz (hu:X.A.units+1<cLine):MtR X "dict.get" xD:=by
 intro pins s σ H x vs v us Q I rx rv h
 obtain ⟨a,y,o,rfl,rfl,g,q⟩:=h
 obtain rfl:v=Value.ref a:=rx
 obtain ⟨uy,rfl,ry⟩:=rv.one
 exact Bl hu I g ry fun w' s' I' r'=>⟨_,H,I',r',q⟩
def qh:V→List V→Hp→VK→Prop:=fun x vs H Q=>∃ a kvs k v,x=.ref a∧vs=[kV k]∧H a=some (.dK kvs)∧bx kvs k=some v∧Q v (upd H a (.dK (gF kvs k)))
theorem yg:MtR X "dict.pop" qh:=by
 intro pins s σ H x vs v us Q I rx rv h
 obtain ⟨a,kvs,k,v',rfl,rfl,ha,l,q⟩:=h
 obtain rfl:v=Value.ref a:=rx
 obtain ⟨uy,rfl,ry⟩:=rv.one
 exact Cv (more:=[]) I ha ry l (.inl rfl) fun w' s' I' r'=>⟨_,_,I',r',q⟩
end
end L2
namespace Rs
def lw (b x y c:Nat):Prop:=c≤b∧x/2^(b - c)=y/2^(b - c)∧(c=b∨x/2^(b - (c+1))≠y/2^(b - (c+1)))
abbrev st (B k d:Nat):Nat:=k/2^(B - d)
abbrev sd (B k d:Nat):Nat:=k/2^(B - 1 - d)%2
inductive Kn (α:Type) where
 | bare
 | leaf (k:Nat) (t:α)
 | fork (d b:Nat) (l r:Kn α)
section
variable {α:Type}
def au:Kn α→List (Nat×α)
 | .bare=>[]
 | .leaf k t=>[(k,t)]
 | .fork _ _ l r=>au l++au r
def ax (B key:Nat):Kn α→Option α
 | .bare=>none
 | .leaf k t=>if key=k then some t else none
 | .fork d _ l r=>if sd B key d=0 then ax B key l else ax B key r
def WF (B:Nat):Nat→Nat→Kn α→Prop
 | _,_,.bare=>False
 | d0,b0,.leaf k _=>k<2^B∧st B k d0=b0
 | d0,b0,.fork d b l r=>d0≤d∧d<B∧b/2^(d - d0)=b0∧WF B (d+1) (2*b) l∧WF B (d+1) (2*b+1) r
theorem bM {B k d:Nat} (h:d<B):st B k (d+1)=2*st B k d+sd B k d:=by
 have e:B - d=(B - (d+1))+1:=by omega
 have e2:B - 1 - d=B - (d+1):=by omega
 unfold st sd
 rw [e,e2,Nat.pow_succ,←Nat.div_div_eq_div_mul]
 omega
theorem dZ {B k d:Nat}:sd B k d<2:=Nat.mod_lt _ (by decide)
theorem jj {B k d e:Nat} (h1:d≤e) (h2:e≤B):st B k d=st B k e/2^(e - d):=by
 unfold st
 rw [Nat.div_div_eq_div_mul,←Nat.pow_add]
 congr 2
 omega
theorem WF.mem {B : Nat} : ∀ {t : Kn α} {d0 b0 : Nat}, d0 ≤ B → WF B d0 b0 t → ∀ p ∈ au t, p.1 < 2 ^ B ∧ st B p.1 d0 = b0
  | .bare, _, _, _, h, _, _ => h.elim
  | .leaf k t, _, _, _, h, p, hp => by rw [List.mem_singleton.mp hp]; exact h
  | .fork d b l r, d0, b0, _, ⟨h1, h2, h3, hl, hr⟩, p, hp => by
    have key : p.1 < 2 ^ B ∧ st B p.1 d = b := by
      rcases List.mem_append.mp hp with z | z
      · obtain ⟨a, c⟩ := hl.mem (by omega) p z
        rw [bM h2] at c
        have := @dZ B p.1 d
        exact ⟨a, by omega⟩
      · obtain ⟨a, c⟩ := hr.mem (by omega) p z
        rw [bM h2] at c
        have := @dZ B p.1 d
        exact ⟨a, by omega⟩
    exact ⟨key.1, by rw [jj h1 (by omega), key.2]; exact h3⟩
theorem WF.left {B d0 b0 d b:Nat} {l r:Kn α} (h:WF B d0 b0 (.fork d b l r)):∀ p∈au l,st B p.1 d=b∧sd B p.1 d=0:=fun p hp=>by
 obtain ⟨h1,h2,h3,hl,hr⟩:=h
 have c:=(hl.mem (by omega) p hp).2
 rw [bM h2] at c
 have:=@dZ B p.1 d
 omega
theorem WF.right {B d0 b0 d b:Nat} {l r:Kn α} (h:WF B d0 b0 (.fork d b l r)):∀ p∈au r,st B p.1 d=b∧sd B p.1 d=1:=fun p hp=>by
 obtain ⟨h1,h2,h3,hl,hr⟩:=h
 have c:=(hr.mem (by omega) p hp).2
 rw [bM h2] at c
 have:=@dZ B p.1 d
 omega
theorem WF.ne {B d0 b0 : Nat} : ∀ {t : Kn α} {d0 b0 : Nat}, WF B d0 b0 t → ∃ p, p ∈ au t
  | .bare, _, _, h => h.elim
  | .leaf k t, _, _, _ => ⟨(k, t), List.mem_singleton.mpr rfl⟩
  | .fork d b l r, _, _, ⟨_, _, _, hl, _⟩ => by
    obtain ⟨p, hp⟩ := WF.ne (d0 := d0) (b0 := b0) hl
    exact ⟨p, List.mem_append_left _ hp⟩
def dX (l:List (Nat×α)):Prop:=l.Pairwise fun p q=>p.1<q.1
theorem WF.up {B : Nat} : ∀ {t : Kn α} {d0 b0 : Nat}, WF B d0 b0 t → dX (au t)
  | .bare, _, _, h => h.elim
  | .leaf k t, _, _, _ => List.pairwise_singleton _ _
  | .fork d b l r, d0, b0, h => by
    have hf := h
    obtain ⟨h1, h2, h3, hl, hr⟩ := h
    refine List.pairwise_append.mpr ⟨hl.up, hr.up, fun p hp q hq => ?_⟩
    have e1 := (hl.mem (by omega) p hp).2
    have e2 := (hr.mem (by omega) q hq).2
    unfold st at e1 e2
    apply Classical.byContradiction
    intro hn
    have := Nat.div_le_div_right (c := 2 ^ (B - (d + 1))) (show q.1 ≤ p.1 by omega)
    omega
def look (key:Nat):List (Nat×α)→Option α
 | []=>none
 | (k,t)::r=>if key=k then some t else look key r
theorem jr (key : Nat) (l m : List (Nat × α)) : look key (l ++ m) = (look key l).or (look key m) := by
  induction l with
  | nil => rfl
  | cons p r ih =>
    show (if key = p.1 then some p.2 else look key (r ++ m)) = (if key = p.1 then some p.2 else look key r).or (look key m)
    split
    · rfl
    · exact ih
theorem cC {key : Nat} {l : List (Nat × α)} (h : ∀ p ∈ l, p.1 ≠ key) : look key l = none := by
  induction l with
  | nil => rfl
  | cons p r ih =>
    show (if key = p.1 then some p.2 else look key r) = none
    rw [if_neg fun e => h p List.mem_cons_self e.symm]
    exact ih fun q hq => h q (List.mem_cons_of_mem _ hq)
theorem bY {B key : Nat} : ∀ {t : Kn α} {d0 b0 : Nat}, WF B d0 b0 t → ax B key t = look key (au t)
  | .bare, _, _, h => h.elim
  | .leaf k t, _, _, _ => rfl
  | .fork d b l r, d0, b0, h => by
    have hf := h
    obtain ⟨h1, h2, h3, hl, hr⟩ := h
    show (if sd B key d = 0 then ax B key l else ax B key r) = look key (au l ++ au r)
    rw [jr]
    by_cases e : sd B key d = 0
    · rw [if_pos e, bY hl, cC (l := au r) fun p hp z => by
        have := (hf.right p hp).2
        rw [z] at this; omega]
      cases look key (au l) <;> rfl
    · rw [if_neg e, bY hr, cC (l := au l) fun p hp z => by
        have := (hf.left p hp).2
        rw [z] at this; omega]
      rfl
def alN (B x y:Nat):Nat→Nat
 | 0=>0
 | c+1=>if x/2^(B - (c+1))=y/2^(B - (c+1)) then c+1 else alN B x y c
theorem uc {B x y : Nat} (hx : x < 2 ^ B) (hy : y < 2 ^ B) : ∀ n, n ≤ B → alN B x y n ≤ n ∧ x / 2 ^ (B - alN B x y n) = y / 2 ^ (B - alN B x y n) ∧ (alN B x y n = n ∨ x / 2 ^ (B - (alN B x y n + 1)) ≠ y / 2 ^ (B - (alN B x y n + 1)))
  | 0, _ => ⟨Nat.le_refl _, by show x / 2 ^ B = y / 2 ^ B; rw [Nat.div_eq_of_lt hx, Nat.div_eq_of_lt hy], .inl rfl⟩
  | c + 1, hn => by
    unfold alN
    split
    · rename_i e; exact ⟨Nat.le_refl _, e, .inl rfl⟩
    · rename_i e
      obtain ⟨a1, a2, a3⟩ := uc hx hy c (by omega)
      refine ⟨by omega, a2, .inr ?_⟩
      rcases a3 with z | z
      · rw [z]; exact e
      · exact z
def al (B x y:Nat):Nat:=alN B x y B
theorem iA {B x y:Nat} (hx:x<2^B) (hy:y<2^B):lw B x y (al B x y):=uc hx hy B (Nat.le_refl _)
theorem ni {B x y:Nat} (hx:x<2^B) (hy:y<2^B) (ne:x≠y):al B x y<B∧st B x (al B x y)=st B y (al B x y)∧sd B x (al B x y)≠sd B y (al B x y):=by
 obtain ⟨a1,a2,a3⟩:=iA hx hy
 have lt:al B x y<B:=by
   rcases Nat.lt_or_ge (al B x y) B with h | h
   · exact h
   · exfalso
     have e:al B x y=B:=by omega
     rw [e,Nat.sub_self,Nat.pow_zero,Nat.div_one,Nat.div_one] at a2
     exact ne a2
 refine ⟨lt,a2,fun z=>?_⟩
 rcases a3 with h | h
 · omega
 · apply h
   have e1:=@bM B x _ lt
   have e2:=@bM B y _ lt
   show st B x (al B x y+1)=st B y (al B x y+1)
   have a2':st B x (al B x y)=st B y (al B x y):=a2
   rw [e1,e2,a2',z]
theorem jD {B x y d e:Nat} (h1:d≤e) (h2:e≤B) (h:st B x e=st B y e):st B x d=st B y d:=by rw [jj h1 h2,jj h1 h2,h]
def dN (B d key:Nat) (x:α) (t:Kn α):Kn α:=if sd B key d=0 then .fork d (st B key d) (.leaf key x) t else .fork d (st B key d) t (.leaf key x)
def bG (B key : Nat) (x : α) : Kn α → Kn α
  | .bare => .leaf key x
  | .leaf k t => if key = k then .leaf key x else dN B (al B key k) key x (.leaf k t)
  | .fork d b l r => if st B key d = b then (if sd B key d = 0 then .fork d b (bG B key x l) r else .fork d b l (bG B key x r))
    else dN B (al d b (st B key d)) key x (.fork d b l r)
theorem WF.lift {B d0 b0 d b : Nat} : ∀ {t : Kn α}, WF B d0 b0 t → (∀ p ∈ au t, st B p.1 d = b) → d ≤ B → d0 ≤ B → (∀ e b' l r, t = .fork e b' l r → d ≤ e) → WF B d b t
  | .bare, h, _, _, _, _ => h.elim
  | .leaf k t, h, hs, _, _, _ => ⟨h.1, hs (k, t) (List.mem_singleton.mpr rfl)⟩
  | .fork e b' l r, h, hs, hd, _, he => by
    have hf := h
    obtain ⟨h1, h2, h3, hl, hr⟩ := h
    have hde := he e b' l r rfl
    refine ⟨hde, h2, ?_, hl, hr⟩
    obtain ⟨p, hp⟩ := WF.ne (d0 := 0) (b0 := 0) hl
    have := hs p (List.mem_append_left _ hp)
    rw [jj hde (by omega), (hf.left p hp).1] at this
    exact this
theorem oC {B d0 b0 d key:Nat} {x:α} {t:Kn α} (h:WF B d0 b0 t) (hk:key<2^B) (hd:d<B) (h0:d0≤d) (hkb:st B key d0=b0) (hs:∀ p∈au t,st B p.1 d=st B key d∧sd B p.1 d≠sd B key d)
   (he:∀ e b' l r,t=.fork e b' l r→d<e):WF B d0 b0 (dN B d key x t)∧∀ k,ax B k (dN B d key x t)=if k=key then some x else ax B k t:=by
 have lt:=@dZ B key d
 have up:∀ p∈au t,st B p.1 (d+1)=2*st B key d+(1 - sd B key d):=fun p hp=>by
   obtain ⟨a,c⟩:=hs p hp
   have:=@dZ B p.1 d
   rw [bM hd,a]
   omega
 have wt:WF B (d+1) (2*st B key d+(1 - sd B key d)) t:=h.lift up hd (by omega) fun e b' l r z=>he e b' l r z
 have wk:WF B (d+1) (2*st B key d+sd B key d) (Kn.leaf key x):=⟨hk,bM hd⟩
 have pre:st B key d/2^(d - d0)=b0:=by rw [← jj h0 (by omega)];exact hkb
 unfold dN
 by_cases e:sd B key d=0
 · rw [if_pos e]
   rw [e] at wt wk
   refine ⟨⟨h0,hd,pre,wk,wt⟩,fun k=>?_⟩
   show (if sd B k d=0 then (if k=key then some x else none) else ax B k t)=_
   by_cases ek:k=key
   · subst ek;rw [if_pos e,if_pos rfl,if_pos rfl]
   · rw [if_neg ek,if_neg ek]
     by_cases e2:sd B k d=0
     · rw [if_pos e2,bY h,cC fun p hp z=>?_]
       have:=(hs p hp).2
       rw [z] at this;omega
     · rw [if_neg e2]
 · rw [if_neg e]
   have e1:sd B key d=1:=by omega
   rw [e1] at wt wk
   refine ⟨⟨h0,hd,pre,wt,wk⟩,fun k=>?_⟩
   show (if sd B k d=0 then ax B k t else (if k=key then some x else none))=_
   by_cases ek:k=key
   · subst ek;rw [if_neg e,if_pos rfl,if_pos rfl]
   · rw [if_neg ek,if_neg ek]
     by_cases e2:sd B k d=0
     · rw [if_pos e2]
     · rw [if_neg e2,bY h,cC fun p hp z=>?_]
       have w:=(hs p hp).2
       have:=@dZ B k d
       rw [z] at w;omega
theorem jI {B key : Nat} {x : α} (hk : key < 2 ^ B) : ∀ {t : Kn α} {d0 b0 : Nat}, d0 ≤ B → WF B d0 b0 t → st B key d0 = b0 → WF B d0 b0 (bG B key x t) ∧ ∀ k, ax B k (bG B key x t) = if k = key then some x else ax B k t
  | .bare, _, _, _, h, _ => h.elim
  | .leaf k t, d0, b0, h0, h, hb => by
    unfold bG
    by_cases e : key = k
    · subst e
      rw [if_pos rfl]
      refine ⟨h, fun k' => ?_⟩
      show (if k' = key then some x else none) = if k' = key then some x else (if k' = key then some t else none)
      by_cases e : k' = key
      · rw [if_pos e, if_pos e]
      · rw [if_neg e, if_neg e, if_neg e]
    · rw [if_neg e]
      obtain ⟨a1, a2, a3⟩ := ni hk h.1 e
      refine oC h hk a1 ?_ hb (fun p hp => ?_) fun _ _ _ _ z => nomatch z
      · apply Classical.byContradiction
        intro hn
        apply a3
        have q : st B key (al B key k + 1) = st B k (al B key k + 1) := jD (by omega) h0 (by rw [hb, h.2])
        rw [bM a1, bM a1] at q
        omega
      · rw [List.mem_singleton.mp hp]
        exact ⟨a2.symm, Ne.symm a3⟩
  | .fork d b l r, d0, b0, h0, h, hb => by
    have hf := h
    obtain ⟨h1, h2, h3, hl, hr⟩ := h
    unfold bG
    by_cases e : st B key d = b
    · rw [if_pos e]
      by_cases e2 : sd B key d = 0
      · rw [if_pos e2]
        obtain ⟨w, f⟩ := jI (x := x) hk (by omega) hl (by rw [bM h2, e, e2]; rfl)
        refine ⟨⟨h1, h2, h3, w, hr⟩, fun k => ?_⟩
        show (if sd B k d = 0 then ax B k (bG B key x l) else ax B k r) = if k = key then some x else (if sd B k d = 0 then ax B k l else ax B k r)
        rw [f k]
        by_cases ek : k = key
        · subst ek; rw [if_pos e2, if_pos rfl, if_pos rfl]
        · rw [if_neg ek, if_neg ek]
      · rw [if_neg e2]
        have lt := @dZ B key d
        obtain ⟨w, f⟩ := jI (x := x) hk (by omega) hr (by rw [bM h2, e]; omega)
        refine ⟨⟨h1, h2, h3, hl, w⟩, fun k => ?_⟩
        show (if sd B k d = 0 then ax B k l else ax B k (bG B key x r)) = if k = key then some x else (if sd B k d = 0 then ax B k l else ax B k r)
        rw [f k]
        by_cases ek : k = key
        · subst ek; rw [if_neg e2, if_pos rfl, if_pos rfl]
        · rw [if_neg ek, if_neg ek]
    · rw [if_neg e]
      have all : ∀ p ∈ au (Kn.fork d b l r), st B p.1 d = b ∧ p.1 < 2 ^ B := fun p hp => ⟨(List.mem_append.mp hp).elim (fun z => (hf.left p z).1) fun z => (hf.right p z).1, (hf.mem h0 p hp).1⟩
      obtain ⟨p0, hp0⟩ := WF.ne (d0 := 0) (b0 := 0) hf
      have stlt : ∀ k, k < 2 ^ B → st B k d < 2 ^ d := fun k hk => by
        unfold st
        rw [Nat.div_lt_iff_lt_mul (Nat.two_pow_pos _), ← Nat.pow_add, show d + (B - d) = B by omega]
        exact hk
      have hbl : b < 2 ^ d := by rw [← (all p0 hp0).1]; exact stlt _ (all p0 hp0).2
      obtain ⟨a1, a2, a3⟩ := ni hbl (stlt key hk) (Ne.symm e)
      generalize al d b (st B key d) = a at a1 a2 a3 ⊢
      have pp : ∀ k, st d (st B k d) a = st B k a := fun k => by
        unfold st
        rw [Nat.div_div_eq_div_mul, ← Nat.pow_add, show B - d + (d - a) = B - a by omega]
      have ps : ∀ k, sd d (st B k d) a = sd B k a := fun k => by
        unfold sd st
        rw [Nat.div_div_eq_div_mul, ← Nat.pow_add, show B - d + (d - 1 - a) = B - 1 - a by omega]
      have ea : ∀ p ∈ au (Kn.fork d b l r), st B p.1 a = st B key a ∧ sd B p.1 a ≠ sd B key a := fun p hp => by
        have q := (all p hp).1
        rw [← pp p.1, ← pp key, ← ps p.1, ← ps key, q]
        exact ⟨a2, a3⟩
      refine oC hf hk (by omega) ?_ hb ea fun e' _ _ _ z => by cases z; exact a1
      apply Classical.byContradiction
      intro hn
      apply (ea p0 hp0).2
      have q : st B p0.1 (a + 1) = st B key (a + 1) := jD (by omega) h0 (by rw [hb, (hf.mem h0 p0 hp0).2])
      rw [bM (by omega), bM (by omega), (ea p0 hp0).1] at q
      omega
def aL (B key:Nat):Kn α→Kn α
 | .bare=> .bare
 | .leaf k t=>if key=k then .bare else .leaf k t
 | .fork d b l r=>if sd B key d=0 then (match aL B key l with | .bare=>r | u=> .fork d b u r) else (match aL B key r with | .bare=>l | u=> .fork d b l u)
theorem fV {B key : Nat} : ∀ {t : Kn α} {d0 b0 : Nat}, d0 ≤ B → WF B d0 b0 t → (aL B key t = .bare ∨ WF B d0 b0 (aL B key t)) ∧ ∀ k, ax B k (aL B key t) = if k = key then none else ax B k t
  | .bare, _, _, _, h => h.elim
  | .leaf k t, d0, b0, h0, h => by
    unfold aL
    by_cases e : key = k
    · subst e
      rw [if_pos rfl]
      refine ⟨.inl rfl, fun k' => ?_⟩
      show none = if k' = key then none else (if k' = key then some t else none)
      by_cases e : k' = key
      · rw [if_pos e]
      · rw [if_neg e, if_neg e]
    · rw [if_neg e]
      refine ⟨.inr h, fun k' => ?_⟩
      show (if k' = k then some t else none) = if k' = key then none else (if k' = k then some t else none)
      by_cases e' : k' = key
      · rw [if_pos e', if_neg fun z => e (e'.symm.trans z)]
      · rw [if_neg e']
  | .fork d b l r, d0, b0, h0, h => by
    have hf := h
    obtain ⟨h1, h2, h3, hl, hr⟩ := h
    have one : ∀ {u : Kn α}, WF B (d + 1) (2 * b) u ∨ WF B (d + 1) (2 * b + 1) u → WF B d0 b0 u := fun {u} hu => by
      have hm : ∀ p ∈ au u, st B p.1 d = b := fun p hp => by
        rcases hu with hu | hu
        · have c := (hu.mem (by omega) p hp).2
          rw [bM h2] at c
          have := @dZ B p.1 d
          omega
        · have c := (hu.mem (by omega) p hp).2
          rw [bM h2] at c
          have := @dZ B p.1 d
          omega
      have hm0 : ∀ p ∈ au u, st B p.1 d0 = b0 := fun p hp => by rw [jj h1 (by omega), hm p hp]; exact h3
      rcases hu with hu | hu
      · exact hu.lift hm0 h0 (by omega) fun e b' l' r' z => by subst z; have := hu.1; omega
      · exact hu.lift hm0 h0 (by omega) fun e b' l' r' z => by subst z; have := hu.1; omega
    unfold aL
    by_cases e : sd B key d = 0
    · rw [if_pos e]
      obtain ⟨w, f⟩ := fV (key := key) (by omega) hl
      cases q : aL B key l with
      | bare =>
        rw [q] at f
        refine ⟨.inr (one (.inr hr)), fun k => ?_⟩
        show ax B k r = if k = key then none else (if sd B k d = 0 then ax B k l else ax B k r)
        have fk : none = if k = key then none else ax B k l := f k
        by_cases ek : k = key
        · subst ek
          rw [if_pos rfl, bY hr, cC fun p hp z => ?_]
          have := (hf.right p hp).2
          rw [z] at this; omega
        · rw [if_neg ek] at fk ⊢
          by_cases e2 : sd B k d = 0
          · rw [if_pos e2, ← fk, bY hr, cC fun p hp z => ?_]
            have := (hf.right p hp).2
            rw [z] at this; omega
          · rw [if_neg e2]
      | leaf k' t' =>
        rw [q] at w f
        have w' := w.resolve_left (by intro z; cases z)
        refine ⟨.inr ⟨h1, h2, h3, w', hr⟩, fun k => ?_⟩
        show (if sd B k d = 0 then ax B k (.leaf k' t') else ax B k r) = _
        rw [f k]
        show _ = if k = key then none else (if sd B k d = 0 then ax B k l else ax B k r)
        by_cases ek : k = key
        · subst ek; rw [if_pos e, if_pos rfl, if_pos rfl]
        · rw [if_neg ek, if_neg ek]
      | fork d' b' l' r' =>
        rw [q] at w f
        have w' := w.resolve_left (by intro z; cases z)
        refine ⟨.inr ⟨h1, h2, h3, w', hr⟩, fun k => ?_⟩
        show (if sd B k d = 0 then ax B k (.fork d' b' l' r') else ax B k r) = _
        rw [f k]
        show _ = if k = key then none else (if sd B k d = 0 then ax B k l else ax B k r)
        by_cases ek : k = key
        · subst ek; rw [if_pos e, if_pos rfl, if_pos rfl]
        · rw [if_neg ek, if_neg ek]
    · rw [if_neg e]
      have e1 : sd B key d = 1 := by have := @dZ B key d; omega
      obtain ⟨w, f⟩ := fV (key := key) (by omega) hr
      cases q : aL B key r with
      | bare =>
        rw [q] at f
        refine ⟨.inr (one (.inl hl)), fun k => ?_⟩
        show ax B k l = if k = key then none else (if sd B k d = 0 then ax B k l else ax B k r)
        have fk : none = if k = key then none else ax B k r := f k
        by_cases ek : k = key
        · subst ek
          rw [if_pos rfl, bY hl, cC fun p hp z => ?_]
          have := (hf.left p hp).2
          rw [z] at this; omega
        · rw [if_neg ek] at fk ⊢
          by_cases e2 : sd B k d = 0
          · rw [if_pos e2]
          · rw [if_neg e2, ← fk, bY hl, cC fun p hp z => ?_]
            have := (hf.left p hp).2
            rw [z] at this; omega
      | leaf k' t' =>
        rw [q] at w f
        have w' := w.resolve_left (by intro z; cases z)
        refine ⟨.inr ⟨h1, h2, h3, hl, w'⟩, fun k => ?_⟩
        show (if sd B k d = 0 then ax B k l else ax B k (.leaf k' t')) = _
        rw [f k]
        show _ = if k = key then none else (if sd B k d = 0 then ax B k l else ax B k r)
        by_cases ek : k = key
        · subst ek; rw [if_neg e, if_pos rfl, if_pos rfl]
        · rw [if_neg ek, if_neg ek]
      | fork d' b' l' r' =>
        rw [q] at w f
        have w' := w.resolve_left (by intro z; cases z)
        refine ⟨.inr ⟨h1, h2, h3, hl, w'⟩, fun k => ?_⟩
        show (if sd B k d = 0 then ax B k l else ax B k (.fork d' b' l' r')) = _
        rw [f k]
        show _ = if k = key then none else (if sd B k d = 0 then ax B k l else ax B k r)
        by_cases ek : k = key
        · subst ek; rw [if_neg e, if_pos rfl, if_pos rfl]
        · rw [if_neg ek, if_neg ek]
theorem tR : ∀ {l m : List (Nat × α)}, dX l → dX m → (∀ k, look k l = look k m) → l = m
  | [], [], _, _, _ => rfl
  | [], q :: m, _, _, h => by
    have := h q.1
    have e : look q.1 (q :: m) = some q.2 := if_pos rfl
    rw [e] at this; cases this
  | p :: l, [], _, _, h => by
    have := h p.1
    have e : look p.1 (p :: l) = some p.2 := if_pos rfl
    rw [e] at this; cases this
  | p :: l, q :: m, hl, hm, h => by
    obtain ⟨l1, l2⟩ := List.pairwise_cons.mp hl
    obtain ⟨m1, m2⟩ := List.pairwise_cons.mp hm
    have no : ∀ {p : Nat × α} {l : List (Nat × α)}, (∀ q ∈ l, p.1 < q.1) → ∀ k, k ≤ p.1 → look k l = none := fun hp k hk => cC fun q hq z => by have := hp q hq; omega
    have ep : look p.1 (p :: l) = some p.2 := if_pos rfl
    have eq : look q.1 (q :: m) = some q.2 := if_pos rfl
    have e1 : p.1 = q.1 := by
      rcases Nat.lt_trichotomy p.1 q.1 with z | z | z
      · have w := h p.1
        rw [ep] at w
        have : look p.1 (q :: m) = none := by
          show (if p.1 = q.1 then some q.2 else look p.1 m) = none
          rw [if_neg (by omega)]
          exact no m1 _ (by omega)
        rw [this] at w; cases w
      · exact z
      · have w := h q.1
        rw [eq] at w
        have : look q.1 (p :: l) = none := by
          show (if q.1 = p.1 then some p.2 else look q.1 l) = none
          rw [if_neg (by omega)]
          exact no l1 _ (by omega)
        rw [this] at w; cases w
    have e2 : p = q := by
      have w := h p.1
      rw [ep, e1, eq] at w
      exact Prod.ext e1 (Option.some.inj w)
    subst e2
    have e3 : l = m := tR l2 m2 fun k => by
      by_cases e : k = p.1
      · subst e; rw [no l1 _ (Nat.le_refl _), no m1 _ (Nat.le_refl _)]
      · have w := h k
        have a : look k (p :: l) = look k l := if_neg e
        have b : look k (p :: m) = look k m := if_neg e
        rw [a, b] at w; exact w
    rw [e3]
end
end Rs
namespace L2
open PySem PySem.Spec PyProof.Rows
structure eZ (scope:Scope) (x z:Str) (ys:List Str):Prop where
 kind:scope.kind=.function
 nocell:∀ y∈scope.names,y.2≠ .cell
 names:∀ y∈scope.names,y.2=.local→scope.names.lookup y.1=some .local
 own:scope.names.lookup x=some .local
 own2:scope.names.lookup z=some .local
 all:∀ y∈scope.names,y.2=.free→y.1∈ys
 nd:(x::z::ys).Nodup
def sS (K:W.Frag) (is:List Nat) (tc:TT) (te:TE) (σ:St) (D:Addr) (J:It) (H1:Hp) (Q:VK):Prop:=∃ W:Nat→Nat→List V→Hp→Prop,(∃ m,W 0 m [] (upd H1 D (.lst [])))∧
 ∀ i m ys H2,W i m ys H2→(J.stop i H2∧Q (.ref D) H2)∨(J.go i H2∧∀ x H3,J.yld i H2 x H3→∃ a v0 v1,x=.ref a∧SqT K H3 a [v0,v1]∧tc (some v0::some v1::aI σ is) H3 fun b H4=>if b=true then
  te (some v0::some v1::aI σ is) H4 fun y H5=>H5 D=some (.lst ys)∧ys.length<sizeLine∧∃ m',m'<m∧W (i+1) m' (ys++[y]) (upd H5 D (.lst (ys++[y])))
  else ∃ m',m'<m∧W (i+1) m' ys H4)
def nP (K:W.Frag) (is:List Nat) (wi:TI) (tc:TT) (te:TE):TE:=fun σ H Q=>wi σ H fun J H1=>∀ D,H1 D=none→sS K is tc te σ D J H1 Q
section
variable {X:Cx}
theorem rz {elt iter : Expr} {ifs : List Expr} {x z : Str} {px pz ep pos : Pos} {ek : Nat} {scope : Scope} {ys : List Str} {is : List Nat} {tc : TT} {te : TE} {pins : List (Addr × Obj)} {σ : St} {H2 : Hp} {s2 : Shared} {it : Addr} {fp : List Addr} {tn : Nat → Heap → Prop} {J : It} {E : Value → Shared → Prop} {Q : VK} {RR : Value → Addr → Result → Shared → Prop}
    (hc : X.calm = true) (S : eZ scope x z ys) (hcap : dG X scope ys is)
    (hif : ∀ C s H fp, lE (aC X scope C (x :: z :: ys) s H fp) ifs tc) (he : ∀ C s H fp, PE (aC X scope C (x :: z :: ys) s H fp) elt te)
    (I2 : Inv X pins σ H2 s2) (T : gS X.prog X.w X.K (.Tuple [.Name x px, .Name z pz] ek ep) J fp it tn) (st2 : tn 0 s2.heap) (f2 : ∀ b ∈ fp, ft X pins H2 b)
    (hW : ∀ D, H2 D = none → ∃ W : Nat → Nat → List V → Hp → Prop, (∃ m, W 0 m [] (upd H2 D (.lst []))) ∧
      ∀ i m ys H2, W i m ys H2 → (J.stop i H2 ∧ Q (.ref D) H2) ∨ (J.go i H2 ∧ ∀ x H3, J.yld i H2 x H3 → ∃ a v0 v1, x = .ref a ∧ SqT X.K H3 a [v0, v1] ∧ tc (some v0 :: some v1 :: aI σ is) H3 fun b H4 => if b = true then
        te (some v0 :: some v1 :: aI σ is) H4 fun y H5 => H5 D = some (.lst ys) ∧ ys.length < sizeLine ∧ ∃ m', m' < m ∧ W (i + 1) m' (ys ++ [y]) (upd H5 D (.lst (ys ++ [y])))
        else ∃ m', m' < m ∧ W (i + 1) m' ys H4))
    (hRR : ∀ D C H' s', (X.s₀.heap.objs.size ≤ C ∧ ∀ p ∈ X.pn ++ pins, p.1 ≠ C) → (∃ m, s'.heap.Ns C m) → C ≠ X.env.locals → H' C = none → Inv X pins σ H' s' → (∀ h', Heap.SameBut C s'.heap h' → Inv X pins σ H' { s' with heap := h' }) → Q (.ref D) H' → RR (.ref D) C (.ok .next) s') :
    wpAny (model X.prog X.w) X.A (newList []) (fun acc s₃ => wpAny (model X.prog X.w) X.A (newFunctionEnv scope X.env.globals (bZ scope.names X.env.cells []) [] X.env.qual none .none (some X.env)) (fun cenv s₄ =>
      codeAny (model X.prog X.w) X.A (.compStart (.ListComp elt [⟨.Tuple [.Name x px, .Name z pz] ek ep, iter, ifs, 0⟩] scope pos) 0 (.ref it) acc { cenv with scope := relabel scope X.env }) (RR acc cenv.locals) s₄) E s₃) E s2 := by
  have hf2 : H2 s2.heap.objs.size = none := I2.fresh
  refine wpAny_newObj_type (wpAny_newFunctionEnv S.nocell (by intro y hy; simp at hy) (fun h₁ hns₁ hsb₁ => ?_) S.kind)
  dsimp only at hns₁ hsb₁ ⊢
  have I3 : Inv X pins σ (upd H2 s2.heap.objs.size (.lst [])) { s2 with heap := s2.heap.push { cls := .type "list", data := .seq ([] : List Value).toArray } } := I2.lnew (t' := s2.toks) (ys := []) .nil (Nat.zero_le _)
  obtain ⟨W, ⟨m0, w0⟩, turn⟩ := hW _ hf2
  generalize hD : s2.heap.objs.size = D at I3 w0 turn hf2 ⊢
  generalize hs3 : ({ s2 with heap := s2.heap.push { cls := .type "list", data := .seq ([] : List Value).toArray } } : Shared) = s3 at I3
  have hp3 : s2.heap.push { cls := .type "list", dict := none, data := .seq ([] : List Value).toArray } = s3.heap := by rw [← hs3]
  rw [hp3] at hns₁ hsb₁ ⊢
  have tk3 : s2.toks = s3.toks := by rw [← hs3]
  generalize hH3 : upd H2 D (.lst []) = H3 at I3 w0
  generalize hC : s3.heap.objs.size = C at hns₁ hsb₁ ⊢
  have keep2 : ∀ b o, s2.heap.get? b = some o → s3.heap.get? b = some o := fun b o e => by rw [← hp3]; exact Heap.get?_push_of_some _ e
  have keep3 : ∀ b o, s3.heap.get? b = some o → h₁.get? b = some o := fun b o e => hsb₁.extBut b o (by rw [← hC]; exact Nat.ne_of_lt (Heap.lt_size e)) (Heap.get?_push_of_some _ e)
  have st3 : tn 0 s3.heap := T.keep _ _ _ st2 fun b _ o e => keep2 b o e
  have st4 : tn 0 h₁ := T.keep _ _ _ st3 fun b _ o e => keep3 b o e
  have fp3 : ∀ b ∈ fp, H3 b = none ∧ b < C := fun b hb => by
    obtain ⟨o, e, _⟩ := T.obj _ _ st2 b hb
    refine ⟨?_, by rw [← hC]; exact Heap.lt_size (keep2 b o e)⟩
    rw [← hH3, ak (by rw [← hD]; exact Nat.ne_of_lt (Heap.lt_size e))]
    exact (f2 b hb).1
  have hcells : ∀ {z : Str} {c : Addr}, (bZ scope.names X.env.cells []).lookup z = some c → X.env.cells.lookup z = some c := fun h => iz (fun _ _ q => by cases q) h
  have hX : (aC X scope C (x :: z :: ys) s3 H3 fp).Ok := by
    refine ⟨I3.ok.mod, S.kind, I3.ok.glob, I3.ok.blt, Nat.le_of_eq hC, fun y z c h1 h2 => I3.ok.inj y z c (hcells h1) (hcells h2), fun y hy => ?_, fun y c h _ => absurd (show false = true from h) Bool.false_ne_true, I3.ok.hd, I3.ok.frames, .inl rfl, fun b hb => ⟨Nat.ne_of_lt (fp3 b hb).2, fun y c h => (f2 b hb).2.2.2.2.1 y c (hcells h)⟩, fun b o e => I3.bs b o e, Nat.le_trans I3.ok.bsz I3.sz, fun b o e hb => ?_, fun b hb z => ?_, I3.stack, I3.stkFree⟩
    · have hy : (relabel scope X.env).names.lookup y = some .cell ∨ (relabel scope X.env).names.lookup y = some .free := hy
      have hm : (y, NameKind.free) ∈ scope.names := by
        rcases hy with q | q
        · exact dC S.nocell q (.inl rfl)
        · exact dC S.nocell q (.inr rfl)
      have hs : ∃ c, X.env.cells.lookup y = some c := by
        by_cases hk : X.env.kindOf y = some .cell ∨ X.env.kindOf y = some .free
        · exact I3.ok.has y hk
        · exact absurd (fI hcap (S.all _ hm rfl)) hk
      exact Option.isSome_iff_exists.mp (eP hm (Option.isSome_iff_exists.mpr hs))
    · rcases (f2 b hb).2.2.2.1 with z | z
      · exact I3.ok.noex b o e z
      · exact absurd (Nat.lt_of_lt_of_le (Heap.lt_size e) (Nat.le_trans I3.ok.bsz z)) (Nat.lt_irrefl _)
    · rcases List.mem_cons.mp (I3.stkSub b z) with q | q
      · exact (f2 b hb).2.1 q
      · exact (f2 b hb).2.2.1 q
  have I4 : Inv (aC X scope C (x :: z :: ys) s3 H3 fp) [] (none :: none :: aI σ is) H3 { s2 with heap := h₁, toks := s2.toks + ([] : List (Str × Value)).length } := by
    obtain ⟨m3, hm3, hl3⟩ := id I3.loc
    refine ⟨hX, ?_, ?_, Un.kept keep3, ⟨_, hns₁, fun i y v e1 e2 e3 => ?_⟩, fun y c e => ?_, ?_, fun y c e => I3.freeC y c (hcells e), fun p hp => absurd (show p ∈ ([] : List (Addr × Obj)) from hp) (by simp), I3.hok.kept keep3, ?_⟩
    · show s2.os = s3.os
      rw [← hs3]
    · have := I2.bare; exact this
    · match i, e1, e2 with
      | 0, _, e2 => simp at e2
      | 1, _, e2 => simp at e2
      | j + 2, e1, e2 =>
        obtain ⟨u, r, hfr, c, ec, ic⟩ := lQ hcap hl3 trivial j y v (by have e1' : (x :: z :: ys)[j + 2]? = some y := e1; simpa using e1') (by simpa using e2)
        have hk := iy (env := X.env) hfr
        obtain ⟨c', ec'⟩ := Option.isSome_iff_exists.mp (eP (cs := []) (gL hfr) (by rw [ec]; rfl) (cells := X.env.cells))
        have : c' = c := by have := hcells ec'; rw [ec] at this; exact (Option.some.inj this).symm
        subst this
        obtain ⟨o, ho, hd⟩ := ic
        exact ⟨u, r, .inr ⟨hk, c', ec', o, keep3 _ _ ho, hd⟩⟩
    · obtain ⟨v, o, ho, hd⟩ := I3.cell y c (hcells e)
      exact ⟨v, o, keep3 _ _ ho, hd⟩
    · have := I3.hok.fresh (a := C) (Nat.le_of_eq hC)
      exact this
    · have := nv hcap
      show (none :: none :: aI σ is).length = (x :: z :: ys).length
      simp [aI, this]
  have hown : (relabel scope X.env).names.lookup x = some .local := eT S.own
  have hown2 : (relabel scope X.env).names.lookup z = some .local := eT S.own2
  have loop : codeAny (model X.prog X.w) X.A (.compLoop (.ListComp elt [⟨.Tuple [.Name x px, .Name z pz] ek ep, iter, ifs, 0⟩] scope pos) 0 (.ref it) (.ref D) (compEnvC scope (bZ scope.names X.env.cells []) C X.env)) (RR (.ref D) C)
      { s2 with heap := h₁, toks := s2.toks + ([] : List (Str × Value)).length } := by
    have fin : ∀ {H' : Hp} {v w : Option V} {s' : Shared}, Inv (aC X scope C (x :: z :: ys) s3 H3 fp) [] (v :: w :: aI σ is) H' s' → Q (.ref D) H' → RR (.ref D) C (.ok .next) s' := fun {H' v w s'} J q => by
      obtain ⟨m', hm', _⟩ := J.loc
      have hCL : C ≠ X.env.locals := Ne.symm (by rw [← hC]; exact Nat.ne_of_lt I3.lt)
      have back : ∀ h', Heap.SameBut C s'.heap h' → Inv X pins σ H' { s' with heap := h' } := fun h' hs' => by
        have os' : s'.os = s3.os := J.os
        refine I3.call' (s' := { s' with heap := h' }) (ch := fp) os' ⟨fun b o e n hb hx => ?_, fun b o e n hb hx => ?_, fun b o e n hx => J.base.free b o e n hx, fun b o e hx => ?_, J.base.tups, J.base.frzs, J.base.tbls⟩ (fun b o e => ?_) J.bare fun b hb => ?_
        · exact hs'.extBut b o (by rw [← hC]; exact Nat.ne_of_lt (Heap.lt_size e)) (J.base.keep b o e n hb hx)
        · obtain ⟨sl, e1⟩ := J.base.slot b o e n hb hx
          exact ⟨sl, hs'.extBut b _ (by rw [← hC]; exact Nat.ne_of_lt (Heap.lt_size e)) e1⟩
        · obtain ⟨o', e1⟩ := J.base.there b o e hx
          exact ⟨o', hs'.extBut b _ (by rw [← hC]; exact Nat.ne_of_lt (Heap.lt_size e)) e1⟩
        · refine (J.hok b o e).stay (fun c w' hc q => (hs'.2 c ?_).trans q) (fun _ q => q) fun _ _ q => q
          have fC : H' C = none := J.free
          rintro rfl
          rcases hc with rfl | hc
          · rw [fC] at e; cases e
          · rw [fC] at hc; cases hc
        · obtain ⟨_, a1, _, a2, a3, a4⟩ := f2 b hb
          exact ⟨a2, a1, a3, a4⟩
      refine hRR D C H' s' ⟨by rw [← hC]; exact I3.sz, fun p hp => by rw [← hC]; exact Nat.ne_of_lt (Heap.lt_size (I3.pin p hp).1)⟩ ⟨m', hm'⟩ hCL J.free ?_ back q
      have := back s'.heap (.refl ..)
      exact this
    have stat : ∀ {H' : Hp}, (∀ b ∈ fp, H' b = none) → ∀ b ∈ fp, ft (aC X scope C (x :: z :: ys) s3 H3 fp) [] H' b := fun hn b hb => by
      obtain ⟨_, a1, a5, a2, a3, a4⟩ := f2 b hb
      refine ⟨hn b hb, Nat.ne_of_lt (fp3 b hb).2, fun z => ?_, .inl hb, fun y c e => a3 y c (hcells e), fun p hp => absurd (show p ∈ ([] : List (Addr × Obj)) from hp) (by simp)⟩
      rcases List.mem_cons.mp (I3.stkSub b z) with q | q
      · exact a1 q
      · exact a5 q
    have turnAt : ∀ n s, (∃ i v w ys' H', Inv (aC X scope C (x :: z :: ys) s3 H3 fp) [] (v :: w :: aI σ is) H' s ∧ tn i s.heap ∧ (∀ b ∈ fp, H' b = none) ∧ W i n ys' H') →
        wpAny (model X.prog X.w) X.A (pyNext (.ref it)) (fun r s₁ => match r with
          | none => RR (.ref D) C (.ok .next) s₁
          | some u => wpAny (model X.prog X.w) X.A (letOwnedTupleGo (.Tuple [.Name x px, .Name z pz] ek ep) (.ref it) u) (fun _ s₁ => wpAny (model X.prog X.w) X.A (assign (.Tuple [.Name x px, .Name z pz] ek ep) (compEnvC scope (bZ scope.names X.env.cells []) C X.env) u) (fun _ s₂ =>
            ∃ (x0 x1 : V) (i : Nat) (ys' : List V) (H3' H6 : Hp) (pl : List (Addr × Obj)), Inv (aC X scope C (x :: z :: ys) s3 H3 fp) ([] ++ pl) (some x0 :: some x1 :: aI σ is) H6 s₂ ∧
              (∀ s7 v7 w7 H7, Inv (aC X scope C (x :: z :: ys) s3 H3 fp) ([] ++ pl) (v7 :: w7 :: aI σ is) H7 s7 → Inv (aC X scope C (x :: z :: ys) s3 H3 fp) [] (v7 :: w7 :: aI σ is) H7 s7 ∧ tn (i + 1) s7.heap ∧ ∀ b ∈ fp, H7 b = none) ∧
              (tc (some x0 :: some x1 :: aI σ is) H6 fun b H4 => if b = true then te (some x0 :: some x1 :: aI σ is) H4 fun y H5 => H5 D = some (.lst ys') ∧ ys'.length < sizeLine ∧ ∃ m', m' < n ∧ W (i + 1) m' (ys' ++ [y]) (upd H5 D (.lst (ys' ++ [y])))
                else ∃ m', m' < n ∧ W (i + 1) m' ys' H4)) (fun _ _ => False) s₁) (fun _ _ => False) s₁) (fun _ _ => False) s := by
      rintro n s ⟨i, v, w, ys', H', J, st, fr, w'⟩
      rcases turn i n ys' H' w' with ⟨stop, qn⟩ | ⟨go, step⟩
      · refine thn (T.done (aC X scope C (x :: z :: ys) s3 H3 fp) rfl rfl rfl hc i [] s _ H' (fun _ _ => False) J (stat fr) st stop) fun r s4 ⟨hr, J4⟩ => ?_
        subst hr
        exact fin J4 qn
      · refine thn (T.item (aC X scope C (x :: z :: ys) s3 H3 fp) rfl rfl rfl hc i [] s _ H' (fun _ _ => False) J (stat fr) st go) fun r s4 ⟨u, hr, h4⟩ => ?_
        subst hr
        refine thn h4 fun _ s5 ⟨xx, H5, J5, r5, y5, st5, fr5⟩ => ?_
        have J5' := J5.pinned (stat fr5) (T.obj _ _ st5)
        obtain ⟨ta, x0, x1, rfl, hta, hstep⟩ := step xx H5 y5
        have pg : PG (aC X scope C (x :: z :: ys) s3 H3 fp) (.Tuple [.Name x px, .Name z pz] ek ep) (lu X.K 2 (el (av 0) (el (av 1) lD))) := tu hc (ib (gc (i := 0) S.nd rfl (.inl hown) (.inr hown)) (ib (gc (i := 1) S.nd rfl (.inl hown2) (.inr hown2)) pZ))
        refine thn (pg _ s5 _ H5 (.ref ta) u (fun σ' H' => σ' = some x0 :: some x1 :: aI σ is ∧ H' = H5) J5' r5 ⟨ta, _, rfl, hta, rfl, _, _, rfl, _, _, rfl, rfl, rfl, rfl⟩) fun _ s6 ⟨σ6, H6, J6, e6, e7⟩ => ?_
        subst e6 e7
        refine ⟨x0, x1, i, ys', H6, H6, gx fp s5.heap, J6, fun s7 v7 w7 H7 J7 => ⟨J7.unpinned, T.keep _ _ _ st5 fun b hb o e => (J7.pin (b, o) (List.mem_append_right _ (List.mem_append_right _ (dw hb e)))).1, fun b hb => ?_⟩, hstep⟩
        obtain ⟨o, e, d⟩ := T.obj _ _ st5 b hb
        exact (J7.pin (b, o) (List.mem_append_right _ (List.mem_append_right _ (dw hb e)))).2.1
    have start0 : ∃ i v w ys' H', Inv (aC X scope C (x :: z :: ys) s3 H3 fp) [] (v :: w :: aI σ is) H' { s2 with heap := h₁, toks := s2.toks + ([] : List (Str × Value)).length } ∧ tn i h₁ ∧ (∀ b ∈ fp, H' b = none) ∧ W i m0 ys' H' :=
      ⟨0, none, none, [], H3, I4, st4, fun b hb => (fp3 b hb).1, w0⟩
    have emit : ∀ (n : Nat) (x0 x1 : V) (i : Nat) (ys' : List V) (H4 : Hp) (pl : List (Addr × Obj)) (s₂ : Shared), Inv (aC X scope C (x :: z :: ys) s3 H3 fp) ([] ++ pl) (some x0 :: some x1 :: aI σ is) H4 s₂ →
        (∀ s7 v7 w7 H7, Inv (aC X scope C (x :: z :: ys) s3 H3 fp) ([] ++ pl) (v7 :: w7 :: aI σ is) H7 s7 → Inv (aC X scope C (x :: z :: ys) s3 H3 fp) [] (v7 :: w7 :: aI σ is) H7 s7 ∧ tn (i + 1) s7.heap ∧ ∀ b ∈ fp, H7 b = none) →
        (te (some x0 :: some x1 :: aI σ is) H4 fun y H5 => H5 D = some (.lst ys') ∧ ys'.length < sizeLine ∧ ∃ m', m' < n ∧ W (i + 1) m' (ys' ++ [y]) (upd H5 D (.lst (ys' ++ [y])))) →
        wpAny (model X.prog X.w) X.A (eval elt (compEnvC scope (bZ scope.names X.env.cells []) C X.env)) (fun y s₃ => wpAny (model X.prog X.w) X.A (call (.builtin "list.append") [.ref D, y]) (fun _ s₄ =>
          ∃ m, m < n ∧ ∃ i v w ys' H', Inv (aC X scope C (x :: z :: ys) s3 H3 fp) [] (v :: w :: aI σ is) H' s₄ ∧ tn i s₄.heap ∧ (∀ b ∈ fp, H' b = none) ∧ W i m ys' H') (fun _ _ => False) s₃) (fun _ _ => False) s₂ := by
      intro n x0 x1 i ys' H4 pl s₂ J2 back q
      refine thn (he C s3 H3 fp ([] ++ pl) s₂ _ H4 _ J2 q) fun y s₃ ⟨yv, H5, J3, r3, q1, q2, q3⟩ => ?_
      refine thn (iK (X := aC X scope C (x :: z :: ys) s3 H3 fp) ([] ++ pl) s₃ _ H5 (.ref D) [yv] (.ref D) [y] (fun v H7 => v = .non ∧ H7 = upd H5 D (.lst (ys' ++ [yv]))) J3 rfl (.cons r3 .nil) ⟨D, ys', yv, rfl, rfl, q1, q2, rfl, rfl⟩) fun _ s₄ ⟨_, H7, J4, _, _, e7⟩ => ?_
      subst e7
      obtain ⟨m', hm', w'⟩ := q3
      obtain ⟨b1, b2, b3⟩ := back s₄ _ _ _ J4
      exact ⟨m', hm', i + 1, some x0, some x1, ys' ++ [yv], _, b1, b2, b3, w'⟩
    have ex0 : ∀ {α : Type} {t : Sem α} {Q' : α → Shared → Prop} {E' : Value → Shared → Prop} {s : Shared}, wpAny (model X.prog X.w) X.A t Q' (fun _ _ => False) s → wpAny (model X.prog X.w) X.A t Q' E' s := fun h => wpAny_mono h (fun _ _ q => q) fun _ _ q => q.elim
    cases ifs with
    | nil =>
      have htc : tc = fun _ H Q => Q true H := hif C s3 H3 fp
      subst htc
      refine et (fun n s => ∃ i v w ys' H', Inv (aC X scope C (x :: z :: ys) s3 H3 fp) [] (v :: w :: aI σ is) H' s ∧ tn i s.heap ∧ (∀ b ∈ fp, H' b = none) ∧ W i n ys' H') (fun n s hI => ?_) m0 start0
      refine wpAny_mono (turnAt n s hI) (fun r s₁ h₁ => ?_) fun _ _ q => q.elim
      cases r with
      | none => exact h₁
      | some u =>
        refine wpAny_mono h₁ (fun _ s₁ h₁ => wpAny_mono h₁ (fun _ s₂ h₂ => ?_) fun _ _ q => q.elim) fun _ _ q => q.elim
        obtain ⟨x0, x1, i, ys', _, H6, pl, J2, back, q⟩ := h₂
        dsimp only at q
        rw [if_pos rfl] at q
        exact wpAny_mono (emit n x0 x1 i ys' H6 pl s₂ J2 back q) (fun y s₃ h₃ => ex0 h₃) fun _ _ q => q.elim
    | cons c r0 =>
      cases r0 with
      | cons _ _ => exact (hif C s3 H3 fp).elim
      | nil =>
        have hpt : PT (aC X scope C (x :: z :: ys) s3 H3 fp) c tc := hif C s3 H3 fp
        refine eu (fun n s => ∃ i v w ys' H', Inv (aC X scope C (x :: z :: ys) s3 H3 fp) [] (v :: w :: aI σ is) H' s ∧ tn i s.heap ∧ (∀ b ∈ fp, H' b = none) ∧ W i n ys' H') (fun n s hI => ?_) m0 start0
        refine wpAny_mono (turnAt n s hI) (fun r s₁ h₁ => ?_) fun _ _ q => q.elim
        cases r with
        | none => exact h₁
        | some u =>
          refine wpAny_mono h₁ (fun _ s₁ h₁ => wpAny_mono h₁ (fun _ s₂ h₂ => ?_) fun _ _ q => q.elim) fun _ _ q => q.elim
          obtain ⟨x0, x1, i, ys', _, H6, pl, J2, back, q⟩ := h₂
          refine wpAny_mono (hpt ([] ++ pl) s₂ _ H6 _ J2 q) (fun b s₃ h₃ => ?_) fun _ _ q => q.elim
          obtain ⟨H4, J4, q4⟩ := h₃
          cases b with
          | true =>
            rw [if_pos rfl] at q4 ⊢
            exact wpAny_mono (emit n x0 x1 i ys' H4 pl s₃ J4 back q4) (fun y s₃ h₃ => ex0 h₃) fun _ _ q => q.elim
          | false =>
            rw [if_neg Bool.false_ne_true] at q4 ⊢
            obtain ⟨m', hm', w'⟩ := q4
            obtain ⟨b1, b2, b3⟩ := back s₃ _ _ _ J4
            exact ⟨m', hm', i + 1, some x0, some x1, ys', _, b1, b2, b3, w'⟩
  exact codeAny_compStart_list loop (T.self X.A 0 _ _ _ st4 loop)
end
section
variable {X:Cx}
theorem vK {scope:Scope} {x z:Str} {ys:List Str} {is:List Nat} (ok:X.Ok) (S:eZ scope x z ys) (hcap:dG X scope ys is):closureFor scope X.env=pure (bZ scope.names X.env.cells []):=
 iu fun y hy hk=>by
  obtain ⟨c,e⟩:=ok.has y.1 (fI hcap (S.all y hy hk))
  rw [e];rfl
theorem oS {elt iter:Expr} {ifs:List Expr} {x z y:Str} {px pz ep py pos spos:Pos} {ek:Nat} {scope:Scope} {ys:List Str} {is:List Nat} {wi:TI} {tc:TT} {te:TE} {j:Nat}
  (hN:X.N.Nodup) (hj:X.N[j]?=some y) (hy:Loc X.env.scope y)
  (hc:X.calm=true) (S:eZ scope x z ys) (hcap:dG X scope ys is) (hi:PI X (.Tuple [.Name x px,.Name z pz] ek ep) iter wi)
  (hif:∀ C s H fp,lE (aC X scope C (x::z::ys) s H fp) ifs tc) (he:∀ C s H fp,PE (aC X scope C (x::z::ys) s H fp) elt te)
  (hsw:swapsWith (.ListComp elt [⟨.Tuple [.Name x px,.Name z pz] ek ep,iter,ifs,0⟩] scope pos) (some (.Name y py)) spos.line X.env=pure true:=by rfl)
  (hf:X.fn y=true∨X.env.scope.names.lookup y=some .local:=by first | exact .inl rfl | exact .inr rfl | assumption)
  (hs:∀ x,foldedSetIterable iter X.env x=pure x:=by intro _;rfl):PS X (.Assign [.Name y py] (.ListComp elt [⟨.Tuple [.Name x px,.Name z pz] ek ep,iter,ifs,0⟩] scope pos) spos) (aP (nP X.K is wi tc te) (av j)):=by
 intro pins s σ H D I h
 rw [exec_Assign_Name_used _ _ _ _ hsw]
 refine wpAny_bind (wpAny_standAt (wpAny_bind ?_))
 show wpAny _ X.A (do let _←comprehension (.ListComp elt [⟨.Tuple [.Name x px,.Name z pz] ek ep,iter,ifs,0⟩] scope pos) scope X.env _ (newList []) false (eval iter X.env) (some (assign (.Name y py) X.env))) _ _ s
 refine wpAny_bind (wpAny_mono (wpAny_comprehension_free (use:=some (assign (.Name y py) X.env)) (Q:=fun _ s'=>SP X pins D .next s') rfl hs (vK I.ok S hcap) S.kind S.names
  (thn (hi pins s σ H _ I h) fun v s1 h1=>thn h1 fun itv s2 h2=>?_)) (fun _ s' hq=>wpAny_pure (wpAny_pure hq)) fun _ _ e=>e)
 obtain ⟨it,fp,tn,J,H2,rfl,I2,T,st2,f2,hW⟩:=h2
 refine rz (Q:=fun x H1=>av j x σ H1 D.nx) (RR:=fun acc C=>compPost (model X.prog X.w) X.A X.xe (some (assign (.Name y py) X.env)) (fun _ s'=>SP X pins D .next s') acc C) hc S hcap hif he I2 T st2 f2 hW ?_
 intro Da C H' s' hlt hns hne hfr I' back q
 show wpAny _ X.A (assign (.Name y py) X.env (.ref Da)) _ _ _
 obtain ⟨m,hm⟩:=hns
 refine wpAny_assign_Name (iO I' hN hj hy (v:=.ref Da) rfl (fun s2 I2' ⟨a,hsb,ha⟩=>?_) hf)
 have hCa:C≠a:=by
  rcases ha with e | e
  · rw [e];exact hne
  · rintro rfl
    obtain ⟨v,o,ho,hd⟩:=I'.cell y C e
    obtain ⟨o2,es,ep,ho2,hd2,_⟩:=hm
    rw [ho] at ho2;cases ho2;rw [hd] at hd2;cases hd2
 refine ⟨m,hm.sameBut hsb hCa,fun h' hs'=>?_⟩
 have hCn:∀ y c,X.env.cells.lookup y=some c→c≠C:=fun z c e q=>by
  subst q
  obtain ⟨v,o,ho,hd⟩:=I'.cell z c e
  obtain ⟨o2,es,ep,ho2,hd2,_⟩:=hm
  rw [ho] at ho2;cases ho2;rw [hd] at hd2;cases hd2
 have I3:Inv X pins (σ.set j (some (.ref Da))) H' { s2 with heap:=h' }:=by
  refine I2'.step (g':=s2.gens) (d':=s2.drawn) (t':=s2.toks) (ch:=[C]) (fun b hb=>?_) (fun b o _ _ hb e _=>(hs'.2 b (fun z=>hb (by simp [z]))).trans e) (fun b o _ _ hb e _=>⟨o.slots,(hs'.2 b (fun z=>hb (by simp [z]))).trans e⟩) (fun _ _ _ _ n=>n) (fun b o hb e=>⟨o,(hs'.2 b (fun z=>hb (by simp [z]))).trans e⟩)
    (fun _ _ e=>e) (fun _ _ _ e=>e) (fun b ps e=>⟨#[],by rw [e];simp⟩) (fun m' hm'=>hm'.sameBut hs' (Ne.symm hne)) (fun b o e=>?_) I2'.bare
  · have e:b=C:=by simpa using hb
    subst e
    exact ⟨.inr hlt.1,hne,fun z c e=>hCn z c e,hlt.2⟩
  · refine (I2'.hok b o e).stay (fun c w' hc q=>(hs'.2 c ?_).trans q) (fun _ q=>q) fun _ _ q=>q
    rintro rfl
    rcases hc with rfl | hc
    · rw [hfr] at e;cases e
    · rw [hfr] at hc;cases hc
 exact ⟨_,H',I3,q⟩
end
section
variable {X:Cx} {iter elt:Expr} {wi:TI} {te:TE} {ifs:List Expr} {scope:Scope} {ys:List Str} {is:List Nat} {px pz py ep pos spos:Pos} {ek:Nat} {x y z:Str}
theorem rB (j:Nat) {tcn:TT} (hN:X.N.Nodup) (S:eZ scope x z ys) (hcap:dG X scope ys is) (hi:QI X (.Tuple [.Name x px,.Name z pz] ek ep) iter wi)
  (hif:∀ C s H fp,qN (aC X scope C (x::z::ys) s H fp) ifs tcn) (he:∀ C s H fp,QE (aC X scope C (x::z::ys) s H fp) elt te) (hc:X.calm=true:=by rfl)
  (hj:X.N[j]?=some y:=by rfl) (hy:Loc X.env.scope y:=by first | exact .inl rfl | exact .inr rfl)
  (hsw:swapsWith (.ListComp elt [⟨.Tuple [.Name x px,.Name z pz] ek ep,iter,ifs,0⟩] scope pos) (some (.Name y py)) spos.line X.env=pure true:=by rfl) (hf:X.fn y=true∨X.env.scope.names.lookup y=some .local:=by first | exact .inl rfl | exact .inr rfl)
  (hs:∀ x,foldedSetIterable iter X.env x=pure x:=by intro _;rfl):QS X (.Assign [.Name y py] (.ListComp elt [⟨.Tuple [.Name x px,.Name z pz] ek ep,iter,ifs,0⟩] scope pos) spos) (aP (nP X.K is wi tcn te) (av j)):=
 ⟨oS hN hj hy hc S hcap hi.out (fun C s H fp=>(hif C s H fp).out) (fun C s H fp=>(he C s H fp).out) hsw hf hs⟩
end
end L2
namespace HT
open PySem PySem.Spec PyProof.Rows L2
theorem sN:typeLookup (.type "list") "keys" =pure none:=by rw [typeLookup_type,builtinLookup_eq_fast];kernel_rfl
theorem gb:entryFor table "dict.update.loop" =some Builtin.«dict.update.loop»:=entryFor_of_tree (by kernel_rfl)
theorem dA:plainId "dict.update.loop" =true:=by decide +kernel
theorem tI {prog:Program} {w:World} {A:Around} {E:Value→Shared→Prop} {s:Shared} {a:Addr} {o:Obj} {xs:Array Value} {k:Nat} {Q:Option Value→Shared→Prop}
  (hx:s.heap.get? a=some o) (hc:o.cls=.type "list") (hdat:o.data=.seq xs k) (hd:o.dict=none) (hA:A.handled=none)
  (h:∀ h' tk e,Heap.NewExcOf s.heap h' e "AttributeError" →Q none { s with heap:=h',toks:=tk }):
  wpAny (model prog w) A (getAttr? (.ref a) "keys") Q E s:=by
 obtain ⟨c,dct,dat,sl⟩:=o
 simp only at hc hdat hd
 subst hc hdat hd
 obtain ⟨hp,g,d,tk,os⟩:=s
 have hT:∀ tk',(⟨hp,g,d,tk',os⟩:Shared).TypeIs (.ref a) "list" :=fun _=>⟨_,hx,rfl⟩
 have f1:=sub_AttributeError
 have f3:=PySem.F.slot_list_getattribute.lookup
 have f4:=PySem.F.slot_list_getattribute.bind (.ref a)
 have f5:=am_list_getattr_none
 unfold getAttr? getAttrBy? getAttrBy
 repeat (any_goals (first | assumption | exact hT _ | ((with_reducible show wpAny _ _ (call (Value.builtin "list.__getattribute__") _ _) _ _ _);refine call_meets PySem.F.slot_list_getattribute (hT _) am_entry_list_getattribute (PySem.F.args_list_getattribute_2 _ _) (meets_getattribute_miss_list a xs k sl "keys" _ sN (by decide +kernel) (by size_fits)) ⟨hx,hA,fun h' tk' e hx'=>?_⟩) | wp_step))
 obtain ⟨t',u',he⟩:=hx'.there
 show wpAny _ _ (getattributeRaised _ _ _ _ _ _ _) _ _ _
 unfold getattributeRaised
 repeat (any_goals (first | assumption | wp_step))
 exact h _ _ _ hx'.of
def pN (P:Program) (w:World) (h:Heap) (as:List Addr) (vs:List (Key×Value)):Prop:=∀ (j:Nat) (a:Addr),as[j]?=some a→∃ key k y,vs[j]?=some (k,y)∧(ba P w).is k key=true∧IsTup h a #[key,y]
theorem oO {vs:List (Key×Value)} {kvs:List (Key×Value)} {i:Nat} {k:Key} {y:Value} (h:vs[i]?=some (k,y)):merged kvs (vs.drop i)=merged (stored kvs k y) (vs.drop (i+1)):=by
 obtain ⟨hi,e⟩:=List.getElem?_eq_some_iff.mp h
 rw [List.drop_eq_getElem_cons hi,e];rfl
theorem rj (kvs:List (Key×Value)) (k:Key) (v:Value):(stored kvs k v).length≤kvs.length+1:=by
 unfold stored;split <;> simp
theorem vk {P : Program} {w : World} {A : Around} {R : Result → Shared → Prop} {l it d : Addr} {as : List Addr} {vs : List (Key × Value)} (hA : A.in1.handled = none) (lv : as.length = vs.length) (nl : it ≠ l) (nd : d ≠ it) (dl : d ≠ l) (nt : it ∉ as) (dt : d ∉ as) :
    ∀ (k i : Nat) (s : Shared) (kvs : List (Key × Value)), as.length - i = k → i ≤ as.length → s.heap.IsListIter it l i → s.heap.IsList l (as.map Value.ref).toArray → pN P w s.heap as vs → s.heap.DictOf (ba P w) d kvs → kvs.length + k ≤ sizeLine →
      (∀ h' tk, h'.DictOf (ba P w) d (merged kvs (vs.drop i)) → (∀ b o, b ≠ it → b ≠ d → s.heap.get? b = some o → h'.get? b = some o) → R (.ok (.ret .none)) { s with heap := h', toks := tk }) →
      codeAny (model P w) A (.builtin "dict.update.loop" ⟨[.ref d, .ref it, rawInt i, .none], []⟩) R s := by
  intro k
  induction k with
  | zero =>
    intro i s kvs hk hi hit hl ht hd hz hR
    have hin : i = as.length := by omega
    refine codeAny_builtin gb ?_
    rw [Around.under_plainId dA _]
    show wpAny _ A.in1 (pyNext (.ref it) >>= _) _ _ s
    refine wpAny_bind (wpAny_pyNext_list_end hA hit hl (by simp [hin]) fun h' ext => ?_)
    show wpAny _ A.in1 (Builtin.Dict.addKeywords d [] >>= _) _ _ _
    refine wpAny_bind (wpAny_pure (wpAny_pure (hR h' s.toks ?_ fun b o n1 _ e => ext b o n1 e)))
    rw [hin, lv, List.drop_length]
    exact hd.extBut ext nd
  | succ k ih =>
    intro i s kvs hk hi hit hl ht hd hz hR
    have hlt : i < as.length := by omega
    obtain ⟨key, kk, y, hv, hkey, o, ho, hc, n, hdat⟩ := ht i as[i] (List.getElem?_eq_getElem hlt)
    have ia : as[i] ∈ as := List.getElem_mem _
    refine codeAny_builtin gb ?_
    rw [Around.under_plainId dA _]
    show wpAny _ A.in1 (pyNext (.ref it) >>= _) _ _ s
    refine wpAny_bind (wpAny_pyNext_list_item hit hl (x := .ref as[i]) (by simp [hlt]) fun h' hit' sb => ?_)
    have ho' : h'.get? as[i] = some o := (sb.2 _ fun z => nt (z ▸ ia)).trans ho
    refine wpAny_bind (wpAny_holding ?_)
    refine wpAny_bind (wpAny_tryCatch ?_)
    unfold Builtin.Dict.pairItems
    refine wpAny_bind (wpAny_typeOf (T := "tuple") ⟨o, ho', hc⟩ ?_)
    rw [if_pos (by decide +kernel)]
    refine wpAny_bind (wpAny_seqItems ho' hdat (wpAny_pure ?_))
    show wpAny _ A.in1 (holding [key, y] (dictSet d key y)) _ _ _
    refine wpAny_holding (wpAny_dictSet_pairs hkey (hd.sameBut sb nd) (fun h2 hd2 sb2 => ?_) (by omega))
    have old : ∀ b o, b ≠ it → b ≠ d → s.heap.get? b = some o → h2.get? b = some o := fun b o n1 n2 e => (sb2.2 b n2).trans ((sb.2 b n1).trans e)
    refine wpAny_pure ⟨plainId_quiet dA _, ?_⟩
    have sl := rj kvs kk y
    refine ih (i + 1) { s with heap := h2, toks := s.toks + 1 } (stored kvs kk y) (by omega) hlt ?_ ?_ (fun j a ha => ?_) hd2 (by omega) fun h3 tk hd3 old3 => ?_
    · obtain ⟨oi, e1, e2⟩ := hit'
      exact ⟨oi, (sb2.2 it (Ne.symm nd)).trans e1, e2⟩
    · obtain ⟨ol, e1, e2⟩ := hl
      exact ⟨ol, old l ol (Ne.symm nl) (Ne.symm dl) e1, e2⟩
    · obtain ⟨key', k', y', a1, a2, o', e1, e2⟩ := ht j a ha
      have ma := List.mem_of_getElem? ha
      exact ⟨key', k', y', a1, a2, o', old a o' (fun z => nt (z ▸ ma)) (fun z => dt (z ▸ ma)) e1, e2⟩
    · refine hR h3 tk (by rw [oO hv]; exact hd3) fun b o n1 n2 e => old3 b o n1 n2 (old b o n1 n2 e)
end HT
namespace L2
open PySem PySem.Spec PyProof.Rows
section
variable {X:Cx}
def ng (H:Hp) (ps:List Addr) (rs:List (Int×V)):Prop:=ps.length=rs.length∧∀ (j:Nat) (p:Addr) (r:Int×V),ps[j]?=some p→rs[j]?=some r→H p=some (.tup [.int r.1,r.2])
def ip (K:W.Frag):List V→Hp→VK→Prop:=fun xs H Q=>∃ l ps rs,xs=[.ref l]∧H l=some (.lst (ps.map V.ref))∧ng H ps rs∧ps.length≤1000∧(rs.map (·.1)).Nodup∧∀ p,H p=none→Q (.ref p) (upd H p (.dK (cj rs)))
theorem gB {α β:Type} {R:α→β→Prop} {xs xs':List α} {ys ys':List β} (h:Paired R xs ys) (h':Paired R xs' ys'):Paired R (xs++xs') (ys++ys'):=by
 induction h with
 | nil=>exact h'
 | cons r t ih=>exact .cons r ih
theorem il : ∀ {ps : List Addr} {its : List Value}, aG (ps.map V.ref) its → its = ps.map Value.ref
  | [], _, .nil => rfl
  | p :: r, _, .cons h t => by
    cases (show _ = Value.ref p from h)
    rw [il t]; rfl
theorem nQ (hc : X.calm = true) : bo X (.type "dict") (ip X.K) := fun pins s σ H xs us Q I r h => by
  obtain ⟨l, ps, rs, rfl, hl, ⟨lr, hp⟩, z, nd, q⟩ := h
  obtain ⟨u, rfl, ru⟩ := dW r
  cases (show u = Value.ref l from ru)
  obtain ⟨z1, its, n, rv, ol⟩ := (show aQ X.prog X.w H s.heap l (.lst (ps.map V.ref)) from I.hok l _ hl)
  have ei := il rv
  subst ei
  have tup : ∀ (j : Nat) (p : Addr), ps[j]? = some p → ∃ r t y, rs[j]? = some r ∧ aE r.2 y ∧ IsTup s.heap p #[.int r.1 t, y] := fun j p hj => by
    have hlt := (List.getElem?_eq_some_iff.mp hj).1
    obtain ⟨r, hr⟩ : ∃ r, rs[j]? = some r := ⟨_, List.getElem?_eq_getElem (by omega)⟩
    obtain ⟨_, its, rv, tp⟩ := (show aQ X.prog X.w H s.heap p (.tup [.int r.1, r.2]) from I.hok p _ (hp j p r hj hr))
    cases rv with
    | cons h1 t1 =>
      cases t1 with
      | cons h2 t2 =>
        cases t2
        obtain ⟨t, rfl⟩ := h1
        exact ⟨r, t, _, hr, h2, tp⟩
  obtain ⟨vs, kv, pv⟩ : ∃ vs : List (Key × Value), KV (cj rs) vs ∧ ∀ h : Heap, (∀ p ∈ ps, ∀ o, s.heap.get? p = some o → h.get? p = some o) → HT.pN X.prog X.w h ps vs := by
    have : ∀ m ≤ ps.length, ∃ vs : List (Key × Value), KV (cj (rs.take m)) vs ∧ vs.length = m ∧ ∀ (j : Nat) (p : Addr), j < m → ps[j]? = some p → ∃ key k y, vs[j]? = some (k, y) ∧ (ba X.prog X.w).is k key = true ∧ IsTup s.heap p #[key, y] := by
      intro m
      induction m with
      | zero => exact fun _ => ⟨[], .nil, rfl, fun j p h => absurd h (Nat.not_lt_zero _)⟩
      | succ m ih =>
        intro hm
        obtain ⟨vs, kv, lv, h⟩ := ih (by omega)
        obtain ⟨r, t, y, hr, ry, tp⟩ := tup m ps[m] (List.getElem?_eq_getElem (by omega))
        refine ⟨vs ++ [(.inl r.1, y)], ?_, by simp [lv], fun j p hj hp' => ?_⟩
        · have e : rs.take (m + 1) = rs.take m ++ [r] := by rw [List.take_succ, hr]; rfl
          rw [e]; unfold cj; rw [List.map_append]
          exact gB kv (.cons ⟨rfl, ry⟩ .nil)
        · by_cases hj' : j < m
          · obtain ⟨key, k, y', e1, e2⟩ := h j p hj' hp'
            exact ⟨key, k, y', by rw [List.getElem?_append_left (by omega)]; exact e1, e2⟩
          · have : j = m := by omega
            subst this
            rw [List.getElem?_eq_getElem (by omega)] at hp'
            cases hp'
            exact ⟨.int r.1 t, .inl r.1, y, by rw [List.getElem?_append_right (by omega), lv]; simp, jo _ _ _ _, tp⟩
    obtain ⟨vs, kv, lv, h⟩ := this ps.length (Nat.le_refl _)
    rw [lr, List.take_length] at kv
    refine ⟨vs, kv, fun h' keep j p hj => ?_⟩
    obtain ⟨key, k, y, e1, e2, o, e3, e4⟩ := h j p (List.getElem?_eq_some_iff.mp hj).1 hj
    exact ⟨key, k, y, e1, e2, o, keep p (List.mem_of_getElem? hj) o e3, e4⟩
  have lv : ps.length = vs.length := by rw [lr, ← kv.length]; unfold cj; rw [List.length_map]
  have plt : ∀ p ∈ ps, p < s.heap.objs.size := fun p hm => by
    obtain ⟨j, hj⟩ := List.mem_iff_getElem?.mp hm
    obtain ⟨_, _, _, _, _, o, e, _⟩ := tup j p hj
    exact Heap.lt_size e
  have llt : l < s.heap.objs.size := Heap.lt_size ol
  refine callType_codes (Q₁ := fun obj s₁ => obj = .ref s.heap.objs.size ∧ s₁ = { s with heap := s.heap.push { cls := .type "dict", data := .dict #[] } }) F.kt_called_dict (F.kt_typeCall_dict_1 _) F.entry_dict_init (kt_code_dict_new _ ⟨rfl, rfl⟩) ?_
  rintro obj s₁ ⟨rfl, rfl⟩
  have hnew : (s.heap.push { cls := .type "dict", data := .dict #[] }).DictOf (ba X.prog X.w) s.heap.objs.size [] := Heap.DictOf.new s.heap
  refine ⟨hnew.typeIs, F.args_dict_init_2 _ _, ?_⟩
  unfold Builtin.«dict.__init__»
  refine wpAny_bind ?_
  unfold Builtin.Dict.selfAndRest
  refine wpAny_bind (wpAny_notOrdered_dict hnew.typeIs ?_)
  show wpAny _ _ (pure (s.heap.objs.size, [Value.ref l])) _ _ _
  refine wpAny_pure ?_
  show wpAny _ _ (Builtin.Dict.updateFrom "dict.__init__" s.heap.objs.size (.ref l) [] .none) _ _ _
  unfold Builtin.Dict.updateFrom
  have ol1 : (s.heap.push { cls := .type "dict", data := .dict #[] }).get? l = some { cls := .type "list", data := .seq (ps.map Value.ref).toArray n } := Heap.get?_push_of_some _ ol
  refine wpAny_bind (wpAny_typeOf (T := "list") ⟨_, ol1, rfl⟩ ?_)
  rw [if_pos (by decide)]
  refine wpAny_bind (HT.tI ol1 rfl rfl rfl (I.ok.hd hc) fun h1 tk e ne => ?_)
  rw [if_pos (by rfl)]
  refine wpAny_bind (wpAny_rule ?_)
  have keep1 : ∀ b o, s.heap.get? b = some o → h1.get? b = some o := fun b o e => ne.keeps b o (Heap.get?_push_of_some _ e)
  have hd1 : h1.DictOf (ba X.prog X.w) s.heap.objs.size [] := by
    obtain ⟨o, es, ep, e, rr⟩ := hnew
    exact ⟨o, es, ep, ne.keeps _ _ e, rr⟩
  have dlt : s.heap.objs.size < h1.objs.size := by
    obtain ⟨o, es, ep, e, rr⟩ := hd1
    exact Heap.lt_size e
  have ol2 : h1.get? l = some { cls := .type "list", data := .seq (ps.map Value.ref).toArray n } := keep1 _ _ ol
  refine wpAny_bind (wpAny_pyIter_list ⟨_, ol2, rfl, n, rfl⟩ ?_)
  refine wpAny_pure ⟨plainId_quiet HT.dA _, ?_⟩
  have l1 : l < h1.objs.size := Heap.lt_size ol2
  have hpush : ∀ b o, h1.get? b = some o → (h1.push { cls := .type "list_iterator", data := .fields #[.ref l, .int 0 0] }).get? b = some o := fun b o e => Heap.get?_push_of_some _ e
  have nt : h1.objs.size ∉ ps := fun hm => by have : h1.objs.size < s.heap.objs.size := plt _ hm; omega
  refine HT.vk (A := X.A.in1) (P := X.prog) (w := X.w) (l := l) (it := h1.objs.size) (d := s.heap.objs.size) (as := ps) (vs := vs) (I.ok.hd hc) lv (Ne.symm (Nat.ne_of_lt l1)) (Nat.ne_of_lt dlt) (Ne.symm (Nat.ne_of_lt llt))
    nt (fun hm => Nat.lt_irrefl _ (plt _ hm)) ps.length 0 { s with heap := h1.push { cls := .type "list_iterator", data := .fields #[.ref l, .int 0 0] }, toks := tk } [] rfl (Nat.zero_le _) ⟨_, Heap.get?_push_size _ rfl, rfl, rfl⟩ ⟨_, hpush _ _ ol2, rfl, n, rfl⟩ (pv _ fun p hm o e => hpush _ _ (keep1 _ _ e)) ?_ (by rw [sizeLine_eq]; show 0 + ps.length ≤ _; omega) fun h2 tk2 hd2 old2 => ?_
  · obtain ⟨o, es, ep, e, rr⟩ := hd1
    exact ⟨o, es, ep, hpush _ _ e, rr⟩
  · have vn : (vs.map (·.1)).Nodup := by
      have : ∀ {rs : List (Int × V)} {vs : List (Key × Value)}, KV (cj rs) vs → vs.map (·.1) = (rs.map (·.1)).map (Sum.inl : Int → Key) := by
        intro rs
        induction rs with
        | nil => intro vs h; cases h; rfl
        | cons r rs ih =>
          intro vs h
          cases h with
          | cons a b => rw [List.map_cons, List.map_cons, List.map_cons, ih b, ← a.1]
      rw [this kv]
      exact List.pairwise_map.mpr (nd.imp fun h z => h (Sum.inl.inj z))
    rw [List.drop_zero, merged_nil_of_nodup vs vn] at hd2
    refine ⟨rfl, .ref s.heap.objs.size, _, I.laid (a := s.heap.objs.size) (o := .dK (cj rs)) (t' := tk2) (fun b o e => ?_) (Nat.le_refl _) (lb ?_ (beq_eq_false_iff_ne.mpr (Ne.symm (Nat.ne_of_lt I.big))) kv hd2), rfl, q _ (I.hok.fresh (Nat.le_refl _))⟩
    · have bl := Heap.lt_size e
      exact old2 b o (Nat.ne_of_lt (Nat.lt_trans bl dlt)) (Nat.ne_of_lt bl) (hpush _ _ (keep1 _ _ e))
    · unfold cj; rw [List.length_map, ← lr, sizeLine_eq]; omega
end
end L2
namespace HT
open PySem PySem.Calls PySem.W PyProof.Rows L2
section
variable {prog:Program} {w:World} {A:Around} {E:Value→Shared→Prop} {s:Shared}
def gY (h:Heap) (as:List Addr) (ks:List Int):Prop:=as.length=ks.length∧∀ (j:Nat) (a:Addr),as[j]?=some a→∃ k t v o n,ks[j]?=some k∧h.get? a=some o∧o.cls=.type "tuple" ∧o.data=.seq #[.int k t,v] n
theorem gY.cons {h:Heap} {a:Addr} {as:List Addr} {k:Int} {ks:List Int} (T:gY h (a::as) (k::ks)):(∃ t v o n,h.get? a=some o∧o.cls=.type "tuple" ∧o.data=.seq #[.int k t,v] n)∧gY h as ks:=by
 obtain ⟨l,T⟩:=T
 refine ⟨?_,by simpa using l,fun j b hb=>by simpa using T (j+1) b (by simpa using hb)⟩
 obtain ⟨k',t,v,o,n,e,x⟩:=T 0 a rfl
 cases e
 exact ⟨t,v,o,n,x⟩
theorem gY.kat {h : Heap} : ∀ {as : List Addr} {ks : List Int}, gY h as ks → ∃ fs, KatTups h (as.map Value.ref) fs ∧ fs.length = as.length ∧ ∀ v ∈ fs, ∃ k t, v = Value.int k t
  | [], _, _ => ⟨[], .nil, rfl, fun _ z => nomatch z⟩
  | a :: as, [], T => by have := T.1; simp at this
  | a :: as, k :: ks, T => by
    obtain ⟨⟨t, v, o, n, e, hc, hd⟩, T'⟩ := T.cons
    obtain ⟨fs, h1, h2, h3⟩ := T'.kat
    refine ⟨.int k t :: fs, KatTups.cons e hc hd rfl h1, by simp [h2], fun x hx => ?_⟩
    rcases List.mem_cons.mp hx with rfl | hx
    · exact ⟨k, t, rfl⟩
    · exact h3 x hx
theorem qB {a:Addr} {as:List Addr} {ks:List Int} {n:Nat} {P:Fin→Shared→Prop} (ho:s.heap.get? a=some (seqObj "list" (as.map Value.ref).toArray n)) (T:gY s.heap as ks) (nd:ks.Nodup) (h64:as.length<64)
   (h:∀ q:List Nat,q.Perm (List.range as.length)→(q.map fun i=>ks.getD i 0).Pairwise (·<·)→P (.done (.ret .none)) { s with heap:=sortedHeap s.heap a (as.map Value.ref) (q.map fun i=>(as.map Value.ref).getD i Value.none).toArray }):
   wpAny (model prog w) A (Builtin.«list.sort» ⟨[.ref a],[]⟩) P E s:=by
 rw [list_sort_plain]
 have ha:a<s.heap.objs.size:=Heap.lt_size ho
 have hls:(as.map Value.ref).length=as.length:=List.length_map ..
 refine wpAny_bind (listItems_at ho rfl ?_)
 refine wpAny_bind (listUpdate_at ho rfl ?_ (by rw [List.size_toArray,hls,sizeLine_eq];omega) (Nat.zero_le _))
 obtain ⟨e1,ho1⟩:∃ e1,(s.heap.update a (Obj.mapSeq fun _=>#[])).get? a=some (seqObj "list" #[] e1):=⟨_,get?_update_seq ho (fun _=>#[])⟩
 refine wpAny_bind (seqEpoch_at ho1 rfl ?_)
 refine wpAny_bind (wpAny_newTuple ?_ (by show (as.map Value.ref).length≤_;rw [hls,sizeLine_eq];omega))
 refine wpAny_bind (wpAny_newList ?_ (Nat.zero_le _))
 refine wpAny_holding ?_
 have ho6:(((s.heap.update a (Obj.mapSeq fun _=>#[])).push (seqObj "tuple" (as.map Value.ref).toArray 0)).push (seqObj "list" #[] 0)).get? a=some (seqObj "list" #[] e1):=by
   rw [Heap.get?_push_ne _ _ _ (by rw [size_push',Heap.size_update];exact Nat.ne_of_lt (Nat.lt_succ_of_lt ha)),Heap.get?_push_ne _ _ _ (by rw [Heap.size_update];exact Nat.ne_of_lt ha)]
   exact ho1
 show wpAny (model prog w) A _ P E { s with heap:=((s.heap.update a (Obj.mapSeq fun _=>#[])).push (seqObj "tuple" (as.map Value.ref).toArray 0)).push (seqObj "list" #[] 0) }
 dsimp only
 have hsz:(as.map Value.ref).toArray.size=as.length:=by simp
 have T6:gY (((s.heap.update a (Obj.mapSeq fun _=>#[])).push (seqObj "tuple" (as.map Value.ref).toArray 0)).push (seqObj "list" #[] 0)) as ks:=⟨T.1,fun j x hx=>by
   obtain ⟨k,t,v,o,n,e1,e2,e3,e4⟩:=T.2 j x hx
   have ne:x≠a:=fun z=>by
     subst z;rw [ho] at e2
     have z2:=Option.some.inj e2
     subst z2
     have z3:Value.type "list" =Value.type "tuple" :=e3
     exact absurd z3 (by decide)
   exact ⟨k,t,v,o,n,e1,Heap.get?_push_of_some _ (Heap.get?_push_of_some _ ((Heap.get?_update_other _ _ ne.symm).trans e2)),e3,e4⟩⟩
 by_cases h2:as.length<2
 · rw [if_pos (by rw [hsz];exact h2),if_pos (by rw [hsz];exact h2)]
   refine wpAny_bind (wpAny_pure ?_)
   rw [StateT.run_pure]
   refine wpAny_bind (wpAny_pure ?_)
   dsimp only
   refine wpAny_bind (seqEpoch_at ho6 rfl ?_)
   refine wpAny_bind (listUpdate_at ho6 rfl ?_ (Nat.zero_le _) (by rw [Array.size_map];show (pairsOf (as.map Value.ref)).size≤_;rw [pairsOf_size,hls,sizeLine_eq];omega))
   simp only [bne_self_eq_false,Bool.false_eq_true,if_false]
   refine wpAny_pure ?_
   have e:(arrOf (SortSt.mk' general' ((as.map Value.ref).toArray.zip (as.map Value.ref).toArray) #[] 7 none)).map (·.2)=((List.range as.length).map fun i=>(as.map Value.ref).getD i Value.none).toArray:=by
     show (pairsOf (as.map Value.ref)).map (·.2)=_
     have r:=kM (as.map Value.ref) Value.none
     rw [List.length_map] at r
     rw [sw,r]
   have f:=h (List.range as.length) (.refl _) (by
     match as,h2 with
     | [],_=>exact .nil
     | [_],_=>exact List.pairwise_singleton _ _)
   rw [← e] at f
   exact f
 · rw [if_neg (by rw [hsz];exact h2),if_neg (by rw [hsz];exact h2)]
   obtain ⟨fs,kt,lf,iv⟩:=T6.kat
   refine wpAny_bind (kat_kind (T:=Value.type "int") kt (by omega) (fun v hv=>by obtain ⟨k,t,rfl⟩:=iv v hv;exact Looks.of_pure rfl) (by decide) ?_)
   have inj:∀ i j,i<as.length→j<as.length→ks.getD i 0=ks.getD j 0→i=j:=fun i j hi hj e=>by
     have l:=T.1
     rw [List.getD_eq_getElem?_getD,List.getD_eq_getElem?_getD,List.getElem?_eq_getElem (by omega),List.getElem?_eq_getElem (by omega)] at e
     exact (List.getElem_inj nd).mp e
   refine wpAny_bind (wpAny_mono (kat_run (prog:=prog) (w:=w) (E:=E) (κ:=tuples' (Value.type "int" !=Value.type "tuple")) (ks:=as.map Value.ref) (vs:=as.map Value.ref) (G:=fun p s'=>s'={ s with heap:=((s.heap.update a (Obj.mapSeq fun _=>#[])).push (seqObj "tuple" (as.map Value.ref).toArray 0)).push (seqObj "list" #[] 0) }∧Pm as.length p∧Up (fun i=>ks.getD i 0) p as.length)
     (Q:=fun st' s'=>∃ p:Array Nat,arrOf st'=p.map (kas_item ((as.map Value.ref).toArray.zip (as.map Value.ref).toArray))∧failedOf st'=none∧s'={ s with heap:=((s.heap.update a (Obj.mapSeq fun _=>#[])).push (seqObj "tuple" (as.map Value.ref).toArray 0)).push (seqObj "list" #[] 0) }∧Pm as.length p∧Up (fun i=>ks.getD i 0) p as.length)
     rfl (by rw [hls];omega) (by rw [hls];exact h64) (fun p st' s' a1 a2 a3 a4=>⟨p,a2,a3,a4⟩) ?_) ?_ fun _ _ e=>e)
   · rw [hls]
     refine pM (c:=cK fun i=>ks.getD i 0) (n:=as.length) (Q:=fun p=>Pm as.length p∧Up (fun i=>ks.getD i 0) p as.length) (fun i j C hi hj hij hC=>?_) (fun p hp=>⟨rfl,hp⟩) (yi inj (by omega))
     obtain ⟨x,ex,ex'⟩:=jF hi
     obtain ⟨y,ey,ey'⟩:=jF hj
     obtain ⟨k1,t1,v1,oo1,nn1,g1,o1,_,q1⟩:=T6.2 i x ex
     obtain ⟨k2,t2,v2,oo2,nn2,g2,o2,_,q2⟩:=T6.2 j y ey
     have f1:ks.getD i 0=k1:=by rw [List.getD_eq_getElem?_getD,g1];rfl
     have f2:ks.getD j 0=k2:=by rw [List.getD_eq_getElem?_getD,g2];rfl
     have hC':C (decide (k1<k2)) { s with heap:=((s.heap.update a (Obj.mapSeq fun _=>#[])).push (seqObj "tuple" (as.map Value.ref).toArray 0)).push (seqObj "list" #[] 0) }:=by rw [← f1,←f2];exact hC
     unfold kas_ask
     rw [ex',ey']
     refine kat_lt o1 q1 o2 q2 (kat_cons (wpAny_eqBool_int ?_))
     have q:k1≠k2:=fun q=>hij (inj i j hi hj (by rw [f1,f2,q]))
     rw [show (k1==k2)=false from beq_eq_false_iff_ne.mpr q]
     exact kat_no (oneLt_int hC')
   · rintro ⟨⟨⟩,st'⟩ s' ⟨p,har,hf,rfl,pm,up⟩
     dsimp only
     have hout:=kat_snds (ks:=as.map Value.ref) (vs:=as.map Value.ref) rfl har
     have hsz2:(List.toArray (p.toList.map fun i=>(as.map Value.ref).getD i Value.none)).size=as.length:=by rw [List.size_toArray,List.length_map,Array.length_toList,pm.sz]
     rw [hout]
     refine wpAny_bind (seqEpoch_at ho6 rfl ?_)
     refine wpAny_bind (listUpdate_at ho6 rfl ?_ (Nat.zero_le _) (Nat.le_trans (Nat.le_of_eq hsz2) (by rw [sizeLine_eq];omega)))
     rw [hf]
     simp only [bne_self_eq_false,Bool.false_eq_true,if_false]
     refine wpAny_pure (h p.toList pm.pm ?_)
     refine List.pairwise_map.mpr (List.pairwise_iff_getElem.mpr fun i j hi hj hij=>?_)
     have hi':i<p.size:=by simpa using hi
     have hj':j<p.size:=by simpa using hj
     have u:=up i j hij (by rw [← pm.sz];exact hj')
     rw [mX (show p[i]?=some p[i] from Array.getElem?_eq_getElem hi'),mX (show p[j]?=some p[j] from Array.getElem?_eq_getElem hj')] at u
     simpa using u
end
end HT
namespace L2
open PySem PySem.Spec PyProof.Rows PySem.W
section
variable {X:Cx}
def ox (K:W.Frag):List V→Hp→VK→Prop:=fun xs H Q=>∃ l ps rs,xs=[.ref l]∧H l=some (.lst (ps.map V.ref))∧ng H ps rs∧ps.length<64∧(rs.map (·.1)).Nodup∧
 ∀ (m:Addr) (ps':List Addr) (rs':List (Int×V)),H m=none→rs'.Perm rs→rs'.Pairwise (fun x y=>x.1<y.1)→ng H ps' rs'→Q (.ref m) (upd H m (.lst (ps'.map V.ref)))
theorem tZ : bo X (.builtin "sorted") (ox X.K) := fun pins s σ H xs us Q I r h => by
  obtain ⟨l, ps, rs, rfl, hl, ⟨lr, hp⟩, h64, nd, q⟩ := h
  obtain ⟨u, rfl, ru⟩ := dW r
  cases (show u = Value.ref l from ru)
  obtain ⟨z1, its, n, rv, ol⟩ := (show aQ X.prog X.w H s.heap l (.lst (ps.map V.ref)) from I.hok l _ hl)
  have ei := il rv
  subst ei
  have tup : ∀ (j : Nat) (p : Addr), ps[j]? = some p → ∃ r t y o n, rs[j]? = some r ∧ s.heap.get? p = some o ∧ o.cls = .type "tuple" ∧ o.data = .seq #[.int r.1 t, y] n := fun j p hj => by
    have hlt := (List.getElem?_eq_some_iff.mp hj).1
    obtain ⟨r, hr⟩ : ∃ r, rs[j]? = some r := ⟨_, List.getElem?_eq_getElem (by omega)⟩
    obtain ⟨_, its, rv, o, e1, e2, n, e3⟩ := (show aQ X.prog X.w H s.heap p (.tup [.int r.1, r.2]) from I.hok p _ (hp j p r hj hr))
    cases rv with
    | cons h1 t1 =>
      cases t1 with
      | cons h2 t2 =>
        cases t2
        obtain ⟨t, rfl⟩ := h1
        exact ⟨r, t, _, o, n, hr, e1, e2, e3⟩
  have lps : (ps.map Value.ref).length = ps.length := List.length_map ..
  refine Calls.call_function_entry kind_sorted plain_sorted entry_sorted (args_sorted1 _) ?_
  unfold Builtin.«sorted»
  refine wpAny_bind (m := checkCount "sorted" 1 1 _) (wpAny_pure ?_)
  refine wpAny_bind (collect_list ⟨_, ol, rfl, n, rfl⟩ ?_ (by rw [lps, sizeLine_eq]; omega))
  refine wpAny_bind (wpAny_newList ?_ (by rw [lps, sizeLine_eq]; omega))
  have hk1 : ∀ b o, s.heap.get? b = some o → ((s.heap.push (seqObj "list" #[] 0)).update s.heap.objs.size (Obj.mapSeq (· ++ (ps.map Value.ref).toArray))).get? b = some o := fun b o e => by
    have bl := Heap.lt_size e
    exact (Heap.get?_update_other _ _ (Ne.symm (Nat.ne_of_lt bl))).trans (Heap.get?_push_of_some _ e)
  generalize (s.heap.push (seqObj "list" #[] 0)).update s.heap.objs.size (Obj.mapSeq (· ++ (ps.map Value.ref).toArray)) = h1 at hk1
  have hB : (h1.push { cls := .type "list", data := .seq (ps.map Value.ref).toArray }).get? h1.objs.size = some (seqObj "list" (ps.map Value.ref).toArray 0) := Heap.get?_push_size _ rfl
  refine wpAny_bind (wpAny_holding (wpAny_call_entry slot_list_sort ⟨_, hB, rfl⟩ entry_list_sort ?_ (args_list_sort _)))
  refine HT.qB (as := ps) (ks := rs.map (·.1)) hB ⟨by rw [lr, List.length_map], fun j b hb => ?_⟩ nd h64 fun qs pm up => ?_
  · obtain ⟨r, t, y, o, n, e1, e2, e3⟩ := tup j b hb
    exact ⟨r.1, t, y, o, n, by rw [List.getElem?_map, e1]; rfl, Heap.get?_push_of_some _ (hk1 _ _ e2), e3⟩
  · refine ⟨_, rfl, wpAny_pure ⟨_, rfl, ?_⟩⟩
    have pl : ∀ i ∈ qs, i < rs.length := fun i hi => by have := List.mem_range.mp (pm.mem_iff.mp hi); omega
    have er : (qs.map fun i => rs.getD i (0, .non)).Perm rs := by
      have := pm.map fun i => rs.getD i (0, V.non)
      rw [lr, HT.kM] at this
      exact this
    have ek : ∀ i, (rs.map (·.1)).getD i 0 = (rs.getD i (0, V.non)).1 := fun i => by
      rw [List.getD_eq_getElem?_getD, List.getD_eq_getElem?_getD, List.getElem?_map]; cases rs[i]? <;> rfl
    have ea : (qs.map fun i => (ps.map Value.ref).getD i Value.none) = (qs.map fun i => ps.getD i 0).map Value.ref := by
      rw [List.map_map]
      refine List.map_congr_left fun i hi => ?_
      obtain ⟨b, e1, e2⟩ := HT.jF (as := ps) (i := i) (by have := pl i hi; omega)
      rw [e2]; show _ = Value.ref (ps.getD i 0); rw [List.getD_eq_getElem?_getD, e1]; rfl
    obtain ⟨c, hBa⟩ := sortedHeap_at (out := (qs.map fun i => (ps.map Value.ref).getD i Value.none).toArray) hB
    have lt1 : ∀ b o, h1.get? b = some o → b < h1.objs.size := fun b o e => Heap.lt_size e
    have nw : New s.heap h1.objs.size := fun b u e z => by subst z; exact Nat.lt_irrefl _ (lt1 _ _ (hk1 _ u e))
    have I1 : Inv X pins σ H { s with heap := sortedHeap (h1.push { cls := .type "list", data := .seq (ps.map Value.ref).toArray }) h1.objs.size (ps.map Value.ref) (qs.map fun i => (ps.map Value.ref).getD i Value.none).toArray } := I.kept (t' := s.toks) fun b o e => by
      rw [sortedHeap_old (Nat.ne_of_lt (lt1 _ _ (hk1 b o e))) (by rw [Heap.size_push]; exact Nat.lt_succ_of_lt (lt1 _ _ (hk1 b o e)))]
      exact Heap.get?_push_of_some _ (hk1 b o e)
    have hl2 : ((qs.map fun i => ps.getD i 0).map V.ref).length ≤ sizeLine := by rw [List.length_map, List.length_map, pm.length_eq, List.length_range, sizeLine_eq]; omega
    refine ⟨.ref h1.objs.size, _, Inv.track3 I I1 nw (nw.free I) (o := .lst ((qs.map fun i => ps.getD i 0).map V.ref)) ⟨hl2, _, c, lT _, by rw [hBa, ea]⟩, rfl, q _ _ (qs.map fun i => rs.getD i (0, .non)) (nw.free I) er ?_ ⟨by rw [List.length_map, List.length_map], fun j p r hj hr => ?_⟩⟩
    · refine List.pairwise_map.mpr ((List.pairwise_map.mp up).imp fun {i j} z => ?_)
      rw [ek, ek] at z; exact z
    · rw [List.getElem?_map] at hj hr
      obtain ⟨i, e1, e2⟩ := Option.map_eq_some_iff.mp hj
      rw [e1] at hr
      have hi := pl i (List.mem_of_getElem? e1)
      refine hp i p r ?_ ?_
      · rw [← e2, List.getD_eq_getElem?_getD, List.getElem?_eq_getElem (by omega)]; rfl
      · cases hr; show _ = some (rs.getD i (0, V.non)); rw [List.getD_eq_getElem?_getD, List.getElem?_eq_getElem hi]; rfl
end
end L2
namespace Rs
open PySem PySem.Spec PyProof.Rows L2
abbrev GK:=List Key→Option Key
def bQ (s:Stmt) (j:Nat):Stmt:=match s with
 | .ClassDef _ _ _ b _ _ _ _ _ _ _=>b.getD j (.Pass ⟨0,0,0,0⟩)
 | _=> .Pass ⟨0,0,0,0⟩
def top (i:Nat):Stmt:=PySem.Challenge.pw_rootstamp_k13_knots_by_hand.main.body.getD i (.Pass ⟨0,0,0,0⟩)
abbrev uX:Stmt:=top 5
abbrev vc:Stmt:=top 6
abbrev uQ:Stmt:=top 7
abbrev va:Stmt:=top 9
abbrev uF:Stmt:=top 8
abbrev wd:Stmt:=bQ (top 21) 1
abbrev vA:Stmt:=top 27
abbrev jA:Stmt:=top 22
abbrev ve:Stmt:=bQ (top 21) 0
abbrev jM:Stmt:=top 23
abbrev ii:Stmt:=top 28
abbrev ux:Stmt:=top 25
abbrev wj:Stmt:=top 29
abbrev uV:Stmt:=top 26
abbrev vN:Stmt:=top 30
abbrev vi:Stmt:=bQ (top 15) 0
abbrev vU:Stmt:=bQ (top 17) 0
abbrev uK:Stmt:=top 32
abbrev vf:Stmt:=top 31
abbrev uz:Stmt:=top 34
abbrev s_0:Stmt:=bQ (top 16) 0
abbrev s_5:Stmt:=bQ (top 18) 0
abbrev s_2:Stmt:=bQ (top 16) 2
abbrev wc:Stmt:=bQ (top 17) 2
abbrev vV:Stmt:=bQ (top 18) 5
abbrev s_1:Stmt:=bQ (top 16) 1
abbrev vW:Stmt:=bQ (top 17) 1
abbrev uL:Stmt:=top 11
abbrev vD:Stmt:=bQ (top 18) 2
abbrev s_8:Stmt:=bQ (top 18) 4
abbrev ww:Stmt:=top 33
abbrev s_3:Stmt:=bQ (top 16) 3
abbrev vy:Stmt:=top 12
abbrev uB:Stmt:=top 19
abbrev ul:Stmt:=top 13
abbrev ur:Stmt:=bQ (top 17) 3
abbrev s_9:Stmt:=bQ (top 18) 1
abbrev s_7:Stmt:=bQ (top 18) 8
abbrev wK:Stmt:=bQ (top 18) 6
abbrev s_4:Stmt:=bQ (top 16) 4
abbrev uP:Stmt:=bQ (top 17) 4
abbrev s_6:Stmt:=bQ (top 18) 3
abbrev wb:Stmt:=bQ (top 18) 7
abbrev uC:Stmt:=top 35
abbrev uA:Stmt:=top 36
def sAt (i:Nat) (l:List Stmt):Stmt:=l.getD i (.Pass ⟨0,0,0,0⟩)
def sIf:Stmt→List Stmt | .If _ a _ _=>a | _=>[]
def nK:Stmt→Expr | .Return (some e) _=>e | .Assign _ e _=>e | .Expr e _=>e | _=> .Constant .none 0 ⟨0,0,0,0⟩
def cZ:Expr→Expr | .Lambda _ b _ _=>b | e=>e
def fo:Expr→Scope | .Lambda _ _ sc _=>sc | _=>{ kind:=.function,names:=[],isGenerator:=false,isCoroutine:=false }
abbrev wA:Expr:=(nK (sAt 0 (aT jA)))
def ed:cA:=⟨(("writing" :Str)++ ".<locals>.")++ "<lambda>",.expr (cZ wA),fo wA,["term"],[]⟩
abbrev uW:Expr:=(nK (sAt 1 (aT jM)))
def dc:cA:=⟨(("counting" :Str)++ ".<locals>.")++ "<lambda>",.expr (cZ uW),fo uW,["term"],["numbers"]⟩
abbrev wC:Expr:=(nK (sAt 0 (sIf (sAt 4 (aT ii)))))
def eJ:cA:=⟨(("_law_stamper" :Str)++ ".<locals>.")++ "<lambda>",.expr (cZ wC),fo wC,["_law_term"],["_law_book"]⟩
abbrev vh:Expr:=(nK (sAt 0 (sIf (sAt 5 (aT ii)))))
def eE:cA:=⟨(("_law_stamper" :Str)++ ".<locals>.")++ "<lambda>",.expr (cZ vh),fo vh,["_law_one"],["_law_many"]⟩
abbrev wm:Expr:=(nK (sAt 6 (aT ii)))
def eM:cA:=⟨(("_law_stamper" :Str)++ ".<locals>.")++ "<lambda>",.expr (cZ wm),fo wm,["_law_other"],["_law_many"]⟩
set_option genInjectivity false in
set_option genSizeOf false in
abbrev Rd (sp:Sp) (t:TS) (N:List Str):Prop:=∀ (vs:List V) (H:Hp) (Q:VK) (E:XK),sp vs H Q E→t { nx:=fun _ H'=>Q .non H',rt:=Q } (L2.bX N vs) H
abbrev Ln (sp:Sp) (n:Nat):Prop:=∀ vs H Q E,sp vs H Q E→vs.length=n
structure Adr where
 a_41:Addr
 d_41:FuncData
 a_39:Addr
 d_39:FuncData
 a_40:Addr
 d_40:FuncData
 a_44:Addr
 d_44:FuncData
 a_49:Addr
 d_49:FuncData
 a_21:Addr
 d_21:FuncData
 a_33:Addr
 d_33:FuncData
 a_47:Addr
 d_47:FuncData
 a_20:Addr
 d_20:FuncData
 a_37:Addr
 d_37:FuncData
 a_29:Addr
 d_29:FuncData
 a_22:Addr
 d_22:FuncData
 a_25:Addr
 d_25:FuncData
 a_28:Addr
 d_28:FuncData
 a_35:Addr
 d_35:FuncData
 a_14:Addr
 d_14:FuncData
 a_15:Addr
 d_15:FuncData
 a_23:Addr
 d_23:FuncData
 a_34:Addr
 d_34:FuncData
 a_26:Addr
 d_26:FuncData
 a_0:Addr
 d_0:FuncData
 a_5:Addr
 d_5:FuncData
 a_2:Addr
 d_2:FuncData
 a_17:Addr
 d_17:FuncData
 a_10:Addr
 d_10:FuncData
 a_1:Addr
 d_1:FuncData
 a_16:Addr
 d_16:FuncData
 a_45:Addr
 d_45:FuncData
 a_11:Addr
 d_11:FuncData
 a_8:Addr
 d_8:FuncData
 a_27:Addr
 d_27:FuncData
 a_3:Addr
 d_3:FuncData
 a_46:Addr
 d_46:FuncData
 a_42:Addr
 d_42:FuncData
 a_36:Addr
 d_36:FuncData
 a_18:Addr
 d_18:FuncData
 a_9:Addr
 d_9:FuncData
 a_7:Addr
 d_7:FuncData
 a_12:Addr
 d_12:FuncData
 a_4:Addr
 d_4:FuncData
 a_19:Addr
 d_19:FuncData
 a_6:Addr
 d_6:FuncData
 a_13:Addr
 d_13:FuncData
 a_24:Addr
 d_24:FuncData
 a_43:Addr
 d_43:FuncData
 k_47:Addr
 t_47:Addr
 k_37:Addr
 t_37:Addr
 k_29:Addr
 t_29:Addr
 c_Numbers:Addr
 c_Knot:Addr
 c_Bare:Addr
 c_Leaf:Addr
 c_Fork:Addr
set_option genInjectivity false in
set_option genSizeOf false in
structure Txt (K:W.Frag) (mg:Str→Option Value) (A:Adr):Prop where
 f_41:Fm K mg "is_whole" "is_whole" uX A.a_41 A.d_41 ["thing"]
 f_39:Fm K mg "is_stamp" "is_stamp" vc A.a_39 A.d_39 ["thing"]
 f_40:Fm K mg "is_term" "is_term" uQ A.a_40 A.d_40 ["thing"]
 f_44:Fm K mg "part_form" "part_form" va A.a_44 A.d_44 ["part"]
 f_49:Fm K mg "written" "written" uF A.a_49 A.d_49 ["term"]
 f_21:Fun K "number_of" "Numbers.number_of" wd A.a_21 A.d_21
 b_21:aU K A.d_21 ["self", "term"] []
 f_33:Fm K mg "_law_sum" "_law_sum" vA A.a_33 A.d_33 ["_law_term"]
 f_47:Fm K mg "writing" "writing" jA A.a_47 A.d_47 []
 f_20:Fun K "__init__" "Numbers.__init__" ve A.a_20 A.d_20
 b_20:aU K A.d_20 ["self"] []
 f_37:Fm K mg "counting" "counting" jM A.a_37 A.d_37 []
 f_29:Fm K mg "_law_stamper" "_law_stamper" ii A.a_29 A.d_29 ["_law_cell"]
 f_22:Fm K mg "_law_cell_at" "_law_cell_at" ux A.a_22 A.d_22 ["_law_script", "_law_k"]
 f_25:Fm K mg "_law_key" "_law_key" wj A.a_25 A.d_25 ["_law_cell", "_law_bits"]
 f_28:Fm K mg "_law_signs" "_law_signs" uV A.a_28 A.d_28 ["_law_cell", "_law_many"]
 f_35:Fm K mg "_law_text" "_law_text" vN A.a_35 A.d_35 ["_law_cell"]
 f_14:Fun K "__init__" "Knot.__init__" vi A.a_14 A.d_14
 b_14:aU K A.d_14 ["self", "stamper", "term"] []
 f_15:Fun K "__init__" "Leaf.__init__" vU A.a_15 A.d_15
 b_15:aU K A.d_15 ["self", "stamper", "key", "value"] []
 f_23:Fm K mg "_law_due" "_law_due" uK A.a_23 A.d_23 ["_law_stamper_here", "_law_bits", "_law_rows"]
 f_34:Fm K mg "_law_term_is" "_law_term_is" vf A.a_34 A.d_34 ["_law_found", "_law_due_here"]
 f_26:Fm K mg "_law_plain" "_law_plain" uz A.a_26 A.d_26 ["_law_stamper_here", "_law_term"]
 f_0:Fun K "__init__" "Bare.__init__" s_0 A.a_0 A.d_0
 b_0:aU K A.d_0 ["self", "stamper"] []
 f_5:Fun K "__init__" "Fork.__init__" s_5 A.a_5 A.d_5
 b_5:aU K A.d_5 ["self", "stamper", "depth", "begin", "left", "right"] []
 f_2:Fun K "rows" "Bare.rows" s_2 A.a_2 A.d_2
 b_2:aU K A.d_2 ["self"] []
 f_17:Fun K "rows" "Leaf.rows" wc A.a_17 A.d_17
 b_17:aU K A.d_17 ["self"] []
 f_10:Fun K "rows" "Fork.rows" vV A.a_10 A.d_10
 b_10:aU K A.d_10 ["self"] []
 f_1:Fun K "found" "Bare.found" s_1 A.a_1 A.d_1
 b_1:aU K A.d_1 ["self", "bits", "key"] []
 f_16:Fun K "found" "Leaf.found" vW A.a_16 A.d_16
 b_16:aU K A.d_16 ["self", "bits", "key"] []
 f_45:Fm K mg "side" "side" uL A.a_45 A.d_45 ["bits", "key", "depth"]
 f_11:Fun K "toward" "Fork.toward" vD A.a_11 A.d_11
 b_11:aU K A.d_11 ["self", "bits", "key"] []
 f_8:Fun K "found" "Fork.found" s_8 A.a_8 A.d_8
 b_8:aU K A.d_8 ["self", "bits", "key"] []
 f_27:Fm K mg "_law_right" "_law_right" ww A.a_27 A.d_27 ["_law_knot", "_law_stamper_here", "_law_bits", "_law_rows", "_law_keys"]
 f_3:Fun K "with_key" "Bare.with_key" s_3 A.a_3 A.d_3
 b_3:aU K A.d_3 ["self", "stamper", "bits", "key", "value"] []
 f_46:Fm K mg "start" "start" vy A.a_46 A.d_46 ["bits", "key", "depth"]
 f_42:Fm K mg "joined" "joined" uB A.a_42 A.d_42 ["stamper", "bits", "depth", "leaf", "knot"]
 f_36:Fm K mg "alike" "alike" ul A.a_36 A.d_36 ["bits", "one", "other"]
 f_18:Fun K "with_key" "Leaf.with_key" ur A.a_18 A.d_18
 b_18:aU K A.d_18 ["self", "stamper", "bits", "key", "value"] []
 f_9:Fun K "leads" "Fork.leads" s_9 A.a_9 A.d_9
 b_9:aU K A.d_9 ["self", "bits", "key"] []
 f_7:Fun K "changed" "Fork.changed" s_7 A.a_7 A.d_7
 b_7:aU K A.d_7 ["self", "stamper", "bits", "key", "knot"] []
 f_12:Fun K "with_key" "Fork.with_key" wK A.a_12 A.d_12
 b_12:aU K A.d_12 ["self", "stamper", "bits", "key", "value"] []
 f_4:Fun K "without" "Bare.without" s_4 A.a_4 A.d_4
 b_4:aU K A.d_4 ["self", "stamper", "bits", "key"] []
 f_19:Fun K "without" "Leaf.without" uP A.a_19 A.d_19
 b_19:aU K A.d_19 ["self", "stamper", "bits", "key"] []
 f_6:Fun K "aside" "Fork.aside" s_6 A.a_6 A.d_6
 b_6:aU K A.d_6 ["self", "bits", "key"] []
 f_13:Fun K "without" "Fork.without" wb A.a_13 A.d_13
 b_13:aU K A.d_13 ["self", "stamper", "bits", "key"] []
 f_24:Fm K mg "_law_grown" "_law_grown" uC A.a_24 A.d_24 ["_law_knot", "_law_stamper_here", "_law_bits", "_law_rows", "_law_keys", "_law_text_here"]
 f_43:Fm K mg "law" "law" uA A.a_43 A.d_43 ["_law_script"]
 z_all:mg "all" =none
 z_bool:mg "bool" =none
 z_dict:mg "dict" =none
 z_int:mg "int" =none
 z_isinstance:mg "isinstance" =none
 z_len:mg "len" =none
 z_list:mg "list" =none
 z_max:mg "max" =none
 z_min:mg "min" =none
 z_ord:mg "ord" =none
 z_range:mg "range" =none
 z_sorted:mg "sorted" =none
 z_str:mg "str" =none
 z_tuple:mg "tuple" =none
 z_zip:mg "zip" =none
 c_MOST_PARTS:∃ t,mg "MOST_PARTS" =some (.int 8 t)
 kc_47:A.d_47.code=.ref A.k_47
 kc_37:A.d_37.code=.ref A.k_37
 kc_29:A.d_29.code=.ref A.k_29
 mc_Numbers:mg "Numbers" =some (.ref A.c_Numbers)
 cl_Numbers:Cls K A.c_Numbers
 na_Numbers_given:bp K A.c_Numbers "given"
 mc_Knot:mg "Knot" =some (.ref A.c_Knot)
 cl_Knot:Cls K A.c_Knot
 na_Knot_term:bp K A.c_Knot "term"
 na_Knot_mark:bp K A.c_Knot "mark"
 mc_Bare:mg "Bare" =some (.ref A.c_Bare)
 cl_Bare:Cls K A.c_Bare
 na_Bare_term:bp K A.c_Bare "term"
 na_Bare_mark:bp K A.c_Bare "mark"
 mc_Leaf:mg "Leaf" =some (.ref A.c_Leaf)
 cl_Leaf:Cls K A.c_Leaf
 na_Leaf_key:bp K A.c_Leaf "key"
 na_Leaf_text:bp K A.c_Leaf "text"
 na_Leaf_term:bp K A.c_Leaf "term"
 na_Leaf_mark:bp K A.c_Leaf "mark"
 mc_Fork:mg "Fork" =some (.ref A.c_Fork)
 cl_Fork:Cls K A.c_Fork
 na_Fork_depth:bp K A.c_Fork "depth"
 na_Fork_begin:bp K A.c_Fork "begin"
 na_Fork_left:bp K A.c_Fork "left"
 na_Fork_right:bp K A.c_Fork "right"
 na_Fork_term:bp K A.c_Fork "term"
 na_Fork_mark:bp K A.c_Fork "mark"
 me_Bare_rows:cH K A.c_Bare "rows" A.a_2
 me_Leaf_rows:cH K A.c_Leaf "rows" A.a_17
 me_Fork_rows:cH K A.c_Fork "rows" A.a_10
 me_Fork_toward:cH K A.c_Fork "toward" A.a_11
 me_Bare_found:cH K A.c_Bare "found" A.a_1
 me_Leaf_found:cH K A.c_Leaf "found" A.a_16
 me_Fork_found:cH K A.c_Fork "found" A.a_8
 me_Fork_changed:cH K A.c_Fork "changed" A.a_7
 me_Bare_with_key:cH K A.c_Bare "with_key" A.a_3
 me_Leaf_with_key:cH K A.c_Leaf "with_key" A.a_18
 me_Fork_with_key:cH K A.c_Fork "with_key" A.a_12
 me_Fork_leads:cH K A.c_Fork "leads" A.a_9
 me_Fork_aside:cH K A.c_Fork "aside" A.a_6
 me_Bare_without:cH K A.c_Bare "without" A.a_4
 me_Leaf_without:cH K A.c_Leaf "without" A.a_19
 me_Fork_without:cH K A.c_Fork "without" A.a_13
 me_Numbers_number_of:cH K A.c_Numbers "number_of" A.a_21
 mk_Numbers:Mk K A.c_Numbers A.a_20
 mk_Knot:Mk K A.c_Knot A.a_14
 mk_Leaf:Mk K A.c_Leaf A.a_15
 mk_Fork:Mk K A.c_Fork A.a_5
 mk_Bare:Mk K A.c_Bare A.a_0
 cf_Knot:xH K A.c_Knot "__init__" A.a_14
 oi_Bare:iQ K A.c_Bare
 oi_Leaf:iQ K A.c_Leaf
 oi_Fork:iQ K A.c_Fork
 ko_Bare_Fork:W.kitOne K (.ref A.c_Bare) (.ref A.c_Fork)=some false
 ko_Bare_Leaf:W.kitOne K (.ref A.c_Bare) (.ref A.c_Leaf)=some false
 ko_Bare_Bare:W.kitOne K (.ref A.c_Bare) (.ref A.c_Bare)=some true
 ko_Bare_Knot:W.kitOne K (.ref A.c_Bare) (.ref A.c_Knot)=some true
 ko_Leaf_Fork:W.kitOne K (.ref A.c_Leaf) (.ref A.c_Fork)=some false
 ko_Leaf_Leaf:W.kitOne K (.ref A.c_Leaf) (.ref A.c_Leaf)=some true
 ko_Leaf_Bare:W.kitOne K (.ref A.c_Leaf) (.ref A.c_Bare)=some false
 ko_Leaf_Knot:W.kitOne K (.ref A.c_Leaf) (.ref A.c_Knot)=some true
 ko_Fork_Fork:W.kitOne K (.ref A.c_Fork) (.ref A.c_Fork)=some true
 ko_Fork_Leaf:W.kitOne K (.ref A.c_Fork) (.ref A.c_Leaf)=some false
 ko_Fork_Bare:W.kitOne K (.ref A.c_Fork) (.ref A.c_Bare)=some false
 ko_Fork_Knot:W.kitOne K (.ref A.c_Fork) (.ref A.c_Knot)=some true
def xa (A:Adr) (H:Hp):Prop:=H A.t_47=some (.tbl #[])∧H A.t_37=some (.tbl #[])∧H A.t_29=some (.tbl #[])∧([A.t_47,A.t_37,A.t_29]:List Addr).Nodup
theorem DW:dQ ["term"] ["term"] [] ed.scope:=⟨rfl,rfl,rfl,by decide +kernel,rfl,rfl,by decide +kernel,by decide +kernel,by decide +kernel,by decide +kernel,by decide +kernel⟩
theorem Eg:dQ ["term", "numbers"] ["term"] ["numbers"] dc.scope:=⟨rfl,rfl,rfl,by decide +kernel,rfl,rfl,by decide +kernel,by decide +kernel,by decide +kernel,by decide +kernel,by decide +kernel⟩
theorem Er:dQ ["_law_term", "_law_book"] ["_law_term"] ["_law_book"] eJ.scope:=⟨rfl,rfl,rfl,by decide +kernel,rfl,rfl,by decide +kernel,by decide +kernel,by decide +kernel,by decide +kernel,by decide +kernel⟩
theorem Dt:dQ ["_law_one", "_law_many"] ["_law_one"] ["_law_many"] eE.scope:=⟨rfl,rfl,rfl,by decide +kernel,rfl,rfl,by decide +kernel,by decide +kernel,by decide +kernel,by decide +kernel,by decide +kernel⟩
theorem Df:dQ ["_law_other", "_law_many"] ["_law_other"] ["_law_many"] eM.scope:=⟨rfl,rfl,rfl,by decide +kernel,rfl,rfl,by decide +kernel,by decide +kernel,by decide +kernel,by decide +kernel,by decide +kernel⟩
theorem CK:ay ["thing"] ["thing"] (aj uX):=scF
theorem Ex:ay ["thing"] ["thing"] (aj vc):=scF
theorem EL:ay ["thing"] ["thing"] (aj uQ):=scF
theorem xo:ay ["part", "signs"] ["part"] (aj va):=scF
theorem CM:ay ["term"] ["term"] (aj uF):=scF
theorem EB:ay ["self", "term"] ["self", "term"] (aj wd):=scF
theorem fL:ay ["_law_term", "_law_total", "_law_part", "_law_sign"] ["_law_term"] (aj vA):=scF
theorem Es:ay [] [] (aj jA):=scF
theorem Ec:ay ["self"] ["self"] (aj ve):=scF
theorem xL:ay ["numbers"] [] (aj jM):=scF
theorem qy:ay ["_law_cell", "_law_book", "_law_many"] ["_law_cell"] (aj ii):=scF
theorem Dd:ay ["_law_script", "_law_k"] ["_law_script", "_law_k"] (aj ux):=scF
theorem xR:ay ["_law_cell", "_law_bits", "_law_top"] ["_law_cell", "_law_bits"] (aj wj):=scF
theorem iT:ay ["_law_cell", "_law_many", "_law_some", "_law_found", "_law_number", "_law_k"] ["_law_cell", "_law_many"] (aj uV):=scF
theorem El:ay ["_law_cell"] ["_law_cell"] (aj vN):=scF
theorem Cz:ay ["self", "stamper", "term"] ["self", "stamper", "term"] (aj vi):=scF
theorem Ea:ay ["self", "stamper", "key", "value"] ["self", "stamper", "key", "value"] (aj vU):=scF
theorem iU:ay ["_law_stamper_here", "_law_bits", "_law_rows", "_law_room", "_law_depth", "_law_marks"] ["_law_stamper_here", "_law_bits", "_law_rows"] (aj uK):=scF
theorem xC:ay ["_law_found", "_law_due_here", "_law_one", "_law_other"] ["_law_found", "_law_due_here"] (aj vf):=scF
theorem xj:ay ["_law_stamper_here", "_law_term", "_law_knot"] ["_law_stamper_here", "_law_term"] (aj uz):=scF
theorem Gy:ay ["self", "stamper"] ["self", "stamper"] (aj s_0):=scF
theorem Gh:ay ["self", "stamper", "depth", "begin", "left", "right"] ["self", "stamper", "depth", "begin", "left", "right"] (aj s_5):=scF
theorem Fd:ay ["self"] ["self"] (aj s_2):=scF
theorem Em:ay ["self"] ["self"] (aj wc):=scF
theorem Dq:ay ["self"] ["self"] (aj vV):=scF
theorem Gu:ay ["self", "bits", "key"] ["self", "bits", "key"] (aj s_1):=scF
theorem DC:ay ["self", "bits", "key"] ["self", "bits", "key"] (aj vW):=scF
theorem CP:ay ["bits", "key", "depth"] ["bits", "key", "depth"] (aj uL):=scF
theorem Dm:ay ["self", "bits", "key"] ["self", "bits", "key"] (aj vD):=scF
theorem Fk:ay ["self", "bits", "key"] ["self", "bits", "key"] (aj s_8):=scF
theorem gK:ay ["_law_knot", "_law_stamper_here", "_law_bits", "_law_rows", "_law_keys", "_law_due_here", "_law_classes", "_law_told", "_law_known", "_law_key_here"] ["_law_knot", "_law_stamper_here", "_law_bits", "_law_rows", "_law_keys"] (aj ww):=scF
theorem FT:ay ["self", "stamper", "bits", "key", "value"] ["self", "stamper", "bits", "key", "value"] (aj s_3):=scF
theorem Cm:ay ["bits", "key", "depth"] ["bits", "key", "depth"] (aj vy):=scF
theorem wW:ay ["stamper", "bits", "depth", "leaf", "knot", "begin"] ["stamper", "bits", "depth", "leaf", "knot"] (aj uB):=scF
theorem CW:ay ["bits", "one", "other"] ["bits", "one", "other"] (aj ul):=scF
theorem xi:ay ["self", "stamper", "bits", "key", "value", "leaf"] ["self", "stamper", "bits", "key", "value"] (aj ur):=scF
theorem Fj:ay ["self", "bits", "key"] ["self", "bits", "key"] (aj s_9):=scF
theorem FD:ay ["self", "stamper", "bits", "key", "knot"] ["self", "stamper", "bits", "key", "knot"] (aj s_7):=scF
theorem xB:ay ["self", "stamper", "bits", "key", "value", "depth"] ["self", "stamper", "bits", "key", "value"] (aj wK):=scF
theorem EN:ay ["self", "stamper", "bits", "key"] ["self", "stamper", "bits", "key"] (aj s_4):=scF
theorem Ds:ay ["self", "stamper", "bits", "key"] ["self", "stamper", "bits", "key"] (aj uP):=scF
theorem Fg:ay ["self", "bits", "key"] ["self", "bits", "key"] (aj s_6):=scF
theorem xI:ay ["self", "stamper", "bits", "key", "rest"] ["self", "stamper", "bits", "key"] (aj wb):=scF
theorem ko:ay ["_law_knot", "_law_stamper_here", "_law_bits", "_law_rows", "_law_keys", "_law_text_here", "_law_key_here", "_law_known", "_law_more"] ["_law_knot", "_law_stamper_here", "_law_bits", "_law_rows", "_law_keys", "_law_text_here"] (aj uC):=scF
theorem cu:ay ["_law_script", "_law_stamper_here", "_law_bits", "_law_one", "_law_cell", "_law_other", "_law_texts", "_law_keys", "_law_first", "_law_second", "_law_left", "_law_right_here", "_law_due_here", "_law_some", "_law_rows", "_law_knot", "_law_held"] ["_law_script"] (aj uA):=scF
inductive Dat where
 | non
 | bl (b:Bool)
 | int (i:Int)
 | str (z:Str)
 | lst (ds:List Dat)
 | tup (ds:List Dat)
 | dic
mutual
inductive cf (H:Hp):V→Dat→Prop
 | non:cf H .non .non
 | bl (b):cf H (.bl b) (.bl b)
 | int (i):cf H (.int i) (.int i)
 | str (z):cf H (.str z) (.str z)
 | lst {a xs ds}:H a=some (.lst xs)→DatWs H xs ds→cf H (.ref a) (.lst ds)
 | tup {a xs ds}:H a=some (.tup xs)→DatWs H xs ds→cf H (.ref a) (.tup ds)
 | dic {a}:(∃ kvs,H a=some (.dK kvs))→cf H (.ref a) .dic
inductive DatWs (H:Hp):List V→List Dat→Prop
 | nil:DatWs H [] []
 | cons {x xs d ds}:cf H x d→DatWs H xs ds→DatWs H (x::xs) (d::ds)
end
mutual
def iE:Dat→PyData
 | .non=> .none
 | .bl b=> .bool b
 | .int i=> .int i
 | .str z=> .str z
 | .lst ds=> .list (toPys ds)
 | .tup ds=> .tuple (toPys ds)
 | .dic=> .none
def toPys:List Dat→List PyData
 | []=>[]
 | d::r=>iE d::toPys r
end
def bz (z:Str):Bool:=z.cps.all (·<128)
mutual
def okD:Dat→Bool
 | .str z=>bz z&&decide (z.length≤100000)
 | .lst ds=>okDs ds
 | .tup ds=>okDs ds
 | .dic=>false
 | .non=>true
 | .bl _=>true
 | .int _=>true
def okDs:List Dat→Bool
 | []=>true
 | d::r=>okD d&&okDs r
end
def vC:Dat→Bool
 | .int _=>true
 | _=>false
def hU:Dat→Bool
 | .int i=>decide (0≤i∧i<10^60)
 | .str _=>true
 | _=>false
def kZ (bits key depth:Int):Int:=key/2^(bits - depth).toNat
def kQ (K:W.Frag) (A:Adr):Sp:=fun vs H Q _=>∃ v d,vs=[v]∧cf H v d∧Q (.bl (vC d)) H
def mT (K:W.Frag) (A:Adr):Sp:=fun vs H Q _=>∃ v d,vs=[v]∧cf H v d∧Q (.bl (hU d)) H
def ej:Key→Dat
 | .inl i=> .int i
 | .inr z=> .str z
def szK:Key→Nat
 | .inl _=>62
 | .inr z=>z.length+62
def okP:Key→Bool
 | .inl i=>decide (0≤i∧i<10^60)
 | .inr z=>bz z&&decide (z.length≤100000)
def Ey:Key→Bool
 | .inr _=>true
 | .inl _=>false
def okT (k:List Key):Bool:=decide (1≤k.length∧k.length≤8)&&(k.head?.map Ey).getD false&&k.all okP
def szT (k:List Key):Nat:=(k.map szK).sum
def cQ (k:List Key):Key→Prop
 | .inl i=>0≤i∧i<10^60
 | .inr z=>bz z=true∧z.length≤szT k
def cq (kvs:List (List Key×Key)):List (List Key×V):=kvs.map fun p=>(p.1,kV p.2)
def cF (kvs:List (List Key×Key)) (k:List Key):Option Key:=(kvs.find? fun p=>decide (p.1=k)).map (·.2)
def gn:Key→Prop
 | .inl i=>0≤i∧i<10^60
 | .inr z=>bz z=true∧z.length≤62
def eO (kvs:List (List Key×Key)):Prop:=∀ p∈kvs,gn p.2
structure eX (A:Adr) (H:Hp) (x d:Addr) (kvs:List (List Key×V)):Prop where
 ob:∃ dx,H x=some (.ins A.c_Numbers dx [("given",.ref d)])
 di:H d=some (.dT kvs)
def aB (b:Addr) (H H':Hp):Prop:=∀ x o,x≠b→H x=some o→H' x=some o
def dJ:Key→Str
 | .inl i=>toString i++ ";"
 | .inr z=>toString (z.length:Int)++ ":" ++z
def eY:List Key→Str
 | []=>Str.empty
 | x::r=>dJ x++eY r
def mD (t:Int) (c:Nat):Int:=t*3+(c:Int)
def mY (t:Int):Key→Int
 | .inl i=>(t*5+i)%1000000007
 | .inr z=>((PySem.Txt.slice z none (some 6)).cps.toList.foldl mD (t*7+3*(z.length:Int)))%1000000007
def fq (k:List Key):Int:=k.foldl mY 0
def mB (m:Int) (k:List Key):Key:=.inr (("s" :Str)++((toString (fq k%m):String):Str))
inductive Stp (A:Adr) (H:Hp) (f b:Addr) (g:GK) (n:Nat):Prop
 | wri (kvs:List (List Key×V)) (hc:de H f ed [] []) (hb:H b=some (.dT kvs)) (hg:g=fun k=>some (.inr (eY k)))
 | cnt (q x:Addr) (kvs:List (List Key×Key)) (hc:de H f dc [q] [.ref x]) (num:eX A H x b (cq kvs)) (hl:kvs.length≤n) (hs:eO kvs) (hg:g=cF kvs)
 | sur (q:Addr) (kvs:List (List Key×Key)) (hc:de H f eJ [q] [.ref b]) (hb:H b=some (.dT (cq kvs))) (hl:kvs.length≤n) (hs:eO kvs) (hg:g=cF kvs)
 | wi (q:Addr) (m:Int) (kvs:List (List Key×V)) (h1:1≤m) (h2:m≤9) (hc:de H f eE [q] [.int m]) (hb:H b=some (.dT kvs)) (hg:g=fun k=>some (.inl (fq k%m)))
 | wt (q:Addr) (m:Int) (kvs:List (List Key×V)) (h1:1≤m) (h2:m≤9) (hc:de H f eM [q] [.int m]) (hb:H b=some (.dT kvs)) (hg:g=fun k=>some (mB m k))
def Sub (g g':GK):Prop:=∀ k v,g k=some v→g' k=some v
def kE (K:W.Frag) (A:Adr):Sp:=fun vs H Q _=>∃ (p:Addr) (k:List Key),vs=[.ref p]∧H p=some (.tup (k.map kV))∧okT k=true∧∀ H',aq H H'→Q (.bl true) H'
def mQ (K:W.Frag) (A:Adr):Sp:=fun vs H Q _=>∃ x:Key,vs=[kV x]∧okP x=true∧Q (.str (dJ x)) H
def kD (K:W.Frag) (A:Adr):Sp:=fun vs H Q _=>∃ (p:Addr) (k:List Key),vs=[.ref p]∧H p=some (.tup (k.map kV))∧okT k=true∧∀ H',aq H H'→Q (.str (eY k)) H'
def qC (K:W.Frag) (A:Adr):Sp:=kD K A
def gT (kvs:List (List Key×V)) (kk:List Key) (d:V):V:=(bx kvs kk).getD d
def gQ (H:Hp) (b:Addr) (kvs:List (List Key×V)) (kk:List Key) (d:V):Hp:=if (bx kvs kk).isSome=true then H else upd H b (.dT (cg kvs kk d))
def mE (K:W.Frag) (A:Adr):Sp:=fun vs H Q _=>∃ x dx,vs=[.ref x]∧H x=some (.ins A.c_Numbers dx [])∧∀ d,H d=none→Q .non (upd (upd H d (.dT [])) x (.ins A.c_Numbers dx [("given",.ref d)]))
def mw (K:W.Frag) (A:Adr):Sp:=fun vs H Q _=>∃ (x d p:Addr) (kvs:List (List Key×V)) (k:List Key),vs=[.ref x,.ref p]∧eX A H x d kvs∧kvs.length≤50000∧H p=some (.tup (k.map kV))∧okT k=true∧∀ H',aq H H'→Q (gT kvs k (.int kvs.length)) (gQ H' d kvs k (.int kvs.length))
def rC (K:W.Frag) (A:Adr):Sp:=fun vs H Q _=>∃ (x d p:Addr) (kvs:List (List Key×V)) (k:List Key),vs=[.ref p,.ref x]∧eX A H x d kvs∧kvs.length≤50000∧H p=some (.tup (k.map kV))∧okT k=true∧∀ H',aq H H'→Q (gT kvs k (.int kvs.length)) (gQ H' d kvs k (.int kvs.length))
def bI (P:Addr) (H H':Hp):Prop:=∀ b o,H b=some o→b≠P→H' b=some o
def vH (A:Adr) (H:Hp):Prop:=∃ ps,H A.t_37=some (.tbl ps)∧(ps=#[]∨∃ c,ps=#[]++#[rawInt ((140:Nat):Int),rawInt ((11:Nat):Int),.ref c]∧H c=some (cU c dc.qual))
def mF (K:W.Frag) (A:Adr):Sp:=fun vs H Q _=>vs=[]∧vH A H∧∀ (f b:Addr) (g:GK) (H':Hp),bI A.t_37 H H'→vH A H'→H b=none→Stp A H' f b g 0→Q (.ref f) H'
def mK (K:W.Frag) (A:Adr):Sp:=fun vs H Q _=>vs=[]∧H A.t_47=some (.tbl #[])∧∀ (f:Addr) (H':Hp),bI A.t_47 H H'→de H' f ed [] []→Q (.ref f) H'
def kW (K:W.Frag) (A:Adr):Sp:=fun vs H Q _=>∃ (p:Addr) (k:List Key),vs=[.ref p]∧H p=some (.tup (k.map kV))∧okT k=true∧Q (.int (fq k)) H
def qD (K:W.Frag) (A:Adr):Sp:=fun vs H Q _=>∃ (p b:Addr) (k:List Key) (kvs:List (List Key×V)),vs=[.ref p,.ref b]∧H p=some (.tup (k.map kV))∧H b=some (.dT kvs)∧kvs.length≤50000∧Q (gT kvs k (.int (3*kvs.length+5))) (gQ H b kvs k (.int (3*kvs.length+5)))
def qY (K:W.Frag) (A:Adr):Sp:=fun vs H Q _=>∃ (p:Addr) (m:Int) (k:List Key),vs=[.ref p,.int m]∧1≤m∧m≤9∧H p=some (.tup (k.map kV))∧okT k=true∧Q (.int (fq k%m)) H
def qA (K:W.Frag) (A:Adr):Sp:=fun vs H Q _=>∃ (p:Addr) (m:Int) (k:List Key),vs=[.ref p,.int m]∧1≤m∧m≤9∧H p=some (.tup (k.map kV))∧okT k=true∧Q (kV (mB m k)) H
def mZ (A:Adr) (H H':Hp):Prop:=∀ b o,H b=some o→(∀ ps,o≠ .tbl ps)→H' b=some o
def mM (K:W.Frag) (A:Adr):Sp:=fun vs H Q _=>∃ c:Int,vs=[.int c]∧xa A H∧∀ (f b:Addr) (g:GK) (H':Hp),mZ A H H'→Stp A H' f b g 0→Q (.ref f) H'
def eW (K:W.Frag) (A:Adr):Sp:=fun vs H Q _=>∃ (a:Addr) (ns:List Int) (k:Int),vs=[.ref a,.int k]∧SqL K H a (ns.map V.int)∧0≤k∧∀ z:Int,Q (.int z) H
def ji (K:W.Frag) (A:Adr):Sp:=fun vs H Q _=>∃ (b k d:Int),vs=[.int b,.int k,.int d]∧d≤b∧Q (.int (kZ b k d)) H
def gC (K:W.Frag) (A:Adr):Sp:=fun vs H Q _=>∃ (b k d:Int),vs=[.int b,.int k,.int d]∧d<b∧0≤k∧Q (.int (k/2^(b - d - 1).toNat%2)) H
def kU (K:W.Frag) (A:Adr):Sp:=fun vs H Q _=>∃ b x y c:Nat,vs=[.int b,.int x,.int y]∧x<2^b∧y<2^b∧lw b x y c∧Q (.int c) H
def iZ (b D:Addr) (H H':Hp):Prop:=∀ x o,x≠b→x≠D→H x=some o→H' x=some o
def brT:List Key:=[.inr "bare"]
def lfT (k:Nat) (z:Str):List Key:=[.inr "leaf",.inl (k:Int),.inr z]
def fkT (d b:Nat) (l r:Key):List Key:=[.inr "fork",.inl (d:Int),.inl (b:Int),l,r]
def szN:Kn Str→Nat
 | .bare=>200
 | .leaf _ _=>400
 | .fork _ _ l r=>300+szN l+szN r
def bE (z:Str):Prop:=bz z=true∧z.length≤60
inductive KnA (A:Adr) (H:Hp) (g:GK):Addr→Kn Str→Key→Prop
 | bare {x dx t:Addr} {m:Key} (o:H x=some (.ins A.c_Bare dx [("term",.ref t),("mark",kV m)])) (ht:H t=some (.tup (brT.map kV))) (hm:g brT=some m) (ok:okP m=true) (sz:szK m≤200):KnA A H g x .bare m
 | leaf {x dx t:Addr} {m:Key} {k:Nat} {z:Str} (o:H x=some (.ins A.c_Leaf dx [("term",.ref t),("mark",kV m),("key",.int (k:Int)),("text",.str z)])) (ht:H t=some (.tup ((lfT k z).map kV))) (hm:g (lfT k z)=some m) (ok:okP m=true) (sz:szK m≤400) (hz:bE z):KnA A H g x (.leaf k z) m
 | fork {x dx t l r:Addr} {m ml mr:Key} {d b:Nat} {tl tr:Kn Str} (o:H x=some (.ins A.c_Fork dx [("term",.ref t),("mark",kV m),("depth",.int (d:Int)),("begin",.int (b:Int)),("left",.ref l),("right",.ref r)])) (hl:KnA A H g l tl ml) (hr:KnA A H g r tr mr)
  (ht:H t=some (.tup ((fkT d b ml mr).map kV))) (hm:g (fkT d b ml mr)=some m) (ok:okP m=true) (sz:szK m≤szN (.fork d b tl tr)):KnA A H g x (.fork d b tl tr) m
def clK (A:Adr):Kn Str→Addr
 | .bare=>A.c_Bare
 | .leaf _ _=>A.c_Leaf
 | .fork _ _ _ _=>A.c_Fork
def kdK:Kn Str→Nat
 | .bare=>0
 | .leaf _ _=>1
 | .fork _ _ _ _=>2
def hgt:Kn Str→Nat
 | .bare=>0
 | .leaf _ _=>0
 | .fork _ _ l r=>max (hgt l) (hgt r)+1
def jE (B:Nat):Kn Str→Prop
 | .bare=>True
 | .leaf _ _=>True
 | .fork d b l r=>d<B∧b<2^d∧jE B l∧jE B r
def ov:Option Str→V
 | none=> .non
 | some z=> .str z
def KnQ (A:Adr) (H:Hp) (f b:Addr) (g:GK) (n c:Nat) (t:Kn Str) (Q:VK):Prop:=∀ (y:Addr) (m:Key) (g':GK) (H':Hp),aB b H H'→KnA A H' g' y t m→Stp A H' f b g' (n+c)→Sub g g'→Q (.ref y) H'
def gW (K:W.Frag) (A:Adr):Sp:=fun vs H Q _=>∃ (x dx C f b p:Addr) (g:GK) (n:Nat) (k:List Key),vs=[.ref x,.ref f,.ref p]∧H x=some (.ins C dx [])∧Cls K C∧bp K C "term" ∧bp K C "mark" ∧Stp A H f b g n∧n≤45000∧H p=some (.tup (k.map kV))∧okT k=true∧
 ∀ (m:Key) (g':GK) (H':Hp),iZ b x H H'→H' x=some (.ins C dx [("term",.ref p),("mark",kV m)])→Stp A H' f b g' (n+1)→Sub g g'→g' k=some m→cQ k m→Q .non H'
def InQ (A:Adr) (H:Hp) (x f b:Addr) (g:GK) (n:Nat) (t:Kn Str) (Q:VK):Prop:=∀ (m:Key) (g':GK) (H':Hp),iZ b x H H'→KnA A H' g' x t m→Stp A H' f b g' (n+1)→Sub g g'→Q .non H'
def lq (K:W.Frag) (A:Adr):Sp:=fun vs H Q _=>∃ (x dx f b:Addr) (g:GK) (n:Nat),vs=[.ref x,.ref f]∧H x=some (.ins A.c_Bare dx [])∧Stp A H f b g n∧n≤45000∧InQ A H x f b g n .bare Q
def dY (K:W.Frag) (A:Adr):Sp:=fun vs H Q _=>∃ (x dx f b:Addr) (g:GK) (n k:Nat) (z:Str),vs=[.ref x,.ref f,.int (k:Int),.str z]∧H x=some (.ins A.c_Leaf dx [])∧Stp A H f b g n∧n≤45000∧k<2^60∧bE z∧InQ A H x f b g n (.leaf k z) Q
def gZ (K:W.Frag) (A:Adr):Sp:=fun vs H Q _=>∃ (x dx f b l r:Addr) (g:GK) (n d e:Nat) (tl tr:Kn Str) (ml mr:Key),vs=[.ref x,.ref f,.int (d:Int),.int (e:Int),.ref l,.ref r]∧H x=some (.ins A.c_Fork dx [])∧Stp A H f b g n∧n≤45000∧d<60∧e<2^60∧KnA A H g l tl ml∧KnA A H g r tr mr∧szN tl+szN tr≤90000∧InQ A H x f b g n (.fork d e tl tr) Q
def Kof (A:Adr) (H:Hp) (i:Nat) (g:GK) (x:Addr) (t:Kn Str) (m:Key):Prop:=KnA A H g x t m∧kdK t=i
def lO (A:Adr) (i:Nat) (n:Nat):Sp:=fun vs H Q _=>∃ (x:Addr) (g:GK) (t:Kn Str) (m:Key) (B key:Nat),vs=[.ref x,.int (B:Int),.int (key:Int)]∧Kof A H i g x t m∧jE B t∧hgt t<n∧Q (ov (ax B key t)) H
def lj (K:W.Frag) (A:Adr):Sp:=lO A 0 70
def iW (K:W.Frag) (A:Adr):Sp:=lO A 1 70
def jK (K:W.Frag) (A:Adr) (n:Nat):Sp:=lO A 2 n
abbrev bH (H:Hp):List Addr→List (Nat×Str)→Prop:=Paired fun (p:Addr) (r:Nat×Str)=>H p=some (.tup [.int (r.1:Int),.str r.2])
def oE (A:Adr) (i:Nat) (n:Nat):Sp:=fun vs H Q _=>∃ (x:Addr) (g:GK) (t:Kn Str) (m:Key),vs=[.ref x]∧Kof A H i g x t m∧hgt t<n∧(au t).length≤1000∧
 ∀ (l:Addr) (ps:List Addr) (H':Hp),aq H H'→H l=none→H' l=some (.lst (ps.map V.ref))→bH H' ps (au t)→Q (.ref l) H'
def jG (K:W.Frag) (A:Adr):Sp:=oE A 0 70
def gE (K:W.Frag) (A:Adr):Sp:=oE A 1 70
def fF (K:W.Frag) (A:Adr) (n:Nat):Sp:=oE A 2 n
def ik (A:Adr) (H:Hp) (x:Addr) (d b:Nat) (l r:Addr):Prop:=∃ dx t m,H x=some (.ins A.c_Fork dx [("term",.ref t),("mark",kV m),("depth",.int (d:Int)),("begin",.int (b:Int)),("left",.ref l),("right",.ref r)])
def rD (K:W.Frag) (A:Adr):Sp:=fun vs H Q _=>∃ (x l r:Addr) (d b B key:Nat),vs=[.ref x,.int (B:Int),.int (key:Int)]∧ik A H x d b l r∧d<B∧Q (.bl (decide (st B key d=b))) H
def jh (K:W.Frag) (A:Adr):Sp:=fun vs H Q _=>∃ (x l r:Addr) (d b B key:Nat),vs=[.ref x,.int (B:Int),.int (key:Int)]∧ik A H x d b l r∧d<B∧Q (.ref (if sd B key d=0 then l else r)) H
def qp (K:W.Frag) (A:Adr):Sp:=fun vs H Q _=>∃ (x l r:Addr) (d b B key:Nat),vs=[.ref x,.int (B:Int),.int (key:Int)]∧ik A H x d b l r∧d<B∧Q (.ref (if sd B key d=0 then r else l)) H
structure KnS (A:Adr) (H:Hp) (f b:Addr) (g:GK) (n:Nat) (B:Nat) (x:Addr) (t:Kn Str) (m:Key):Prop where
 k:KnA A H g x t m
 s:Stp A H f b g n
 B60:B≤60
 dp:jE B t
 ln:(au t).length≤100
 sz:szN t≤80000
def kB (K:W.Frag) (A:Adr):Sp:=fun vs H Q _=>∃ (f b x y:Addr) (g:GK) (n B d key:Nat) (z:Str) (t:Kn Str) (m m':Key),vs=[.ref f,.int (B:Int),.int (d:Int),.ref y,.ref x]∧KnS A H f b g n B x t m∧n≤45000∧KnA A H g y (.leaf key z) m'∧d<B∧key<2^B∧KnQ A H f b g n 1 (dN B d key z t) Q
def oa (K:W.Frag) (A:Adr):Sp:=fun vs H Q _=>∃ (x f b l r y:Addr) (g:GK) (n B d e key:Nat) (tl tr t:Kn Str) (m ml mr:Key),vs=[.ref x,.ref f,.int (B:Int),.int (key:Int),.ref y]∧ik A H x d e l r∧KnA A H g l tl ml∧KnA A H g r tr mr∧KnA A H g y t m∧Stp A H f b g n∧n≤45000∧d<B∧B≤60∧e<2^60∧szN (if sd B key d=0 then tr else tl)+szN t≤90000∧
 KnQ A H f b g n 1 (if sd B key d=0 then .fork d e t tr else .fork d e tl t) Q
def oH (A:Adr) (i:Nat) (j:Nat):Sp:=fun vs H Q _=>∃ (x f b:Addr) (g:GK) (n B key:Nat) (z:Str) (t:Kn Str) (m:Key),vs=[.ref x,.ref f,.int (B:Int),.int (key:Int),.str z]∧KnS A H f b g n B x t m∧kdK t=i∧n+hgt t+10≤45000∧(∀ p∈au t,p.1<2^B)∧key<2^B∧bE z∧hgt t<j∧szN t≤70000∧KnQ A H f b g n (hgt t+2) (bG B key z t) Q
def jO (K:W.Frag) (A:Adr):Sp:=oH A 0 70
def gP (K:W.Frag) (A:Adr):Sp:=oH A 1 70
def fQ (K:W.Frag) (A:Adr) (n:Nat):Sp:=oH A 2 n
def iL (A:Adr) (i:Nat) (j:Nat):Sp:=fun vs H Q _=>∃ (x f b:Addr) (g:GK) (n B key:Nat) (t:Kn Str) (m:Key),vs=[.ref x,.ref f,.int (B:Int),.int (key:Int)]∧KnS A H f b g n B x t m∧kdK t=i∧n+hgt t+10≤45000∧hgt t<j∧KnQ A H f b g n (hgt t+1) (aL B key t) Q
def jR (K:W.Frag) (A:Adr):Sp:=iL A 0 70
def gM (K:W.Frag) (A:Adr):Sp:=iL A 1 70
def fH (K:W.Frag) (A:Adr) (n:Nat):Sp:=iL A 2 n
def WFo (B:Nat) (t:Kn Str):Prop:=t=.bare∨WF B 0 0 t
def mN (K:W.Frag) (A:Adr):Sp:=fun vs H Q _=>∃ (c:Int) (n:Nat),vs=[.int c,.int (n:Int)]∧n≤1000∧∀ (z:Str) (H':Hp),aq H H'→bz z=true→z.length=n→Q (.str z) H'
def jg (K:W.Frag) (A:Adr):Sp:=fun vs H Q _=>∃ (c:Int) (B:Nat),vs=[.int c,.int (B:Int)]∧1≤B∧B≤60∧∀ k:Nat,k<2^B→Q (.int (k:Int)) H
def dOf (kn:List (Nat×Str)):List (Key×V):=kn.map fun p=>(.inl (p.1:Int),.str p.2)
structure Kno (B:Nat) (kn:List (Nat×Str)) (t:Kn Str):Prop where
 nd:(kn.map (·.1)).Nodup
 ln:kn.length≤63
 eq:∀ k,look k kn=ax B k t
def mL (K:W.Frag) (A:Adr):Sp:=fun vs H Q _=>∃ c:Int,vs=[.int c]∧∀ (z:Str) (H':Hp),aq H H'→bE z→Q (.str z) H'
inductive fm (g:GK):Kn Str→List Key→Prop
 | bare:fm g .bare brT
 | leaf (k:Nat) (z:Str):fm g (.leaf k z) (lfT k z)
 | fork (d e k1 k2:Nat) (z1 z2:Str) (m1 m2:Key) (h1:g (lfT k1 z1)=some m1) (h2:g (lfT k2 z2)=some m2):fm g (.fork d e (.leaf k1 z1) (.leaf k2 z2)) (fkT d e m1 m2)
def jV (K:W.Frag) (A:Adr):Sp:=fun vs H Q _=>∃ (p r:Addr) (k:List Key),vs=[.ref p,.ref r]∧H p=some (.tup (k.map kV))∧H r=some (.tup (k.map kV))∧k.length≤8∧∀ H',aq H H'→Q (.bl true) H'
structure Two (B:Nat) (t:Kn Str):Prop where
 wf:WFo B t
 ln:(au t).length≤2
 vz:∀ p∈au t,bE p.2
def ke (K:W.Frag) (A:Adr):Sp:=fun vs H Q _=>∃ (f b l:Addr) (g:GK) (n B:Nat) (t:Kn Str) (ps:List Addr),vs=[.ref f,.int (B:Int),.ref l]∧Stp A H f b g n∧n≤40000∧1≤B∧B≤60∧Two B t∧H l=some (.lst (ps.map V.ref))∧bH H ps (au t)∧
 ∀ (p:Addr) (k:List Key) (g':GK) (H':Hp),aB b H H'→Stp A H' f b g' (n+2)→Sub g g'→H' p=some (.tup (k.map kV))→okT k=true→szT k≤2000→fm g' t k→Q (.ref p) H'
structure RgW (A:Adr) (H:Hp) (f b x l kl:Addr) (g:GK) (n B:Nat) (t:Kn Str) (m:Key) (kn:List (Nat×Str)) (ps:List Addr) (ks:List Nat):Prop where
 k:KnA A H g x t m
 s:Stp A H f b g n
 B1:1≤B
 B60:B≤60
 two:Two B t
 kno:Kno B kn t
 hl:H l=some (.lst (ps.map V.ref))
 rw_:bH H ps kn
 hk:H kl=some (.lst (ks.map fun k:Nat=>V.int (k:Int)))
 kb:∀ k∈ks,k<2^B
 kn3:ks.length≤3
def dI (K:W.Frag) (A:Adr) (j:Nat):Sp:=fun vs H Q _=>∃ (f b x l kl:Addr) (g:GK) (n B:Nat) (t:Kn Str) (m:Key) (kn:List (Nat×Str)) (ps:List Addr) (ks:List Nat),vs=[.ref x,.ref f,.int (B:Int),.ref l,.ref kl]∧RgW A H f b x l kl g n B t m kn ps ks∧n+100*hgt t≤33000∧hgt t<j∧
 ∀ (g':GK) (H':Hp),aB b H H'→Stp A H' f b g' (n+20+60*hgt t)→Sub g g'→Q (.bl true) H'
def kS (K:W.Frag) (A:Adr):Sp:=fun vs H Q _=>∃ (f b p:Addr) (g:GK) (n:Nat) (k:List Key),vs=[.ref f,.ref p]∧Stp A H f b g n∧n≤40000∧H p=some (.tup (k.map kV))∧okT k=true∧
 ∀ (g':GK) (H':Hp),aB b H H'→Stp A H' f b g' (n+2)→Sub g g'→Q (.bl true) H'
def mG (K:W.Frag) (A:Adr):Sp:=fun vs H Q _=>∃ (f b x l kl:Addr) (g:GK) (n B:Nat) (t:Kn Str) (m:Key) (kn:List (Nat×Str)) (ps:List Addr) (ks:List Nat) (z:Str),vs=[.ref x,.ref f,.int (B:Int),.ref l,.ref kl,.str z]∧RgW A H f b x l kl g n B t m kn ps ks∧n≤20000∧bE z∧
 ∀ (g':GK) (H':Hp),aB b H H'→Stp A H' f b g' (n+600)→Sub g g'→Q (.bl true) H'
def mC (K:W.Frag) (A:Adr):Sp:=fun vs H Q _=>∃ (a:Addr) (ns:List Int),vs=[.ref a]∧SqL K H a (ns.map V.int)∧ns.length≤63∧xa A H∧∀ H',Q (.bl true) H'
def gA (K:W.Frag) (A:Adr):L2.la:=[(ed,qC K A),(dc,rC K A),(eJ,qD K A),(eE,qY K A),(eM,qA K A)]
def AG (K:W.Frag) (A:Adr):TE:=aA (kD K A) (fun _=>E0) (ac (ae 0) (ai))
def zL (K:W.Frag) (A:Adr):TE:=eh A.c_Numbers "number_of" (mw K A) (fun _=>E0) (ae 1) (ac (ae 0) (ai))
def zm (K:W.Frag) (A:Adr):TE:=tBM K "dict" qa (ae 1) (ac (ae 0) (ac (tOp (cN K) (tOp (eN) (tC (.int 3)) (tCB (df K) (ac (ae 1) (ai)))) (tC (.int 5))) (ai)))
def Bt (K:W.Frag) (A:Adr):TE:=tOp (cr) (aA (kW K A) (fun _=>E0) (ac (ae 0) (ai))) (ae 1)
def zA (K:W.Frag) (A:Adr):TE:=tOp (cN K) (tC (.str "s")) (tCB (vY) (ac (tOp (cr) (aA (kW K A) (fun _=>E0) (ac (ae 0) (ai))) (ae 1)) (ai)))
def FB (K:W.Frag) (A:Adr):TS:=aJ (kA (tCB (eA) (ac (ae 0) (ac (tC (.ty "int")) (ai)))) (qM (tCB (eA) (ac (ae 0) (ac (tC (.ty "bool")) (ai))))))
def FV (K:W.Frag) (A:Adr):TS:=aw (bn (bV K (aA (kQ K A) (fun _=>E0) (ac (ae 0) (ai)))) (aJ (gp (mLe) (mLt) (tC (.int 0)) (ae 0) (tOp (uM) (tC (.int 10)) (tC (.int 60))))) (aY)) (aJ (tCB (eA) (ac (ae 0) (ac (tC (.ty "str")) (ai)))))
def Ff (K:W.Frag) (A:Adr):TS:=aw (bn (cI (bV K (tCB (eA) (ac (ae 0) (ac (tC (.ty "tuple")) (ai)))))) (aJ (tC (.bl false))) (aY)) (aw (bn (cI (aZ (gp (mLe) (mLe) (tC (.int 1)) (tCB (df K) (ac (ae 0) (ai))) (tC (.int 8))))) (aJ (tC (.bl false))) (aY)) (aJ (kA (tCB (eA) (ac (tOp (bq K) (ae 0) (tC (.int 0))) (ac (tC (.ty "str")) (ai)))) (tCB (Ce) (ac (fN [] (fM K (ae 0)) (fun _ H Q=>Q true H) (aA (mT K A) (fun _=>E0) (ac (ae 0) (ai)))) (ai))))))
def Gn (K:W.Frag) (A:Adr):TS:=aw (bn (bV K (aA (kQ K A) (fun _=>E0) (ac (ae 0) (ai)))) (aJ (mJ ((qt (ae 0))::(tC (.str ";"))::[]) Str.empty)) (aY)) (aw (aP (tCB (df K) (ac (ae 0) (ai))) (av 1)) (aJ (mJ ((qt (ae 1))::(tC (.str ":"))::(qt (ae 0))::[]) Str.empty)))
def Fq (K:W.Frag) (A:Adr):TS:=aw (bn (cI (bV K (aA (kE K A) (fun _=>E0) (ac (ae 0) (ai))))) (jX) (aY)) (aJ (tBM K "str" qr (tC (.str "")) (ac (fN [] (fM K (ae 0)) (fun _ H Q=>Q true H) (aA (mQ K A) (fun _=>E0) (ac (ae 0) (ai)))) (ai))))
def FH (K:W.Frag) (A:Adr):TS:=aw (bn (cI (bV K (aA (kE K A) (fun _=>E0) (ac (ae 1) (ai))))) (jX) (aY)) (aw (bn (aZ (tOp (pw K) (ae 1) (bg K (ae 0) "given"))) (aP (tCB (df K) (ac (bg K (ae 0) "given") (ai))) (qL (bg K (ae 0) "given") (ae 1) mW)) (aY)) (aJ (tOp (bq K) (bg K (ae 0) "given") (ae 1))))
def Fv (K:W.Frag) (A:Adr):TS:=aw (aP (tC (.int 0)) (av 1)) (aw (fB (fM K (ae 0)) (av 2) (aw (bn (bV K (tCB (eA) (ac (ae 2) (ac (tC (.ty "str")) (ai))))) (aw (aP (tOp (cN K) (tOp (eN) (ae 1) (tC (.int 7))) (tOp (eN) (tC (.int 3)) (tCB (df K) (ac (ae 2) (ai))))) (av 1)) (fB (fM K (tSl (nD K) (ae 2) (fW) (gR (tC (.int 6))))) (av 3) (aP (tOp (cN K) (tOp (eN) (ae 1) (tC (.int 3))) (tCB (vx) (ac (ae 3) (ai)))) (av 1)))) (aP (tOp (cN K) (tOp (eN) (ae 1) (tC (.int 5))) (ae 2)) (av 1))) (aP (tOp (cr) (ae 1) (tC (.int 1000000007))) (av 1)))) (aJ (ae 1)))
def As (K:W.Frag) (A:Adr):TSM:=im (lJ A.t_47 ⟨137,11,137,37⟩ ed [])
def EZ (K:W.Frag) (A:Adr):TS:=fu K (ae 0) (nz) "given"
def zC (K:W.Frag) (A:Adr) (q0:Addr):TSM:=iC (mH (aP (bR A.c_Numbers (mE K A) (fun _=>E0) (ai)) (av 0))) (im (lJ A.t_37 ⟨140,11,140,47⟩ dc [q0]))
def BX (K:W.Frag) (A:Adr) (q0 q1:Addr):TSM:=iC (mH (aP (nz) (av 1))) (iC (mH (aP (tOp (cN K) (tC (.int 1)) (tOp (cr) (tOp (ci) (ae 0) (tC (.int 5))) (tC (.int 9)))) (av 2))) (iC (nI (aZ (tOp (cn K) (tOp (cr) (ae 0) (tC (.int 5))) (tC (.int 0)))) (im (aA (mK K A) (fun _=>E0) ai)) (kh)) (iC (nI (aZ (tOp (cn K) (tOp (cr) (ae 0) (tC (.int 5))) (tC (.int 1)))) (im (aA (mF K A) (fun _=>E0) ai)) (kh)) (iC (nI (aZ (tOp (cn K) (tOp (cr) (ae 0) (tC (.int 5))) (tC (.int 2)))) (im (lJ A.t_29 ⟨173,15,173,88⟩ eJ [q0])) (kh)) (iC (nI (aZ (tOp (cn K) (tOp (cr) (ae 0) (tC (.int 5))) (tC (.int 3)))) (im (lJ A.t_29 ⟨175,15,175,62⟩ eE [q1])) (kh)) (im (lJ A.t_29 ⟨176,11,176,73⟩ eM [q1])))))))
def FS (K:W.Frag) (A:Adr):TS:=aw (bn (aZ (tOp (mLt) (ae 1) (tCB (df K) (ac (ae 0) (ai))))) (aJ (tOp (bq K) (ae 0) (ae 1))) (aY)) (aJ (tC (.int 0)))
def Fx (K:W.Frag) (A:Adr):TS:=aw (aP (tOp (lL) (tC (.int 1)) (ae 1)) (av 2)) (aw (bn (aZ (tOp (cn K) (tOp (cr) (ae 0) (tC (.int 3))) (tC (.int 0)))) (aJ (tOp (cr) (tOp (ci) (ae 0) (tC (.int 3))) (ae 2))) (aY)) (aw (bn (aZ (tOp (cn K) (tOp (cr) (ae 0) (tC (.int 3))) (tC (.int 1)))) (aJ (tOp (cr) (tOp (eN) (tOp (ci) (ae 0) (tC (.int 3))) (tC (.int 982451653))) (ae 2))) (aY)) (aJ (tOp (iI) (tOp (iI) (ae 2) (tC (.int 1))) (tOp (cr) (tOp (ci) (ae 0) (tC (.int 3))) (ae 2))))))
def Fc (K:W.Frag) (A:Adr):TS:=aw (aP (tC (.str " !\"#$&'()*+,-./0123456789:;<=>?@ABCDEFGHIJKLMNOPQRSTUVWXYZ[\\]^_`abcdefghijklmnopqrstuvwxyz{|}~")) (av 2)) (aw (aP (da (ai)) (av 3)) (aw (aP (tOp (cr) (ae 0) (tC (.int 2147483647))) (av 4)) (aw (fB (mR (ac (ae 1) (ai))) (av 5) (aw (aP (tOp (cr) (tOp (cN K) (tOp (cN K) (tOp (eN) (ae 4) (tC (.int 48271))) (ae 5)) (tC (.int 1))) (tC (.int 2147483647))) (av 4)) (fJ (tBM K "list" pT (ae 3) (ac (tOp (bq K) (ae 2) (tOp (cr) (ae 4) (tC (.int 94)))) (ai)))))) (aJ (tBM K "str" qr (tC (.str "")) (ac (ae 3) (ai)))))))
def FO (K:W.Frag) (A:Adr):TS:=aJ (aA (mN K A) (fun _=>E0) (ac (tOp (ci) (ae 0) (tC (.int 4))) (ac (tOp (bq K) (da (ac (tC (.int 0)) (ac (tC (.int 1)) (ac (tOp (cN K) (tC (.int 1)) (tOp (cr) (tOp (ci) (ae 0) (tC (.int 4))) (tC (.int 59)))) (ac (tC (.int 60)) (ai)))))) (tOp (cr) (ae 0) (tC (.int 4)))) (ai))))
def Gj (K:W.Frag) (A:Adr):TS:=aw (fu K (ae 0) (ae 2) "term") (fu K (ae 0) (iS (gA K A) (fun _=>E0) (ae 1) (ac (ae 2) (ai))) "mark")
def FX (K:W.Frag) (A:Adr):TS:=aw (fJ (aA (gW K A) (fun _=>E0) (ac (ae 0) (ac (ae 1) (ac (dE (ac (tC (.str "leaf")) (ac (ae 2) (ac (ae 3) (ai))))) (ai)))))) (aw (fu K (ae 0) (ae 2) "key") (fu K (ae 0) (ae 3) "text"))
def tP (K:W.Frag) (A:Adr):TS:=aJ (dE (ac (tC (.str "fork")) (ac (ae 4) (ac (tOp (ci) (tOp (bq K) (tOp (bq K) (ae 2) (tC (.int 0))) (tC (.int 0))) (tOp (eN) (tC (.int 2)) (ae 3))) (ac (tOp (bq K) (ae 5) (tC (.int 0))) (ac (tOp (bq K) (ae 5) (tC (.int 1))) (ai)))))))
def tO (K:W.Frag) (A:Adr):TS:=aw (aP (nP K [0] (fM K (ae 2)) (fun _ H Q=>Q true H) (iS (gA K A) (fun _=>E0) (ae 2) (ac (dE (ac (tC (.str "leaf")) (ac (ae 0) (ac (ae 1) (ai))))) (ai)))) (av 5)) (tP K A)
def Aa (K:W.Frag) (A:Adr):TS:=aw (ow (aZ (tOp (cn K) (tOp (ci) (tOp (bq K) (tOp (bq K) (ae 2) (tC (.int 0))) (tC (.int 0))) (ae 3)) (tOp (ci) (tOp (bq K) (tOp (bq K) (ae 2) (tC (.int 1))) (tC (.int 0))) (ae 3)))) (aw (aP (tOp (ci) (ae 3) (tC (.int 2))) (av 3)) (aP (tOp (cN K) (ae 4) (tC (.int 1))) (av 4)))) (tO K A)
def sA (K:W.Frag) (A:Adr):TS:=aw (aP (tC (.int 0)) (av 4)) (Aa K A)
def Gr (K:W.Frag) (A:Adr):TS:=aw (bn (aZ (tOp (cn K) (tCB (df K) (ac (ae 2) (ai))) (tC (.int 0)))) (aJ (dE (ac (tC (.str "bare")) (ai)))) (aY)) (aw (bn (aZ (tOp (cn K) (tCB (df K) (ac (ae 2) (ai))) (tC (.int 1)))) (aJ (dE (ac (tC (.str "leaf")) (ac (tOp (bq K) (tOp (bq K) (ae 2) (tC (.int 0))) (tC (.int 0))) (ac (tOp (bq K) (tOp (bq K) (ae 2) (tC (.int 0))) (tC (.int 1))) (ai)))))) (aY)) (aw (aP (tOp (ci) (tOp (lL) (tC (.int 1)) (ae 1)) (tC (.int 2))) (av 3)) (sA K A)))
def Gm (K:W.Frag) (A:Adr):TS:=aw (bn (mOr (cI (bV K (tCB (eA) (ac (ae 0) (ac (tC (.ty "tuple")) (ai)))))) (aZ (tOp (dR K) (tCB (df K) (ac (ae 0) (ai))) (tCB (df K) (ac (ae 1) (ai)))))) (aJ (tC (.bl false))) (aY)) (aw (fB (mV K (ac (ae 0) (ac (ae 1) (ai)))) (lu K 2 (el (av 2) (el (av 3) lD))) (bn (mOr (bV K (tCB (eA) (ac (ae 2) (ac (tC (.ty "bool")) (ai))))) (mOr (aZ (tOp (dR K) (tCB (eA) (ac (ae 2) (ac (tC (.ty "str")) (ai)))) (tCB (eA) (ac (ae 3) (ac (tC (.ty "str")) (ai)))))) (aZ (tOp (dR K) (ae 2) (ae 3))))) (aJ (tC (.bl false))) (aY))) (aJ (tC (.bl true))))
def FF (K:W.Frag) (A:Adr):TS:=aw (aP (bR A.c_Knot (gW K A) (fun _=>E0) (ac (ae 0) (ac (ae 1) (ai)))) (av 2)) (aJ (kA (aA (jV K A) (fun _=>E0) (ac (bg K (ae 2) "term") (ac (ae 1) (ai)))) (tOp (cn K) (bg K (ae 2) "mark") (iS (gA K A) (fun _=>E0) (ae 0) (ac (ae 1) (ai))))))
def T_0 (K:W.Frag) (A:Adr):TS:=fJ (aA (gW K A) (fun _=>E0) (ac (ae 0) (ac (ae 1) (ac (dE (ac (tC (.str "bare")) (ai))) (ai)))))
def T_5 (K:W.Frag) (A:Adr):TS:=aw (fJ (aA (gW K A) (fun _=>E0) (ac (ae 0) (ac (ae 1) (ac (dE (ac (tC (.str "fork")) (ac (ae 2) (ac (ae 3) (ac (bg K (ae 4) "mark") (ac (bg K (ae 5) "mark") (ai))))))) (ai)))))) (aw (fu K (ae 0) (ae 2) "depth") (aw (fu K (ae 0) (ae 3) "begin") (aw (fu K (ae 0) (ae 4) "left") (fu K (ae 0) (ae 5) "right"))))
def T_2 (K:W.Frag) (A:Adr):TS:=aJ (da (ai))
def GA (K:W.Frag) (A:Adr):TS:=aJ (da (ac (dE (ac (bg K (ae 0) "key") (ac (bg K (ae 0) "text") (ai)))) (ai)))
def FA (K:W.Frag) (A:Adr) (n:Nat):TS:=aJ (tOp (cN K) (cR [(A.c_Bare,(jG K A)),(A.c_Leaf,(gE K A)),(A.c_Fork,(fF K A n))] "rows" (fun _=>E0) (bg K (ae 0) "left") (ai)) (cR [(A.c_Bare,(jG K A)),(A.c_Leaf,(gE K A)),(A.c_Fork,(fF K A n))] "rows" (fun _=>E0) (bg K (ae 0) "right") (ai)))
def T_1 (K:W.Frag) (A:Adr):TS:=aJ (tC .non)
def Ft (K:W.Frag) (A:Adr):TS:=aJ (mIf (aZ (tOp (cn K) (ae 2) (bg K (ae 0) "key"))) (bg K (ae 0) "text") (tC .non))
def FK (K:W.Frag) (A:Adr):TS:=aJ (tOp (rG) (tOp (ql) (ae 1) (tOp (iI) (tOp (iI) (ae 0) (ae 2)) (tC (.int 1)))) (tC (.int 1)))
def Gv (K:W.Frag) (A:Adr):TS:=aJ (mIf (aZ (tOp (cn K) (aA (gC K A) (fun _=>E0) (ac (ae 1) (ac (ae 2) (ac (bg K (ae 0) "depth") (ai))))) (tC (.int 0)))) (bg K (ae 0) "left") (bg K (ae 0) "right"))
def T_8 (K:W.Frag) (A:Adr) (n:Nat):TS:=aJ (cR [(A.c_Bare,(lj K A)),(A.c_Leaf,(iW K A)),(A.c_Fork,(jK K A n))] "found" (fun _=>E0) (eh A.c_Fork "toward" (jh K A) (fun _=>E0) (ae 0) (ac (ae 1) (ac (ae 2) (ai)))) (ac (ae 1) (ac (ae 2) (ai))))
def ya (K:W.Frag) (A:Adr) (n:Nat):TS:=aJ (tC (.bl true))
def pH (K:W.Frag) (A:Adr) (n:Nat):TS:=aw (fB (fM K (ae 4)) (av 9) (bn (aZ (tOp (dR K) (cR [(A.c_Bare,(lj K A)),(A.c_Leaf,(iW K A)),(A.c_Fork,(jK K A 70))] "found" (fun _=>E0) (ae 0) (ac (ae 2) (ac (ae 9) (ai)))) (tBM K "dict" xD (ae 8) (ac (ae 9) (ai))))) (aJ (tC (.bl false))) (aY))) (ya K A n)
def tF (K:W.Frag) (A:Adr) (n:Nat):TS:=aw (aP (tCB (ip K) (ac (ae 3) (ai))) (av 8)) (pH K A n)
def sV (K:W.Frag) (A:Adr) (n:Nat):TS:=aw (bn (mOr (cI (bV K (tCB (eA) (ac (ae 7) (ac (tC (.ty "list")) (ai)))))) (aZ (tOp (dR K) (ae 7) (ae 3)))) (aJ (tC (.bl false))) (aY)) (tF K A n)
def tX (K:W.Frag) (A:Adr) (n:Nat):TS:=aw (aP (cR [(A.c_Bare,(jG K A)),(A.c_Leaf,(gE K A)),(A.c_Fork,(fF K A 70))] "rows" (fun _=>E0) (ae 0) (ai)) (av 7)) (sV K A n)
def kj (K:W.Frag) (A:Adr) (n:Nat):TS:=aw (bn (bV K (tCB (fK K) (ac (ae 0) (ac (tC (.ref A.c_Fork)) (ai))))) (aw (bn (mOr (aZ (tOp (dR K) (dE (ac (bg K (ae 0) "depth") (ac (bg K (ae 0) "begin") (ai)))) (tSl (nD K) (ae 5) (gR (tC (.int 1))) (gR (tC (.int 3)))))) (cI (bV K (aA (dI K A n) (fun _=>E0) (ac (bg K (ae 0) "left") (ac (ae 1) (ac (ae 2) (ac (tSl (nD K) (ae 3) (fW) (gR (tC (.int 1)))) (ac (ae 4) (ai)))))))))) (aJ (tC (.bl false))) (aY)) (bn (cI (bV K (aA (dI K A n) (fun _=>E0) (ac (bg K (ae 0) "right") (ac (ae 1) (ac (ae 2) (ac (tSl (nD K) (ae 3) (gR (tC (.int 1))) (fW)) (ac (ae 4) (ai))))))))) (aJ (tC (.bl false))) (aY))) (aY)) (tX K A n)
def ug (K:W.Frag) (A:Adr) (n:Nat):TS:=aw (bn (ut (bV K (tCB (fK K) (ac (ae 0) (ac (tC (.ref A.c_Leaf)) (ai))))) (aZ (tOp (dR K) (dE (ac (bg K (ae 0) "key") (ac (bg K (ae 0) "text") (ai)))) (tOp (bq K) (ae 3) (tC (.int 0)))))) (aJ (tC (.bl false))) (aY)) (kj K A n)
def rS (K:W.Frag) (A:Adr) (n:Nat):TS:=aw (bn (mOr (cI (bV K (aA (jV K A) (fun _=>E0) (ac (bg K (ae 0) "term") (ac (ae 5) (ai)))))) (aZ (tOp (dR K) (bg K (ae 0) "mark") (iS (gA K A) (fun _=>E0) (ae 1) (ac (ae 5) (ai)))))) (aJ (tC (.bl false))) (aY)) (ug K A n)
def sm (K:W.Frag) (A:Adr) (n:Nat):TS:=aw (bn (aZ (tOp (dR K) (ae 6) (fN [3] (qi (ac (tUn rl (tC (.int 1))) (ac (tC (.int 3)) (ai)))) (fun _ H Q=>Q true H) (wG (tOp (mLt) (ae 0) (tC (.int 0))) (tOp (cn K) (ae 0) (tCB (df K) (ac (ae 1) (ai)))))))) (aJ (tC (.bl false))) (aY)) (rS K A n)
def sQ (K:W.Frag) (A:Adr) (n:Nat):TS:=aw (aP (da (ac (tCB (fK K) (ac (ae 0) (ac (tC (.ref A.c_Knot)) (ai)))) (ac (tCB (fK K) (ac (ae 0) (ac (tC (.ref A.c_Bare)) (ai)))) (ac (tCB (fK K) (ac (ae 0) (ac (tC (.ref A.c_Leaf)) (ai)))) (ac (tCB (fK K) (ac (ae 0) (ac (tC (.ref A.c_Fork)) (ai)))) (ai)))))) (av 6)) (sm K A n)
def tY (K:W.Frag) (A:Adr) (n:Nat):TS:=aw (aP (aA (ke K A) (fun _=>E0) (ac (ae 1) (ac (ae 2) (ac (ae 3) (ai))))) (av 5)) (sQ K A n)
def Fy (K:W.Frag) (A:Adr) (n:Nat):TS:=aw (aP (tCB (ox K) (ac (ae 3) (ai))) (av 3)) (tY K A n)
def T_3 (K:W.Frag) (A:Adr):TS:=aJ (bR A.c_Leaf (dY K A) (fun _=>E0) (ac (ae 1) (ac (ae 3) (ac (ae 4) (ai)))))
def FE (K:W.Frag) (A:Adr):TS:=aJ (tOp (ql) (ae 1) (tOp (iI) (ae 0) (ae 2)))
def FG (K:W.Frag) (A:Adr):TS:=aw (aP (aA (ji K A) (fun _=>E0) (ac (ae 1) (ac (bg K (ae 3) "key") (ac (ae 2) (ai))))) (av 5)) (aw (bn (aZ (tOp (cn K) (aA (gC K A) (fun _=>E0) (ac (ae 1) (ac (bg K (ae 3) "key") (ac (ae 2) (ai))))) (tC (.int 0)))) (aJ (bR A.c_Fork (gZ K A) (fun _=>E0) (ac (ae 0) (ac (ae 2) (ac (ae 5) (ac (ae 3) (ac (ae 4) (ai)))))))) (aY)) (aJ (bR A.c_Fork (gZ K A) (fun _=>E0) (ac (ae 0) (ac (ae 2) (ac (ae 5) (ac (ae 4) (ac (ae 3) (ai)))))))))
def FN (K:W.Frag) (A:Adr):TS:=aJ (tOp (iI) (ae 0) (jN K "int" qT (tOp (oG) (ae 1) (ae 2))))
def Fw (K:W.Frag) (A:Adr):TS:=aw (aP (bR A.c_Leaf (dY K A) (fun _=>E0) (ac (ae 1) (ac (ae 3) (ac (ae 4) (ai))))) (av 5)) (aw (bn (aZ (tOp (cn K) (ae 3) (bg K (ae 0) "key"))) (aJ (ae 5)) (aY)) (aJ (aA (kB K A) (fun _=>E0) (ac (ae 1) (ac (ae 2) (ac (aA (kU K A) (fun _=>E0) (ac (ae 2) (ac (ae 3) (ac (bg K (ae 0) "key") (ai))))) (ac (ae 5) (ac (ae 0) (ai)))))))))
def T_9 (K:W.Frag) (A:Adr):TS:=aJ (tOp (cn K) (aA (ji K A) (fun _=>E0) (ac (ae 1) (ac (ae 2) (ac (bg K (ae 0) "depth") (ai))))) (bg K (ae 0) "begin"))
def T_7 (K:W.Frag) (A:Adr):TS:=aw (bn (aZ (tOp (cn K) (aA (gC K A) (fun _=>E0) (ac (ae 2) (ac (ae 3) (ac (bg K (ae 0) "depth") (ai))))) (tC (.int 0)))) (aJ (bR A.c_Fork (gZ K A) (fun _=>E0) (ac (ae 1) (ac (bg K (ae 0) "depth") (ac (bg K (ae 0) "begin") (ac (ae 4) (ac (bg K (ae 0) "right") (ai)))))))) (aY)) (aJ (bR A.c_Fork (gZ K A) (fun _=>E0) (ac (ae 1) (ac (bg K (ae 0) "depth") (ac (bg K (ae 0) "begin") (ac (bg K (ae 0) "left") (ac (ae 4) (ai))))))))
def Ga (K:W.Frag) (A:Adr) (n:Nat):TS:=aw (bn (cI (bV K (eh A.c_Fork "leads" (rD K A) (fun _=>E0) (ae 0) (ac (ae 2) (ac (ae 3) (ai)))))) (aw (aP (aA (kU K A) (fun _=>E0) (ac (bg K (ae 0) "depth") (ac (bg K (ae 0) "begin") (ac (aA (ji K A) (fun _=>E0) (ac (ae 2) (ac (ae 3) (ac (bg K (ae 0) "depth") (ai))))) (ai))))) (av 5)) (aJ (aA (kB K A) (fun _=>E0) (ac (ae 1) (ac (ae 2) (ac (ae 5) (ac (bR A.c_Leaf (dY K A) (fun _=>E0) (ac (ae 1) (ac (ae 3) (ac (ae 4) (ai))))) (ac (ae 0) (ai))))))))) (aY)) (aJ (eh A.c_Fork "changed" (oa K A) (fun _=>E0) (ae 0) (ac (ae 1) (ac (ae 2) (ac (ae 3) (ac (cR [(A.c_Bare,(jO K A)),(A.c_Leaf,(gP K A)),(A.c_Fork,(fQ K A n))] "with_key" (fun _=>E0) (eh A.c_Fork "toward" (jh K A) (fun _=>E0) (ae 0) (ac (ae 2) (ac (ae 3) (ai)))) (ac (ae 1) (ac (ae 2) (ac (ae 3) (ac (ae 4) (ai)))))) (ai)))))))
def T_4 (K:W.Frag) (A:Adr):TS:=aJ (ae 0)
def Gc (K:W.Frag) (A:Adr):TS:=aJ (mIf (aZ (tOp (cn K) (ae 3) (bg K (ae 0) "key"))) (bR A.c_Bare (lq K A) (fun _=>E0) (ac (ae 1) (ai))) (ae 0))
def T_6 (K:W.Frag) (A:Adr):TS:=aJ (mIf (aZ (tOp (cn K) (aA (gC K A) (fun _=>E0) (ac (ae 1) (ac (ae 2) (ac (bg K (ae 0) "depth") (ai))))) (tC (.int 0)))) (bg K (ae 0) "right") (bg K (ae 0) "left"))
def Gz (K:W.Frag) (A:Adr) (n:Nat):TS:=aw (aP (cR [(A.c_Bare,(jR K A)),(A.c_Leaf,(gM K A)),(A.c_Fork,(fH K A n))] "without" (fun _=>E0) (eh A.c_Fork "toward" (jh K A) (fun _=>E0) (ae 0) (ac (ae 2) (ac (ae 3) (ai)))) (ac (ae 1) (ac (ae 2) (ac (ae 3) (ai))))) (av 4)) (aw (bn (bV K (tCB (fK K) (ac (ae 4) (ac (tC (.ref A.c_Bare)) (ai))))) (aJ (eh A.c_Fork "aside" (qp K A) (fun _=>E0) (ae 0) (ac (ae 2) (ac (ae 3) (ai))))) (aY)) (aJ (eh A.c_Fork "changed" (oa K A) (fun _=>E0) (ae 0) (ac (ae 1) (ac (ae 2) (ac (ae 3) (ac (ae 4) (ai))))))))
def Ge (K:W.Frag) (A:Adr):TS:=aw (fB (fM K (ae 4)) (av 6) (aw (aP (tCB (ip K) (ac (ae 3) (ai))) (av 7)) (aw (aP (ae 5) (qL (ae 7) (ae 6) mW)) (aw (bn (aZ (tOp (mLt) (tCB (df K) (ac (ae 7) (ai))) (tC (.int 3)))) (aw (aP (cR [(A.c_Bare,(jO K A)),(A.c_Leaf,(gP K A)),(A.c_Fork,(fQ K A 70))] "with_key" (fun _=>E0) (ae 0) (ac (ae 1) (ac (ae 2) (ac (ae 6) (ac (ae 5) (ai)))))) (av 8)) (bn (cI (bV K (aA (dI K A 70) (fun _=>E0) (ac (ae 8) (ac (ae 1) (ac (ae 2) (ac (tCB (gw K) (ac (jN K "dict" ir (ae 7)) (ai))) (ac (ae 4) (ai))))))))) (aJ (tC (.bl false))) (aY))) (aY)) (aw (aP (tCB (ip K) (ac (ae 3) (ai))) (av 7)) (aw (bn (aZ (tOp (qK K) (ae 6) (ae 7))) (fJ (tBM K "dict" qh (ae 7) (ac (ae 6) (ai)))) (aY)) (bn (cI (bV K (aA (dI K A 70) (fun _=>E0) (ac (cR [(A.c_Bare,(jR K A)),(A.c_Leaf,(gM K A)),(A.c_Fork,(fH K A 70))] "without" (fun _=>E0) (ae 0) (ac (ae 1) (ac (ae 2) (ac (ae 6) (ai))))) (ac (ae 1) (ac (ae 2) (ac (tCB (gw K) (ac (jN K "dict" ir (ae 7)) (ai))) (ac (ae 4) (ai))))))))) (aJ (tC (.bl false))) (aY)))))))) (aJ (tC (.bl true)))
def yY (K:W.Frag) (A:Adr):TS:=aJ (tC (.bl true))
def pK (K:W.Frag) (A:Adr):TS:=aw (fB (mV K (ac (ae 13) (ac (ae 14) (ai)))) (lu K 2 (el (av 15) (el (av 16) lD))) (bn (cI (bV K (aA (dI K A 70) (fun _=>E0) (ac (ae 15) (ac (ae 1) (ac (ae 2) (ac (ae 16) (ac (ae 7) (ai))))))))) (aJ (tC (.bl false))) (aY))) (yY K A)
def lh (K:W.Frag) (A:Adr):TS:=aw (fB (mV K (ac (ae 13) (ac (ae 14) (ai)))) (lu K 2 (el (av 15) (el (av 16) lD))) (bn (mOr (cI (bV K (aA (dI K A 70) (fun _=>E0) (ac (ae 15) (ac (ae 1) (ac (ae 2) (ac (ae 16) (ac (ae 7) (ai))))))))) (cI (bV K (aA (mG K A) (fun _=>E0) (ac (ae 15) (ac (ae 1) (ac (ae 2) (ac (ae 16) (ac (ae 7) (ac (tOp (bq K) (ae 6) (tC (.int 2))) (ai))))))))))) (aJ (tC (.bl false))) (aY))) (pK K A)
def qg (K:W.Frag) (A:Adr):TS:=aw (aP (da (ac (da (ai)) (ac (da (ac (ae 8) (ai))) (ac (da (ac (ae 9) (ai))) (ac (da (ac (ae 8) (ac (ae 9) (ai)))) (ai)))))) (av 14)) (lh K A)
def ph (K:W.Frag) (A:Adr):TS:=aw (aP (tOp (cN K) (ae 13) (da (ac (bR A.c_Fork (gZ K A) (fun _=>E0) (ac (ae 1) (ac (tOp (bq K) (ae 12) (tC (.int 1))) (ac (tOp (bq K) (ae 12) (tC (.int 2))) (ac (ae 10) (ac (ae 11) (ai))))))) (ai)))) (av 13)) (qg K A)
def pU (K:W.Frag) (A:Adr):TS:=aw (aP (da (ac (bR A.c_Bare (lq K A) (fun _=>E0) (ac (ae 1) (ai))) (ac (bR A.c_Leaf (dY K A) (fun _=>E0) (ac (ae 1) (ac (ae 3) (ac (tOp (bq K) (ae 6) (tC (.int 0))) (ai))))) (ac (bR A.c_Leaf (dY K A) (fun _=>E0) (ac (ae 1) (ac (ae 5) (ac (tOp (bq K) (ae 6) (tC (.int 1))) (ai))))) (ai))))) (av 13)) (ph K A)
def qf (K:W.Frag) (A:Adr):TS:=aw (bn (mOr (cI (bV K (aA (kS K A) (fun _=>E0) (ac (ae 1) (ac (ae 12) (ai)))))) (cI (bV K (aA (kS K A) (fun _=>E0) (ac (ae 1) (ac (dE (ac (tC (.str "leaf")) (ac (ae 3) (ac (tOp (bq K) (ae 6) (tC (.int 2))) (ai))))) (ai))))))) (aJ (tC (.bl false))) (aY)) (pU K A)
def pk (K:W.Frag) (A:Adr):TS:=aw (aP (aA (ke K A) (fun _=>E0) (ac (ae 1) (ac (ae 2) (ac (tCB (ox K) (ac (da (ac (ae 8) (ac (ae 9) (ai)))) (ai))) (ai))))) (av 12)) (qf K A)
def pV (K:W.Frag) (A:Adr):TS:=aw (aP (bR A.c_Leaf (dY K A) (fun _=>E0) (ac (ae 1) (ac (tCB (uY) (ac (ae 3) (ac (ae 5) (ai)))) (ac (tOp (bq K) (da (ac (tOp (bq K) (ae 6) (tC (.int 1))) (ac (tOp (bq K) (ae 6) (tC (.int 0))) (ai)))) (tCB (rM) (ac (tOp (mLt) (ae 5) (ae 3)) (ai)))) (ai))))) (av 11)) (pk K A)
def oW (K:W.Frag) (A:Adr):TS:=aw (aP (bR A.c_Leaf (dY K A) (fun _=>E0) (ac (ae 1) (ac (tCB (vE) (ac (ae 3) (ac (ae 5) (ai)))) (ac (tOp (bq K) (da (ac (tOp (bq K) (ae 6) (tC (.int 0))) (ac (tOp (bq K) (ae 6) (tC (.int 1))) (ai)))) (tCB (rM) (ac (tOp (mLt) (ae 5) (ae 3)) (ai)))) (ai))))) (av 10)) (pV K A)
def zv (K:W.Frag) (A:Adr):TS:=aw (aP (dE (ac (ae 5) (ac (tOp (bq K) (ae 6) (tC (.int 1))) (ai)))) (av 9)) (oW K A)
def BD (K:W.Frag) (A:Adr):TS:=aw (aP (dE (ac (ae 3) (ac (tOp (bq K) (ae 6) (tC (.int 0))) (ai)))) (av 8)) (zv K A)
def sZ (K:W.Frag) (A:Adr):TS:=aw (aP (da (ac (ae 3) (ac (ae 5) (ac (aA (jg K A) (fun _=>E0) (ac (aA (eW K A) (fun _=>E0) (ac (ae 0) (ac (tC (.int 4)) (ai)))) (ac (ae 2) (ai)))) (ai))))) (av 7)) (BD K A)
def kY (K:W.Frag) (A:Adr):TS:=aw (aP (fN [0] (mR (ac (tC (.int 3)) (ai))) (fun _ H Q=>Q true H) (aA (mL K A) (fun _=>E0) (ac (aA (eW K A) (fun _=>E0) (ac (ae 1) (ac (tOp (cN K) (tC (.int 5)) (ae 0)) (ai)))) (ai)))) (av 6)) (sZ K A)
def rV (K:W.Frag) (A:Adr):TS:=aw (bn (mOr (aZ (tOp (cn K) (tOp (cr) (ae 4) (tC (.int 2))) (tC (.int 0)))) (aZ (tOp (cn K) (ae 5) (ae 3)))) (aP (tOp (oG) (ae 3) (tOp (lL) (tC (.int 1)) (tOp (cr) (tOp (ci) (ae 4) (tC (.int 2))) (ae 2)))) (av 5)) (aY)) (kY K A)
def sC (K:W.Frag) (A:Adr):TS:=aw (aP (aA (jg K A) (fun _=>E0) (ac (tOp (ci) (ae 4) (tC (.int 2))) (ac (ae 2) (ai)))) (av 5)) (rV K A)
def BL (K:W.Frag) (A:Adr):TS:=aw (aP (aA (eW K A) (fun _=>E0) (ac (ae 0) (ac (tC (.int 3)) (ai)))) (av 4)) (sC K A)
def sU (K:W.Frag) (A:Adr):TS:=aw (aP (aA (jg K A) (fun _=>E0) (ac (aA (eW K A) (fun _=>E0) (ac (ae 0) (ac (tC (.int 2)) (ai)))) (ac (ae 2) (ai)))) (av 3)) (BL K A)
def Fu (K:W.Frag) (A:Adr):TS:=aw (aP (aA (mM K A) (fun _=>E0) (ac (aA (eW K A) (fun _=>E0) (ac (ae 0) (ac (tC (.int 0)) (ai)))) (ai))) (av 1)) (aw (aP (tOp (cN K) (tC (.int 1)) (tOp (cr) (aA (eW K A) (fun _=>E0) (ac (ae 0) (ac (tC (.int 1)) (ai)))) (tC (.int 60)))) (av 2)) (sU K A))
variable {K:W.Frag} {mg:Str→Option Value} {A:Adr}
def tyD:Dat→String
 | .non=> "NoneType"
 | .bl _=> "bool"
 | .int _=> "int"
 | .str _=> "str"
 | .lst _=> "list"
 | .tup _=> "tuple"
 | .dic=> "dict"
theorem cf.ty {H:Hp} {v:V} {d:Dat} (h:cf H v d):tyN H v=some (tyD d):=by
 cases h with
 | lst e _=>unfold tyN;dsimp only;rw [e];rfl
 | tup e _=>unfold tyN;dsimp only;rw [e];rfl
 | dic e=>unfold tyN;dsimp only;obtain ⟨kvs,e⟩:=e;rw [e];rfl
 | _=>rfl
mutual
theorem cf.toV {K:W.Frag} {H:Hp} {v:V} {d:Dat} (h:cf H v d) (ok:okD d=true):cT K H v (iE d):=by
 cases h with
 | non=>exact .non
 | bl b=>exact .bl b
 | int i=>exact .int i
 | str z=>exact .str z
 | lst e r=>exact .lst (SqL.of e) (DatWs.toV r ok)
 | tup e r=>exact .tup (SqT.of e) (DatWs.toV r ok)
 | dic e=>cases ok
theorem DatWs.toV {K : W.Frag} {H : Hp} {xs : List V} {ds : List Dat} (h : DatWs H xs ds) (ok : okDs ds = true) : DatVs K H xs (toPys ds) := by
  cases h with
  | nil => exact .nil
  | cons a r =>
    have ok : (okD _ && okDs _) = true := ok
    rw [Bool.and_eq_true] at ok
    exact .cons (cf.toV a ok.1) (DatWs.toV r ok.2)
end
theorem iw {z:Str} (h:bz z=true):PyData.strOk z=true:=by
 unfold PyData.strOk
 unfold bz at h
 rw [Array.all_eq_true] at h ⊢
 intro i hi
 have:=of_decide_eq_true (h i hi)
 exact decide_eq_true (by omega)
mutual
theorem ie:∀ {d:Dat},okD d=true→(iE d).canLay0=true
 | .non,_=>rfl
 | .bl _,_=>rfl
 | .int _,_=>rfl
 | .str z,h=>iw (Bool.and_eq_true_iff.mp h).1
 | .lst ds,h=>lay_toPys h
 | .tup ds,h=>lay_toPys h
theorem lay_toPys : ∀ {ds : List Dat}, okDs ds = true → PyData.canLayAll0 (toPys ds) = true
  | [], _ => rfl
  | d :: r, h => by
    have h : (okD d && okDs r) = true := h
    rw [Bool.and_eq_true] at h
    show ((iE d).canLay0 && PyData.canLayAll0 (toPys r)) = true
    rw [ie h.1, lay_toPys h.2]; rfl
end
theorem ixT {K:W.Frag} {H:Hp} {Q:VK} {a:Addr} {xs:List V} {x:V} {i:Int} {j:Nat} (ha:H a=some (.tup xs)) (e:i=j) (hx:xs[j]?=some x) (q:Q x H):bq K (.ref a) (.int i) H Q:=by
 subst e
 refine .inl (.inr (.inl ⟨a,xs,j,x,rfl,rfl,SqT.of ha,?_,q⟩))
 have hj:=(List.getElem?_eq_some_iff.mp hx).1
 rw [Bp (by omega) (by omega)]
 simp [List.getD_eq_getElem?_getD,hx]
theorem Be (K:W.Frag) (A:Adr):Ln (kQ K A) 1:=by rintro vs H Q E ⟨v,d,rfl,_⟩;rfl
theorem Cs (T:Txt K mg A) (vs:List V) (H:Hp) (Q:VK) (E:XK) (h:kQ K A vs H Q E):FB K A { nx:=fun _ H'=>Q .non H',rt:=Q } (bX ["thing"] vs) H:=by
 obtain ⟨v,d,rfl,w,q⟩:=h
 refine ⟨by decide,_,w.ty,?_⟩
 cases d
 case int i=>exact Sel.yes rfl ⟨by decide,_,w.ty,q⟩
 case bl b=>exact Sel.yes rfl ⟨by decide,_,w.ty,q⟩
 all_goals exact Sel.no rfl q
theorem Bd (K:W.Frag) (A:Adr):Ln (mT K A) 1:=by rintro vs H Q E ⟨v,d,rfl,_⟩;rfl
theorem DP (T : Txt K mg A) (vs : List V) (H : Hp) (Q : VK) (E : XK) (h : mT K A vs H Q E) : FV K A { nx := fun _ H' => Q .non H', rt := Q } (bX ["thing"] vs) H := by
  obtain ⟨v, d, rfl, w, q⟩ := h
  refine ⟨v, d, rfl, w, ?_⟩
  cases w with
  | int i =>
    refine Sel.yes rfl (Sel.dec (fun h0 => ⟨⟨by decide, by decide, by decide⟩, ?_⟩) (fun h0 => ?_))
    · show Q (.bl (decide (i < 10 ^ ((60 : Int).toNat)))) H
      have e : hU (.int i) = decide (i < 10 ^ ((60 : Int).toNat)) := by
        show decide (0 ≤ i ∧ i < 10 ^ 60) = decide (i < 10 ^ 60)
        by_cases h1 : i < 10 ^ 60
        · rw [decide_eq_true h1, decide_eq_true ⟨h0, h1⟩]
        · rw [decide_eq_false h1, decide_eq_false fun z => h1 z.2]
      rw [← e]; exact q
    · have e : hU (.int i) = false := decide_eq_false fun z => h0 z.1
      rw [← e]; exact q
  | non => exact Sel.no rfl ⟨by decide, _, rfl, q⟩
  | bl b => exact Sel.no rfl ⟨by decide, _, rfl, q⟩
  | str z => exact Sel.no rfl ⟨by decide, _, rfl, q⟩
  | lst e r => exact Sel.no rfl ⟨by decide, _, (cf.lst e r).ty, q⟩
  | tup e r => exact Sel.no rfl ⟨by decide, _, (cf.tup e r).ty, q⟩
  | dic e => exact Sel.no rfl ⟨by decide, _, (cf.dic e).ty, q⟩
theorem lV {x y:Str} (h1:bz x=true) (h2:bz y=true):bz (x++y)=true:=by
 unfold bz at h1 h2 ⊢
 show (x.cps++y.cps).all _=true
 rw [Array.all_append,h1,h2];rfl
theorem BQ (H:Hp) (m:Key):cf H (kV m) (ej m):=by cases m <;> constructor
theorem uq {K:W.Frag} {H:Hp} {Q:VK} {a b:Key} (q:Q (.bl (decide (a=b))) H):cn K (kV a) (kV b) H Q:=by
 cases a <;> cases b
 · rename_i i j
   have e:decide ((Sum.inl i:Key)=Sum.inl j)=decide (i=j):=by simp
   rw [e] at q;exact q
 · have e:∀ (i:Int) (j:Str),decide ((Sum.inl i:Key)=Sum.inr j)=false:=by simp
   rw [e] at q;exact q
 · have e:∀ (i:Int) (j:Str),decide ((Sum.inr j:Key)=Sum.inl i)=false:=by simp
   rw [e] at q;exact q
 · rename_i i j
   have e:decide ((Sum.inr i:Key)=Sum.inr j)=decide (i=j):=by simp
   rw [e] at q;exact q
theorem uZ {K:W.Frag} {H:Hp} {Q:VK} {a:Key} (q:Q (.bl false) H):dR K (kV a) (kV a) H Q:=by
 cases a
 · rename_i i
   have e:(!decide (i=i))=false:=by simp
   rw [← e] at q;exact q
 · rename_i i
   have e:(!decide (i=i))=false:=by simp
   rw [← e] at q;exact q
theorem fX {k:List Key} (h:okT k=true):1≤k.length∧k.length≤8:=by
 unfold okT at h
 simp only [Bool.and_eq_true] at h
 exact of_decide_eq_true h.1.1
theorem gr {k:List Key} (h:okT k=true):k.all okP=true:=by
 unfold okT at h
 rw [Bool.and_eq_true] at h
 exact h.2
theorem lC {k:List Key} {x:Key} (h:okT k=true) (hx:x∈k):okP x=true:=List.all_eq_true.mp (gr h) x hx
theorem vX {k : List Key} (h : okT k = true) : ∃ z r, k = .inr z :: r := by
  unfold okT at h
  simp only [Bool.and_eq_true] at h
  cases k with
  | nil => cases h.1.2
  | cons x r =>
    cases x with
    | inl i => cases h.1.2
    | inr z => exact ⟨z, r, rfl⟩
theorem wJ {x:Key} (h:okP x=true):hU (ej x)=true:=by
 cases x with
 | inl i=>exact h
 | inr z=>rfl
theorem iD {i:Int} (h0:0≤i) (h1:i<10^60):i.natAbs.log2<1920:=by
 by_cases e:i.natAbs=0
 · rw [e];decide
 · refine (Nat.log2_lt e).mpr ?_
   have:i.natAbs<10^60:=by omega
   exact Nat.lt_of_lt_of_le this (by decide +kernel)
theorem fc {i:Int} (h0:0≤i) (h1:i<10^60):((toString i:String):Str).length≤61:=by
 have:i.natAbs<10^60:=by omega
 have:=int_text_length_le10 (k:=60) (by decide) this
 show (Str.ofString _).length≤_
 rw [PySem.ofString_length];exact this
theorem gg (s:String) (h:s.length=1:=by rfl):(s:Str).length=1:=by
 show (Str.ofString s).length=1
 rw [PySem.ofString_length];exact h
theorem mn {x : Key} (h : okP x = true) : (dJ x).length ≤ szK x := by
  cases x with
  | inl i =>
    have h := of_decide_eq_true h
    have := fc h.1 h.2
    show (((toString i : String) : Str) ++ ((";" : String) : Str)).length ≤ 62
    rw [strLen_append, gg ";"]; omega
  | inr z =>
    have h := of_decide_eq_true (Bool.and_eq_true_iff.mp h).2
    have := fc (i := (z.length : Int)) (by omega) (by omega)
    show (((toString (z.length : Int) : String) : Str) ++ ((":" : String) : Str) ++ z).length ≤ z.length + 62
    rw [strLen_append, strLen_append, gg ":"]; omega
theorem Bg {x : Key} (h : okP x = true) : szK x ≤ 100062 := by
  cases x with
  | inl i => show 62 ≤ 100062; decide
  | inr z =>
    have h := of_decide_eq_true (Bool.and_eq_true_iff.mp h).2
    show z.length + 62 ≤ 100062; omega
theorem ot:∀ xs:List Key,eY xs=(xs.map dJ).foldr (·++·) Str.empty
 | []=>rfl
 | x::r=>by show dJ x++eY r=dJ x++_;rw [ot r]
theorem lR : ∀ {k : List Key}, k.all okP = true → (eY k).length ≤ szT k
  | [], _ => by show Str.empty.length ≤ 0; decide
  | x :: r, h => by
    rw [List.all_cons, Bool.and_eq_true] at h
    have h1 := mn h.1
    have h2 := lR h.2
    show (dJ x ++ eY r).length ≤ ((x :: r).map szK).sum
    rw [strLen_append, List.map_cons, List.sum_cons]
    unfold szT at h2
    omega
theorem gq {x y:Str} (h1:bz x=true) (h2:bz y=true):bz (x++y)=true:=lV h1 h2
theorem jy {z:Str} (h:∀ c∈z.cps.toList,c<128):bz z=true:=by
 unfold bz
 rw [Array.all_eq_true]
 intro i hi
 exact decide_eq_true (h _ (by simp))
theorem oF {z:Str} (h:bz z=true):∀ c∈z.cps.toList,c<128:=by
 intro c hc
 unfold bz at h
 rw [Array.all_eq_true] at h
 obtain ⟨i,hi,e⟩:=List.getElem_of_mem hc
 have:=of_decide_eq_true (h i (by simpa using hi))
 rw [← e]
 simpa using this
theorem yH (n:Nat):bz ((toString (n:Int):String):Str)=true:=by
 refine jy fun c hc=>?_
 rw [W.KIN.signs_num n] at hc
 obtain ⟨ch,hch,e⟩:=List.mem_map.mp hc
 have:=digit_range (Nat.isDigit_of_mem_toDigits (by decide) (by decide) hch)
 rw [← e];omega
theorem pX {i:Int} (h:0≤i):bz ((toString i:String):Str)=true:=by
 obtain ⟨n,rfl⟩:=Int.eq_ofNat_of_zero_le h
 exact yH n
theorem sR {x : Key} (h : okP x = true) : bz (dJ x) = true := by
  cases x with
  | inl i =>
    have h := of_decide_eq_true h
    exact gq (pX h.1) (by decide +kernel)
  | inr z =>
    have h := (Bool.and_eq_true_iff.mp h).1
    exact gq (gq (pX (by omega)) (by decide +kernel)) h
theorem mt : ∀ {k : List Key}, k.all okP = true → bz (eY k) = true
  | [], _ => by decide +kernel
  | x :: r, h => by
    rw [List.all_cons, Bool.and_eq_true] at h
    exact gq (sR h.1) (mt h.2)
theorem pq : ∀ {k : List Key}, k.all okP = true → szT k ≤ k.length * 100062
  | [], _ => by decide
  | x :: r, h => by
    rw [List.all_cons, Bool.and_eq_true] at h
    have h1 := Bg h.1
    have h2 := pq h.2
    show ((x :: r).map szK).sum ≤ _
    rw [List.map_cons, List.sum_cons, List.length_cons, Nat.succ_mul]
    unfold szT at h2
    omega
theorem nE : ∀ {k : List Key}, k.all okP = true → ((k.map dJ).map (·.length)).sum ≤ szT k
  | [], _ => by decide
  | x :: r, h => by
    rw [List.all_cons, Bool.and_eq_true] at h
    have h1 := mn h.1
    have h2 := nE h.2
    show (((x :: r).map dJ).map (·.length)).sum ≤ ((x :: r).map szK).sum
    rw [List.map_cons, List.map_cons, List.sum_cons, List.map_cons, List.sum_cons]
    unfold szT at h2
    omega
theorem Ai (K:W.Frag) (A:Adr):Ln (kE K A) 1:=by rintro vs H Q E ⟨p,k,rfl,_⟩;rfl
theorem DM (T:Txt K mg A):Rd (kE K A) (Ff K A) ["thing"]:=by
 intro vs H Q E h
 obtain ⟨p,k,rfl,hp,ok,q⟩:=h
 obtain ⟨l1,l8⟩:=fX ok
 obtain ⟨z,r,hk⟩:=vX ok
 have ty:tyN H (.ref p)=some "tuple" :=by unfold tyN;dsimp only;rw [hp]
 refine ⟨by decide, "tuple",ty,Sel.no rfl (.inl (.inr (.inl ⟨_,SqT.of hp,?_⟩)))⟩
 refine Sel.dec (fun h1=>?_) (fun h1=>absurd (by simp;omega) h1)
 refine Sel.ndec (fun h8=>absurd (by simp;omega) h8) (fun h8=>?_)
 refine ixT (j:=0) hp rfl (by rw [hk];rfl) ⟨by decide, "str",rfl,Sel.yes rfl ?_⟩
 refine ⟨p,rfl,.inr ⟨⟨_,SqT.of hp⟩,fun D hD=>?_⟩⟩
 have hne:p≠D:=ar hp hD
 have hml:(k.map kV).length=k.length:=by simp
 refine jd (cD.tuple (xs:=k.map kV) .non) (fun i ys H2=>ys=(k.take i).map (fun x=>V.bl true)∧H2=upd H D (.lst ys)) (fun i ys H2 hi ⟨_,e2⟩=>?_) ⟨rfl,rfl⟩ (fun i ys H2 hi ⟨e1,e2⟩=>?_) (fun ys H2 ⟨e1,e2⟩=>?_)
 · rw [e2];exact SqT.of (by rw [ak hne];exact hp)
 · subst e2
   have hi':i<k.length:=by omega
   obtain ⟨x,hx⟩:∃ x,k[i]?=some x:=⟨_,List.getElem?_eq_getElem hi'⟩
   have hg:(k.map kV).getD i .non=kV x:=by rw [List.getD_eq_getElem?_getD,List.getElem?_map,hx];rfl
   rw [hg]
   have hs:=wJ (lC ok (List.mem_of_getElem? hx))
   refine rf ⟨_,ej x,rfl,BQ _ x,?_⟩
   rw [hs]
   have hyl:ys.length=i:=by rw [e1,List.length_map,List.length_take];omega
   refine ⟨af,by rw [hyl];exact iF (by omega),CWd.next hi ⟨?_,dm⟩⟩
   rw [e1,List.take_add_one,List.map_append,hx];rfl
 · subst e2
   refine ⟨D,k.map fun _=>true,rfl,by rw [af,e1,hml,List.take_length,List.map_map];rfl,?_⟩
   have:(k.map fun _=>true).all id=true:=by simp
   rw [this];exact q _ (aq.upd hD)
theorem zp (K:W.Frag) (A:Adr):Ln (mQ K A) 1:=by rintro vs H Q E ⟨v,rfl,_⟩;rfl
theorem Ek (T : Txt K mg A) : Rd (mQ K A) (Gn K A) ["part", "signs"] := by
  intro vs H Q E h
  obtain ⟨v, rfl, hp, q⟩ := h
  cases v with
  | inl i =>
    have h := of_decide_eq_true hp
    have l := fc h.1 h.2
    refine ⟨.int i, .int i, rfl, .int i, Sel.t ?_⟩
    have e1 : Str.empty ++ ((toString i : String) : Str) = ((toString i : String) : Str) := Str.empty_append _
    have l2 : (((toString i : String) : Str) ++ ((";" : String) : Str)).length ≤ sizeLine := by rw [strLen_append, gg ";"]; exact aK (by omega)
    refine ⟨iD h.1 h.2, by rw [e1]; exact aK (by omega), ?_, ?_, ?_⟩ <;> rw [e1]
    · exact l2
    · exact l2
    · exact q
  | inr z =>
    have h := of_decide_eq_true (Bool.and_eq_true_iff.mp hp).2
    have l := fc (i := (z.length : Int)) (by omega) (by omega)
    refine ⟨.str z, .str z, rfl, .str z, Sel.f ?_⟩
    have e1 : Str.empty ++ ((toString (z.length : Int) : String) : Str) = ((toString (z.length : Int) : String) : Str) := Str.empty_append _
    have l2 : (((toString (z.length : Int) : String) : Str) ++ ((":" : String) : Str)).length ≤ sizeLine := by rw [strLen_append, gg ":"]; exact aK (by omega)
    have l3 : (((toString (z.length : Int) : String) : Str) ++ ((":" : String) : Str) ++ z).length ≤ sizeLine := by rw [strLen_append, strLen_append, gg ":"]; exact aK (by omega)
    refine .inl ⟨aK (by omega), iD (by omega) (by omega), by rw [e1]; exact aK (by omega), ?_, aK (by omega), ?_, ?_, ?_⟩ <;> rw [e1]
    · exact l2
    · exact l3
    · exact l3
    · exact q
theorem Ad (K:W.Frag) (A:Adr):Ln (kD K A) 1:=by rintro vs H Q E ⟨p,k,rfl,_⟩;rfl
theorem Do (T:Txt K mg A):Rd (kD K A) (Fq K A) ["term"]:=by
 intro vs H Q E h
 obtain ⟨p,k,rfl,hp,ok,q⟩:=h
 refine ⟨p,k,rfl,hp,ok,fun H' s=>Sel.no rfl ?_⟩
 have hp':=s _ _ hp
 have hml:(k.map kV).length=k.length:=by simp
 obtain ⟨l1,l8⟩:=fX ok
 refine ⟨rfl,⟨p,rfl,.inr ⟨⟨_,SqT.of hp'⟩,fun D hD=>?_⟩⟩⟩
 have hne:p≠D:=ar hp' hD
 refine jd (cD.tuple (xs:=k.map kV) .non) (fun i ys H2=>ys=(k.take i).map (fun x=>V.str (dJ x))∧H2=upd H' D (.lst ys)) (fun i ys H2 hi ⟨_,e2⟩=>?_) ⟨rfl,rfl⟩ (fun i ys H2 hi ⟨e1,e2⟩=>?_) (fun ys H2 ⟨e1,e2⟩=>?_)
 · rw [e2];exact SqT.of (by rw [ak hne];exact hp')
 · subst e2
   have hi':i<k.length:=by omega
   obtain ⟨x,hx⟩:∃ x,k[i]?=some x:=⟨_,List.getElem?_eq_getElem hi'⟩
   have hg:(k.map kV).getD i .non=kV x:=by rw [List.getD_eq_getElem?_getD,List.getElem?_map,hx];rfl
   rw [hg]
   refine rf ⟨x,rfl,lC ok (List.mem_of_getElem? hx),?_⟩
   have hyl:ys.length=i:=by rw [e1,List.length_map,List.length_take];omega
   refine ⟨af,by rw [hyl];exact iF (by omega),CWd.next hi ⟨?_,dm⟩⟩
   rw [e1,List.take_add_one,List.map_append,hx];rfl
 · subst e2
   refine ⟨"",D,k.map dJ,rfl,rfl,by rw [af,e1,hml,List.take_length,List.map_map];rfl,?_,?_⟩
   · have h1:=nE (gr ok)
     have h2:=pq (gr ok)
     have e0:(("" :String):Str).length=0:=by decide
     rw [e0]
     have:k.length*100062≤8*100062:=Nat.mul_le_mul_right _ l8
     omega
   · rw [lN,←ot]
     exact q _ (s.trans (aq.upd hD))
theorem zB (K:W.Frag) (A:Adr):Ln (mE K A) 1:=by rintro vs H Q E ⟨x,dx,rfl,_⟩;rfl
theorem DL (T:Txt K mg A):Rd (mE K A) (EZ K A) ["self"]:=by
 intro vs H Q E h
 obtain ⟨x,dx,rfl,hx,q⟩:=h
 exact .inr fun d hd=>⟨x,A.c_Numbers,dx,[],rfl,by rw [ak (ar hx hd)];exact hx,T.cl_Numbers,T.na_Numbers_given,by decide,q d hd⟩
theorem eX.mono {H H':Hp} {x d:Addr} {kvs:List (List Key×V)} (s:aq H H') (n:eX A H x d kvs):eX A H' x d kvs:=by
 obtain ⟨⟨dx,h1⟩,h2⟩:=n
 exact ⟨⟨dx,s _ _ h1⟩,s _ _ h2⟩
theorem eX.hide {H:Hp} {x d:Addr} {kvs:List (List Key×V)} {cs:List Addr} {cvs:List V} (hc:bS H cs cvs) (n:eX A H x d kvs):eX A (cp cs H) x d kvs:=by
 obtain ⟨⟨dx,h1⟩,h2⟩:=n
 exact ⟨⟨dx,hc.hide h1 (fun _ z=>nomatch z)⟩,hc.hide h2 (fun _ z=>nomatch z)⟩
theorem zj (K:W.Frag) (A:Adr):Ln (mw K A) 2:=by rintro vs H Q E ⟨x,d,p,kvs,k,rfl,_⟩;rfl
theorem DJ (T : Txt K mg A) : Rd (mw K A) (FH K A) ["self", "term"] := by
  intro vs H Q E h
  obtain ⟨x, d, a, kvs, k, rfl, nu, hl, hp, ok, q⟩ := h
  refine ⟨a, k, rfl, hp, ok, fun H' s => Sel.no rfl ?_⟩
  have ta' := s _ _ hp
  obtain ⟨⟨dx, hx⟩, hd⟩ := nu.mono s
  have q := q H' s
  have g := cB.t hd ta'
  refine ⟨x, A.c_Numbers, dx, _, .ref d, rfl, hx, T.cl_Numbers, T.na_Numbers_given, rfl, .inl ⟨d, bx kvs k, rfl, g, ?_⟩⟩
  unfold gT gQ at q
  cases e : bx kvs k with
  | some w =>
    rw [e] at q g
    have q : Q w H' := q
    exact Sel.no rfl ⟨x, A.c_Numbers, dx, _, .ref d, rfl, hx, T.cl_Numbers, T.na_Numbers_given, rfl, .inr ⟨d, w, rfl, g, q⟩⟩
  | none =>
    rw [e] at q g
    have q : Q (.int kvs.length) (upd H' d (.dT (cg kvs k (.int kvs.length)))) := q
    have hx' : upd H' d (.dT (cg kvs k (.int kvs.length))) x = some (.ins A.c_Numbers dx [("given", .ref d)]) := by rw [ak (cY hx hd (fun z => nomatch z))]; exact hx
    have ha' : upd H' d (.dT (cg kvs k (.int kvs.length))) a = some (.tup (k.map kV)) := by rw [ak (cY ta' hd (fun z => nomatch z))]; exact ta'
    refine Sel.yes rfl ⟨x, A.c_Numbers, dx, _, .ref d, rfl, hx, T.cl_Numbers, T.na_Numbers_given, rfl, .inr ⟨d, kvs, rfl, hd, x, A.c_Numbers, dx, _, .ref d, rfl, hx, T.cl_Numbers, T.na_Numbers_given, rfl, .inr ⟨d, _, rfl, .inr ⟨kvs, k, a, hd, rfl, ta', Nat.lt_of_le_of_lt hl (aK (n := 50001) (by decide)), rfl⟩, ?_⟩⟩⟩
    have g2 := cB.t (kvs := cg kvs k (.int kvs.length)) (k := k) af ha'
    rw [wM, if_pos rfl] at g2
    exact ⟨x, A.c_Numbers, dx, _, .ref d, rfl, hx', T.cl_Numbers, T.na_Numbers_given, rfl, .inr ⟨d, _, rfl, g2, q⟩⟩
theorem Ej (T:Txt K mg A) (a0:V) (H:Hp) (Q:VK) (E:XK) (h:qC K A [a0] H Q E):AG K A (dH ["term"] [a0] []) H Q:=h
theorem Ei (T:Txt K mg A) (a0 b0:V) (H:Hp) (Q:VK) (E:XK) (h:rC K A [a0,b0] H Q E):zL K A (dH ["term", "numbers"] [a0] [b0]) H Q:=by
 obtain ⟨x,d,p,kvs,k,e,nu,hl,hp,ok,h⟩:=h
 cases e
 obtain ⟨dx,hx⟩:=nu.ob
 exact ⟨x,dx,_,rfl,hx,rfl,x,d,p,kvs,k,rfl,nu,hl,hp,ok,h⟩
theorem By {H:Hp} {b p:Addr} {kvs:List (List Key×V)} {kk:List Key} {d:V} (hb:H b=some (.dT kvs)) (hp:H p=some (.tup (kk.map kV))) (hl:kvs.length≤50000):
  zi H b (.ref p) d (gT kvs kk d) (gQ H b kvs kk d):=by
 unfold gT gQ
 have g:=cB.t hb hp
 cases e:bx kvs kk with
 | some v=>rw [e] at g;exact .inl ⟨g,if_pos rfl⟩
 | none=>rw [e] at g;exact .inr ⟨g,.inr ⟨kvs,kk,p,hb,rfl,hp,Nat.lt_of_le_of_lt hl (aK (n:=50001) (by decide)),if_neg (by decide)⟩,rfl⟩
theorem sj {z:Str} (h:bz z=true) (l u:Option Int):bz (PySem.Txt.slice z l u)=true:=by
 refine jy fun c hc=>?_
 unfold PySem.Txt.slice at hc
 split at hc
 · exact oF h c hc
 · simp only [List.toList_toArray,List.mem_filterMap] at hc
   obtain ⟨i,_,e⟩:=hc
   exact oF h c (by rw [← Array.getElem?_toList] at e;exact List.mem_of_getElem? e)
theorem bI.trans {P:Addr} {H H1 H2:Hp} (a:bI P H H1) (b:bI P H1 H2):bI P H H2:=fun x o e n=>b x o (a x o e n) n
theorem bI.new {P p:Addr} {H:Hp} {o:HO} (h:H p=none):bI P H (upd H p o):=fun b u e _=>by rw [ak (ar e h)];exact e
theorem bI.tab {P:Addr} {H:Hp} {o:HO}:bI P H (upd H P o):=fun b u e n=>by rw [ak n];exact e
theorem bU {H:Hp} {P q:Addr} {o:HO} (hP:H P=some o) (hq:H q=none):q≠P:=fun e=>by rw [e,hP] at hq;cases hq
theorem jJ {H:Hp} {p q:Addr} {o:HO} (h:upd H p o q=none):q≠p∧H q=none:=by
 by_cases e:q=p
 · subst e;rw [af] at h;cases h
 · rw [ak e] at h;exact ⟨e,h⟩
theorem nW:eO []:=fun p hp=>nomatch hp
theorem Sub.rfl' {g:GK}:Sub g g:=fun _ _ e=>e
theorem Sub.trans {g g1 g2:GK} (a:Sub g g1) (b:Sub g1 g2):Sub g g2:=fun k v e=>b k v (a k v e)
theorem pQ (kvs:List (List Key×Key)) (k:List Key):bx (cq kvs) k=(cF kvs k).map kV:=by
 unfold bx cq cF
 rw [List.find?_map]
 simp only [Option.map_map]
 congr 1
theorem si {kvs:List (List Key×Key)} {k:List Key} {v:Key} {x:List Key×Key} (h:cF kvs k=some v):cF (kvs++[x]) k=some v:=by
 unfold cF at h ⊢
 rw [List.find?_append]
 cases e:kvs.find? fun p=>decide (p.1=k) with
 | none=>rw [e] at h;cases h
 | some y=>rw [e] at h;exact h
theorem vg {kvs:List (List Key×Key)} {k:List Key} {d:Key} (h:cF kvs k=none):cF (kvs++[(k,d)]) k=some d:=by
 unfold cF at h ⊢
 rw [List.find?_append]
 cases e:kvs.find? fun p=>decide (p.1=k) with
 | none=>simp
 | some y=>rw [e] at h;cases h
theorem vG {kvs:List (List Key×Key)} {k:List Key} {v:Key} (h:cF kvs k=some v):bx (cq kvs) k=some (kV v):=by rw [pQ,h];rfl
theorem uJ {kvs : List (List Key × Key)} {k : List Key} {v : Key} (hs : eO kvs) (h : cF kvs k = some v) : gn v := by
  unfold cF at h
  cases e : kvs.find? fun p => decide (p.1 = k) with
  | none => rw [e] at h; cases h
  | some y =>
    rw [e] at h
    cases h
    exact hs y (List.mem_of_find?_eq_some e)
theorem oV {kvs:List (List Key×Key)} {x:List Key×Key} (h:eO kvs) (hx:gn x.2):eO (kvs++[x]):=fun p hp=>by
 rcases List.mem_append.mp hp with z | z
 · exact h p z
 · rw [List.mem_singleton.mp z];exact hx
theorem gO {k : List Key} {v : Key} (hk : 1 ≤ k.length) (h : gn v) : cQ k v := by
  cases v with
  | inl i => exact h
  | inr z =>
    refine ⟨h.1, Nat.le_trans h.2 ?_⟩
    cases k with
    | nil => simp at hk
    | cons x r =>
      show 62 ≤ ((x :: r).map szK).sum
      rw [List.map_cons, List.sum_cons]
      have : 62 ≤ szK x := by cases x with
        | inl i => exact Nat.le_refl 62
        | inr z => show 62 ≤ z.length + 62; omega
      omega
theorem nH {H : Hp} {b : Addr} {cs : List Addr} {cvs : List V} {kvs : List (List Key × Key)} (kk : List Key) (d : Key) (hs : eO kvs) (hd : gn d) (hb : H b = some (.dT (cq kvs))) (hc : bS H cs cvs) (H1 : Hp) (S : aq (cp cs H) H1) :
    ∃ (kvs' : List (List Key × Key)) (v : Key) (H' : Hp), gT (cq kvs) kk (kV d) = kV v ∧ ck cs H (gQ H1 b (cq kvs) kk (kV d)) = H' ∧ H' b = some (.dT (cq kvs')) ∧ (∀ x o, x ≠ b → H x = some o → H' x = some o) ∧ kvs'.length ≤ kvs.length + 1 ∧ eO kvs' ∧ cF kvs' kk = some v ∧ gn v ∧ ∀ k v, cF kvs k = some v → cF kvs' k = some v := by
  have hbc : b ∉ cs := hc.notin hb fun _ z => nomatch z
  have S2 := aq.hide cs S
  cases e : cF kvs kk with
  | some v =>
    have ev := vG e
    refine ⟨kvs, v, ck cs H H1, by unfold gT; rw [ev]; rfl, ?_, S2 _ _ hb, fun _ _ _ h => S2 _ _ h, Nat.le_succ _, hs, e, uJ hs e, fun _ _ h => h⟩
    unfold gQ; rw [ev]; rfl
  | none =>
    have ev : bx (cq kvs) kk = none := by rw [pQ, e]; rfl
    refine ⟨kvs ++ [(kk, d)], d, upd (ck cs H H1) b (.dT (cq (kvs ++ [(kk, d)]))), by unfold gT; rw [ev]; rfl, ?_, af, fun x o n h => by rw [ak n]; exact S2 _ _ h, by simp, oV hs hd, vg e, hd, fun _ _ h => si h⟩
    unfold gQ; rw [ev, if_neg (by decide), tQ hbc, vt _ ev]
    unfold cq; rw [List.map_append]; rfl
theorem m0 {x:cA×Sp} {l:List (cA×Sp)}:x∈x::l:=List.mem_cons_self
theorem mS {x y:cA×Sp} {l:List (cA×Sp)} (h:x∈l):x∈y::l:=List.mem_cons_of_mem _ h
theorem aB.rfl' {b:Addr} {H:Hp}:aB b H H:=fun _ _ _ e=>e
theorem aB.trans {b:Addr} {H H1 H2:Hp} (a:aB b H H1) (c:aB b H1 H2):aB b H H2:=fun x o n e=>c x o n (a x o n e)
theorem aB.same {b:Addr} {H H':Hp} (S:aq H H'):aB b H H':=fun x o _ e=>S x o e
theorem BK (K:W.Frag) (A:Adr):Ln (mF K A) 0:=by rintro vs H Q E ⟨rfl,_⟩;rfl
theorem DS (T:Txt K mg A) (q0:Addr) (hnd:([q0]:List Addr).Nodup) (vs:List V) (H:Hp) (Q:VK) (E:XK) (h:mF K A vs H Q E):zC K A q0 { nx:=fun σ H'=>(∀ p∈([(0,q0)]:List (Nat×Addr)),H' p.2=none)→Q .non (cE [(0,q0)] σ H'),rt:=fun σ v H'=>(∀ p∈([(0,q0)]:List (Nat×Addr)),H' p.2=none)→Q v (cE [(0,q0)] σ H') } (L2.bX ["numbers"] vs) H:=by
 obtain ⟨rfl,⟨ps,hP,tab⟩,q⟩:=h
 intro x dx hx hdx hne
 refine ⟨x,dx,rfl,af,fun d hd=>⟨rfl,?_⟩⟩
 obtain ⟨dnx,hd1⟩:=jJ hd
 obtain ⟨dndx,hd0⟩:=jJ hd1
 have xP:=bU hP hx
 have dxP:=bU hP hdx
 have dP:=bU hP hd0
 generalize e2:upd (upd (upd (upd H dx (.own x)) x (.ins A.c_Numbers dx [])) d (.dT [])) x (.ins A.c_Numbers dx [("given",.ref d)])=H2
 have S2:bI A.t_37 H H2:=by
   intro b o e n
   have b1:=ar e hx
   have b2:=ar e hdx
   have b3:=ar e hd0
   rw [← e2,ak b1,ak b3,ak b1,ak b2];exact e
 have hP2:H2 A.t_37=some (.tbl ps):=by rw [← e2,ak (Ne.symm xP),ak (Ne.symm dP),ak (Ne.symm xP),ak (Ne.symm dxP)];exact hP
 have hx2:H2 x=some (.ins A.c_Numbers dx [("given",.ref d)]):=by rw [← e2,af]
 have hd2:H2 d=some (.dT []):=by rw [← e2,ak dnx,af]
 have key:∀ (c f:Addr) (H3:Hp),bI A.t_37 H2 H3→vH A H3→f≠A.t_37→c≠A.t_37→H3 f=some (dj f dc [q0] c)→H3 c=some (cU c dc.qual)→H3 q0=none→Q (.ref f) (upd H3 q0 (bO q0 (.ref x))):=by
   intro c f H3 S3 tb fP cP hf hc hq
   have S4:=aq.upd (o:=bO q0 (.ref x)) hq
   obtain ⟨ps3,t1,t2⟩:=tb
   exact q f d (cF []) _ ((S2.trans S3).trans (bI.new hq)) ⟨ps3,S4 _ _ t1,t2.imp id fun ⟨c',z1,z2⟩=>⟨c',z1,S4 _ _ z2⟩⟩ hd0 (.cnt q0 x [] ⟨⟨c,S4 _ _ hf,S4 _ _ hc⟩,.cons af .nil⟩ ⟨⟨dx,S4 _ _ (S3 _ _ hx2 xP)⟩,S4 _ _ (S3 _ _ hd2 dP)⟩ (Nat.zero_le _) nW rfl)
 rcases tab with rfl | ⟨c,rfl,hc⟩
 · refine ⟨#[],hP2,trivial,.inl ⟨rfl,fun c f hc hf hne hq=>?_⟩⟩
   have cP:=bU hP2 hc
   have fP:=bU hP2 hf
   have c1:∀ o,upd H2 A.t_37 o c=none:=fun o=>by rw [ak cP];exact hc
   have f1:∀ o,upd (upd H2 A.t_37 o) c (cU c dc.qual) f=none:=fun o=>by rw [ak (Ne.symm hne),ak fP];exact hf
   exact key c f _ (bI.tab.trans ((bI.new (c1 _)).trans (bI.new (f1 _)))) ⟨_,by rw [ak (Ne.symm fP),ak (Ne.symm cP),af],.inr ⟨c,rfl,by rw [ak hne,af]⟩⟩ fP cP af (by rw [ak hne,af]) (hq _ (List.mem_singleton.mpr rfl))
 · have cP:c≠A.t_37:=cY hc hP (fun z=>nomatch z)
   have hc2:=S2 _ _ hc cP
   refine ⟨_,hP2,trivial,.inr ⟨c,rfl,fun f hf hq=>?_⟩⟩
   have fP:=bU hP2 hf
   have S3:=aq.upd (o:=dj f dc [q0] c) hf
   exact key c f _ (bI.new hf) ⟨_,S3 _ _ hP2,.inr ⟨c,rfl,S3 _ _ hc2⟩⟩ fP cP af (S3 _ _ hc2) (hq _ (List.mem_singleton.mpr rfl))
theorem Stp.clo {H:Hp} {f b:Addr} {g:GK} {n:Nat} (s:Stp A H f b g n):∃ ts∈gA K A,∃ cs cvs,de H f ts.1 cs cvs:=by
 cases s with
 | wri _ hc=>exact ⟨_,m0,_,_,hc⟩
 | cnt _ _ _ hc=>exact ⟨_,mS m0,_,_,hc⟩
 | sur _ _ hc=>exact ⟨_,mS (mS m0),_,_,hc⟩
 | wi _ _ _ _ _ hc=>exact ⟨_,mS (mS (mS m0)),_,_,hc⟩
 | wt _ _ _ _ _ hc=>exact ⟨_,mS (mS (mS (mS m0))),_,_,hc⟩
def stO (b z:Addr) (o:HO):Prop:=(∃ φ,o=.ext φ)∨(z=b∧∃ kvs,o=.dT kvs)∨∃ C dx v,o=HO.ins C dx [(("given" :Str),v)]
theorem Stp.keep {H H' : Hp} {f b : Addr} {g : List Key → Option Key} {n m : Nat} (s : Stp A H f b g n) (hn : n ≤ m) (k : ∀ z o, H z = some o → stO b z o → H' z = some o) : Stp A H' f b g m := by
  have kx : ∀ z φ, H z = some (.ext φ) → H' z = some (.ext φ) := fun z φ e => k z _ e (.inl ⟨_, rfl⟩)
  have kd : ∀ xs, H b = some (.dT xs) → H' b = some (.dT xs) := fun φ e => k b _ e (.inr (.inl ⟨rfl, _, rfl⟩))
  cases s with
  | cnt q x kvs hc num hl hs hg =>
    obtain ⟨⟨dx, h1⟩, h2⟩ := num
    exact .cnt q x kvs (hc.keep kx) ⟨⟨dx, k _ _ h1 (.inr (.inr ⟨_, _, _, rfl⟩))⟩, kd _ h2⟩ (Nat.le_trans hl hn) hs hg
  | sur q kvs hc hb hl hs hg => exact .sur q kvs (hc.keep kx) (kd _ hb) (Nat.le_trans hl hn) hs hg
  | wri kvs hc hb hg => exact .wri kvs (hc.keep kx) (kd _ hb) hg
  | wi q m kvs h1 h2 hc hb hg => exact .wi q m kvs h1 h2 (hc.keep kx) (kd _ hb) hg
  | wt q m kvs h1 h2 hc hb hg => exact .wt q m kvs h1 h2 (hc.keep kx) (kd _ hb) hg
theorem Stp.put {H:Hp} {f b x:Addr} {g:GK} {n m:Nat} {C dx:Addr} {fs:List (Str×V)} {o:HO} (s:Stp A H f b g n) (hn:n≤m) (e:H x=some (.ins C dx fs)) (h:∀ v,fs≠[(("given" :Str),v)]):Stp A (upd H x o) f b g m:=s.keep hn fun z u ez hz=>by
 rw [ak (cY ez e fun q=>?_)]
 · exact ez
 · subst q
   rcases hz with ⟨_,q⟩ | ⟨_,_,q⟩ | ⟨_,_,v,q⟩
   · cases q
   · cases q
   · injection q with _ _ q;exact h v q
theorem Stp.same {H H':Hp} {f b:Addr} {g:GK} {n m:Nat} (s:Stp A H f b g n) (hn:n≤m) (S:aq H H'):Stp A H' f b g m:=s.keep hn fun z o e _=>S z o e
theorem Stp.bd {H:Hp} {f b:Addr} {g:GK} {n:Nat} (s:Stp A H f b g n):∃ kvs,H b=some (.dT kvs):=by
 cases s with
 | cnt q x kvs hc num hl hs hg=>exact ⟨_,num.di⟩
 | wri kvs hc hb=>exact ⟨_,hb⟩
 | sur q kvs hc hb=>exact ⟨_,hb⟩
 | wi q m kvs h1 h2 hc hb hg=>exact ⟨_,hb⟩
 | wt q m kvs h1 h2 hc hb hg=>exact ⟨_,hb⟩
theorem Stp.nb {H:Hp} {f b z:Addr} {g:GK} {n:Nat} {o:HO} (s:Stp A H f b g n) (e:H z=some o) (h:∀ kvs,o≠ .dT kvs):z≠b:=fun q=>by
 subst q
 obtain ⟨kvs,w⟩:=s.bd
 rw [e] at w;exact h _ (Option.some.inj w)
theorem vp {m x:Int} (h1:1≤m) (h2:m≤9):0≤x%m∧x%m<9:=⟨Int.emod_nonneg _ (by omega),Int.lt_of_lt_of_le (Int.emod_lt_of_pos _ (by omega)) h2⟩
theorem FQ:∀ n:Fin 9,(((toString (((n:Nat):Int)):String):Str)).length=1∧bz ((toString (((n:Nat):Int)):String):Str)=true:=by decide +kernel
theorem oI {m:Int} {k:List Key} (h1:1≤m) (h2:m≤9):∃ z,mB m k=.inr z∧bz z=true∧z.length≤2∧((toString (fq k%m):String):Str).length=1:=by
 have b:=vp (x:=fq k) h1 h2
 obtain ⟨j,hj⟩:=Int.eq_ofNat_of_zero_le b.1
 have s:=FQ ⟨j,by omega⟩
 have s:((toString ((j:Nat):Int):String):Str).length=1∧bz ((toString ((j:Nat):Int):String):Str)=true:=s
 rw [← hj] at s
 refine ⟨_,rfl,gq (by decide +kernel) s.2,?_,s.1⟩
 show (Str.ofString "s" ++Str.ofString (toString (fq k%m))).cps.size≤2;have:=s.1;unfold Str.length at this;show ((Str.ofString "s").cps++(Str.ofString (toString (fq k%m))).cps).size≤2;rw [Array.size_append,this];decide
theorem jk {H : Hp} {f b p : Addr} {g : List Key → Option Key} {n : Nat} {k : List Key} {R : VK} (s : Stp A H f b g n) (hn : n ≤ 45000) (hp : H p = some (.tup (k.map kV))) (ok : okT k = true)
    (q : ∀ (v : Key) (H' : Hp) (g' : List Key → Option Key), aB b H H' → Stp A H' f b g' (n + 1) → Sub g g' → g' k = some v → cQ k v → R (kV v) H') : wY (gA K A) f [.ref p] H R E0 := by
  have s0 := s
  have hk := (fX ok).1
  have ll : ∀ kvs : List (List Key × Key), (cq kvs).length = kvs.length := fun kvs => by simp [cq]
  have p60 : (50000000 : Int) < 10 ^ 60 := by decide +kernel
  cases s with
  | wri kvs hc hb hg =>
    refine ⟨_, m0, _, _, hc, rfl, p, k, rfl, hc.cells.hide hp (fun _ z => nomatch z), ok, fun H' S => ?_⟩
    have S := aq.hide _ S
    exact q (.inr (eY k)) _ g (aB.same S) (s0.same (Nat.le_succ _) S) Sub.rfl' (by rw [hg]) ⟨mt (gr ok), lR (gr ok)⟩
  | cnt c x kvs hc num hl hs hg =>
    refine ⟨_, mS m0, _, _, hc, rfl, x, b, p, cq kvs, k, rfl, num.hide hc.cells, by rw [ll]; omega, hc.cells.hide hp (fun _ z => nomatch z), ok, fun H' S => ?_⟩
    obtain ⟨dx, hx⟩ := num.ob
    obtain ⟨kvs', v, H2, ev, eH, hb', keep, hl', hs', gv, sv, sub⟩ := nH k (.inl ((cq kvs).length : Int)) hs (show 0 ≤ _ ∧ _ < _ from ⟨by omega, by rw [ll]; omega⟩) num.di hc.cells H' S
    rw [show V.int ((cq kvs).length : Int) = kV (.inl ((cq kvs).length : Int)) from rfl, ev, eH]
    refine q v H2 (cF kvs') (fun x o n e => keep x o n e)
      (.cnt c x kvs' (hc.keep fun x φ e => keep x _ (cY e num.di (fun z => nomatch z)) e) ⟨⟨dx, keep _ _ (cY hx num.di (fun z => nomatch z)) hx⟩, hb'⟩ (by omega) hs' rfl) ?_ gv (gO hk sv)
    rw [hg]; exact sub
  | sur c kvs hc hb hl hs hg =>
    have bd : 0 ≤ 3 * ((cq kvs).length : Int) + 5 ∧ 3 * ((cq kvs).length : Int) + 5 < 10 ^ 60 := by rw [ll]; omega
    obtain ⟨kvs', v, H2, ev, eH, hb', keep, hl', hs', gv, sv, sub⟩ := nH k (.inl (3 * ((cq kvs).length : Int) + 5)) hs bd hb hc.cells _ (.refl _)
    refine ⟨_, mS (mS m0), _, _, hc, rfl, p, b, k, cq kvs, rfl, hc.cells.hide hp (fun _ z => nomatch z), hc.cells.hide hb (fun _ z => nomatch z), by rw [ll]; omega, ?_⟩
    dsimp only
    rw [show V.int (3 * ((cq kvs).length : Int) + 5) = kV (.inl (3 * ((cq kvs).length : Int) + 5)) from rfl, ev, eH]
    refine q v H2 (cF kvs') (fun x o n e => keep x o n e)
      (.sur c kvs' (hc.keep fun x φ e => keep x _ (cY e hb (fun z => nomatch z)) e) hb' (by omega) hs' rfl) ?_ gv (gO hk sv)
    rw [hg]; exact sub
  | wi c m kvs h1 h2 hc hb hg =>
    refine ⟨_, mS (mS (mS m0)), _, _, hc, rfl, p, m, k, rfl, h1, h2, hc.cells.hide hp (fun _ z => nomatch z), ok, ?_⟩
    have S := aq.hide [c] (.refl (cp [c] H))
    have b9 := vp (x := fq k) h1 h2
    exact q (.inl (fq k % m)) _ g (aB.same S) (s0.same (Nat.le_succ _) S) Sub.rfl' (by rw [hg]) (show 0 ≤ _ ∧ _ < _ from ⟨b9.1, by omega⟩)
  | wt c m kvs h1 h2 hc hb hg =>
    refine ⟨_, mS (mS (mS (mS m0))), _, _, hc, rfl, p, m, k, rfl, h1, h2, hc.cells.hide hp (fun _ z => nomatch z), ok, ?_⟩
    have S := aq.hide [c] (.refl (cp [c] H))
    obtain ⟨z, ez, za, zl, _⟩ := oI (k := k) h1 h2
    exact q (mB m k) _ g (aB.same S) (s0.same (Nat.le_succ _) S) Sub.rfl' (by rw [hg]) (gO hk (by rw [ez]; exact ⟨za, by omega⟩))
theorem Aw (K:W.Frag) (A:Adr):Ln (kW K A) 1:=by rintro vs H Q E ⟨p,k,rfl,_⟩;rfl
theorem DV (T : Txt K mg A) : Rd (kW K A) (Fv K A) ["_law_term", "_law_total", "_law_part", "_law_sign"] := by
  intro vs H Q E h
  obtain ⟨p, k, rfl, hp, ok, q⟩ := h
  refine ⟨p, rfl, .inr ⟨⟨_, SqT.of hp⟩, ?_⟩⟩
  refine yD (xs := k.map kV) (fun i σ H' => H' = H ∧ ∃ x2 x3, σ = [some (.ref p), some (.int ((k.take i).foldl mY 0)), x2, x3]) ⟨rfl, none, none, rfl⟩ ?_ ?_ ?_
  · rintro i σ _ _ ⟨rfl, _⟩; exact SqT.of hp
  · rintro i x σ _ hx ⟨rfl, x2, x3, rfl⟩
    obtain ⟨kk, hk, rfl⟩ := dq hx
    have okk : okP kk = true := lC ok (List.mem_of_getElem? hk)
    have st := ki mY 0 k i kk hk
    cases kk with
    | inl n =>
      refine ⟨by decide, "int", rfl, Sel.no rfl ⟨IntMulOk.of_right (by decide), by decide, rfl, some (.int n), x3, ?_⟩⟩
      rw [st]; rfl
    | inr z =>
      obtain ⟨hz, hl⟩ := Bool.and_eq_true_iff.mp okk
      have hl := of_decide_eq_true hl
      refine ⟨by decide, "str", rfl, Sel.yes rfl ⟨IntMulOk.of_right (by decide), .inl ⟨aK (by omega), IntMulOk.of_left (by decide), 6, rfl, .inr ⟨z, rfl, aK (by omega), sj hz _ _, ?_⟩⟩⟩⟩
      generalize ew : PySem.Txt.slice z none (some 6) = w
      refine BI (cD.str w) (fun j σ H' => H' = _ ∧ ∃ x3, σ = [some (.ref p), some (.int ((w.cps.toList.take j).foldl mD ((k.take i).foldl mY 0 * 7 + 3 * (z.length : Int)))), some (.str z), x3]) ⟨rfl, x3, rfl⟩ (fun _ _ _ _ _ => trivial) ?_ ?_
      · rintro j σ _ hj ⟨rfl, y3, rfl⟩
        refine ⟨IntMulOk.of_right (by decide), rfl, rfl, some (.str ⟨#[w.cps.getD j 0]⟩), ?_⟩
        have hj' : j < w.cps.size := hj
        rw [ki mD _ w.cps.toList j (w.cps.getD j 0) (by simp [hj', Array.getD_eq_getD_getElem?])]; rfl
      · rintro σ _ ⟨rfl, y3, rfl⟩
        refine ⟨by decide, rfl, some (.str z), y3, ?_⟩
        have e : w.cps.toList.take w.length = w.cps.toList := List.take_of_length_le (by simp [Str.length])
        rw [st, e]
        show _ = [_, some (V.int ((List.foldl mD _ (PySem.Txt.slice z none (some 6)).cps.toList) % 1000000007)), _, _]
        rw [ew]; rfl
  · rintro σ _ ⟨rfl, x2, x3, rfl⟩
    show Q (.int _) _
    have e : k.take (k.map kV).length = k := List.take_of_length_le (by simp)
    rw [e]; exact q
theorem DH (T:Txt K mg A) (a0 b0:V) (H:Hp) (Q:VK) (E:XK) (h:qD K A [a0,b0] H Q E):zm K A (dH ["_law_term", "_law_book"] [a0] [b0]) H Q:=by
 obtain ⟨p,b,k,kvs,e,hp,hb,hl,q⟩:=h
 cases e
 exact ⟨.inr (.inr (.inl ⟨rfl,.inr ⟨_,hb⟩⟩)),.inr ⟨b,kvs,rfl,hb,IntMulOk.of_left (by decide),b,.ref p,_,_,_,rfl,rfl,By hb hp hl,q⟩⟩
theorem Ed (T:Txt K mg A) (a0 b0:V) (H:Hp) (Q:VK) (E:XK) (h:qY K A [a0,b0] H Q E):Bt K A (dH ["_law_one", "_law_many"] [a0] [b0]) H Q:=by
 obtain ⟨p,m,k,e,h1,h2,hp,ok,q⟩:=h
 cases e
 exact ⟨p,k,rfl,hp,ok,by omega,q⟩
theorem CH (T:Txt K mg A) (a0 b0:V) (H:Hp) (Q:VK) (E:XK) (h:qA K A [a0,b0] H Q E):zA K A (dH ["_law_other", "_law_many"] [a0] [b0]) H Q:=by
 obtain ⟨p,m,k,e,h1,h2,hp,ok,q⟩:=h
 cases e
 have b:=vp (x:=fq k) h1 h2
 obtain ⟨_,_,_,_,s1⟩:=oI (k:=k) h1 h2
 exact ⟨p,k,rfl,hp,ok,by omega,iD b.1 (by omega),Nat.le_trans (Nat.add_le_add (Nat.le_refl 1) (Nat.le_of_eq s1)) (aK (by decide)),q⟩
theorem bI.kt {P:Addr} {H H':Hp} {ps:Array Value} (hP:H P=some (.tbl ps)) (k:bI P H H'):mZ A H H':=fun z o e n=>k z o e fun q=>by
 subst q;rw [hP] at e;cases e;exact n _ rfl
theorem zo (K:W.Frag) (A:Adr):Ln (mK K A) 0:=by rintro vs H Q E ⟨rfl,_⟩;rfl
theorem Dn (T:Txt K mg A) (hnd:([]:List Addr).Nodup) (vs:List V) (H:Hp) (Q:VK) (E:XK) (h:mK K A vs H Q E):As K A { nx:=fun σ H'=>(∀ p∈([]:List (Nat×Addr)),H' p.2=none)→Q .non (cE [] σ H'),rt:=fun σ v H'=>(∀ p∈([]:List (Nat×Addr)),H' p.2=none)→Q v (cE [] σ H') } (L2.bX [] vs) H:=by
 obtain ⟨rfl,hP,q⟩:=h
 refine ⟨#[],hP,trivial,.inl ⟨rfl,fun c f hc hf hne _=>?_⟩⟩
 have cP:=bU hP hc
 have fP:=bU hP hf
 have c1:∀ o,upd H A.t_47 o c=none:=fun o=>by rw [ak cP];exact hc
 have f1:∀ o,upd (upd H A.t_47 o) c (cU c ed.qual) f=none:=fun o=>by rw [ak (Ne.symm hne),ak fP];exact hf
 exact q f _ (bI.tab.trans ((bI.new (c1 _)).trans (bI.new (f1 _)))) ⟨⟨c,af,(ak hne).trans af⟩,.nil⟩
theorem Br (K:W.Frag) (A:Adr):Ln (mM K A) 1:=by rintro vs H Q E ⟨c,rfl,_⟩;rfl
theorem Ep (T:Txt K mg A) (q0 q1:Addr) (hnd:([q0,q1]:List Addr).Nodup) (vs:List V) (H:Hp) (Q:VK) (E:XK) (h:mM K A vs H Q E):BX K A q0 q1 { nx:=fun σ H'=>(∀ p∈([(1,q0),(2,q1)]:List (Nat×Addr)),H' p.2=none)→Q .non (cE [(1,q0),(2,q1)] σ H'),rt:=fun σ v H'=>(∀ p∈([(1,q0),(2,q1)]:List (Nat×Addr)),H' p.2=none)→Q v (cE [(1,q0),(2,q1)] σ H') } (L2.bX ["_law_cell", "_law_book", "_law_many"] vs) H:=by
 obtain ⟨c,rfl,⟨tw,t0,t1,tn⟩,q⟩:=h
 have n01:q0≠q1:=fun e=>by simp [e] at hnd
 refine .inr fun b hb=>⟨⟨by decide,by decide⟩,by decide,?_⟩
 have m1:1≤1+c/5%9:=by omega
 have m2:1+c/5%9≤9:=by omega
 have bP:b≠A.t_29:=bU t1 hb
 have bC:b≠A.t_37:=bU t0 hb
 have S1:=aq.upd (o:=.dT []) hb
 have hP:=S1 _ _ t1
 have hb1:upd H b (.dT []) b=some (.dT []):=af
 generalize upd H b (.dT [])=H1 at S1 hP hb1
 have K1:mZ A H H1:=fun z o e _=>S1 z o e
 have fin:∀ (H4:Hp),(∀ p∈([(1,q0),(2,q1)]:List (Nat×Addr)),H4 p.2=none)→aq H4 (upd (upd H4 q0 (bO q0 (.ref b))) q1 (bO q1 (.int (1+c/5%9))))∧upd (upd H4 q0 (bO q0 (.ref b))) q1 (bO q1 (.int (1+c/5%9))) q0=some (bO q0 (.ref b))∧upd (upd H4 q0 (bO q0 (.ref b))) q1 (bO q1 (.int (1+c/5%9))) q1=some (bO q1 (.int (1+c/5%9))):=fun H4 hq=>by
   have a0:H4 q0=none:=hq (1,q0) (by simp)
   have a1:H4 q1=none:=hq (2,q1) (by simp)
   refine ⟨(aq.upd a0).trans (aq.upd (by rw [ak (Ne.symm n01)];exact a1)),by rw [ak n01,af],af⟩
 have made:∀ (t:cA) (cs:List Addr) (o2:HO) (cc f:Addr),H1 cc=none→H1 f=none→cc≠f→mZ A H (upd (upd (upd H1 A.t_29 o2) cc (cU cc t.qual)) f (dj f t cs cc))∧upd (upd (upd H1 A.t_29 o2) cc (cU cc t.qual)) f (dj f t cs cc) b=some (.dT [])∧upd (upd (upd H1 A.t_29 o2) cc (cU cc t.qual)) f (dj f t cs cc) f=some (dj f t cs cc)∧upd (upd (upd H1 A.t_29 o2) cc (cU cc t.qual)) f (dj f t cs cc) cc=some (cU cc t.qual):=fun t cs o2 cc f hc hf hne=>by
   have cP:=bU hP hc
   have fP:=bU hP hf
   have kk:∀ z o,H1 z=some o→z≠A.t_29→upd (upd (upd H1 A.t_29 o2) cc (cU cc t.qual)) f (dj f t cs cc) z=some o:=fun z o e n=>by
    rw [ak (ar e hf),ak (ar e hc),ak n];exact e
   refine ⟨fun z o e n=>kk z o (K1 z o e n) fun q=>by subst q;rw [t1] at e;cases e;exact n _ rfl,kk _ _ hb1 bP,af,by rw [ak hne,af]⟩
 have bW:b≠A.t_47:=bU tw hb
 refine ⟨by decide,Sel.dec (fun h=>?_) (fun h=>?_)⟩
 · refine ⟨rfl,S1 _ _ tw,fun f H2 k2 ca hq=>?_⟩
   obtain ⟨S,_,_⟩:=fin H2 hq
   exact q f b _ _ (fun z o e n=>S _ _ (bI.kt (A:=A) (S1 _ _ tw) k2 z o (K1 z o e n) n)) (.wri [] (ca.keep fun z φ e=>S z _ e) (S _ _ (k2 _ _ hb1 bW)) rfl)
 refine ⟨by decide,Sel.dec (fun h=>?_) (fun h=>?_)⟩
 · refine ⟨rfl,⟨#[],S1 _ _ t0,.inl rfl⟩,fun f b' g H2 k2 tb2 hb2 s2 hq=>?_⟩
   obtain ⟨S,_,_⟩:=fin H2 hq
   exact q f b' g _ (fun z o e n=>S _ _ (bI.kt (A:=A) (S1 _ _ t0) k2 z o (K1 z o e n) n)) (s2.same (Nat.le_refl _) S)
 refine ⟨by decide,Sel.dec (fun h=>?_) (fun h=>?_)⟩
 · refine ⟨#[],hP,trivial,.inl ⟨rfl,fun cc f hc hf hne hq=>?_⟩⟩
   obtain ⟨k,e1,e2,e3⟩:=made eJ [q0] _ cc f hc hf hne
   obtain ⟨S,c0,c1⟩:=fin _ hq
   exact q f b (cF []) _ (fun z o e n=>S _ _ (k z o e n)) (.sur q0 [] ⟨⟨cc,S _ _ e2,S _ _ e3⟩,.cons c0 .nil⟩ (S _ _ e1) (Nat.zero_le _) nW rfl)
 refine ⟨by decide,Sel.dec (fun h=>?_) (fun h=>?_)⟩
 · refine ⟨#[],hP,trivial,.inl ⟨rfl,fun cc f hc hf hne hq=>?_⟩⟩
   obtain ⟨k,e1,e2,e3⟩:=made eE [q1] _ cc f hc hf hne
   obtain ⟨S,c0,c1⟩:=fin _ hq
   exact q f b _ _ (fun z o e n=>S _ _ (k z o e n)) (.wi q1 _ [] m1 m2 ⟨⟨cc,S _ _ e2,S _ _ e3⟩,.cons c1 .nil⟩ (S _ _ e1) rfl)
 · refine ⟨#[],hP,trivial,.inl ⟨rfl,fun cc f hc hf hne hq=>?_⟩⟩
   obtain ⟨k,e1,e2,e3⟩:=made eM [q1] _ cc f hc hf hne
   obtain ⟨S,c0,c1⟩:=fin _ hq
   exact q f b _ _ (fun z o e n=>S _ _ (k z o e n)) (.wt q1 _ [] m1 m2 ⟨⟨cc,S _ _ e2,S _ _ e3⟩,.cons c1 .nil⟩ (S _ _ e1) rfl)
theorem zN (K:W.Frag) (A:Adr):Ln (ji K A) 3:=by rintro vs H Q E ⟨b,k,d,rfl,_⟩;rfl
theorem DF (T:Txt K mg A):Rd (ji K A) (FE K A) ["bits", "key", "depth"]:=by
 intro vs H Q E h
 obtain ⟨b,k,d,rfl,hd,q⟩:=h
 exact ⟨by omega,q⟩
theorem Cf (K:W.Frag) (A:Adr):Ln (gC K A) 3:=by rintro vs H Q E ⟨b,k,d,rfl,_⟩;rfl
theorem DA (T:Txt K mg A):Rd (gC K A) (FK K A) ["bits", "key", "depth"]:=by
 intro vs H Q E h
 obtain ⟨b,k,d,rfl,hd,k0,q⟩:=h
 refine ⟨by omega,?_⟩
 show Q (.int (Builtin.bitAnd (k/2^(b - d - 1).toNat) 1)) H
 have h0:0≤k/2^(b - d - 1).toNat:=Int.ediv_nonneg k0 (Int.le_of_lt (vM _))
 obtain ⟨y,hy⟩:=Int.eq_ofNat_of_zero_le h0
 rw [hy] at q ⊢
 rw [qJ]
 have:((y%2:Nat):Int)=(y:Int)%2:=by omega
 rw [this];exact q
theorem oN {b x y c:Nat} (hx:x<2^b) (hy:y<2^b) (h:lw b x y c):(b:Int) - (Builtin.Int.intBits (((x^^^y:Nat)):Int):Int)=(c:Int):=by
 obtain ⟨hc,he,hd⟩:=h
 have lt:x^^^y<2^(b - c):=by
   have h1:(x^^^y)/2^(b - c)=0:=by
     rw [← Nat.shiftRight_eq_div_pow,Nat.shiftRight_xor_distrib,Nat.shiftRight_eq_div_pow,Nat.shiftRight_eq_div_pow,he,Nat.xor_self]
   rcases (Nat.div_eq_zero_iff.mp h1) with h | h
   · have:=Nat.two_pow_pos (b - c);omega
   · exact h
 unfold Builtin.Int.intBits
 by_cases h0:x^^^y=0
 · rw [h0]
   have hxy:x=y:=xor_zero h0
   rcases hd with rfl | hd
   · simp
   · exact (hd (by rw [hxy])).elim
 · rw [if_neg (by simpa using h0)]
   rcases hd with rfl | hd
   · simp at lt;omega
   · by_cases hcb:c=b
     · subst hcb;simp at lt;omega
     have ge:2^(b - (c+1))≤x^^^y:=by
       apply Classical.byContradiction
       intro hn
       apply hd
       have h1:(x^^^y)/2^(b - (c+1))=0:=Nat.div_eq_of_lt (by omega)
       rw [← Nat.shiftRight_eq_div_pow,Nat.shiftRight_xor_distrib,Nat.shiftRight_eq_div_pow,Nat.shiftRight_eq_div_pow] at h1
       exact xor_zero h1
     have hl:(x^^^y).log2=b - (c+1):=by
       rw [Nat.log2_eq_iff h0]
       exact ⟨ge,by rw [show b - (c+1)+1=b - c by omega];exact lt⟩
     rw [Int.natAbs_natCast,hl]
     omega
theorem Cd (K:W.Frag) (A:Adr):Ln (kU K A) 3:=by rintro vs H Q E ⟨b,_,_,_,rfl,_⟩;rfl
theorem DY (T:Txt K mg A):Rd (kU K A) (FN K A) ["bits", "one", "other"]:=by
 intro vs H Q E h
 obtain ⟨b,x,y,c,rfl,hx,hy,hc,q⟩:=h
 refine ⟨rfl,?_⟩
 show Q (.int ((b:Int) - (Builtin.Int.intBits (Builtin.bitXor x y):Int))) H
 rw [ku,oN hx hy hc]
 exact q
theorem nR (B k d:Nat):kZ (B:Int) (k:Int) (d:Int)=((st B k d:Nat):Int):=by
 unfold kZ st
 rw [show ((B:Int) - (d:Int)).toNat=B - d by omega,←je,←Int.natCast_ediv]
theorem kf {B k d:Nat} (h:d<B):(k:Int)/2^((B:Int) - (d:Int) - 1).toNat%2=((sd B k d:Nat):Int):=by
 unfold sd
 rw [show ((B:Int) - (d:Int) - 1).toNat=B - 1 - d by omega,←je]
 omega
def knO (o:HO):Prop:=(∃ xs,o=.tup xs)∨∃ C dx t m fs,o=HO.ins C dx ((("term" :Str),t)::(("mark" :Str),m)::fs)
theorem KnA.keep {H H':Hp} {g g':GK} {x:Addr} {t:Kn Str} {m:Key} (h:KnA A H g x t m) (k:∀ z o,H z=some o→knO o→H' z=some o) (s:Sub g g'):KnA A H' g' x t m:=by
 induction h with
 | bare o ht hm ok sz=>exact .bare (k _ _ o (.inr ⟨_,_,_,_,_,rfl⟩)) (k _ _ ht (.inl ⟨_,rfl⟩)) (s _ _ hm) ok sz
 | leaf o ht hm ok sz hz=>exact .leaf (k _ _ o (.inr ⟨_,_,_,_,_,rfl⟩)) (k _ _ ht (.inl ⟨_,rfl⟩)) (s _ _ hm) ok sz hz
 | fork o hl hr ht hm ok sz ih1 ih2=>exact .fork (k _ _ o (.inr ⟨_,_,_,_,_,rfl⟩)) ih1 ih2 (k _ _ ht (.inl ⟨_,rfl⟩)) (s _ _ hm) ok sz
theorem knO.dT {kvs:List (List Key×V)} (h:knO (.dT kvs)):False:=by rcases h with ⟨_,h⟩ | ⟨_,_,_,_,_,h⟩ <;> cases h
theorem knO.nil {C dx:Addr} (h:knO (.ins C dx [])):False:=by rcases h with ⟨_,h⟩ | ⟨_,_,_,_,_,h⟩ <;> cases h
theorem aB.kn {H H':Hp} {f b:Addr} {g:GK} {n:Nat} (s:Stp A H f b g n) (k:aB b H H'):∀ z o,H z=some o→knO o→H' z=some o:=fun z o e h=>k z o (s.nb e fun kvs q=>by subst q;exact h.dT) e
theorem iZ.kn {H H':Hp} {f b x:Addr} {g:GK} {n:Nat} {u:HO} (s:Stp A H f b g n) (k:iZ b x H H') (hx:H x=some u) (hu:¬ knO u):∀ z o,H z=some o→knO o→H' z=some o:=fun z o e h=>k z o (s.nb e fun kvs q=>by subst q;exact h.dT) (fun q=>by subst q;rw [hx] at e;cases e;exact hu h) e
theorem KnA.kb {H H':Hp} {g g':GK} {f b x:Addr} {t:Kn Str} {m:Key} {n:Nat} (h:KnA A H g x t m) (s:Stp A H f b g n) (k:aB b H H') (sub:Sub g g'):KnA A H' g' x t m:=h.keep (aB.kn s k) sub
theorem KnA.same {H H':Hp} {g:GK} {x:Addr} {t:Kn Str} {m:Key} (h:KnA A H g x t m) (S:aq H H'):KnA A H' g x t m:=h.keep (fun z o e _=>S z o e) Sub.rfl'
theorem KnA.ok {H:Hp} {g:GK} {x:Addr} {t:Kn Str} {m:Key} (h:KnA A H g x t m):okP m=true∧szK m≤szN t:=by cases h <;> exact ⟨‹_›,‹_›⟩
theorem KnA.ob {H:Hp} {g:GK} {x:Addr} {t:Kn Str} {m:Key} (h:KnA A H g x t m):∃ dx p fs,H x=some (.ins (clK A t) dx ((("term" :Str),.ref p)::(("mark" :Str),kV m)::fs))∧∀ nm:Str,(nm= "found" ∨nm= "rows" ∨nm= "with_key" ∨nm= "without")→((("term" :Str),V.ref p)::(("mark" :Str),kV m)::fs).lookup nm=none:=by
 cases h with
 | bare o _ _ _ _=>exact ⟨_,_,_,o,fun nm hn=>by rcases hn with rfl | rfl | rfl | rfl <;> rfl⟩
 | leaf o _ _ _ _ _=>exact ⟨_,_,_,o,fun nm hn=>by rcases hn with rfl | rfl | rfl | rfl <;> rfl⟩
 | fork o _ _ _ _ _ _=>exact ⟨_,_,_,o,fun nm hn=>by rcases hn with rfl | rfl | rfl | rfl <;> rfl⟩
theorem jc (T:Txt K mg A) (t:Kn Str):Cls K (clK A t)∧bp K (clK A t) "mark" ∧bp K (clK A t) "term" :=by
 cases t
 · exact ⟨T.cl_Bare,T.na_Bare_mark,T.na_Bare_term⟩
 · exact ⟨T.cl_Leaf,T.na_Leaf_mark,T.na_Leaf_term⟩
 · exact ⟨T.cl_Fork,T.na_Fork_mark,T.na_Fork_term⟩
theorem wu:okP (.inr "bare")=true∧okP (.inr "leaf")=true∧okP (.inr "fork")=true:=by refine ⟨?_,?_,?_⟩ <;> decide +kernel
theorem BN:szK (.inr "bare")=66∧szK (.inr "leaf")=66∧szK (.inr "fork")=66:=by refine ⟨?_,?_,?_⟩ <;> decide +kernel
theorem okN {i:Int} (h0:0≤i) (h:i<2^60):okP (.inl i)=true:=by
 have p60:(2:Int)^60<10^60:=by decide +kernel
 exact decide_eq_true ⟨h0,by omega⟩
theorem okZ {z:Str} (h:bE z):okP (.inr z)=true:=by
 show (bz z&&decide (z.length≤100000))=true
 rw [h.1,decide_eq_true (by have:=h.2;omega)];rfl
theorem nN {w:Str} {k:List Key} (hw:okP (.inr w)=true) (hk:∀ x∈k,okP x=true) (hl:k.length≤7):okT (.inr w::k)=true:=by
 unfold okT
 refine Bool.and_eq_true_iff.mpr ⟨Bool.and_eq_true_iff.mpr ⟨decide_eq_true ⟨by simp,by simp;omega⟩,rfl⟩,?_⟩
 rw [List.all_cons,hw]
 exact List.all_eq_true.mpr hk
theorem xb:okT brT=true:=nN wu.1 (fun _ h=>nomatch h) (Nat.zero_le _)
theorem iV {k:Nat} (h:k<2^60):okP (.inl (k:Int))=true:=okN (by omega) (by omega)
theorem kH {k:Nat} {z:Str} (h:k<2^60) (hz:bE z):okT (lfT k z)=true:=nN wu.2.1 (fun x hx=>by
 rcases List.mem_cons.mp hx with rfl | hx
 · exact iV h
 · rw [List.mem_singleton.mp hx];exact okZ hz) (show 2≤7 by decide)
theorem xy {d b:Nat} {l r:Key} (hd:d<60) (hb:b<2^60) (hl:okP l=true) (hr:okP r=true):okT (fkT d b l r)=true:=nN wu.2.2 (fun x hx=>by
 rcases List.mem_cons.mp hx with rfl | hx
 · exact iV (by omega)
 · rcases List.mem_cons.mp hx with rfl | hx
   · exact iV hb
   · rcases List.mem_cons.mp hx with rfl | hx
     · exact hl
     · rw [List.mem_singleton.mp hx];exact hr) (show 4≤7 by decide)
theorem gd {k : List Key} {v : Key} {n : Nat} (h : cQ k v) (hn : szT k ≤ n) (h2 : n + 62 ≤ 100000) : okP v = true ∧ szK v ≤ n + 62 := by
  cases v with
  | inl i => exact ⟨decide_eq_true h, by show 62 ≤ _; omega⟩
  | inr z =>
    have := h.2
    refine ⟨?_, by show z.length + 62 ≤ _; omega⟩
    show (bz z && decide (z.length ≤ 100000)) = true
    rw [h.1, decide_eq_true (by omega)]; rfl
theorem my {k:Nat} {z:Str} (hz:bE z):szT (lfT k z)≤250:=by
 have:=hz.2
 show szK (.inr "leaf")+(62+(z.length+62+0))≤_
 rw [BN.2.1];omega
theorem xq {d b:Nat} {l r:Key}:szT (fkT d b l r)=190+szK l+szK r:=by
 show szK (.inr "fork")+(62+(62+(szK l+(szK r+0))))=_
 rw [BN.2.2];omega
theorem lK {i:Nat} {σ:L2.St} {H:Hp} {Q:List V→Hp→Prop} {v:V} (h:σ[i]?=some (some v)) (q:Q [v] H):ac (ae i) ai σ H Q:=by
 show (match σ[i]? with | some (some v)=>ai σ H fun xs H2=>Q (v::xs) H2 | _=>False)
 rw [h];exact q
theorem AN (K:W.Frag) (A:Adr):Ln (gW K A) 3:=by rintro vs H Q E ⟨x,dx,C,f,b,p,g,n,k,rfl,_⟩;rfl
theorem Dz (T:Txt K mg A):Rd (gW K A) (Gj K A) ["self", "stamper", "term"]:=by
 intro vs H Q E h
 obtain ⟨x,dx,C,f,b,p,g,n,k,rfl,hx,cl,n1,n2,s,hn,hp,ok,q⟩:=h
 refine ⟨x,C,dx,[],rfl,hx,cl,n1,by decide,?_⟩
 have s1:Stp A (upd H x (.ins C dx (cm "term" (.ref p) []))) f b g n:=s.put (Nat.le_refl _) hx fun v z=>nomatch z
 have px:p≠x:=cY hp hx (fun z=>nomatch z)
 refine ⟨f,rfl,s1.clo,lK (v:=.ref p) rfl ?_⟩
 refine jk s1 hn (by rw [ak px];exact hp) ok fun v H2 g2 kb s2 sub gv st=>?_
 have hx1:upd H x (.ins C dx (cm "term" (.ref p) [])) x=some (.ins C dx [(("term" :Str),.ref p)]):=af
 have hx2:=kb _ _ (s1.nb hx1 fun _ z=>nomatch z) hx1
 refine ⟨x,C,dx,[(("term" :Str),.ref p)],rfl,hx2,cl,n2,by show 1<1000;decide,q v g2 _ (fun z o zb zx e=>?_) af (s2.put (Nat.le_refl _) hx2 fun v z=>?_) sub gv st⟩
 · rw [ak zx];exact kb _ _ zb (by rw [ak zx];exact e)
 · injection z with z;injection z with z;exact absurd z (by decide)
theorem Di (K:W.Frag) (A:Adr):Ln (lq K A) 2:=by rintro vs H Q E ⟨x,dx,f,b,g,n,rfl,_⟩;rfl
theorem EO (T:Txt K mg A):Rd (lq K A) (T_0 K A) ["self", "stamper"]:=by
 intro vs H Q E h
 obtain ⟨x,dx,f,b,g,n,rfl,hx,s,hn,q⟩:=h
 refine ⟨by show 1≤sizeLine;decide,fun p hp=>?_⟩
 have S:=aq.upd (o:=.tup [.str "bare"]) hp
 refine ⟨x,dx,A.c_Bare,f,b,p,g,n,brT,rfl,S _ _ hx,T.cl_Bare,T.na_Bare_term,T.na_Bare_mark,s.same (Nat.le_refl _) S,hn,af,xb,fun m g' H' k o s' sub gm st=>?_⟩
 obtain ⟨ok,sz⟩:=gd (n:=130) st (by decide +kernel) (by decide)
 have px:p≠x:=Ne.symm (ar hx hp)
 have s1:=s.same (Nat.le_refl n) S
 exact q m g' H' (fun z u zb zx e=>k z u zb zx (S _ _ e)) (.bare o (k _ _ (s1.nb (o:=.tup (brT.map kV)) af fun _ z=>nomatch z) px af) gm ok (by omega)) s' sub
theorem zw (K:W.Frag) (A:Adr):Ln (dY K A) 4:=by rintro vs H Q E ⟨x,dx,f,b,g,n,k,z,rfl,_⟩;rfl
theorem Ez (T:Txt K mg A):Rd (dY K A) (FX K A) ["self", "stamper", "key", "value"]:=by
 intro vs H Q E h
 obtain ⟨x,dx,f,b,g,n,kk,z,rfl,hx,s,hn,k60,hz,q⟩:=h
 refine ⟨by show 3≤sizeLine;decide,fun p hp=>?_⟩
 have S:=aq.upd (o:=.tup [.str "leaf",.int (kk:Int),.str z]) hp
 refine ⟨x,dx,A.c_Leaf,f,b,p,g,n,lfT kk z,rfl,S _ _ hx,T.cl_Leaf,T.na_Leaf_term,T.na_Leaf_mark,s.same (Nat.le_refl _) S,hn,af,kH k60 hz,fun m g' H' k o s' sub gm st=>?_⟩
 obtain ⟨ok,sz⟩:=gd (n:=250) st (my hz) (by decide)
 have px:p≠x:=Ne.symm (ar hx hp)
 have s1:=s.same (Nat.le_refl n) S
 have hp':=k _ _ (s1.nb (o:=.tup ((lfT kk z).map kV)) af fun _ z=>nomatch z) px af
 refine ⟨x,A.c_Leaf,dx,_,rfl,o,T.cl_Leaf,T.na_Leaf_key,by show 2<1000;decide,?_⟩
 refine ⟨x,A.c_Leaf,dx,_,rfl,af,T.cl_Leaf,T.na_Leaf_text,by show 3<1000;decide,?_⟩
 rw [dm]
 have e:cm "text" (.str z) (cm "key" (.int (kk:Int)) [("term",.ref p),("mark",kV m)])=([("term",.ref p),("mark",kV m),("key",.int (kk:Int)),("text",.str z)]:List (Str×V)):=rfl
 rw [e]
 refine q m g' _ (fun y u yb yx e=>by rw [ak yx];exact k y u yb yx (S _ _ e)) (.leaf af (by rw [ak px];exact hp') gm ok (by omega) hz) (s'.put (Nat.le_refl _) o fun v z=>?_) sub
 injection z with z;injection z with z;exact absurd z (by decide)
theorem DO (K:W.Frag) (A:Adr):Ln (gZ K A) 6:=by rintro vs H Q E ⟨x,dx,f,b,l,r,g,n,d,e,tl,tr,ml,mr,rfl,_⟩;rfl
theorem Gd (T:Txt K mg A):Rd (gZ K A) (T_5 K A) ["self", "stamper", "depth", "begin", "left", "right"]:=by
 intro vs H Q E h
 obtain ⟨x,dx,f,b,l,r,g,n,d,e,tl,tr,ml,mr,rfl,hx,s,hn,d60,e60,kl,kr,szs,q⟩:=h
 obtain ⟨dl,pl,fl,ol,_⟩:=kl.ob
 obtain ⟨dr,pr,fr,or',_⟩:=kr.ob
 refine ⟨l,_,dl,_,_,rfl,ol,(jc T tl).1,(jc T tl).2.1,rfl,r,_,dr,_,_,rfl,or',(jc T tr).1,(jc T tr).2.1,rfl,by show 5≤sizeLine;decide,fun p hp=>?_⟩
 have S:=aq.upd (o:=.tup [.str "fork",.int (d:Int),.int (e:Int),kV ml,kV mr]) hp
 refine ⟨x,dx,A.c_Fork,f,b,p,g,n,fkT d e ml mr,rfl,S _ _ hx,T.cl_Fork,T.na_Fork_term,T.na_Fork_mark,s.same (Nat.le_refl _) S,hn,af,xy d60 e60 kl.ok.1 kr.ok.1,fun m g' H' k o s' sub gm st=>?_⟩
 have zl:=kl.ok.2
 have zr:=kr.ok.2
 obtain ⟨ok,sz⟩:=gd (n:=190+szK ml+szK mr) st (Nat.le_of_eq xq) (by omega)
 have px:p≠x:=Ne.symm (ar hx hp)
 have s1:=s.same (Nat.le_refl n) S
 have hp':=k _ _ (s1.nb (o:=.tup ((fkT d e ml mr).map kV)) af fun _ z=>nomatch z) px af
 have kn:=iZ.kn s1 k (S _ _ hx) knO.nil
 refine ⟨x,A.c_Fork,dx,_,rfl,o,T.cl_Fork,T.na_Fork_depth,by show 2<1000;decide,?_⟩
 refine ⟨x,A.c_Fork,dx,_,rfl,af,T.cl_Fork,T.na_Fork_begin,by show 3<1000;decide,?_⟩
 refine ⟨x,A.c_Fork,dx,_,rfl,af,T.cl_Fork,T.na_Fork_left,by show 4<1000;decide,?_⟩
 refine ⟨x,A.c_Fork,dx,_,rfl,af,T.cl_Fork,T.na_Fork_right,by show 5<1000;decide,?_⟩
 rw [dm,dm,dm]
 have ef:cm "right" (.ref r) (cm "left" (.ref l) (cm "begin" (.int (e:Int)) (cm "depth" (.int (d:Int)) [("term",.ref p),("mark",kV m)])))=([("term",.ref p),("mark",kV m),("depth",.int (d:Int)),("begin",.int (e:Int)),("left",.ref l),("right",.ref r)]:List (Str×V)):=rfl
 rw [ef]
 have up:∀ z u,H z=some u→knO u→upd H' x (.ins A.c_Fork dx [("term",.ref p),("mark",kV m),("depth",.int (d:Int)),("begin",.int (e:Int)),("left",.ref l),("right",.ref r)]) z=some u:=fun z u ez hu=>by
  rw [ak (fun q=>by subst q;rw [hx] at ez;cases ez;exact knO.nil hu)]
  exact kn z u (S _ _ ez) hu
 refine q m g' _ (fun y u yb yx e=>by rw [ak yx];exact k y u yb yx (S _ _ e)) (.fork af (kl.keep up sub) (kr.keep up sub) (by rw [ak px];exact hp') gm ok (by show _≤300+szN tl+szN tr;omega)) (s'.put (Nat.le_refl _) o fun v z=>?_) sub
 injection z with z;injection z with z;exact absurd z (by decide)
theorem nj {B d key:Nat} {z:Str} {t:Kn Str}:szN (dN B d key z t)=700+szN t:=by
 unfold dN;split
 · show 300+400+szN t=_;omega
 · show 300+szN t+400=_;omega
theorem gX {B key : Nat} {z : Str} : ∀ t : Kn Str, szN (bG B key z t) ≤ szN t + 700
  | .bare => by show 400 ≤ 200 + 700; omega
  | .leaf k t => by
    unfold bG; split
    · show 400 ≤ 400 + 700; omega
    · rw [nj]; omega
  | .fork d b l r => by
    have h1 := gX (B := B) (key := key) (z := z) l
    have h2 := gX (B := B) (key := key) (z := z) r
    unfold bG; split
    · split <;> (show 300 + _ + _ ≤ 300 + _ + _ + 700; omega)
    · rw [nj]; omega
theorem eI {B key : Nat} : ∀ t : Kn Str, szN (aL B key t) ≤ szN t
  | .bare => Nat.le_refl _
  | .leaf k t => by
    unfold aL; split
    · show 200 ≤ 400; omega
    · exact Nat.le_refl _
  | .fork d b l r => by
    have h1 := eI (B := B) (key := key) l
    have h2 := eI (B := B) (key := key) r
    have e : szN (.fork d b l r) = 300 + szN l + szN r := rfl
    unfold aL; split
    · cases q : aL B key l with
      | bare => show szN r ≤ _; omega
      | leaf _ _ => rw [q] at h1; show 300 + _ + _ ≤ _; omega
      | fork _ _ _ _ => rw [q] at h1; show 300 + _ + _ ≤ _; omega
    · cases q : aL B key r with
      | bare => show szN l ≤ _; omega
      | leaf _ _ => rw [q] at h2; show 300 + _ + _ ≤ _; omega
      | fork _ _ _ _ => rw [q] at h2; show 300 + _ + _ ≤ _; omega
theorem WF.szN {B : Nat} : ∀ {t : Kn Str} {d0 b0 : Nat}, WF B d0 b0 t → szN t + 300 ≤ 700 * (au t).length
  | .bare, _, _, h => h.elim
  | .leaf _ _, _, _, _ => by show 400 + 300 ≤ 700 * 1; omega
  | .fork d b l r, _, _, h => by
    have a := WF.szN h.2.2.2.1
    have b' := WF.szN h.2.2.2.2
    have e : (au (.fork d b l r)).length = (au l).length + (au r).length := List.length_append
    show 300 + Rs.szN l + Rs.szN r + 300 ≤ _
    rw [e]; omega
theorem WFo.szN {B:Nat} {t:Kn Str} (h:WFo B t):szN t≤700*(au t).length+200:=by
 rcases h with rfl | h
 · exact Nat.le_refl _
 · have:=h.szN;omega
theorem WFo.lt {B:Nat} {t:Kn Str} (h:WFo B t):∀ p∈au t,p.1<2^B:=by
 rcases h with rfl | h
 · exact fun _ z=>nomatch z
 · exact fun p hp=>(h.mem (Nat.zero_le _) p hp).1
theorem WFo.with {B key:Nat} {z:Str} {t:Kn Str} (h:WFo B t) (hk:key<2^B):WFo B (bG B key z t)∧∀ k,ax B k (bG B key z t)=if k=key then some z else ax B k t:=by
 rcases h with rfl | h
 · exact ⟨.inr ⟨hk,Nat.div_eq_of_lt (by simpa using hk)⟩,fun k=>rfl⟩
 · have e:st B key 0=0:=Nat.div_eq_of_lt (by simpa using hk)
   obtain ⟨a,b⟩:=jI (x:=z) hk (Nat.zero_le _) h e
   exact ⟨.inr a,b⟩
theorem WFo.without {B key:Nat} {t:Kn Str} (h:WFo B t):WFo B (aL B key t)∧∀ k,ax B k (aL B key t)=if k=key then none else ax B k t:=by
 rcases h with rfl | h
 · exact ⟨.inl rfl,fun k=>by show none=_;split <;> rfl⟩
 · exact fV (Nat.zero_le _) h
theorem WFo.up {B:Nat} {t:Kn Str} (h:WFo B t):dX (au t)∧∀ k,ax B k t=look k (au t):=by
 rcases h with rfl | h
 · exact ⟨.nil,fun _=>rfl⟩
 · exact ⟨h.up,fun k=>bY h⟩
theorem io {B key d b:Nat} {l r:Kn Str}:aL B key (.fork d b l r)=if sd B key d=0 then (if kdK (aL B key l)=0 then r else .fork d b (aL B key l) r) else (if kdK (aL B key r)=0 then l else .fork d b l (aL B key r)):=by
 rw [aL]
 split
 · cases aL B key l <;> rfl
 · cases aL B key r <;> rfl
theorem KnQ.le {H:Hp} {f b:Addr} {g:GK} {n c c':Nat} {t:Kn Str} {Q:VK} (h:KnQ A H f b g n c' t Q) (hc:c≤c'):KnQ A H f b g n c t Q:=fun y m g' H' kb k s sub=>h y m g' H' kb k (s.same (by omega) aq.rfl') sub
theorem bB {H:Hp} {x dx:Addr} {o u:HO} (hx:H x=none) (hdx:H dx=none) (ne:dx≠x):aq H (upd (upd H dx o) x u):=(aq.upd hdx).trans (aq.upd (by rw [ak (Ne.symm ne)];exact hx))
theorem nk {H:Hp} {x dx f b C:Addr} {g:GK} {n:Nat} {t:Kn Str} {Q:VK} (hx:H x=none) (hdx:H dx=none) (ne:dx≠x) (q:KnQ A H f b g n 1 t Q):InQ A (upd (upd H dx (.own x)) x (.ins C dx [])) x f b g n t (fun v H2=>v=.non∧Q (.ref x) H2):=
 fun m g' H' k kn s sub=>⟨rfl,q x m g' H' (fun z o zb e=>k z o zb (ar e hx) (bB hx hdx ne _ _ e)) kn s sub⟩
theorem yC {H:Hp} {x dx f b:Addr} {g:GK} {n k:Nat} {z:Str} {Q:VK} {E:XK} (hx:H x=none) (hdx:H dx=none) (ne:dx≠x) (s:Stp A H f b g n) (hn:n≤45000) (hk:k<2^60) (hz:bE z) (q:KnQ A H f b g n 1 (.leaf k z) Q):
  dY K A [.ref x,.ref f,.int (k:Int),.str z] (upd (upd H dx (.own x)) x (.ins A.c_Leaf dx [])) (fun v H2=>v=.non∧Q (.ref x) H2) E:=
 ⟨x,dx,f,b,g,n,k,z,rfl,af,s.same (Nat.le_refl _) (bB hx hdx ne),hn,hk,hz,nk hx hdx ne q⟩
theorem yc {H:Hp} {x dx f b:Addr} {g:GK} {n:Nat} {Q:VK} {E:XK} (hx:H x=none) (hdx:H dx=none) (ne:dx≠x) (s:Stp A H f b g n) (hn:n≤45000) (q:KnQ A H f b g n 1 .bare Q):
  lq K A [.ref x,.ref f] (upd (upd H dx (.own x)) x (.ins A.c_Bare dx [])) (fun v H2=>v=.non∧Q (.ref x) H2) E:=
 ⟨x,dx,f,b,g,n,rfl,af,s.same (Nat.le_refl _) (bB hx hdx ne),hn,nk hx hdx ne q⟩
theorem jb {H:Hp} {x dx f b l r:Addr} {g:GK} {n d e:Nat} {tl tr:Kn Str} {ml mr:Key} {Q:VK} {E:XK} (hx:H x=none) (hdx:H dx=none) (ne:dx≠x) (s:Stp A H f b g n) (hn:n≤45000) (hd:d<60) (he:e<2^60) (kl:KnA A H g l tl ml) (kr:KnA A H g r tr mr) (sz:szN tl+szN tr≤90000)
  (q:KnQ A H f b g n 1 (.fork d e tl tr) Q):gZ K A [.ref x,.ref f,.int (d:Int),.int (e:Int),.ref l,.ref r] (upd (upd H dx (.own x)) x (.ins A.c_Fork dx [])) (fun v H2=>v=.non∧Q (.ref x) H2) E:=
 have S:=bB (o:=.own x) (u:=.ins A.c_Fork dx []) hx hdx ne
 ⟨x,dx,f,b,l,r,g,n,d,e,tl,tr,ml,mr,rfl,af,s.same (Nat.le_refl _) S,hn,hd,he,kl.same S,kr.same S,sz,nk hx hdx ne q⟩
theorem KnA.fk {H:Hp} {g:GK} {x:Addr} {d b:Nat} {tl tr:Kn Str} {m:Key} (h:KnA A H g x (.fork d b tl tr) m):∃ l r ml mr,ik A H x d b l r∧KnA A H g l tl ml∧KnA A H g r tr mr:=by
 cases h with
 | fork o hl hr _ _ _ _=>exact ⟨_,_,_,_,⟨_,_,_,o⟩,hl,hr⟩
theorem CV (K:W.Frag) (A:Adr):Ln (rD K A) 3:=by rintro vs H Q E ⟨x,l,r,d,b,B,key,rfl,_⟩;rfl
theorem ET (T:Txt K mg A):Rd (rD K A) (T_9 K A) ["self", "bits", "key"]:=by
 intro vs H Q E h
 obtain ⟨x,l,r,d,b,B,key,rfl,⟨dx,t,m,o⟩,hd,q⟩:=h
 refine ⟨x,_,dx,_,_,rfl,o,T.cl_Fork,T.na_Fork_depth,rfl,_,_,_,rfl,by omega,x,_,dx,_,_,rfl,o,T.cl_Fork,T.na_Fork_begin,rfl,?_⟩
 have e:decide (((st B key d:Nat):Int)=(b:Int))=decide (st B key d=b):=by
  by_cases h:st B key d=b
  · rw [decide_eq_true h,decide_eq_true (by rw [h])]
  · rw [decide_eq_false h,decide_eq_false (by omega)]
 show Q (.bl (decide (kZ (B:Int) (key:Int) (d:Int)=(b:Int)))) H
 rw [nR,e];exact q
theorem Bn (K:W.Frag) (A:Adr):Ln (jh K A) 3:=by rintro vs H Q E ⟨x,l,r,d,b,B,key,rfl,_⟩;rfl
theorem DK (T:Txt K mg A):Rd (jh K A) (Gv K A) ["self", "bits", "key"]:=by
 intro vs H Q E h
 obtain ⟨x,l,r,d,b,B,key,rfl,⟨dx,t,m,o⟩,hd,q⟩:=h
 refine ⟨x,_,dx,_,_,rfl,o,T.cl_Fork,T.na_Fork_depth,rfl,_,_,_,rfl,by omega,by omega,?_⟩
 rw [kf hd]
 refine Sel.dec (fun h=>?_) (fun h=>?_)
 · have h:sd B key d=0:=by have h:((sd B key d:Nat):Int)=0:=h;omega
   rw [if_pos h] at q
   exact ⟨x,_,dx,_,_,rfl,o,T.cl_Fork,T.na_Fork_left,rfl,q⟩
 · have h:¬ sd B key d=0:=by have h:¬ ((sd B key d:Nat):Int)=0:=h;omega
   rw [if_neg h] at q
   exact ⟨x,_,dx,_,_,rfl,o,T.cl_Fork,T.na_Fork_right,rfl,q⟩
theorem DD (K:W.Frag) (A:Adr):Ln (qp K A) 3:=by rintro vs H Q E ⟨x,l,r,d,b,B,key,rfl,_⟩;rfl
theorem Gt (T:Txt K mg A):Rd (qp K A) (T_6 K A) ["self", "bits", "key"]:=by
 intro vs H Q E h
 obtain ⟨x,l,r,d,b,B,key,rfl,⟨dx,t,m,o⟩,hd,q⟩:=h
 refine ⟨x,_,dx,_,_,rfl,o,T.cl_Fork,T.na_Fork_depth,rfl,_,_,_,rfl,by omega,by omega,?_⟩
 rw [kf hd]
 refine Sel.dec (fun h=>?_) (fun h=>?_)
 · have h:sd B key d=0:=by have h:((sd B key d:Nat):Int)=0:=h;omega
   rw [if_pos h] at q
   exact ⟨x,_,dx,_,_,rfl,o,T.cl_Fork,T.na_Fork_right,rfl,q⟩
 · have h:¬ sd B key d=0:=by have h:¬ ((sd B key d:Nat):Int)=0:=h;omega
   rw [if_neg h] at q
   exact ⟨x,_,dx,_,_,rfl,o,T.cl_Fork,T.na_Fork_left,rfl,q⟩
theorem Dy (K:W.Frag) (A:Adr):Ln (lj K A) 3:=by rintro vs H Q E ⟨x,g,t,m,B,key,rfl,_⟩;rfl
theorem Bk (K:W.Frag) (A:Adr):Ln (iW K A) 3:=by rintro vs H Q E ⟨x,g,t,m,B,key,rfl,_⟩;rfl
theorem DN (K:W.Frag) (A:Adr) (n:Nat):Ln (jK K A n) 3:=by rintro vs H Q E ⟨x,g,t,m,B,key,rfl,_⟩;rfl
theorem zI (K:W.Frag) (A:Adr):∀ vs H Q E,jK K A 0 vs H Q E→False:=by rintro vs H Q E ⟨x,g,t,m,B,key,rfl,_,_,h,_⟩;omega
theorem Kof.b {H:Hp} {g:GK} {x:Addr} {t:Kn Str} {m:Key} (h:Kof A H 0 g x t m):t=.bare:=by
 obtain ⟨k,e⟩:=h;cases t <;> first | rfl | cases e
theorem kd1 {t:Kn Str} (e:kdK t=1):∃ k z,t=.leaf k z:=by cases t <;> first | exact ⟨_,_,rfl⟩ | cases e
theorem kd2 {t:Kn Str} (e:kdK t=2):∃ d b l r,t=.fork d b l r:=by cases t <;> first | exact ⟨_,_,_,_,rfl⟩ | cases e
theorem rp {H:Hp} {g:GK} {x:Addr} {t:Kn Str} {m:Key} {sB sL sF:Sp} (nm:Str) (hn:nm= "found" ∨nm= "rows" ∨nm= "with_key" ∨nm= "without") (h:KnA A H g x t m) (R:Sp→Prop) (q0:kdK t=0→R sB) (q1:kdK t=1→R sL) (q2:kdK t=2→R sF):
  ∃ a C dx fs sp,V.ref x=.ref a∧H a=some (.ins C dx fs)∧(C,sp)∈[(A.c_Bare,sB),(A.c_Leaf,sL),(A.c_Fork,sF)]∧fs.lookup nm=none∧R sp:=by
 obtain ⟨dx,p,fs,o,l⟩:=h.ob
 cases t with
 | bare=>exact ⟨x,_,_,_,sB,rfl,o,List.mem_cons_self,l nm hn,q0 rfl⟩
 | leaf _ _=>exact ⟨x,_,_,_,sL,rfl,o,List.mem_cons_of_mem _ List.mem_cons_self,l nm hn,q1 rfl⟩
 | fork _ _ _ _=>exact ⟨x,_,_,_,sF,rfl,o,List.mem_cons_of_mem _ (List.mem_cons_of_mem _ List.mem_cons_self),l nm hn,q2 rfl⟩
theorem kdh {t:Kn Str} {i:Nat} (e:kdK t=i) (hi:i<2):hgt t<70:=by
 cases t with
 | bare=>show 0<70;decide
 | leaf _ _=>show 0<70;decide
 | fork _ _ _ _=>have:2=i:=e;omega
theorem iJ {n:Nat} {H:Hp} {Q:VK} {E:XK} {g:GK} {x:Addr} {t:Kn Str} {m:Key} {B key:Nat} (k:KnA A H g x t m) (dp:jE B t) (hn:hgt t<n) (q:Q (ov (ax B key t)) H):
  ∃ a C dx fs sp,V.ref x=.ref a∧H a=some (.ins C dx fs)∧(C,sp)∈[(A.c_Bare,lj K A),(A.c_Leaf,iW K A),(A.c_Fork,jK K A n)]∧fs.lookup ("found" :Str)=none∧sp [.ref x,.int (B:Int),.int (key:Int)] H Q E:=
 rp "found" (.inl rfl) k (fun sp=>sp [.ref x,.int (B:Int),.int (key:Int)] H Q E) (fun e=>⟨x,g,t,m,B,key,rfl,⟨k,e⟩,dp,kdh e (by decide),q⟩) (fun e=>⟨x,g,t,m,B,key,rfl,⟨k,e⟩,dp,kdh e (by decide),q⟩) (fun e=>⟨x,g,t,m,B,key,rfl,⟨k,e⟩,dp,hn,q⟩)
theorem EQ (T:Txt K mg A):Rd (lj K A) (T_1 K A) ["self", "bits", "key"]:=by
 intro vs H Q E h
 obtain ⟨x,g,t,m,B,key,rfl,k,_,_,q⟩:=h
 cases k.b
 exact q
theorem CD (T : Txt K mg A) : Rd (iW K A) (Ft K A) ["self", "bits", "key"] := by
  intro vs H Q E h
  obtain ⟨x, g, t, m, B, key, rfl, ⟨k, e⟩, _, _, q⟩ := h
  obtain ⟨kk, z, rfl⟩ := kd1 e
  cases k with
  | @leaf _ dx _ _ _ _ o _ _ _ _ _ =>
    refine ⟨x, _, dx, _, _, rfl, o, T.cl_Leaf, T.na_Leaf_key, rfl, Sel.dec (fun h => ?_) (fun h => ?_)⟩
    · have h : key = kk := by have h : (key : Int) = (kk : Int) := h; omega
      have q : Q (ov (if key = kk then some z else none)) H := q
      rw [if_pos h] at q
      exact ⟨x, _, dx, _, _, rfl, o, T.cl_Leaf, T.na_Leaf_text, rfl, q⟩
    · have h : ¬ key = kk := by have h : ¬ (key : Int) = (kk : Int) := h; omega
      have q : Q (ov (if key = kk then some z else none)) H := q
      rw [if_neg h] at q
      exact q
theorem Fo (T:Txt K mg A) (n:Nat):Rd (jK K A (n+1)) (T_8 K A n) ["self", "bits", "key"]:=by
 intro vs H Q E h
 obtain ⟨x,g,t,m,B,key,rfl,⟨k,e⟩,dp,hn,q⟩:=h
 obtain ⟨d,b,tl,tr,rfl⟩:=kd2 e
 obtain ⟨l,r,ml,mr,fk,kl,kr⟩:=k.fk
 obtain ⟨dx,p,mm,o⟩:=id fk
 have q:Q (ov (if sd B key d=0 then ax B key tl else ax B key tr)) H:=q
 have hh:max (hgt tl) (hgt tr)+1<n+1:=hn
 refine ⟨x,dx,_,rfl,o,rfl,x,l,r,d,b,B,key,rfl,fk,dp.1,?_⟩
 by_cases hs:sd B key d=0
 · rw [if_pos hs] at q ⊢
   exact iJ (n:=n) kl dp.2.2.1 (by omega) q
 · rw [if_neg hs] at q ⊢
   exact iJ (n:=n) kr dp.2.2.2 (by omega) q
theorem CU (K:W.Frag) (A:Adr):Ln (jG K A) 1:=by rintro vs H Q E ⟨x,g,t,m,rfl,_⟩;rfl
theorem zV (K:W.Frag) (A:Adr):Ln (gE K A) 1:=by rintro vs H Q E ⟨x,g,t,m,rfl,_⟩;rfl
theorem Ba (K:W.Frag) (A:Adr) (n:Nat):Ln (fF K A n) 1:=by rintro vs H Q E ⟨x,g,t,m,rfl,_⟩;rfl
theorem wO (K:W.Frag) (A:Adr):∀ vs H Q E,fF K A 0 vs H Q E→False:=by rintro vs H Q E ⟨x,g,t,m,rfl,_,h,_⟩;omega
theorem bH.mono {H H':Hp} {ps:List Addr} {rs:List (Nat×Str)} (h:bH H ps rs) (S:aq H H'):bH H' ps rs:=Paired.mapP h fun _ _ e=>S _ _ e
theorem gB {α β:Type} {F:α→β→Prop} {l₁ m₁:List α} {l₂ m₂:List β} (h:Paired F l₁ l₂) (h':Paired F m₁ m₂):Paired F (l₁++m₁) (l₂++m₂):=by
 induction h with
 | nil=>exact h'
 | cons r _ ih=>exact .cons r ih
theorem Gs (T:Txt K mg A):Rd (jG K A) (T_2 K A) ["self"]:=by
 intro vs H Q E h
 obtain ⟨x,g,t,m,rfl,k,_,_,q⟩:=h
 cases k.b
 exact ⟨Nat.zero_le _,fun l hl=>q l [] _ (aq.upd hl) hl af .nil⟩
theorem EH (T : Txt K mg A) : Rd (gE K A) (GA K A) ["self"] := by
  intro vs H Q E h
  obtain ⟨x, g, t, m, rfl, ⟨k, e⟩, _, _, q⟩ := h
  obtain ⟨kk, z, rfl⟩ := kd1 e
  cases k with
  | @leaf _ dx _ _ _ _ o _ _ _ _ _ =>
    refine ⟨x, _, dx, _, _, rfl, o, T.cl_Leaf, T.na_Leaf_key, rfl, x, _, dx, _, _, rfl, o, T.cl_Leaf, T.na_Leaf_text, rfl, by show 2 ≤ sizeLine; decide, fun p hp => ⟨by show 1 ≤ sizeLine; decide, fun l hl => ?_⟩⟩
    obtain ⟨lp, hl0⟩ := jJ hl
    exact q l [p] _ ((aq.upd hp).trans (aq.upd hl)) hl0 af (.cons (aq.upd hl _ _ af) .nil)
theorem jB {n:Nat} {H:Hp} {Q:VK} {E:XK} {g:GK} {x:Addr} {t:Kn Str} {m:Key} (k:KnA A H g x t m) (hn:hgt t<n) (hl:(au t).length≤1000)
  (q:∀ (l:Addr) (ps:List Addr) (H':Hp),aq H H'→H l=none→H' l=some (.lst (ps.map V.ref))→bH H' ps (au t)→Q (.ref l) H'):
  ∃ a C dx fs sp,V.ref x=.ref a∧H a=some (.ins C dx fs)∧(C,sp)∈[(A.c_Bare,jG K A),(A.c_Leaf,gE K A),(A.c_Fork,fF K A n)]∧fs.lookup ("rows" :Str)=none∧sp [.ref x] H Q E:=
 rp "rows" (.inr (.inl rfl)) k (fun sp=>sp [.ref x] H Q E) (fun e=>⟨x,g,t,m,rfl,⟨k,e⟩,kdh e (by decide),hl,q⟩) (fun e=>⟨x,g,t,m,rfl,⟨k,e⟩,kdh e (by decide),hl,q⟩) (fun e=>⟨x,g,t,m,rfl,⟨k,e⟩,hn,hl,q⟩)
theorem CL (T:Txt K mg A) (n:Nat):Rd (fF K A (n+1)) (FA K A n) ["self"]:=by
 intro vs H Q E h
 obtain ⟨x,g,t,m,rfl,⟨k,e⟩,hn,hl,q⟩:=h
 obtain ⟨d,b,tl,tr,rfl⟩:=kd2 e
 obtain ⟨l,r,ml,mr,fk,kl,kr⟩:=k.fk
 obtain ⟨dx,p,mm,o⟩:=id fk
 have hh:max (hgt tl) (hgt tr)+1<n+1:=hn
 have hl:(au tl++au tr).length≤1000:=hl
 rw [List.length_append] at hl
 refine ⟨x,_,dx,_,_,rfl,o,T.cl_Fork,T.na_Fork_left,rfl,?_⟩
 refine jB (n:=n) kl (by omega) (by omega) fun l1 ps1 H1 S1 hl1 hL1 R1=>?_
 refine ⟨x,_,dx,_,_,rfl,S1 _ _ o,T.cl_Fork,T.na_Fork_right,rfl,?_⟩
 refine jB (n:=n) (kr.same S1) (by omega) (by omega) fun l2 ps2 H2 S2 hl2 hL2 R2=>?_
 have e1:=Paired.length R1
 have e2:=Paired.length R2
 refine .inl ⟨l1,l2,ps1.map V.ref,ps2.map V.ref,rfl,rfl,S2 _ _ hL1,hL2,aK (by rw [List.length_map,List.length_map];omega),fun p hp=>?_⟩
 have S3:=aq.upd (o:=.lst (ps1.map V.ref++ps2.map V.ref)) hp
 exact q p (ps1++ps2) _ ((S1.trans S2).trans S3) (by
  cases z:H p with
  | none=>rfl
  | some u=>rw [S2 _ _ (S1 _ _ z)] at hp;cases hp) (by rw [List.map_append];exact af) (gB (R1.mono (S2.trans S3)) (R2.mono S3))
theorem Ak (K:W.Frag) (A:Adr):Ln (kB K A) 5:=by rintro vs H Q E ⟨f,b,x,y,g,n,B,d,key,z,t,m,m',rfl,_⟩;rfl
theorem BO {B key d:Nat} (h:key<2^B) (hB:B≤60):st B key d<2^60:=by
 have:2^B≤2^60:=Nat.pow_le_pow_right (by decide) hB
 exact Nat.lt_of_le_of_lt (Nat.div_le_self _ _) (Nat.lt_of_lt_of_le h this)
theorem En (T:Txt K mg A):Rd (kB K A) (FG K A) ["stamper", "bits", "depth", "leaf", "knot", "begin"]:=by
 intro vs H Q E h
 obtain ⟨f,b,x,y,g,n,B,d,key,z,t,m,m',rfl,ks,hn,ky,hd,hk,q⟩:=h
 have B60:=ks.B60
 have sz:=ks.sz
 obtain ⟨dy,p,oy⟩:∃ dy p,H y=some (.ins A.c_Leaf dy [("term",.ref p),("mark",kV m'),("key",.int (key:Int)),("text",.str z)]):=by cases ky with | leaf o _ _ _ _ _=>exact ⟨_,_,o⟩
 refine ⟨y,_,dy,_,_,rfl,oy,T.cl_Leaf,T.na_Leaf_key,rfl,_,_,_,rfl,by omega,y,_,dy,_,_,rfl,oy,T.cl_Leaf,T.na_Leaf_key,rfl,_,_,_,rfl,by omega,by omega,?_⟩
 rw [kf hd,nR]
 unfold dN at q
 refine Sel.dec (fun h=>?_) (fun h=>?_)
 · have h:sd B key d=0:=by have h:((sd B key d:Nat):Int)=0:=h;omega
   rw [if_pos h] at q
   intro x' dx' hx hdx ne
   exact jb hx hdx ne ks.s hn (by omega) (BO hk B60) ky ks.k (by show 400+_≤_;omega) q
 · have h:¬ sd B key d=0:=by have h:¬ ((sd B key d:Nat):Int)=0:=h;omega
   rw [if_neg h] at q
   intro x' dx' hx hdx ne
   exact jb hx hdx ne ks.s hn (by omega) (BO hk B60) ks.k ky (by show _+400≤_;omega) q
theorem Eu (K:W.Frag) (A:Adr):Ln (oa K A) 5:=by rintro vs H Q E ⟨x,f,b,l,r,y,g,n,B,d,e,key,tl,tr,t,m,ml,mr,rfl,_⟩;rfl
theorem FW (T:Txt K mg A):Rd (oa K A) (T_7 K A) ["self", "stamper", "bits", "key", "knot"]:=by
 intro vs H Q E h
 obtain ⟨x,f,b,l,r,y,g,n,B,d,e,key,tl,tr,t,m,ml,mr,rfl,⟨dx,p,mm,o⟩,kl,kr,ky,s,hn,hd,B60,e60,sz,q⟩:=h
 refine ⟨x,_,dx,_,_,rfl,o,T.cl_Fork,T.na_Fork_depth,rfl,_,_,_,rfl,by omega,by omega,?_⟩
 rw [kf hd]
 refine Sel.dec (fun h=>?_) (fun h=>?_)
 · have h:sd B key d=0:=by have h:((sd B key d:Nat):Int)=0:=h;omega
   rw [if_pos h] at q sz
   refine ⟨x,_,dx,_,_,rfl,o,T.cl_Fork,T.na_Fork_depth,rfl,x,_,dx,_,_,rfl,o,T.cl_Fork,T.na_Fork_begin,rfl,x,_,dx,_,_,rfl,o,T.cl_Fork,T.na_Fork_right,rfl,fun x' dx' hx hdx ne=>?_⟩
   exact jb hx hdx ne s hn (by omega) e60 ky kr (by omega) q
 · have h:¬ sd B key d=0:=by have h:¬ ((sd B key d:Nat):Int)=0:=h;omega
   rw [if_neg h] at q sz
   refine ⟨x,_,dx,_,_,rfl,o,T.cl_Fork,T.na_Fork_depth,rfl,x,_,dx,_,_,rfl,o,T.cl_Fork,T.na_Fork_begin,rfl,x,_,dx,_,_,rfl,o,T.cl_Fork,T.na_Fork_left,rfl,fun x' dx' hx hdx ne=>?_⟩
   exact jb hx hdx ne s hn (by omega) e60 kl ky (by omega) q
theorem dB {H H':Hp} {x dx b:Addr} {o u:HO} (hx:H x=none) (hdx:H dx=none) (ne:dx≠x) (k:iZ b x (upd (upd H dx o) x u) H'):aB b H H':=fun z o zb e=>k z o zb (ar e hx) (bB hx hdx ne _ _ e)
theorem Ee (K:W.Frag) (A:Adr):Ln (jO K A) 5:=by rintro vs H Q E ⟨x,f,b,g,n,B,key,z,t,m,rfl,_⟩;rfl
theorem zu (K:W.Frag) (A:Adr):Ln (gP K A) 5:=by rintro vs H Q E ⟨x,f,b,g,n,B,key,z,t,m,rfl,_⟩;rfl
theorem Ay (K:W.Frag) (A:Adr) (j:Nat):∀ vs H Q E,fQ K A j vs H Q E→vs.length=5:=by rintro vs H Q E ⟨x,f,b,g,n,B,key,z,t,m,rfl,_⟩;rfl
theorem wZ (K:W.Frag) (A:Adr):∀ vs H Q E,fQ K A 0 vs H Q E→False:=by rintro vs H Q E ⟨x,f,b,g,n,B,key,z,t,m,rfl,_,_,_,_,_,_,h,_⟩;omega
theorem rH {B key:Nat} (h:key<2^B) (hB:B≤60):key<2^60:=Nat.lt_of_lt_of_le h (Nat.pow_le_pow_right (by decide) hB)
theorem FI (T:Txt K mg A):Rd (jO K A) (T_3 K A) ["self", "stamper", "bits", "key", "value"]:=by
 intro vs H Q E h
 obtain ⟨x,f,b,g,n,B,key,z,t,m,rfl,ks,e,hn,_,hk,hz,_,_,q⟩:=h
 cases (Kof.b (A:=A) ⟨ks.k,e⟩)
 intro x' dx' hx hdx ne
 exact yC hx hdx ne ks.s (by omega) (rH hk ks.B60) hz (q.le (by show 1≤0+2;decide))
theorem KnQ.after {H H1:Hp} {f b:Addr} {g g1:GK} {n c c1:Nat} {t:Kn Str} {Q:VK} (q:KnQ A H f b g n (c1+c) t Q) (kb:aB b H H1) (sub:Sub g g1):KnQ A H1 f b g1 (n+c1) c t Q:=fun y m g' H' kb' k s sub'=>q y m g' H' (kb.trans kb') k (s.same (by omega) aq.rfl') (sub.trans sub')
theorem Eb (T:Txt K mg A):Rd (gP K A) (Fw K A) ["self", "stamper", "bits", "key", "value", "leaf"]:=by
 intro vs H Q E h
 obtain ⟨x,f,b,g,n,B,key,z,t,m,rfl,ks,e,hn,hr,hk,hz,_,_,q⟩:=h
 obtain ⟨kk,z',rfl⟩:=kd1 e
 have hkk:kk<2^B:=hr (kk,z') List.mem_cons_self
 intro y dx' hx hdx ne
 refine ⟨y,dx',f,b,g,n,key,z,rfl,af,ks.s.same (Nat.le_refl _) (bB hx hdx ne),by omega,rH hk ks.B60,hz,fun m' g1 H1 k2 ky s1 sub=>⟨rfl,?_⟩⟩
 have kb:=dB hx hdx ne k2
 have kx:=ks.k.kb ks.s kb sub
 obtain ⟨dy,p,oy⟩:∃ dy p,H1 x=some (.ins A.c_Leaf dy [("term",.ref p),("mark",kV m),("key",.int (kk:Int)),("text",.str z')]):=by cases kx with | leaf o _ _ _ _ _=>exact ⟨_,_,o⟩
 refine ⟨x,_,dy,_,_,rfl,oy,T.cl_Leaf,T.na_Leaf_key,rfl,Sel.dec (fun h=>?_) (fun h=>?_)⟩
 · have h:key=kk:=by have h:(key:Int)=(kk:Int):=h;omega
   have q:KnQ A H f b g n (0+2) (if key=kk then .leaf key z else dN B (al B key kk) key z (.leaf kk z')) Q:=q
   rw [if_pos h] at q
   exact q y m' g1 H1 kb ky (s1.same (by omega) aq.rfl') sub
 · have h:¬ key=kk:=by have h:¬ (key:Int)=(kk:Int):=h;omega
   have q:KnQ A H f b g n (0+2) (if key=kk then .leaf key z else dN B (al B key kk) key z (.leaf kk z')) Q:=q
   rw [if_neg h] at q
   obtain ⟨a1,_,_⟩:=ni hk hkk h
   refine ⟨x,_,dy,_,_,rfl,oy,T.cl_Leaf,T.na_Leaf_key,rfl,B,key,kk,al B key kk,rfl,hk,hkk,iA hk hkk,f,b,x,y,g1,n+1,B,al B key kk,key,z,.leaf kk z',m,m',rfl,⟨kx,s1,ks.B60,trivial,by show 1≤100;decide,by show 400≤80000;decide⟩,by omega,ky,a1,hk,?_⟩
   exact KnQ.after (c1:=1) (c:=1) q kb sub
theorem jU {j:Nat} {H:Hp} {Q:VK} {E:XK} {f b x:Addr} {g:GK} {n B key:Nat} {z:Str} {t:Kn Str} {m:Key} (ks:KnS A H f b g n B x t m) (hn:n+hgt t+10≤45000) (hr:∀ p∈au t,p.1<2^B) (hk:key<2^B) (hz:bE z) (hj:hgt t<j) (sz:szN t≤70000)
  (q:KnQ A H f b g n (hgt t+2) (bG B key z t) Q):
  ∃ a C dx fs sp,V.ref x=.ref a∧H a=some (.ins C dx fs)∧(C,sp)∈[(A.c_Bare,jO K A),(A.c_Leaf,gP K A),(A.c_Fork,fQ K A j)]∧fs.lookup ("with_key" :Str)=none∧sp [.ref x,.ref f,.int (B:Int),.int (key:Int),.str z] H Q E:=
 rp "with_key" (.inr (.inr (.inl rfl))) ks.k (fun sp=>sp [.ref x,.ref f,.int (B:Int),.int (key:Int),.str z] H Q E) (fun e=>⟨x,f,b,g,n,B,key,z,t,m,rfl,ks,e,hn,hr,hk,hz,kdh e (by decide),sz,q⟩)
  (fun e=>⟨x,f,b,g,n,B,key,z,t,m,rfl,ks,e,hn,hr,hk,hz,kdh e (by decide),sz,q⟩) (fun e=>⟨x,f,b,g,n,B,key,z,t,m,rfl,ks,e,hn,hr,hk,hz,hj,sz,q⟩)
theorem KnS.side {H:Hp} {f b x y:Addr} {g:GK} {n B d e:Nat} {tl tr t:Kn Str} {m m':Key} (h:KnS A H f b g n B x (.fork d e tl tr) m) (k:KnA A H g y t m') (ht:t=tl∨t=tr):KnS A H f b g n B y t m'∧szN t≤szN (.fork d e tl tr)∧hgt t+1≤hgt (.fork d e tl tr)∧∀ p∈au t,p∈au (.fork d e tl tr):=by
 have e1:szN (.fork d e tl tr)=300+szN tl+szN tr:=rfl
 have e2:(au (.fork d e tl tr)).length=(au tl).length+(au tr).length:=List.length_append
 have e3:hgt (.fork d e tl tr)=max (hgt tl) (hgt tr)+1:=rfl
 have ln:=h.ln
 have sz:=h.sz
 rcases ht with rfl | rfl
 · exact ⟨⟨k,h.s,h.B60,h.dp.2.2.1,by omega,by omega⟩,by omega,by omega,fun p hp=>List.mem_append_left _ hp⟩
 · exact ⟨⟨k,h.s,h.B60,h.dp.2.2.2,by omega,by omega⟩,by omega,by omega,fun p hp=>List.mem_append_right _ hp⟩
theorem ik.keep {H H':Hp} {x:Addr} {d b:Nat} {l r:Addr} (h:ik A H x d b l r) (k:∀ z o,H z=some o→knO o→H' z=some o):ik A H' x d b l r:=by
 obtain ⟨dx,t,m,o⟩:=h
 exact ⟨dx,t,m,k _ _ o (.inr ⟨_,_,_,_,_,rfl⟩)⟩
theorem Dg (T:Txt K mg A) (j:Nat) (vs:List V) (H:Hp) (Q:VK) (E:XK) (h:fQ K A (j+1) vs H Q E):Ga K A j { nx:=fun _ H'=>Q .non H',rt:=Q } (L2.bX ["self", "stamper", "bits", "key", "value", "depth"] vs) H:=by
 obtain ⟨x,f,b,g,n,B,key,z,t,m,rfl,ks,e,hn,hr,hk,hz,hj,sz,q⟩:=h
 obtain ⟨d,bb,tl,tr,rfl⟩:=kd2 e
 obtain ⟨l,r,ml,mr,fk,kl,kr⟩:=ks.k.fk
 obtain ⟨dx,p,mm,o⟩:=id fk
 have dp:=ks.dp
 have B60:=ks.B60
 have b60:bb<2^60:=Nat.lt_of_lt_of_le dp.2.1 (Nat.pow_le_pow_right (by decide) (by have:=dp.1;omega))
 have q:KnQ A H f b g n (hgt (.fork d bb tl tr)+2) (if st B key d=bb then (if sd B key d=0 then .fork d bb (bG B key z tl) tr else .fork d bb tl (bG B key z tr)) else dN B (al d bb (st B key d)) key z (.fork d bb tl tr)) Q:=q
 refine ⟨x,dx,_,rfl,o,rfl,x,l,r,d,bb,B,key,rfl,fk,dp.1,?_⟩
 by_cases hb:st B key d=bb
 · rw [if_pos hb] at q
   rw [decide_eq_true hb]
   refine Sel.no rfl ⟨x,dx,_,rfl,o,rfl,x,dx,_,rfl,o,rfl,x,l,r,d,bb,B,key,rfl,fk,dp.1,?_⟩
   by_cases hs:sd B key d=0
   · rw [if_pos hs] at q ⊢
     obtain ⟨k1,k2,k3,k4⟩:=ks.side kl (.inl rfl)
     refine jU (j:=j) k1 (by omega) (fun p hp=>hr p (k4 p hp)) hk hz (by omega) (by omega) fun y m1 g1 H1 kb ky s1 sub=>?_
     have kn:=aB.kn ks.s kb
     have s2:=gX (B:=B) (key:=key) (z:=z) tl
     have s3:szN (.fork d bb tl tr)=300+szN tl+szN tr:=rfl
     refine ⟨x,f,b,l,r,y,g1,n+(hgt tl+2),B,d,bb,key,tl,tr,bG B key z tl,m1,ml,mr,rfl,fk.keep kn,kl.keep kn sub,kr.keep kn sub,ky,s1,by omega,dp.1,B60,b60,by rw [if_pos hs];omega,?_⟩
     rw [if_pos hs]
     exact KnQ.after (c1:=hgt tl+2) (c:=1) (q.le (by omega)) kb sub
   · rw [if_neg hs] at q ⊢
     obtain ⟨k1,k2,k3,k4⟩:=ks.side kr (.inr rfl)
     refine jU (j:=j) k1 (by omega) (fun p hp=>hr p (k4 p hp)) hk hz (by omega) (by omega) fun y m1 g1 H1 kb ky s1 sub=>?_
     have kn:=aB.kn ks.s kb
     have s2:=gX (B:=B) (key:=key) (z:=z) tr
     have s3:szN (.fork d bb tl tr)=300+szN tl+szN tr:=rfl
     refine ⟨x,f,b,l,r,y,g1,n+(hgt tr+2),B,d,bb,key,tl,tr,bG B key z tr,m1,ml,mr,rfl,fk.keep kn,kl.keep kn sub,kr.keep kn sub,ky,s1,by omega,dp.1,B60,b60,by rw [if_neg hs];omega,?_⟩
     rw [if_neg hs]
     exact KnQ.after (c1:=hgt tr+2) (c:=1) (q.le (by omega)) kb sub
 · rw [if_neg hb] at q
   rw [decide_eq_false hb]
   refine Sel.yes rfl ⟨x,_,dx,_,_,rfl,o,T.cl_Fork,T.na_Fork_depth,rfl,x,_,dx,_,_,rfl,o,T.cl_Fork,T.na_Fork_begin,rfl,x,_,dx,_,_,rfl,o,T.cl_Fork,T.na_Fork_depth,rfl,_,_,_,rfl,by have:=dp.1;omega,?_⟩
   rw [nR]
   have hst:st B key d<2^d:=by
     have e:2^B=2^d*2^(B - d):=by rw [← Nat.pow_add];congr 1;have:=dp.1;omega
     exact (Nat.div_lt_iff_lt_mul (Nat.two_pow_pos _)).mpr (by rw [← e];exact hk)
   obtain ⟨a1,_,_⟩:=ni dp.2.1 hst (Ne.symm hb)
   refine ⟨d,bb,st B key d,al d bb (st B key d),rfl,dp.2.1,hst,iA dp.2.1 hst,fun y dy hy hdy ne=>?_⟩
   refine ⟨y,dy,f,b,g,n,key,z,rfl,af,ks.s.same (Nat.le_refl _) (bB hy hdy ne),by omega,rH hk B60,hz,fun m' g1 H1 k2 ky s1 sub=>⟨rfl,?_⟩⟩
   have kb:=dB hy hdy ne k2
   refine ⟨f,b,x,y,g1,n+1,B,al d bb (st B key d),key,z,.fork d bb tl tr,m,m',rfl,⟨ks.k.kb ks.s kb sub,s1,B60,dp,ks.ln,ks.sz⟩,by omega,ky,by have:=dp.1;omega,hk,?_⟩
   exact KnQ.after (c1:=1) (c:=1) (q.le (by omega)) kb sub
theorem EM (K:W.Frag) (A:Adr):Ln (jR K A) 4:=by rintro vs H Q E ⟨x,f,b,g,n,B,key,t,m,rfl,_⟩;rfl
theorem zk (K:W.Frag) (A:Adr):Ln (gM K A) 4:=by rintro vs H Q E ⟨x,f,b,g,n,B,key,t,m,rfl,_⟩;rfl
theorem AJ (K:W.Frag) (A:Adr) (j:Nat):∀ vs H Q E,fH K A j vs H Q E→vs.length=4:=by rintro vs H Q E ⟨x,f,b,g,n,B,key,t,m,rfl,_⟩;rfl
theorem wV (K:W.Frag) (A:Adr):∀ vs H Q E,fH K A 0 vs H Q E→False:=by rintro vs H Q E ⟨x,f,b,g,n,B,key,t,m,rfl,_,_,_,h,_⟩;omega
theorem ER (T:Txt K mg A):Rd (jR K A) (T_4 K A) ["self", "stamper", "bits", "key"]:=by
 intro vs H Q E h
 obtain ⟨x,f,b,g,n,B,key,t,m,rfl,ks,e,hn,hj,q⟩:=h
 cases (Kof.b (A:=A) ⟨ks.k,e⟩)
 exact q x m g H aB.rfl' ks.k (ks.s.same (by omega) aq.rfl') Sub.rfl'
theorem DI (T:Txt K mg A):Rd (gM K A) (Gc K A) ["self", "stamper", "bits", "key"]:=by
 intro vs H Q E h
 obtain ⟨x,f,b,g,n,B,key,t,m,rfl,ks,e,hn,hj,q⟩:=h
 obtain ⟨kk,z',rfl⟩:=kd1 e
 obtain ⟨dy,p,oy⟩:∃ dy p,H x=some (.ins A.c_Leaf dy [("term",.ref p),("mark",kV m),("key",.int (kk:Int)),("text",.str z')]):=by cases ks.k with | leaf o _ _ _ _ _=>exact ⟨_,_,o⟩
 have q:KnQ A H f b g n (0+1) (if key=kk then .bare else .leaf kk z') Q:=q
 refine ⟨x,_,dy,_,_,rfl,oy,T.cl_Leaf,T.na_Leaf_key,rfl,Sel.dec (fun h=>?_) (fun h=>?_)⟩
 · have h:key=kk:=by have h:(key:Int)=(kk:Int):=h;omega
   rw [if_pos h] at q
   intro x' dx' hx hdx ne
   exact yc hx hdx ne ks.s (by omega) q
 · have h:¬ key=kk:=by have h:¬ (key:Int)=(kk:Int):=h;omega
   rw [if_neg h] at q
   exact q x m g H aB.rfl' ks.k (ks.s.same (by omega) aq.rfl') Sub.rfl'
theorem fU {j:Nat} {H:Hp} {Q:VK} {E:XK} {f b x:Addr} {g:GK} {n B key:Nat} {t:Kn Str} {m:Key} (ks:KnS A H f b g n B x t m) (hn:n+hgt t+10≤45000) (hj:hgt t<j) (q:KnQ A H f b g n (hgt t+1) (aL B key t) Q):
  ∃ a C dx fs sp,V.ref x=.ref a∧H a=some (.ins C dx fs)∧(C,sp)∈[(A.c_Bare,jR K A),(A.c_Leaf,gM K A),(A.c_Fork,fH K A j)]∧fs.lookup ("without" :Str)=none∧sp [.ref x,.ref f,.int (B:Int),.int (key:Int)] H Q E:=
 rp "without" (.inr (.inr (.inr rfl))) ks.k (fun sp=>sp [.ref x,.ref f,.int (B:Int),.int (key:Int)] H Q E) (fun e=>⟨x,f,b,g,n,B,key,t,m,rfl,ks,e,hn,kdh e (by decide),q⟩)
  (fun e=>⟨x,f,b,g,n,B,key,t,m,rfl,ks,e,hn,kdh e (by decide),q⟩) (fun e=>⟨x,f,b,g,n,B,key,t,m,rfl,ks,e,hn,hj,q⟩)
theorem uh {H:Hp} {g:GK} {x:Addr} {t:Kn Str} {m:Key} (T:Txt K mg A) (k:KnA A H g x t m):∃ C dx fs,H x=some (.ins C dx fs)∧Cls K C∧iQ K C∧W.kitOne K (.ref C) (.ref A.c_Bare)=some (decide (kdK t=0)):=by
 obtain ⟨dx,p,fs,o,_⟩:=k.ob
 cases t with
 | bare=>exact ⟨_,dx,_,o,T.cl_Bare,T.oi_Bare,T.ko_Bare_Bare⟩
 | leaf _ _=>exact ⟨_,dx,_,o,T.cl_Leaf,T.oi_Leaf,T.ko_Leaf_Bare⟩
 | fork _ _ _ _=>exact ⟨_,dx,_,o,T.cl_Fork,T.oi_Fork,T.ko_Fork_Bare⟩
theorem Ew (T:Txt K mg A) (j:Nat) (vs:List V) (H:Hp) (Q:VK) (E:XK) (h:fH K A (j+1) vs H Q E):Gz K A j { nx:=fun _ H'=>Q .non H',rt:=Q } (L2.bX ["self", "stamper", "bits", "key", "rest"] vs) H:=by
 obtain ⟨x,f,b,g,n,B,key,t,m,rfl,ks,e,hn,hj,q⟩:=h
 obtain ⟨d,bb,tl,tr,rfl⟩:=kd2 e
 obtain ⟨l,r,ml,mr,fk,kl,kr⟩:=ks.k.fk
 obtain ⟨dx,p,mm,o⟩:=id fk
 have dp:=ks.dp
 have B60:=ks.B60
 have sz:=ks.sz
 have b60:bb<2^60:=Nat.lt_of_lt_of_le dp.2.1 (Nat.pow_le_pow_right (by decide) (by have:=dp.1;omega))
 have s3:szN (.fork d bb tl tr)=300+szN tl+szN tr:=rfl
 refine ⟨x,dx,_,rfl,o,rfl,x,l,r,d,bb,B,key,rfl,fk,dp.1,?_⟩
 by_cases hs:sd B key d=0
 · rw [if_pos hs]
   obtain ⟨k1,k2,k3,k4⟩:=ks.side kl (.inl rfl)
   refine fU (j:=j) k1 (by omega) (by omega) fun y m1 g1 H1 kb ky s1 sub=>?_
   have kn:=aB.kn ks.s kb
   have s2:=eI (B:=B) (key:=key) tl
   have fk1:=fk.keep kn
   obtain ⟨dx1,p1,mm1,o1⟩:=id fk1
   obtain ⟨C,dz,fz,oz,c1,c2,c3⟩:=uh T ky
   refine ⟨y,C,dz,fz,_,_,rfl,oz,c1,c2,c3,?_⟩
   rw [io] at q
   rw [if_pos hs] at q
   by_cases hbr:kdK (aL B key tl)=0
   · rw [if_pos hbr] at q
     rw [decide_eq_true hbr]
     refine Sel.yes rfl ⟨x,dx1,_,rfl,o1,rfl,x,l,r,d,bb,B,key,rfl,fk1,dp.1,?_⟩
     rw [if_pos hs]
     exact q r mr g1 H1 kb (kr.keep kn sub) (s1.same (by omega) aq.rfl') sub
   · rw [if_neg hbr] at q
     rw [decide_eq_false hbr]
     refine Sel.no rfl ⟨x,dx1,_,rfl,o1,rfl,x,f,b,l,r,y,g1,n+(hgt tl+1),B,d,bb,key,tl,tr,aL B key tl,m1,ml,mr,rfl,fk1,kl.keep kn sub,kr.keep kn sub,ky,s1,by omega,dp.1,B60,b60,by rw [if_pos hs];omega,?_⟩
     rw [if_pos hs]
     exact KnQ.after (c1:=hgt tl+1) (c:=1) (q.le (by omega)) kb sub
 · rw [if_neg hs]
   obtain ⟨k1,k2,k3,k4⟩:=ks.side kr (.inr rfl)
   refine fU (j:=j) k1 (by omega) (by omega) fun y m1 g1 H1 kb ky s1 sub=>?_
   have kn:=aB.kn ks.s kb
   have s2:=eI (B:=B) (key:=key) tr
   have fk1:=fk.keep kn
   obtain ⟨dx1,p1,mm1,o1⟩:=id fk1
   obtain ⟨C,dz,fz,oz,c1,c2,c3⟩:=uh T ky
   refine ⟨y,C,dz,fz,_,_,rfl,oz,c1,c2,c3,?_⟩
   rw [io] at q
   rw [if_neg hs] at q
   by_cases hbr:kdK (aL B key tr)=0
   · rw [if_pos hbr] at q
     rw [decide_eq_true hbr]
     refine Sel.yes rfl ⟨x,dx1,_,rfl,o1,rfl,x,l,r,d,bb,B,key,rfl,fk1,dp.1,?_⟩
     rw [if_neg hs]
     exact q l ml g1 H1 kb (kl.keep kn sub) (s1.same (by omega) aq.rfl') sub
   · rw [if_neg hbr] at q
     rw [decide_eq_false hbr]
     refine Sel.no rfl ⟨x,dx1,_,rfl,o1,rfl,x,f,b,l,r,y,g1,n+(hgt tr+1),B,d,bb,key,tl,tr,aL B key tr,m1,ml,mr,rfl,fk1,kl.keep kn sub,kr.keep kn sub,ky,s1,by omega,dp.1,B60,b60,by rw [if_neg hs];omega,?_⟩
     rw [if_neg hs]
     exact KnQ.after (c1:=hgt tr+1) (c:=1) (q.le (by omega)) kb sub
theorem Au {x:Int} (h:x.natAbs<2^64):Builtin.Int.intBits x≤64:=by
 unfold Builtin.Int.intBits
 split
 · omega
 · rename_i h0
   have:x.natAbs.log2<64:=(Nat.log2_lt (by simpa using h0)).mpr h
   omega
theorem FU {x y:Int} (h0:0≤y) (h:y<2^64):IntMulOk x y:=IntMulOk.of_right (Au (by omega))
theorem uH {zs:List Str} (h:∀ z∈zs,bz z=true):bz (Txt.join "" zs)=true:=by
 rw [lN]
 induction zs with
 | nil=>decide +kernel
 | cons z r ih=>exact lV (h z List.mem_cons_self) (ih fun y hy=>h y (List.mem_cons_of_mem _ hy))
def jY:Str:= " !\"#$&'()*+,-./0123456789:;<=>?@ABCDEFGHIJKLMNOPQRSTUVWXYZ[\\]^_`abcdefghijklmnopqrstuvwxyz{|}~"
theorem rQ:jY.cps.toList.length=94:=by decide +kernel
theorem sP:∀ c∈jY.cps.toList,c<128:=by decide +kernel
theorem An (K:W.Frag) (A:Adr):Ln (eW K A) 2:=by rintro vs H Q E ⟨a,ns,k,rfl,_⟩;rfl
theorem Cu (T:Txt K mg A):Rd (eW K A) (FS K A) ["_law_script", "_law_k"]:=by
 intro vs H Q E h
 obtain ⟨a,ns,k,rfl,hs,h0,q⟩:=h
 refine .inl (.inl ⟨_,hs,Sel.dec (fun h=>?_) (fun h=>q 0)⟩)
 obtain ⟨v,hv⟩:=nq h0 h
 obtain ⟨j,_,hj,_⟩:=fe hv
 obtain ⟨z,_,rfl⟩:=dq hj
 exact .inl (.inl ⟨a,_,k,_,rfl,rfl,hs,hv,q z⟩)
theorem AF (K:W.Frag) (A:Adr):Ln (mN K A) 2:=by rintro vs H Q E ⟨b,_,rfl,_⟩;rfl
theorem Cp (T:Txt K mg A):Rd (mN K A) (Fc K A) ["_law_cell", "_law_many", "_law_some", "_law_found", "_law_number", "_law_k"]:=by
 intro vs H Q E h
 obtain ⟨c,m,rfl,h1,q⟩:=h
 refine ⟨by show 0≤sizeLine;decide,fun p hp=>⟨by decide,?_⟩⟩
 refine ⟨(m:Int),rfl,by omega,by omega,se (lo:=0) (n:=m) (fun i σ H2=>∃ (num:Int) (kv:Option V) (xs:List Str),σ=[some (.int c),some (.int (m:Int)),some (.str jY),some (.ref p),some (.int num),kv]∧H2=upd H p (.lst (xs.map V.str))∧xs.length=i∧∀ x∈xs,x.length=1∧bz x=true)
   ⟨c%2147483647,none,[],rfl,rfl,rfl,fun x hx=>by cases hx⟩ ?_ ?_⟩
 · rintro i σ H2 hi ⟨num,kv,xs,rfl,rfl,hl,hx⟩
   refine ⟨IntMulOk.of_right (by decide),by decide,?_⟩
   generalize (num*48271+(0+(i:Int))+1)%2147483647=num2
   refine ⟨.inl ⟨rfl,_,SqL.of af⟩,by decide,?_⟩
   obtain ⟨cc,hcc⟩:=nq (xs:=jY.cps.toList) (i:=num2%94) (by omega) (by rw [rQ];omega)
   obtain ⟨j,_,hj,_⟩:=fe hcc
   refine .inl (.inr (.inr ⟨jY,_,cc,rfl,rfl,by decide +kernel,hcc,?_⟩))
   refine ⟨p,_,_,rfl,rfl,af,by rw [List.length_map,hl];exact iF (by omega),?_⟩
   refine ⟨num2,_,xs++[⟨#[cc]⟩],rfl,?_,by rw [List.length_append,hl];rfl,fun x hx'=>?_⟩
   · rw [dm,List.map_append];rfl
   · rcases List.mem_append.mp hx' with z | z
     · exact hx x z
     · rw [List.mem_singleton.mp z]
       refine ⟨rfl,jy fun d hd=>?_⟩
       have:d=cc:=by simpa using hd
       rw [this];exact sP cc (List.mem_of_getElem? hj)
 · rintro σ H2 ⟨num,kv,xs,rfl,rfl,hl,hx⟩
   have hj:(Txt.join "" xs).length=xs.length:=vJ xs fun z hz=>(hx z hz).1
   refine ⟨rfl, "",p,xs,rfl,rfl,af,?_,?_⟩
   · rw [jT xs fun z hz=>(hx z hz).1]
     have:("" :Str).length=0:=by decide
     rw [this];omega
   · exact q _ _ (aq.upd hp) (uH fun x h=>(hx x h).2) (by rw [hj,hl])
theorem Ah (K:W.Frag) (A:Adr):Ln (jg K A) 2:=by rintro vs H Q E ⟨b,_,rfl,_⟩;rfl
theorem DB (T:Txt K mg A):Rd (jg K A) (Fx K A) ["_law_cell", "_law_bits", "_law_top"]:=by
 intro vs H Q E h
 obtain ⟨c,B,rfl,B1,B60,q⟩:=h
 refine ⟨⟨by omega,by omega,by decide⟩,?_⟩
 have e:(1:Int)*2^(B:Int).toNat=((2^B:Nat):Int):=by rw [show (B:Int).toNat=B by omega,Int.one_mul,je]
 have hp:0<((2^B:Nat):Int):=by have:=Nat.two_pow_pos B;omega
 rw [e]
 have fin:∀ i:Int,0≤i→i<((2^B:Nat):Int)→Q (.int i) H:=fun i h0 h1=>by
   obtain ⟨y,rfl⟩:=Int.eq_ofNat_of_zero_le h0
   exact q y (by omega)
 have md:∀ i:Int,0≤i%((2^B:Nat):Int)∧i%((2^B:Nat):Int)<((2^B:Nat):Int):=fun i=>⟨Int.emod_nonneg _ (by omega),Int.emod_lt_of_pos _ hp⟩
 refine ⟨by decide,Sel.dec (fun h=>?_) (fun h=>?_)⟩
 · exact ⟨⟨by decide,by decide⟩,hp,fin _ (md _).1 (md _).2⟩
 refine ⟨by decide,Sel.dec (fun h=>?_) (fun h=>?_)⟩
 · exact ⟨⟨by decide,by decide⟩,FU (by decide) (by decide),hp,fin _ (md _).1 (md _).2⟩
 · refine ⟨⟨by decide,by decide⟩,hp,fin _ ?_ ?_⟩
   · have:=(md (c/3)).2;omega
   · have:=(md (c/3)).1;omega
theorem Gi {H:Hp} {Q:VK} {a:Addr} {xs:List V} {i:Int} (ha:H a=some (.lst xs)) (h0:0≤i) (h1:i<xs.length) (q:∀ v∈xs,Q v H):bq K (.ref a) (.int i) H Q:=by
 obtain ⟨v,hv⟩:=nq h0 h1
 obtain ⟨j,_,hj,_⟩:=fe hv
 exact .inl (.inl ⟨a,xs,i,v,rfl,rfl,SqL.of ha,hv,q v (List.mem_of_getElem? hj)⟩)
def jQ (r:Nat×Str):Dat:=.tup [.int (r.1:Int),.str r.2]
def rk (rs:List (Nat×Str)):Dat:=.lst (rs.map jQ)
theorem we {rs : List (Nat × Str)} (h : ∀ p ∈ rs, bE p.2) : okD (rk rs) = true := by
  show okDs (rs.map jQ) = true
  induction rs with
  | nil => rfl
  | cons r rs ih =>
    show (okD (jQ r) && okDs (rs.map jQ)) = true
    rw [ih fun p hp => h p (List.mem_cons_of_mem _ hp), Bool.and_true]
    show (true && ((bz r.2 && decide (r.2.length ≤ 100000)) && true)) = true
    have hz := h r List.mem_cons_self
    rw [hz.1, decide_eq_true (by have := hz.2; omega)]; rfl
theorem wF (rs:List (Nat×Str)):(iE (rk rs)).depth≤150:=by
 have e:PyData.depthAll (toPys (rs.map jQ))≤1:=by
  induction rs with
  | nil=>exact Nat.zero_le _
  | cons r rs ih=>show max 1 (PyData.depthAll (toPys (rs.map jQ)))≤1;omega
 show PyData.depthAll (toPys (rs.map jQ))+1≤150
 omega
theorem nG {H:Hp} {l:Addr} {ps:List Addr} {rs:List (Nat×Str)} (hl:H l=some (.lst (ps.map V.ref))) (h:bH H ps rs):cf H (.ref l) (rk rs):=by
 refine .lst hl ?_
 clear hl
 induction h with
 | nil=>exact .nil
 | cons e _ ih=>exact .cons (.tup e (.cons (.int _) (.cons (.str _) .nil))) ih
theorem KnA.vals {H:Hp} {g:GK} {x:Addr} {t:Kn Str} {m:Key} (h:KnA A H g x t m):∀ p∈au t,bE p.2:=by
 induction h with
 | bare=>exact fun _ z=>nomatch z
 | leaf o ht hm ok sz hz=>intro p hp;rw [List.mem_singleton.mp hp];exact hz
 | fork o hl hr ht hm ok sz ih1 ih2=>intro p hp;exact (List.mem_append.mp hp).elim (ih1 p) (ih2 p)
theorem lF (kn:List (Nat×Str)):dOf kn=cj (kn.map fun p=>((p.1:Int),V.str p.2)):=by
 unfold dOf cj;rw [List.map_map];rfl
theorem hV {k : Nat} {z : Str} : ∀ {l : List (Nat × Str)}, (l.map (·.1)).Nodup → (look k l = some z ↔ (k, z) ∈ l)
  | [], _ => by constructor <;> intro h <;> cases h
  | (a, b) :: l, nd => by
    have nd' := List.nodup_cons.mp nd
    unfold look
    by_cases e : k = a
    · rw [if_pos e]
      constructor
      · intro h; cases h; rw [e]; exact List.mem_cons_self
      · intro h
        rcases List.mem_cons.mp h with h | h
        · cases h; rfl
        · exact absurd (List.mem_map.mpr ⟨_, h, rfl⟩) (by rw [e]; exact nd'.1)
    · rw [if_neg e, hV nd'.2]
      constructor
      · intro h; exact List.mem_cons_of_mem _ h
      · intro h
        rcases List.mem_cons.mp h with h | h
        · cases h; exact absurd rfl e
        · exact h
theorem Kno.sorted {B : Nat} {kn rs : List (Nat × Str)} {t : Kn Str} (h : Kno B kn t) (wf : WFo B t) (pm : rs.Perm kn) (up : dX rs) : rs = au t := by
  refine tR up wf.up.1 fun k => ?_
  rw [← wf.up.2, ← h.eq]
  have nd : (rs.map (·.1)).Nodup := (pm.map (·.1)).nodup_iff.mpr h.nd
  have key : ∀ z, look k rs = some z ↔ look k kn = some z := fun z => by rw [hV nd, hV h.nd, pm.mem_iff]
  cases e : look k kn with
  | none =>
    cases e2 : look k rs with
    | none => rfl
    | some z => rw [(key z).mp e2] at e; cases e
  | some z => exact (key z).mpr e
def fR (p:Nat×Str):Int×V:=((p.1:Int),V.str p.2)
def hR (p:Int×V):Nat×Str:=(p.1.toNat,match p.2 with | .str z=>z | _=>Str.empty)
theorem hfR (p:Nat×Str):hR (fR p)=p:=by
 unfold hR fR;ext <;> simp
theorem ou {rs':List (Int×V)} {kn:List (Nat×Str)} (pm:rs'.Perm (kn.map fR)):∃ rs:List (Nat×Str),rs.Perm kn∧rs'=rs.map fR:=by
 refine ⟨rs'.map hR,?_,?_⟩
 · have:=pm.map hR
   rw [List.map_map,show hR∘fR=id from funext hfR,List.map_id] at this
   exact this
 · rw [List.map_map]
   refine (List.map_id rs').symm.trans (List.map_congr_left fun p hp=>?_)
   obtain ⟨q,_,rfl⟩:=List.mem_map.mp (pm.mem_iff.mp hp)
   show fR q=fR (hR (fR q))
   rw [hfR]
theorem fT {α β:Type} {F:α→β→Prop}:∀ {l:List α} {m:List β},l.length=m.length→(∀ (j:Nat) (a:α) (b:β),l[j]?=some a→m[j]?=some b→F a b)→Paired F l m
 | [],[],_,_=> .nil
 | [],_::_,h,_=>nomatch h
 | _::_,[],h,_=>nomatch h
 | a::l,b::m,h,f=> .cons (f 0 a b rfl rfl) (fT (Nat.succ.inj h) fun j a b h1 h2=>f (j+1) a b h1 h2)
theorem rc (a k:Nat):decide ((Sum.inl (a:Int):Key)=Sum.inl (k:Int))=decide (k=a):=by
 by_cases h:k=a
 · rw [h,decide_eq_true rfl,decide_eq_true rfl]
 · rw [decide_eq_false h,decide_eq_false fun z=>h (by have:=Sum.inl.inj z;omega)]
theorem lG (kn : List (Nat × Str)) (k : Nat) : bx (dOf kn) (.inl (k : Int)) = (look k kn).map V.str := by
  unfold bx dOf
  induction kn with
  | nil => rfl
  | cons p kn ih =>
    rw [List.map_cons, List.find?_cons, rc]
    unfold look
    by_cases h : k = p.1
    · rw [decide_eq_true h, if_pos h]; rfl
    · rw [decide_eq_false h, if_neg h]; exact ih
def dF (kn:List (Nat×Str)) (k:Nat) (z:Str):List (Nat×Str):=if (kn.any fun p=>decide (k=p.1))=true then kn.map (fun p=>if k=p.1 then (p.1,z) else p) else kn++[(k,z)]
theorem yU (kn:List (Nat×Str)) (k:Nat) (z:Str):cg (dOf kn) (.inl (k:Int)) (.str z)=dOf (dF kn k z):=by
 unfold cg dF dOf
 have e1:((kn.map fun p=>((Sum.inl (p.1:Int):Key),V.str p.2)).any fun kv=>decide (kv.1=Sum.inl (k:Int)))=kn.any fun p=>decide (k=p.1):=by
   rw [List.any_map];congr 1;funext p;exact rc p.1 k
 rw [e1]
 by_cases h:(kn.any fun p=>decide (k=p.1))=true
 · rw [if_pos h,if_pos h,List.map_map,List.map_map]
   refine List.map_congr_left fun p _=>?_
   have d:=rc p.1 k
   show (if (Sum.inl (p.1:Int):Key)=Sum.inl (k:Int) then _ else _)=_
   by_cases hk:k=p.1
   · rw [if_pos (by rw [hk])];show _=((Sum.inl ((if k=p.1 then (p.1,z) else p).1:Int):Key),V.str (if k=p.1 then (p.1,z) else p).2);rw [if_pos hk]
   · rw [if_neg fun q=>hk (by have:=Sum.inl.inj q;omega)];show _=((Sum.inl ((if k=p.1 then (p.1,z) else p).1:Int):Key),V.str (if k=p.1 then (p.1,z) else p).2);rw [if_neg hk]
 · rw [if_neg h,if_neg h,List.map_append];rfl
theorem nU {k : Nat} {z : Str} : ∀ (kn : List (Nat × Str)) (k' : Nat), look k' (kn.map fun p => if k = p.1 then (p.1, z) else p) = if k' = k then (look k kn).map fun _ => z else look k' kn
  | [], k' => by show none = _; split <;> rfl
  | p :: kn, k' => by
    have ih := nU (k := k) (z := z) kn k'
    obtain ⟨a, y⟩ := p
    rw [List.map_cons]
    by_cases h : k = a
    · subst h
      rw [if_pos rfl]
      show (if k' = k then some z else look k' _) = _
      by_cases h2 : k' = k
      · rw [if_pos h2, if_pos h2]; show _ = Option.map _ (if k = k then some y else _); rw [if_pos rfl]; rfl
      · rw [if_neg h2, if_neg h2, ih, if_neg h2]; show _ = if k' = k then some y else _; rw [if_neg h2]
    · rw [if_neg h]
      show (if k' = a then some y else look k' _) = _
      by_cases h2 : k' = a
      · subst h2
        rw [if_pos rfl, if_neg (Ne.symm h)]; show _ = if k' = k' then some y else _; rw [if_pos rfl]
      · rw [if_neg h2, ih]
        show _ = if k' = k then Option.map _ (if k = a then some y else look k kn) else if k' = a then some y else look k' kn
        rw [if_neg h, if_neg h2]
theorem sO {k : Nat} {kn : List (Nat × Str)} : (kn.any fun p => decide (k = p.1)) = (look k kn).isSome := by
  induction kn with
  | nil => rfl
  | cons p kn ih =>
    rw [List.any_cons, ih]
    show _ = (if k = p.1 then some p.2 else look k kn).isSome
    by_cases h : k = p.1
    · rw [decide_eq_true h, if_pos h]; rfl
    · rw [decide_eq_false h, if_neg h, Bool.false_or]
theorem uj (kn:List (Nat×Str)) (k:Nat) (z:Str) (k':Nat):look k' (dF kn k z)=if k'=k then some z else look k' kn:=by
 unfold dF
 rw [sO]
 by_cases h:(look k kn).isSome=true
 · rw [if_pos h,nU]
   split
   · obtain ⟨y,hy⟩:=Option.isSome_iff_exists.mp h;rw [hy];rfl
   · rfl
 · rw [if_neg h,jr]
   by_cases h2:k'=k
   · rw [if_pos h2,h2]
     have:look k kn=none:=by cases e:look k kn <;> first | rfl | (rw [e] at h;exact absurd rfl h)
     rw [this];show (if k=k then some z else none)=_;rw [if_pos rfl]
   · rw [if_neg h2];show (look k' kn).or (if k'=k then some z else none)=_;rw [if_neg h2,Option.or_none]
theorem xX {kn:List (Nat×Str)} {k:Nat} {z:Str} (h:(kn.map (·.1)).Nodup):((dF kn k z).map (·.1)).Nodup∧(dF kn k z).length≤kn.length+1:=by
 unfold dF
 by_cases hk:(kn.any fun p=>decide (k=p.1))=true
 · rw [if_pos hk,List.map_map,List.length_map]
   have e:(kn.map ((fun p:Nat×Str=>p.1)∘fun p=>if k=p.1 then (p.1,z) else p))=kn.map (·.1):=List.map_congr_left fun p _=>by show (if k=p.1 then (p.1,z) else p).1=p.1;split <;> rfl
   rw [e];exact ⟨h,Nat.le_succ _⟩
 · rw [if_neg hk,List.map_append,List.length_append]
   refine ⟨List.nodup_append.mpr ⟨h,List.pairwise_singleton _ _,fun a ha b hb e=>?_⟩,Nat.le_refl _⟩
   have e:a=k:=by rw [List.mem_singleton.mp hb] at e;exact e
   obtain ⟨p,hp,e2⟩:=List.mem_map.mp ha
   exact hk (List.any_eq_true.mpr ⟨p,hp,decide_eq_true (by rw [← e];exact e2.symm)⟩)
theorem Kno.put {B:Nat} {kn:List (Nat×Str)} {t:Kn Str} {key:Nat} {z:Str} (h:Kno B kn t) (wf:WFo B t) (hk:key<2^B) (ln:kn.length<63):Kno B (dF kn key z) (bG B key z t):=by
 obtain ⟨a,b⟩:=xX (k:=key) (z:=z) h.nd
 exact ⟨a,by omega,fun k=>by rw [uj,(wf.with hk).2,h.eq]⟩
def lsO (o:HO):Prop:=(∃ xs,o=.lst xs)∨∃ ob u,o=.frz ob u
theorem Kno.perm {B:Nat} {kn:List (Nat×Str)} {t:Kn Str} (h:Kno B kn t) (wf:WFo B t):(au t).Perm kn:=by
 have pm:=List.mergeSort_perm kn (fun a b=>decide (a.1≤b.1))
 have so:=List.pairwise_mergeSort (le:=fun (a b:Nat×Str)=>decide (a.1≤b.1)) (fun a b c h1 h2=>by simp only [decide_eq_true_eq] at *;omega) (fun a b=>by simp only [Bool.or_eq_true,decide_eq_true_eq];omega) kn
 have nd:((kn.mergeSort (fun a b=>decide (a.1≤b.1))).map (·.1)).Nodup:=(pm.map (·.1)).nodup_iff.mpr h.nd
 have nd2:=List.pairwise_map.mp nd
 have up:dX (kn.mergeSort (fun a b=>decide (a.1≤b.1))):=(so.and nd2).imp fun {a b} z=>by
  have z1:=of_decide_eq_true z.1
  have z2:=z.2
  omega
 rw [← h.sorted wf pm up];exact pm
theorem Kno.len {B:Nat} {kn:List (Nat×Str)} {t:Kn Str} (h:Kno B kn t) (wf:WFo B t):(au t).length=kn.length:=(h.perm wf).length_eq
theorem BC (K:W.Frag) (A:Adr):Ln (mL K A) 1:=by rintro vs H Q E ⟨c,rfl,_⟩;rfl
theorem Cj (T:Txt K mg A):Rd (mL K A) (FO K A) ["_law_cell"]:=by
 intro vs H Q E h
 obtain ⟨c,rfl,q⟩:=h
 refine ⟨⟨by decide,by decide⟩,⟨by decide,by decide⟩,by decide,aK (show 4≤1000000 by decide),fun L hL=>?_⟩
 refine ⟨by decide,Gi af (by omega) (by show c%4<4;omega) fun v hv=>?_⟩
 obtain ⟨n,rfl,hn⟩:∃ n:Nat,v=.int (n:Int)∧n≤60:=by
  simp only [List.mem_cons,List.not_mem_nil,or_false] at hv
  rcases hv with rfl | rfl | rfl | rfl
  · exact ⟨0,rfl,by decide⟩
  · exact ⟨1,rfl,by decide⟩
  · exact ⟨(1+c/4%59).toNat,by rw [Int.toNat_of_nonneg (by omega)],by omega⟩
  · exact ⟨60,rfl,by decide⟩
 exact ⟨_,n,rfl,by omega,fun z H' S az lz=>q z H' ((aq.upd hL).trans S) ⟨az,by omega⟩⟩
def eL (kn:List (Nat×Str)) (k:Nat):List (Nat×Str):=kn.filter fun p=>decide (k≠p.1)
theorem vI (kn:List (Nat×Str)) (k:Nat):gF (dOf kn) (.inl (k:Int))=dOf (eL kn k):=by
 unfold gF eL dOf
 rw [List.filter_map]
 congr 1
 refine List.filter_congr fun p _=>?_
 show decide ((Sum.inl (p.1:Int):Key)≠Sum.inl (k:Int))=_
 exact decide_eq_decide.mpr ⟨fun z w=>z (by rw [w]),fun z w=>z (by have:=Sum.inl.inj w;omega)⟩
theorem sg (kn : List (Nat × Str)) (k k' : Nat) : look k' (eL kn k) = if k' = k then none else look k' kn := by
  unfold eL
  induction kn with
  | nil => show none = _; split <;> rfl
  | cons p kn ih =>
    obtain ⟨a, z⟩ := p
    rw [List.filter_cons]
    by_cases h : k = a
    · subst h
      rw [if_neg (by simp), ih]
      by_cases h2 : k' = k
      · rw [if_pos h2, if_pos h2]
      · rw [if_neg h2, if_neg h2]; show _ = if k' = k then some z else _; rw [if_neg h2]
    · rw [if_pos (decide_eq_true h)]
      show (if k' = a then some z else look k' _) = if k' = k then none else if k' = a then some z else look k' kn
      rw [ih]
      by_cases h2 : k' = a
      · rw [if_pos h2, if_pos h2, if_neg (fun q => h (by rw [← q, h2]))]
      · rw [if_neg h2, if_neg h2]
theorem Kno.drop {B:Nat} {kn:List (Nat×Str)} {t:Kn Str} {key:Nat} (h:Kno B kn t) (wf:WFo B t):Kno B (eL kn key) (aL B key t)∧(eL kn key).length≤kn.length:=by
 have l:=List.length_filter_le (fun p:Nat×Str=>decide (key≠p.1)) kn
 refine ⟨⟨((List.filter_sublist (p:=fun p:Nat×Str=>decide (key≠p.1)) (l:=kn)).map Prod.fst).nodup h.nd,Nat.le_trans l h.ln,fun k=>?_⟩,l⟩
 rw [sg,wf.without.2,h.eq]
theorem sy {i:Nat} {σ:L2.St} {H:Hp} {Q:VK} {v:V} (h:σ[i]?=some (some v)) (q:Q v H):ae i σ H Q:=by
 unfold ae;rw [h];exact q
theorem ixL {H:Hp} {Q:VK} {a:Addr} {xs:List V} {x:V} {i:Int} (ha:H a=some (.lst xs)) (hx:atI xs i=some x) (q:Q x H):bq K (.ref a) (.int i) H Q:=.inl (.inl ⟨a,xs,i,x,rfl,rfl,SqL.of ha,hx,q⟩)
theorem jL {α:Type} {xs:List α} {x:α} (h:xs[0]?=some x):atI xs 0=some x:=by
 have:=(List.getElem?_eq_some_iff.mp h).1
 unfold atI ixN
 rw [if_pos (by decide),if_pos (by omega)]
 exact h
theorem gI {H : Hp} {ps : List Addr} {rs : List (Nat × Str)} (R : bH H ps rs) : ∀ {i : Nat} {p : Addr}, ps[i]? = some p → ∃ r, rs[i]? = some r ∧ H p = some (.tup [.int (r.1 : Int), .str r.2]) := by
  induction R with
  | nil => intro i p h; cases i <;> cases h
  | cons e _ ih =>
    intro i p h
    cases i with
    | zero => cases h; exact ⟨_, rfl, e⟩
    | succ i => exact ih h
theorem Fi {B c:Nat} (h:c+1<B):((2^(B - (c+1)):Nat):Int)/2=((2^(B - (c+1+1)):Nat):Int):=by
 have e:2^(B - (c+1))=2^(B - (c+1+1))*2:=by rw [← Nat.pow_succ];congr 1;omega
 rw [e];omega
theorem xW {B c:Nat} (h:B≤60):0<((2^(B - (c+1)):Nat):Int)∧((2^(B - (c+1)):Nat):Int)<2^62:=by
 have h1:=Nat.two_pow_pos (B - (c+1))
 have h2:2^(B - (c+1))≤2^60:=Nat.pow_le_pow_right (by decide) (by omega)
 have h3:(2:Nat)^60<2^62:=by decide
 omega
theorem uI {J : It} {n : Nat} {it : Nat → V} {Pk : Hp → Prop} {σ : L2.St} {is : List Nat} {tc : TT} {te : TE} {Q : VK} {H1 : Hp} {D : Addr} (T : cD J n it Pk) (Pv : Nat → List V → Hp → Prop)
   (hk : ∀ i ys H, i ≤ n → Pv i ys H → Pk H) (h0 : Pv 0 [] (upd H1 D (.lst [])))
   (hs : ∀ i ys H2, i < n → Pv i ys H2 → ∃ a v0 v1, it i = .ref a ∧ SqT K H2 a [v0, v1] ∧ tc (some v0 :: some v1 :: aI σ is) H2 fun b H4 => if b = true then
    te (some v0 :: some v1 :: aI σ is) H4 fun y H5 => H5 D = some (.lst ys) ∧ ys.length < sizeLine ∧ ∃ m', m' < n - i ∧ CWd n Pv (i + 1) m' (ys ++ [y]) (upd H5 D (.lst (ys ++ [y])))
    else ∃ m', m' < n - i ∧ CWd n Pv (i + 1) m' ys H4)
   (hd : ∀ ys H, Pv n ys H → Q (.ref D) H) : sS K is tc te σ D J H1 Q := by
 refine ⟨CWd n Pv, ⟨n, Nat.zero_le _, rfl, h0⟩, ?_⟩
 rintro i m ys H2 ⟨hi, rfl, p⟩
 by_cases hlt : i < n
 · refine .inr ⟨T.go i H2 hlt (hk i ys H2 hi p), fun x H3 y => ?_⟩
   obtain ⟨rfl, rfl⟩ := T.yld i H2 x H3 hlt (hk i ys H2 hi p) y
   obtain ⟨a, v0, v1, e, s, r⟩ := hs i ys _ hlt p
   exact ⟨a, v0, v1, e, s, r⟩
 · have e : i = n := by omega
   subst e
   exact .inl ⟨T.stop H2 (hk i ys H2 hi p), hd ys H2 p⟩
theorem wf1 {B d0 b0 : Nat} {t : Kn Str} (h : WF B d0 b0 t) (l : (au t).length ≤ 1) : ∃ k z, t = .leaf k z := by
  cases t with
  | bare => exact h.elim
  | leaf k z => exact ⟨k, z, rfl⟩
  | fork d b tl tr =>
    obtain ⟨_, _, _, wl, wr⟩ := h
    obtain ⟨p, hp⟩ := WF.ne (B := B) (b0 := 0) (d0 := 0) wl
    obtain ⟨q, hq⟩ := WF.ne (B := B) (b0 := 0) (d0 := 0) wr
    have l : (au tl ++ au tr).length ≤ 1 := l
    rw [List.length_append] at l
    have := List.length_pos_of_mem hp
    have := List.length_pos_of_mem hq
    omega
theorem Two.shape {B : Nat} {t : Kn Str} (h : Two B t) : t = .bare ∨ (∃ k z, t = .leaf k z ∧ k < 2 ^ B) ∨ ∃ d e k1 z1 k2 z2, t = .fork d e (.leaf k1 z1) (.leaf k2 z2) ∧ d < B ∧ e < 2 ^ d ∧ k1 < 2 ^ B ∧ k2 < 2 ^ B ∧ k1 < k2 ∧ WF B 0 0 (.fork d e (.leaf k1 z1) (.leaf k2 z2)) := by
  rcases h.wf with rfl | wf
  · exact .inl rfl
  cases t with
  | bare => exact .inl rfl
  | leaf k z => exact .inr (.inl ⟨k, z, rfl, wf.1⟩)
  | fork d e tl tr =>
    have wf0 := wf
    obtain ⟨_, hd, he, wl, wr⟩ := wf
    have l : (au tl ++ au tr).length ≤ 2 := h.ln
    rw [List.length_append] at l
    obtain ⟨p, hp⟩ := WF.ne (B := B) (b0 := 0) (d0 := 0) wl
    obtain ⟨q, hq⟩ := WF.ne (B := B) (b0 := 0) (d0 := 0) wr
    have := List.length_pos_of_mem hp
    have := List.length_pos_of_mem hq
    obtain ⟨k1, z1, rfl⟩ := wf1 wl (by omega)
    obtain ⟨k2, z2, rfl⟩ := wf1 wr (by omega)
    have up := WF.up wf0
    have up : k1 < k2 := by
      have : [(k1, z1), (k2, z2)].Pairwise (fun p q : Nat × Str => p.1 < q.1) := up
      simpa using this
    have e0 : e / 2 ^ d = 0 := he
    exact .inr (.inr ⟨d, e, k1, z1, k2, z2, rfl, hd, by
      rcases Nat.div_eq_zero_iff.mp e0 with z | z
      · have := Nat.two_pow_pos d; omega
      · exact z, wl.1, wr.1, up, wf0⟩)
theorem Ab (K:W.Frag) (A:Adr):Ln (jV K A) 2:=by rintro vs H Q E ⟨_,_,_,rfl,_⟩;rfl
theorem CJ (T:Txt K mg A):Rd (jV K A) (Gm K A) ["_law_found", "_law_due_here", "_law_one", "_law_other"]:=by
 intro vs H Q E h
 obtain ⟨p,r,k,rfl,hp,hr,lk,q⟩:=h
 have ty:tyN H (.ref p)=some "tuple" :=by unfold tyN;dsimp only;rw [hp]
 refine ⟨by decide, "tuple",ty,Sel.no rfl (.inl (.inr (.inl ⟨_,SqT.of hp,.inl (.inr (.inl ⟨_,SqT.of hr,Sel.no (by simp) ?_⟩))⟩)))⟩
 refine .inl ⟨p,r,k.map kV,k.map kV,rfl,SqT.of hp,SqT.of hr,?_⟩
 refine yj (xs:=k.map kV) (ys:=k.map kV) (fun i σ H'=>∃ x2 x3,σ=[some (.ref p),some (.ref r),x2,x3]∧aq H H') ⟨none,none,rfl,aq.rfl'⟩ (fun i σ H' _ h=>?_) rfl (fun i x y σ H' t hx hy h ht=>?_) (fun σ H' h=>?_)
 · obtain ⟨_,_,_,S⟩:=h
   exact ⟨SqT.of (S _ _ hp),SqT.of (S _ _ hr)⟩
 · obtain ⟨x2,x3,rfl,S⟩:=h
   obtain rfl:x=y:=Option.some.inj (hx.symm.trans hy)
   obtain ⟨kk,_,rfl⟩:=dq hx
   refine ⟨t,_,rfl,SqT.of af,rfl,_,_,rfl,_,_,rfl,rfl,?_⟩
   cases kk with
   | inl i=>exact ⟨by decide, "int",rfl,Sel.no rfl ⟨by decide, "int",rfl,by decide, "int",rfl,Sel.no rfl (Sel.no (by simp) ⟨_,_,rfl,S.trans (aq.upd ht)⟩)⟩⟩
   | inr z=>exact ⟨by decide, "str",rfl,Sel.no rfl ⟨by decide, "str",rfl,by decide, "str",rfl,Sel.no rfl (Sel.no (by simp) ⟨_,_,rfl,S.trans (aq.upd ht)⟩)⟩⟩
 · obtain ⟨x2,x3,rfl,S⟩:=h
   exact q H' S
theorem Fz {σ:L2.St} {H:Hp} {Q:List V→Hp→Prop} (q:Q [] H):ai σ H Q:=q
theorem jP (a b:Nat):(a:Int)/(b:Int)=((a/b:Nat):Int):=by simp
theorem Bj (K:W.Frag) (A:Adr):Ln (ke K A) 3:=by rintro vs H Q E ⟨_,_,_,_,_,_,_,_,rfl,_⟩;rfl
theorem EF (T : Txt K mg A) : Rd (ke K A) (Gr K A) ["_law_stamper_here", "_law_bits", "_law_rows", "_law_room", "_law_depth", "_law_marks"] := by
 intro vs H Q E h
 obtain ⟨f, b, l, g, n, B, t, ps, rfl, s, hn, B1, B60, tw, hl, R, q⟩ := h
 have ml : (ps.map V.ref).length = (au t).length := by rw [List.length_map, R.length]
 have p60 : 2 ^ B ≤ 2 ^ 60 := Nat.pow_le_pow_right (by decide) B60
 refine .inl (.inl ⟨_, SqL.of hl, ?_⟩)
 rw [ml]
 rcases tw.shape with rfl | ⟨k, z, rfl, hk⟩ | ⟨d, e, k1, z1, k2, z2, rfl, hd, he, hk1, hk2, lt, wf⟩
 · refine Sel.dec (fun _ => ?_) (fun h => absurd rfl h)
   refine ⟨aK (show 1 ≤ 1000000 by decide), fun p hp => ?_⟩
   have S := aq.upd (o := .tup [V.str "bare"]) hp
   exact q p brT g _ (aB.same S) (s.same (by omega) S) Sub.rfl' af xb (by decide +kernel) .bare
 · refine Sel.dec (fun h => absurd (show ((1 : Nat) : Int) = 0 from h) (by decide)) (fun _ => ?_)
   refine .inl (.inl ⟨_, SqL.of hl, ?_⟩)
   rw [ml]
   refine Sel.dec (fun _ => ?_) (fun h => absurd rfl h)
   obtain ⟨p, hp0⟩ : ∃ p, ps[0]? = some p := ⟨_, List.getElem?_eq_getElem (by rw [R.length]; exact Nat.zero_lt_one)⟩
   obtain ⟨r, hr, hp⟩ := gI R hp0
   obtain rfl : r = (k, z) := by have : some (k, z) = some r := hr; cases this; rfl
   have at0 : atI (ps.map V.ref) 0 = some (V.ref p) := jL (by rw [List.getElem?_map, hp0]; rfl)
   refine ixL hl at0 (ixT (j := 0) hp rfl rfl (ixL hl at0 (ixT (j := 1) hp rfl rfl ⟨aK (show 3 ≤ 1000000 by decide), fun tp2 htp => ?_⟩)))
   have S := aq.upd (o := .tup [V.str "leaf", .int (k : Int), .str z]) htp
   have hz : bE z := tw.vz (k, z) (by simp [au])
   exact q tp2 (lfT k z) g _ (aB.same S) (s.same (by omega) S) Sub.rfl' af (kH (by omega) hz) (by have := my (k := k) hz; omega) (.leaf k z)
 · have R : bH H ps [(k1, z1), (k2, z2)] := R
   have ml : (ps.map V.ref).length = 2 := ml
   have lp : ps.length = 2 := by rw [List.length_map] at ml; exact ml
   obtain ⟨p0, p1, rfl⟩ : ∃ p0 p1, ps = [p0, p1] := by
     match ps, lp with
     | [p0, p1], _ => exact ⟨p0, p1, rfl⟩
   have hz1 : bE z1 := tw.vz (k1, z1) (by simp [au])
   have hz2 : bE z2 := tw.vz (k2, z2) (by simp [au])
   cases R with
   | cons w0 R =>
   cases R with
   | cons w1 R =>
   cases R
   have at0 : atI ([p0, p1].map V.ref) 0 = some (V.ref p0) := rfl
   have at1 : atI ([p0, p1].map V.ref) 1 = some (V.ref p1) := rfl
   have wl := wf.2.2.2.1
   have wr := wf.2.2.2.2
   have m0 : k1 / 2 ^ (B - (d + 1)) = 2 * e := wl.2
   have m1 : k2 / 2 ^ (B - (d + 1)) = 2 * e + 1 := wr.2
   have s0 : st B k1 d = e := (WF.left wf (k1, z1) (by simp [au])).1
   have s1 : st B k2 d = e := (WF.right wf (k2, z2) (by simp [au])).1
   refine Sel.dec (fun h => absurd (show ((2 : Nat) : Int) = 0 from h) (by decide)) (fun _ => ?_)
   refine .inl (.inl ⟨_, SqL.of hl, ?_⟩)
   refine Sel.dec (fun h => absurd (show ((2 : Nat) : Int) = 1 from h) (by decide)) (fun _ => ?_)
   refine ⟨⟨by omega, by omega, by decide⟩, ⟨by decide, by decide⟩, ?_⟩
   have e0 : (1 : Int) * 2 ^ (B : Int).toNat / 2 = ((2 ^ (B - (0 + 1)) : Nat) : Int) := by
     have h2 : 2 ^ B = 2 ^ (B - (0 + 1)) * 2 := by rw [← Nat.pow_succ]; congr 1; omega
     rw [show (B : Int).toNat = B by omega, Int.one_mul, ← je, h2]; omega
   show sA K A _ [some (.ref f), some (.int (B : Int)), some (.ref l), some (.int ((1 : Int) * 2 ^ (B : Int).toNat / 2)), none, none] H
   rw [e0]
   refine ⟨fun mm σ H' => ∃ c : Nat, c ≤ d ∧ mm = d - c ∧ H' = H ∧ σ = [some (.ref f), some (.int (B : Int)), some (.ref l), some (.int ((2 ^ (B - (c + 1)) : Nat) : Int)), some (.int (c : Int)), none], ⟨d, 0, Nat.zero_le _, rfl, rfl, rfl⟩, ?_⟩
   rintro mm σ G ⟨c, hc, rfl, eG, rfl⟩
   have eG := eG.symm
   subst eG
   have rb := xW (c := c) B60
   refine ixL hl at0 (ixT (j := 0) w0 rfl rfl ⟨⟨rb.1, by omega⟩, ixL hl at1 (ixT (j := 0) w1 rfl rfl ⟨⟨rb.1, by omega⟩, ?_⟩)⟩)
   show (if decide ((k1 : Int) / ((2 ^ (B - (c + 1)) : Nat) : Int) = (k2 : Int) / ((2 ^ (B - (c + 1)) : Nat) : Int)) = true then _ else _)
   rw [jP, jP]
   by_cases hcd : c < d
   · have es : k1 / 2 ^ (B - (c + 1)) = k2 / 2 ^ (B - (c + 1)) := jD (show c + 1 ≤ d by omega) (by omega) (by rw [s0, s1])
     rw [if_pos (decide_eq_true (by rw [es]))]
     refine ⟨fun σ' H' => H' = _ ∧ σ' = [some (.ref f), some (.int (B : Int)), some (.ref l), some (.int ((2 ^ (B - (c + 1 + 1)) : Nat) : Int)), some (.int ((c + 1 : Nat) : Int)), none], fun σ' H' ⟨e1, e2⟩ => ⟨d - (c + 1), by omega, c + 1, hcd, rfl, e1, e2⟩, ⟨by decide, by decide⟩, rfl, ?_⟩
     rw [← Fi (by omega)]; rfl
   · have ecd : c = d := by omega
     subst ecd
     rw [if_neg (by rw [m0, m1]; exact fun h => absurd (of_decide_eq_true h) (by omega))]
     have hd2 : (2 : Int) * ((2 ^ (B - (c + 1)) : Nat) : Int) = ((2 ^ (B - c) : Nat) : Int) := by
       have h2 : 2 ^ (B - c) = 2 ^ (B - (c + 1)) * 2 := by rw [← Nat.pow_succ]; congr 1; omega
       rw [h2]; omega
     show tO K A _ [some (.ref f), some (.int (B : Int)), some (.ref l), some (.int ((2 ^ (B - (c + 1)) : Nat) : Int)), some (.int (c : Int)), none] H
     refine ⟨l, rfl, .inl ⟨⟨_, SqL.of hl⟩, fun D hD => ?_⟩⟩
     have ok1 := kH (k := k1) (z := z1) (by omega) hz1
     have ok2 := kH (k := k2) (z := z2) (by omega) hz2
     have kbD : aB b H (upd H D (.lst [])) := aB.same (aq.upd hD)
     refine uI (cD.list (xs := [p0, p1].map V.ref) .non) (fun i ys H' => ∃ g', aB b H H' ∧ Stp A H' f b g' (n + i) ∧ Sub g g' ∧ H' D = some (.lst ys) ∧ ((i = 0 ∧ ys = []) ∨ (i = 1 ∧ ∃ m1, ys = [kV m1] ∧ g' (lfT k1 z1) = some m1 ∧ cQ (lfT k1 z1) m1) ∨ (i = 2 ∧ ∃ m1 m2, ys = [kV m1, kV m2] ∧ g' (lfT k1 z1) = some m1 ∧ g' (lfT k2 z2) = some m2 ∧ cQ (lfT k1 z1) m1 ∧ cQ (lfT k2 z2) m2)))
       (fun i ys H' _ ⟨g', kb, _⟩ => SqL.of (kb _ _ (s.nb hl fun _ z => nomatch z) hl)) ⟨g, kbD, s.same (Nat.le_refl _) (aq.upd hD), Sub.rfl', af, .inl ⟨rfl, rfl⟩⟩ ?_ ?_
     · rintro i ys H2 hi ⟨g', kb, s', sub, hD2, cs⟩
       have hi : i < 2 := hi
       have step : ∀ (k : Nat) (z : Str) (p : Addr), ([p0, p1].map V.ref).getD i .non = .ref p → H p = some (.tup [.int (k : Int), .str z]) → okT (lfT k z) = true → (∀ m g2 H3, aB b H H3 → Stp A H3 f b g2 (n + (i + 1)) → Sub g' g2 → g2 (lfT k z) = some m → cQ (lfT k z) m → H3 D = some (.lst ys) → ((i + 1 = 0 ∧ ys ++ [kV m] = []) ∨ (i + 1 = 1 ∧ ∃ m1, ys ++ [kV m] = [kV m1] ∧ g2 (lfT k1 z1) = some m1 ∧ cQ (lfT k1 z1) m1) ∨ (i + 1 = 2 ∧ ∃ m1 m2, ys ++ [kV m] = [kV m1, kV m2] ∧ g2 (lfT k1 z1) = some m1 ∧ g2 (lfT k2 z2) = some m2 ∧ cQ (lfT k1 z1) m1 ∧ cQ (lfT k2 z2) m2))) → ys.length < 10 →
           ∃ a v0 v1, ([p0, p1].map V.ref).getD i .non = .ref a ∧ SqT K H2 a [v0, v1] ∧ (fun (_ : L2.St) H Q => Q true H) (some v0 :: some v1 :: aI [some (.ref f), some (.int (B : Int)), some (.ref l), some (.int ((2 ^ (B - (c + 1)) : Nat) : Int)), some (.int (c : Int)), none] [0]) H2 fun b' H4 => if b' = true then
             iS (gA K A) (fun _ => E0) (ae 2) (ac (dE (ac (tC (.str "leaf")) (ac (ae 0) (ac (ae 1) (ai))))) (ai)) (some v0 :: some v1 :: aI [some (.ref f), some (.int (B : Int)), some (.ref l), some (.int ((2 ^ (B - (c + 1)) : Nat) : Int)), some (.int (c : Int)), none] [0]) H4 fun y H5 => H5 D = some (.lst ys) ∧ ys.length < sizeLine ∧ ∃ m', m' < 2 - i ∧ CWd 2 (fun i ys H' => ∃ g', aB b H H' ∧ Stp A H' f b g' (n + i) ∧ Sub g g' ∧ H' D = some (.lst ys) ∧ ((i = 0 ∧ ys = []) ∨ (i = 1 ∧ ∃ m1, ys = [kV m1] ∧ g' (lfT k1 z1) = some m1 ∧ cQ (lfT k1 z1) m1) ∨ (i = 2 ∧ ∃ m1 m2, ys = [kV m1, kV m2] ∧ g' (lfT k1 z1) = some m1 ∧ g' (lfT k2 z2) = some m2 ∧ cQ (lfT k1 z1) m1 ∧ cQ (lfT k2 z2) m2))) (i + 1) m' (ys ++ [y]) (upd H5 D (.lst (ys ++ [y])))
             else ∃ m', m' < 2 - i ∧ CWd 2 (fun i ys H' => ∃ g', aB b H H' ∧ Stp A H' f b g' (n + i) ∧ Sub g g' ∧ H' D = some (.lst ys) ∧ ((i = 0 ∧ ys = []) ∨ (i = 1 ∧ ∃ m1, ys = [kV m1] ∧ g' (lfT k1 z1) = some m1 ∧ cQ (lfT k1 z1) m1) ∨ (i = 2 ∧ ∃ m1 m2, ys = [kV m1, kV m2] ∧ g' (lfT k1 z1) = some m1 ∧ g' (lfT k2 z2) = some m2 ∧ cQ (lfT k1 z1) m1 ∧ cQ (lfT k2 z2) m2))) (i + 1) m' ys H4 := by
         intro k z p hp hpt okk fin yl
         have hp2 := kb _ _ (s.nb hpt fun _ z => nomatch z) hpt
         refine ⟨p, .int (k : Int), .str z, hp, SqT.of hp2, ?_⟩
         show (if true = true then _ else _)
         rw [if_pos rfl]
         refine ⟨f, rfl, s'.clo, aK (show 3 ≤ 1000000 by decide), fun t ht => ?_⟩
         have St := aq.upd (o := .tup [V.str "leaf", .int (k : Int), .str z]) ht
         refine Fz ?_
         refine jk (k := lfT k z) (s'.same (Nat.le_refl _) St) (by omega) af okk fun m H3 g3 kb3 s3 sub3 gm so => ?_
         have kb4 := kb.trans ((aB.same St).trans kb3)
         have hD3 := ((aB.same (b := b) St).trans kb3) _ _ (s'.nb hD2 fun _ z => nomatch z) hD2
         refine ⟨hD3, Nat.lt_of_le_of_lt (m := 10) (by omega) (by decide), CWd.next hi ⟨g3, fun x o nx ex => ?_, ?_, sub.trans sub3, af, fin m g3 H3 kb4 s3 sub3 gm so hD3⟩⟩
         · rw [ak (ar ex hD)]; exact kb4 x o nx ex
         · refine s3.keep (by omega) fun x o ex hx => ?_
           rw [ak fun zx => ?_]
           · exact ex
           · subst zx; rw [hD3] at ex; cases ex
             rcases hx with ⟨_, w⟩ | ⟨_, _, w⟩ | ⟨_, _, _, w⟩ <;> cases w
       have hc : i = 0 ∨ i = 1 := by omega
       rcases hc with rfl | rfl
       · obtain rfl : ys = [] := by
           rcases cs with ⟨_, h⟩ | ⟨h, _⟩ | ⟨h, _⟩
           · exact h
           · cases h
           · cases h
         exact step k1 z1 p0 rfl w0 ok1 (fun m g2 H3 _ _ _ gm so _ => .inr (.inl ⟨rfl, m, rfl, gm, so⟩)) (by decide)
       · obtain ⟨m1, rfl, gm1, so1⟩ : ∃ m1, ys = [kV m1] ∧ g' (lfT k1 z1) = some m1 ∧ cQ (lfT k1 z1) m1 := by
           rcases cs with ⟨h, _⟩ | ⟨_, h⟩ | ⟨h, _⟩
           · cases h
           · exact h
           · cases h
         exact step k2 z2 p1 rfl w1 ok2 (fun m g2 H3 _ _ sb gm so _ => .inr (.inr ⟨rfl, m1, m, rfl, sb _ _ gm1, gm, so1, so⟩)) (by show 1 < 10; decide)
     · rintro ys H2 ⟨g', kb, s', sub, hD2, cs⟩
       obtain ⟨m1, m2, rfl, gm1, gm2, so1, so2⟩ : ∃ m1 m2, ys = [kV m1, kV m2] ∧ g' (lfT k1 z1) = some m1 ∧ g' (lfT k2 z2) = some m2 ∧ cQ (lfT k1 z1) m1 ∧ cQ (lfT k2 z2) m2 := by
         rcases cs with ⟨h, _⟩ | ⟨h, _⟩ | ⟨_, h⟩
         · cases h
         · cases h
         · exact h
       have hl2 := kb _ _ (s.nb hl fun _ z => nomatch z) hl
       have w02 := kb _ _ (s.nb w0 fun _ z => nomatch z) w0
       show tP K A _ [some (.ref f), some (.int (B : Int)), some (.ref l), some (.int ((2 ^ (B - (c + 1)) : Nat) : Int)), some (.int (c : Int)), some (.ref D)] H2
       refine ixL hl2 at0 (ixT (j := 0) w02 rfl rfl ⟨IntMulOk.of_left (by decide), ⟨by omega, by omega⟩, ?_⟩)
       refine ixL hD2 (jL rfl) (ixL (i := 1) hD2 rfl ⟨aK (show 5 ≤ 1000000 by decide), fun p hp => ?_⟩)
       rw [hd2, jP, show k1 / 2 ^ (B - c) = e from s0]
       have S := aq.upd (o := .tup [V.str "fork", .int (c : Int), .int (e : Int), kV m1, kV m2]) hp
       have l1 := my (k := k1) hz1
       have l2 := my (k := k2) hz2
       have q1 := gd so1 l1 (by decide)
       have q2 := gd so2 l2 (by decide)
       have pe : 2 ^ c ≤ 2 ^ 60 := Nat.pow_le_pow_right (by decide) (by omega)
       refine q p (fkT c e m1 m2) g' _ (kb.trans (aB.same S)) (s'.same (Nat.le_refl _) S) sub af (xy (by omega) (by omega) q1.1 q2.1) ?_ (.fork c e k1 k2 z1 z2 m1 m2 gm1 gm2)
       have := xq (d := c) (b := e) (l := m1) (r := m2)
       omega
theorem mU {H:Hp} {Q:VK} {p r:Addr} {d:Dat} (hp:cf H (.ref p) d) (hr:cf H (.ref r) d) (ok:okD d=true) (dp:(iE d).depth≤150) (q:Q (.bl false) H):dR K (.ref p) (.ref r) H Q:=
 ⟨_,_,hp.toV ok,hr.toV ok,ie ok,ie ok,dp,by rw [PySem.SeqAt.eqv_refl _ (ie ok)];exact q⟩
theorem kG {H:Hp} {kd:Addr} {kvs:List (Key×V)} (h:H kd=some (.dK kvs)):tyV K "dict" (.ref kd) H:=.inr (.inr (.inl ⟨rfl,.inl ⟨_,h⟩⟩))
theorem zO {x:Key} (h:okP x=true):okD (ej x)=true:=by
 cases x with
 | inl i=>rfl
 | inr z=>exact h
theorem ja {H : Hp} {p : Addr} {k : List Key} (hp : H p = some (.tup (k.map kV))) : cf H (.ref p) (.tup (k.map ej)) := by
  refine .tup hp ?_
  clear hp
  induction k with
  | nil => exact .nil
  | cons x r ih =>
    cases x with
    | inl i => exact .cons (.int i) ih
    | inr z => exact .cons (.str z) ih
theorem pW {k : List Key} (h : k.all okP = true) : okD (.tup (k.map ej)) = true := by
  show okDs (k.map ej) = true
  induction k with
  | nil => rfl
  | cons x r ih =>
    have h := Bool.and_eq_true_iff.mp h
    show (okD (ej x) && okDs (r.map ej)) = true
    rw [zO h.1, ih h.2]; rfl
theorem pG (k : List Key) : (iE (.tup (k.map ej))).depth ≤ 150 := by
  have e : PyData.depthAll (toPys (k.map ej)) ≤ 0 := by
    induction k with
    | nil => exact Nat.zero_le _
    | cons r rs ih =>
      cases r with
      | inl i => show max 0 (PyData.depthAll (toPys (rs.map ej))) ≤ 0; omega
      | inr i => show max 0 (PyData.depthAll (toPys (rs.map ej))) ≤ 0; omega
  show PyData.depthAll (toPys (k.map ej)) + 1 ≤ 150
  omega
theorem Ck {σ:L2.St} {H:Hp} {i k:Nat} {p r:Addr} {d:Dat} {Qb:Bool→Hp→Prop} (hi:σ[i]?=some (some (.ref p))) (hk:σ[k]?=some (some (.ref r))) (hp:cf H (.ref p) d) (hr:cf H (.ref r) d) (ok:okD d=true) (dp:(iE d).depth≤150) (q:Qb false H):aZ (tOp (dR K) (ae i) (ae k)) σ H Qb:=by
 unfold aZ tOp
 exact sy hi (sy hk (mU hp hr ok dp q))
theorem BW {H : Hp} {Q : VK} {o : Option Str} (q : Q (.bl false) H) : dR K (ov o) (ov o) H Q := by
  cases o with
  | none => exact q
  | some z =>
    show Q (.bl (!decide (z = z))) H
    rw [decide_eq_true rfl]; exact q
theorem BH (K:W.Frag) (A:Adr):Ln (kS K A) 2:=by rintro vs H Q E ⟨_,_,_,_,_,_,rfl,_⟩;rfl
theorem Dj (T:Txt K mg A):Rd (kS K A) (FF K A) ["_law_stamper_here", "_law_term", "_law_knot"]:=by
 intro vs H Q E h
 obtain ⟨f,b,p,g,n,k,rfl,s,hn,hp,ok,q⟩:=h
 intro x dx hx hdx ne
 have S0:=bB (o:=.own x) (u:=.ins A.c_Knot dx []) hx hdx ne
 refine ⟨x,dx,A.c_Knot,f,b,p,g,n,k,rfl,af,T.cl_Knot,T.na_Knot_term,T.na_Knot_mark,s.same (Nat.le_refl _) S0,by omega,S0 _ _ hp,ok,fun m g1 H1 k2 o1 s1 sub1 gm so=>⟨rfl,?_⟩⟩
 have kb:=dB hx hdx ne k2
 have hp1:=kb _ _ (s.nb hp fun _ z=>nomatch z) hp
 refine ⟨x,_,dx,_,_,rfl,o1,T.cl_Knot,T.na_Knot_term,rfl,p,p,k,rfl,hp1,hp1,(fX ok).2,fun H2 S2=>Sel.t ?_⟩
 have s2:=s1.same (Nat.le_refl _) S2
 refine ⟨x,_,dx,_,_,rfl,S2 _ _ o1,T.cl_Knot,T.na_Knot_mark,rfl,f,rfl,s2.clo,?_⟩
 refine lK rfl (jk s2 (by omega) (S2 _ _ hp1) ok fun v H3 g3 kb3 s3 sub3 gv _=>?_)
 have ev:some v=some m:=by rw [← gv];exact sub3 _ _ gm
 cases ev
 refine uq ?_
 rw [decide_eq_true rfl]
 exact q g3 H3 (kb.trans ((aB.same S2).trans kb3)) (s3.same (by omega) (.refl _)) (sub1.trans sub3)
theorem oq (T:Txt K mg A) {j:Nat} {H:Hp} {Q:VK} {f x l kl:Addr} {g:GK} {B:Nat} {t:Kn Str} {m:Key} {ps:List Addr} {ks:List Nat} {x5 x6:Option V} (k:KnA A H g x t m) (tw:Two B t) (B60:B≤60) (hh:hgt t<70) (hl:H l=some (.lst (ps.map V.ref))) (R:bH H ps (au t)) (hk:H kl=some (.lst (ks.map fun k:Nat=>V.int (k:Int)))) (dp:jE B t)
   (q:∀ H',aq H H'→Q (.bl true) H'):
   tX K A j { nx:=fun _ H'=>Q .non H',rt:=Q } [some (.ref x),some (.ref f),some (.int (B:Int)),some (.ref l),some (.ref kl),x5,x6,none,none,none] H:=by
 refine jB k hh (by have:=tw.ln;omega) fun l2 ps2 H1 S1 hn2 hl2 R2=>?_
 show sV K A j _ [some (.ref x),some (.ref f),some (.int (B:Int)),some (.ref l),some (.ref kl),x5,x6,some (.ref l2),none,none] H1
 have ty:tyN H1 (.ref l2)=some "list" :=by unfold tyN;dsimp only;rw [hl2]
 have hl1:=S1 _ _ hl
 have R1:=R.mono S1
 refine ⟨by decide, "list",ty,Sel.no rfl ?_⟩
 refine Ck (i:=7) (k:=3) rfl rfl (nG hl2 R2) (nG hl1 R1) (we tw.vz) (wF _) (Sel.no rfl ?_)
 show tF K A j _ [some (.ref x),some (.ref f),some (.int (B:Int)),some (.ref l),some (.ref kl),x5,x6,some (.ref l2),none,none] H1
 refine ⟨l,ps,(au t).map fR,rfl,hl1,⟨by rw [List.length_map];exact R.length,fun i p r hi hr=>?_⟩,by rw [R.length];have:=tw.ln;omega,?_,fun d hd=>?_⟩
 · obtain ⟨r0,e0,e1⟩:=gI R1 hi
   rw [List.getElem?_map,e0] at hr
   cases hr
   exact e1
 · rw [List.map_map]
   have up:=tw.wf.up.1
   exact List.pairwise_map.mpr (up.imp fun {a b} h z=>by have z:(a.1:Int)=(b.1:Int):=z;omega)
 have Sd:=aq.upd (o:=.dK (cj ((au t).map fR))) hd
 have S2:=S1.trans Sd
 have hd2:upd H1 d (.dK (cj ((au t).map fR))) d=some (.dK (dOf (au t))):=by rw [af,lF];rfl
 generalize upd H1 d (.dK (cj ((au t).map fR)))=H2 at S2 hd2
 show pH K A j _ [some (.ref x),some (.ref f),some (.int (B:Int)),some (.ref l),some (.ref kl),x5,x6,some (.ref l2),some (.ref d),none] H2
 have k2:=k.same S2
 refine ⟨kl,rfl,.inl ⟨⟨_,SqL.of (S2 _ _ hk)⟩,?_⟩⟩
 refine oJ (xs:=ks.map fun k:Nat=>V.int (k:Int)) (fun i σ H'=>H'=H2∧∃ x9,σ=[some (.ref x),some (.ref f),some (.int (B:Int)),some (.ref l),some (.ref kl),x5,x6,some (.ref l2),some (.ref d),x9]) ⟨rfl,none,rfl⟩ ?_ ?_ ?_
 · rintro i σ H' _ ⟨e,_⟩;rw [e];exact SqL.of (S2 _ _ hk)
 · rintro i v σ H' hv ⟨e,x9,rfl⟩
   have e:=e.symm
   subst e
   obtain ⟨key,_,rfl⟩:=dq hv
   refine iJ k2 dp hh ?_
   have dg:cB H2 d (.int (key:Int)) ((ax B key t).map V.str):=by
    have e2:ax B key t=look key (au t):=tw.wf.up.2 key
    rw [e2,←lG];exact cB.k (k:=.inl (key:Int)) hd2
   refine ⟨kG hd2,d,_,_,rfl,rfl,dg,?_⟩
   have eo:((ax B key t).map V.str).getD .non=ov (ax B key t):=by cases ax B key t <;> rfl
   rw [eo]
   exact BW (Sel.no rfl ⟨rfl,_,rfl⟩)
 · rintro σ H' ⟨e,x9,rfl⟩
   rw [e]
   exact q _ S2
theorem KnA.term {H : Hp} {g : List Key → Option Key} {x : Addr} {t : Kn Str} {m : Key} {k : List Key} (h : KnA A H g x t m) (tm : fm g t k) : ∃ dx p fs, H x = some (.ins (clK A t) dx ((("term" : Str), .ref p) :: (("mark" : Str), kV m) :: fs)) ∧ H p = some (.tup (k.map kV)) ∧ g k = some m := by
  cases tm with
  | bare => cases h with | bare o ht hm ok sz => exact ⟨_, _, _, o, ht, hm⟩
  | leaf k z => cases h with | leaf o ht hm ok sz hz => exact ⟨_, _, _, o, ht, hm⟩
  | fork d e k1 k2 z1 z2 m1 m2 h1 h2 =>
    cases h with
    | fork o hl hr ht hm ok sz =>
      cases hl with
      | leaf _ _ hml _ _ _ =>
        cases hr with
        | leaf _ _ hmr _ _ _ =>
          have e1 : some m1 = some _ := h1.symm.trans hml
          have e2 : some m2 = some _ := h2.symm.trans hmr
          cases e1
          cases e2
          exact ⟨_, _, _, o, ht, hm⟩
theorem mj (T:Txt K mg A) (t:Kn Str):Cls K (clK A t)∧iQ K (clK A t)∧bp K (clK A t) "term" ∧bp K (clK A t) "mark" ∧W.kitOne K (.ref (clK A t)) (.ref A.c_Knot)=some true∧W.kitOne K (.ref (clK A t)) (.ref A.c_Bare)=some (decide (kdK t=0))∧W.kitOne K (.ref (clK A t)) (.ref A.c_Leaf)=some (decide (kdK t=1))∧W.kitOne K (.ref (clK A t)) (.ref A.c_Fork)=some (decide (kdK t=2)):=by
 cases t with
 | bare=>exact ⟨T.cl_Bare,T.oi_Bare,T.na_Bare_term,T.na_Bare_mark,T.ko_Bare_Knot,T.ko_Bare_Bare,T.ko_Bare_Leaf,T.ko_Bare_Fork⟩
 | leaf _ _=>exact ⟨T.cl_Leaf,T.oi_Leaf,T.na_Leaf_term,T.na_Leaf_mark,T.ko_Leaf_Knot,T.ko_Leaf_Bare,T.ko_Leaf_Leaf,T.ko_Leaf_Fork⟩
 | fork _ _ _ _=>exact ⟨T.cl_Fork,T.oi_Fork,T.na_Fork_term,T.na_Fork_mark,T.ko_Fork_Knot,T.ko_Fork_Bare,T.ko_Fork_Leaf,T.ko_Fork_Fork⟩
theorem qd {H:Hp} {l:Addr} {bs:List Bool} (h:H l=some (.lst (bs.map V.bl))):cf H (.ref l) (.lst (bs.map Dat.bl)):=by
 refine .lst h ?_
 clear h
 induction bs with
 | nil=>exact .nil
 | cons x r ih=>exact .cons (.bl x) ih
theorem Two.kd {B:Nat} {t:Kn Str} (h:Two B t):kdK t=(au t).length:=by
 rcases h.shape with rfl | ⟨k,z,rfl,_⟩ | ⟨d,e,k1,z1,k2,z2,rfl,_⟩ <;> rfl
theorem Two.dp {B:Nat} {t:Kn Str} (h:Two B t):jE B t:=by
 rcases h.shape with rfl | ⟨k,z,rfl,_⟩ | ⟨d,e,k1,z1,k2,z2,rfl,hd,he,_⟩
 · trivial
 · trivial
 · exact ⟨hd,he,trivial,trivial⟩
theorem Two.hgt {B:Nat} {t:Kn Str} (h:Two B t):hgt t≤1:=by
 rcases h.shape with rfl | ⟨k,z,rfl,_⟩ | ⟨d,e,k1,z1,k2,z2,rfl,_⟩
 · exact Nat.zero_le _
 · exact Nat.zero_le _
 · exact Nat.le_refl _
theorem fi {B k:Nat} {z:Str}:Kno B [(k,z)] (.leaf k z):=⟨by simp,by show 1≤63;decide,fun _=>rfl⟩
theorem eB {B k:Nat} {z:Str} (hk:k<2^B) (hz:bE z):Two B (.leaf k z):=⟨.inr ⟨hk,by unfold st;rw [Nat.sub_zero];exact Nat.div_eq_of_lt hk⟩,by show 1≤2;decide,fun p hp=>by rw [List.mem_singleton.mp hp];exact hz⟩
theorem zy (T:Txt K mg A) {j:Nat} {H:Hp} {Q:VK} {f b x l kl du:Addr} {g:GK} {n B:Nat} {t:Kn Str} {m:Key} {k:List Key} {ps:List Addr} {ks:List Nat} {x6:Option V} (kn:KnA A H g x t m) (s:Stp A H f b g n) (hn:n+100*hgt t≤33010) (tw:Two B t) (B1:1≤B) (B60:B≤60) (hj:hgt t<j+1) (hl:H l=some (.lst (ps.map V.ref))) (R:bH H ps (au t)) (hk:H kl=some (.lst (ks.map fun k:Nat=>V.int (k:Int)))) (kb:∀ k∈ks,k<2^B) (k3:ks.length≤3) (hd:H du=some (.tup (k.map kV))) (tm:fm g t k)
   (q:∀ (g':GK) (H':Hp),aB b H H'→Stp A H' f b g' (n+10+60*hgt t)→Sub g g'→Q (.bl true) H'):
   ug K A j { nx:=fun _ H'=>Q .non H',rt:=Q } [some (.ref x),some (.ref f),some (.int (B:Int)),some (.ref l),some (.ref kl),some (.ref du),x6,none,none,none] H:=by
 obtain ⟨c1,c2,c3,c4,c5,c6,c7,c8⟩:=mj T t
 obtain ⟨dx,pt,fs,ob,hpt,gm⟩:=kn.term tm
 have p60:2^B≤2^60:=Nat.pow_le_pow_right (by decide) B60
 refine ⟨x,_,dx,_,A.c_Leaf,_,rfl,ob,c1,c2,c7,?_⟩
 have hh:hgt t<70:=by have:=tw.hgt;omega
 rcases tw.shape with rfl | ⟨k1,z,rfl,hk1⟩ | ⟨d,e,k1,z1,k2,z2,rfl,hd',he,hk1,hk2,lt,wf⟩
 · refine Sel.no rfl (Sel.no rfl ?_)
   show kj K A j _ [some (.ref x),some (.ref f),some (.int (B:Int)),some (.ref l),some (.ref kl),some (.ref du),x6,none,none,none] H
   refine ⟨x,_,dx,_,A.c_Fork,_,rfl,ob,c1,c2,c8,Sel.no rfl ?_⟩
   exact oq T kn tw B60 hh hl R hk tw.dp fun H' S=>q g H' (aB.same S) (s.same (by omega) S) Sub.rfl'
 · refine Sel.yes rfl ?_
   have hz:bE z:=tw.vz (k1,z) (by simp [au])
   cases kn with
   | @leaf _ dx2 tp _ _ _ o ht hm ok sz hz2=>
   refine ⟨x,_,dx2,_,_,rfl,o,T.cl_Leaf,T.na_Leaf_key,rfl,x,_,dx2,_,_,rfl,o,T.cl_Leaf,T.na_Leaf_text,rfl,aK (show 2≤1000000 by decide),fun p hp=>?_⟩
   have S:=aq.upd (o:=.tup [V.int (k1:Int),V.str z]) hp
   cases R with
   | @cons p0 _ ps' _ w0 R=>
   refine ixL (S _ _ hl) (jL rfl) ?_
   refine mU (ja (k:=[.inl (k1:Int),.inr z]) af) (ja (k:=[.inl (k1:Int),.inr z]) (S _ _ w0)) (pW ?_) (pG _) (Sel.no rfl ?_)
   · show (okP (.inl (k1:Int))&&(okP (.inr z)&&true))=true
     rw [iV (by omega),okZ hz];rfl
   show kj K A j _ [some (.ref x),some (.ref f),some (.int (B:Int)),some (.ref l),some (.ref kl),some (.ref du),x6,none,none,none] _
   have kn2:KnA A (upd H p (.tup [V.int (k1:Int),V.str z])) g x (.leaf k1 z) m:=(KnA.leaf o ht hm ok sz hz2).same S
   refine ⟨x,_,_,_,A.c_Fork,_,rfl,S _ _ ob,c1,c2,c8,Sel.no rfl ?_⟩
   exact oq T kn2 tw B60 hh (S _ _ hl) (.cons (S _ _ w0) ((show bH H ps' [] from R).mono S)) (S _ _ hk) tw.dp fun H' S'=>q g H' (aB.same (S.trans S')) (s.same (by omega) (S.trans S')) Sub.rfl'
 · refine Sel.no rfl (Sel.no rfl ?_)
   show kj K A j _ [some (.ref x),some (.ref f),some (.int (B:Int)),some (.ref l),some (.ref kl),some (.ref du),x6,none,none,none] H
   refine ⟨x,_,dx,_,A.c_Fork,_,rfl,ob,c1,c2,c8,Sel.yes rfl ?_⟩
   have hz1:bE z1:=tw.vz (k1,z1) (by simp [au])
   have hz2:bE z2:=tw.vz (k2,z2) (by simp [au])
   have R:bH H ps [(k1,z1),(k2,z2)]:=R
   have hj:0<j:=by have hj:1<j+1:=hj;omega
   cases tm with
   | fork _ _ _ _ _ _ m1 m2 g1 g2=>
   cases kn with
   | @fork _ dx2 tp lx rx _ ml mr _ _ _ _ o hlk hrk ht hm ok sz=>
   have kn0:=KnA.fork o hlk hrk ht hm ok sz
   refine ⟨x,_,dx2,_,_,rfl,o,T.cl_Fork,T.na_Fork_depth,rfl,x,_,dx2,_,_,rfl,o,T.cl_Fork,T.na_Fork_begin,rfl,aK (show 2≤1000000 by decide),fun p hp=>?_⟩
   have S1:=aq.upd (o:=.tup [V.int (d:Int),V.int (e:Int)]) hp
   have hp1:upd H p (.tup [V.int (d:Int),V.int (e:Int)]) p=some (.tup (([.inl (d:Int),.inl (e:Int)]:List Key).map kV)):=af
   generalize upd H p (.tup [V.int (d:Int),V.int (e:Int)])=H1 at S1 hp1
   refine ⟨1,rfl,3,rfl,.inl (.inr ⟨du,_,rfl,S1 _ _ hd,fun p2 H2 S2 hp2=>?_⟩)⟩
   have hp2:H2 p2=some (.tup (([.inl (d:Int),.inl (e:Int)]:List Key).map kV)):=hp2
   have p2d:2^d≤2^60:=Nat.pow_le_pow_right (by decide) (by omega)
   have d60:d<2^60:=by have:d<2^d:=Nat.lt_two_pow_self;omega
   refine mU (ja (S2 _ _ hp1)) (ja hp2) (pW ?_) (pG _) (Sel.no rfl ?_)
   · show (okP (.inl (d:Int))&&(okP (.inl (e:Int))&&true))=true
     rw [iV d60,iV (by omega)];rfl
   have S12:=S1.trans S2
   cases R with
   | @cons p0 _ ps' _ w0 R=>
   cases R with
   | @cons p1 _ ps'' _ w1 R=>
   cases R
   refine ⟨x,_,dx2,_,_,rfl,S12 _ _ o,T.cl_Fork,T.na_Fork_left,rfl,1,rfl,.inl (.inl ⟨l,_,rfl,SqL.of (S12 _ _ hl),fun l1 hl1=>?_⟩)⟩
   have S3:=S12.trans (aq.upd (o:=.lst (dO ([p0,p1].map V.ref) none (some 1))) hl1)
   have hl1':upd H2 l1 (.lst (dO ([p0,p1].map V.ref) none (some 1))) l1=some (.lst ([p0].map V.ref)):=af
   generalize upd H2 l1 (.lst (dO ([p0,p1].map V.ref) none (some 1)))=H3 at S3 hl1'
   refine ⟨f,b,lx,l1,kl,g,n,B,.leaf k1 z1,ml,[(k1,z1)],[p0],ks,rfl,⟨hlk.same S3,s.same (Nat.le_refl _) S3,B1,B60,eB hk1 hz1,fi,hl1',.cons (S3 _ _ w0) .nil,S3 _ _ hk,kb,k3⟩,by have hn:n+100*(max 0 0+1)≤33010:=hn;show n+100*0≤33000;omega,hj,fun g4 H4 kb4 s4 sub4=>Sel.no rfl ?_⟩
   have s3:=s.same (m:=n) (Nat.le_refl _) S3
   have nb:∀ {z:Addr} {o:HO},H3 z=some o→(∀ kvs,o≠ .dT kvs)→H4 z=some o:=fun e h=>kb4 _ _ (s3.nb e h) e
   have o4:=nb (S3 _ _ o) fun _ z=>nomatch z
   have hl4:=nb (S3 _ _ hl) fun _ z=>nomatch z
   have w14:=nb (S3 _ _ w1) fun _ z=>nomatch z
   have hk4:=nb (S3 _ _ hk) fun _ z=>nomatch z
   have w04:=nb (S3 _ _ w0) fun _ z=>nomatch z
   refine ⟨x,_,dx2,_,_,rfl,o4,T.cl_Fork,T.na_Fork_right,rfl,1,rfl,.inl (.inl ⟨l,_,rfl,SqL.of hl4,fun l5 hl5=>?_⟩)⟩
   have S5:=aq.upd (o:=.lst (dO ([p0,p1].map V.ref) (some 1) none)) hl5
   have hl5':upd H4 l5 (.lst (dO ([p0,p1].map V.ref) (some 1) none)) l5=some (.lst ([p1].map V.ref)):=af
   generalize upd H4 l5 (.lst (dO ([p0,p1].map V.ref) (some 1) none))=H5 at S5 hl5'
   have hr4:=(hrk.same S3).kb s3 kb4 sub4
   have s5:=s4.same (Nat.le_refl _) S5
   refine ⟨f,b,rx,l5,kl,g4,_,B,.leaf k2 z2,mr,[(k2,z2)],[p1],ks,rfl,⟨hr4.same S5,s5,B1,B60,eB hk2 hz2,fi,hl5',.cons (S5 _ _ w14) .nil,S5 _ _ hk4,kb,k3⟩,by have hn:n+100*(max 0 0+1)≤33010:=hn;show n+20+60*0+100*0≤33000;omega,hj,fun g6 H6 kb6 s6 sub6=>Sel.no rfl ?_⟩
   have nb6:∀ {z:Addr} {o:HO},H5 z=some o→(∀ kvs,o≠ .dT kvs)→H6 z=some o:=fun e h=>kb6 _ _ (s5.nb e h) e
   have kn6:=(((kn0.same S3).kb s3 kb4 sub4).same S5).kb s5 kb6 sub6
   have kbt:aB b H H6:=((aB.same S3).trans kb4).trans ((aB.same S5).trans kb6)
   refine oq (ps:=[p0,p1]) T kn6 tw B60 hh (nb6 (S5 _ _ hl4) fun _ z=>nomatch z) (.cons (nb6 (S5 _ _ w04) fun _ z=>nomatch z) (.cons (nb6 (S5 _ _ w14) fun _ z=>nomatch z) .nil)) (nb6 (S5 _ _ hk4) fun _ z=>nomatch z) tw.dp fun H' S'=>q g6 H' (kbt.trans (aB.same S')) (s6.same (by show n+20+60*0+20+60*0≤n+10+60*(max 0 0+1);omega) S') (sub4.trans sub6)
theorem zU (K:W.Frag) (A:Adr) (j:Nat):∀ vs H Q E,dI K A j vs H Q E→vs.length=5:=by rintro vs H Q E ⟨_,_,_,_,_,_,_,_,_,_,_,_,_,rfl,_⟩;rfl
theorem xc (K:W.Frag) (A:Adr):∀ vs H Q E,¬ dI K A 0 vs H Q E:=by rintro vs H Q E ⟨_,_,_,_,_,_,_,_,_,_,_,_,_,_,_,_,h,_⟩;omega
theorem EC (T:Txt K mg A) (j:Nat) (vs:List V) (H:Hp) (Q:VK) (E:XK) (h:dI K A (j+1) vs H Q E):Fy K A j { nx:=fun _ H'=>Q .non H',rt:=Q } (L2.bX ["_law_knot", "_law_stamper_here", "_law_bits", "_law_rows", "_law_keys", "_law_due_here", "_law_classes", "_law_told", "_law_known", "_law_key_here"] vs) H:=by
 obtain ⟨f,b,x,l,kl,g,n,B,t,m,kn,ps,ks,rfl,w,hn,hj,q⟩:=h
 have lk:=w.kno.len w.two.wf
 have l2:=w.two.ln
 refine ⟨l,ps,kn.map fR,rfl,w.hl,⟨by rw [List.length_map];exact w.rw_.length,fun i p r hi hr=>?_⟩,by rw [w.rw_.length];omega,?_,fun l1 ps1 rs1 hl1 pm up pr=>?_⟩
 · obtain ⟨r0,e0,e1⟩:=gI w.rw_ hi
   rw [List.getElem?_map,e0] at hr
   cases hr
   exact e1
 · rw [List.map_map]
   exact List.pairwise_map.mpr ((List.pairwise_map.mp w.kno.nd).imp fun {a b} h z=>h (by have z:(a.1:Int)=(b.1:Int):=z;omega))
 obtain ⟨rs,pm2,rfl⟩:=ou pm
 have up2:dX rs:=(List.pairwise_map.mp up).imp fun {a b} h=>by have h:(a.1:Int)<(b.1:Int):=h;omega
 have er:=w.kno.sorted w.two.wf pm2 up2
 subst er
 have R0:bH H ps1 (au t):=fT (by rw [pr.1,List.length_map]) fun i p r hi hr=>pr.2 i p (fR r) hi (by rw [List.getElem?_map,hr];rfl)
 have S1:=aq.upd (o:=.lst (ps1.map V.ref)) hl1
 have hl1':upd H l1 (.lst (ps1.map V.ref)) l1=some (.lst (ps1.map V.ref)):=af
 generalize upd H l1 (.lst (ps1.map V.ref))=H1 at S1 hl1'
 have R1:=R0.mono S1
 show tY K A j _ [some (.ref x),some (.ref f),some (.int (B:Int)),some (.ref l1),some (.ref kl),none,none,none,none,none] H1
 have s1:=w.s.same (m:=n) (Nat.le_refl _) S1
 refine ⟨f,b,l1,g,n,B,t,ps1,rfl,s1,by omega,w.B1,w.B60,w.two,hl1',R1,fun du k g2 H2 kb2 s2 sub2 hdu ok szk tm=>?_⟩
 have nb:∀ {z:Addr} {o:HO},H1 z=some o→(∀ kvs,o≠ .dT kvs)→H2 z=some o:=fun e h=>kb2 _ _ (s1.nb e h) e
 have hl2:=nb hl1' fun _ z=>nomatch z
 have R2:bH H2 ps1 (au t):=Paired.mapP R1 fun p r e=>nb e fun _ z=>nomatch z
 have hk2:=nb (S1 _ _ w.hk) fun _ z=>nomatch z
 have k2:=(w.k.same S1).kb s1 kb2 sub2
 obtain ⟨c1,c2,c3,c4,c5,c6,c7,c8⟩:=mj T t
 obtain ⟨dx,pt,fs,ob,hpt,gm⟩:=k2.term tm
 show sQ K A j _ [some (.ref x),some (.ref f),some (.int (B:Int)),some (.ref l1),some (.ref kl),some (.ref du),none,none,none,none] H2
 refine ⟨x,_,dx,_,A.c_Knot,_,rfl,ob,c1,c2,c5,x,_,dx,_,A.c_Bare,_,rfl,ob,c1,c2,c6,x,_,dx,_,A.c_Leaf,_,rfl,ob,c1,c2,c7,x,_,dx,_,A.c_Fork,_,rfl,ob,c1,c2,c8,aK (show 4≤1000000 by decide),fun cl hcl=>?_⟩
 have S3:=aq.upd (o:=.lst [V.bl true,.bl (decide (kdK t=0)),.bl (decide (kdK t=1)),.bl (decide (kdK t=2))]) hcl
 have hcl3:upd H2 cl (.lst [V.bl true,.bl (decide (kdK t=0)),.bl (decide (kdK t=1)),.bl (decide (kdK t=2))]) cl=some (.lst (([true,decide (kdK t=0),decide (kdK t=1),decide (kdK t=2)]:List Bool).map V.bl)):=af
 generalize upd H2 cl (.lst [V.bl true,.bl (decide (kdK t=0)),.bl (decide (kdK t=1)),.bl (decide (kdK t=2))])=H3 at S3 hcl3
 show sm K A j _ [some (.ref x),some (.ref f),some (.int (B:Int)),some (.ref l1),some (.ref kl),some (.ref du),some (.ref cl),none,none,none] H3
 refine ⟨-1,3,rfl,by decide,fun D hD=>?_⟩
 have ml:(ps1.map V.ref).length=kdK t:=by rw [List.length_map,R1.length,w.two.kd]
 refine jd cD.range (fun i ys H'=>aq H3 H'∧H' D=some (.lst ys)∧ys=(List.range i).map (fun i:Nat=>V.bl (decide ((-1:Int)+i<0)||decide ((-1:Int)+i=(kdK t:Int))))) (fun _ _ _ _ _=>trivial) ⟨aq.upd hD,af,rfl⟩ ?_ ?_
 · rintro i ys H4 hi ⟨S4,hD4,ey⟩
   have hi:i<4:=hi
   have fin:∀ c:Bool,c=(decide ((-1:Int)+i<0)||decide ((-1:Int)+i=(kdK t:Int)))→H4 D=some (.lst ys)∧ys.length<sizeLine∧∃ m',m'<4 - i∧CWd 4 (fun i ys H'=>aq H3 H'∧H' D=some (.lst ys)∧ys=(List.range i).map (fun i:Nat=>V.bl (decide ((-1:Int)+i<0)||decide ((-1:Int)+i=(kdK t:Int))))) (i+1) m' (ys++[V.bl c]) (upd H4 D (.lst (ys++[V.bl c]))):=by
     intro c hc
     refine ⟨hD4,Nat.lt_of_le_of_lt (m:=1000) (by rw [ey,List.length_map,List.length_range];omega) (by decide),CWd.next hi ⟨fun w o ew=>?_,af,?_⟩⟩
     · rw [ak (ar ew hD)];exact S4 _ _ ew
     · rw [List.range_succ,List.map_append,←ey,hc];rfl
   refine rf ?_
   refine Sel.dec (fun h=>?_) (fun h=>?_)
   · exact fin true (by rw [decide_eq_true h];rfl)
   · refine .inl (.inl ⟨_,SqL.of (S4 _ _ (S3 _ _ hl2)),?_⟩)
     rw [ml]
     exact fin _ (by rw [decide_eq_false h];rfl)
 rintro ys H4 ⟨S4,hD4,ey⟩
 have ey4:ys=([true,decide (kdK t=0),decide (kdK t=1),decide (kdK t=2)]:List Bool).map V.bl:=by
   rw [ey]
   have hk:kdK t=0∨kdK t=1∨kdK t=2:=by cases t <;> simp [kdK]
   rcases hk with e | e | e <;> rw [e] <;> rfl
 rw [ey4] at hD4
 refine mU (qd (S4 _ _ hcl3)) (qd hD4) ?_ ?_ (Sel.no rfl ?_)
 · rfl
 · show max 0 (max 0 (max 0 (max 0 0)))+1≤150;decide
 have S24:=S3.trans S4
 show rS K A j _ [some (.ref x),some (.ref f),some (.int (B:Int)),some (.ref l1),some (.ref kl),some (.ref du),some (.ref cl),none,none,none] H4
 refine ⟨x,_,dx,_,_,rfl,S24 _ _ ob,c1,c3,rfl,pt,du,k,rfl,S24 _ _ hpt,S24 _ _ hdu,(fX ok).2,fun H5 S5=>Sel.no rfl ?_⟩
 have S25:=S24.trans S5
 have s5:=s2.same (m:=n+2) (Nat.le_refl _) S25
 refine ⟨x,_,dx,_,_,rfl,S25 _ _ ob,c1,c4,rfl,f,rfl,s5.clo,?_⟩
 refine lK rfl (jk s5 (by omega) (S25 _ _ hdu) ok fun v H6 g6 kb6 s6 sub6 gv _=>?_)
 have ev:some v=some m:=by rw [← gv];exact sub6 _ _ gm
 cases ev
 refine uZ (Sel.no rfl ?_)
 have nb6:∀ {z:Addr} {o:HO},H2 z=some o→(∀ kvs,o≠ .dT kvs)→H6 z=some o:=fun e h=>kb6 _ _ (s5.nb (S25 _ _ e) h) (S25 _ _ e)
 have kbt:aB b H H6:=(aB.same S1).trans (kb2.trans ((aB.same S25).trans kb6))
 have tm6:fm g6 t k:=by
   cases tm with
   | bare=>exact .bare
   | leaf k z=>exact .leaf k z
   | fork d e j1 j2 z1 z2 m1 m2 a1 a2=>exact .fork d e j1 j2 z1 z2 m1 m2 (sub6 _ _ a1) (sub6 _ _ a2)
 refine zy (n:=n+3) T ((k2.same S25).kb s5 kb6 sub6) (s6.same (Nat.le_refl _) (.refl _)) (by omega) w.two w.B1 w.B60 hj (nb6 hl2 fun _ z=>nomatch z) (Paired.mapP R2 fun p r e=>nb6 e fun _ z=>nomatch z) (nb6 hk2 fun _ z=>nomatch z) w.kb w.kn3 (nb6 hdu fun _ z=>nomatch z) tm6 fun g7 H7 kb7 s7 sub7=>?_
 exact q g7 H7 (kbt.trans kb7) (s7.same (by omega) (.refl _)) (sub2.trans (sub6.trans sub7))
def G3 (K:W.Frag) (A:Adr):TS:=bn (cI (bV K (aA (dI K A 70) (fun _=>E0) (ac (cR [(A.c_Bare,(jR K A)),(A.c_Leaf,(gM K A)),(A.c_Fork,(fH K A 70))] "without" (fun _=>E0) (ae 0) (ac (ae 1) (ac (ae 2) (ac (ae 6) (ai))))) (ac (ae 1) (ac (ae 2) (ac (tCB (gw K) (ac (jN K "dict" ir (ae 7)) (ai))) (ac (ae 4) (ai))))))))) (aJ (tC (.bl false))) (aY)
def G2b (K:W.Frag) (A:Adr):TS:=aw (bn (aZ (tOp (qK K) (ae 6) (ae 7))) (fJ (tBM K "dict" qh (ae 7) (ac (ae 6) (ai)))) (aY)) (G3 K A)
def G2 (K:W.Frag) (A:Adr):TS:=aw (aP (tCB (ip K) (ac (ae 3) (ai))) (av 7)) (G2b K A)
def G1 (K:W.Frag) (A:Adr):TS:=aw (bn (aZ (tOp (mLt) (tCB (df K) (ac (ae 7) (ai))) (tC (.int 3)))) (aw (aP (cR [(A.c_Bare,(jO K A)),(A.c_Leaf,(gP K A)),(A.c_Fork,(fQ K A 70))] "with_key" (fun _=>E0) (ae 0) (ac (ae 1) (ac (ae 2) (ac (ae 6) (ac (ae 5) (ai)))))) (av 8)) (bn (cI (bV K (aA (dI K A 70) (fun _=>E0) (ac (ae 8) (ac (ae 1) (ac (ae 2) (ac (tCB (gw K) (ac (jN K "dict" ir (ae 7)) (ai))) (ac (ae 4) (ai))))))))) (aJ (tC (.bl false))) (aY))) (aY)) (G2 K A)
theorem RgW.kept {H H':Hp} {f b x l kl:Addr} {g g':GK} {n n' B:Nat} {t:Kn Str} {m:Key} {kn:List (Nat×Str)} {ps:List Addr} {ks:List Nat} (w:RgW A H f b x l kl g n B t m kn ps ks) (kb:aB b H H') (s:Stp A H' f b g' n') (sub:Sub g g'):RgW A H' f b x l kl g' n' B t m kn ps ks:=
 ⟨w.k.kb w.s kb sub,s,w.B1,w.B60,w.two,w.kno,kb _ _ (w.s.nb w.hl fun _ z=>nomatch z) w.hl,Paired.mapP w.rw_ fun p r e=>kb _ _ (w.s.nb e fun _ z=>nomatch z) e,kb _ _ (w.s.nb w.hk fun _ z=>nomatch z) w.hk,w.kb,w.kn3⟩
theorem RgW.same {H H':Hp} {f b x l kl:Addr} {g:GK} {n B:Nat} {t:Kn Str} {m:Key} {kn:List (Nat×Str)} {ps:List Addr} {ks:List Nat} (w:RgW A H f b x l kl g n B t m kn ps ks) (S:aq H H'):RgW A H' f b x l kl g n B t m kn ps ks:=w.kept (aB.same S) (w.s.same (Nat.le_refl _) S) Sub.rfl'
theorem nO {H:Hp} {ps:List Addr} {kn:List (Nat×Str)} (R:bH H ps kn):ng H ps (kn.map fR):=⟨by rw [List.length_map];exact R.length,fun i p r hi hr=>by
 obtain ⟨r0,e0,e1⟩:=gI R hi
 rw [List.getElem?_map,e0] at hr
 cases hr
 exact e1⟩
theorem rJ {kn:List (Nat×Str)} (nd:(kn.map (·.1)).Nodup):((kn.map fR).map (·.1)).Nodup:=by
 rw [List.map_map]
 exact List.pairwise_map.mpr ((List.pairwise_map.mp nd).imp fun {a b} h z=>h (by have z:(a.1:Int)=(b.1:Int):=z;omega))
theorem tM (kn:List (Nat×Str)):cj (kn.map fR)=dOf kn:=(lF kn).symm
theorem kK {H:Hp} {Q:VK} {v d:Addr} {kn:List (Nat×Str)} (hv:H v=none) (hk:H d=some (.dK (dOf kn))) (q:∀ (l:Addr) (ps:List Addr) (H':Hp),aq H H'→H' l=some (.lst (ps.map V.ref))→bH H' ps kn→Q (.ref l) H'):gw K [.ref v] (upd H v (vwO v d)) Q:=by
 have S2:=aq.upd (o:=vwO v d) hv
 refine ⟨v,d,kn.map fR,rfl,af,by rw [S2 _ _ hk,lF];rfl,fun l ps H' hl S' ln prs hL=>q l ps H' (S2.trans S') hL ?_⟩
 exact fT (by rw [ln,List.length_map]) fun j p r hj hr=>(prs j p (fR r) hj (by rw [List.getElem?_map,hr];rfl)).2
theorem RgW.kns {H:Hp} {f b x l kl:Addr} {g:GK} {n B:Nat} {t:Kn Str} {m:Key} {kn:List (Nat×Str)} {ps:List Addr} {ks:List Nat} (w:RgW A H f b x l kl g n B t m kn ps ks):KnS A H f b g n B x t m:=
 ⟨w.k,w.s,w.B60,w.two.dp,by have:=w.two.ln;omega,by have:=w.two.ln;have:=w.two.wf.szN;omega⟩
theorem tK {n:Nat} (h:n≤1000):n<sizeLine:=Nat.lt_of_le_of_lt h (by decide)
theorem sD (T : Txt K mg A) {D : em} {H : Hp} {f b x l kl : Addr} {g : List Key → Option Key} {n B key : Nat} {t : Kn Str} {m : Key} {kn : List (Nat × Str)} {ps : List Addr} {ks : List Nat} {z : Str} {x7 x8 : Option V} (w : RgW A H f b x l kl g n B t m kn ps ks) (hn : n ≤ 25000) (hkey : key < 2 ^ B)
    (q : ∀ (g' : List Key → Option Key) (H' : Hp) (x7 : Option V), aB b H H' → Stp A H' f b g' (n + 90) → Sub g g' → D.nx [some (.ref x), some (.ref f), some (.int (B : Int)), some (.ref l), some (.ref kl), some (.str z), some (.int (key : Int)), x7, x8] H') :
    G2 K A D [some (.ref x), some (.ref f), some (.int (B : Int)), some (.ref l), some (.ref kl), some (.str z), some (.int (key : Int)), x7, x8] H := by
  have lk := w.kno.len w.two.wf
  have l2 := w.two.ln
  refine ⟨l, ps, kn.map fR, rfl, w.hl, nO w.rw_, by rw [w.rw_.length]; omega, rJ w.kno.nd, fun d hd => ?_⟩
  rw [tM]
  have S1 := aq.upd (o := .dK (dOf kn)) hd
  have hd1 : upd H d (.dK (dOf kn)) d = some (.dK (dOf kn)) := af
  have h1 := w.two.hgt
  have bv : ∀ (H2 : Hp), aq H H2 → H2 d = some (.dK (dOf (eL kn key))) → G3 K A D [some (.ref x), some (.ref f), some (.int (B : Int)), some (.ref l), some (.ref kl), some (.str z), some (.int (key : Int)), some (.ref d), x8] H2 := by
    intro H2 S2 hd2
    have w2 := w.same S2
    refine fU w2.kns (by omega) (by omega) fun y m3 g3 H3 kb3 k3 s3 sub3 => ?_
    have w3 := w2.kept kb3 s3 sub3
    have hd3 := kb3 _ _ (w2.s.nb hd2 fun _ z => nomatch z) hd2
    refine ⟨kG hd3, d, _, rfl, rfl, hd3, fun v hv => kK (K := K) hv hd3 fun li pi H4 S4 hli Ri => ?_⟩
    obtain ⟨kd, ld⟩ := w.kno.drop (key := key) w.two.wf
    have wfd := (w.two.wf.without (key := key)).1
    have ldl := kd.len wfd
    have two3 : Two B (aL B key t) := ⟨wfd, by omega, k3.vals⟩
    have w4 := w3.same S4
    have h2 := two3.hgt
    refine ⟨f, b, y, li, kl, g3, _, B, aL B key t, m3, eL kn key, pi, ks, rfl, ⟨k3.same S4, w4.s, w.B1, w.B60, two3, kd, hli, Ri, w4.hk, w.kb, w.kn3⟩, by omega, by omega, fun g5 H5 kb5 s5 sub5 => Sel.no rfl ?_⟩
    exact q g5 H5 _ ((aB.same S2).trans (kb3.trans ((aB.same S4).trans kb5))) (s5.same (by omega) (.refl _)) (sub3.trans sub5)
  have dg : cB (upd H d (.dK (dOf kn))) d (.int (key : Int)) ((look key kn).map V.str) := by rw [← lG]; exact cB.k (k := .inl (key : Int)) hd1
  refine .inl ⟨d, _, rfl, dg, ?_⟩
  cases hlk : look key kn with
  | none =>
    refine Sel.no rfl (bv _ S1 ?_)
    have : eL kn key = kn := by
      unfold eL
      refine List.filter_eq_self.mpr fun p hp => decide_eq_true fun e => ?_
      have := (hV (k := p.1) (z := p.2) w.kno.nd).mpr hp
      rw [← e, hlk] at this
      cases this
    rw [this]; exact hd1
  | some zz =>
    refine Sel.yes rfl ⟨kG hd1, d, _, .inl (key : Int), .str zz, rfl, rfl, hd1, by rw [lG, hlk]; rfl, ?_⟩
    rw [dm, vI]
    exact bv _ (aq.upd hd) af
theorem AM (T:Txt K mg A) {D:em} {H:Hp} {f b x l kl d:Addr} {g:GK} {n B key:Nat} {t:Kn Str} {m:Key} {kn:List (Nat×Str)} {ps:List Addr} {ks:List Nat} {z:Str} {x8:Option V} (w:RgW A H f b x l kl g n B t m kn ps ks) (hn:n≤24000) (hkey:key<2^B) (hz:bE z) (hd:H d=some (.dK (dOf (dF kn key z))))
   (q:∀ (g':GK) (H':Hp) (x7 x8:Option V),aB b H H'→Stp A H' f b g' (n+190)→Sub g g'→D.nx [some (.ref x),some (.ref f),some (.int (B:Int)),some (.ref l),some (.ref kl),some (.str z),some (.int (key:Int)),x7,x8] H'):
   G1 K A D [some (.ref x),some (.ref f),some (.int (B:Int)),some (.ref l),some (.ref kl),some (.str z),some (.int (key:Int)),some (.ref d),x8] H:=by
 have lk:=w.kno.len w.two.wf
 have l2:=w.two.ln
 have h1:=w.two.hgt
 refine .inl (.inr (.inr ⟨_,hd,?_⟩))
 have ld:(dOf (dF kn key z)).length=(dF kn key z).length:=by unfold dOf;rw [List.length_map]
 rw [ld]
 refine Sel.dec (fun hlt=>?_) (fun _=>?_)
 · have hlt:((dF kn key z).length:Int)<3:=hlt
   have kp:=w.kno.put (key:=key) (z:=z) w.two.wf hkey (by omega)
   have wfp:=(w.two.wf.with (z:=z) hkey).1
   have lp:=kp.len wfp
   refine jU w.kns (by omega) w.two.wf.lt hkey hz (by omega) (by have:=w.two.wf.szN;omega) fun y m3 g3 H3 kb3 k3 s3 sub3=>?_
   have w3:=w.kept kb3 s3 sub3
   have hd3:=kb3 _ _ (w.s.nb hd fun _ z=>nomatch z) hd
   have two3:Two B (bG B key z t):=⟨wfp,by omega,k3.vals⟩
   have h2:=two3.hgt
   refine ⟨kG hd3,d,_,rfl,rfl,hd3,fun v hv=>kK (K:=K) hv hd3 fun li pi H4 S4 hli Ri=>?_⟩
   have w4:=w3.same S4
   refine ⟨f,b,y,li,kl,g3,_,B,bG B key z t,m3,dF kn key z,pi,ks,rfl,⟨k3.same S4,w4.s,w.B1,w.B60,two3,kp,hli,Ri,w4.hk,w.kb,w.kn3⟩,by omega,by omega,fun g5 H5 kb5 s5 sub5=>Sel.no rfl ?_⟩
   have kbt:=kb3.trans ((aB.same S4).trans kb5)
   have w5:=w.kept (n':=n+100) kbt (s5.same (by omega) (.refl _)) (sub3.trans sub5)
   exact sD T w5 (by omega) hkey fun g6 H6 x7 kb6 s6 sub6=>q g6 H6 x7 _ (kbt.trans kb6) (s6.same (by omega) (.refl _)) ((sub3.trans sub5).trans sub6)
 · exact sD T w (by omega) hkey fun g6 H6 x7 kb6 s6 sub6=>q g6 H6 x7 _ kb6 (s6.same (by omega) (.refl _)) sub6
theorem Av (K:W.Frag) (A:Adr):Ln (mG K A) 6:=by rintro vs H Q E ⟨_,_,_,_,_,_,_,_,_,_,_,_,_,_,rfl,_⟩;rfl
theorem CC (T:Txt K mg A):Rd (mG K A) (Ge K A) ["_law_knot", "_law_stamper_here", "_law_bits", "_law_rows", "_law_keys", "_law_text_here", "_law_key_here", "_law_known", "_law_more"]:=by
 intro vs H Q E h
 obtain ⟨f,b,x,l,kl,g,n,B,t,m,kn,ps,ks,z,rfl,w,hn,hz,q⟩:=h
 have lk:=w.kno.len w.two.wf
 have l2:=w.two.ln
 have k3:=w.kn3
 refine ⟨kl,rfl,.inl ⟨⟨_,SqL.of w.hk⟩,?_⟩⟩
 refine oJ (xs:=ks.map fun k:Nat=>V.int (k:Int)) (fun i σ H'=>∃ g' x6 x7 x8,σ=[some (.ref x),some (.ref f),some (.int (B:Int)),some (.ref l),some (.ref kl),some (.str z),x6,x7,x8]∧RgW A H' f b x l kl g' (n+200*i) B t m kn ps ks∧aB b H H'∧Sub g g') ⟨g,none,none,none,rfl,w.kept aB.rfl' (w.s.same (by omega) (.refl _)) Sub.rfl',aB.rfl',Sub.rfl'⟩ ?_ ?_ ?_
 · rintro i σ H' _ ⟨_,_,_,_,_,w',_⟩;exact SqL.of w'.hk
 · rintro i v σ H' hv ⟨g',x6,x7,x8,rfl,w',kb,sub⟩
   have hi:i<(ks.map fun k:Nat=>V.int (k:Int)).length:=(List.getElem?_eq_some_iff.mp hv).1
   rw [List.length_map] at hi
   obtain ⟨key,hkm,rfl⟩:=dq hv
   have hkey:=w.kb key (List.mem_of_getElem? hkm)
   refine ⟨l,ps,kn.map fR,rfl,w'.hl,nO w'.rw_,by rw [w'.rw_.length];omega,rJ w'.kno.nd,fun d hd=>?_⟩
   rw [tM]
   refine .inr ⟨d,_,rfl,lP.k (k:=.inl (key:Int)) af (tK (by unfold dOf;rw [List.length_map];omega)),?_⟩
   rw [dm,yU]
   have S:=aq.upd (o:=.dK (dOf (dF kn key z))) hd
   refine AM T (w'.same S) (by omega) hkey hz af fun g6 H6 x7 x8 kb6 s6 sub6=>?_
   exact ⟨g6,_,_,_,rfl,w'.kept ((aB.same S).trans kb6) (s6.same (by omega) (.refl _)) sub6,kb.trans ((aB.same S).trans kb6),sub.trans sub6⟩
 · rintro σ H' ⟨g',x6,x7,x8,rfl,w',kb,sub⟩
   exact q g' H' kb (w'.s.same (by rw [List.length_map];omega) (.refl _)) sub
structure Pr (A:Adr) (H:Hp) (f b te kl p1 p2:Addr) (g:GK) (N B k1 k2 k3:Nat) (z0 z1 z2:Str):Prop where
 s:Stp A H f b g N
 hte:H te=some (.lst [.str z0,.str z1,.str z2])
 hkl:H kl=some (.lst [.int (k1:Int),.int (k2:Int),.int (k3:Int)])
 h1:H p1=some (.tup [.int (k1:Int),.str z0])
 h2:H p2=some (.tup [.int (k2:Int),.str z1])
theorem Pr.kept {H H':Hp} {f b te kl p1 p2:Addr} {g g':GK} {N N' B k1 k2 k3:Nat} {z0 z1 z2:Str} (p:Pr A H f b te kl p1 p2 g N B k1 k2 k3 z0 z1 z2) (kb:aB b H H') (s:Stp A H' f b g' N'):Pr A H' f b te kl p1 p2 g' N' B k1 k2 k3 z0 z1 z2:=
 ⟨s,kb _ _ (p.s.nb p.hte fun _ z=>nomatch z) p.hte,kb _ _ (p.s.nb p.hkl fun _ z=>nomatch z) p.hkl,kb _ _ (p.s.nb p.h1 fun _ z=>nomatch z) p.h1,kb _ _ (p.s.nb p.h2 fun _ z=>nomatch z) p.h2⟩
theorem Pr.same {H H':Hp} {f b te kl p1 p2:Addr} {g:GK} {N N' B k1 k2 k3:Nat} {z0 z1 z2:Str} (p:Pr A H f b te kl p1 p2 g N B k1 k2 k3 z0 z1 z2) (hn:N≤N') (S:aq H H'):Pr A H' f b te kl p1 p2 g N' B k1 k2 k3 z0 z1 z2:=p.kept (aB.same S) (p.s.same hn S)
structure LW (A:Adr) (H:Hp) (f b kl so ro te:Addr) (g:GK) (N B:Nat) (ks:List Nat) (Y Ls:List Addr) (z0 z1 z2:Str):Prop where
 all:∀ (i:Nat) (y l:Addr),Y[i]?=some y→Ls[i]?=some l→∃ t m kn ps,RgW A H f b y l kl g N B t m kn ps ks
 s:Stp A H f b g N
 hso:H so=some (.lst (Y.map V.ref))
 hro:H ro=some (.lst (Ls.map V.ref))
 hte:H te=some (.lst [.str z0,.str z1,.str z2])
theorem LW.kept {H H':Hp} {f b kl so ro te:Addr} {g g':GK} {N N' B:Nat} {ks:List Nat} {Y Ls:List Addr} {z0 z1 z2:Str} (w:LW A H f b kl so ro te g N B ks Y Ls z0 z1 z2) (kb:aB b H H') (s:Stp A H' f b g' N') (sub:Sub g g'):LW A H' f b kl so ro te g' N' B ks Y Ls z0 z1 z2:=
 ⟨fun i y l hy hl=>let ⟨t,m,kn,ps,r⟩:=w.all i y l hy hl;⟨t,m,kn,ps,r.kept kb s sub⟩,s,kb _ _ (w.s.nb w.hso fun _ z=>nomatch z) w.hso,kb _ _ (w.s.nb w.hro fun _ z=>nomatch z) w.hro,kb _ _ (w.s.nb w.hte fun _ z=>nomatch z) w.hte⟩
theorem LW.same {H H':Hp} {f b kl so ro te:Addr} {g:GK} {N N' B:Nat} {ks:List Nat} {Y Ls:List Addr} {z0 z1 z2:Str} (w:LW A H f b kl so ro te g N B ks Y Ls z0 z1 z2) (hn:N≤N') (S:aq H H'):LW A H' f b kl so ro te g N' B ks Y Ls z0 z1 z2:=w.kept (aB.same S) (w.s.same hn S) Sub.rfl'
theorem Cq (T:Txt K mg A) {H:Hp} {Q:VK} {f b kl so ro te a:Addr} {g:GK} {N B:Nat} {ks:List Nat} {Y Ls:List Addr} {z0 z1 z2:Str} {v3 v4 v5 v8 v9 v10 v11 v12:Option V} (w:LW A H f b kl so ro te g N B ks Y Ls z0 z1 z2) (hN:N≤1000) (ly:Y.length=4) (ll:Ls.length=4) (hz:bE z2) (q:∀ H',Q (.bl true) H'):
   lh K A { nx:=fun _ H'=>Q .non H',rt:=Q } [some (.ref a),some (.ref f),some (.int (B:Int)),v3,v4,v5,some (.ref te),some (.ref kl),v8,v9,v10,v11,v12,some (.ref so),some (.ref ro),none,none] H:=by
 have lyl:(Y.map V.ref).length=(Ls.map V.ref).length:=by rw [List.length_map,List.length_map,ly,ll]
 refine .inr ⟨so,ro,_,_,rfl,SqL.of w.hso,SqL.of w.hro,oo (xs:=Y.map V.ref) (ys:=Ls.map V.ref) (fun i σ H'=>∃ g' x15 x16,σ=[some (.ref a),some (.ref f),some (.int (B:Int)),v3,v4,v5,some (.ref te),some (.ref kl),v8,v9,v10,v11,v12,some (.ref so),some (.ref ro),x15,x16]∧LW A H' f b kl so ro te g' (N+1000*i) B ks Y Ls z0 z1 z2) ⟨g,none,none,rfl,w.same (by omega) (.refl _)⟩ (fun i σ H' _ h=>?_) lyl (fun i x y σ H' t hx hy h ht=>?_) (fun σ H' h=>?_)⟩
 · obtain ⟨_,_,_,_,w'⟩:=h;exact ⟨SqL.of w'.hso,SqL.of w'.hro⟩
 · obtain ⟨g',x15,x16,rfl,w'⟩:=h
   have hi:i<(Y.map V.ref).length:=(List.getElem?_eq_some_iff.mp hx).1
   rw [List.length_map,ly] at hi
   obtain ⟨kx,hkx,rfl⟩:=dq hx
   obtain ⟨lx,hlx,rfl⟩:=dq hy
   have S:=aq.upd (o:=.tup [V.ref kx,V.ref lx]) ht
   have w1:=w'.same (Nat.le_refl _) S
   refine ⟨t,_,rfl,SqT.of af,rfl,_,_,rfl,_,_,rfl,rfl,?_⟩
   obtain ⟨tt,m,kn,ps,r⟩:=w1.all i kx lx hkx hlx
   have h1:=r.two.hgt
   refine ⟨f,b,kx,lx,kl,g',_,B,tt,m,kn,ps,ks,rfl,r,by omega,by omega,fun g2 H2 kb2 s2 sub2=>Sel.no rfl ?_⟩
   have w2:=w1.kept kb2 s2 sub2
   have r2:=r.kept kb2 s2 sub2
   refine ixL w2.hte (i:=2) rfl ⟨f,b,kx,lx,kl,g2,_,B,tt,m,kn,ps,ks,z2,rfl,r2,by omega,hz,fun g3 H3 kb3 s3 sub3=>Sel.no rfl ?_⟩
   exact ⟨g3,_,_,rfl,w2.kept kb3 (s3.same (by omega) (.refl _)) sub3⟩
 obtain ⟨g1,x15,x16,rfl,w1⟩:=h
 show pK K A _ [some (.ref a),some (.ref f),some (.int (B:Int)),v3,v4,v5,some (.ref te),some (.ref kl),v8,v9,v10,v11,v12,some (.ref so),some (.ref ro),x15,x16] H'
 rw [List.length_map,ly] at w1
 refine .inr ⟨so,ro,_,_,rfl,SqL.of w1.hso,SqL.of w1.hro,oo (xs:=Y.map V.ref) (ys:=Ls.map V.ref) (fun i σ H'=>∃ g' x15 x16,σ=[some (.ref a),some (.ref f),some (.int (B:Int)),v3,v4,v5,some (.ref te),some (.ref kl),v8,v9,v10,v11,v12,some (.ref so),some (.ref ro),x15,x16]∧LW A H' f b kl so ro te g' (N+4000+1000*i) B ks Y Ls z0 z1 z2) ⟨g1,_,_,rfl,w1.same (by omega) (.refl _)⟩ (fun i σ H' _ h=>?_) lyl (fun i x y σ H' t hx hy h ht=>?_) (fun σ H' h=>?_)⟩
 · obtain ⟨_,_,_,_,w'⟩:=h;exact ⟨SqL.of w'.hso,SqL.of w'.hro⟩
 · obtain ⟨g',y15,y16,rfl,w'⟩:=h
   have hi:i<(Y.map V.ref).length:=(List.getElem?_eq_some_iff.mp hx).1
   rw [List.length_map,ly] at hi
   obtain ⟨kx,hkx,rfl⟩:=dq hx
   obtain ⟨lx,hlx,rfl⟩:=dq hy
   have S:=aq.upd (o:=.tup [V.ref kx,V.ref lx]) ht
   have w1:=w'.same (Nat.le_refl _) S
   refine ⟨t,_,rfl,SqT.of af,rfl,_,_,rfl,_,_,rfl,rfl,?_⟩
   obtain ⟨tt,m,kn,ps,r⟩:=w1.all i kx lx hkx hlx
   have h1:=r.two.hgt
   refine ⟨f,b,kx,lx,kl,g',_,B,tt,m,kn,ps,ks,rfl,r,by omega,by omega,fun g2 H2 kb2 s2 sub2=>Sel.no rfl ?_⟩
   exact ⟨g2,_,_,rfl,w1.kept kb2 (s2.same (by omega) (.refl _)) sub2⟩
 · obtain ⟨g',y15,y16,rfl,w'⟩:=h
   exact q _
theorem ze {B:Nat}:Kno B [] (.bare:Kn Str):=⟨.nil,Nat.zero_le _,fun _=>rfl⟩
theorem wn {B:Nat}:Two B .bare:=⟨.inl rfl,Nat.zero_le _,fun _ z=>nomatch z⟩
theorem yK {k1 k2:Nat} {z0 z1:Str} (h:k2≠k1):dF [(k1,z0)] k2 z1=[(k1,z0),(k2,z1)]:=by
 unfold dF
 rw [if_neg (by simp [h])];rfl
def Ord (k1 k2:Nat) (z0 z1:Str) (a c:Nat) (za zc:Str):Prop:=(k2<k1∧a=k2∧za=z1∧c=k1∧zc=z0)∨(k1<k2∧a=k1∧za=z0∧c=k2∧zc=z1)
theorem Ord.facts {k1 k2 a c:Nat} {z0 z1 za zc:Str} (h:Ord k1 k2 z0 z1 a c za zc):(if (k2:Int)<k1 then (k2:Int) else k1)=(a:Int)∧(if (k2:Int)>k1 then (k2:Int) else k1)=(c:Int)∧atI ([.str z0,.str z1]:List V) (if decide ((k2:Int)<k1)=true then 1 else 0)=some (.str za)∧atI ([.str z1,.str z0]:List V) (if decide ((k2:Int)<k1)=true then 1 else 0)=some (.str zc)∧([(a,za),(c,zc)]:List (Nat×Str)).Perm [(k1,z0),(k2,z1)]∧a<c:=by
 rcases h with ⟨h,rfl,rfl,rfl,rfl⟩ | ⟨h,rfl,rfl,rfl,rfl⟩
 · have h1:(a:Int)<c:=by omega
   refine ⟨if_pos h1,if_neg (by omega),?_,?_,List.Perm.swap _ _ _,h⟩
   · rw [if_pos (decide_eq_true h1)];rfl
   · rw [if_pos (decide_eq_true h1)];rfl
 · have h1:¬ (c:Int)<a:=by omega
   refine ⟨if_neg h1,if_pos (by omega),?_,?_,.refl _,h⟩
   · rw [if_neg (by rw [decide_eq_false h1];decide)];rfl
   · rw [if_neg (by rw [decide_eq_false h1];decide)];rfl
theorem Dh (T:Txt K mg A) {H:Hp} {Q:VK} {f b te kl p1 p2 a xl xr:Addr} {g:GK} {N B k1 k2 k3 ka kc:Nat} {z0 z1 z2 za zc:Str} {ml mr:Key} {v4:Option V} (p:Pr A H f b te kl p1 p2 g N B k1 k2 k3 z0 z1 z2) (hN:N≤10) (B1:1≤B) (B60:B≤60) (h1:k1<2^B) (h2:k2<2^B) (h3:k3<2^B) (ne:k2≠k1) (hz0:bE z0) (hz1:bE z1) (hz2:bE z2) (od:Ord k1 k2 z0 z1 ka kc za zc) (kL:KnA A H g xl (.leaf ka za) ml) (kR:KnA A H g xr (.leaf kc zc) mr) (q:∀ H',Q (.bl true) H'):
   pk K A { nx:=fun _ H'=>Q .non H',rt:=Q } [some (.ref a),some (.ref f),some (.int (B:Int)),some (.int (k1:Int)),v4,some (.int (k2:Int)),some (.ref te),some (.ref kl),some (.ref p1),some (.ref p2),some (.ref xl),some (.ref xr),none,none,none,none,none] H:=by
 obtain ⟨_,_,_,_,pm,lt⟩:=od.facts
 have p60:2^B≤2^60:=Nat.pow_le_pow_right (by decide) B60
 have kno:Kno B [(k1,z0),(k2,z1)] (bG B k2 z1 (.leaf k1 z0)):=by
   have:=(fi (B:=B) (k:=k1) (z:=z0)).put (key:=k2) (z:=z1) (eB h1 hz0).wf h2 (by show 1<63;decide)
   rw [yK ne] at this;exact this
 have wf:WFo B (bG B k2 z1 (.leaf k1 z0)):=((eB h1 hz0).wf.with (z:=z1) h2).1
 generalize bG B k2 z1 (.leaf k1 z0)=t at kno wf
 have er:=kno.sorted wf (rs:=[(ka,za),(kc,zc)]) pm (by unfold dX;simp [lt])
 have vz:∀ p∈au t,bE p.2:=fun p hp=>by
   rw [← er] at hp
   have hp:=pm.mem_iff.mp hp
   simp only [List.mem_cons,List.not_mem_nil,or_false] at hp
   rcases hp with rfl | rfl
   · exact hz0
   · exact hz1
 have tw:Two B t:=⟨wf,by rw [← er];exact Nat.le_refl 2,vz⟩
 obtain ⟨d,e,rfl,hd,he⟩:∃ d e,t=.fork d e (.leaf ka za) (.leaf kc zc)∧d<B∧e<2^d:=by
   rcases tw.shape with rfl | ⟨k,z,rfl,_⟩ | ⟨d,e,j1,y1,j2,y2,rfl,hd,he,_⟩
   · cases er
   · cases er
   · have er:[(ka,za),(kc,zc)]=[(j1,y1),(j2,y2)]:=er
     cases er
     exact ⟨d,e,rfl,hd,he⟩
 have d60:2^d≤2^60:=Nat.pow_le_pow_right (by decide) (by omega)
 refine ⟨aK (show 2≤1000000 by decide),fun L hL=>?_⟩
 have SL:=aq.upd (o:=.lst [V.ref p1,V.ref p2]) hL
 have hL1:upd H L (.lst [V.ref p1,V.ref p2]) L=some (.lst ([p1,p2].map V.ref)):=af
 have pa:=p.same (N':=N) (Nat.le_refl _) SL
 have kLa:=kL.same SL
 have kRa:=kR.same SL
 generalize upd H L (.lst [V.ref p1,V.ref p2])=Ha at hL1 pa kLa kRa
 have Rp:bH Ha [p1,p2] [(k1,z0),(k2,z1)]:=.cons pa.h1 (.cons pa.h2 .nil)
 refine ⟨L,[p1,p2],[(k1,z0),(k2,z1)].map fR,rfl,hL1,nO Rp,by show 2<64;decide,rJ kno.nd,fun l1 ps1 rs1 hl1 pm1 up1 pr1=>?_⟩
 obtain ⟨rs,pm2,rfl⟩:=ou pm1
 have up2:dX rs:=(List.pairwise_map.mp up1).imp fun {a b} h=>by have h:(a.1:Int)<(b.1:Int):=h;omega
 have er2:=kno.sorted wf pm2 up2
 subst er2
 have R0:bH Ha ps1 (au (.fork d e (.leaf ka za) (.leaf kc zc))):=fT (by rw [pr1.1,List.length_map]) fun i p r hi hr=>pr1.2 i p (fR r) hi (by rw [List.getElem?_map,hr];rfl)
 have Sb:=aq.upd (o:=.lst (ps1.map V.ref)) hl1
 have pb:=pa.same (N':=N) (Nat.le_refl _) Sb
 refine ⟨f,b,l1,g,N,B,_,ps1,rfl,pb.s,by omega,B1,B60,tw,af,R0.mono Sb,fun du k g1 H1 kb1 s1 sub1 hdu ok szk tm=>?_⟩
 have pc:=pb.kept kb1 s1
 have kLc:=(kLa.same Sb).kb pb.s kb1 sub1
 have kRc:=(kRa.same Sb).kb pb.s kb1 sub1
 show qf K A _ [some (.ref a),some (.ref f),some (.int (B:Int)),some (.int (k1:Int)),v4,some (.int (k2:Int)),some (.ref te),some (.ref kl),some (.ref p1),some (.ref p2),some (.ref xl),some (.ref xr),some (.ref du),none,none,none,none] H1
 clear pb pa kLa kRa R0 Sb Rp hL1 SL kL kR p
 refine ⟨f,b,du,g1,_,k,rfl,pc.s,by omega,hdu,ok,fun g2 H2 kb2 s2 sub2=>Sel.no rfl ?_⟩
 have pd:=pc.kept kb2 s2
 have hdu2:=kb2 _ _ (pc.s.nb hdu fun _ z=>nomatch z) hdu
 have kLd:=kLc.kb pc.s kb2 sub2
 have kRd:=kRc.kb pc.s kb2 sub2
 refine ixL pd.hte (i:=2) rfl ⟨aK (show 3≤1000000 by decide),fun tp htp=>?_⟩
 have Se:=aq.upd (o:=.tup [V.str "leaf",.int (k1:Int),.str z2]) htp
 have pe:=pd.same (N':=N+4) (by omega) Se
 refine ⟨f,b,tp,g2,_,lfT k1 z2,rfl,pe.s,by omega,af,kH (by omega) hz2,fun g3 H3 kb3 s3 sub3=>Sel.no rfl ?_⟩
 have pf:=pe.kept kb3 s3
 have hdu3:=kb3 _ _ (pe.s.nb (Se _ _ hdu2) fun _ z=>nomatch z) (Se _ _ hdu2)
 have kLf:=(kLd.same Se).kb pe.s kb3 sub3
 have kRf:=(kRd.same Se).kb pe.s kb3 sub3
 show pU K A _ [some (.ref a),some (.ref f),some (.int (B:Int)),some (.int (k1:Int)),v4,some (.int (k2:Int)),some (.ref te),some (.ref kl),some (.ref p1),some (.ref p2),some (.ref xl),some (.ref xr),some (.ref du),none,none,none,none] H3
 clear pc pd pe Se kLc kRc kLd kRd hdu hdu2
 refine fun x1 dx1 hx1 hdx1 ne1=>⟨x1,dx1,f,b,g3,_,rfl,af,pf.s.same (Nat.le_refl _) (bB hx1 hdx1 ne1),by omega,fun m1 g4 H4 kp4 kn1 s4 sub4=>⟨rfl,?_⟩⟩
 have kb4:=dB hx1 hdx1 ne1 kp4
 have p4:=pf.kept kb4 s4
 have hdu4:=kb4 _ _ (pf.s.nb hdu3 fun _ z=>nomatch z) hdu3
 have kL4:=kLf.kb pf.s kb4 sub4
 have kR4:=kRf.kb pf.s kb4 sub4
 refine ixL p4.hte rfl fun x2 dx2 hx2 hdx2 ne2=>⟨x2,dx2,f,b,g4,_,k1,z0,rfl,af,p4.s.same (Nat.le_refl _) (bB hx2 hdx2 ne2),by omega,by omega,hz0,fun m2 g5 H5 kp5 kn2 s5 sub5=>⟨rfl,?_⟩⟩
 have kb5:=dB hx2 hdx2 ne2 kp5
 have p5:=p4.kept kb5 s5
 have hdu5:=kb5 _ _ (p4.s.nb hdu4 fun _ z=>nomatch z) hdu4
 have kL5:=kL4.kb p4.s kb5 sub5
 have kR5:=kR4.kb p4.s kb5 sub5
 have kn15:=kn1.kb p4.s kb5 sub5
 refine ixL p5.hte (i:=1) rfl fun x3 dx3 hx3 hdx3 ne3=>⟨x3,dx3,f,b,g5,_,k2,z1,rfl,af,p5.s.same (Nat.le_refl _) (bB hx3 hdx3 ne3),by omega,by omega,hz1,fun m3 g6 H6 kp6 kn3 s6 sub6=>⟨rfl,?_⟩⟩
 have kb6:=dB hx3 hdx3 ne3 kp6
 have p6:=p5.kept kb6 s6
 have hdu6:=kb6 _ _ (p5.s.nb hdu5 fun _ z=>nomatch z) hdu5
 have kL6:=kL5.kb p5.s kb6 sub6
 have kR6:=kR5.kb p5.s kb6 sub6
 have kn16:=kn15.kb p5.s kb6 sub6
 have kn26:=kn2.kb p5.s kb6 sub6
 refine ⟨aK (show 3≤1000000 by decide),fun so hso=>?_⟩
 have S7:=aq.upd (o:=.lst [V.ref x1,V.ref x2,V.ref x3]) hso
 have hso7:upd H6 so (.lst [V.ref x1,V.ref x2,V.ref x3]) so=some (.lst [V.ref x1,V.ref x2,V.ref x3]):=af
 have p7:=p6.same (N':=N+20) (by omega) S7
 have hdu7:=S7 _ _ hdu6
 have kL7:=kL6.same S7
 have kR7:=kR6.same S7
 have kn17:=kn16.same S7
 have kn27:=kn26.same S7
 have kn37:=kn3.same S7
 clear p6 p5 p4 pf kL6 kR6 kL5 kR5 kL4 kR4 kLf kRf kn16 kn15 kn26 kn1 kn2 kn3 hdu3 hdu4 hdu5 hdu6 s3 s4 s5 s6
 generalize upd H6 so (.lst [V.ref x1,V.ref x2,V.ref x3])=H7 at hso7 p7 hdu7 kL7 kR7 kn17 kn27 kn37
 show ph K A _ [some (.ref a),some (.ref f),some (.int (B:Int)),some (.int (k1:Int)),v4,some (.int (k2:Int)),some (.ref te),some (.ref kl),some (.ref p1),some (.ref p2),some (.ref xl),some (.ref xr),some (.ref du),some (.ref so),none,none,none] H7
 cases tm with
 | fork _ _ _ _ _ _ m1' m2' gm1 gm2=>
 refine ixT (j:=1) hdu7 rfl rfl (ixT (j:=2) hdu7 rfl rfl ?_)
 refine fun x4 dx4 hx4 hdx4 ne4=>?_
 have S8:=bB (o:=.own x4) (u:=.ins A.c_Fork dx4 []) hx4 hdx4 ne4
 refine ⟨x4,dx4,f,b,xl,xr,g6,_,d,e,.leaf ka za,.leaf kc zc,ml,mr,rfl,af,p7.s.same (Nat.le_refl _) S8,by omega,by omega,by omega,kL7.same S8,kR7.same S8,by show 400+400≤90000;decide,fun m4 g8 H8 kp8 kn4 s8 sub8=>⟨rfl,?_⟩⟩
 have kb8:=dB hx4 hdx4 ne4 kp8
 have p8:=p7.kept kb8 s8
 have hso8:=kb8 _ _ (p7.s.nb hso7 fun _ z=>nomatch z) hso7
 have kn18:=kn17.kb p7.s kb8 sub8
 have kn28:=kn27.kb p7.s kb8 sub8
 have kn38:=kn37.kb p7.s kb8 sub8
 refine ⟨aK (show 1≤1000000 by decide),fun l9 hl9=>?_⟩
 have S9:=aq.upd (o:=.lst [V.ref x4]) hl9
 refine .inl ⟨so,l9,_,_,rfl,rfl,S9 _ _ hso8,af,aK (show 4≤1000000 by decide),fun so2 hso2=>?_⟩
 have S10:=S9.trans (aq.upd (o:=.lst ([V.ref x1,V.ref x2,V.ref x3]++[V.ref x4])) hso2)
 have hso10:upd (upd H8 l9 (.lst [V.ref x4])) so2 (.lst ([V.ref x1,V.ref x2,V.ref x3]++[V.ref x4])) so2=some (.lst ([x1,x2,x3,x4].map V.ref)):=af
 generalize upd (upd H8 l9 (.lst [V.ref x4])) so2 (.lst ([V.ref x1,V.ref x2,V.ref x3]++[V.ref x4]))=H10 at S10 hso10
 show qg K A _ [some (.ref a),some (.ref f),some (.int (B:Int)),some (.int (k1:Int)),v4,some (.int (k2:Int)),some (.ref te),some (.ref kl),some (.ref p1),some (.ref p2),some (.ref xl),some (.ref xr),some (.ref du),some (.ref so2),none,none,none] H10
 refine ⟨aK (show 0≤1000000 by decide),fun r1 hr1=>⟨aK (show 1≤1000000 by decide),fun r2 hr2=>⟨aK (show 1≤1000000 by decide),fun r3 hr3=>⟨aK (show 2≤1000000 by decide),fun r4 hr4=>⟨aK (show 4≤1000000 by decide),fun ro hro=>?_⟩⟩⟩⟩⟩
 have T1:=aq.upd (o:=.lst []) hr1
 have T2:=aq.upd (o:=.lst [V.ref p1]) hr2
 have T3:=aq.upd (o:=.lst [V.ref p2]) hr3
 have T4:=aq.upd (o:=.lst [V.ref p1,V.ref p2]) hr4
 have T5:=aq.upd (o:=.lst [V.ref r1,V.ref r2,V.ref r3,V.ref r4]) hro
 have St:=S10.trans (T1.trans (T2.trans (T3.trans (T4.trans T5))))
 have q1:_=some (HO.lst (([]:List Addr).map V.ref)):=(T2.trans (T3.trans (T4.trans T5))) _ _ (af (H:=H10) (a:=r1) (o:=.lst []))
 have q2:_=some (HO.lst ([p1].map V.ref)):=(T3.trans (T4.trans T5)) _ _ (af (a:=r2) (o:=.lst [V.ref p1]))
 have q3:_=some (HO.lst ([p2].map V.ref)):=(T4.trans T5) _ _ (af (a:=r3) (o:=.lst [V.ref p2]))
 have q4:_=some (HO.lst ([p1,p2].map V.ref)):=T5 _ _ (af (a:=r4) (o:=.lst [V.ref p1,V.ref p2]))
 have pz:=p8.same (N':=N+21) (Nat.le_refl _) St
 have hsz:=(T1.trans (T2.trans (T3.trans (T4.trans T5)))) _ _ hso10
 have kz1:=kn18.same St
 have kz2:=kn28.same St
 have kz3:=kn38.same St
 have kz4:=kn4.same St
 have hkb:∀ k∈[k1,k2,k3],k<2^B:=fun k hk=>by
   simp only [List.mem_cons,List.not_mem_nil,or_false] at hk
   rcases hk with rfl | rfl | rfl <;> assumption
 show lh K A _ [some (.ref a),some (.ref f),some (.int (B:Int)),some (.int (k1:Int)),v4,some (.int (k2:Int)),some (.ref te),some (.ref kl),some (.ref p1),some (.ref p2),some (.ref xl),some (.ref xr),some (.ref du),some (.ref so2),some (.ref ro),none,none] _
 refine Cq (Y:=[x1,x2,x3,x4]) (Ls:=[r1,r2,r3,r4]) (ks:=[k1,k2,k3]) T ⟨fun i y l hy hl=>?_,pz.s,hsz,af,pz.hte⟩ (by omega) rfl rfl hz2 q
 have hi:i<4:=(List.getElem?_eq_some_iff.mp hy).1
 have hc:i=0∨i=1∨i=2∨i=3:=by omega
 rcases hc with rfl | rfl | rfl | rfl
 · cases hy;cases hl
   exact ⟨_,_,[],[],kz1,pz.s,B1,B60,wn,ze,q1,.nil,pz.hkl,hkb,Nat.le_refl 3⟩
 · cases hy;cases hl
   exact ⟨_,_,[(k1,z0)],[p1],kz2,pz.s,B1,B60,eB h1 hz0,fi,q2,.cons pz.h1 .nil,pz.hkl,hkb,Nat.le_refl 3⟩
 · cases hy;cases hl
   exact ⟨_,_,[(k2,z1)],[p2],kz3,pz.s,B1,B60,eB h2 hz1,fi,q3,.cons pz.h2 .nil,pz.hkl,hkb,Nat.le_refl 3⟩
 · cases hy;cases hl
   exact ⟨_,_,[(k1,z0),(k2,z1)],[p1,p2],kz4,pz.s,B1,B60,tw,kno,q4,.cons pz.h1 (.cons pz.h2 .nil),pz.hkl,hkb,Nat.le_refl 3⟩
theorem SqL.kl {H H':Hp} {a:Addr} {xs:List V} (h:SqL K H a xs) (k:∀ z o,H z=some o→lsO o→H' z=some o):SqL K H' a xs:=by
 rcases h with (h | ⟨o,h⟩) | h
 · exact .inl (.inl (k _ _ h (.inl ⟨_,rfl⟩)))
 · exact .inl (.inr ⟨o,k _ _ h (.inr ⟨_,_,rfl⟩)⟩)
 · exact .inr h
theorem turned {x p:Nat}:x^^^2^p≠x:=by
 intro e
 have e3:2^p=0:=by
  have:x^^^(x^^^2^p)=x^^^x:=by rw [e]
  rw [← Nat.xor_assoc,Nat.xor_self,Nat.zero_xor] at this;exact this
 have:=Nat.two_pow_pos p
 omega
theorem vj {x j m:Nat} (hm:j<m) (x1:x<2^m):∃ y:Nat,Builtin.bitXor (x:Int) (1*2^j)=(y:Int)∧y<2^m∧y≠x:=by
 have e:(1:Int)*2^j=((2^j:Nat):Int):=by rw [Int.one_mul,je]
 refine ⟨x^^^2^j,by rw [e,ku],Nat.xor_lt_two_pow x1 (Nat.pow_lt_pow_right (by decide:1<2) hm),turned⟩
theorem Aq (K:W.Frag) (A:Adr):Ln (mC K A) 1:=by rintro vs H Q E ⟨a,ns,rfl,_⟩;rfl
theorem CT (T : Txt K mg A) : Rd (mC K A) (Fu K A) ["_law_script", "_law_stamper_here", "_law_bits", "_law_one", "_law_cell", "_law_other", "_law_texts", "_law_keys", "_law_first", "_law_second", "_law_left", "_law_right_here", "_law_due_here", "_law_some", "_law_rows", "_law_knot", "_law_held"] := by
  intro vs H Q E h
  obtain ⟨a, ns, rfl, hs, hl, tabs, q⟩ := h
  refine ⟨a, ns, 0, rfl, hs, by decide, fun c => ⟨c, rfl, tabs, fun f b g H1 k1 s1 => ?_⟩⟩
  have hs1 : SqL K H1 a (ns.map V.int) := SqL.kl hs fun z o e h => k1 z o e fun ps q => by subst q; rcases h with ⟨_, h⟩ | ⟨_, _, h⟩ <;> cases h
  refine ⟨a, ns, 1, rfl, hs1, by decide, fun z1 => ⟨by decide, ?_⟩⟩
  obtain ⟨B, hB⟩ : ∃ B : Nat, 1 + z1 % 60 = (B : Int) := ⟨(1 + z1 % 60).toNat, by omega⟩
  have B1 : 1 ≤ B := by omega
  have B60 : B ≤ 60 := by omega
  have p60 : 2 ^ B ≤ 2 ^ 60 := Nat.pow_le_pow_right (by decide) B60
  show sU K A _ [some (.ref a), some (.ref f), some (.int (1 + z1 % 60)), none, none, none, none, none, none, none, none, none, none, none, none, none, none] H1
  rw [hB]
  refine ⟨a, ns, 2, rfl, hs1, by decide, fun c2 => ⟨c2, B, rfl, B1, B60, fun j1 hj1 => ?_⟩⟩
  refine ⟨a, ns, 3, rfl, hs1, by decide, fun c3 => ?_⟩
  show sC K A _ [some (.ref a), some (.ref f), some (.int (B : Int)), some (.int (j1 : Int)), some (.int c3), none, none, none, none, none, none, none, none, none, none, none, none] H1
  have bv : ∀ j2 : Nat, j2 < 2 ^ B → j2 ≠ j1 → kY K A { nx := fun _ H' => Q .non H', rt := Q } [some (.ref a), some (.ref f), some (.int (B : Int)), some (.int (j1 : Int)), some (.int c3), some (.int (j2 : Int)), none, none, none, none, none, none, none, none, none, none, none] H1 := by
    intro j2 hj2 ne
    refine ⟨3, rfl, by decide, by decide, fun D hD => ?_⟩
    refine jd cD.range (fun i ys H' => aq H1 H' ∧ H' D = some (.lst ys) ∧ ys.length = i ∧ ∀ v ∈ ys, ∃ z, v = .str z ∧ bE z) (fun _ _ _ _ _ => trivial) ⟨aq.upd hD, af, rfl, (fun _ z => nomatch z)⟩ ?_ ?_
    · rintro i ys H2 hi ⟨S2, hD2, ly, hy⟩
      have hi : i < 3 := hi
      refine rf ⟨a, ns, _, rfl, S2.seq hs1, by omega, fun cz => ⟨cz, rfl, fun z H3 S3 hz => ⟨S3 _ _ hD2, by rw [ly]; exact tK (by omega), CWd.next hi ⟨fun w o ew => ?_, af, by rw [List.length_append, ly]; rfl, fun v hv => ?_⟩⟩⟩⟩
      · rw [ak (ar ew hD)]; exact S3 _ _ (S2 _ _ ew)
      · rcases List.mem_append.mp hv with z | z
        · exact hy v z
        · rw [List.mem_singleton.mp z]; exact ⟨_, rfl, hz⟩
    rintro ys H2 ⟨S2, hD2, ly, hy⟩
    have ly : ys.length = 3 := ly
    obtain ⟨z0, z1', z2, rfl, hz0, hz1, hz2⟩ : ∃ z0 z1 z2, ys = [V.str z0, .str z1, .str z2] ∧ bE z0 ∧ bE z1 ∧ bE z2 := by
      match ys, ly, hy with
      | [v0, v1, v2], _, hy =>
        obtain ⟨z0, rfl, h0⟩ := hy v0 (by simp)
        obtain ⟨z1, rfl, h1⟩ := hy v1 (by simp)
        obtain ⟨z2, rfl, h2⟩ := hy v2 (by simp)
        exact ⟨z0, z1, z2, rfl, h0, h1, h2⟩
    have s2 := s1.same (m := 0) (Nat.le_refl _) S2
    show sZ K A _ [some (.ref a), some (.ref f), some (.int (B : Int)), some (.int (j1 : Int)), some (.int c3), some (.int (j2 : Int)), some (.ref D), none, none, none, none, none, none, none, none, none, none] H2
    refine ⟨a, ns, 4, rfl, S2.seq hs1, by decide, fun c4 => ⟨c4, B, rfl, B1, B60, fun j3 hj3 => ⟨aK (show 3 ≤ 1000000 by decide), fun kl hkl => ?_⟩⟩⟩
    have S3 := aq.upd (o := .lst [V.int (j1 : Int), V.int (j2 : Int), V.int (j3 : Int)]) hkl
    refine ixL (S3 _ _ hD2) rfl ⟨aK (show 2 ≤ 1000000 by decide), fun p1 hp1 => ?_⟩
    have S4 := aq.upd (o := .tup [V.int (j1 : Int), V.str z0]) hp1
    refine ixL (i := 1) (S4 _ _ (S3 _ _ hD2)) rfl ⟨aK (show 2 ≤ 1000000 by decide), fun p2 hp2 => ?_⟩
    have S5 := aq.upd (o := .tup [V.int (j2 : Int), V.str z1']) hp2
    have S35 := S3.trans (S4.trans S5)
    have pr : Pr A _ f b D kl p1 p2 g 0 B j1 j2 j3 z0 z1' z2 := ⟨s2.same (Nat.le_refl _) S35, S35 _ _ hD2, (S4.trans S5) _ _ af, S5 _ _ af, af⟩
    generalize upd (upd (upd H2 kl (.lst [V.int (j1 : Int), V.int (j2 : Int), V.int (j3 : Int)])) p1 (.tup [V.int (j1 : Int), V.str z0])) p2 (.tup [V.int (j2 : Int), V.str z1']) = H5 at pr
    show oW K A _ [some (.ref a), some (.ref f), some (.int (B : Int)), some (.int (j1 : Int)), some (.int c3), some (.int (j2 : Int)), some (.ref D), some (.ref kl), some (.ref p1), some (.ref p2), none, none, none, none, none, none, none] H5
    obtain ⟨ka, kc, za, zc, od, hka, hkc, hza, hzc⟩ : ∃ ka kc za zc, Ord j1 j2 z0 z1' ka kc za zc ∧ ka < 2 ^ B ∧ kc < 2 ^ B ∧ bE za ∧ bE zc := by
      by_cases h : j2 < j1
      · exact ⟨j2, j1, z1', z0, .inl ⟨h, rfl, rfl, rfl, rfl⟩, hj2, hj1, hz1, hz0⟩
      · exact ⟨j1, j2, z0, z1', .inr ⟨by omega, rfl, rfl, rfl, rfl⟩, hj1, hj2, hz0, hz1⟩
    obtain ⟨e1, e2, e3, e4, _, _⟩ := od.facts
    refine ixL pr.hte rfl (ixL (i := 1) pr.hte rfl ⟨aK (show 2 ≤ 1000000 by decide), fun L6 hL6 => ixL af e3 ?_⟩)
    have S6 := aq.upd (o := .lst [V.str z0, V.str z1']) hL6
    have pr6 := pr.same (N' := 0) (Nat.le_refl _) S6
    rw [e1]
    refine fun x7 dx7 hx7 hdx7 ne7 => ⟨x7, dx7, f, b, g, _, ka, za, rfl, af, pr6.s.same (Nat.le_refl _) (bB hx7 hdx7 ne7), by decide, by omega, hza, fun m7 g7 H7 kp7 kn7 s7 sub7 => ⟨rfl, ?_⟩⟩
    have kb7 := dB hx7 hdx7 ne7 kp7
    have pr7 := pr6.kept kb7 s7
    show pV K A _ [some (.ref a), some (.ref f), some (.int (B : Int)), some (.int (j1 : Int)), some (.int c3), some (.int (j2 : Int)), some (.ref D), some (.ref kl), some (.ref p1), some (.ref p2), some (.ref x7), none, none, none, none, none, none] H7
    refine ixL (i := 1) pr7.hte rfl (ixL pr7.hte rfl ⟨aK (show 2 ≤ 1000000 by decide), fun L8 hL8 => ixL af e4 ?_⟩)
    have S8 := aq.upd (o := .lst [V.str z1', V.str z0]) hL8
    have pr8 := pr7.same (N' := 1) (Nat.le_refl _) S8
    have kn8 := kn7.same S8
    rw [e2]
    refine fun x9 dx9 hx9 hdx9 ne9 => ⟨x9, dx9, f, b, g7, _, kc, zc, rfl, af, pr8.s.same (Nat.le_refl _) (bB hx9 hdx9 ne9), by decide, by omega, hzc, fun m9 g9 H9 kp9 kn9 s9 sub9 => ⟨rfl, ?_⟩⟩
    have kb9 := dB hx9 hdx9 ne9 kp9
    have pr9 := pr8.kept kb9 s9
    exact Dh T pr9 (by decide) B1 B60 hj1 hj2 hj3 ne hz0 hz1 hz2 od (kn8.kb pr8.s kb9 sub9) kn9 q
  refine ⟨⟨by decide, by decide⟩, c3 / 2, B, rfl, B1, B60, fun j2 hj2 => ?_⟩
  show rV K A _ [some (.ref a), some (.ref f), some (.int (B : Int)), some (.int (j1 : Int)), some (.int c3), some (.int (j2 : Int)), none, none, none, none, none, none, none, none, none, none, none] H1
  have r0 := Int.emod_nonneg (c3 / 2) (b := (B : Int)) (by omega)
  have r1 := Int.emod_lt_of_pos (c3 / 2) (b := (B : Int)) (by omega)
  obtain ⟨y, ey, hy, ney⟩ := vj (x := j1) (j := (c3 / 2 % (B : Int)).toNat) (m := B) (by omega) hj1
  have flip : (aw (aP (tOp (oG) (ae 3) (tOp (lL) (tC (.int 1)) (tOp (cr) (tOp (ci) (ae 4) (tC (.int 2))) (ae 2)))) (av 5)) (kY K A)) { nx := fun _ H' => Q .non H', rt := Q } [some (.ref a), some (.ref f), some (.int (B : Int)), some (.int (j1 : Int)), some (.int c3), some (.int (j2 : Int)), none, none, none, none, none, none, none, none, none, none, none] H1 := by
    refine ⟨⟨by decide, by decide⟩, by omega, ⟨by omega, by omega, by decide⟩, ?_⟩
    show kY K A _ [some (.ref a), some (.ref f), some (.int (B : Int)), some (.int (j1 : Int)), some (.int c3), some (.int (Builtin.bitXor (j1 : Int) (1 * 2 ^ (c3 / 2 % (B : Int)).toNat))), none, none, none, none, none, none, none, none, none, none, none] H1
    rw [ey]
    exact bv y hy ney
  refine ⟨by decide, Sel.dec (fun _ => Sel.t flip) (fun _ => ?_)⟩
  refine Sel.dec (fun h => flip) (fun h => ?_)
  exact bv j2 hj2 fun e => h (by rw [e])
section
structure TP (P:Program) (w:World) (K:W.Frag) (mg:Str→Option Value) (base:Heap) (A:Adr):Prop extends Txt K mg A where
 B:BM mg base
 C_47:W.CodeHd base A.k_47 A.t_47
 C_37:W.CodeHd base A.k_37 A.t_37
 C_29:W.CodeHd base A.k_29 A.t_29
variable {P:Program} {w:World} {K:W.Frag} {mg:Str→Option Value} {base:Heap} {A:Adr} (T:TP P w K mg base A)
include T
theorem xt:aN P w K mg base (CX1 P w) 1 A.a_41 A.d_41 ["thing"] (kQ K A):=
 T.f_41.f.okS CK (Be K A) (Cs T.1) fun _ _ _ _ _ _ hr=>
 ap (aD (qQ (aM fj T.z_isinstance boot_isinstance (aa (ab 0) (aa (fE T.z_int boot_int) (ag)))) (mI (CQ (aM fj T.z_isinstance boot_isinstance (aa (ab 0) (aa (fE T.z_bool boot_bool) (ag))))))))
theorem Dx:aN P w K mg base (CX1 P w) 2 A.a_39 A.d_39 ["thing"] (mT K A):=
 T.f_39.f.okS Ex (Bd K A) (DP T.1) fun _ _ _ _ _ _ hr=>
 am (bh (bw (bi (xt T) hr.le T.f_41 (aa (ab 0) (ag)))) (ap (aD (yI oLe oLt (ao) (ab 0) (aH FJ (ao) (ao))))) (aV)) (ap (aD (aM fj T.z_isinstance boot_isinstance (aa (ab 0) (aa (fE T.z_str boot_str) (ag))))))
theorem xT:aN P w K mg base (CX1 P w) 3 A.a_40 A.d_40 ["thing"] (kE K A):=
 T.f_40.f.okS EL (Ai K A) (DM T.1) fun _ _ _ _ _ _ hr=>
 am (bh (cb (bw (aM fj T.z_isinstance boot_isinstance (aa (ab 0) (aa (fE T.z_tuple boot_tuple) (ag)))))) (ap (aD (cO))) (aV)) (am (bh (cb (vT oLe oLe (ao) (aM dL T.z_len PySem.boot_len (aa (ab 0) (ag))) (Fe T.c_MOST_PARTS))) (ap (aD (cO))) (aV)) (ap (aD (qQ (aM fj T.z_isinstance boot_isinstance (aa (bF (bc hr.units1) (ab 0) (ao) (fun _ _=>rfl)) (aa (fE T.z_str boot_str) (ag)))) (mI (aM (Gb rfl) T.z_all L2.zh (aa (nF (ys:=[]) (by exact ⟨rfl,by decide +kernel,by decide +kernel,rfl,by decide +kernel,by decide +kernel⟩) (by exact .nil) (fx (ab 0)) (fun C s H fp=>iN) (fun C s H fp=>(bi (Dx T) hr.le T.f_39 (aa (ab 0) (ag))))) (ag))))))))
theorem Eo:aN P w K mg base (CX1 P w) 2 A.a_44 A.d_44 ["part"] (mQ K A):=
 T.f_44.f.okS xo (zp K A) (Ek T.1) fun _ _ _ _ _ _ hr=>
 am (bh (bw (bi (xt T) hr.le T.f_41 (aa (ab 0) (ag)))) (ap (aD (tL (.cons (qW (ab 0)) (.cons (dh) (.nil)))))) (aV)) (am (aR 1 xo.nd (aM dL T.z_len PySem.boot_len (aa (ab 0) (ag)))) (ap (aD (tL (.cons (qW (ab 1)) (.cons (dh) (.cons (qW (ab 0)) (.nil))))))))
theorem CB:aN P w K mg base (CX1 P w) 4 A.a_49 A.d_49 ["term"] (kD K A):=
 T.f_49.f.okS CM (Ad K A) (Do T.1) fun _ _ _ _ _ _ hr=>
 am (bh (cb (bw (bi (xT T) hr.le T.f_40 (aa (ab 0) (ag))))) (ap (qe)) (aV)) (ap (aD (lm PySem.F.plainAttrs_str PySem.F.slot_str_join PySem.F.type_str_join pE (dh) (aa (nF (ys:=[]) (by exact ⟨rfl,by decide +kernel,by decide +kernel,rfl,by decide +kernel,by decide +kernel⟩) (by exact .nil) (fx (ab 0)) (fun C s H fp=>iN) (fun C s H fp=>(bi (Eo T) hr.le T.f_44 (aa (ab 0) (ag))))) (ag)))))
theorem DQ (f c:Addr) (cl:List (Str×Addr)) (Ar:Around) (outer:List Env) (s:Shared) (H:Hp) (E:XK)
  (hr:aW 4 (Ar.deeper (W.envX ed.qual ed.scope s.heap.objs.size f (.ref c) cl))):PE (fO P w K mg base ["term"] ed.qual ed.scope f c cl Ar outer s H E).nox (cZ wA) (AG K A):=QE.out (
 bi (CB T) hr.le T.f_49 (aa (ab 0) (ag)))
theorem Cw:eF P w K mg base 5 ed (qC K A):=
 gf rfl DW (fun f c cl Ar outer s H vs cvs Q E hr hl hc h=>by
  obtain ⟨a0,rfl⟩:=L2.cM hl
  obtain rfl:=L2.rO hc
  exact ⟨_,(DQ T f c cl Ar outer s H E hr).nox,Ej T.1 a0 H Q E h⟩)
theorem CZ:aN P w K mg base (CX1 P w) 4 A.a_21 A.d_21 ["self", "term"] (mw K A):=
 T.f_21.okS EB (zj K A) (DJ T.1) fun _ _ _ _ _ _ hr=>
 am (bh (cb (bw (bi (xT T) hr.le T.f_40 (aa (ab 1) (ag))))) (ap (qe)) (aV)) (am (bh (be (yM hr.units150) (ab 1) (aS (ab 0))) (ap (oj hr.units1 (aS (ab 0)) (ab 1) (aM dL T.z_len PySem.boot_len (aa (aS (ab 0)) (ag))))) (aV)) (ap (aD (bF (bc hr.units1) (aS (ab 0)) (ab 1) (fun _ _=>rfl)))))
theorem EJ (f c:Addr) (cl:List (Str×Addr)) (Ar:Around) (outer:List Env) (s:Shared) (H:Hp) (E:XK)
  (hr:aW 4 (Ar.deeper (W.envX dc.qual dc.scope s.heap.objs.size f (.ref c) cl))):PE (fO P w K mg base ["term", "numbers"] dc.qual dc.scope f c cl Ar outer s H E).nox (cZ uW) (zL K A):=QE.out (
 dS (ab 1) T.cl_Numbers T.me_Numbers_number_of (CZ T) hr.le T.b_21 aF (aa (ab 0) (ag)))
theorem EA:eF P w K mg base 5 dc (rC K A):=
 gf rfl Eg (fun f c cl Ar outer s H vs cvs Q E hr hl hc h=>by
  obtain ⟨a0,rfl⟩:=L2.cM hl
  obtain ⟨b0,rfl⟩:=L2.cM hc
  exact ⟨_,(EJ T f c cl Ar outer s H E hr).nox,Ei T.1 a0 b0 H Q E h⟩)
theorem Ci (f c:Addr) (cl:List (Str×Addr)) (Ar:Around) (outer:List Env) (s:Shared) (H:Hp) (E:XK)
  (hr:aW 0 (Ar.deeper (W.envX eJ.qual eJ.scope s.heap.objs.size f (.ref c) cl))):PE (fO P w K mg base ["_law_term", "_law_book"] eJ.qual eJ.scope f c cl Ar outer s H E).nox (cZ wC) (zm K A):=QE.out (
 lm PySem.F.plainAttrs_dict PySem.F.slot_dict_setdefault PySem.F.type_dict_setdefault (sf hr.units1) (ab 1) (aa (ab 0) (aa (aH db (aH fG (ao) (aM dL T.z_len PySem.boot_len (aa (ab 1) (ag)))) (ao)) (ag))))
theorem Cr:eF P w K mg base 1 eJ (qD K A):=
 gf rfl Er (fun f c cl Ar outer s H vs cvs Q E hr hl hc h=>by
  obtain ⟨a0,rfl⟩:=L2.cM hl
  obtain ⟨b0,rfl⟩:=L2.cM hc
  exact ⟨_,(Ci T f c cl Ar outer s H E hr).nox,DH T.1 a0 b0 H Q E h⟩)
theorem xA:aN P w K mg base (CX1 P w) 1 A.a_33 A.d_33 ["_law_term"] (kW K A):=
 T.f_33.f.okS fL (Aw K A) (DV T.1) fun _ _ _ _ _ _ hr=>
 am (aR 1 fL.nd (ao)) (am (kO 2 fL.nd (fx (ab 0)) (am (bh (bw (aM fj T.z_isinstance boot_isinstance (aa (ab 2) (aa (fE T.z_str boot_str) (ag))))) (am (aR 1 fL.nd (aH db (aH fG (ab 1) (ao)) (aH fG (ao) (aM dL T.z_len PySem.boot_len (aa (ab 2) (ag)))))) (ap (kO 3 fL.nd (fx (iX lg (ab 2) (lH) (fY (ao)))) (ap (aR 1 fL.nd (aH db (aH fG (ab 1) (ao)) (aM Fb T.z_ord boot_ord (aa (ab 3) (ag)))))) PassesOwn.never))) (ap (aR 1 fL.nd (aH db (aH fG (ab 1) (ao)) (ab 2))))) (ap (aR 1 fL.nd (aH cJ (ab 1) (ao))))) PassesOwn.never) (ap (aD (ab 1))))
theorem CO (f c:Addr) (cl:List (Str×Addr)) (Ar:Around) (outer:List Env) (s:Shared) (H:Hp) (E:XK)
  (hr:aW 1 (Ar.deeper (W.envX eE.qual eE.scope s.heap.objs.size f (.ref c) cl))):PE (fO P w K mg base ["_law_one", "_law_many"] eE.qual eE.scope f c cl Ar outer s H E).nox (cZ vh) (Bt K A):=QE.out (
 aH cJ (bi (xA T) hr.le T.f_33 (aa (ab 0) (ag))) (ab 1))
theorem Ct:eF P w K mg base 2 eE (qY K A):=
 gf rfl Dt (fun f c cl Ar outer s H vs cvs Q E hr hl hc h=>by
  obtain ⟨a0,rfl⟩:=L2.cM hl
  obtain ⟨b0,rfl⟩:=L2.cM hc
  exact ⟨_,(CO T f c cl Ar outer s H E hr).nox,Ed T.1 a0 b0 H Q E h⟩)
theorem Eh (f c:Addr) (cl:List (Str×Addr)) (Ar:Around) (outer:List Env) (s:Shared) (H:Hp) (E:XK)
  (hr:aW 1 (Ar.deeper (W.envX eM.qual eM.scope s.heap.objs.size f (.ref c) cl))):PE (fO P w K mg base ["_law_other", "_law_many"] eM.qual eM.scope f c cl Ar outer s H E).nox (cZ wm) (zA K A):=QE.out (
 aH db (dh) (dk FL T.z_str boot_str (aa (aH cJ (bi (xA T) hr.le T.f_33 (aa (ab 0) (ag))) (ab 1)) (ag))))
theorem Dr:eF P w K mg base 2 eM (qA K A):=
 gf rfl Df (fun f c cl Ar outer s H vs cvs Q E hr hl hc h=>by
  obtain ⟨a0,rfl⟩:=L2.cM hl
  obtain ⟨b0,rfl⟩:=L2.cM hc
  exact ⟨_,(Eh T f c cl Ar outer s H E hr).nox,CH T.1 a0 b0 H Q E h⟩)
theorem Co (B:BM mg base) (C:W.CodeHd base A.k_47 A.t_47) (Ar:Around) (outer:List Env) (s:Shared) (H:Hp) (E:XK)
  (hr:aW 0 (Ar.deeper (envOfC "writing" (aj jA) s.heap.objs.size A.a_47 (.ref A.k_47)))):QMs (eC (CX1 P w) P w K mg base [] "writing" (aj jA) A.a_47 (.ref A.k_47) Ar outer s H E).nox (aT jA) (As K A):=(
 gy (gD (kP B C rfl (by rfl) (by simp <;> omega) rfl rfl rfl rfl (fun _ _ _ _ us hl=>by obtain ⟨_,rfl⟩:=L2.cM hl;rfl))))
theorem Dw:aN P w K mg base (CX1 P w) 1 A.a_47 A.d_47 [] (mK K A):=
 T.f_47.f.okM (caps:=fun L=>[]) T.kc_47 Es (zo K A) (fun L p hp=>nomatch hp) (fun L=>by simp) (fun Ar outer s H vs Q E hr h=>⟨_,QMs.nox (Co T T.B T.C_47 Ar outer s H E hr),Dn T.1 (by simp) vs H Q E h⟩)
theorem DR:aN P w K mg base (CX1 P w) 1 A.a_20 A.d_20 ["self"] (mE K A):=
 T.f_20.okS Ec (zB K A) (DL T.1) fun _ _ _ _ _ _ hr=>
 ap (cV (ab 0) (pB))
theorem Ef (B:BM mg base) (C:W.CodeHd base A.k_37 A.t_37) (Ar:Around) (outer:List Env) (s:Shared) (H:Hp) (E:XK)
  (hr:aW 2 (Ar.deeper (envOfC "counting" (aj jM) s.heap.objs.size A.a_37 (.ref A.k_37)))):QMs (eC (CX1 P w) P w K mg base ["numbers"] "counting" (aj jM) A.a_37 (.ref A.k_37) Ar outer s H E).nox (aT jM) (zC K A (s.heap.objs.size+1)):=(
 fy (nM (aR 0 xL.nd (wL T.mk_Numbers (DR T) hr.le T.mc_Numbers T.b_20 aF))) (gy (gD (kP B C rfl (by rfl) (by simp <;> omega) rfl rfl rfl rfl (fun _ _ _ _ us hl=>by obtain ⟨_,rfl⟩:=L2.cM hl;rfl)))))
theorem EI:aN P w K mg base (CX1 P w) 3 A.a_37 A.d_37 [] (mF K A):=
 T.f_37.f.okM (caps:=fun L=>[(0,L+1)]) T.kc_37 xL (BK K A) (fun L p hp=>by simp only [List.mem_cons,List.not_mem_nil,or_false] at hp;rcases hp with rfl <;> exact ⟨_,rfl,rfl,rfl⟩) (fun L=>by simp) (fun Ar outer s H vs Q E hr h=>⟨_,QMs.nox (Ef T T.B T.C_37 Ar outer s H E hr),DS T.1 (s.heap.objs.size+1) (by simp) vs H Q E h⟩)
theorem De (B:BM mg base) (C:W.CodeHd base A.k_29 A.t_29) (Ar:Around) (outer:List Env) (s:Shared) (H:Hp) (E:XK)
  (hr:aW 3 (Ar.deeper (envOfC "_law_stamper" (aj ii) s.heap.objs.size A.a_29 (.ref A.k_29)))):QMs (eC (CX1 P w) P w K mg base ["_law_cell", "_law_book", "_law_many"] "_law_stamper" (aj ii) A.a_29 (.ref A.k_29) Ar outer s H E).nox (aT ii) (BX K A (s.heap.objs.size+1) (s.heap.objs.size+1+1)):=(
 fy (nM (aR 1 qy.nd (pB))) (fy (nM (aR 2 qy.nd (aH db (ao) (aH cJ (aH cS (ab 0) (ao)) (ao))))) (fy (rn (be (cG hr.units150) (aH cJ (ab 0) (ao)) (ao)) (gy (gD (nS (Dw T) hr.le T.f_47.m T.f_47.f.kp T.f_47.b aF))) (mz)) (fy (rn (be (cG hr.units150) (aH cJ (ab 0) (ao)) (ao)) (gy (gD (nS (EI T) hr.le T.f_37.m T.f_37.f.kp T.f_37.b aF))) (mz)) (fy (rn (be (cG hr.units150) (aH cJ (ab 0) (ao)) (ao)) (gy (gD (kP B C rfl (by rfl) (by simp <;> omega) rfl rfl rfl rfl (fun _ _ _ _ us hl=>by obtain ⟨_,rfl⟩:=L2.cM hl;rfl)))) (mz)) (fy (rn (be (cG hr.units150) (aH cJ (ab 0) (ao)) (ao)) (gy (gD (kP B C rfl (by rfl) (by simp <;> omega) rfl rfl rfl rfl (fun _ _ _ _ us hl=>by obtain ⟨_,rfl⟩:=L2.cM hl;rfl)))) (mz)) (gy (gD (kP B C rfl (by rfl) (by simp <;> omega) rfl rfl rfl rfl (fun _ _ _ _ us hl=>by obtain ⟨_,rfl⟩:=L2.cM hl;rfl))))))))))
theorem DZ:aN P w K mg base (CX1 P w) 4 A.a_29 A.d_29 ["_law_cell"] (mM K A):=
 T.f_29.f.okM (caps:=fun L=>[(1,L+1),(2,L+1+1)]) T.kc_29 qy (Br K A) (fun L p hp=>by simp only [List.mem_cons,List.not_mem_nil,or_false] at hp;rcases hp with rfl | rfl <;> exact ⟨_,rfl,rfl,rfl⟩) (fun L=>by simp) (fun Ar outer s H vs Q E hr h=>⟨_,QMs.nox (De T T.B T.C_29 Ar outer s H E hr),Ep T.1 (s.heap.objs.size+1) (s.heap.objs.size+1+1) (by simp) vs H Q E h⟩)
theorem iR:aN P w K mg base (CX1 P w) 1 A.a_22 A.d_22 ["_law_script", "_law_k"] (eW K A):=
 T.f_22.f.okS Dd (An K A) (Cu T.1) fun _ _ _ _ _ _ hr=>
 am (bh (be oLt (ab 1) (aM dL T.z_len PySem.boot_len (aa (ab 0) (ag)))) (ap (aD (bF (bc hr.units1) (ab 0) (ab 1) (fun _ _=>rfl)))) (aV)) (ap (aD (ao)))
theorem qk:aN P w K mg base (CX1 P w) 1 A.a_25 A.d_25 ["_law_cell", "_law_bits"] (jg K A):=
 T.f_25.f.okS xR (Ah K A) (DB T.1) fun _ _ _ _ _ _ hr=>
 am (aR 2 xR.nd (aH uR (ao) (ab 1))) (am (bh (be (cG hr.units150) (aH cJ (ab 0) (ao)) (ao)) (ap (aD (aH cJ (aH cS (ab 0) (ao)) (ab 2)))) (aV)) (am (bh (be (cG hr.units150) (aH cJ (ab 0) (ao)) (ao)) (ap (aD (aH cJ (aH fG (aH cS (ab 0) (ao)) (ao)) (ab 2)))) (aV)) (ap (aD (aH ls (aH ls (ab 2) (ao)) (aH cJ (aH cS (ab 0) (ao)) (ab 2)))))))
theorem CG:aN P w K mg base (CX1 P w) 1 A.a_28 A.d_28 ["_law_cell", "_law_many"] (mN K A):=
 T.f_28.f.okS iT (AF K A) (Cp T.1) fun _ _ _ _ _ _ hr=>
 am (aR 2 iT.nd (dh)) (am (aR 3 iT.nd (cL (ag))) (am (aR 4 iT.nd (aH cJ (ab 0) (ao))) (am (kO 5 iT.nd (nJ T.z_range (aa (ab 1) (ag))) (am (aR 4 iT.nd (aH cJ (aH db (aH db (aH fG (ab 4) (ao)) (ab 5)) (ao)) (ao))) (ap (iB (lm PySem.F.plainAttrs_list PySem.F.slot_list_append PySem.F.type_list_append iK (ab 3) (aa (bF (bc hr.units1) (ab 2) (aH cJ (ab 4) (ao)) (fun _ _=>rfl)) (ag)))))) PassesOwn.never) (ap (aD (lm PySem.F.plainAttrs_str PySem.F.slot_str_join PySem.F.type_str_join pE (dh) (aa (ab 3) (ag))))))))
theorem Dv:aN P w K mg base (CX1 P w) 2 A.a_35 A.d_35 ["_law_cell"] (mL K A):=
 T.f_35.f.okS El (BC K A) (Cj T.1) fun _ _ _ _ _ _ hr=>
 ap (aD (bi (CG T) hr.le T.f_28 (aa (aH cS (ab 0) (ao)) (aa (bF (bc hr.units1) (cL (aa (ao) (aa (ao) (aa (aH db (ao) (aH cJ (aH cS (ab 0) (ao)) (ao))) (aa (ao) (ag)))))) (aH cJ (ab 0) (ao)) (fun _ _=>rfl)) (ag)))))
theorem kg:pO P w K mg base 5 (gA K A):=fun ts hts=>by
 simp only [gA,List.mem_cons,List.not_mem_nil,or_false] at hts
 rcases hts with rfl | rfl | rfl | rfl | rfl
 · exact (Cw T).mono (by decide)
 · exact (EA T).mono (by decide)
 · exact (Cr T).mono (by decide)
 · exact (Ct T).mono (by decide)
 · exact (Dr T).mono (by decide)
theorem nh:aN P w K mg base (CX1 P w) 6 A.a_14 A.d_14 ["self", "stamper", "term"] (gW K A):=
 T.f_14.okS Cz (AN K A) (Dz T.1) fun _ _ _ _ _ _ hr=>
 am (cV (ab 0) (ab 2)) (ap (cV (ab 0) (kq (kg T) hr.le aF (ab 1) (aa (ab 2) (ag)))))
theorem gU:aN P w K mg base (CX1 P w) 7 A.a_15 A.d_15 ["self", "stamper", "key", "value"] (dY K A):=
 T.f_15.okS Ea (zw K A) (Ez T.1) fun _ _ _ _ _ _ hr=>
 am (iB (ny T.mc_Knot T.cf_Knot (nh T) hr.le T.b_14 aF (aa (ab 0) (aa (ab 1) (aa (dv (aa (dh) (aa (ab 2) (aa (ab 3) (ag))))) (ag)))))) (am (cV (ab 0) (ab 2)) (ap (cV (ab 0) (ab 3))))
theorem xF:aN P w K mg base (CX1 P w) 6 A.a_23 A.d_23 ["_law_stamper_here", "_law_bits", "_law_rows"] (ke K A):=
 T.f_23.f.okS iU (Bj K A) (EF T.1) fun _ _ _ _ _ _ hr=>
 am (bh (be (cG hr.units150) (aM dL T.z_len PySem.boot_len (aa (ab 2) (ag))) (ao)) (ap (aD (dv (aa (dh) (ag))))) (aV)) (am (bh (be (cG hr.units150) (aM dL T.z_len PySem.boot_len (aa (ab 2) (ag))) (ao)) (ap (aD (dv (aa (dh) (aa (bF (bc hr.units1) (bF (bc hr.units1) (ab 2) (ao) (fun _ _=>rfl)) (ao) (fun _ _=>rfl)) (aa (bF (bc hr.units1) (bF (bc hr.units1) (ab 2) (ao) (fun _ _=>rfl)) (ao) (fun _ _=>rfl)) (ag))))))) (aV)) (am (aR 3 iU.nd (aH cS (aH uR (ao) (ab 1)) (ao))) (am (aR 4 iU.nd (ao)) (am (zd (be (cG hr.units150) (aH cS (bF (bc hr.units1) (bF (bc hr.units1) (ab 2) (ao) (fun _ _=>rfl)) (ao) (fun _ _=>rfl)) (ab 3)) (aH cS (bF (bc hr.units1) (bF (bc hr.units1) (ab 2) (ao) (fun _ _=>rfl)) (ao) (fun _ _=>rfl)) (ab 3))) (am (aR 3 iU.nd (aH cS (ab 3) (ao))) (ap (aR 4 iU.nd (aH db (ab 4) (ao))))) PassesOwn.never) (am (rB (ys:=["_law_stamper_here"]) 5 iU.nd (by exact ⟨rfl,by decide +kernel,by decide +kernel,rfl,rfl,by decide +kernel,by decide +kernel⟩) (by exact .cons rfl (by first | exact .inl rfl | exact .inr rfl) rfl (.nil)) (fx (ab 2)) (fun C s H fp=>iN) (fun C s H fp=>(kq (kg T) hr.le aF (ab 2) (aa (dv (aa (dh) (aa (ab 0) (aa (ab 1) (ag))))) (ag))))) (ap (aD (dv (aa (dh) (aa (ab 4) (aa (aH cS (bF (bc hr.units1) (bF (bc hr.units1) (ab 2) (ao) (fun _ _=>rfl)) (ao) (fun _ _=>rfl)) (aH fG (ao) (ab 3))) (aa (bF (bc hr.units1) (ab 5) (ao) (fun _ _=>rfl)) (aa (bF (bc hr.units1) (ab 5) (ao) (fun _ _=>rfl)) (ag))))))))))))))
theorem wR:aN P w K mg base (CX1 P w) 1 A.a_34 A.d_34 ["_law_found", "_law_due_here"] (jV K A):=
 T.f_34.f.okS xC (Ab K A) (CJ T.1) fun _ _ _ _ _ _ hr=>
 am (bh (x_w (fb (cb (bw (aM fj T.z_isinstance boot_isinstance (aa (ab 0) (aa (fE T.z_tuple boot_tuple) (ag)))))) (eS (be (gG hr.units150) (aM dL T.z_len PySem.boot_len (aa (ab 0) (ag))) (aM dL T.z_len PySem.boot_len (aa (ab 1) (ag))))))) (ap (aD (cO))) (aV)) (am (nr 2 3 xC.nd (nC T.z_zip (aa (ab 0) (aa (ab 1) (ag)))) (ap (bh (x_w (fb (bw (aM fj T.z_isinstance boot_isinstance (aa (ab 2) (aa (fE T.z_bool boot_bool) (ag))))) (fb (be (gG hr.units150) (aM fj T.z_isinstance boot_isinstance (aa (ab 2) (aa (fE T.z_str boot_str) (ag)))) (aM fj T.z_isinstance boot_isinstance (aa (ab 3) (aa (fE T.z_str boot_str) (ag))))) (eS (be (gG hr.units150) (ab 2) (ab 3)))))) (ap (aD (cO))) (aV))) PassesOwn.never) (ap (aD (cO))))
theorem wX:aN P w K mg base (CX1 P w) 8 A.a_26 A.d_26 ["_law_stamper_here", "_law_term"] (kS K A):=
 T.f_26.f.okS xj (BH K A) (Dj T.1) fun _ _ _ _ _ _ hr=>
 am (aR 2 xj.nd (bT T.mk_Knot (nh T) hr.le T.mc_Knot T.b_14 aF (aa (ab 0) (aa (ab 1) (ag))))) (ap (aD (qQ (bi (wR T) hr.le T.f_34 (aa (aS (ab 2)) (aa (ab 1) (ag)))) (mI (iP (cG hr.units150) (aS (ab 2)) (kq (kg T) hr.le aF (ab 0) (aa (ab 1) (ag))))))))
theorem Bm:aN P w K mg base (CX1 P w) 7 A.a_0 A.d_0 ["self", "stamper"] (lq K A):=
 T.f_0.okS Gy (Di K A) (EO T.1) fun _ _ _ _ _ _ hr=>
 ap (iB (ny T.mc_Knot T.cf_Knot (nh T) hr.le T.b_14 aF (aa (ab 0) (aa (ab 1) (aa (dv (aa (dh) (ag))) (ag))))))
theorem nX:aN P w K mg base (CX1 P w) 7 A.a_5 A.d_5 ["self", "stamper", "depth", "begin", "left", "right"] (gZ K A):=
 T.f_5.okS Gh (DO K A) (Gd T.1) fun _ _ _ _ _ _ hr=>
 am (iB (ny T.mc_Knot T.cf_Knot (nh T) hr.le T.b_14 aF (aa (ab 0) (aa (ab 1) (aa (dv (aa (dh) (aa (ab 2) (aa (ab 3) (aa (aS (ab 4)) (aa (aS (ab 5)) (ag))))))) (ag)))))) (am (cV (ab 0) (ab 2)) (am (cV (ab 0) (ab 3)) (am (cV (ab 0) (ab 4)) (ap (cV (ab 0) (ab 5))))))
theorem wy:aN P w K mg base (CX1 P w) 1 A.a_2 A.d_2 ["self"] (jG K A):=
 T.f_2.okS Fd (CU K A) (Gs T.1) fun _ _ _ _ _ _ hr=>
 ap (aD (cL (ag)))
theorem rg:aN P w K mg base (CX1 P w) 1 A.a_17 A.d_17 ["self"] (gE K A):=
 T.f_17.okS Em (zV K A) (EH T.1) fun _ _ _ _ _ _ hr=>
 ap (aD (cL (aa (dv (aa (aS (ab 0)) (aa (aS (ab 0)) (ag)))) (ag))))
theorem rE:∀ n:Nat,aN P w K mg base (CX1 P w) (1+n) A.a_10 A.d_10 ["self"] (fF K A n)
 | 0=>⟨fun vs H Q E h=>(wO K A vs H Q E h).elim,fun _ _ _ H _ _ vs Q E _ _ _ _ h=>(wO K A vs H Q E h).elim⟩
 | n+1=>T.f_10.okS Dq (Ba K A (n+1)) (CL T.1 n) fun _ _ _ _ _ _ (hr:aW (1+n) _)=>
 ap (aD (aH db (jC (aS (ab 0)) (mdc T.cl_Bare T.me_Bare_rows (wy T) hr.le T.b_2 aF (mdc T.cl_Leaf T.me_Leaf_rows (rg T) hr.le T.b_17 aF (mdc T.cl_Fork T.me_Fork_rows (rE n) hr.le T.b_10 aF (mdn rfl))))) (jC (aS (ab 0)) (mdc T.cl_Bare T.me_Bare_rows (wy T) hr.le T.b_2 aF (mdc T.cl_Leaf T.me_Leaf_rows (rg T) hr.le T.b_17 aF (mdc T.cl_Fork T.me_Fork_rows (rE n) hr.le T.b_10 aF (mdn rfl)))))))
theorem Ag:aN P w K mg base (CX1 P w) 1 A.a_1 A.d_1 ["self", "bits", "key"] (lj K A):=
 T.f_1.okS Gu (Dy K A) (EQ T.1) fun _ _ _ _ _ _ hr=>
 ap (aD (xE))
theorem wQ:aN P w K mg base (CX1 P w) 1 A.a_16 A.d_16 ["self", "bits", "key"] (iW K A):=
 T.f_16.okS DC (Bk K A) (CD T.1) fun _ _ _ _ _ _ hr=>
 ap (aD (qX (be (cG hr.units150) (ab 2) (aS (ab 0))) (aS (ab 0)) (xE)))
theorem mP:aN P w K mg base (CX1 P w) 1 A.a_45 A.d_45 ["bits", "key", "depth"] (gC K A):=
 T.f_45.f.okS CP (Cf K A) (DA T.1) fun _ _ _ _ _ _ hr=>
 ap (aD (aH Cy (aH Bh (ab 1) (aH ls (aH ls (ab 0) (ab 2)) (ao))) (ao)))
theorem qx:aN P w K mg base (CX1 P w) 2 A.a_11 A.d_11 ["self", "bits", "key"] (jh K A):=
 T.f_11.okS Dm (Bn K A) (DK T.1) fun _ _ _ _ _ _ hr=>
 ap (aD (qX (be (cG hr.units150) (bi (mP T) hr.le T.f_45 (aa (ab 1) (aa (ab 2) (aa (aS (ab 0)) (ag))))) (ao)) (aS (ab 0)) (aS (ab 0))))
theorem Ca:∀ n:Nat,aN P w K mg base (CX1 P w) (2+n) A.a_8 A.d_8 ["self", "bits", "key"] (jK K A n)
 | 0=>⟨fun vs H Q E h=>(zI K A vs H Q E h).elim,fun _ _ _ H _ _ vs Q E _ _ _ _ h=>(zI K A vs H Q E h).elim⟩
 | n+1=>T.f_8.okS Fk (DN K A (n+1)) (Fo T.1 n) fun _ _ _ _ _ _ (hr:aW (2+n) _)=>
 ap (aD (fg (dS (ab 0) T.cl_Fork T.me_Fork_toward (qx T) hr.le T.b_11 aF (aa (ab 1) (aa (ab 2) (ag)))) (mdc T.cl_Bare T.me_Bare_found (Ag T) hr.le T.b_1 aF (mdc T.cl_Leaf T.me_Leaf_found (wQ T) hr.le T.b_16 aF (mdc T.cl_Fork T.me_Fork_found (Ca n) hr.le T.b_8 aF (mdn rfl)))) (aa (ab 1) (aa (ab 2) (ag)))))
theorem jf:∀ n:Nat,aN P w K mg base (CX1 P w) (72+n) A.a_27 A.d_27 ["_law_knot", "_law_stamper_here", "_law_bits", "_law_rows", "_law_keys"] (dI K A n)
 | 0=>⟨fun vs H Q E h=>(xc K A vs H Q E h).elim,fun _ _ _ H _ _ vs Q E _ _ _ _ h=>(xc K A vs H Q E h).elim⟩
 | n+1=>T.f_27.f.okS gK (zU K A (n+1)) (EC T.1 n) fun _ _ _ _ _ _ (hr:aW (72+n) _)=>
 am (aR 3 gK.nd (aM tZ T.z_sorted boot_sorted (aa (ab 3) (ag)))) (am (aR 5 gK.nd (bi (xF T) hr.le T.f_23 (aa (ab 1) (aa (ab 2) (aa (ab 3) (ag)))))) (am (aR 6 gK.nd (cL (aa (aM gz T.z_isinstance boot_isinstance (aa (ab 0) (aa (jz T.mc_Knot) (ag)))) (aa (aM gz T.z_isinstance boot_isinstance (aa (ab 0) (aa (jz T.mc_Bare) (ag)))) (aa (aM gz T.z_isinstance boot_isinstance (aa (ab 0) (aa (jz T.mc_Leaf) (ag)))) (aa (aM gz T.z_isinstance boot_isinstance (aa (ab 0) (aa (jz T.mc_Fork) (ag)))) (ag))))))) (am (bh (be (gG hr.units150) (ab 6) (nF (ys:=["_law_rows"]) (by exact ⟨rfl,by decide +kernel,by decide +kernel,rfl,by decide +kernel,by decide +kernel⟩) (by exact .cons rfl (by first | exact .inl rfl | exact .inr rfl) rfl (.nil)) (vO T.z_range (aa (Dk (ao)) (aa (ao) (ag)))) (fun C s H fp=>iN) (fun C s H fp=>(Fs (iP oLt (ab 0) (ao)) (mI (iP (cG hr.units150) (ab 0) (aM dL T.z_len PySem.boot_len (aa (ab 1) (ag))))))))) (ap (aD (cO))) (aV)) (am (bh (x_w (fb (cb (bw (bi (wR T) hr.le T.f_34 (aa (aS (ab 0)) (aa (ab 5) (ag)))))) (eS (be (gG hr.units150) (aS (ab 0)) (kq (kg T) hr.le aF (ab 1) (aa (ab 5) (ag))))))) (ap (aD (cO))) (aV)) (am (bh (x_w (zt (bw (aM gz T.z_isinstance boot_isinstance (aa (ab 0) (aa (jz T.mc_Leaf) (ag))))) (yy (be (gG hr.units150) (dv (aa (aS (ab 0)) (aa (aS (ab 0)) (ag)))) (bF (bc hr.units1) (ab 3) (ao) (fun _ _=>rfl)))))) (ap (aD (cO))) (aV)) (am (bh (bw (aM gz T.z_isinstance boot_isinstance (aa (ab 0) (aa (jz T.mc_Fork) (ag))))) (am (bh (x_w (fb (be (gG hr.units150) (dv (aa (aS (ab 0)) (aa (aS (ab 0)) (ag)))) (iX lg (ab 5) (fY (ao)) (fY (ao)))) (eS (cb (bw (bi (jf n) hr.le T.f_27 (aa (aS (ab 0)) (aa (ab 1) (aa (ab 2) (aa (iX lg (ab 3) (lH) (fY (ao))) (aa (ab 4) (ag)))))))))))) (ap (aD (cO))) (aV)) (ap (bh (cb (bw (bi (jf n) hr.le T.f_27 (aa (aS (ab 0)) (aa (ab 1) (aa (ab 2) (aa (iX lg (ab 3) (fY (ao)) (lH)) (aa (ab 4) (ag))))))))) (ap (aD (cO))) (aV)))) (aV)) (am (aR 7 gK.nd (jC (ab 0) (mdc T.cl_Bare T.me_Bare_rows (wy T) hr.le T.b_2 aF (mdc T.cl_Leaf T.me_Leaf_rows (rg T) hr.le T.b_17 aF (mdc T.cl_Fork T.me_Fork_rows (rE T 70) hr.le T.b_10 aF (mdn rfl)))))) (am (bh (x_w (fb (cb (bw (aM fj T.z_isinstance boot_isinstance (aa (ab 7) (aa (fE T.z_list boot_list) (ag)))))) (eS (be (gG hr.units150) (ab 7) (ab 3))))) (ap (aD (cO))) (aV)) (am (aR 8 gK.nd (dk (nQ rfl) T.z_dict boot_dict (aa (ab 3) (ag)))) (am (kO 9 gK.nd (fx (ab 4)) (ap (bh (be (gG hr.units150) (fg (ab 0) (mdc T.cl_Bare T.me_Bare_found (Ag T) hr.le T.b_1 aF (mdc T.cl_Leaf T.me_Leaf_found (wQ T) hr.le T.b_16 aF (mdc T.cl_Fork T.me_Fork_found (Ca T 70) hr.le T.b_8 aF (mdn rfl)))) (aa (ab 2) (aa (ab 9) (ag)))) (lm PySem.F.plainAttrs_dict PySem.F.slot_dict_get PySem.F.type_dict_get (yz hr.units1) (ab 8) (aa (ab 9) (ag)))) (ap (aD (cO))) (aV))) PassesOwn.never) (ap (aD (cO)))))))))))))
theorem zF:aN P w K mg base (CX1 P w) 9 A.a_3 A.d_3 ["self", "stamper", "bits", "key", "value"] (jO K A):=
 T.f_3.okS FT (Ee K A) (FI T.1) fun _ _ _ _ _ _ hr=>
 ap (aD (bT T.mk_Leaf (gU T) hr.le T.mc_Leaf T.b_15 aF (aa (ab 1) (aa (ab 3) (aa (ab 4) (ag))))))
theorem qz:aN P w K mg base (CX1 P w) 1 A.a_46 A.d_46 ["bits", "key", "depth"] (ji K A):=
 T.f_46.f.okS Cm (zN K A) (DF T.1) fun _ _ _ _ _ _ hr=>
 ap (aD (aH Bh (ab 1) (aH ls (ab 0) (ab 2))))
theorem xU:aN P w K mg base (CX1 P w) 9 A.a_42 A.d_42 ["stamper", "bits", "depth", "leaf", "knot"] (kB K A):=
 T.f_42.f.okS wW (Ak K A) (En T.1) fun _ _ _ _ _ _ hr=>
 am (aR 5 wW.nd (bi (qz T) hr.le T.f_46 (aa (ab 1) (aa (aS (ab 3)) (aa (ab 2) (ag)))))) (am (bh (be (cG hr.units150) (bi (mP T) hr.le T.f_45 (aa (ab 1) (aa (aS (ab 3)) (aa (ab 2) (ag))))) (ao)) (ap (aD (bT T.mk_Fork (nX T) hr.le T.mc_Fork T.b_5 aF (aa (ab 0) (aa (ab 2) (aa (ab 5) (aa (ab 3) (aa (ab 4) (ag))))))))) (aV)) (ap (aD (bT T.mk_Fork (nX T) hr.le T.mc_Fork T.b_5 aF (aa (ab 0) (aa (ab 2) (aa (ab 5) (aa (ab 4) (aa (ab 3) (ag))))))))))
theorem xh:aN P w K mg base (CX1 P w) 1 A.a_36 A.d_36 ["bits", "one", "other"] (kU K A):=
 T.f_36.f.okS CW (Cd K A) (DY T.1) fun _ _ _ _ _ _ hr=>
 ap (aD (aH ls (ab 0) (rL PySem.F.plainAttrs_int PySem.F.slot_int_bit_length PySem.F.type_int_bit_length yu (aH AV (ab 1) (ab 2)))))
theorem xf:aN P w K mg base (CX1 P w) 10 A.a_18 A.d_18 ["self", "stamper", "bits", "key", "value"] (gP K A):=
 T.f_18.okS xi (zu K A) (Eb T.1) fun _ _ _ _ _ _ hr=>
 am (aR 5 xi.nd (bT T.mk_Leaf (gU T) hr.le T.mc_Leaf T.b_15 aF (aa (ab 1) (aa (ab 3) (aa (ab 4) (ag)))))) (am (bh (be (cG hr.units150) (ab 3) (aS (ab 0))) (ap (aD (ab 5))) (aV)) (ap (aD (bi (xU T) hr.le T.f_42 (aa (ab 1) (aa (ab 2) (aa (bi (xh T) hr.le T.f_36 (aa (ab 2) (aa (ab 3) (aa (aS (ab 0)) (ag))))) (aa (ab 5) (aa (ab 0) (ag))))))))))
theorem Gg:aN P w K mg base (CX1 P w) 2 A.a_9 A.d_9 ["self", "bits", "key"] (rD K A):=
 T.f_9.okS Fj (CV K A) (ET T.1) fun _ _ _ _ _ _ hr=>
 ap (aD (iP (cG hr.units150) (bi (qz T) hr.le T.f_46 (aa (ab 1) (aa (ab 2) (aa (aS (ab 0)) (ag))))) (aS (ab 0))))
theorem BR:aN P w K mg base (CX1 P w) 9 A.a_7 A.d_7 ["self", "stamper", "bits", "key", "knot"] (oa K A):=
 T.f_7.okS FD (Eu K A) (FW T.1) fun _ _ _ _ _ _ hr=>
 am (bh (be (cG hr.units150) (bi (mP T) hr.le T.f_45 (aa (ab 2) (aa (ab 3) (aa (aS (ab 0)) (ag))))) (ao)) (ap (aD (bT T.mk_Fork (nX T) hr.le T.mc_Fork T.b_5 aF (aa (ab 1) (aa (aS (ab 0)) (aa (aS (ab 0)) (aa (ab 4) (aa (aS (ab 0)) (ag))))))))) (aV)) (ap (aD (bT T.mk_Fork (nX T) hr.le T.mc_Fork T.b_5 aF (aa (ab 1) (aa (aS (ab 0)) (aa (aS (ab 0)) (aa (aS (ab 0)) (aa (ab 4) (ag)))))))))
theorem xS:∀ n:Nat,aN P w K mg base (CX1 P w) (10+n) A.a_12 A.d_12 ["self", "stamper", "bits", "key", "value"] (fQ K A n)
 | 0=>⟨fun vs H Q E h=>(wZ K A vs H Q E h).elim,fun _ _ _ H _ _ vs Q E _ _ _ _ h=>(wZ K A vs H Q E h).elim⟩
 | n+1=>T.f_12.okS xB (Ay K A (n+1)) (Dg T.1 n) fun _ _ _ _ _ _ (hr:aW (10+n) _)=>
 am (bh (cb (bw (dS (ab 0) T.cl_Fork T.me_Fork_leads (Gg T) hr.le T.b_9 aF (aa (ab 2) (aa (ab 3) (ag)))))) (am (aR 5 xB.nd (bi (xh T) hr.le T.f_36 (aa (aS (ab 0)) (aa (aS (ab 0)) (aa (bi (qz T) hr.le T.f_46 (aa (ab 2) (aa (ab 3) (aa (aS (ab 0)) (ag))))) (ag)))))) (ap (aD (bi (xU T) hr.le T.f_42 (aa (ab 1) (aa (ab 2) (aa (ab 5) (aa (bT T.mk_Leaf (gU T) hr.le T.mc_Leaf T.b_15 aF (aa (ab 1) (aa (ab 3) (aa (ab 4) (ag))))) (aa (ab 0) (ag)))))))))) (aV)) (ap (aD (dS (ab 0) T.cl_Fork T.me_Fork_changed (BR T) hr.le T.b_7 aF (aa (ab 1) (aa (ab 2) (aa (ab 3) (aa (fg (dS (ab 0) T.cl_Fork T.me_Fork_toward (qx T) hr.le T.b_11 aF (aa (ab 2) (aa (ab 3) (ag)))) (mdc T.cl_Bare T.me_Bare_with_key (zF T) hr.le T.b_3 aF (mdc T.cl_Leaf T.me_Leaf_with_key (xf T) hr.le T.b_18 aF (mdc T.cl_Fork T.me_Fork_with_key (xS n) hr.le T.b_12 aF (mdn rfl)))) (aa (ab 1) (aa (ab 2) (aa (ab 3) (aa (ab 4) (ag)))))) (ag))))))))
theorem zG:aN P w K mg base (CX1 P w) 1 A.a_4 A.d_4 ["self", "stamper", "bits", "key"] (jR K A):=
 T.f_4.okS EN (EM K A) (ER T.1) fun _ _ _ _ _ _ hr=>
 ap (aD (ab 0))
theorem xu:aN P w K mg base (CX1 P w) 9 A.a_19 A.d_19 ["self", "stamper", "bits", "key"] (gM K A):=
 T.f_19.okS Ds (zk K A) (DI T.1) fun _ _ _ _ _ _ hr=>
 ap (aD (qX (be (cG hr.units150) (ab 3) (aS (ab 0))) (bT T.mk_Bare (Bm T) hr.le T.mc_Bare T.b_0 aF (aa (ab 1) (ag))) (ab 0)))
theorem Fp:aN P w K mg base (CX1 P w) 2 A.a_6 A.d_6 ["self", "bits", "key"] (qp K A):=
 T.f_6.okS Fg (DD K A) (Gt T.1) fun _ _ _ _ _ _ hr=>
 ap (aD (qX (be (cG hr.units150) (bi (mP T) hr.le T.f_45 (aa (ab 1) (aa (ab 2) (aa (aS (ab 0)) (ag))))) (ao)) (aS (ab 0)) (aS (ab 0))))
theorem xQ:∀ n:Nat,aN P w K mg base (CX1 P w) (9+n) A.a_13 A.d_13 ["self", "stamper", "bits", "key"] (fH K A n)
 | 0=>⟨fun vs H Q E h=>(wV K A vs H Q E h).elim,fun _ _ _ H _ _ vs Q E _ _ _ _ h=>(wV K A vs H Q E h).elim⟩
 | n+1=>T.f_13.okS xI (AJ K A (n+1)) (Ew T.1 n) fun _ _ _ _ _ _ (hr:aW (9+n) _)=>
 am (aR 4 xI.nd (fg (dS (ab 0) T.cl_Fork T.me_Fork_toward (qx T) hr.le T.b_11 aF (aa (ab 2) (aa (ab 3) (ag)))) (mdc T.cl_Bare T.me_Bare_without (zG T) hr.le T.b_4 aF (mdc T.cl_Leaf T.me_Leaf_without (xu T) hr.le T.b_19 aF (mdc T.cl_Fork T.me_Fork_without (xQ n) hr.le T.b_13 aF (mdn rfl)))) (aa (ab 1) (aa (ab 2) (aa (ab 3) (ag)))))) (am (bh (bw (aM gz T.z_isinstance boot_isinstance (aa (ab 4) (aa (jz T.mc_Bare) (ag))))) (ap (aD (dS (ab 0) T.cl_Fork T.me_Fork_aside (Fp T) hr.le T.b_6 aF (aa (ab 2) (aa (ab 3) (ag)))))) (aV)) (ap (aD (dS (ab 0) T.cl_Fork T.me_Fork_changed (BR T) hr.le T.b_7 aF (aa (ab 1) (aa (ab 2) (aa (ab 3) (aa (ab 4) (ag)))))))))
theorem CF:aN P w K mg base (CX1 P w) 143 A.a_24 A.d_24 ["_law_knot", "_law_stamper_here", "_law_bits", "_law_rows", "_law_keys", "_law_text_here"] (mG K A):=
 T.f_24.f.okS ko (Av K A) (CC T.1) fun _ _ _ _ _ _ hr=>
 am (kO 6 ko.nd (fx (ab 4)) (am (aR 7 ko.nd (dk (nQ rfl) T.z_dict boot_dict (aa (ab 3) (ag)))) (am (oj hr.units1 (ab 7) (ab 6) (ab 5)) (am (bh (be oLt (aM dL T.z_len PySem.boot_len (aa (ab 7) (ag))) (ao)) (am (aR 8 ko.nd (fg (ab 0) (mdc T.cl_Bare T.me_Bare_with_key (zF T) hr.le T.b_3 aF (mdc T.cl_Leaf T.me_Leaf_with_key (xf T) hr.le T.b_18 aF (mdc T.cl_Fork T.me_Fork_with_key (xS T 70) hr.le T.b_12 aF (mdn rfl)))) (aa (ab 1) (aa (ab 2) (aa (ab 6) (aa (ab 5) (ag))))))) (ap (bh (cb (bw (bi (jf T 70) hr.le T.f_27 (aa (ab 8) (aa (ab 1) (aa (ab 2) (aa (dk (tD rfl) T.z_list pR (aa (rL PySem.F.plainAttrs_dict PySem.F.slot_dict_items PySem.F.type_dict_items nZ (ab 7)) (ag))) (aa (ab 4) (ag))))))))) (ap (aD (cO))) (aV)))) (aV)) (am (aR 7 ko.nd (dk (nQ rfl) T.z_dict boot_dict (aa (ab 3) (ag)))) (am (bh (be (EX hr.units150) (ab 6) (ab 7)) (ap (iB (lm PySem.F.plainAttrs_dict PySem.F.slot_dict_pop PySem.F.type_dict_pop yg (ab 7) (aa (ab 6) (ag))))) (aV)) (ap (bh (cb (bw (bi (jf T 70) hr.le T.f_27 (aa (fg (ab 0) (mdc T.cl_Bare T.me_Bare_without (zG T) hr.le T.b_4 aF (mdc T.cl_Leaf T.me_Leaf_without (xu T) hr.le T.b_19 aF (mdc T.cl_Fork T.me_Fork_without (xQ T 70) hr.le T.b_13 aF (mdn rfl)))) (aa (ab 1) (aa (ab 2) (aa (ab 6) (ag))))) (aa (ab 1) (aa (ab 2) (aa (dk (tD rfl) T.z_list pR (aa (rL PySem.F.plainAttrs_dict PySem.F.slot_dict_items PySem.F.type_dict_items nZ (ab 7)) (ag))) (aa (ab 4) (ag))))))))) (ap (aD (cO))) (aV)))))))) PassesOwn.never) (ap (aD (cO)))
theorem CI:aN P w K mg base (CX1 P w) 144 A.a_43 A.d_43 ["_law_script"] (mC K A):=
 T.f_43.f.okS cu (Aq K A) (CT T.1) fun _ _ _ _ _ _ hr=>
 am (aR 1 cu.nd (bi (DZ T) hr.le T.f_29 (aa (bi (iR T) hr.le T.f_22 (aa (ab 0) (aa (ao) (ag)))) (ag)))) (am (aR 2 cu.nd (aH db (ao) (aH cJ (bi (iR T) hr.le T.f_22 (aa (ab 0) (aa (ao) (ag)))) (ao)))) (am (aR 3 cu.nd (bi (qk T) hr.le T.f_25 (aa (bi (iR T) hr.le T.f_22 (aa (ab 0) (aa (ao) (ag)))) (aa (ab 2) (ag))))) (am (aR 4 cu.nd (bi (iR T) hr.le T.f_22 (aa (ab 0) (aa (ao) (ag))))) (am (aR 5 cu.nd (bi (qk T) hr.le T.f_25 (aa (aH cS (ab 4) (ao)) (aa (ab 2) (ag))))) (am (bh (x_w (fb (be (cG hr.units150) (aH cJ (ab 4) (ao)) (ao)) (eS (be (cG hr.units150) (ab 5) (ab 3))))) (ap (aR 5 cu.nd (aH AV (ab 3) (aH uR (ao) (aH cJ (aH cS (ab 4) (ao)) (ab 2)))))) (aV)) (am (tN (ys:=["_law_script"]) 6 cu.nd (by exact ⟨rfl,by decide +kernel,by decide +kernel,rfl,by decide +kernel,by decide +kernel⟩) (by exact .cons rfl (by first | exact .inl rfl | exact .inr rfl) rfl (.nil)) (nJ T.z_range (aa (ao) (ag))) (fun C s H fp=>iN) (fun C s H fp=>(bi (Dv T) hr.le T.f_35 (aa (bi (iR T) hr.le T.f_22 (aa (ab 1) (aa (aH db (ao) (ab 0)) (ag)))) (ag))))) (am (aR 7 cu.nd (cL (aa (ab 3) (aa (ab 5) (aa (bi (qk T) hr.le T.f_25 (aa (bi (iR T) hr.le T.f_22 (aa (ab 0) (aa (ao) (ag)))) (aa (ab 2) (ag)))) (ag)))))) (am (aR 8 cu.nd (dv (aa (ab 3) (aa (bF (bc hr.units1) (ab 6) (ao) (fun _ _=>rfl)) (ag))))) (am (aR 9 cu.nd (dv (aa (ab 5) (aa (bF (bc hr.units1) (ab 6) (ao) (fun _ _=>rfl)) (ag))))) (am (aR 10 cu.nd (bT T.mk_Leaf (gU T) hr.le T.mc_Leaf T.b_15 aF (aa (ab 1) (aa (aM (EU rfl) T.z_min boot_min (aa (ab 3) (aa (ab 5) (ag)))) (aa (bF (bc hr.units1) (cL (aa (bF (bc hr.units1) (ab 6) (ao) (fun _ _=>rfl)) (aa (bF (bc hr.units1) (ab 6) (ao) (fun _ _=>rfl)) (ag)))) (dk AS T.z_int L2.tW (aa (iP oLt (ab 5) (ab 3)) (ag))) (fun _ _=>rfl)) (ag)))))) (am (aR 11 cu.nd (bT T.mk_Leaf (gU T) hr.le T.mc_Leaf T.b_15 aF (aa (ab 1) (aa (aM (FY rfl) T.z_max boot_max (aa (ab 3) (aa (ab 5) (ag)))) (aa (bF (bc hr.units1) (cL (aa (bF (bc hr.units1) (ab 6) (ao) (fun _ _=>rfl)) (aa (bF (bc hr.units1) (ab 6) (ao) (fun _ _=>rfl)) (ag)))) (dk AS T.z_int L2.tW (aa (iP oLt (ab 5) (ab 3)) (ag))) (fun _ _=>rfl)) (ag)))))) (am (aR 12 cu.nd (bi (xF T) hr.le T.f_23 (aa (ab 1) (aa (ab 2) (aa (aM tZ T.z_sorted boot_sorted (aa (cL (aa (ab 8) (aa (ab 9) (ag)))) (ag))) (ag)))))) (am (bh (x_w (fb (cb (bw (bi (wX T) hr.le T.f_26 (aa (ab 1) (aa (ab 12) (ag)))))) (eS (cb (bw (bi (wX T) hr.le T.f_26 (aa (ab 1) (aa (dv (aa (dh) (aa (ab 3) (aa (bF (bc hr.units1) (ab 6) (ao) (fun _ _=>rfl)) (ag))))) (ag))))))))) (ap (aD (cO))) (aV)) (am (aR 13 cu.nd (cL (aa (bT T.mk_Bare (Bm T) hr.le T.mc_Bare T.b_0 aF (aa (ab 1) (ag))) (aa (bT T.mk_Leaf (gU T) hr.le T.mc_Leaf T.b_15 aF (aa (ab 1) (aa (ab 3) (aa (bF (bc hr.units1) (ab 6) (ao) (fun _ _=>rfl)) (ag))))) (aa (bT T.mk_Leaf (gU T) hr.le T.mc_Leaf T.b_15 aF (aa (ab 1) (aa (ab 5) (aa (bF (bc hr.units1) (ab 6) (ao) (fun _ _=>rfl)) (ag))))) (ag)))))) (am (aR 13 cu.nd (aH db (ab 13) (cL (aa (bT T.mk_Fork (nX T) hr.le T.mc_Fork T.b_5 aF (aa (ab 1) (aa (bF (bc hr.units1) (ab 12) (ao) (fun _ _=>rfl)) (aa (bF (bc hr.units1) (ab 12) (ao) (fun _ _=>rfl)) (aa (ab 10) (aa (ab 11) (ag))))))) (ag))))) (am (aR 14 cu.nd (cL (aa (cL (ag)) (aa (cL (aa (ab 8) (ag))) (aa (cL (aa (ab 9) (ag))) (aa (cL (aa (ab 8) (aa (ab 9) (ag)))) (ag))))))) (am (nr 15 16 cu.nd (nC T.z_zip (aa (ab 13) (aa (ab 14) (ag)))) (ap (bh (x_w (fb (cb (bw (bi (jf T 70) hr.le T.f_27 (aa (ab 15) (aa (ab 1) (aa (ab 2) (aa (ab 16) (aa (ab 7) (ag))))))))) (eS (cb (bw (bi (CF T) hr.le T.f_24 (aa (ab 15) (aa (ab 1) (aa (ab 2) (aa (ab 16) (aa (ab 7) (aa (bF (bc hr.units1) (ab 6) (ao) (fun _ _=>rfl)) (ag))))))))))))) (ap (aD (cO))) (aV))) PassesOwn.never) (am (nr 15 16 cu.nd (nC T.z_zip (aa (ab 13) (aa (ab 14) (ag)))) (ap (bh (cb (bw (bi (jf T 70) hr.le T.f_27 (aa (ab 15) (aa (ab 1) (aa (ab 2) (aa (ab 16) (aa (ab 7) (ag))))))))) (ap (aD (cO))) (aV))) PassesOwn.never) (ap (aD (cO)))))))))))))))))))))
omit T
def qG (P:Program) (w:World) (K:W.Frag) (mg:Str→Option Value) (fa:Addr):Prop:=∃ (fd:FuncData) (tabs:List (Addr×Addr)) (sp:Sp),(∀ (s:Shared) (v:Value),BindsTo s fd ⟨[v],[]⟩ [("_law_script",v)])∧W.noTabs K=true∧(∀ t∈tabs,∃ y∈(["writing", "counting", "_law_stamper"]:List Str),W.tabIn K y=some t)∧(∀ base:Heap,K.In base→base.Ns mainGlobals mg→BM mg base→(∀ t∈tabs,W.CodeHd base t.1 t.2)→aN P w K mg base (CX1 P w) 144 fa fd ["_law_script"] sp)∧∀ (H:Hp) (a:Addr) (ns:List Int),ns.length≤63→(∀ t∈tabs,H t.2=some (.tbl #[]))→SqL K H a (ns.map V.int)→sp [.ref a] H (fun v _=>v=.bl true) fun _ _ _=>False
theorem AE (T:Txt K mg A) (nt:W.noTabs K=true) (tb_47:W.tabIn K "writing" =some (A.k_47,A.t_47)) (tb_37:W.tabIn K "counting" =some (A.k_37,A.t_37)) (tb_29:W.tabIn K "_law_stamper" =some (A.k_29,A.t_29)) (tdn:([A.t_47,A.t_37,A.t_29]:List Addr).Nodup):qG P w K mg A.a_43:=by
 refine ⟨A.d_43,[(A.k_47,A.t_47),(A.k_37,A.t_37),(A.k_29,A.t_29)],mC K A,T.f_43.f.bt,nt,?_,fun base _ _ B C=>?_,fun H a ns hl hO hS=>⟨a,ns,rfl,hS,hl,⟨hO (A.k_47,A.t_47) (by simp),hO (A.k_37,A.t_37) (by simp),hO (A.k_29,A.t_29) (by simp),tdn⟩,fun _=>rfl⟩⟩
 · intro t ht
   simp only [List.mem_cons,List.not_mem_nil,or_false] at ht
   rcases ht with rfl | rfl | rfl
   · exact ⟨"writing",by simp,tb_47⟩
   · exact ⟨"counting",by simp,tb_37⟩
   · exact ⟨"_law_stamper",by simp,tb_29⟩
 · exact CI ⟨T,B,C (A.k_47,A.t_47) (by simp),C (A.k_37,A.t_37) (by simp),C (A.k_29,A.t_29) (by simp)⟩
theorem BE {h:Heap} {fa:Addr} (X:K.In h) (G:h.Ns mainGlobals mg) (hfa:mg "law" =some (.ref fa)) {x_41 x_39 x_40 x_44 x_49 x_21 x_33 x_47 x_20 x_37 x_29 x_22 x_25 x_28 x_35 x_14 x_15 x_23 x_34 x_26 x_0 x_5 x_2 x_17 x_10 x_1 x_16 x_45 x_11 x_8 x_27 x_3 x_46 x_42 x_36 x_18 x_9 x_7 x_12 x_4 x_19 x_6 x_13 x_24 x_43 y_Numbers y_Knot y_Bare y_Leaf y_Fork:Addr} {d0 d1 d2 d3 d4 d5 d6 d7 d8 d9 d10 d11 d12 d13 d14 d15 d16 d17 d18 d19 d20 d21 d22 d23 d24 d25 d26 d27 d28 d29 d30 d31 d32 d33 d34 d35 d36 d37 d38 d39 d40 d41 d42 d43 d44:FuncData} {tc0:Tok}
  (bo_Numbers:W.nsIn K mainGlobals "Numbers" =some (some (.ref y_Numbers))) (bo_Knot:W.nsIn K mainGlobals "Knot" =some (some (.ref y_Knot))) (bo_Bare:W.nsIn K mainGlobals "Bare" =some (some (.ref y_Bare))) (bo_Leaf:W.nsIn K mainGlobals "Leaf" =some (some (.ref y_Leaf))) (bo_Fork:W.nsIn K mainGlobals "Fork" =some (some (.ref y_Fork))) (h0:Fa K "is_whole" "is_whole" uX x_41 d0) (h1:Fa K "is_stamp" "is_stamp" vc x_39 d1) (h2:Fa K "is_term" "is_term" uQ x_40 d2) (h3:Fa K "part_form" "part_form" va x_44 d3) (h4:Fa K "written" "written" uF x_49 d4) (a5:W.findIn K (.ref y_Numbers) "number_of" =some (some (.ref x_21))) (h5:Fun K "number_of" "Numbers.number_of" wd x_21 d5) (fn5:W.isFn K (.ref x_21)=true) (h6:Fa K "_law_sum" "_law_sum" vA x_33 d6) (h7:Fa K "writing" "writing" jA x_47 d7) (tb_47:(W.tabIn K "writing").isSome=true) (a8:W.findIn K (.ref y_Numbers) "__init__" =some (some (.ref x_20))) (h8:Fun K "__init__" "Numbers.__init__" ve x_20 d8) (fn8:W.isFn K (.ref x_20)=true) (h9:Fa K "counting" "counting" jM x_37 d9) (tb_37:(W.tabIn K "counting").isSome=true) (h10:Fa K "_law_stamper" "_law_stamper" ii x_29 d10) (tb_29:(W.tabIn K "_law_stamper").isSome=true) (h11:Fa K "_law_cell_at" "_law_cell_at" ux x_22 d11) (h12:Fa K "_law_key" "_law_key" wj x_25 d12) (h13:Fa K "_law_signs" "_law_signs" uV x_28 d13) (h14:Fa K "_law_text" "_law_text" vN x_35 d14) (a15:W.findIn K (.ref y_Knot) "__init__" =some (some (.ref x_14))) (h15:Fun K "__init__" "Knot.__init__" vi x_14 d15) (fn15:W.isFn K (.ref x_14)=true) (a16:W.findIn K (.ref y_Leaf) "__init__" =some (some (.ref x_15))) (h16:Fun K "__init__" "Leaf.__init__" vU x_15 d16) (fn16:W.isFn K (.ref x_15)=true) (h17:Fa K "_law_due" "_law_due" uK x_23 d17) (h18:Fa K "_law_term_is" "_law_term_is" vf x_34 d18) (h19:Fa K "_law_plain" "_law_plain" uz x_26 d19) (a20:W.findIn K (.ref y_Bare) "__init__" =some (some (.ref x_0))) (h20:Fun K "__init__" "Bare.__init__" s_0 x_0 d20) (fn20:W.isFn K (.ref x_0)=true) (a21:W.findIn K (.ref y_Fork) "__init__" =some (some (.ref x_5))) (h21:Fun K "__init__" "Fork.__init__" s_5 x_5 d21) (fn21:W.isFn K (.ref x_5)=true) (a22:W.findIn K (.ref y_Bare) "rows" =some (some (.ref x_2))) (h22:Fun K "rows" "Bare.rows" s_2 x_2 d22) (fn22:W.isFn K (.ref x_2)=true) (a23:W.findIn K (.ref y_Leaf) "rows" =some (some (.ref x_17))) (h23:Fun K "rows" "Leaf.rows" wc x_17 d23) (fn23:W.isFn K (.ref x_17)=true) (a24:W.findIn K (.ref y_Fork) "rows" =some (some (.ref x_10))) (h24:Fun K "rows" "Fork.rows" vV x_10 d24) (fn24:W.isFn K (.ref x_10)=true) (a25:W.findIn K (.ref y_Bare) "found" =some (some (.ref x_1))) (h25:Fun K "found" "Bare.found" s_1 x_1 d25) (fn25:W.isFn K (.ref x_1)=true) (a26:W.findIn K (.ref y_Leaf) "found" =some (some (.ref x_16))) (h26:Fun K "found" "Leaf.found" vW x_16 d26) (fn26:W.isFn K (.ref x_16)=true) (h27:Fa K "side" "side" uL x_45 d27) (a28:W.findIn K (.ref y_Fork) "toward" =some (some (.ref x_11))) (h28:Fun K "toward" "Fork.toward" vD x_11 d28) (fn28:W.isFn K (.ref x_11)=true) (a29:W.findIn K (.ref y_Fork) "found" =some (some (.ref x_8))) (h29:Fun K "found" "Fork.found" s_8 x_8 d29) (fn29:W.isFn K (.ref x_8)=true) (h30:Fa K "_law_right" "_law_right" ww x_27 d30) (a31:W.findIn K (.ref y_Bare) "with_key" =some (some (.ref x_3))) (h31:Fun K "with_key" "Bare.with_key" s_3 x_3 d31) (fn31:W.isFn K (.ref x_3)=true) (h32:Fa K "start" "start" vy x_46 d32) (h33:Fa K "joined" "joined" uB x_42 d33) (h34:Fa K "alike" "alike" ul x_36 d34) (a35:W.findIn K (.ref y_Leaf) "with_key" =some (some (.ref x_18))) (h35:Fun K "with_key" "Leaf.with_key" ur x_18 d35) (fn35:W.isFn K (.ref x_18)=true) (a36:W.findIn K (.ref y_Fork) "leads" =some (some (.ref x_9))) (h36:Fun K "leads" "Fork.leads" s_9 x_9 d36) (fn36:W.isFn K (.ref x_9)=true) (a37:W.findIn K (.ref y_Fork) "changed" =some (some (.ref x_7))) (h37:Fun K "changed" "Fork.changed" s_7 x_7 d37) (fn37:W.isFn K (.ref x_7)=true) (a38:W.findIn K (.ref y_Fork) "with_key" =some (some (.ref x_12))) (h38:Fun K "with_key" "Fork.with_key" wK x_12 d38) (fn38:W.isFn K (.ref x_12)=true) (a39:W.findIn K (.ref y_Bare) "without" =some (some (.ref x_4))) (h39:Fun K "without" "Bare.without" s_4 x_4 d39) (fn39:W.isFn K (.ref x_4)=true) (a40:W.findIn K (.ref y_Leaf) "without" =some (some (.ref x_19))) (h40:Fun K "without" "Leaf.without" uP x_19 d40) (fn40:W.isFn K (.ref x_19)=true) (a41:W.findIn K (.ref y_Fork) "aside" =some (some (.ref x_6))) (h41:Fun K "aside" "Fork.aside" s_6 x_6 d41) (fn41:W.isFn K (.ref x_6)=true) (a42:W.findIn K (.ref y_Fork) "without" =some (some (.ref x_13))) (h42:Fun K "without" "Fork.without" wb x_13 d42) (fn42:W.isFn K (.ref x_13)=true) (h43:Fa K "_law_grown" "_law_grown" uC x_24 d43) (h44:Fa K "law" "law" uA x_43 d44) (pg_Numbers:W.plainGet K y_Numbers Str.empty=true) (hd_Numbers:W.hasDictIn K y_Numbers=true) (po_Numbers:W.plainOver K y_Numbers=true) (sa_Numbers:W.findIn K (.ref y_Numbers) "__setattr__" =some (some (.builtin "object.__setattr__"))) (na_Numbers_given:W.findIn K (.ref y_Numbers) "given" =some none) (pg_Knot:W.plainGet K y_Knot Str.empty=true) (hd_Knot:W.hasDictIn K y_Knot=true) (po_Knot:W.plainOver K y_Knot=true) (sa_Knot:W.findIn K (.ref y_Knot) "__setattr__" =some (some (.builtin "object.__setattr__"))) (na_Knot_term:W.findIn K (.ref y_Knot) "term" =some none) (na_Knot_mark:W.findIn K (.ref y_Knot) "mark" =some none) (pg_Bare:W.plainGet K y_Bare Str.empty=true) (hd_Bare:W.hasDictIn K y_Bare=true) (po_Bare:W.plainOver K y_Bare=true) (sa_Bare:W.findIn K (.ref y_Bare) "__setattr__" =some (some (.builtin "object.__setattr__"))) (na_Bare_term:W.findIn K (.ref y_Bare) "term" =some none) (na_Bare_mark:W.findIn K (.ref y_Bare) "mark" =some none) (pg_Leaf:W.plainGet K y_Leaf Str.empty=true) (hd_Leaf:W.hasDictIn K y_Leaf=true) (po_Leaf:W.plainOver K y_Leaf=true) (sa_Leaf:W.findIn K (.ref y_Leaf) "__setattr__" =some (some (.builtin "object.__setattr__"))) (na_Leaf_key:W.findIn K (.ref y_Leaf) "key" =some none) (na_Leaf_text:W.findIn K (.ref y_Leaf) "text" =some none) (na_Leaf_term:W.findIn K (.ref y_Leaf) "term" =some none) (na_Leaf_mark:W.findIn K (.ref y_Leaf) "mark" =some none) (pg_Fork:W.plainGet K y_Fork Str.empty=true) (hd_Fork:W.hasDictIn K y_Fork=true) (po_Fork:W.plainOver K y_Fork=true) (sa_Fork:W.findIn K (.ref y_Fork) "__setattr__" =some (some (.builtin "object.__setattr__"))) (na_Fork_depth:W.findIn K (.ref y_Fork) "depth" =some none) (na_Fork_begin:W.findIn K (.ref y_Fork) "begin" =some none) (na_Fork_left:W.findIn K (.ref y_Fork) "left" =some none) (na_Fork_right:W.findIn K (.ref y_Fork) "right" =some none) (na_Fork_term:W.findIn K (.ref y_Fork) "term" =some none) (na_Fork_mark:W.findIn K (.ref y_Fork) "mark" =some none) (cg_Knot:W.specialIn K (.ref y_Knot) "__getattribute__" =some (some (.builtin "type.__getattribute__"))) (cr_Knot:W.readsIn K y_Knot (.type "type")=true) (cv_Knot:W.findCls K (.ref y_Knot) (.type "type") "__init__" =some (.val (.ref x_14))) (cw_Knot:W.handedIn (.ref x_14)=true) (oig:W.specialIn K (.builtin "object.__class__") "__get__" =some (some (.builtin "getset_descriptor.__get__"))) (oit:W.takesIn K (.builtin "object.__class__")=some true) (oic_Bare:W.findIn K (.ref y_Bare) "__class__" =some (some (.builtin "object.__class__"))) (oim_Bare:W.mroIn K y_Bare (.type "object")=some true) (oic_Leaf:W.findIn K (.ref y_Leaf) "__class__" =some (some (.builtin "object.__class__"))) (oim_Leaf:W.mroIn K y_Leaf (.type "object")=some true) (oic_Fork:W.findIn K (.ref y_Fork) "__class__" =some (some (.builtin "object.__class__"))) (oim_Fork:W.mroIn K y_Fork (.type "object")=some true) (ko_Bare_Fork:W.kitOne K (.ref y_Bare) (.ref y_Fork)=some false) (ko_Bare_Leaf:W.kitOne K (.ref y_Bare) (.ref y_Leaf)=some false) (ko_Bare_Bare:W.kitOne K (.ref y_Bare) (.ref y_Bare)=some true) (ko_Bare_Knot:W.kitOne K (.ref y_Bare) (.ref y_Knot)=some true) (ko_Leaf_Fork:W.kitOne K (.ref y_Leaf) (.ref y_Fork)=some false) (ko_Leaf_Leaf:W.kitOne K (.ref y_Leaf) (.ref y_Leaf)=some true) (ko_Leaf_Bare:W.kitOne K (.ref y_Leaf) (.ref y_Bare)=some false) (ko_Leaf_Knot:W.kitOne K (.ref y_Leaf) (.ref y_Knot)=some true) (ko_Fork_Fork:W.kitOne K (.ref y_Fork) (.ref y_Fork)=some true) (ko_Fork_Leaf:W.kitOne K (.ref y_Fork) (.ref y_Leaf)=some false) (ko_Fork_Bare:W.kitOne K (.ref y_Fork) (.ref y_Bare)=some false) (ko_Fork_Knot:W.kitOne K (.ref y_Fork) (.ref y_Knot)=some true) (mk_Numbers:W.makesIn K y_Numbers=true) (kc_Numbers:W.keepIn K (.ref y_Numbers)=true) (mk_Knot:W.makesIn K y_Knot=true) (kc_Knot:W.keepIn K (.ref y_Knot)=true) (mk_Leaf:W.makesIn K y_Leaf=true) (kc_Leaf:W.keepIn K (.ref y_Leaf)=true) (mk_Fork:W.makesIn K y_Fork=true) (kc_Fork:W.keepIn K (.ref y_Fork)=true) (mk_Bare:W.makesIn K y_Bare=true) (kc_Bare:W.keepIn K (.ref y_Bare)=true) (z_all:W.nsIn K mainGlobals "all" =some none) (z_bool:W.nsIn K mainGlobals "bool" =some none) (z_dict:W.nsIn K mainGlobals "dict" =some none) (z_int:W.nsIn K mainGlobals "int" =some none) (z_isinstance:W.nsIn K mainGlobals "isinstance" =some none) (z_len:W.nsIn K mainGlobals "len" =some none) (z_list:W.nsIn K mainGlobals "list" =some none) (z_max:W.nsIn K mainGlobals "max" =some none) (z_min:W.nsIn K mainGlobals "min" =some none) (z_ord:W.nsIn K mainGlobals "ord" =some none) (z_range:W.nsIn K mainGlobals "range" =some none) (z_sorted:W.nsIn K mainGlobals "sorted" =some none) (z_str:W.nsIn K mainGlobals "str" =some none) (z_tuple:W.nsIn K mainGlobals "tuple" =some none) (z_zip:W.nsIn K mainGlobals "zip" =some none) (c_MOST_PARTS:W.nsIn K mainGlobals "MOST_PARTS" =some (some (.int 8 tc0))) (nt:W.noTabs K=true) (td:me K ["writing", "counting", "_law_stamper"]=true):qG P w K mg fa:=by
 cases hfa.symm.trans (W.mg_of X G h44.m)
 obtain ⟨⟨z_47,t_47⟩,tb_47⟩:=Option.isSome_iff_exists.mp tb_47
 obtain ⟨⟨z_37,t_37⟩,tb_37⟩:=Option.isSome_iff_exists.mp tb_37
 obtain ⟨⟨z_29,t_29⟩,tb_29⟩:=Option.isSome_iff_exists.mp tb_29
 have tdn:([t_47,t_37,t_29]:List Addr).Nodup:=uo (by unfold me at td;simp only [List.map_cons,List.map_nil,tb_47,tb_37,tb_29,Option.map_some] at td;exact of_decide_eq_true td)
 exact AE (A:=⟨x_41,d0,x_39,d1,x_40,d2,x_44,d3,x_49,d4,x_21,d5,x_33,d6,x_47,d7,x_20,d8,x_37,d9,x_29,d10,x_22,d11,x_25,d12,x_28,d13,x_35,d14,x_14,d15,x_15,d16,x_23,d17,x_34,d18,x_26,d19,x_0,d20,x_5,d21,x_2,d22,x_17,d23,x_10,d24,x_1,d25,x_16,d26,x_45,d27,x_11,d28,x_8,d29,x_27,d30,x_3,d31,x_46,d32,x_42,d33,x_36,d34,x_18,d35,x_9,d36,x_7,d37,x_12,d38,x_4,d39,x_19,d40,x_6,d41,x_13,d42,x_24,d43,fa,d44,z_47,t_47,z_37,t_37,z_29,t_29,y_Numbers,y_Knot,y_Bare,y_Leaf,y_Fork⟩) ⟨h0.fm1 X G,h1.fm1 X G,h2.fm1 X G,h3.fm1 X G,h4.fm1 X G,h5,h5.b2,h6.fm1 X G,h7.fm0 X G,h8,h8.b1,h9.fm0 X G,h10.fm1 X G,h11.fm2 X G,h12.fm2 X G,h13.fm2 X G,h14.fm1 X G,h15,h15.b3,h16,h16.b4,h17.fm3 X G,h18.fm2 X G,h19.fm2 X G,h20,h20.b2,h21,h21.b6,h22,h22.b1,h23,h23.b1,h24,h24.b1,h25,h25.b3,h26,h26.b3,h27.fm3 X G,h28,h28.b3,h29,h29.b3,h30.fm5 X G,h31,h31.b5,h32.fm3 X G,h33.fm5 X G,h34.fm3 X G,h35,h35.b5,h36,h36.b3,h37,h37.b5,h38,h38.b5,h39,h39.b4,h40,h40.b4,h41,h41.b3,h42,h42.b4,h43.fm6 X G,h44.fm1 X G,W.mg_none_of X G z_all,W.mg_none_of X G z_bool,W.mg_none_of X G z_dict,W.mg_none_of X G z_int,W.mg_none_of X G z_isinstance,W.mg_none_of X G z_len,W.mg_none_of X G z_list,W.mg_none_of X G z_max,W.mg_none_of X G z_min,W.mg_none_of X G z_ord,W.mg_none_of X G z_range,W.mg_none_of X G z_sorted,W.mg_none_of X G z_str,W.mg_none_of X G z_tuple,W.mg_none_of X G z_zip,⟨_,W.mg_of X G c_MOST_PARTS⟩,h7.code X G tb_47,h9.code X G tb_37,h10.code X G tb_29,W.mg_of X G bo_Numbers,⟨pg_Numbers,hd_Numbers,po_Numbers,sa_Numbers⟩,na_Numbers_given,W.mg_of X G bo_Knot,⟨pg_Knot,hd_Knot,po_Knot,sa_Knot⟩,na_Knot_term,na_Knot_mark,W.mg_of X G bo_Bare,⟨pg_Bare,hd_Bare,po_Bare,sa_Bare⟩,na_Bare_term,na_Bare_mark,W.mg_of X G bo_Leaf,⟨pg_Leaf,hd_Leaf,po_Leaf,sa_Leaf⟩,na_Leaf_key,na_Leaf_text,na_Leaf_term,na_Leaf_mark,W.mg_of X G bo_Fork,⟨pg_Fork,hd_Fork,po_Fork,sa_Fork⟩,na_Fork_depth,na_Fork_begin,na_Fork_left,na_Fork_right,na_Fork_term,na_Fork_mark,⟨a22,fn22,h22.kp⟩,⟨a23,fn23,h23.kp⟩,⟨a24,fn24,h24.kp⟩,⟨a28,fn28,h28.kp⟩,⟨a25,fn25,h25.kp⟩,⟨a26,fn26,h26.kp⟩,⟨a29,fn29,h29.kp⟩,⟨a37,fn37,h37.kp⟩,⟨a31,fn31,h31.kp⟩,⟨a35,fn35,h35.kp⟩,⟨a38,fn38,h38.kp⟩,⟨a36,fn36,h36.kp⟩,⟨a41,fn41,h41.kp⟩,⟨a39,fn39,h39.kp⟩,⟨a40,fn40,h40.kp⟩,⟨a42,fn42,h42.kp⟩,⟨a5,fn5,h5.kp⟩,⟨mk_Numbers,a8,fn8,kc_Numbers⟩,⟨mk_Knot,a15,fn15,kc_Knot⟩,⟨mk_Leaf,a16,fn16,kc_Leaf⟩,⟨mk_Fork,a21,fn21,kc_Fork⟩,⟨mk_Bare,a20,fn20,kc_Bare⟩,⟨cg_Knot,cr_Knot,cv_Knot,cw_Knot,h15.kp⟩,⟨oic_Bare,oig,oit,oim_Bare⟩,⟨oic_Leaf,oig,oit,oim_Leaf⟩,⟨oic_Fork,oig,oit,oim_Fork⟩,ko_Bare_Fork,ko_Bare_Leaf,ko_Bare_Bare,ko_Bare_Knot,ko_Leaf_Fork,ko_Leaf_Leaf,ko_Leaf_Bare,ko_Leaf_Knot,ko_Fork_Fork,ko_Fork_Leaf,ko_Fork_Bare,ko_Fork_Knot⟩ nt tb_47 tb_37 tb_29 tdn
theorem Gf {l:W.OpenLaw} {q:Program} {loose:List Str} {XP:(Str→Option Value)→Heap→Prop} {YP:World→Heap→Prop} {d:DefRec} {K:Params→W.Frag} (hn:l.most=some 63) (hdf:d.params.defaults=[])
  (hY:∀ (w:World) (h:Heap),YP w h→(K w.params).In h) (hq:∀ y∈(["writing", "counting", "_law_stamper"]:List Str),((PyProof.Rows.recsOf q).find? fun e=>e.name==y).isSome=true)
  (F:∀ (w:World) (mg:Str→Option Value) (fa:Addr) (h:Heap),(K w.params).In h→h.Ns mainGlobals mg→mg d.name=some (.ref fa)→qG l.prog w (K w.params) mg fa):
  W.WalkO q loose XP YP l.row.toRowW d [] (fun f vs=>PySem.call f vs):=
 L2.vB (n:=63) (k:=144) (x:= "_law_script") (CX:=fun w=>CX1 l.prog w) hn (by decide) hdf ⟨rfl,by decide,by decide⟩ hY hq F fun _ _ _ _ _ ⟨_,_,_,_,_,_,z⟩=>z
end
end Rs
def PySem.W.Fast.tw11959443558663099346:Unit:=()
def PySem.W.Fast.tw6323532268499941455:Unit:=()
def PySem.W.Fast.tw18185443583000682397:Unit:=()
def PySem.W.Fast.tw7728997918033566290:Unit:=()
def PySem.W.Fast.tw15431947839784638613:Unit:=()
def PySem.W.Fast.tw4286886379220259641:Unit:=()
def PySem.W.Fast.tw14460848124686731181:Unit:=()
def PySem.W.Fast.tw6794957524970265945:Unit:=()
def PySem.W.Fast.tw1645823039946260438:Unit:=()
def PySem.W.Fast.tw16745629746775847415:Unit:=()
def PySem.W.Fast.tw1088357014650201095:Unit:=()
def PySem.W.Fast.tw15790394558248198070:Unit:=()
def PySem.W.Fast.tw10781287726743525203:Unit:=()
def PySem.W.Fast.tw9032301567582012689:Unit:=()
def PySem.W.Fast.tw9206296742624699408:Unit:=()
def PySem.W.Fast.tw11028033216501411923:Unit:=()
def PySem.W.Fast.tw16494476242438827647:Unit:=()
def PySem.W.Fast.tw6916316761203592697:Unit:=()
def PySem.W.Fast.tw14503071814409309484:Unit:=()
def PySem.W.Fast.tw3758302124096287233:Unit:=()
def PySem.W.Fast.tw11458908509005466896:Unit:=()
def PySem.W.Fast.tw7387283166447963078:Unit:=()
def PySem.W.Fast.tw12913313835256039708:Unit:=()
def PySem.W.Fast.tw81371679549702635:Unit:=()
def PySem.W.Fast.tw17663824455587251183:Unit:=()
def PySem.W.Fast.tw1560748363529708835:Unit:=()
def PySem.W.Fast.tw16954563954149797089:Unit:=()
def PySem.W.Fast.tw15269074540674193086:Unit:=()
def PySem.W.Fast.tw12761244641612284950:Unit:=()
def PySem.W.Fast.tw17136970848949252802:Unit:=()
def PySem.W.Fast.tw8995076481156587259:Unit:=()
def PySem.W.Fast.tw1204762081431085333:Unit:=()
def PySem.W.Fast.tw1933489000363621081:Unit:=()
def PySem.W.Fast.tw1496861198992750894:Unit:=()
def PySem.W.Fast.tw11434886354358378845:Unit:=()
def PySem.W.Fast.tw14581014788921996558:Unit:=()
def PySem.W.Fast.tw14490399331978793818:Unit:=()
def PySem.W.Fast.tw869649602859783191:Unit:=()
def PySem.W.Fast.tw7099732989169540510:Unit:=()
def PySem.W.Fast.tw9441155535559640455:Unit:=()
def PySem.W.Fast.tw3354615142658303445:Unit:=()
def PySem.W.Fast.tw8694162649467713163:Unit:=()
def PySem.W.Fast.tw3787194027195577009:Unit:=()
def PySem.W.Fast.tw4976802146977923819:Unit:=()
def PySem.W.Fast.tw12742455711236350865:Unit:=()
def PySem.W.Fast.tw11118402449733726077:Unit:=()
def PySem.W.Fast.tw15878691370248095305:Unit:=()
def PySem.W.Fast.tw13101884539910176877:Unit:=()
def PySem.W.Fast.tw12078783984191209715:Unit:=()
def PySem.W.Fast.tw8534118057211928016:Unit:=()
def PySem.W.Fast.tw2928865776974562274:Unit:=()
def PySem.W.Fast.tw3283964103117908890:Unit:=()
def PySem.W.Fast.tw12845151304615766677:Unit:=()
def PySem.W.Fast.tw11712626847682404036:Unit:=()
def PySem.W.Fast.tw18405790326544246276:Unit:=()
def PySem.W.Fast.tw17646714692562132028:Unit:=()
def PySem.W.Fast.tw18300313705388357369:Unit:=()
def PySem.W.Fast.tw11709816954935540051:Unit:=()
def PySem.W.Fast.tw17285154122355122836:Unit:=()
def PySem.W.Fast.tw6191736879256189782:Unit:=()
def PySem.W.Fast.tw9458762784462698861:Unit:=()
def PySem.W.Fast.tw1540513629953511718:Unit:=()
def PySem.W.Fast.tw13195982180162575154:Unit:=()
def PySem.W.Fast.tw16443632701681456071:Unit:=()
def PySem.W.Fast.tw15310404679505266145:Unit:=()
def PySem.W.Fast.tw5581342089896871832:Unit:=()
def PySem.W.Fast.tw13801489799415286494:Unit:=()
def PySem.W.Fast.tw16091299327829943720:Unit:=()
def PySem.W.Fast.tw8965066154509911989:Unit:=()
def PySem.W.Fast.tw3018626444269875128:Unit:=()
def PySem.W.Fast.tw12510017028030101344:Unit:=()
def PySem.W.Fast.tw321981286545412982:Unit:=()
def PySem.W.Fast.tw18222659252922716348:Unit:=()
def PySem.W.Fast.tw6944820971252837735:Unit:=()
def PySem.W.Fast.tw18229383732014046227:Unit:=()
def PySem.W.Fast.tw10630895883228500576:Unit:=()
def PySem.W.Fast.tw12289338458966620356:Unit:=()
def PySem.W.Fast.tw9309598082085141266:Unit:=()
def PySem.W.Fast.tw13048606579865780011:Unit:=()
def PySem.W.Fast.tw3121440794055061385:Unit:=()
def PySem.W.Fast.tw4276622389283202888:Unit:=()
def PySem.W.Fast.tw18317066883838979259:Unit:=()
def PySem.W.Fast.tw18245578902238111362:Unit:=()
def PySem.W.Fast.tw5849578750168917872:Unit:=()
def PySem.W.Fast.tw13566331507829805626:Unit:=()
def PySem.W.Fast.tw14590975791558485676:Unit:=()
def PySem.W.Fast.tw15296332824006940336:Unit:=()
def PySem.W.Fast.tw4983252964852616850:Unit:=()
def PySem.W.Fast.tw10396327980932389612:Unit:=()
def PySem.W.Fast.tw6450795644869599282:Unit:=()
def PySem.W.Fast.tw8889555841619050980:Unit:=()
def PySem.W.Fast.tw10510678531419230403:Unit:=()
def PySem.W.Fast.tw11105309838534077367:Unit:=()
def PySem.W.Fast.tw17522284190707159477:Unit:=()
def PySem.W.Fast.tw14271945792466359852:Unit:=()
def PySem.W.Fast.tw4740135778547699877:Unit:=()
def PySem.W.Fast.tw783772707563720927:Unit:=()
def PySem.W.Fast.tw7539240580730882854:Unit:=()
def PySem.W.Fast.tw16174379166282094789:Unit:=()
def PySem.W.Fast.tw15627257897056413746:Unit:=()
def PySem.W.Fast.tw7959970745002218018:Unit:=()
def PySem.W.Fast.tw5915479992555966222:Unit:=()
def PySem.W.Fast.tw11293959224719224525:Unit:=()
def PySem.W.Fast.tw10284254204003235:Unit:=()
def PySem.W.Fast.tw16090055895978135918:Unit:=()
def PySem.W.Fast.tw5382358156069348483:Unit:=()
def PySem.W.Fast.tw15276132753955734906:Unit:=()
def PySem.W.Fast.tw5594340796925146473:Unit:=()
def PySem.W.Fast.tw11269579020084297089:Unit:=()
def PySem.W.Fast.tw9105142337068646819:Unit:=()
def PySem.W.Fast.tw13182034582930444358:Unit:=()
def PySem.W.Fast.tw17385007306498383999:Unit:=()
def PySem.W.Fast.tw8144944114554151916:Unit:=()
def PySem.W.Fast.tw4115425644042714481:Unit:=()
def PySem.W.Fast.tw13253913624542348463:Unit:=()
open PySem PySem.W PyProof.Rows
set_option maxRecDepth 100000 in
set_option maxHeartbeats 0 in
theorem PySem.Challenge.cw_rootstamp_k13_knots_by_hand_holds : PySem.Challenge.rw_rootstamp_k13_knots_by_hand.Holds := by
 w_on; o_law; k_head; (case hw => w_witness2)
 k_fill
 refine Rs.Gf (l := PySem.Challenge.rw_rootstamp_k13_knots_by_hand) rfl rfl (fun w h Y => by first | exact PySem.W.kIn_of Y | exact PySem.W.km_in_of Y) (by decide +kernel) ?F
 case F =>
  intro w mg fa h KX G hmg
  refine' Rs.BE KX G hmg ?bo_Numbers ?bo_Knot ?bo_Bare ?bo_Leaf ?bo_Fork (L2.bK ?a0 ?l0 ?c0 ?k0) (L2.bK ?a1 ?l1 ?c1 ?k1) (L2.bK ?a2 ?l2 ?c2 ?k2) (L2.bK ?a3 ?l3 ?c3 ?k3) (L2.bK ?a4 ?l4 ?c4 ?k4) ?a5 (L2.bu ?l5 ?c5 ?k5) ?fn5 (L2.bK ?a6 ?l6 ?c6 ?k6) (L2.bK ?a7 ?l7 ?c7 ?k7) ?tb_47 ?a8 (L2.bu ?l8 ?c8 ?k8) ?fn8 (L2.bK ?a9 ?l9 ?c9 ?k9) ?tb_37 (L2.bK ?a10 ?l10 ?c10 ?k10) ?tb_29 (L2.bK ?a11 ?l11 ?c11 ?k11) (L2.bK ?a12 ?l12 ?c12 ?k12) (L2.bK ?a13 ?l13 ?c13 ?k13) (L2.bK ?a14 ?l14 ?c14 ?k14) ?a15 (L2.bu ?l15 ?c15 ?k15) ?fn15 ?a16 (L2.bu ?l16 ?c16 ?k16) ?fn16 (L2.bK ?a17 ?l17 ?c17 ?k17) (L2.bK ?a18 ?l18 ?c18 ?k18) (L2.bK ?a19 ?l19 ?c19 ?k19) ?a20 (L2.bu ?l20 ?c20 ?k20) ?fn20 ?a21 (L2.bu ?l21 ?c21 ?k21) ?fn21 ?a22 (L2.bu ?l22 ?c22 ?k22) ?fn22 ?a23 (L2.bu ?l23 ?c23 ?k23) ?fn23 ?a24 (L2.bu ?l24 ?c24 ?k24) ?fn24 ?a25 (L2.bu ?l25 ?c25 ?k25) ?fn25 ?a26 (L2.bu ?l26 ?c26 ?k26) ?fn26 (L2.bK ?a27 ?l27 ?c27 ?k27) ?a28 (L2.bu ?l28 ?c28 ?k28) ?fn28 ?a29 (L2.bu ?l29 ?c29 ?k29) ?fn29 (L2.bK ?a30 ?l30 ?c30 ?k30) ?a31 (L2.bu ?l31 ?c31 ?k31) ?fn31 (L2.bK ?a32 ?l32 ?c32 ?k32) (L2.bK ?a33 ?l33 ?c33 ?k33) (L2.bK ?a34 ?l34 ?c34 ?k34) ?a35 (L2.bu ?l35 ?c35 ?k35) ?fn35 ?a36 (L2.bu ?l36 ?c36 ?k36) ?fn36 ?a37 (L2.bu ?l37 ?c37 ?k37) ?fn37 ?a38 (L2.bu ?l38 ?c38 ?k38) ?fn38 ?a39 (L2.bu ?l39 ?c39 ?k39) ?fn39 ?a40 (L2.bu ?l40 ?c40 ?k40) ?fn40 ?a41 (L2.bu ?l41 ?c41 ?k41) ?fn41 ?a42 (L2.bu ?l42 ?c42 ?k42) ?fn42 (L2.bK ?a43 ?l43 ?c43 ?k43) (L2.bK ?a44 ?l44 ?c44 ?k44) ?pg_Numbers ?hd_Numbers ?po_Numbers ?sa_Numbers ?na_Numbers_given ?pg_Knot ?hd_Knot ?po_Knot ?sa_Knot ?na_Knot_term ?na_Knot_mark ?pg_Bare ?hd_Bare ?po_Bare ?sa_Bare ?na_Bare_term ?na_Bare_mark ?pg_Leaf ?hd_Leaf ?po_Leaf ?sa_Leaf ?na_Leaf_key ?na_Leaf_text ?na_Leaf_term ?na_Leaf_mark ?pg_Fork ?hd_Fork ?po_Fork ?sa_Fork ?na_Fork_depth ?na_Fork_begin ?na_Fork_left ?na_Fork_right ?na_Fork_term ?na_Fork_mark ?cg_Knot ?cr_Knot ?cv_Knot ?cw_Knot ?oig ?oit ?oic_Bare ?oim_Bare ?oic_Leaf ?oim_Leaf ?oic_Fork ?oim_Fork ?ko_Bare_Fork ?ko_Bare_Leaf ?ko_Bare_Bare ?ko_Bare_Knot ?ko_Leaf_Fork ?ko_Leaf_Leaf ?ko_Leaf_Bare ?ko_Leaf_Knot ?ko_Fork_Fork ?ko_Fork_Leaf ?ko_Fork_Bare ?ko_Fork_Knot ?mk_Numbers ?kc_Numbers ?mk_Knot ?kc_Knot ?mk_Leaf ?kc_Leaf ?mk_Fork ?kc_Fork ?mk_Bare ?kc_Bare ?z_all ?z_bool ?z_dict ?z_int ?z_isinstance ?z_len ?z_list ?z_max ?z_min ?z_ord ?z_range ?z_sorted ?z_str ?z_tuple ?z_zip ?c_MOST_PARTS ?nt ?td
  case bo_Numbers | bo_Knot | bo_Bare | bo_Leaf | bo_Fork | a0 | l0 | c0 | k0 | a1 | l1 | c1 | k1 | a2 | l2 | c2 | k2 | a3 | l3 | c3 | k3 | a4 | l4 | c4 | k4 | a5 | l5 | c5 | k5 | fn5 | a6 | l6 | c6 | k6 | a7 | l7 | c7 | k7 => k_is
  case tb_47 => kernel_rfl
  case a8 | l8 | c8 | k8 | fn8 | a9 | l9 | c9 | k9 => k_is
  case tb_37 => kernel_rfl
  case a10 | l10 | c10 | k10 => k_is
  case tb_29 => kernel_rfl
  case a11 | l11 | c11 | k11 | a12 | l12 | c12 | k12 | a13 | l13 | c13 | k13 | a14 | l14 | c14 | k14 | a15 | l15 | c15 | k15 | fn15 | a16 | l16 | c16 | k16 | fn16 | a17 | l17 | c17 | k17 | a18 | l18 | c18 | k18 | a19 | l19 | c19 | k19 | a20 | l20 | c20 | k20 | fn20 | a21 | l21 | c21 | k21 | fn21 | a22 | l22 | c22 | k22 | fn22 | a23 | l23 | c23 | k23 | fn23 | a24 | l24 | c24 | k24 | fn24 | a25 | l25 | c25 | k25 | fn25 | a26 | l26 | c26 | k26 | fn26 | a27 | l27 | c27 | k27 | a28 | l28 | c28 | k28 | fn28 | a29 | l29 | c29 | k29 | fn29 | a30 | l30 | c30 | k30 | a31 | l31 | c31 | k31 | fn31 | a32 | l32 | c32 | k32 | a33 | l33 | c33 | k33 | a34 | l34 | c34 | k34 | a35 | l35 | c35 | k35 | fn35 | a36 | l36 | c36 | k36 | fn36 | a37 | l37 | c37 | k37 | fn37 | a38 | l38 | c38 | k38 | fn38 | a39 | l39 | c39 | k39 | fn39 | a40 | l40 | c40 | k40 | fn40 | a41 | l41 | c41 | k41 | fn41 | a42 | l42 | c42 | k42 | fn42 | a43 | l43 | c43 | k43 | a44 | l44 | c44 | k44 | pg_Numbers | hd_Numbers | po_Numbers | sa_Numbers | na_Numbers_given | pg_Knot | hd_Knot | po_Knot | sa_Knot | na_Knot_term | na_Knot_mark | pg_Bare | hd_Bare | po_Bare | sa_Bare | na_Bare_term | na_Bare_mark | pg_Leaf | hd_Leaf | po_Leaf | sa_Leaf | na_Leaf_key | na_Leaf_text | na_Leaf_term | na_Leaf_mark | pg_Fork | hd_Fork | po_Fork | sa_Fork | na_Fork_depth | na_Fork_begin | na_Fork_left | na_Fork_right | na_Fork_term | na_Fork_mark => k_is
  case cg_Knot | cr_Knot | cv_Knot | cw_Knot | oig | oit | oic_Bare | oim_Bare | oic_Leaf | oim_Leaf | oic_Fork | oim_Fork => first | k_is | kernel_rfl
  case ko_Bare_Fork | ko_Bare_Leaf | ko_Bare_Bare | ko_Bare_Knot | ko_Leaf_Fork | ko_Leaf_Leaf | ko_Leaf_Bare | ko_Leaf_Knot | ko_Fork_Fork | ko_Fork_Leaf | ko_Fork_Bare | ko_Fork_Knot => kit_is
  case mk_Numbers | kc_Numbers | mk_Knot | kc_Knot | mk_Leaf | kc_Leaf | mk_Fork | kc_Fork | mk_Bare | kc_Bare | z_all | z_bool | z_dict | z_int | z_isinstance | z_len | z_list | z_max | z_min | z_ord | z_range | z_sorted | z_str | z_tuple | z_zip | c_MOST_PARTS => k_is
  case nt | td => kernel_rfl

import PyProof.Rows.All
import Wide.All
import OpenK.AllK
import Wide.FinOn
import Lean
import PyProof.EqAt
import PyProof.EqKinds
import PyProof.TupleCall
import PyProof.P3In
import KE.KDictLaws
import KE.KTabLook
import KE.KRevIter
import KE.KItemsList
import PyProof.TupleOfGen
import KE.KSortTup
import KE.KDictSum
import KE.KEqDict
import PyProof.EnumMake
import PyProof.EnumFor
import PyProof.EnumStmt
import PySem.Challenge.RW_rootstamp_k33_whole_stretches_of_a_table
set_option Elab.async false
set_option linter.all false
set_option maxRecDepth 100000
set_option maxHeartbeats 4000000
namespace L2
open PySem PySem.Spec PyProof.Rows
abbrev Key:=Sum Int Str
def jG:Key→Value→Bool
 | .inl k,v=>Value.isInt k v
 | .inr x,v=>Value.isStrOf x v
def JV (w:World):Key→Int
 | .inl k=>hashInt k
 | .inr x=>hashStr w x
theorem ci : ∀ {k : Key} {v : Value}, jG k v = true → (∃ i t, k = Sum.inl i ∧ v = Value.int i t) ∨ (∃ x t, k = Sum.inr x ∧ v = Value.str x t)
  | .inl i, v, h => by
    obtain ⟨t, e⟩ := Value.isInt_shape (k := i) (v := v) h
    exact .inl ⟨i, t, rfl, e⟩
  | .inr x, v, h => by
    obtain ⟨t, e⟩ := Value.isStrOf_shape (x := x) (v := v) h
    exact .inr ⟨x, t, rfl, e⟩
theorem uA (i:Int) (t:Tok):jG (.inl i) (.int i t)=true:=by simp [jG,Value.isInt]
theorem um (x:Str) (t:Tok):jG (.inr x) (.str x t)=true:=by simp [jG,Value.isStrOf]
theorem Df (a b:Int):decide ((Sum.inl a:Key)=Sum.inl b)=(a==b):=by
 by_cases e:a=b
 · subst e;simp
 · have h:¬ (Sum.inl a:Key)=Sum.inl b:=fun q=>e (Sum.inl.inj q)
   rw [decide_eq_false h]
   exact (beq_eq_false_iff_ne.mpr e).symm
theorem Bw (a b:Str):decide ((Sum.inr a:Key)=Sum.inr b)=decide (a=b):=by
 by_cases e:a=b
 · subst e;simp
 · have h:¬ (Sum.inr a:Key)=Sum.inr b:=fun q=>e (Sum.inr.inj q)
   rw [decide_eq_false h,decide_eq_false e]
theorem Dr (a:Int) (b:Str):decide ((Sum.inl a:Key)=Sum.inr b)=false:=decide_eq_false (fun q=>nomatch q)
theorem Bu (a:Str) (b:Int):decide ((Sum.inr a:Key)=Sum.inl b)=false:=decide_eq_false (fun q=>nomatch q)
def bN (prog:Program) (w:World):PySem.KeyKind prog w Key where
 is:=jG
 hash:=JV w
 inj:=fun v a b ha hb=>by
  rcases ci ha with ⟨i,t,rfl,rfl⟩ | ⟨x,t,rfl,rfl⟩
  · rcases ci hb with ⟨j,u,rfl,e⟩ | ⟨y,u,rfl,e⟩
    · injection e with e1 _;rw [e1]
    · exact nomatch e
  · rcases ci hb with ⟨j,u,rfl,e⟩ | ⟨y,u,rfl,e⟩
    · exact nomatch e
    · injection e with e1 _;rw [e1]
 byValue:=fun k v h=>by
  rcases ci h with ⟨i,t,rfl,rfl⟩ | ⟨x,t,rfl,rfl⟩ <;> rfl
 pyHash:=fun hv h=>by
  rcases ci hv with ⟨i,t,rfl,rfl⟩ | ⟨x,t,rfl,rfl⟩
  · exact wpAny_pyHash_int h
  · exact wpAny_pyHash_str h
 eqBool:=fun hu hv h=>by
  rcases ci hu with ⟨i,t,rfl,rfl⟩ | ⟨x,t,rfl,rfl⟩
  · rcases ci hv with ⟨j,u,rfl,rfl⟩ | ⟨y,u,rfl,rfl⟩
    · rw [Df] at h;exact wpAny_eqBool_int h
    · rw [Dr] at h;exact SeqAt.EqAt.int_str i t y u _ _ _ _ h
  · rcases ci hv with ⟨j,u,rfl,rfl⟩ | ⟨y,u,rfl,rfl⟩
    · rw [Bu] at h;exact SeqAt.EqAt.str_int x t j u _ _ _ _ h
    · rw [Bw] at h;exact wpAny_eqBool_str h
 «strs»:=fun k x t v h=>by
  rcases ci h with ⟨i,u,rfl,e⟩ | ⟨y,u,rfl,e⟩
  · exact nomatch e
  · injection e with e1 _
    subst e1
    cases v <;> rfl
theorem qp (prog:Program) (w:World) (i:Int) (t:Tok):(bN prog w).is (.inl i) (.int i t)=true:=uA i t
theorem qm (prog:Program) (w:World) (x:Str) (t:Tok):(bN prog w).is (.inr x) (.str x t)=true:=um x t
inductive V where
 | non | bl (b:Bool) | int (i:Int) | str (x:Str) | byt (b:Array UInt8) | flt (b:UInt64) | ref (a:Addr) | ty (n:String)
 deriving DecidableEq
def aR:V→Value→Prop
 | .non,u=>u=Value.none
 | .bl b,u=>u=Value.bool b
 | .int i,u=>∃ t,u=Value.int i t
 | .str x,u=>∃ t,u=Value.str x t
 | .byt b,u=>∃ t,u=Value.bytes b t
 | .flt b,u=>∃ t,u=Value.float b t
 | .ref a,u=>u=Value.ref a
 | .ty n,u=>u=Value.type n
abbrev aX:List V→List Value→Prop:=Paired aR
theorem aX.length {xs:List V} {us:List Value} (r:aX xs us):xs.length=us.length:=Paired.length r
theorem aX.get : ∀ {xs : List V} {us : List Value} {i : Nat} {x : V}, aX xs us → xs[i]? = some x → ∃ u, us[i]? = some u ∧ aR x u
  | _, _, _, _, .nil, e => by simp at e
  | _, _, 0, _, .cons r _, e => by simp at e; subst e; exact ⟨_, rfl, r⟩
  | _, _, i + 1, x, .cons _ t, e => by
    obtain ⟨u, h1, h2⟩ := aX.get (i := i) (x := x) t (by simpa using e)
    exact ⟨u, by simpa using h1, h2⟩
theorem aX.set {x:V} {u:Value} (r:aR x u):∀ {xs:List V} {us:List Value} (i:Nat),aX xs us→aX (xs.set i x) (us.set i u)
 | _,_,_,.nil=> .nil
 | _,_,0,.cons _ t=> .cons r t
 | _,_,i+1,.cons q t=> .cons q (aX.set r i t)
theorem aX.append:∀ {xs ys:List V} {us ws:List Value},aX xs us→aX ys ws→aX (xs++ys) (us++ws)
 | _,_,_,_,.nil,s=>s
 | _,_,_,_,.cons r t,s=> .cons r (aX.append t s)
theorem aX.take:∀ {xs:List V} {us:List Value} (n:Nat),aX xs us→aX (xs.take n) (us.take n)
 | _,_,0,_=> .nil
 | _,_,_+1,.nil=> .nil
 | _,_,n+1,.cons r t=> .cons r (aX.take n t)
theorem aX.drop:∀ {xs:List V} {us:List Value} (n:Nat),aX xs us→aX (xs.drop n) (us.drop n)
 | _,_,0,r=>r
 | _,_,_+1,.nil=> .nil
 | _,_,n+1,.cons _ t=>aX.drop n t
def dj:Option V→Option Value→Prop
 | some v,some u=>aR v u
 | none,none=>True
 | _,_=>False
def KV {κ:Type}:List (κ×V)→List (κ×Value)→Prop:=Paired fun (p:κ×V) (q:κ×Value)=>p.1=q.1∧aR p.2 q.2
def kV:Key→V
 | .inl i=> .int i
 | .inr x=> .str x
inductive HO where
 | lst (xs:List V)
 | tup (xs:List V)
 | dK (kvs:List (Key×V)) | dT (kvs:List (List Key×V))
 | set (S:Int→Bool) (n:Nat)
 | ins (C dx:Addr) (fs:List (Str×V))
 | own (x:Addr)
 | xd (fs:List (Str×V))
 | met (f x:Addr)
 | rng (lo hi:Int)
 | frz (o:Obj) (u:HO)
 | tbl (ps:Array Value)
 | ext (φ:Heap→Prop)
abbrev Hp:=Addr→Option HO
def upd (H:Hp) (a:Addr) (o:HO):Hp:=fun b=>if b=a then some o else H b
theorem aj {H:Hp} {a:Addr} {o:HO}:upd H a o a=some o:=by unfold upd;rw [if_pos rfl]
theorem ap {H:Hp} {a b:Addr} {o:HO} (h:b≠a):upd H a o b=H b:=by unfold upd;rw [if_neg h]
theorem eW {H:Hp} {a:Addr} {o u:HO}:upd (upd H a o) a u=upd H a u:=by
 funext b;unfold upd;split <;> rfl
theorem cf {H:Hp} {a b:Addr} {o u:HO} (h:H a=some o) (h':H b=some u) (d:o≠u):a≠b:=by
 intro e;subst e;rw [h] at h';exact d (Option.some.inj h')
theorem az {H:Hp} {a b:Addr} {o:HO} (h:H a=some o) (h':H b=none):a≠b:=by
 intro e;subst e;rw [h] at h';cases h'
section
variable (P:Program) (w:World)
def bh (H:Hp) (h:Heap) (a:Addr):HO→Prop
 | .lst xs=>xs.length≤sizeLine∧∃ (its:List Value) (n:Nat),aX xs its∧h.get? a=some { cls:=.type "list",data:=.seq its.toArray n }
 | .tup xs=>xs.length≤sizeLine∧∃ its:List Value,aX xs its∧IsTup h a its.toArray
 | .dK kvs=>kvs.length≤sizeLine∧(a==sysModules)=false∧∃ vs,KV kvs vs∧h.DictOf (bN P w) a vs
 | .dT kvs=>kvs.length≤sizeLine∧(a==sysModules)=false∧∃ xs:List (List Key×Addr×Value),
  Paired (fun (p:List Key×V) (q:List Key×Addr×Value)=>p.1=q.1∧H q.2.1=some (.tup (p.1.map kV))∧aR p.2 q.2.2) kvs xs∧
  ∃ o es ep,h.get? a=some o∧o.ExactDict∧o.data=.dict es ep∧es.toList=xs.map (entryOfKey (tupleKind (bN P w)))∧(xs.map (·.1)).Nodup
 | .set S n=>h.SetOf (intKind P w) a S n
 | .ins C dx fs=>H dx=some (.own a)∧fs.length≤1000∧dx≠a∧h.get? a=some (W.instObj C dx)∧
  ∃ mA,h.Ns1 dx mA∧(∀ f,dj (fs.lookup f) (mA f))∧PySem.Within mA (fs.map (·.1))
 | .own _=>∃ o,h.get? a=some o
 | .xd fs=>∃ mA,h.Ns1 a mA∧∀ f,dj (fs.lookup f) (mA f)
 | .rng lo hi=>∃ t u v,h.get? a=some { cls:=.type "range",data:=.fields #[.int lo t,.int hi u,.int 1 v] }
 | .frz o u=>h.get? a=some o∧bh H h a u
 | .tbl ps=>h.get? a=some { cls:=.none,data:=.fields ps }
 | .met f x=>h.get? a=some (W.methodObj (.ref f) (.ref x))
 | .ext φ=>φ h∧(∃ o,h.get? a=some o)∧∀ h1 h2:Heap,φ h1→(∀ o,h1.get? a=some o→h2.get? a=some o)→φ h2
def HOk (H:Hp) (h:Heap):Prop:=∀ a o,H a=some o→bh P w H h a o
end
section
variable {P:Program} {w:World} {H H':Hp} {h h':Heap} {a:Addr} {o:HO}
theorem bh.lt (x:bh P w H h a o):a<h.objs.size:=by
 cases o with
 | lst xs=>obtain ⟨_,_,_,_,e⟩:=x;exact Heap.lt_size e
 | tup xs=>obtain ⟨_,_,_,p⟩:=x;exact p.lt
 | dK kvs=>obtain ⟨_,_,_,_,o,_,_,e,_⟩:=x;exact Heap.lt_size e
 | dT kvs=>obtain ⟨_,_,_,_,o,_,_,e,_⟩:=x;exact Heap.lt_size e
 | set S n=>obtain ⟨o,_,_,_,e,_⟩:=x;exact Heap.lt_size e
 | ins C dx fs=>obtain ⟨_,_,_,e,_⟩:=x;exact Heap.lt_size e
 | own y=>obtain ⟨_,e⟩:=x;exact Heap.lt_size e
 | xd fs=>obtain ⟨_,⟨_,_,_,e,_⟩,_⟩:=x;exact Heap.lt_size e
 | rng lo hi=>obtain ⟨_,_,_,e⟩:=x;exact Heap.lt_size e
 | frz ob u=>obtain ⟨e,_⟩:=x;exact Heap.lt_size e
 | tbl ps=>exact Heap.lt_size (show h.get? a=some _ from x)
 | met f y=>exact Heap.lt_size (show h.get? a=some _ from x)
 | ext φ=>obtain ⟨_,⟨_,e⟩,_⟩:=x;exact Heap.lt_size e
theorem Paired.mapP {α β:Type} {F G:α→β→Prop}:∀ {l₁:List α} {l₂:List β},Paired F l₁ l₂→(∀ a b,F a b→G a b)→Paired G l₁ l₂
 | _,_,.nil,_=> .nil
 | _,_,.cons r t,f=> .cons (f _ _ r) (Paired.mapP t f)
theorem Paired.imp' {α β:Type} {F G:α→β→Prop} (f:∀ a b,F a b→G a b) {l₁:List α} {l₂:List β} (r:Paired F l₁ l₂):Paired G l₁ l₂:=Paired.mapP r f
theorem bh.stay (x : bh P w H h a o) (k : ∀ b u, (b = a ∨ H b = some (.own a)) → h.get? b = some u → h'.get? b = some u)
    (ho : ∀ b, H b = some (.own a) → H' b = some (.own a)) (ht : ∀ b xs, H b = some (.tup xs) → H' b = some (.tup xs)) : bh P w H' h' a o := by
  induction o with
  | lst xs => obtain ⟨z, its, n, r, e⟩ := x; exact ⟨z, its, n, r, k _ _ (.inl rfl) e⟩
  | tup xs => obtain ⟨z, its, r, ob, e, c⟩ := x; exact ⟨z, its, r, ob, k _ _ (.inl rfl) e, c⟩
  | dK kvs => obtain ⟨z, y, vs, r, ob, es, ep, e, c⟩ := x; exact ⟨z, y, vs, r, ob, es, ep, k _ _ (.inl rfl) e, c⟩
  | dT kvs =>
    obtain ⟨z, y, xs, r, ob, es, ep, e, c⟩ := x
    exact ⟨z, y, xs, Paired.mapP r fun p q z => ⟨z.1, ht _ _ z.2.1, z.2.2⟩, ob, es, ep, k _ _ (.inl rfl) e, c⟩
  | set S n => obtain ⟨ob, es, ep, t, e, c⟩ := x; exact ⟨ob, es, ep, t, k _ _ (.inl rfl) e, c⟩
  | ins C dx fs =>
    obtain ⟨d, z, ne, e, mA, ⟨od, es, ep, e2, c⟩, r⟩ := x
    exact ⟨ho _ d, z, ne, k _ _ (.inl rfl) e, mA, ⟨od, es, ep, k _ _ (.inr d) e2, c⟩, r⟩
  | own y => obtain ⟨ob, e⟩ := x; exact ⟨ob, k _ _ (.inl rfl) e⟩
  | xd fs => obtain ⟨mA, ⟨od, es, ep, e, c⟩, r⟩ := x; exact ⟨mA, ⟨od, es, ep, k _ _ (.inl rfl) e, c⟩, r⟩
  | rng lo hi => obtain ⟨t, u, v, e⟩ := x; exact ⟨t, u, v, k _ _ (.inl rfl) e⟩
  | frz ob u ih => obtain ⟨e, q⟩ := x; exact ⟨k _ _ (.inl rfl) e, ih q⟩
  | tbl ps =>
    have e : h.get? a = some { cls := .none, data := .fields ps } := x
    show h'.get? a = some { cls := .none, data := .fields ps }
    exact k a _ (.inl rfl) e
  | met f y =>
    have e : h.get? a = some (W.methodObj (.ref f) (.ref y)) := x
    show h'.get? a = some (W.methodObj (.ref f) (.ref y))
    exact k a _ (.inl rfl) e
  | ext φ => obtain ⟨p, ⟨o, e⟩, st⟩ := x; exact ⟨st _ _ p fun o q => k _ _ (.inl rfl) q, ⟨o, k _ _ (.inl rfl) e⟩, st⟩
theorem HOk.lt (x:HOk P w H h) (e:H a=some o):a<h.objs.size:=(x a o e).lt
theorem HOk.fresh (x:HOk P w H h) (e:h.objs.size≤a):H a=none:=by
 cases q:H a with
 | none=>rfl
 | some u=>exact absurd (Nat.lt_of_lt_of_le (x.lt q) e) (Nat.lt_irrefl _)
theorem HOk.kept (x:HOk P w H h) (k:∀ b u,h.get? b=some u→h'.get? b=some u):HOk P w H h':=fun a o e=>
 (x a o e).stay (fun b u _ q=>k b u q) (fun _ q=>q) fun _ _ q=>q
theorem HOk.laid (x:HOk P w H h) (k:∀ b u,h.get? b=some u→h'.get? b=some u) (hp:h.objs.size≤a) (new:bh P w (upd H a o) h' a o):HOk P w (upd H a o) h':=fun b u e=>by
 have hn:=x.fresh hp
 by_cases hb:b=a
 · subst hb;rw [aj] at e;cases e;exact new
 · rw [ap hb] at e
   exact (x b u e).stay (fun c v _ q=>k c v q) (fun c q=>by rw [ap (az q hn)];exact q) fun c xs q=>by rw [ap (az q hn)];exact q
end
def Rd (H:Hp) (a:Addr) (u:HO):Prop:=H a=some u∨∃ o,H a=some (.frz o u)
theorem Rd.ok {P:Program} {w:World} {H:Hp} {h:Heap} {a:Addr} {u:HO} (r:Rd H a u) (x:HOk P w H h):bh P w H h a u:=by
 rcases r with r | ⟨o,r⟩
 · exact x a u r
 · obtain ⟨_,q⟩:=x a _ r
   exact q
def Mut:Option HO→Prop
 | some (.lst _)=>True
 | some (.dK _)=>True
 | some (.dT _)=>True
 | some (.set _ _)=>True
 | some (.ins _ _ _)=>True
 | some (.ext _)=>True
 | _=>False
section
variable {P:Program} {w:World} {H:Hp} {h h':Heap} {x e:Addr} {o':HO}
theorem HOk.write (ok:HOk P w H h) (mu:Mut (H x)) (he:e=x∨H e=some (.own x)) (k:∀ b u,b≠e→h.get? b=some u→h'.get? b=some u) (heo:∃ u,h'.get? e=some u)
   (new:bh P w (upd H x o') h' x o'):HOk P w (upd H x o') h':=fun b u q=>by
 have nown:∀ c y,H c=some (.own y)→c≠x:=fun c y r z=>by subst z;rw [r] at mu;exact mu
 have ntup:∀ c xs,H c=some (.tup xs)→c≠x:=fun c xs r z=>by subst z;rw [r] at mu;exact mu
 by_cases hb:b=x
 · subst hb;rw [aj] at q;cases q;exact new
 · rw [ap hb] at q
   by_cases hbe:b=e
   · have q':H b=some (.own x):=by
       rcases he with z | z
       · exact absurd (hbe.trans z) hb
       · rw [hbe];exact z
     rw [q] at q';cases q'
     obtain ⟨v,hv⟩:=heo
     exact ⟨v,by rw [hbe];exact hv⟩
   · refine (ok b u q).stay (fun c v hc r=>k c v ?_ r) (fun c r=>by rw [ap (nown c b r)];exact r) fun c xs r=>by rw [ap (ntup c xs r)];exact r
     rcases hc with rfl | hc
     · exact hbe
     · rintro rfl
       rcases he with z | z
       · exact nown c b hc z
       · rw [hc] at z;cases z;exact hb rfl
end
structure Un (fs ex:List Addr) (H H':Hp) (h h':Heap):Prop where
 keep:∀ b o,h.get? b=some o→H b=none→b∉fs→b∉ex→h'.get? b=some o
 slot:∀ b o,h.get? b=some o→H b=none→b∈fs→b∉ex→∃ sl,h'.get? b=some { o with slots:=sl }
 free:∀ b o,h.get? b=some o→H b=none→b∉ex→H' b=none
 there:∀ b o,h.get? b=some o→b∉ex→∃ o',h'.get? b=some o'
 tups:∀ b xs,H b=some (.tup xs)→H' b=some (.tup xs)
 frzs:∀ b o u,H b=some (.frz o u)→H' b=some (.frz o u)
 tbls:∀ b ps,H b=some (.tbl ps)→∃ more,H' b=some (.tbl (ps++more))
section
variable {fs fs' ex ex':List Addr} {H H1 H2:Hp} {h h1 h2 h':Heap} {a x e:Addr} {o:HO}
theorem Un.any (u:Un fs ex H H1 h h1) {b:Addr} {ob:Obj} (q:h.get? b=some ob) (n:H b=none) (hx:b∉ex):∃ sl,h1.get? b=some { ob with slots:=sl }:=by
 by_cases hb:b∈fs
 · exact u.slot b ob q n hb hx
 · exact ⟨ob.slots,u.keep b ob q n hb hx⟩
theorem Un.kept (k:∀ b u,h.get? b=some u→h'.get? b=some u):Un fs ex H H h h':=
 ⟨fun b ob q _ _ _=>k b ob q,fun b ob q _ _ _=>⟨ob.slots,k b ob q⟩,fun _ _ _ n _=>n,fun b ob q _=>⟨ob,k b ob q⟩,fun _ _ q=>q,fun _ _ _ q=>q,fun _ ps q=>⟨#[],by rw [q];simp⟩⟩
theorem Un.refl:Un fs ex H H h h:=Un.kept fun _ _ q=>q
theorem Un.laid (k:∀ b u,h.get? b=some u→h'.get? b=some u) (hp:h.objs.size≤a) (hn:H a=none):Un fs ex H (upd H a o) h h' where
 keep:=fun b u q _ _ _=>k b u q
 slot:=fun b u q _ _ _=>⟨u.slots,k b u q⟩
 free:=fun b u q n _=>by rw [ap (Nat.ne_of_lt (Nat.lt_of_lt_of_le (Heap.lt_size q) hp))];exact n
 there:=fun b u q _=>⟨u,k b u q⟩
 tups:=fun b xs q=>by rw [ap (az q hn)];exact q
 frzs:=fun b u xs q=>by rw [ap (az q hn)];exact q
 tbls:=fun b ps q=>⟨#[],by rw [ap (az q hn),q];simp⟩
theorem Un.write (mu:Mut (H x)) (he:e=x∨H e=some (.own x)) (k:∀ b u,b≠e→h.get? b=some u→h'.get? b=some u) (heo:∃ u,h'.get? e=some u):Un fs ex H (upd H x o) h h':=by
 have hx:∀ b,H b=none→b≠x:=fun b n z=>by subst z;rw [n] at mu;exact mu
 have hb:∀ b,H b=none→b≠e:=fun b n z=>by
   subst z
   rcases he with r | r
   · exact hx b n r
   · rw [n] at r;cases r
 have hm:∀ b u,H b=some u→¬ Mut (some u)→b≠x:=fun b u q nm z=>by subst z;rw [q] at mu;exact nm mu
 refine ⟨fun b u q n _ _=>k b u (hb b n) q,fun b u q n _ _=>⟨u.slots,k b u (hb b n) q⟩,fun b u q n _=>by rw [ap (hx b n)];exact n,fun b u q _=>?_,
   fun b xs q=>by rw [ap (hm b _ q fun z=>z)];exact q,fun b u xs q=>by rw [ap (hm b _ q fun z=>z)];exact q,fun b ps q=>⟨#[],by rw [ap (hm b _ q fun z=>z),q];simp⟩⟩
 by_cases hbe:b=e
 · subst hbe;exact heo
 · exact ⟨u,k b u hbe q⟩
end
def trk (h:Heap) (H:Hp):List Addr:=(List.range h.objs.size).filter fun a=>(H a).isSome
def gF (h:Heap) (H:Hp):Heap:=W.hideAll h (trk h H)
theorem uJ (h:Heap) (H:Hp):(gF h H).objs.size=h.objs.size:=W.hideAll_size _ _
theorem wa {h:Heap} {H:Hp} {b:Addr} {o:Obj} (e:h.get? b=some o) (n:H b=none):(gF h H).get? b=some o:=
 W.hideAll_get _ e fun hm=>by
  have q:(H b).isSome=true:=(List.mem_filter.mp hm).2
  rw [n] at q;simp at q
theorem AI {h : Heap} {H : Hp} {b : Addr} {o : Obj} (e : (gF h H).get? b = some o) : h.get? b = some o ∧ H b = none := by
  have e' : h.get? b = some o := W.of_hideAll (trk h H) e
  refine ⟨e', ?_⟩
  cases q : H b with
  | none => rfl
  | some x =>
    have hm : b ∈ trk h H := List.mem_filter.mpr ⟨List.mem_range.mpr (Heap.lt_size e'), by simp [q]⟩
    have z : (gF h H).get? b = none := W.hideAll_none (trk h H) hm
    rw [z] at e; cases e
def Az (g h:Heap) (L:Addr):List (Addr×Obj):=(List.range h.objs.size).filterMap fun a=>if a=L∨(g.get? a).isSome=true then none else (h.get? a).map fun o=>(a,o)
def bL (g h:Heap) (L d:Addr):List (Addr×Obj):=(Az g h L).filter fun p=>decide (p.1≠d)
structure Mod (K:W.Frag) (mg:Str→Option Value) (base:Heap):Prop where
 kin:K.In base
 glob:base.Ns mainGlobals mg
 blt:∃ mb,base.Ns builtinsNs mb∧∀ x:Str,x≠ "__name__" →mb x=bootBuiltins x
 nolimit:base.NoLimit
set_option genInjectivity false in
set_option genSizeOf false in
structure Cx where
 prog:Program
 w:World
 K:W.Frag
 mg:Str→Option Value
 base:Heap
 A:Around
 N:List Str
 s₀:Shared
 H₀:Hp
 env:Env
 outer:List Env
 stack:List Env
 ex:List Addr
 fn:Str→Bool
 calm:Bool
 pn:List (Addr×Obj)
 xe:Value→Shared→Prop
def frs (l:List Env):List Addr:=l.filterMap (·.frame)
abbrev Cx.fs (X:Cx):List Addr:=frs X.outer
def Vis (sc:Scope) (x:Str):Prop:=sc.names.lookup x=some .local∨sc.names.lookup x=some .cell∨sc.names.lookup x=some .free
def Loc (sc:Scope) (x:Str):Prop:=sc.names.lookup x=some .local∨sc.names.lookup x=some .cell
def Ci (env:Env) (h:Heap) (m:Str→Option Value) (x:Str) (u:Value):Prop:=
 (env.kindOf x=some .local∧m x=some u)∨((env.kindOf x=some .cell∨env.kindOf x=some .free)∧∃ c,env.cells.lookup x=some c∧h.IsCell c (some u))
set_option genInjectivity false in
set_option genSizeOf false in
structure Cx.Ok (X:Cx):Prop where
 mod:Mod X.K X.mg X.base
 kind:X.env.scope.kind=.function
 glob:X.env.globals=mainGlobals
 blt:X.env.builtins=builtinsNs
 above:X.s₀.heap.objs.size≤X.env.locals
 inj:∀ x y c,X.env.cells.lookup x=some c→X.env.cells.lookup y=some c→x=y
 has:∀ x,(X.env.kindOf x=some .cell∨X.env.kindOf x=some .free)→∃ c,X.env.cells.lookup x=some c
 cab:∀ x c,X.fn x=true→X.env.cells.lookup x=some c→X.s₀.heap.objs.size≤c
 hd:X.calm=true→X.A.handled=none
 frames:X.A.frames=some X.stack
 stk:X.stack=X.outer∨(X.stack=X.env::X.outer∧X.env.frame=some X.env.locals)
 exf:∀ b∈X.ex,b≠X.env.locals∧∀ x c,X.env.cells.lookup x=some c→c≠b
 bs:∀ b o,X.base.get? b=some o→X.s₀.heap.get? b=some o∧X.H₀ b=none
 bsz:X.base.objs.size≤X.s₀.heap.objs.size
 noex:∀ b o,X.base.get? b=some o→b∉X.ex
 exfs:∀ b∈X.ex,b∉X.fs
 funs:X.s₀.heap.FunFrames X.base X.outer
 frf:∀ b∈X.fs,X.H₀ b=none
structure Inv (X:Cx) (pins:List (Addr×Obj)) (σ:List (Option V)) (H:Hp) (s:Shared):Prop where
 ok:X.Ok
 os:s.os=X.s₀.os
 bare:AllBare s.gens
 base:Un X.fs X.ex X.H₀ H X.s₀.heap s.heap
 loc:∃ m,s.heap.Ns X.env.locals m∧∀ (i:Nat) (x:Str) (v:V),X.N[i]?=some x→σ[i]?=some (some v)→Vis X.env.scope x→∃ u,aR v u∧Ci X.env s.heap m x u
 cell:∀ x c,X.env.cells.lookup x=some c→∃ v,s.heap.IsCell c v
 free:H X.env.locals=none
 freeC:∀ x c,X.env.cells.lookup x=some c→H c=none
 pin:∀ p∈X.pn++pins,s.heap.get? p.1=some p.2∧H p.1=none∧p.1≠X.env.locals∧p.1∉X.fs∧∀ v,p.2.data≠ .cell v
 hok:HOk X.prog X.w H s.heap
 len:σ.length=X.N.length
section
variable {X:Cx} {pins:List (Addr×Obj)} {σ:List (Option V)} {H H':Hp} {s:Shared} {h':Heap}
theorem Cx.Ok.nofr (ok:X.Ok) {b:Addr} {o:Obj} (e:X.base.get? b=some o):b∉X.fs:=fun hb=>by
 have:=(ok.funs.mem hb).1
 rw [e] at this;cases this
theorem Inv.bs (I:Inv X pins σ H s):∀ b o,X.base.get? b=some o→s.heap.get? b=some o∧H b=none:=fun b o e=>
 ⟨I.base.keep b o (I.ok.bs b o e).1 (I.ok.bs b o e).2 (I.ok.nofr e) (I.ok.noex b o e),I.base.free b o (I.ok.bs b o e).1 (I.ok.bs b o e).2 (I.ok.noex b o e)⟩
theorem Inv.bk (I:Inv X pins σ H s):∀ b o,X.base.get? b=some o→s.heap.get? b=some o:=fun b o e=>(I.bs b o e).1
theorem Inv.mod (I:Inv X pins σ H s):Mod X.K X.mg X.base:=I.ok.mod
theorem Inv.kIn (I:Inv X pins σ H s):X.K.In s.heap:=I.ok.mod.kin.keeps I.bk
theorem Inv.lt (I:Inv X pins σ H s):X.env.locals<s.heap.objs.size:=let ⟨_,hn,_⟩:=I.loc;hn.lt
theorem Inv.sz (I:Inv X pins σ H s):X.s₀.heap.objs.size≤s.heap.objs.size:=Nat.le_trans I.ok.above (Nat.le_of_lt I.lt)
theorem Inv.nofs (I:Inv X pins σ H s) {a:Addr} (h:s.heap.objs.size≤a):a∉X.fs:=fun hb=>by
 obtain ⟨_,o,ho,_⟩:=I.ok.funs.mem hb
 exact absurd (Nat.lt_of_lt_of_le (Heap.lt_size ho) (Nat.le_trans I.sz h)) (Nat.lt_irrefl _)
theorem Inv.cne (I:Inv X pins σ H s):∀ x c,X.env.cells.lookup x=some c→c≠X.env.locals:=fun x c e z=>by
 obtain ⟨v,o,ho,hd⟩:=I.cell x c e
 obtain ⟨m,⟨o',es,ep,ho',hd',_⟩,_⟩:=I.loc
 rw [z,ho'] at ho;cases ho;rw [hd'] at hd;cases hd
theorem Inv.funs (I : Inv X pins σ H s) : s.heap.FunFrames X.base X.outer := by
  have all : ∀ (l : List Env), (∀ b ∈ frs l, b ∈ X.fs) → X.s₀.heap.FunFrames X.base l → s.heap.FunFrames X.base l := by
    intro l
    induction l with
    | nil => intro _ _; trivial
    | cons env r ih =>
      intro hs hl
      obtain ⟨hk, ⟨L, o, hf, hn, ho, hd⟩, hr⟩ := hl
      have hL : L ∈ X.fs := hs L (by unfold frs; rw [List.filterMap_cons, hf]; exact List.mem_cons_self)
      obtain ⟨sl, e⟩ := I.base.slot L o ho (I.ok.frf L hL) hL fun z => I.ok.exfs L z hL
      exact ⟨hk, ⟨L, _, hf, hn, e, hd⟩, ih (fun b hb => hs b (by unfold frs; rw [List.filterMap_cons, hf]; exact List.mem_cons_of_mem _ hb)) hr⟩
  exact all X.outer (fun _ hb => hb) I.ok.funs
theorem Inv.stack (I:Inv X pins σ H s):s.heap.FunFrames X.base X.stack:=by
 rcases I.ok.stk with e | ⟨e,hf⟩
 · rw [e];exact I.funs
 · rw [e]
   obtain ⟨m,hn,_⟩:=I.loc
   refine .cons (by rw [I.ok.kind];decide) hf hn ?_ I.funs
   exact Heap.get?_none_of_le (Nat.le_trans I.ok.bsz I.ok.above)
theorem Inv.stkSub (I:Inv X pins σ H s):∀ b∈frs X.stack,b∈X.env.locals::X.fs:=fun b hb=>by
 rcases I.ok.stk with e | ⟨e,hf⟩
 · rw [e] at hb;exact List.mem_cons_of_mem _ hb
 · rw [e] at hb
   unfold frs at hb
   rw [List.filterMap_cons,hf] at hb
   exact hb
theorem Inv.stkFree (I:Inv X pins σ H s):∀ b∈frs X.stack,H b=none:=fun b hb=>by
 rcases List.mem_cons.mp (I.stkSub b hb) with e | hb
 · rw [e];exact I.free
 · obtain ⟨_,o,ho,_⟩:=I.ok.funs.mem hb
   exact I.base.free b o ho (I.ok.frf b hb) fun z=>I.ok.exfs b z hb
theorem Inv.step {g':Array GenState} {t':Nat} {d':Drawn} {ch:List Addr} (I:Inv X pins σ H s)
   (hch:∀ b∈ch,(b∈X.ex∨X.s₀.heap.objs.size≤b)∧b≠X.env.locals∧(∀ x c,X.env.cells.lookup x=some c→c≠b)∧∀ p∈X.pn++pins,p.1≠b)
   (keep:∀ b o,b≠X.env.locals→b∉X.fs→b∉ch→s.heap.get? b=some o→H b=none→h'.get? b=some o)
   (slot:∀ b o,b≠X.env.locals→b∈X.fs→b∉ch→s.heap.get? b=some o→H b=none→∃ sl,h'.get? b=some { o with slots:=sl }) (free:∀ b o,b∉ch→s.heap.get? b=some o→H b=none→H' b=none)
   (there:∀ b o,b∉ch→s.heap.get? b=some o→∃ o',h'.get? b=some o')
   (tups:∀ b xs,H b=some (.tup xs)→H' b=some (.tup xs)) (frzs:∀ b o u,H b=some (.frz o u)→H' b=some (.frz o u)) (tbls:∀ b ps,H b=some (.tbl ps)→∃ more,H' b=some (.tbl (ps++more)))
   (ns:∀ m,s.heap.Ns X.env.locals m→h'.Ns X.env.locals m) (hok:HOk X.prog X.w H' h') (hg:AllBare g'):
   Inv X pins σ H' { s with heap:=h',gens:=g',drawn:=d',toks:=t' }:=by
 have neL:∀ b o,X.s₀.heap.get? b=some o→b≠X.env.locals:=fun b o e=>Nat.ne_of_lt (Nat.lt_of_lt_of_le (Heap.lt_size e) I.ok.above)
 have neC:∀ b o,X.s₀.heap.get? b=some o→b∉X.ex→b∉ch:=fun b o e hx hb=>by
   rcases (hch b hb).1 with z | z
   · exact hx z
   · exact absurd (Nat.lt_of_lt_of_le (Heap.lt_size e) z) (Nat.lt_irrefl _)
 have cellK:∀ x c,X.env.cells.lookup x=some c→∀ v,s.heap.IsCell c v→h'.IsCell c v:=fun x c e v ⟨o,ho,hd⟩=>by
   have nch:c∉ch:=fun z=>(hch c z).2.2.1 x c e rfl
   by_cases hc:c∈X.fs
   · obtain ⟨sl,q⟩:=slot c o (I.cne x c e) hc nch ho (I.freeC x c e)
     exact ⟨_,q,hd⟩
   · exact ⟨o,keep c o (I.cne x c e) hc nch ho (I.freeC x c e),hd⟩
 refine ⟨I.ok,I.os,hg,⟨fun b o e n hb hx=>?_,fun b o e n hb hx=>?_,fun b o e n hx=>?_,fun b o e hx=>?_,fun b xs e=>tups b xs (I.base.tups b xs e),fun b o xs e=>frzs b o xs (I.base.frzs b o xs e),fun b ps e=>?_⟩,?_,fun x c e=>?_,?_,fun x c e=>?_,fun p hp=>?_,hok,I.len⟩
 · exact keep b o (neL b o e) hb (neC b o e hx) (I.base.keep b o e n hb hx) (I.base.free b o e n hx)
 · obtain ⟨sl,e1⟩:=I.base.slot b o e n hb hx
   obtain ⟨sl',e2⟩:=slot b _ (neL b o e) hb (neC b o e hx) e1 (I.base.free b o e n hx)
   exact ⟨sl',e2⟩
 · obtain ⟨o',e1⟩:=I.base.there b o e hx
   exact free b o' (neC b o e hx) e1 (I.base.free b o e n hx)
 · obtain ⟨o',e1⟩:=I.base.there b o e hx
   exact there b o' (neC b o e hx) e1
 · obtain ⟨m1,e1⟩:=I.base.tbls b ps e
   obtain ⟨m2,e2⟩:=tbls b _ e1
   exact ⟨m1++m2,by rw [e2,Array.append_assoc]⟩
 · obtain ⟨m,hn,hl⟩:=I.loc
   refine ⟨m,ns m hn,fun i x v e1 e2 e3=>?_⟩
   obtain ⟨u,r,l⟩:=hl i x v e1 e2 e3
   refine ⟨u,r,?_⟩
   rcases l with l | ⟨k,c,e,z⟩
   · exact .inl l
   · exact .inr ⟨k,c,e,cellK x c e _ z⟩
 · obtain ⟨v,z⟩:=I.cell x c e
   exact ⟨v,cellK x c e v z⟩
 · obtain ⟨m,⟨o,_,_,ho,_⟩,_⟩:=I.loc
   exact free _ o (fun z=>(hch _ z).2.1 rfl) ho I.free
 · obtain ⟨v,o,ho,hd⟩:=I.cell x c e
   exact free c o (fun z=>(hch c z).2.2.1 x c e rfl) ho (I.freeC x c e)
 · obtain ⟨e,n,ne,nf,d⟩:=I.pin p hp
   have nch:p.1∉ch:=fun z=>(hch p.1 z).2.2.2 p hp rfl
   exact ⟨keep p.1 p.2 ne nf nch e n,free p.1 p.2 nch e n,ne,nf,d⟩
theorem Inv.un {t':Nat} (I:Inv X pins σ H s) (u:Un X.fs [] H H' s.heap h') (hok:HOk X.prog X.w H' h'):Inv X pins σ H' { s with heap:=h',toks:=t' }:=by
 obtain ⟨m,⟨o,es,ep,ho,r⟩,_⟩:=id I.loc
 obtain ⟨sl,hL⟩:=u.any ho I.free (by simp)
 exact I.step (g':=s.gens) (d':=s.drawn) (ch:=[]) (fun _ z=>nomatch z) (fun b o _ hb _ e n=>u.keep b o e n hb (by simp)) (fun b o _ hb _ e n=>u.slot b o e n hb (by simp)) (fun b o _ e n=>u.free b o e n (by simp)) (fun b o _ e=>u.there b o e (by simp)) u.tups u.frzs u.tbls (fun m' hm=>by
  obtain ⟨o',es',ep',ho',r'⟩:=hm
  rw [ho] at ho';cases ho'
  exact ⟨_,es',ep',hL,r'⟩) hok I.bare
theorem Inv.call {g':Array GenState} {t':Nat} {d':Drawn} {ch:List Addr} (I:Inv X pins σ H s) (u:Un (frs X.stack) ch H H' s.heap h') (hok:HOk X.prog X.w H' h') (hg:AllBare g')
  (hch:∀ b∈ch,(b∈X.ex∨X.s₀.heap.objs.size≤b)∧b≠X.env.locals∧(∀ x c,X.env.cells.lookup x=some c→c≠b)∧∀ p∈X.pn++pins,p.1≠b):
  Inv X pins σ H' { s with heap:=h',gens:=g',drawn:=d',toks:=t' }:=by
 obtain ⟨m,⟨o,es,ep,ho,r⟩,_⟩:=id I.loc
 obtain ⟨sl,hL⟩:=u.any ho I.free fun z=>(hch _ z).2.1 rfl
 exact I.step (ch:=ch) hch (fun b o hL hb hc e n=>u.keep b o e n (fun z=>(List.mem_cons.mp (I.stkSub b z)).elim hL hb) hc) (fun b o _ _ hc e n=>u.any e n hc) (fun b o hc e n=>u.free b o e n hc) (fun b o hc e=>u.there b o e hc) u.tups u.frzs u.tbls (fun m' hm=>by
  obtain ⟨o',es',ep',ho',r'⟩:=hm
  rw [ho] at ho';cases ho'
  exact ⟨_,es',ep',hL,r'⟩) hok hg
theorem Inv.turned {t':Nat} {it:Addr} (I:Inv X pins σ H s) (k:∀ b o,b≠it→s.heap.get? b=some o→h'.get? b=some o) (hn:H it=none) (hL:it≠X.env.locals)
   (h1:it∈X.ex∨X.s₀.heap.objs.size≤it) (h2:∀ x c,X.env.cells.lookup x=some c→c≠it) (h3:∀ p∈X.pn++pins,p.1≠it):Inv X pins σ H { s with heap:=h',toks:=t' }:=by
 have nit:∀ b u,H b=some u→b≠it:=fun b u e z=>by rw [z,hn] at e;cases e
 refine I.step (g':=s.gens) (d':=s.drawn) (ch:=[it]) (fun b hb=>?_) (fun b o _ _ hc e _=>k b o (fun z=>hc (by simp [z])) e) (fun b o _ _ hc e _=>⟨o.slots,k b o (fun z=>hc (by simp [z])) e⟩) (fun _ _ _ _ n=>n)
   (fun b o hc e=>⟨o,k b o (fun z=>hc (by simp [z])) e⟩) (fun _ _ e=>e) (fun _ _ _ e=>e) (fun b ps e=>⟨#[],by rw [e];simp⟩) (fun m hm=>?_) (fun b u e=>?_) I.bare
 · have e:b=it:=by simpa using hb
   subst e
   exact ⟨h1,hL,h2,h3⟩
 · obtain ⟨o,es,ep,ho,r⟩:=hm
   exact ⟨o,es,ep,k _ o (Ne.symm hL) ho,r⟩
 · refine (I.hok b u e).stay (fun c v hc q=>k c v ?_ q) (fun _ q=>q) fun _ _ q=>q
   rcases hc with z | z
   · rw [z];exact nit b u e
   · exact nit c _ z
theorem Inv.tok (I:Inv X pins σ H s) (t:Nat):Inv X pins σ H { s with toks:=t }:=I.un (h':=s.heap) (t':=t) Un.refl I.hok
theorem Inv.kept {t':Nat} (I:Inv X pins σ H s) (k:∀ b u,s.heap.get? b=some u→h'.get? b=some u):Inv X pins σ H { s with heap:=h',toks:=t' }:=I.un (Un.kept k) (I.hok.kept k)
theorem Inv.laid {a:Addr} {o:HO} {t':Nat} (I:Inv X pins σ H s) (k:∀ b u,s.heap.get? b=some u→h'.get? b=some u) (hp:s.heap.objs.size≤a) (new:bh X.prog X.w (upd H a o) h' a o):
 Inv X pins σ (upd H a o) { s with heap:=h',toks:=t' }:=I.un (Un.laid k hp (I.hok.fresh hp)) (I.hok.laid k hp new)
theorem Inv.write {x e:Addr} {o:HO} {t':Nat} (I:Inv X pins σ H s) (mu:Mut (H x)) (he:e=x∨H e=some (.own x)) (k:∀ b u,b≠e→s.heap.get? b=some u→h'.get? b=some u) (heo:∃ u,h'.get? e=some u)
 (new:bh X.prog X.w (upd H x o) h' x o):Inv X pins σ (upd H x o) { s with heap:=h',toks:=t' }:=I.un (Un.write mu he k heo) (I.hok.write mu he k heo new)
theorem Inv.pins_of {pins':List (Addr×Obj)} (I:Inv X pins σ H s) (h:∀ p∈pins',s.heap.get? p.1=some p.2∧H p.1=none∧p.1≠X.env.locals∧p.1∉X.fs∧∀ v,p.2.data≠ .cell v):Inv X pins' σ H s:=
 ⟨I.ok,I.os,I.bare,I.base,I.loc,I.cell,I.free,I.freeC,fun p hp=>(List.mem_append.mp hp).elim (fun z=>I.pin p (List.mem_append_left _ z)) (h p),I.hok,I.len⟩
theorem pU {N:List Str} (hN:N.Nodup) {i j:Nat} {x:Str} (a:N[i]?=some x) (b:N[j]?=some x):i=j:=by
 obtain ⟨h1,e1⟩:=List.getElem?_eq_some_iff.mp a
 obtain ⟨h2,e2⟩:=List.getElem?_eq_some_iff.mp b
 exact (List.getElem_inj hN).mp (e1.trans e2.symm)
theorem nv {M:Model} {A:Around} {E:Value→Shared→Prop} {i:Nat} {x:Str} {v:V} {u:Value} {Q:Unit→Shared→Prop} (I:Inv X pins σ H s) (hN:X.N.Nodup) (hi:X.N[i]?=some x) (hx:Loc X.env.scope x) (r:aR v u)
   (h:∀ s',Inv X pins (σ.set i (some v)) H s'→(∃ a,Heap.SameBut a s.heap s'.heap∧(a=X.env.locals∨X.env.cells.lookup x=some a))→Q () s') (hf:X.fn x=true∨X.env.scope.names.lookup x=some .local:=by first | exact .inl rfl | exact .inr rfl | assumption):wpAny M A (storeName X.env x u) Q E s:=by
 obtain ⟨m,hn,hl⟩:=id I.loc
 have hcls:(X.env.scope.kind==.class||(X.env.scope.kind==.module&&X.env.locals !=X.env.globals))=false:=by rw [I.ok.kind];rfl
 have hiσ:i<σ.length:=by rw [I.len];exact (List.getElem?_eq_some_iff.mp hi).1
 have cne:=I.cne
 have tracked:∀ {a:Addr} {h':Heap},(∃ o,s.heap.get? a=some o∧H a=none)→Heap.SameBut a s.heap h'→HOk X.prog X.w H h':=fun {a h'} ha hs b ob e=>by
   obtain ⟨_,_,hfree⟩:=ha
   refine (I.hok b ob e).stay (fun c w' hc q=>(hs.2 c ?_).trans q) (fun _ q=>q) fun _ _ q=>q
   rintro rfl
   rcases hc with rfl | hc
   · rw [hfree] at e;cases e
   · rw [hfree] at hc;cases hc
 rcases hx with hk | hk
 · refine wpAny_storeName_local hk hn (fun h' hn' hs=>?_) hcls
   obtain ⟨oL,_,_,hoL,_⟩:=id hn
   refine h _ ⟨I.ok,I.os,I.bare,⟨fun b o e n hb hx=>?_,fun b o e n hb hx=>?_,I.base.free,fun b o e hx=>?_,I.base.tups,I.base.frzs,I.base.tbls⟩,⟨_,hn',fun j y v' e1 e2 e3=>?_⟩,fun y c e=>?_,I.free,I.freeC,fun p hp=>?_,tracked ⟨oL,hoL,I.free⟩ hs,by simpa using I.len⟩ ⟨_,hs,.inl rfl⟩
   · exact (hs.2 b (Nat.ne_of_lt (Nat.lt_of_lt_of_le (Heap.lt_size e) I.ok.above))).trans (I.base.keep b o e n hb hx)
   · obtain ⟨sl,e1⟩:=I.base.slot b o e n hb hx
     exact ⟨sl,(hs.2 b (Nat.ne_of_lt (Nat.lt_of_lt_of_le (Heap.lt_size e) I.ok.above))).trans e1⟩
   · obtain ⟨o',e1⟩:=I.base.there b o e hx
     exact ⟨o',(hs.2 b (Nat.ne_of_lt (Nat.lt_of_lt_of_le (Heap.lt_size e) I.ok.above))).trans e1⟩
   · by_cases hj:j=i
     · subst hj
       rw [hi] at e1;cases e1
       rw [List.getElem?_set_self hiσ] at e2
       cases e2
       exact ⟨u,r,.inl ⟨hk,by simp⟩⟩
     · rw [List.getElem?_set_ne (Ne.symm hj)] at e2
       obtain ⟨u',r',q⟩:=hl j y v' e1 e2 e3
       refine ⟨u',r',?_⟩
       rcases q with ⟨k,e⟩ | ⟨k,c,e,z⟩
       · refine .inl ⟨k,?_⟩
         have:y≠x:=fun e=>hj (pU hN e1 (e▸hi))
         simp [this,e]
       · exact .inr ⟨k,c,e,z.sameBut hs (cne y c e)⟩
   · obtain ⟨w',z⟩:=I.cell y c e
     exact ⟨w',z.sameBut hs (cne y c e)⟩
   · obtain ⟨e,n,ne,nf,d⟩:=I.pin p hp
     exact ⟨(hs.2 p.1 ne).trans e,n,ne,nf,d⟩
 · have hfn:X.fn x=true:=by
     rcases hf with z | z
     · exact z
     · rw [z] at hk;cases hk
   obtain ⟨c,hc⟩:=I.ok.has x (.inl hk)
   obtain ⟨w',z⟩:=I.cell x c hc
   refine wpAny_storeName_cell I.ok.kind hk hc z (fun h' hc' hs=>?_)
   obtain ⟨oc,hoc,hocd⟩:=id z
   refine h { s with heap:=h' } ⟨I.ok,I.os,I.bare,⟨fun b o e n hb hx=>?_,fun b o e n hb hx=>?_,I.base.free,fun b o e hx=>?_,I.base.tups,I.base.frzs,I.base.tbls⟩,⟨m,hn.sameBut hs (Ne.symm (cne x c hc)),fun j y v' e1 e2 e3=>?_⟩,fun y c' e=>?_,I.free,I.freeC,fun p hp=>?_,tracked ⟨oc,hoc,I.freeC x c hc⟩ hs,by simpa using I.len⟩ ⟨c,hs,.inr hc⟩
   · exact (hs.2 b (Nat.ne_of_lt (Nat.lt_of_lt_of_le (Heap.lt_size e) (I.ok.cab x c hfn hc)))).trans (I.base.keep b o e n hb hx)
   · obtain ⟨sl,e1⟩:=I.base.slot b o e n hb hx
     exact ⟨sl,(hs.2 b (Nat.ne_of_lt (Nat.lt_of_lt_of_le (Heap.lt_size e) (I.ok.cab x c hfn hc)))).trans e1⟩
   · obtain ⟨o',e1⟩:=I.base.there b o e hx
     exact ⟨o',(hs.2 b (Nat.ne_of_lt (Nat.lt_of_lt_of_le (Heap.lt_size e) (I.ok.cab x c hfn hc)))).trans e1⟩
   · by_cases hj:j=i
     · subst hj
       rw [hi] at e1;cases e1
       rw [List.getElem?_set_self hiσ] at e2
       cases e2
       exact ⟨u,r,.inr ⟨.inl hk,c,hc,hc'⟩⟩
     · rw [List.getElem?_set_ne (Ne.symm hj)] at e2
       obtain ⟨u',r',q⟩:=hl j y v' e1 e2 e3
       refine ⟨u',r',?_⟩
       rcases q with q | ⟨k,c',e,z'⟩
       · exact .inl q
       · refine .inr ⟨k,c',e,z'.sameBut hs ?_⟩
         rintro rfl
         exact hj (pU hN e1 (I.ok.inj _ _ _ e hc▸hi))
   · by_cases hcc:c'=c
     · subst hcc;exact ⟨_,hc'⟩
     · obtain ⟨w2,z2⟩:=I.cell y c' e
       exact ⟨w2,z2.sameBut hs hcc⟩
   · obtain ⟨e,n,ne,nf,d⟩:=I.pin p hp
     refine ⟨(hs.2 p.1 ?_).trans e,n,ne,nf,d⟩
     intro q
     rw [q,hoc] at e
     have q':oc=p.2:=Option.some.inj e
     exact d w' (by rw [← q'];exact hocd)
theorem gH {M:Model} {A:Around} {E:Value→Shared→Prop} {i:Nat} {x:Str} {v:V} {u:Value} {Q:Unit→Shared→Prop} (I:Inv X pins σ H s) (hN:X.N.Nodup) (hi:X.N[i]?=some x) (hx:Loc X.env.scope x) (r:aR v u)
  (h:∀ s',Inv X pins (σ.set i (some v)) H s'→Q () s') (hf:X.fn x=true∨X.env.scope.names.lookup x=some .local:=by first | exact .inl rfl | exact .inr rfl | assumption):wpAny M A (storeName X.env x u) Q E s:=
 nv I hN hi hx r (fun s' I' _=>h s' I') hf
theorem Inv.call' {s':Shared} {ch:List Addr} (I:Inv X pins σ H s) (ho:s'.os=s.os) (u:Un (frs X.stack) ch H H' s.heap s'.heap) (hok:HOk X.prog X.w H' s'.heap) (hg:AllBare s'.gens)
  (hch:∀ b∈ch,(b∈X.ex∨X.s₀.heap.objs.size≤b)∧b≠X.env.locals∧(∀ x c,X.env.cells.lookup x=some c→c≠b)∧∀ p∈X.pn++pins,p.1≠b):Inv X pins σ H' s':=by
 obtain ⟨h',g',d',t',o'⟩:=s'
 have e:o'=s.os:=ho
 subst e
 exact I.call (g':=g') (t':=t') (d':=d') u hok hg hch
end
abbrev XK:=Value→Option Addr→Hp→Prop
abbrev St:=List (Option V)
abbrev VK:=V→Hp→Prop
abbrev TE:=St→Hp→VK→Prop
abbrev TT:=St→Hp→(Bool→Hp→Prop)→Prop
abbrev TA:=St→Hp→(List V→Hp→Prop)→Prop
structure fN where
 nx:St→Hp→Prop
 rt:VK
 bk:St→Hp→Prop:=fun _ _=>False
 ct:St→Hp→Prop:=fun _ _=>False
abbrev TS:=fN→St→Hp→Prop
def EP (X:Cx) (pins:List (Addr×Obj)) (σ:St) (Q:VK) (u:Value) (s':Shared):Prop:=∃ v H',Inv X pins σ H' s'∧aR v u∧Q v H'
def TP (X:Cx) (pins:List (Addr×Obj)) (σ:St) (Q:Bool→Hp→Prop) (b:Bool) (s':Shared):Prop:=∃ H',Inv X pins σ H' s'∧Q b H'
def AP (X:Cx) (pins:List (Addr×Obj)) (σ:St) (Q:List V→Hp→Prop) (us:List Value) (s':Shared):Prop:=∃ vs H',Inv X pins σ H' s'∧aX vs us∧Q vs H'
def SP (X:Cx) (pins:List (Addr×Obj)) (D:fN) (f:Flow) (s':Shared):Prop:=
 match f with
 | .next=>∃ σ' H',Inv X pins σ' H' s'∧D.nx σ' H'
 | .brk=>∃ σ' H',Inv X pins σ' H' s'∧D.bk σ' H'
 | .cont=>∃ σ' H',Inv X pins σ' H' s'∧D.ct σ' H'
 | .ret u=>∃ v σ' H',Inv X pins σ' H' s'∧aR v u∧D.rt v H'
def PE (X:Cx) (e:Expr) (t:TE):Prop:=
 ∀ (pins:List (Addr×Obj)) (s:Shared) (σ:St) (H:Hp) (Q:VK),Inv X pins σ H s→t σ H Q→wpAny (model X.prog X.w) X.A (eval e X.env) (EP X pins σ Q) X.xe s
def PT (X:Cx) (e:Expr) (t:TT):Prop:=
 ∀ (pins:List (Addr×Obj)) (s:Shared) (σ:St) (H:Hp) (Q:Bool→Hp→Prop),Inv X pins σ H s→t σ H Q→wpAny (model X.prog X.w) X.A (isTrue e X.env (eval e X.env)) (TP X pins σ Q) X.xe s
def PW (X:Cx) (e:Expr) (t:TT):Prop:=
 ∀ (whole:Sem Value) (pins:List (Addr×Obj)) (s:Shared) (σ:St) (H:Hp) (Q:Bool→Hp→Prop),Inv X pins σ H s→t σ H Q→wpAny (model X.prog X.w) X.A (isTrue e X.env whole) (TP X pins σ Q) X.xe s
theorem PW.pt {X:Cx} {e:Expr} {t:TT} (h:PW X e t):PT X e t:=h _
def PA (X:Cx) (es:List Expr) (t:TA):Prop:=
 ∀ (pos:Pos) (pins:List (Addr×Obj)) (s:Shared) (σ:St) (H:Hp) (Q:List V→Hp→Prop),Inv X pins σ H s→t σ H Q→wpAny (model X.prog X.w) X.A (spliced (backTo pos (starEach es X.env))) (AP X pins σ Q) X.xe s
def PS (X:Cx) (st:Stmt) (t:TS):Prop:=
 ∀ (pins:List (Addr×Obj)) (s:Shared) (σ:St) (H:Hp) (D:fN),Inv X pins σ H s→t D σ H→wpAny (model X.prog X.w) X.A (exec st X.env) (SP X pins D) X.xe s
def PSs (X:Cx) (st:List Stmt) (t:TS):Prop:=
 ∀ (pins:List (Addr×Obj)) (s:Shared) (σ:St) (H:Hp) (D:fN),Inv X pins σ H s→t D σ H→wpAny (model X.prog X.w) X.A (execs st X.env) (SP X pins D) X.xe s
theorem thn {α:Type} {t:Sem α} {Q Q':α→Shared→Prop} {M:Model} {A:Around} {E:Value→Shared→Prop} {s:Shared} (h:wpAny M A t Q E s) (hQ:∀ a s,Q a s→Q' a s):wpAny M A t Q' E s:=wpAny_mono h hQ fun _ _ x=>x
section
variable {X:Cx}
def Jo (i:Nat):TE:=fun σ H Q=>∃ v,σ[i]?=some (some v)∧Q v H
def tC (v:V):TE:=fun _ H Q=>Q v H
theorem Cd {i:Nat} {x:Str} {pos:Pos} (hN:X.N[i]?=some x) (hv:Vis X.env.scope x) (hd:(x==("__debug__" :Str))=false:=by decide) (hcd:(x==("__classdict__" :Str))=false:=by decide):PE X (.Name x pos) (Jo i):=by
 intro pins s σ H Q I h
 obtain ⟨v,e,h⟩:=h
 obtain ⟨m,hn,hl⟩:=I.loc
 obtain ⟨u,r,l⟩:=hl i x v hN e hv
 have fin:EP X pins σ Q u s:=⟨v,H,I,r,h⟩
 rcases l with ⟨hk,hm⟩ | ⟨hk,c,hc,hcell⟩
 · exact wpAny_Name (wpAny_loadName_local I.ok.kind hk hn hm fin) hd
 · rcases hk with hk | hk
   · exact wpAny_Name (wpAny_loadName_cell I.ok.kind hk hc hcell fin) hd
   · exact wpAny_Name (wpAny_loadName_free I.ok.kind hk hc hcell fin hcd) hd
theorem Bp {i j pos}:PE X (.Constant (.int i) j pos) (tC (.int i)):=fun _ _ _ H _ I h=>wpAny_Constant_int ⟨.int i,H,I.tok _,⟨_,rfl⟩,h⟩
theorem Fp {b j pos}:PE X (.Constant (.bool b) j pos) (tC (.bl b)):=fun _ _ _ H _ I h=>Constant_bool ⟨.bl b,H,I,rfl,h⟩
theorem DC {j pos}:PE X (.Constant .none j pos) (tC .non):=fun _ _ _ H _ I h=>Constant_none ⟨.non,H,I,rfl,h⟩
theorem BF {x j pos}:PE X (.Constant (.str x) j pos) (tC (.str x)):=fun _ _ _ H _ I h=>Calls.Constant_str ⟨.str x,H,I.tok _,⟨_,rfl⟩,h⟩
def Gl (X:Cx) (x:Str):Prop:=X.env.kindOf x=some .globalImplicit
theorem gW {E:Value→Shared→Prop} {pins:List (Addr×Obj)} {s:Shared} {σ:St} {H:Hp} {x:Str} {u:Value} {pos:Pos} {Q:Value→Shared→Prop} (I:Inv X pins σ H s) (hg:Gl X x) (hm:X.mg x=some u) (h:Q u s)
  (hd:(x==("__debug__" :Str))=false:=by decide):wpAny (model X.prog X.w) X.A (eval (.Name x pos) X.env) Q E s:=
 Calls.Name_function_global I.ok.kind hg (Calls.loadGlobal_global (by rw [I.ok.glob];exact I.mod.glob.keeps I.bk) hm h) hd
theorem jy {E:Value→Shared→Prop} {pins:List (Addr×Obj)} {s:Shared} {σ:St} {H:Hp} {x:Str} {u:Value} {pos:Pos} {Q:Value→Shared→Prop} (I:Inv X pins σ H s) (hg:Gl X x) (hm:X.mg x=none) (hv:bootBuiltins x=some u) (h:Q u s)
  (hn:x≠ "__name__" :=by decide) (hd:(x==("__debug__" :Str))=false:=by decide):wpAny (model X.prog X.w) X.A (eval (.Name x pos) X.env) Q E s:=by
 obtain ⟨mb,h1,h2⟩:=I.mod.blt
 exact Calls.Name_function_global I.ok.kind hg (Calls.loadGlobal_builtin (by rw [I.ok.glob];exact I.mod.glob.keeps I.bk) hm (by rw [I.ok.blt];exact h1.keeps I.bk) ((h2 x hn).trans hv) h) hd
theorem mw {x:Str} {v:V} {u:Value} {pos:Pos} (hg:Gl X x) (hm:X.mg x=some u) (r:aR v u) (hd:(x==("__debug__" :Str))=false:=by decide):PE X (.Name x pos) (tC v):=
 fun _ _ _ H _ I h=>gW I hg hm ⟨v,H,I,r,h⟩ hd
theorem zT {x:Str} {v:V} {u:Value} {pos:Pos} (hg:Gl X x) (hm:X.mg x=none) (hv:bootBuiltins x=some u) (r:aR v u) (hn:x≠ "__name__" :=by decide) (hd:(x==("__debug__" :Str))=false:=by decide):PE X (.Name x pos) (tC v):=
 fun _ _ _ H _ I h=>jy I hg hm hv ⟨v,H,I,r,h⟩ hn hd
variable {a b:Expr} {ta tb:TE} {pos:Pos}
variable {tA tB':TT} {bL:List Expr}
def bS (t:TT):TT:=fun σ H Q=>t σ H fun c H1=>Q (!c) H1
theorem zY (ha:PT X a tA):PW X (.BoolOp .And [a] pos) tA:=by
 intro wh pins s σ H Q I h
 refine isTrue_and (thn (ha pins s σ H Q I h) fun c s1 e=>?_)
 cases c with
 | true=>exact isTrue_and_nil e
 | false=>exact e
theorem DE (ha:PT X a tA):PW X (.BoolOp .Or [a] pos) tA:=by
 intro wh pins s σ H Q I h
 refine isTrue_or (thn (ha pins s σ H Q I h) fun c s1 e=>?_)
 cases c with
 | false=>exact isTrue_or_nil e
 | true=>exact e
theorem ED (ha:PT X a tA):PT X (.UnaryOp .Not a pos) (bS tA):=by
 intro pins s σ H Q I h
 exact isTrue_not (ha pins s σ H (fun c H1=>Q (!c) H1) I h)
theorem DQ {op} {t:TE} (h:PE X a t):PE X (.BoolOp op [a] pos) t:=fun pins s σ H Q I hw=>BoolOp_one (h pins s σ H Q I hw)
end
def SqL (K:W.Frag) (H:Hp) (a:Addr) (xs:List V):Prop:=
 Rd H a (.lst xs)∨
  ∃ (o:Obj) (its:Array Value) (n:Nat),K.lookup a=some o∧o.cls=.type "list" ∧o.dict=none∧o.data=.seq its n∧its.size≤sizeLine∧aX xs its.toList
def SqT (K:W.Frag) (H:Hp) (a:Addr) (xs:List V):Prop:=
 Rd H a (.tup xs)∨
  ∃ (o:Obj) (its:Array Value) (n:Nat),K.lookup a=some o∧o.cls=.type "tuple" ∧o.data=.seq its n∧its.size≤sizeLine∧aX xs its.toList
def JC:Value→Option V
 | .none=>some .non
 | .bool b=>some (.bl b)
 | .int i _=>some (.int i)
 | .str x _=>some (.str x)
 | .bytes b _=>some (.byt b)
 | .float b _=>some (.flt b)
 | .ref a=>some (.ref a)
 | .type n=>some (.ty n)
 | _=>none
theorem aR.abs {x:V} {u:Value} (r:aR x u):JC u=some x:=by
 cases x with
 | non=>cases r;rfl
 | bl _=>cases r;rfl
 | int _=>obtain ⟨t,rfl⟩:=r;rfl
 | str _=>obtain ⟨t,rfl⟩:=r;rfl
 | byt _=>obtain ⟨t,rfl⟩:=r;rfl
 | flt _=>obtain ⟨t,rfl⟩:=r;rfl
 | ref _=>cases r;rfl
 | ty _=>cases r;rfl
theorem aR.inj {x y:V} {u:Value} (r:aR x u) (q:aR y u):x=y:=Option.some.inj (r.abs.symm.trans q.abs)
theorem aX.inj:∀ {xs ys:List V} {us:List Value},aX xs us→aX ys us→xs=ys
 | _,_,_,.nil,.nil=>rfl
 | _,_,_,.cons r t,.cons r' t'=>by rw [r.inj r',aX.inj t t']
section
variable {X:Cx} {pins:List (Addr×Obj)} {σ:St} {H:Hp} {s:Shared} {a:Addr} {xs ys:List V}
theorem SqL.of {K:W.Frag} (h:H a=some (.lst xs)):SqL K H a xs:=.inl (.inl h)
theorem SqT.of {K:W.Frag} (h:H a=some (.tup xs)):SqT K H a xs:=.inl (.inl h)
theorem Inv.list (I:Inv X pins σ H s) (h:SqL X.K H a xs):∃ its:List Value,aX xs its∧PlainL s.heap a its.toArray∧xs.length≤sizeLine:=by
 rcases h with h | ⟨o,its,n,hk,hc,hd,hs,hz,r⟩
 · obtain ⟨z,its,n,r,e⟩:=h.ok I.hok
   exact ⟨its,r,⟨_,n,e,rfl,rfl,rfl⟩,z⟩
 · refine ⟨its.toList,r,⟨o,n,I.kIn a o hk,hc,hd,by simpa using hs⟩,?_⟩
   have e:=r.length
   simp only [Array.length_toList] at e
   omega
theorem Inv.tuple (I:Inv X pins σ H s) (h:SqT X.K H a xs):∃ its:List Value,aX xs its∧IsTup s.heap a its.toArray∧xs.length≤sizeLine:=by
 rcases h with h | ⟨o,its,n,hk,hc,hs,hz,r⟩
 · obtain ⟨z,its,r,p⟩:=h.ok I.hok
   exact ⟨its,r,p,z⟩
 · refine ⟨its.toList,r,⟨o,I.kIn a o hk,hc,n,by simpa using hs⟩,?_⟩
   have e:=r.length
   simp only [Array.length_toList] at e
   omega
theorem Inv.list_inj (I:Inv X pins σ H s) (h:SqL X.K H a xs) (h':SqL X.K H a ys):xs=ys:=by
 obtain ⟨its,r,⟨o,n,e,_,_,d⟩,_⟩:=I.list h
 obtain ⟨its',r',⟨o',n',e',_,_,d'⟩,_⟩:=I.list h'
 rw [e] at e';cases e'
 rw [d] at d'
 injection d' with d1 _
 have:its=its':=by simpa using congrArg Array.toList d1
 subst this
 exact r.inj r'
theorem Inv.tuple_inj (I:Inv X pins σ H s) (h:SqT X.K H a xs) (h':SqT X.K H a ys):xs=ys:=by
 obtain ⟨its,r,⟨o,e,_,n,d⟩,_⟩:=I.tuple h
 obtain ⟨its',r',⟨o',e',_,n',d'⟩,_⟩:=I.tuple h'
 rw [e] at e';cases e'
 rw [d] at d'
 injection d' with d1 _
 have:its=its':=by simpa using congrArg Array.toList d1
 subst this
 exact r.inj r'
end
abbrev Cx.wish (X:Cx) (E:Value→Shared→Prop):Cx:={ X with xe:=E }
abbrev Cx.nox (X:Cx):Cx:=X.wish fun _ _=>False
theorem Cx.Ok.wish {X:Cx} (ok:X.Ok) (E:Value→Shared→Prop):(X.wish E).Ok:=
 ⟨ok.mod,ok.kind,ok.glob,ok.blt,ok.above,ok.inj,ok.has,ok.cab,ok.hd,ok.frames,ok.stk,ok.exf,ok.bs,ok.bsz,ok.noex,ok.exfs,ok.funs,ok.frf⟩
theorem Cx.Ok.unwish {X:Cx} {E:Value→Shared→Prop} (ok:(X.wish E).Ok):X.Ok:=
 ⟨ok.mod,ok.kind,ok.glob,ok.blt,ok.above,ok.inj,ok.has,ok.cab,ok.hd,ok.frames,ok.stk,ok.exf,ok.bs,ok.bsz,ok.noex,ok.exfs,ok.funs,ok.frf⟩
section
variable {X:Cx} {pins:List (Addr×Obj)} {σ:St} {H:Hp} {s:Shared} {E:Value→Shared→Prop}
theorem Inv.wish (I:Inv X pins σ H s) (E:Value→Shared→Prop):Inv (X.wish E) pins σ H s:=⟨I.ok.wish E,I.os,I.bare,I.base,I.loc,I.cell,I.free,I.freeC,I.pin,I.hok,I.len⟩
theorem Inv.unwish (I:Inv (X.wish E) pins σ H s):Inv X pins σ H s:=⟨I.ok.unwish,I.os,I.bare,I.base,I.loc,I.cell,I.free,I.freeC,I.pin,I.hok,I.len⟩
theorem SP.unwish {D:fN} {f:Flow} {s':Shared} (h:SP (X.wish E) pins D f s'):SP X pins D f s':=by
 cases f with
 | next=>obtain ⟨σ',H',I,q⟩:=h;exact ⟨σ',H',I.unwish,q⟩
 | brk=>obtain ⟨σ',H',I,q⟩:=h;exact ⟨σ',H',I.unwish,q⟩
 | cont=>obtain ⟨σ',H',I,q⟩:=h;exact ⟨σ',H',I.unwish,q⟩
 | ret u=>obtain ⟨v,σ',H',I,r,q⟩:=h;exact ⟨v,σ',H',I.unwish,r,q⟩
theorem PE.nox {e:Expr} {t:TE} (h:PE X.nox e t):PE X e t:=fun pins s σ H Q I hw=>
 wpAny_mono (h pins s σ H Q (I.wish _) hw) (fun _ _ ⟨v,H',I',r,q⟩=>⟨v,H',I'.unwish,r,q⟩) fun _ _ z=>False.elim z
theorem PSs.nox {st:List Stmt} {t:TS} (h:PSs X.nox st t):PSs X st t:=fun pins s σ H D I hw=>
 wpAny_mono (h pins s σ H D (I.wish _) hw) (fun _ _ q=>q.unwish) fun _ _ z=>False.elim z
end
section
variable {X:Cx} {st:Stmt} {bL:List Stmt} {t u:TS} {e:Expr} {te:TE} {pos:Pos}
def aJ:TS:=fun D σ H=>D.nx σ H
def av (t u:TS):TS:=fun D σ H=>t { D with nx:=u D } σ H
theorem zQ:PSs X [] aJ:=fun _ _ σ H _ I h=>wpAny_execs_nil ⟨σ,H,I,h⟩
theorem wF (h1 : PS X st t) (h2 : PSs X bL u) : PSs X (st :: bL) (av t u) := by
  intro pins s σ H D I h
  refine wpAny_execs_cons (thn (h1 pins s σ H { D with nx := u D } I h) fun f s1 q => ?_)
  cases f with
  | next =>
    obtain ⟨σ', H', I', q⟩ := q
    exact h2 pins s1 σ' H' D I' q
  | ret v => exact q
  | brk => exact q
  | cont => exact q
theorem AT (h1:PS X st t):PSs X [st] t:=by
 intro pins s σ H D I h
 refine wpAny_execs_cons (thn (h1 pins s σ H D I h) fun f s1 q=>?_)
 cases f with
 | next=>exact wpAny_execs_nil q
 | ret v=>exact q
 | brk=>exact q
 | cont=>exact q
theorem Inv.quiet {pins:List (Addr×Obj)} {σ:St} {H:Hp} {s:Shared} (I:Inv X pins σ H s):interactive X.env=false:=by simp [interactive,I.ok.kind]
def dt (te:TE):TS:=fun D σ H=>te σ H fun _ H1=>D.nx σ H1
theorem AS (he:PE X e te) (hs:swapsWith e none pos.line X.env=pure false:=by rfl):PS X (.Expr e pos) (dt te):=by
 intro pins s σ H D I h
 exact wpAny_Expr_any (thn (he pins s σ H _ I h) fun v s1 ⟨x,H1,I1,r1,q1⟩=>⟨σ,H1,I1,q1⟩) I.quiet hs
def aB (te:TE):TS:=fun D σ H=>te σ H D.rt
theorem BN (he:PE X e te):PS X (.Return (some e) pos) (aB te):=by
 intro pins s σ H D I h
 exact wpAny_Return_some (thn (he pins s σ H _ I h) fun v s1 ⟨x,H1,I1,r1,q1⟩=>⟨x,σ,H1,I1,r1,q1⟩)
def dJ:TS:=fun _ _ _=>False
theorem yf:PS X st dJ:=fun _ _ _ _ _ _ h=>h.elim
end
abbrev TG:=V→St→Hp→(St→Hp→Prop)→Prop
abbrev TGs:=List V→St→Hp→(St→Hp→Prop)→Prop
def PG (X:Cx) (target:Expr) (t:TG):Prop:=
 ∀ (pins:List (Addr×Obj)) (s:Shared) (σ:St) (H:Hp) (v:V) (u:Value) (Q:St→Hp→Prop),Inv X pins σ H s→aR v u→t v σ H Q→
  wpAny (model X.prog X.w) X.A (assign target X.env u) (fun _ s'=>∃ σ' H',Inv X pins σ' H' s'∧Q σ' H') X.xe s
def PGs (X:Cx) (ts:List Expr) (t:TGs):Prop:=
 ∀ (pins:List (Addr×Obj)) (s:Shared) (σ:St) (H:Hp) (vs:List V) (us:List Value) (Q:St→Hp→Prop),Inv X pins σ H s→aX vs us→t vs σ H Q→
  wpAny (model X.prog X.w) X.A (assignInOrder ((assignEach ts X.env).map (·.2)) us) (fun _ s'=>∃ σ' H',Inv X pins σ' H' s'∧Q σ' H') X.xe s
abbrev xE:=V→V→V→Hp→(Hp→Prop)→Prop
def sk (X:Cx) (t:xE):Prop:=
 ∀ (pins:List (Addr×Obj)) (s:Shared) (σ:St) (H:Hp) (o i v:V) (ov iv u:Value) (Q:Hp→Prop),Inv X pins σ H s→aR o ov→aR i iv→aR v u→t o i v H Q→
  wpAny (model X.prog X.w) X.A (setItem ov iv u) (fun _ s'=>∃ H',Inv X pins σ H' s'∧Q H') X.xe s
section
variable {X:Cx} {pos:Pos}
def aA (i:Nat):TG:=fun v σ H Q=>Q (σ.set i (some v)) H
theorem ik {i:Nat} {x:Str} (hN:X.N.Nodup) (hi:X.N[i]?=some x) (hx:Loc X.env.scope x) (hf:X.fn x=true∨X.env.scope.names.lookup x=some .local:=by first | exact .inl rfl | exact .inr rfl | assumption):PG X (.Name x pos) (aA i):=by
 intro pins s σ H v u Q I r h
 exact wpAny_assign_Name (gH I hN hi hx r (fun s' I'=>⟨_,H,I',h⟩) hf)
def pF:TGs:=fun vs σ H Q=>vs=[]∧Q σ H
def fX (t:TG) (u:TGs):TGs:=fun vs σ H Q=>∃ v r,vs=v::r∧t v σ H fun σ' H'=>u r σ' H' Q
theorem rz:PGs X [] pF:=by
 intro pins s σ H vs us Q I r h
 obtain ⟨e,h⟩:=h
 subst e
 cases r
 exact assignInOrder_nil ⟨σ,H,I,h⟩
theorem iW {e : Expr} {es : List Expr} {t : TG} {u : TGs} (h1 : PG X e t) (h2 : PGs X es u)
    (hs : (assignEach (e :: es) X.env).map (·.2) = assign e X.env :: (assignEach es X.env).map (·.2) := by rfl) : PGs X (e :: es) (fX t u) := by
  intro pins s σ H vs us Q I r h
  obtain ⟨v, vr, e1, h⟩ := h
  subst e1
  cases r with
  | cons r rr =>
    rw [hs]
    refine assignInOrder_cons (thn (h1 pins s σ H _ _ _ I r h) fun _ s1 ⟨σ1, H1, I1, q1⟩ => ?_)
    exact h2 pins s1 σ1 H1 _ _ Q I1 rr q1
def pZ (K:W.Frag) (n:Nat) (t:TGs):TG:=fun v σ H Q=>∃ a xs,v=.ref a∧SqT K H a xs∧xs.length=n∧t xs σ H Q
theorem tK {es:List Expr} {k:Nat} {t:TGs} {n:Nat} (hc:X.calm=true) (h:PGs X es t)
  (hn:(assignEach es X.env).length=n:=by rfl) (hst:(assignEach es X.env).findIdx? (·.1)=none:=by rfl):PG X (.Tuple es k pos) (pZ X.K n t):=by
 intro pins s σ H v u Q I r hw
 obtain ⟨a,xs,e1,hq,hl,hw⟩:=hw
 subst e1
 cases r
 obtain ⟨its,rv,ht,hz⟩:=I.tuple hq
 refine assign_Tuple_tuple (I.ok.hd hc) ht (by simp [hn,←hl,rv.length]) hst fun h' hx=>?_
 have I1:Inv X pins σ H { s with heap:=h' }:=I.kept (t':=s.toks) fun b o e=>hx b o (Nat.ne_of_lt (Heap.lt_size e)) e
 exact h pins _ σ H xs _ Q I1 (by simpa using rv) hw
def sD (to ti:TE) (t:xE):TG:=fun v σ H Q=>to σ H fun o H1=>ti σ H1 fun i H2=>t o i v H2 fun H3=>Q σ H3
theorem Dv {o i : Expr} {to ti : TE} {t : xE} (ho : PE X o to) (hi : PE X i ti) (hs : sk X t)
  (ha : ∀ v, assign (.Subscript o i pos) X.env v = (do
   let ov ← holding [v] (eval o X.env)
   let iv ← holding [v, ov] (eval i X.env)
   standAt pos
   holding [v, ov, iv] (setItem ov iv v)
   release [v, ov, iv] []) := by intro _; rfl) : PG X (.Subscript o i pos) (sD to ti t) := by
 intro pins s σ H v u Q I r h
 rw [ha]
 refine wpAny_bind (wpAny_holding (thn (ho pins s σ H _ I h) fun ov s1 ⟨x, H1, I1, r1, q1⟩ => ?_))
 refine wpAny_bind (wpAny_holding (thn (hi pins s1 σ H1 _ I1 q1) fun iv s2 ⟨y, H2, I2, r2, q2⟩ => ?_))
 refine wpAny_bind (wpAny_standAt (wpAny_bind (wpAny_holding (thn (hs pins s2 σ H2 x y v ov iv u _ I2 r1 r2 r q2) fun _ s3 ⟨H3, I3, q3⟩ => ?_))))
 exact wpAny_release ⟨σ, H3, I3, q3⟩
def aM (te:TE) (g:TG):TS:=fun D σ H=>te σ H fun x H1=>g x σ H1 D.nx
theorem vd {tg e:Expr} {te:TE} {g:TG} (he:PE X e te) (hg:PG X tg g) (hs:swapsWithSole [tg] e pos.line X.env=pure false:=by rfl) (hw:swappedStores [tg] e X.env=pure none:=by rfl)
  (h1:(assignEach [tg] X.env).map (·.2)=[assign tg X.env]:=by rfl):PS X (.Assign [tg] e pos) (aM te g):=by
 intro pins s σ H D I h
 refine wpAny_Assign_stores (thn (he pins s σ H _ I h) fun v s1 ⟨x,H1,I1,r1,q1⟩=>?_) hs hw
 rw [h1]
 exact thn (hg pins s1 σ H1 x v _ I1 r1 q1) fun _ s2 q=>q
theorem CD {i:Nat} {x:Str} {e:Expr} {te:TE} {pos':Pos} (hN:X.N.Nodup) (hi:X.N[i]?=some x) (hx:Loc X.env.scope x) (he:PE X e te) (hs:swapsWith e (some (.Name x pos')) pos.line X.env=pure false:=by rfl) (hf:X.fn x=true∨X.env.scope.names.lookup x=some .local:=by first | exact .inl rfl | exact .inr rfl | assumption):
  PS X (.Assign [.Name x pos'] e pos) (aM te (aA i)):=by
 intro pins s σ H D I h
 refine wpAny_Assign_Name (thn (he pins s σ H _ I h) fun v s1 ⟨y,H1,I1,r1,q1⟩=>?_) hs
 exact gH I1 hN hi hx r1 (fun s2 I2=>⟨_,H1,I2,q1⟩) hf
end
structure It where
 go:Nat→Hp→Prop
 yld:Nat→Hp→V→Hp→Prop
 stop:Nat→Hp→Prop
def im (X:Cx) (pins:List (Addr×Obj)) (H:Hp) (b:Addr):Prop:=
 H b=none∧b≠X.env.locals∧b∉X.fs∧(b∈X.ex∨X.s₀.heap.objs.size≤b)∧(∀ x c,X.env.cells.lookup x=some c→c≠b)∧∀ p∈X.pn++pins,p.1≠b
theorem Inv.fpOk {X:Cx} {pins:List (Addr×Obj)} {σ:St} {H H':Hp} {s:Shared} {b:Addr} (I:Inv X pins σ H s) (hb:s.heap.objs.size≤b) (hn:H' b=none):im X pins H' b:=by
 refine ⟨hn,Nat.ne_of_gt (Nat.lt_of_lt_of_le I.lt hb),I.nofs hb,.inr (Nat.le_trans I.sz hb),fun x c e z=>?_,fun p hp z=>?_⟩
 · obtain ⟨v,q⟩:=I.cell x c e
   exact absurd (Nat.lt_of_lt_of_le q.lt (by rw [z];exact hb)) (Nat.lt_irrefl _)
 · exact absurd (Nat.lt_of_lt_of_le (Heap.lt_size (I.pin p hp).1) (by rw [z];exact hb)) (Nat.lt_irrefl _)
structure kF (P:Program) (w:World) (K:W.Frag) (tg:Expr) (J:It) (fp:List Addr) (it:Addr) (tn:Nat→Heap→Prop):Prop where
 mem:it∈fp
 obj:∀ i h,tn i h→∀ b∈fp,∃ o,h.get? b=some o∧∀ v,o.data≠ .cell v
 keep:∀ i h h',tn i h→(∀ b∈fp,∀ o,h.get? b=some o→h'.get? b=some o)→tn i h'
 item:∀ (X:Cx),X.prog=P→X.w=w→X.K=K→X.calm=true→∀ (i:Nat) (pins:List (Addr×Obj)) (s:Shared) (σ:St) (H:Hp) (E:Value→Shared→Prop),Inv X pins σ H s→(∀ b∈fp,im X pins H b)→tn i s.heap→J.go i H→
  wpAny (model P w) X.A (pyNext (.ref it)) (fun r s1=>∃ u,r=some u∧
   wpAny (model P w) X.A (letOwnedTupleGo tg (.ref it) u) (fun _ s2=>∃ x H',Inv X pins σ H' s2∧aR x u∧J.yld i H x H'∧tn (i+1) s2.heap∧∀ b∈fp,H' b=none) E s1) E s
 done:∀ (X:Cx),X.prog=P→X.w=w→X.K=K→X.calm=true→∀ (i:Nat) (pins:List (Addr×Obj)) (s:Shared) (σ:St) (H:Hp) (E:Value→Shared→Prop),Inv X pins σ H s→(∀ b∈fp,im X pins H b)→tn i s.heap→J.stop i H→
  wpAny (model P w) X.A (pyNext (.ref it)) (fun r s1=>r=none∧Inv X pins σ H s1) E s
 self:∀ (A:Around) (i:Nat) (s:Shared) (Q:Value→Shared→Prop) (E:Value→Shared→Prop),tn i s.heap→Q (.ref it) s→wpAny (model P w) A (pyIter (.ref it)) Q E s
abbrev TI:=St→Hp→(It→Hp→Prop)→Prop
def PIE (X:Cx) (pins:List (Addr×Obj)) (σ:St) (tg:Expr) (R:It→Hp→Prop) (itv:Value) (s2:Shared):Prop:=
 ∃ (it:Addr) (fp:List Addr) (tn:Nat→Heap→Prop) (J:It) (H':Hp),itv=.ref it∧Inv X pins σ H' s2∧kF X.prog X.w X.K tg J fp it tn∧tn 0 s2.heap∧(∀ b∈fp,im X pins H' b)∧R J H'
def PI (X:Cx) (tg iter:Expr) (wi:TI):Prop:=
 ∀ (pins:List (Addr×Obj)) (s:Shared) (σ:St) (H:Hp) (R:It→Hp→Prop),Inv X pins σ H s→wi σ H R→
  wpAny (model X.prog X.w) X.A (eval iter X.env) (fun v s1=>wpAny (model X.prog X.w) X.A (pyIter v) (PIE X pins σ tg R) X.xe s1) X.xe s
theorem nF {M : Model} {A : Around} {E : Value → Shared → Prop} {s : Shared} {tg : Expr} {it : Addr} {u : Value} {o : Obj} {n : String} {vs : Array Value} {Q : Unit → Shared → Prop} (ho : s.heap.get? it = some o) (hc : o.cls = .type n) (hd : o.data = .fields vs)
    (hn : ["enumerate", "zip", "dict_itemiterator", "dict_reverseitemiterator", "odict_iterator", "itertools.zip_longest", "itertools.pairwise"].contains n = false) (hQ : Q () s) : wpAny M A (letOwnedTupleGo tg (.ref it) u) Q E s := by
  unfold letOwnedTupleGo
  cases tg <;> first
    | exact wpAny_pure hQ
    | (cases u <;> first
        | exact wpAny_pure hQ
        | (refine wpAny_bind (wpAny_load ho ?_)
           rw [hc, hd]
           show wpAny M A (if (["enumerate", "zip", "dict_itemiterator", "dict_reverseitemiterator", "odict_iterator", "itertools.zip_longest", "itertools.pairwise"].contains n && vs[0]? == some (rawInt _)) = true then _ else _) Q E s
           rw [if_neg (by intro h; rw [hn, Bool.false_and] at h; cases h)]
           exact wpAny_pure hQ))
def Itl (K:W.Frag) (a:Addr):It:=
 ⟨fun i H=>∃ xs x,SqL K H a xs∧xs[i]?=some x,fun i H x H'=>H'=H∧∀ xs,SqL K H a xs→xs[i]?=some x,fun i H=>∃ xs,SqL K H a xs∧xs.length≤i⟩
def Itt (K:W.Frag) (a:Addr):It:=
 ⟨fun i H=>∃ xs x,SqT K H a xs∧xs[i]?=some x,fun i H x H'=>H'=H∧∀ xs,SqT K H a xs→xs[i]?=some x,fun i H=>∃ xs,SqT K H a xs∧xs.length≤i⟩
def Itr (lo:Int) (n:Nat):It:=⟨fun i _=>i<n,fun i H x H'=>H'=H∧x=.int (lo+i),fun i _=>n≤i⟩
theorem ua {P:Program} {w:World} {K:W.Frag} {tg:Expr} (a it:Addr):kF P w K tg (Itl K a) [it] it (fun i h=>h.IsListIter it a i) where
 mem:=by simp
 obj:=fun i h st b hb=>by
  have e:b=it:=by simpa using hb
  subst e
  obtain ⟨o,e,c,d⟩:=st
  exact ⟨o,e,fun v z=>by rw [d] at z;cases z⟩
 keep:=fun i h h' st k=>st.at fun o e=>k it (by simp) o e
 item:=by
  intro X hP hw hK hc i pins s σ H E I hf st hg
  subst hP hw hK
  obtain ⟨xs,x,hq,hx⟩:=hg
  obtain ⟨its,rv,p,hz⟩:=I.list hq
  obtain ⟨u,hu,ru⟩:=rv.get hx
  obtain ⟨f0,f1,f2,f3,f4,f5⟩:=hf it (by simp)
  refine wpAny_pyNext_list_item st p.isList (x:=u) (by simpa using hu) fun h' st' sb=>?_
  have I1:Inv X pins σ H { s with heap:=h' }:=I.turned (t':=s.toks) (fun b o hb e=>(sb.2 b hb).trans e) f0 f1 f3 f4 f5
  obtain ⟨o,e,c,d⟩:=id st'
  exact ⟨u,rfl,nF (s:={ s with heap:=h' }) e c d (by decide) ⟨x,H,I1,ru,⟨rfl,fun ys hy=>by rw [I.list_inj hy hq];exact hx⟩,st',fun b hb=>(hf b hb).1⟩⟩
 done:=by
  intro X hP hw hK hc i pins s σ H E I hf st hg
  subst hP hw hK
  obtain ⟨xs,hq,hx⟩:=hg
  obtain ⟨its,rv,p,hz⟩:=I.list hq
  obtain ⟨f0,f1,f2,f3,f4,f5⟩:=hf it (by simp)
  have hl:=rv.length
  exact wpAny_pyNext_list_end (I.ok.hd hc) st p.isList (by simp;omega) fun h' eb=>⟨rfl,I.turned (t':=s.toks) (fun b o hb e=>eb b o hb e) f0 f1 f3 f4 f5⟩
 self:=fun _ _ _ _ _ st h=>wpAny_pyIter_listiter st h
theorem sK {P:Program} {w:World} {K:W.Frag} {tg:Expr} (a it:Addr):kF P w K tg (Itt K a) [it] it (fun i h=>h.IsTupleIter it a i) where
 mem:=by simp
 obj:=fun i h st b hb=>by
  have e:b=it:=by simpa using hb
  subst e
  obtain ⟨o,e,c,d⟩:=st
  exact ⟨o,e,fun v z=>by rw [d] at z;cases z⟩
 keep:=fun i h h' st k=>st.at fun o e=>k it (by simp) o e
 item:=by
  intro X hP hw hK hc i pins s σ H E I hf st hg
  subst hP hw hK
  obtain ⟨xs,x,hq,hx⟩:=hg
  obtain ⟨its,rv,p,hz⟩:=I.tuple hq
  obtain ⟨u,hu,ru⟩:=rv.get hx
  obtain ⟨f0,f1,f2,f3,f4,f5⟩:=hf it (by simp)
  refine wpAny_pyNext_tuple_item st (show s.heap.IsTuple a its.toArray from p) (x:=u) (by simpa using hu) fun h' st' sb=>?_
  have I1:Inv X pins σ H { s with heap:=h' }:=I.turned (t':=s.toks) (fun b o hb e=>(sb.2 b hb).trans e) f0 f1 f3 f4 f5
  obtain ⟨o,e,c,d⟩:=id st'
  exact ⟨u,rfl,nF (s:={ s with heap:=h' }) e c d (by decide) ⟨x,H,I1,ru,⟨rfl,fun ys hy=>by rw [I.tuple_inj hy hq];exact hx⟩,st',fun b hb=>(hf b hb).1⟩⟩
 done:=by
  intro X hP hw hK hc i pins s σ H E I hf st hg
  subst hP hw hK
  obtain ⟨xs,hq,hx⟩:=hg
  obtain ⟨its,rv,p,hz⟩:=I.tuple hq
  obtain ⟨f0,f1,f2,f3,f4,f5⟩:=hf it (by simp)
  have hl:=rv.length
  exact wpAny_pyNext_tuple_end (I.ok.hd hc) st (show s.heap.IsTuple a its.toArray from p) (by simp;omega) fun h' eb=>⟨rfl,I.turned (t':=s.toks) (fun b o hb e=>eb b o hb e) f0 f1 f3 f4 f5⟩
 self:=fun _ _ _ _ _ st h=>wpAny_pyIter_tupleiter st h
theorem rN {P:Program} {w:World} {K:W.Frag} {tg:Expr} (it:Addr) (lo:Int) (n:Nat):kF P w K tg (Itr lo n) [it] it (fun i h=>IsRangeIter h it (lo+(i:Nat)*1) ((n:Int) - (i:Nat)) 1) where
 mem:=by simp
 obj:=fun i h st b hb=>by
  have e:b=it:=by simpa using hb
  subst e
  exact ⟨_,st,fun v z=>by
   have z':Data.fields _=Data.cell v:=z
   cases z'⟩
 keep:=fun i h h' st k=>k it (by simp) _ st
 item:=by
  intro X hP hw hK hc i pins s σ H E I hf st hg
  subst hP hw hK
  obtain ⟨f0,f1,f2,f3,f4,f5⟩:=hf it (by simp)
  have W:=Walks.range (prog:=X.prog) (w:=X.w) (I.ok.hd hc) it lo 1 n
  refine W.item i s _ _ hg st fun v h' tk hv st' kk=>?_
  obtain ⟨t,rfl⟩:=hv
  have I1:Inv X pins σ H { s with heap:=h',toks:=tk }:=I.turned (fun b o hb e=>kk b o (by simpa using hb) e) f0 f1 f3 f4 f5
  refine ⟨_,rfl,nF (s:={ s with heap:=h',toks:=tk }) (n:= "range_iterator") st' rfl rfl (by decide) ⟨.int (lo+i),H,I1,⟨t,?_⟩,⟨rfl,rfl⟩,st',fun b hb=>(hf b hb).1⟩⟩
  rw [Int.mul_one]
 done:=by
  intro X hP hw hK hc i pins s σ H E I hf st hg
  subst hP hw hK
  obtain ⟨f0,f1,f2,f3,f4,f5⟩:=hf it (by simp)
  exact wpAny_pyNext_range_end (I.ok.hd hc) st (by have:n≤i:=hg;omega) fun h' eb=>⟨rfl,I.turned (t':=s.toks) (fun b o hb e=>eb b o hb e) f0 f1 f3 f4 f5⟩
 self:=fun _ _ _ _ _ st h=>wpAny_pyIter_rangeiter st h
section
variable {X:Cx} {tg:Expr}
theorem xO {pins:List (Addr×Obj)} {σ:St} {H:Hp} {s:Shared} {R:It→Hp→Prop} {E:Value→Shared→Prop} {lo hi:Int} {t u v:Tok} {tk:Nat} (I:Inv X pins σ H s) (h1: -(2^62)≤lo) (h2:lo<2^62) (h3: -(2^62)≤hi) (h4:hi<2^62)
   (q:R (Itr lo (hi - lo).toNat) H):wpAny (model X.prog X.w) X.A (pyIter (.ref s.heap.objs.size)) (PIE X pins σ tg R) E { s with heap:=s.heap.push { cls:=.type "range",data:=.fields #[.int lo t,.int hi u,.int 1 v] },toks:=tk }:=by
 refine wpAny_pyIter_range (IsRange.new ..) (small_one h1 h2 h3 h4) ?_
 have I1:Inv X pins σ H { s with heap:=s.heap.push { cls:=.type "range",data:=.fields #[.int lo t,.int hi u,.int 1 v] },toks:=tk }:=I.kept fun b o e=>Heap.get?_push_of_some _ e
 refine ⟨(s.heap.push { cls:=.type "range",data:=.fields #[.int lo t,.int hi u,.int 1 v] }).objs.size,[(s.heap.push { cls:=.type "range",data:=.fields #[.int lo t,.int hi u,.int 1 v] }).objs.size],_,_,H,rfl,
   I1.kept (t':=tk) fun b o e=>Heap.get?_push_of_some _ e,rN _ lo (hi - lo).toNat,?_,fun b hb=>?_,q⟩
 · have e1:lo+((0:Nat):Int)*1=lo:=by simp
   have e2:(((hi - lo).toNat:Nat):Int) - ((0:Nat):Int)=Builtin.Range.rangeSize lo hi 1:=by rw [rangeSize_one];split <;> omega
   show IsRangeIter _ _ (lo+((0:Nat):Int)*1) ((((hi - lo).toNat:Nat):Int) - ((0:Nat):Int)) 1
   rw [e1,e2]
   exact Heap.get?_push_size _ rfl
 · have e:b=(s.heap.push { cls:=.type "range",data:=.fields #[.int lo t,.int hi u,.int 1 v] }).objs.size:=by simpa using hb
   subst e
   exact I1.fpOk (Nat.le_refl _) (I1.hok.fresh (Nat.le_refl _))
def kX (ta:TA):TI:=fun σ H R=>ta σ H fun vs H1=>∃ j:Int,vs=[.int j]∧ -(2^62)≤j∧j<2^62∧R (Itr 0 j.toNat) H1
theorem uU {a : Expr} {ta : TA} {p pos : Pos} (hg : Gl X "range") (hm : X.mg "range" = none) (ha : PA X [a] ta) (hs : starEach [a] X.env = [(false, eval a X.env)] := by rfl) : PI X tg (.Call (.Name "range" p) [a] [] pos) (kX ta) := by
  intro pins s σ H R I h
  refine Call_ (jy I hg hm boot_range (PyProof.Rows.callWith_type1 (thn (ha pos pins s σ H _ I h) fun us s1 ⟨vs, H1, I1, r1, q1⟩ => ?_) hs rfl))
  obtain ⟨j, e, q1, q2, q⟩ := q1
  subst e
  cases r1 with
  | cons r rr =>
    cases rr
    obtain ⟨t, rfl⟩ := r
    exact call_range_1 (xO I1 (by omega) (by omega) q1 q2 (by simpa using q))
def fD (wi:TI) (g:TG) (tb:TS):TS:=fun D σ H=>wi σ H fun J H1=>∃ W:Nat→Nat→St→Hp→Prop,(∃ m,W 0 m σ H1)∧∀ i m σ H,W i m σ H→
 (J.stop i H∧D.nx σ H)∨(J.go i H∧∃ N:St→Hp→Prop,(∀ σ' H',N σ' H'→∃ m',m'<m∧W (i+1) m' σ' H')∧∀ x H',J.yld i H x H'→g x σ H' fun σ2 H2=>tb { D with nx:=N,ct:=N,bk:=D.nx } σ2 H2)
def jv (fp:List Addr) (h:Heap):List (Addr×Obj):=fp.filterMap fun b=>(h.get? b).map fun o=>(b,o)
theorem fT {fp:List Addr} {h:Heap} {b:Addr} {o:Obj} (hb:b∈fp) (e:h.get? b=some o):(b,o)∈jv fp h:=List.mem_filterMap.mpr ⟨b,hb,by rw [e];rfl⟩
theorem ve {fp : List Addr} {h : Heap} {p : Addr × Obj} (hp : p ∈ jv fp h) : p.1 ∈ fp ∧ h.get? p.1 = some p.2 := by
  obtain ⟨b, hb, e⟩ := List.mem_filterMap.mp hp
  cases q : h.get? b with
  | none => rw [q] at e; cases e
  | some o =>
    rw [q] at e
    have e' : (b, o) = p := Option.some.inj e
    subst e'
    exact ⟨hb, q⟩
theorem Inv.pinned {pins:List (Addr×Obj)} {σ:St} {H:Hp} {s:Shared} {fp:List Addr} (I:Inv X pins σ H s) (hf:∀ b∈fp,im X pins H b) (ho:∀ b∈fp,∃ o,s.heap.get? b=some o∧∀ v,o.data≠ .cell v):Inv X (pins++jv fp s.heap) σ H s:=
 I.pins_of fun p hp=>(List.mem_append.mp hp).elim (fun z=>I.pin p (List.mem_append_right _ z)) fun z=>by
  obtain ⟨hb,e⟩:=ve z
  obtain ⟨f0,f1,f2,_⟩:=hf p.1 hb
  obtain ⟨o,e',d⟩:=ho p.1 hb
  rw [e] at e';cases e'
  exact ⟨e,f0,f1,f2,d⟩
theorem Inv.unpinned {pins pl:List (Addr×Obj)} {σ:St} {H:Hp} {s:Shared} (I:Inv X (pins++pl) σ H s):Inv X pins σ H s:=I.pins_of fun p hp=>I.pin p (List.mem_append_right _ (List.mem_append_left _ hp))
theorem tO {iter:Expr} {body:List Stmt} {wi:TI} {g:TG} {tb:TS} {pos:Pos} (hp:PassesOwn (model X.prog X.w) X.A X.env X.xe) (hc:X.calm=true) (hi:PI X tg iter wi) (hg:PG X tg g) (hb:PSs X body tb)
   (hs:∀ x,foldedSetIterable iter X.env x=pure x:=by intro _;rfl):PS X (.For tg iter body [] pos) (fD wi g tb):=by
 intro pins s σ H D I h
 refine wpAny_For (thn (hi pins s σ H _ I h) fun v s1 h1=>thn h1 fun itv s2 h2=>?_) hs
 obtain ⟨it,fp,tn,J,H2,e,I2,T,st2,f2,W,⟨m0,w0⟩,turn⟩:=h2
 subst e
 have stat:∀ {H':Hp},(∀ b∈fp,H' b=none)→∀ b∈fp,im X pins H' b:=fun hn b hb=>⟨hn b hb,(f2 b hb).2⟩
 refine codeAny_forLoop_any (fun n s'=>∃ i σ' H',Inv X pins σ' H' s'∧tn i s'.heap∧(∀ b∈fp,H' b=none)∧W i n σ' H') ?_ m0 ⟨0,σ,H2,I2,st2,fun b hb=>(f2 b hb).1,w0⟩
 rintro n s3 ⟨i,σ3,H3,I3,st3,fr3,w3⟩
 rcases turn i n σ3 H3 w3 with ⟨stop,qn⟩ | ⟨go,N,hN,step⟩
 · refine wpAny_passesOwn hp (thn (T.done X rfl rfl rfl hc i pins s3 σ3 H3 X.xe I3 (stat fr3) st3 stop) fun r s4 ⟨hr,I4⟩=>?_)
   subst hr
   exact wpAny_execs_nil ⟨σ3,H3,I4,qn⟩
 · refine wpAny_passesOwn hp (thn (T.item X rfl rfl rfl hc i pins s3 σ3 H3 X.xe I3 (stat fr3) st3 go) fun r s4 ⟨u,hr,h4⟩=>?_)
   subst hr
   refine wpAny_passesOwn hp (thn h4 fun _ s5 ⟨x,H5,I5,r5,y5,st5,fr5⟩=>?_)
   have I5':=I5.pinned (stat fr5) (T.obj _ _ st5)
   refine wpAny_passesOwn hp (thn (hg _ s5 σ3 H5 x u _ I5' r5 (step x H5 y5)) fun _ s6 ⟨σ6,H6,I6,q6⟩=>?_)
   refine wpAny_passesOwn hp (thn (hb _ s6 σ6 H6 _ I6 q6) fun f s7 q7=>?_)
   have again:∀ {σ7:St} {H7:Hp},Inv X (pins++jv fp s5.heap) σ7 H7 s7→N σ7 H7→∃ m,m<n∧∃ i σ' H',Inv X pins σ' H' s7∧tn i s7.heap∧(∀ b∈fp,H' b=none)∧W i m σ' H':=fun {σ7 H7} I7 n7=>by
    obtain ⟨m',hm,w7⟩:=hN σ7 H7 n7
    refine ⟨m',hm,i+1,σ7,H7,I7.unpinned,T.keep _ _ _ st5 fun b hb o e=>(I7.pin (b,o) (List.mem_append_right _ (List.mem_append_right _ (fT hb e)))).1,fun b hb=>?_,w7⟩
    obtain ⟨o,e,d⟩:=T.obj _ _ st5 b hb
    exact (I7.pin (b,o) (List.mem_append_right _ (List.mem_append_right _ (fT hb e)))).2.1
   cases f with
   | next=>obtain ⟨σ7,H7,I7,n7⟩:=q7;exact again I7 n7
   | cont=>obtain ⟨σ7,H7,I7,n7⟩:=q7;exact again I7 n7
   | brk=>obtain ⟨σ7,H7,I7,q7⟩:=q7;exact ⟨σ7,H7,I7.unpinned,q7⟩
   | ret v=>obtain ⟨x7,σ7,H7,I7,r7,q7⟩:=q7;exact ⟨x7,σ7,H7,I7.unpinned,r7,q7⟩
end
theorem kI {K:W.Frag} {a:Addr} {xs:List V} {g:TG} {tb:TS} {D:fN} {σ:St} {H:Hp} (Pv:Nat→St→Hp→Prop) (h0:Pv 0 σ H) (hl:∀ i σ H,i≤xs.length→Pv i σ H→SqL K H a xs)
   (hs:∀ i x σ H,xs[i]?=some x→Pv i σ H→g x σ H fun σ2 H2=>tb { D with nx:=Pv (i+1),ct:=Pv (i+1),bk:=D.nx } σ2 H2) (hd:∀ σ H,Pv xs.length σ H→D.nx σ H):
   ∃ W:Nat→Nat→St→Hp→Prop,(∃ m,W 0 m σ H)∧∀ i m σ H,W i m σ H→
    ((Itl K a).stop i H∧D.nx σ H)∨((Itl K a).go i H∧∃ N:St→Hp→Prop,(∀ σ' H',N σ' H'→∃ m',m'<m∧W (i+1) m' σ' H')∧∀ x H',(Itl K a).yld i H x H'→g x σ H' fun σ2 H2=>tb { D with nx:=N,ct:=N,bk:=D.nx } σ2 H2):=by
 refine ⟨fun i m σ H=>m=xs.length - i∧i≤xs.length∧Pv i σ H,⟨xs.length,by simp,Nat.zero_le _,h0⟩,?_⟩
 rintro i m σ H ⟨rfl,hi,p⟩
 have q:=hl i σ H hi p
 by_cases hlt:i<xs.length
 · refine .inr ⟨⟨xs,xs[i],q,by simp [hlt]⟩,Pv (i+1),fun σ' H' p'=>⟨xs.length - (i+1),by omega,rfl,hlt,p'⟩,fun x H' y=>?_⟩
   obtain ⟨e,y⟩:=y
   subst e
   exact hs i x σ _ (y xs q) p
 · have e:i=xs.length:=by omega
   subst e
   exact .inl ⟨⟨xs,q,Nat.le_refl _⟩,hd σ H p⟩
theorem AM {K:W.Frag} {a:Addr} {xs:List V} {g:TG} {tb:TS} {D:fN} {σ:St} {H:Hp} (Pv:Nat→St→Hp→Prop) (h0:Pv 0 σ H) (hl:∀ i σ H,i≤xs.length→Pv i σ H→SqT K H a xs)
   (hs:∀ i x σ H,xs[i]?=some x→Pv i σ H→g x σ H fun σ2 H2=>tb { D with nx:=Pv (i+1),ct:=Pv (i+1),bk:=D.nx } σ2 H2) (hd:∀ σ H,Pv xs.length σ H→D.nx σ H):
   ∃ W:Nat→Nat→St→Hp→Prop,(∃ m,W 0 m σ H)∧∀ i m σ H,W i m σ H→
    ((Itt K a).stop i H∧D.nx σ H)∨((Itt K a).go i H∧∃ N:St→Hp→Prop,(∀ σ' H',N σ' H'→∃ m',m'<m∧W (i+1) m' σ' H')∧∀ x H',(Itt K a).yld i H x H'→g x σ H' fun σ2 H2=>tb { D with nx:=N,ct:=N,bk:=D.nx } σ2 H2):=by
 refine ⟨fun i m σ H=>m=xs.length - i∧i≤xs.length∧Pv i σ H,⟨xs.length,by simp,Nat.zero_le _,h0⟩,?_⟩
 rintro i m σ H ⟨rfl,hi,p⟩
 have q:=hl i σ H hi p
 by_cases hlt:i<xs.length
 · refine .inr ⟨⟨xs,xs[i],q,by simp [hlt]⟩,Pv (i+1),fun σ' H' p'=>⟨xs.length - (i+1),by omega,rfl,hlt,p'⟩,fun x H' y=>?_⟩
   obtain ⟨e,y⟩:=y
   subst e
   exact hs i x σ _ (y xs q) p
 · have e:i=xs.length:=by omega
   subst e
   exact .inl ⟨⟨xs,q,Nat.le_refl _⟩,hd σ H p⟩
theorem je {lo:Int} {n:Nat} {g:TG} {tb:TS} {D:fN} {σ:St} {H:Hp} (Pv:Nat→St→Hp→Prop) (h0:Pv 0 σ H)
   (hs:∀ i σ H,i<n→Pv i σ H→g (.int (lo+i)) σ H fun σ2 H2=>tb { D with nx:=Pv (i+1),ct:=Pv (i+1),bk:=D.nx } σ2 H2) (hd:∀ σ H,Pv n σ H→D.nx σ H):
   ∃ W:Nat→Nat→St→Hp→Prop,(∃ m,W 0 m σ H)∧∀ i m σ H,W i m σ H→
    ((Itr lo n).stop i H∧D.nx σ H)∨((Itr lo n).go i H∧∃ N:St→Hp→Prop,(∀ σ' H',N σ' H'→∃ m',m'<m∧W (i+1) m' σ' H')∧∀ x H',(Itr lo n).yld i H x H'→g x σ H' fun σ2 H2=>tb { D with nx:=N,ct:=N,bk:=D.nx } σ2 H2):=by
 refine ⟨fun i m σ H=>m=n - i∧i≤n∧Pv i σ H,⟨n,by simp,Nat.zero_le _,h0⟩,?_⟩
 rintro i m σ H ⟨rfl,hi,p⟩
 by_cases hlt:i<n
 · refine .inr ⟨hlt,Pv (i+1),fun σ' H' p'=>⟨n - (i+1),by omega,rfl,hlt,p'⟩,fun x H' y=>?_⟩
   obtain ⟨e,y⟩:=y
   subst e y
   exact hs i σ _ hlt p
 · have e:i=n:=by omega
   subst e
   exact .inl ⟨Nat.le_refl _,hd σ H p⟩
abbrev R2:=V→V→Hp→VK→Prop
def OpR (X:Cx) (f:Value→Value→Sem Value) (r:R2):Prop:=
 ∀ (pins:List (Addr×Obj)) (s:Shared) (σ:St) (H:Hp) (x y:V) (v u:Value) (Q:VK),Inv X pins σ H s→aR x v→aR y u→r x y H Q→
  wpAny (model X.prog X.w) X.A (f v u) (EP X pins σ Q) X.xe s
def UnR (X:Cx) (f:Value→Sem Value) (r:V→Hp→VK→Prop):Prop:=
 ∀ (pins:List (Addr×Obj)) (s:Shared) (σ:St) (H:Hp) (x:V) (v:Value) (Q:VK),Inv X pins σ H s→aR x v→r x H Q→
  wpAny (model X.prog X.w) X.A (f v) (EP X pins σ Q) X.xe s
def bx (X:Cx) (f:Value) (r:List V→Hp→VK→Prop):Prop:=
 ∀ (pins:List (Addr×Obj)) (s:Shared) (σ:St) (H:Hp) (xs:List V) (us:List Value) (Q:VK),Inv X pins σ H s→aX xs us→r xs H Q→
  wpAny (model X.prog X.w) X.A (call f us) (EP X pins σ Q) X.xe s
def JX (X:Cx) (r:V→Hp→(Bool→Hp→Prop)→Prop):Prop:=
 ∀ (pins:List (Addr×Obj)) (s:Shared) (σ:St) (H:Hp) (x:V) (v:Value) (Q:Bool→Hp→Prop),Inv X pins σ H s→aR x v→r x H Q→
  wpAny (model X.prog X.w) X.A (truthy v) (TP X pins σ Q) X.xe s
def tOp (r:R2) (ta tb:TE):TE:=fun σ H Q=>ta σ H fun x H1=>tb σ H1 fun y H2=>r x y H2 Q
def tUn (r:V→Hp→VK→Prop) (ta:TE):TE:=fun σ H Q=>ta σ H fun x H1=>r x H1 Q
def rI (C:Int→Int→Prop) (g:Int→Int→V):R2:=fun x y H Q=>∃ i j,x=.int i∧y=.int j∧C i j∧Q (g i j) H
def rI0 (g:Int→Int→V):R2:=fun x y H Q=>∃ i j,x=.int i∧y=.int j∧Q (g i j) H
def rU (g:Int→V):V→Hp→VK→Prop:=fun x H Q=>∃ i,x=.int i∧Q (g i) H
section
variable {X:Cx} {a b c:Expr} {ta tb tc:TE} {pos:Pos}
theorem yt (ha:PE X a ta) (hb:PE X b tb) {pins:List (Addr×Obj)} {s:Shared} {σ:St} {H:Hp} {R:V→V→Hp→Prop} (I:Inv X pins σ H s)
  (h:ta σ H fun x H1=>tb σ H1 fun y H2=>R x y H2) {Q:Value→Shared→Prop} {f:Value→Value→Sem Value}
  (hf:∀ v u s2 x y H2,Inv X pins σ H2 s2→aR x v→aR y u→R x y H2→wpAny (model X.prog X.w) X.A (f v u) Q X.xe s2):
  wpAny (model X.prog X.w) X.A (eval a X.env) (fun v s₁=>wpAny (model X.prog X.w) X.A (eval b X.env) (fun u s₂=>wpAny (model X.prog X.w) X.A (f v u) Q X.xe s₂) X.xe s₁) X.xe s:=by
 refine thn (ha pins s σ H _ I h) fun v s1 ⟨x,H1,I1,r1,q1⟩=>?_
 refine thn (hb pins s1 σ H1 _ I1 q1) fun u s2 ⟨y,H2,I2,r2,q2⟩=>?_
 exact hf v u s2 x y H2 I2 r1 r2 q2
theorem IL {op:Operator} {r:R2} (ho:OpR X (binaryOp op) r) (ha:PE X a ta) (hb:PE X b tb):PE X (.BinOp a op b pos) (tOp r ta tb):=by
 intro pins s σ H Q I h
 exact wpAny_BinOp (yt ha hb I h fun v u s2 x y H2 I2 rx ry q=>ho pins s2 σ H2 x y v u Q I2 rx ry q)
theorem Hw {op:UnaryOp} {r:V→Hp→VK→Prop} (ho:UnR X (unaryOp op) r) (ha:PE X a ta):PE X (.UnaryOp op a pos) (tUn r ta):=by
 intro pins s σ H Q I h
 exact UnaryOp_ (thn (ha pins s σ H _ I h) fun v s1 ⟨x,H1,I1,r1,q1⟩=>ho pins s1 σ H1 x v Q I1 r1 q1)
theorem opI {f:Value→Value→Sem Value} {C:Int→Int→Prop} {g:Int→Int→Int}
  (rule:∀ (i j:Int) (t u:Tok) (s:Shared) (Q:Value→Shared→Prop) (E:Value→Shared→Prop),C i j→Q (.int (g i j) s.toks) { s with toks:=s.toks+1 }→wpAny (model X.prog X.w) X.A (f (.int i t) (.int j u)) Q E s):
  OpR X f (rI C fun i j=> .int (g i j)):=by
 intro pins s σ H x y v u Q I rx ry h
 obtain ⟨i,j,rfl,rfl,hc,q⟩:=h
 obtain ⟨t,rfl⟩:=rx
 obtain ⟨t',rfl⟩:=ry
 exact rule i j t t' s _ _ hc ⟨.int (g i j),H,I.tok _,⟨_,rfl⟩,q⟩
theorem sq {f:Value→Value→Sem Value} {g:Int→Int→Int}
  (rule:∀ (i j:Int) (t u:Tok) (s:Shared) (Q:Value→Shared→Prop) (E:Value→Shared→Prop),Q (.int (g i j) s.toks) { s with toks:=s.toks+1 }→wpAny (model X.prog X.w) X.A (f (.int i t) (.int j u)) Q E s):
  OpR X f (rI0 fun i j=> .int (g i j)):=by
 intro pins s σ H x y v u Q I rx ry h
 obtain ⟨i,j,rfl,rfl,q⟩:=h
 obtain ⟨t,rfl⟩:=rx
 obtain ⟨t',rfl⟩:=ry
 exact rule i j t t' s _ _ ⟨.int (g i j),H,I.tok _,⟨_,rfl⟩,q⟩
theorem yn {f:Value→Value→Sem Value} {g:Int→Int→Bool}
  (rule:∀ (i j:Int) (t u:Tok) (s:Shared) (Q:Value→Shared→Prop) (E:Value→Shared→Prop),Q (.bool (g i j)) s→wpAny (model X.prog X.w) X.A (f (.int i t) (.int j u)) Q E s):
  OpR X f (rI0 fun i j=> .bl (g i j)):=by
 intro pins s σ H x y v u Q I rx ry h
 obtain ⟨i,j,rfl,rfl,q⟩:=h
 obtain ⟨t,rfl⟩:=rx
 obtain ⟨t',rfl⟩:=ry
 exact rule i j t t' s _ _ ⟨.bl (g i j),H,I,rfl,q⟩
def Bt (i j:Int):Prop:=0≤j∧j≤1000000∧i.natAbs<2^64
theorem sn (k:Nat):(0:Int)≤2^k:=by
 rw [two_pow_cast]
 exact Int.natCast_nonneg _
theorem Et:OpR X (binaryOp .Add) (rI0 fun i j=> .int (i+j)):=sq fun _ _ _ _ _ _ _ q=>add_int q
theorem BQ:OpR X (binaryOp .Sub) (rI0 fun i j=> .int (i - j)):=sq fun _ _ _ _ _ _ _ q=>sub_int q
theorem EG:OpR X (binaryOp .Mod) (rI (fun _ j=>0<j) fun i j=> .int (i%j)):=opI fun i j _ _ _ _ _ hc q=>by
 have h1:(0:Int)<j:=hc
 exact mod_int' (by omega) (by rw [Int.fmod_eq_emod_of_nonneg i (by omega)];exact q)
theorem DB:OpR X (binaryOp .Pow) (rI Bt fun i j=> .int (i^j.toNat)):=opI fun _ _ _ _ _ _ _ hc q=>pow_int_small hc.1 hc.2.1 hc.2.2 q
theorem Cb:OpR X (binaryOp .LShift) (rI Bt fun i j=> .int (i*2^j.toNat)):=opI fun _ _ _ _ _ _ _ hc q=>lshift_int_small hc.1 hc.2.1 hc.2.2 q
theorem Bd:OpR X (binaryOp .RShift) (rI (fun _ j=>0≤j) fun i j=> .int (i/2^j.toNat)):=opI fun i j _ _ _ _ _ hc q=>
 rshift_int hc (by rw [Int.fdiv_eq_ediv_of_nonneg i (sn _)];exact q)
theorem Bx:OpR X (binaryOp .BitAnd) (rI0 fun i j=> .int (Builtin.bitAnd i j)):=sq fun _ _ _ _ _ _ _ q=>and_int q
theorem DI:OpR X (binaryOp .BitXor) (rI0 fun i j=> .int (Builtin.bitXor i j)):=sq fun _ _ _ _ _ _ _ q=>xor_int q
theorem unI {f:Value→Sem Value} {g:Int→Int}
  (rule:∀ (i:Int) (t:Tok) (s:Shared) (Q:Value→Shared→Prop) (E:Value→Shared→Prop),Q (.int (g i) s.toks) { s with toks:=s.toks+1 }→wpAny (model X.prog X.w) X.A (f (.int i t)) Q E s):
  UnR X f (rU fun i=> .int (g i)):=by
 intro pins s σ H x v Q I rx h
 obtain ⟨i,rfl,q⟩:=h
 obtain ⟨t,rfl⟩:=rx
 exact rule i t s _ _ ⟨.int (g i),H,I.tok _,⟨_,rfl⟩,q⟩
theorem DZ:UnR X (unaryOp .USub) (rU fun i=> .int (-i)):=unI fun _ _ _ _ _ q=>neg_int q
end
def BP:V→V→Bool
 | .non,.non=>true | .non,.int _=>true | .int _,.non=>true | .non,.bl _=>true | .bl _,.non=>true | .non,.str _=>true | .str _,.non=>true
 | .int _,.int _=>true | .bl _,.bl _=>true | .str _,.str _=>true | .byt _,.byt _=>true
 | .int _,.str _=>true | .str _,.int _=>true | .bl _,.str _=>true | .str _,.bl _=>true
 | _,_=>false
def rEq:R2:=fun x y H Q=>BP x y=true∧Q (.bl (decide (x=y))) H
def rNe:R2:=fun x y H Q=>BP x y=true∧Q (.bl (!decide (x=y))) H
theorem rf {i j:Int}:decide (V.int i=V.int j)=(i==j):=by
 rw [Bool.eq_iff_iff]
 simp
theorem uf {i j:Bool}:decide (V.bl i=V.bl j)=(i==j):=by
 rw [Bool.eq_iff_iff]
 simp
theorem qX {i j:Str}:decide (V.str i=V.str j)=(i==j):=by
 rw [Bool.eq_iff_iff]
 simp
theorem qS {i j:Array UInt8}:decide (V.byt i=V.byt j)=(i.toList==j.toList):=by
 rw [Bool.eq_iff_iff]
 cases i
 cases j
 simp
section
variable {X:Cx} {a b c:Expr} {ta tb tc:TE} {pos:Pos}
theorem bq {pins:List (Addr×Obj)} {σ:St} {H:Hp} {s:Shared} {Q:VK} {k k':Bool} (I:Inv X pins σ H s) (q:Q (.bl k) H) (e:k=k'):EP X pins σ Q (.bool k') s:=by
 subst e
 exact ⟨.bl k,H,I,rfl,q⟩
theorem FE : OpR X (compareOp .Eq) rEq := by
  intro pins s σ H x y v u Q I rx ry h
  obtain ⟨hs, q⟩ := h
  cases x with
  | non =>
    cases rx
    cases y with
    | non => cases ry; exact PySem.EqNone.eq_none_none (bq I q (by simp))
    | bl j => cases ry; exact PySem.EqNone.eq_none_bool (bq I q (by simp))
    | int j => obtain ⟨t', rfl⟩ := ry; exact PySem.EqNone.eq_none_int (bq I q (by simp))
    | str j => obtain ⟨t', rfl⟩ := ry; exact PySem.EqNone.eq_none_str (bq I q (by simp))
    | _ => exact absurd (show false = true from hs) Bool.false_ne_true
  | bl i =>
    cases rx
    cases y with
    | non => cases ry; exact PySem.EqNone.eq_bool_none (bq I q (by simp))
    | bl j => cases ry; exact eq_bool (bq I q uf)
    | str j => obtain ⟨t', rfl⟩ := ry; exact PySem.EqMixed.eq_bool_str (bq I q (by simp))
    | _ => exact absurd (show false = true from hs) Bool.false_ne_true
  | int i =>
    obtain ⟨t, rfl⟩ := rx
    cases y with
    | non => cases ry; exact PySem.EqNone.eq_int_none (bq I q (by simp))
    | int j => obtain ⟨t', rfl⟩ := ry; exact eq_int (bq I q rf)
    | str j => obtain ⟨t', rfl⟩ := ry; exact PySem.EqMixed.eq_int_str (bq I q (by simp))
    | _ => exact absurd (show false = true from hs) Bool.false_ne_true
  | str i =>
    obtain ⟨t, rfl⟩ := rx
    cases y with
    | non => cases ry; exact PySem.EqNone.eq_str_none (bq I q (by simp))
    | bl j => cases ry; exact PySem.EqMixed.eq_str_bool (bq I q (by simp))
    | int j => obtain ⟨t', rfl⟩ := ry; exact PySem.EqMixed.eq_str_int (bq I q (by simp))
    | str j => obtain ⟨t', rfl⟩ := ry; exact eq_str (bq I q qX)
    | _ => exact absurd (show false = true from hs) Bool.false_ne_true
  | byt i =>
    obtain ⟨t, rfl⟩ := rx
    cases y with
    | byt j => obtain ⟨t', rfl⟩ := ry; exact W.eq_bytes (bq I q qS)
    | _ => exact absurd (show false = true from hs) Bool.false_ne_true
  | _ => cases y <;> exact absurd (show false = true from hs) Bool.false_ne_true
theorem Gf : OpR X (compareOp .NotEq) rNe := by
  intro pins s σ H x y v u Q I rx ry h
  obtain ⟨hs, q⟩ := h
  cases x with
  | non =>
    cases rx
    cases y with
    | non => cases ry; exact PySem.EqNone.ne_none_none (bq I q (by simp))
    | bl j => cases ry; exact PySem.EqNone.ne_none_bool (bq I q (by simp))
    | int j => obtain ⟨t', rfl⟩ := ry; exact PySem.EqNone.ne_none_int (bq I q (by simp))
    | str j => obtain ⟨t', rfl⟩ := ry; exact PySem.EqNone.ne_none_str (bq I q (by simp))
    | _ => exact absurd (show false = true from hs) Bool.false_ne_true
  | bl i =>
    cases rx
    cases y with
    | non => cases ry; exact PySem.EqNone.ne_bool_none (bq I q (by simp))
    | bl j => cases ry; exact ne_bool (bq I q (congrArg not uf))
    | str j => obtain ⟨t', rfl⟩ := ry; exact PySem.EqMixed.ne_bool_str (bq I q (by simp))
    | _ => exact absurd (show false = true from hs) Bool.false_ne_true
  | int i =>
    obtain ⟨t, rfl⟩ := rx
    cases y with
    | non => cases ry; exact PySem.EqNone.ne_int_none (bq I q (by simp))
    | int j => obtain ⟨t', rfl⟩ := ry; exact ne_int (bq I q (congrArg not rf))
    | str j => obtain ⟨t', rfl⟩ := ry; exact PySem.EqMixed.ne_int_str (bq I q (by simp))
    | _ => exact absurd (show false = true from hs) Bool.false_ne_true
  | str i =>
    obtain ⟨t, rfl⟩ := rx
    cases y with
    | non => cases ry; exact PySem.EqNone.ne_str_none (bq I q (by simp))
    | bl j => cases ry; exact PySem.EqMixed.ne_str_bool (bq I q (by simp))
    | int j => obtain ⟨t', rfl⟩ := ry; exact PySem.EqMixed.ne_str_int (bq I q (by simp))
    | str j => obtain ⟨t', rfl⟩ := ry; exact ne_str (bq I q (congrArg not qX))
    | _ => exact absurd (show false = true from hs) Bool.false_ne_true
  | byt i =>
    obtain ⟨t, rfl⟩ := rx
    cases y with
    | byt j => obtain ⟨t', rfl⟩ := ry; exact W.ne_bytes (bq I q (congrArg not qS))
    | _ => exact absurd (show false = true from hs) Bool.false_ne_true
  | _ => cases y <;> exact absurd (show false = true from hs) Bool.false_ne_true
theorem Fw:OpR X (compareOp .Lt) (rI0 fun i j=> .bl (decide (i<j))):=yn fun _ _ _ _ _ _ _ q=>lt_int q
theorem GQ:OpR X (compareOp .LtE) (rI0 fun i j=> .bl (decide (i≤j))):=yn fun _ _ _ _ _ _ _ q=>le_int q
theorem GZ:OpR X (compareOp .Gt) (rI0 fun i j=> .bl (decide (j<i))):=yn fun _ _ _ _ _ _ _ q=>gt_int q
theorem EF:OpR X (compareOp .Is) (fun x y H Q=>y=.non∧Q (.bl (decide (x=.non))) H):=by
 intro pins s σ H x y v u Q I rx ry h
 obtain ⟨rfl,q⟩:=h
 cases ry
 refine is_none_gen (bq I q ?_)
 cases x <;> first
  | (cases rx;rfl)
  | (obtain ⟨t,rfl⟩:=rx;rfl)
theorem OpR.or {f:Value→Value→Sem Value} {r r':R2} (h:OpR X f r) (h':OpR X f r'):OpR X f (fun x y H Q=>r x y H Q∨r' x y H Q):=by
 intro pins s σ H x y v u Q I rx ry q
 rcases q with q | q
 · exact h pins s σ H x y v u Q I rx ry q
 · exact h' pins s σ H x y v u Q I rx ry q
theorem kW (b:Expr) {op:CmpOp} (h:op≠ .In:=by decide) (h2:op≠ .NotIn:=by decide):behindInMarks op b=false:=by
 have e1:(op==CmpOp.In)=false:=by cases op <;> first | rfl | exact absurd rfl h
 have e2:(op==CmpOp.NotIn)=false:=by cases op <;> first | rfl | exact absurd rfl h2
 cases b <;> simp [behindInMarks,e1,e2]
theorem AD {op:CmpOp} {r:R2} (ho:OpR X (compareOp op) r) (ha:PE X a ta) (hb:PE X b tb) (hm:behindInMarks op b=false):PE X (.Compare a [op] [b] pos) (tOp r ta tb):=by
 intro pins s σ H Q I h
 exact wpAny_Compare1 (yt ha hb I h fun v u s2 x y H2 I2 rx ry q=>ho pins s2 σ H2 x y v u Q I2 rx ry q) hm
def DK (K:W.Frag) (x:V) (H:Hp) (k:Bool):Prop:=
 match x with
 | .non=>k=false
 | .bl b=>k=b
 | .int i=>k=(i !=0)
 | .str y=>y.length≤sizeLine∧k=((y.length:Int) !=0)
 | .byt y=>y.size≤sizeLine∧k=((y.size:Int) !=0)
 | .ref p=>(∃ xs,SqL K H p xs∧k= !xs.isEmpty)∨(∃ xs,SqT K H p xs∧k= !xs.isEmpty)∨∃ kvs,H p=some (.dK kvs)∧k= !kvs.isEmpty
 | _=>False
theorem tD {κ:Type} {kvs:List (κ×V)} {vs:List (κ×Value)} (r:KV kvs vs):(!vs.isEmpty)= !kvs.isEmpty:=by
 cases r <;> rfl
theorem lQ {xs:List V} {its:List Value} (r:aX xs its):(!its.toArray.isEmpty)= !xs.isEmpty:=by
 cases r <;> simp
theorem ie:(sizeLine:Nat)<2^63:=by rw [sizeLine_eq];decide
theorem BV : JX X (fun x H Q => ∃ k, DK X.K x H k ∧ Q k H) := by
  intro pins s σ H x v Q I rx h
  obtain ⟨k, e, q⟩ := h
  have hl := ie
  have hs : sizeLine = 16777216 := sizeLine_eq
  cases x with
  | non =>
    cases rx
    have e' : k = false := e
    subst e'
    exact truthy_none ⟨H, I, q⟩
  | bl b =>
    cases rx
    have e' : k = b := e
    subst e'
    exact wpAny_truthy_bool ⟨H, I, q⟩
  | int i =>
    obtain ⟨t, rfl⟩ := rx
    have e' : k = (i != 0) := e
    subst e'
    exact PySem.P.truthy_int ⟨H, I, q⟩
  | str y =>
    obtain ⟨t, rfl⟩ := rx
    obtain ⟨hy, e'⟩ : y.length ≤ sizeLine ∧ k = ((y.length : Int) != 0) := e
    subst e'
    exact PySem.P.truthy_str (by omega) ⟨H, I.tok _, q⟩
  | byt y =>
    obtain ⟨t, rfl⟩ := rx
    obtain ⟨hy, e'⟩ : y.size ≤ sizeLine ∧ k = ((y.size : Int) != 0) := e
    subst e'
    exact W.truthy_bytes (by omega) ⟨H, I.tok _, q⟩
  | ref p =>
    cases rx
    have e' : (∃ xs, SqL X.K H p xs ∧ k = !xs.isEmpty) ∨ (∃ xs, SqT X.K H p xs ∧ k = !xs.isEmpty) ∨ ∃ kvs, H p = some (.dK kvs) ∧ k = !kvs.isEmpty := e
    rcases e' with ⟨xs, hx, e'⟩ | ⟨xs, hx, e'⟩ | ⟨kvs, hx, e'⟩
    · subst e'
      obtain ⟨its, r, pl, hz⟩ := I.list hx
      have hlen := r.length
      exact wpAny_truthy_list pl.isList (by simp only [List.size_toArray]; omega) ⟨H, I.tok _, by rw [lQ r]; exact q⟩
    · subst e'
      obtain ⟨its, r, pl, hz⟩ := I.tuple hx
      have hlen := r.length
      exact truthy_tuple pl (by simp only [List.size_toArray]; omega) ⟨H, I.tok _, by rw [lQ r]; exact q⟩
    · subst e'
      obtain ⟨hz, hS, vs, r, m⟩ : kvs.length ≤ sizeLine ∧ (p == sysModules) = false ∧ ∃ vs, KV kvs vs ∧ s.heap.DictOf (bN X.prog X.w) p vs := I.hok p _ hx
      have hlen : kvs.length = vs.length := Paired.length r
      exact wpAny_truthy_dict hS m (by omega) ⟨H, I.tok _, by rw [tD r]; exact q⟩
  | _ => exact (show False from e).elim
theorem rG:OpR X (binaryOp .Add) (fun x y H Q=>∃ i j,x=.str i∧y=.str j∧i.length+j.length≤sizeLine∧Q (.str (i++j)) H):=by
 intro pins s σ H x y v u Q I rx ry h
 obtain ⟨i,j,rfl,rfl,hz,q⟩:=h
 obtain ⟨t,rfl⟩:=rx
 obtain ⟨t',rfl⟩:=ry
 exact add_str (fun t' tk=>⟨.str (i++j),H,I.tok _,⟨_,rfl⟩,q⟩) hz
theorem eS {x:V} {us:List Value} (r:aX [x] us):∃ u,us=[u]∧aR x u:=by
 cases r with
 | cons r1 r2=>cases r2;exact ⟨_,rfl,r1⟩
theorem lp {x y : V} {us : List Value} (r : aX [x, y] us) : ∃ u w', us = [u, w'] ∧ aR x u ∧ aR y w' := by
  cases r with
  | cons r1 r2 =>
    cases r2 with
    | cons r3 r4 => cases r4; exact ⟨_, _, rfl, r1, r3⟩
theorem tG (hc:X.calm=true):bx X (.builtin "max") (fun xs H Q=>∃ i j,xs=[.int i,.int j]∧Q (.int (if j>i then j else i)) H):=by
 intro pins s σ H xs us Q I r h
 obtain ⟨i,j,rfl,q⟩:=h
 obtain ⟨u,w',rfl,⟨t,rfl⟩,⟨t',rfl⟩⟩:=lp r
 refine max_two_ints (I.ok.hd hc) fun h' tk k=>⟨_,H,I.kept k,?_,q⟩
 by_cases hj:j>i
 · rw [if_pos hj,if_pos hj];exact ⟨_,rfl⟩
 · rw [if_neg hj,if_neg hj];exact ⟨_,rfl⟩
theorem uO (hc:X.calm=true):bx X (.builtin "min") (fun xs H Q=>∃ i j,xs=[.int i,.int j]∧Q (.int (if j<i then j else i)) H):=by
 intro pins s σ H xs us Q I r h
 obtain ⟨i,j,rfl,q⟩:=h
 obtain ⟨u,w',rfl,⟨t,rfl⟩,⟨t',rfl⟩⟩:=lp r
 refine min_two_ints (I.ok.hd hc) fun h' tk k=>⟨_,H,I.kept k,?_,q⟩
 by_cases hj:j<i
 · rw [if_pos hj,if_pos hj];exact ⟨_,rfl⟩
 · rw [if_neg hj,if_neg hj];exact ⟨_,rfl⟩
theorem pY:bx X (.type "str") (fun xs H Q=>∃ i,xs=[.int i]∧i.natAbs.log2<1920∧Q (.str (toString i)) H):=by
 intro pins s σ H xs us Q I r h
 obtain ⟨i,rfl,hz,q⟩:=h
 obtain ⟨u,rfl,t,rfl⟩:=eS r
 exact PySem.P.str_of_int hz ⟨.str _,H,I.tok _,⟨_,rfl⟩,q⟩
theorem vv:bx X (.builtin "ord") (fun xs H Q=>∃ x,xs=[.str x]∧x.length=1∧Q (.int (x.cps.getD 0 0:Nat)) H):=by
 intro pins s σ H xs us Q I r h
 obtain ⟨x,rfl,hz,q⟩:=h
 obtain ⟨u,rfl,t,rfl⟩:=eS r
 exact ord_of_one hz ⟨.int _,H,I.tok _,⟨_,rfl⟩,q⟩
def IP (K:W.Frag) (x:V) (H:Hp) (n:Nat):Prop:=
 match x with
 | .str y=>y.length≤sizeLine∧n=y.length
 | .byt y=>y.size≤sizeLine∧n=y.size
 | .ref p=>(∃ xs,SqL K H p xs∧n=xs.length)∨∃ xs,SqT K H p xs∧n=xs.length
 | _=>False
theorem kL : bx X (.builtin "len") (fun xs H Q => ∃ x n, xs = [x] ∧ IP X.K x H n ∧ Q (.int n) H) := by
  intro pins s σ H xs us Q I r h
  obtain ⟨x, n, rfl, e, q⟩ := h
  obtain ⟨u, rfl, rx⟩ := eS r
  have hl := ie
  have hs : sizeLine = 16777216 := sizeLine_eq
  cases x with
  | str y =>
    obtain ⟨t, rfl⟩ := rx
    obtain ⟨hy, e'⟩ : y.length ≤ sizeLine ∧ n = y.length := e
    subst e'
    exact len_str (by omega) ⟨.int _, H, I.tok _, ⟨_, rfl⟩, q⟩
  | byt y =>
    obtain ⟨t, rfl⟩ := rx
    obtain ⟨hy, e'⟩ : y.size ≤ sizeLine ∧ n = y.size := e
    subst e'
    exact W.len_bytes (by omega) ⟨.int _, H, I.tok _, ⟨_, rfl⟩, q⟩
  | ref p =>
    cases rx
    have e' : (∃ xs, SqL X.K H p xs ∧ n = xs.length) ∨ ∃ xs, SqT X.K H p xs ∧ n = xs.length := e
    rcases e' with ⟨xs, hx, e'⟩ | ⟨xs, hx, e'⟩
    · subst e'
      obtain ⟨its, r', pl, hz⟩ := I.list hx
      have hlen := r'.length
      exact Calls.call_len_list pl.isList (by simp only [List.size_toArray]; omega) ⟨.int xs.length, H, I.tok _, ⟨_, by simp only [List.size_toArray]; rw [hlen]⟩, q⟩
    · subst e'
      obtain ⟨its, r', pl, hz⟩ := I.tuple hx
      have hlen := r'.length
      exact len_tuple pl (by simp only [List.size_toArray]; omega) ⟨.int xs.length, H, I.tok _, ⟨_, by simp only [List.size_toArray]; rw [hlen]⟩, q⟩
  | _ => exact (show False from e).elim
end
structure ku (h:Heap) (x dx C:Addr) (mA:Str→Option Value):Prop where
 obj:h.get? x=some (W.instObj C dx)
 ns:h.Ns1 dx mA
 ne:dx≠x
theorem uM {h:Heap} {dx:Addr} {mA:Str→Option Value} (n:h.Ns1 dx mA):∃ od,h.get? dx=some od∧∀ name,W.lookIn name od=some (mA name):=by
 obtain ⟨o,es,ep,ho,hd,hk,_,hm⟩:=n
 refine ⟨o,ho,fun name=>?_⟩
 have e:=hm name
 unfold nsFind findBy at e
 rw [← Array.find?_toList] at e
 unfold W.lookIn
 rw [hd]
 dsimp only
 split
 · rename_i y q
   rw [q] at e
   exact congrArg some e
 · rename_i q
   rw [q] at e
   have a:es.toList.any (·.refKey)=false:=by
    rw [List.any_eq_false]
    intro y hy
    obtain ⟨z,t,hkey⟩:=hk y (Array.mem_toList_iff.mp hy)
    simp [DictEntry.refKey,hkey]
   have a':¬ es.toList.any (·.refKey)=true:=by rw [a];exact Bool.false_ne_true
   rw [if_neg a']
   exact congrArg some e
theorem ku.look {h:Heap} {x dx C:Addr} {mA:Str→Option Value} (I:ku h x dx C mA):∃ od,W.InstAt h x (W.instObj C dx) C (some od)∧∀ name,W.lookIn name od=some (mA name):=
 let ⟨od,ho,hl⟩:=uM I.ns
 ⟨od,⟨I.obj,rfl,rfl,ho⟩,hl⟩
section
variable {prog:Program} {w:World} {A:Around} {E:Value→Shared→Prop} {s:Shared} {K:W.Frag} {x dx C f:Addr} {mA:Str→Option Value} {name:Str} {v:Value}
theorem zZ {expr:Bool} {Q:Value→Shared→Prop} (X:K.In s.heap) (I:ku s.heap x dx C mA) (hg:W.plainGet K C name=true) (hh:W.hasDictIn K C=true)
  (ha:W.findIn K (.ref C) name=some none) (hv:mA name=some v) (hv':W.handedIn v=true) (h:Q v { s with toks:=s.toks+1 }):
  wpAny (model prog w) A (getAttr (.ref x) name expr) Q E s:=by
 obtain ⟨od,J,hl⟩:=I.look
 exact W.get_value X J (W.plainGet_of hg).1 (W.findObj_own hh ha rfl (by rw [hl,hv])) hv' h
theorem yi {pl:Sem Bool} {Q:Value×List Value→Shared→Prop} (X:K.In s.heap) (I:ku s.heap x dx C mA) (hg:W.plainGet K C name=true)
  (hf:W.findIn K (.ref C) name=some (some (.ref f))) (ht:W.isFn K (.ref f)=true) (hv:mA name=none) (h:Q (.ref f,[.ref x]) s):
  wpAny (model prog w) A (getMethod (.ref x) name pl) Q E s:=by
 obtain ⟨od,J,hl⟩:=I.look
 exact W.method_fn X J (W.plainGet_of hg).1 (W.plainGet_of hg).2 hf (beq_iff_eq.mp ht) (by show (W.lookIn name od).map (·.isSome)=some false;rw [hl,hv];rfl) h
theorem AF {ns:List Str} {Q:Unit→Shared→Prop} (X:K.In s.heap) (I:ku s.heap x dx C mA)
  (hs:W.findIn K (.ref C) "__setattr__" =some (some (.builtin "object.__setattr__"))) (hp:W.plainOver K C=true) (ht:W.takerIn K C name=some none) (hh:W.hasDictIn K C=true)
  (hw:PySem.Within mA ns) (hsz:ns.length≤sizeLine)
  (h:∀ h',ku h' x dx C (fun y=>if y=name then some v else mA y)→Heap.SameBut dx s.heap h'→Q () { s with heap:=h',toks:=s.toks+2 }):
  wpAny (model prog w) A (setAttr (.ref x) name v) Q E s:=by
 obtain ⟨od,J,hl⟩:=I.look
 refine W.set_plain X J hs (W.osa_open (s:={ s with toks:=s.toks+1 }) (r:=none) X J hp ht fun b=>?_)
 obtain ⟨cd,hc,hd'⟩:=W.any_some hh
 have hx:s.heap.get? x=some ⟨.ref C,some dx,.plain,#[]⟩:=I.obj
 refine wpAny_bind (wpAny_pure (wpAny_bind (wpAny_bind (wpAny_loadPart hx (wpAny_bind (W.Looks.here (s:={ s with toks:=s.toks+1 }) (W.looks_clsIn X hc) ?_))))))
 rw [hd']
 refine wpAny_pure (a:=some dx) (wpAny_bind (wpAny_pure (wpAny_bind ?_)))
 refine wpAny_nsSet1 (s:={ s with toks:=s.toks+1 }) I.ns fun h' hn2 hs2=>?_
 obtain ⟨oD,esD,epD,hoD,hdD,hcD⟩:=hn2.count (PySem.Within.cons name v hw)
 refine wpAny_bind (wpAny_lookBehind hoD (by rw [hdD];exact pastItsLine_dict (Nat.le_trans hcD (by rw [List.length_cons];omega))) ?_)
 exact wpAny_pure (h _ ⟨(hs2.2 _ (Ne.symm I.ne)).trans I.obj,hn2,I.ne⟩ hs2)
theorem yc {R : Result → Shared → Prop} {vs : List Value} {kw : List (Str × Value)} (X : K.In s.heap) (hm : W.makesIn K C = true)
  (hi : W.findIn K (.ref C) "__init__" = some (some (.ref f))) (hf : W.typeIn K (.ref f) = some (.type "function"))
  (h : codeAny (model prog w) (A.under (.builtin "type.__call__" ⟨.ref C :: vs, kw⟩)) (.call (.ref f) ⟨.ref (s.heap.objs.size + 1) :: vs, kw⟩) (W.InitBack (s.heap.objs.size + 1) R)
   { s with heap := (s.heap.push W.emptyDict).push (W.instObj C s.heap.objs.size) }) :
  codeAny (model prog w) A (.call (.ref C) ⟨vs, kw⟩) R s := by
 obtain ⟨hh, g, d, t, os⟩ := s
 exact W.make_core (W.makes_of X hm) (W.looks_findIn X hi) (fun self => W.bind_fn X self hf) (.inl rfl) h
end
def cw (f:Str) (v:V):List (Str×V)→List (Str×V)
 | []=>[(f,v)]
 | (g,x)::r=>if g=f then (g,v)::r else (g,x)::cw f v r
theorem jY (f g : Str) (v : V) : ∀ fs : List (Str × V), (cw f v fs).lookup g = if g = f then some v else fs.lookup g
  | [] => by
    show List.lookup g [(f, v)] = _
    by_cases h : g = f
    · have hb : (g == f) = true := beq_iff_eq.mpr h
      simp only [List.lookup, hb, if_pos h]
    · have hb : (g == f) = false := beq_eq_false_iff_ne.mpr h
      simp only [List.lookup, hb, if_neg h]
  | (k, x) :: r => by
    have ih := jY f g v r
    rw [show cw f v ((k, x) :: r) = (if k = f then (k, v) :: r else (k, x) :: cw f v r) from rfl]
    by_cases hk : k = f
    · rw [if_pos hk]
      by_cases h : g = k
      · have hb : (g == k) = true := beq_iff_eq.mpr h
        simp only [List.lookup, hb, if_pos (h.trans hk)]
      · have hb : (g == k) = false := beq_eq_false_iff_ne.mpr h
        simp only [List.lookup, hb, if_neg (fun e : g = f => h (e.trans hk.symm))]
    · rw [if_neg hk]
      by_cases h : g = k
      · have hb : (g == k) = true := beq_iff_eq.mpr h
        simp only [List.lookup, hb, if_neg (fun e : g = f => hk (h.symm.trans e))]
      · have hb : (g == k) = false := beq_eq_false_iff_ne.mpr h
        simp only [List.lookup, hb]
        exact ih
theorem jt (f : Str) (v : V) : ∀ fs : List (Str × V), f ∈ (cw f v fs).map (·.1) ∧ ∀ g, g ∈ fs.map (·.1) → g ∈ (cw f v fs).map (·.1)
  | [] => ⟨by simp [cw], fun g h => by simp at h⟩
  | (k, x) :: r => by
    obtain ⟨i1, i2⟩ := jt f v r
    rw [show cw f v ((k, x) :: r) = (if k = f then (k, v) :: r else (k, x) :: cw f v r) from rfl]
    by_cases hk : k = f
    · rw [if_pos hk]
      subst hk
      exact ⟨by simp, fun g h => by simpa using h⟩
    · rw [if_neg hk]
      refine ⟨?_, fun g h => ?_⟩
      · rw [List.map_cons]
        exact List.mem_cons_of_mem _ i1
      · rw [List.map_cons] at h ⊢
        rcases List.mem_cons.mp h with e | e
        · exact List.mem_cons.mpr (.inl e)
        · exact List.mem_cons_of_mem _ (i2 g e)
theorem jX (f : Str) (v : V) : ∀ fs : List (Str × V), (cw f v fs).length ≤ fs.length + 1
  | [] => by simp [cw]
  | (k, x) :: r => by
    have ih := jX f v r
    rw [show cw f v ((k, x) :: r) = (if k = f then (k, v) :: r else (k, x) :: cw f v r) from rfl]
    by_cases hk : k = f
    · rw [if_pos hk, List.length_cons, List.length_cons]; omega
    · rw [if_neg hk, List.length_cons, List.length_cons]; omega
theorem dj.some_of {v:V} {o:Option Value} (r:dj (some v) o):∃ u,o=some u∧aR v u:=by
 cases o with
 | none=>exact (show False from r).elim
 | some u=>exact ⟨u,rfl,r⟩
theorem dj.none_of {o:Option Value} (r:dj none o):o=none:=by
 cases o with
 | none=>rfl
 | some u=>exact (show False from r).elim
theorem ur {v:V} {u:Value} (r:aR v u):W.handedIn u=true:=by
 cases v with
 | non=>cases (show u=Value.none from r);rfl
 | bl b=>cases (show u=Value.bool b from r);rfl
 | int i=>obtain ⟨t,e⟩:=(show ∃ t,u=Value.int i t from r);cases e;rfl
 | str x=>obtain ⟨t,e⟩:=(show ∃ t,u=Value.str x t from r);cases e;rfl
 | byt b=>obtain ⟨t,e⟩:=(show ∃ t,u=Value.bytes b t from r);cases e;rfl
 | flt b=>obtain ⟨t,e⟩:=(show ∃ t,u=Value.float b t from r);cases e;rfl
 | ref a=>cases (show u=Value.ref a from r);rfl
 | ty n=>cases (show u=Value.type n from r);rfl
section
variable {P:Program} {w:World} {H H':Hp} {h h':Heap} {a C dx:Addr} {fs fs':List (Str×V)}
theorem hE (hok:HOk P w H h) (e:H a=some (.ins C dx fs)):∃ mA,ku h a dx C mA∧(∀ f,dj (fs.lookup f) (mA f))∧PySem.Within mA (fs.map (·.1))∧fs.length≤1000∧H dx=some (.own a):=by
 obtain ⟨d,z,ne,ob,mA,n,r,q⟩:=(show bh P w H h a (.ins C dx fs) from hok a _ e)
 exact ⟨mA,⟨ob,n,ne⟩,r,q,z,d⟩
end
structure Cls (K:W.Frag) (C:Addr):Prop where
 pg:W.plainGet K C Str.empty=true
 hd:W.hasDictIn K C=true
 po:W.plainOver K C=true
 sa:W.findIn K (.ref C) "__setattr__" =some (some (.builtin "object.__setattr__"))
theorem Cls.get {K:W.Frag} {C:Addr} (c:Cls K C) (f:Str):W.plainGet K C f=true:=c.pg
def bw (K:W.Frag) (C:Addr) (f:Str):Prop:=W.findIn K (.ref C) f=some none
theorem bw.taker {K:W.Frag} {C:Addr} {f:Str} (n:bw K C f):W.takerIn K C f=some none:=by
 unfold W.takerIn
 rw [show W.findIn K (.ref C) f=some none from n]
 rfl
structure cE (K:W.Frag) (C:Addr) (m:Str) (f:Addr):Prop where
 at_:W.findIn K (.ref C) m=some (some (.ref f))
 fn:W.isFn K (.ref f)=true
 kp:W.keepIn K (.ref f)=true
section
variable {X:Cx} {pins:List (Addr×Obj)} {σ:St} {H:Hp} {s:Shared} {a C dx:Addr} {fs:List (Str×V)} {f:Str} {v:V} {A:Around} {E:Value→Shared→Prop}
theorem rE {b:Bool} {Q:Value→Shared→Prop} (I:Inv X pins σ H s) (e:H a=some (.ins C dx fs)) (c:Cls X.K C) (n:bw X.K C f) (l:fs.lookup f=some v)
  (h:∀ u s',Inv X pins σ H s'→aR v u→Q u s'):wpAny (model X.prog X.w) A (getAttr (.ref a) f b) Q E s:=by
 obtain ⟨mA,O,r,_,_,_⟩:=hE I.hok e
 obtain ⟨u,hu,ru⟩:=dj.some_of (v:=v) (o:=mA f) (by rw [← l];exact r f)
 exact zZ I.kIn O (c.get f) c.hd n hu (ur ru) (h u _ (I.tok _) ru)
theorem iL {m:Str} {g:Addr} {pl:Sem Bool} {Q:Value×List Value→Shared→Prop} (I:Inv X pins σ H s) (e:H a=some (.ins C dx fs)) (c:Cls X.K C) (k:cE X.K C m g) (l:fs.lookup m=none)
  (h:Q (.ref g,[.ref a]) s):wpAny (model X.prog X.w) A (getMethod (.ref a) m pl) Q E s:=by
 obtain ⟨mA,O,r,_,_,_⟩:=hE I.hok e
 have hn:mA m=none:=dj.none_of (by rw [← l];exact r m)
 exact yi I.kIn O (c.get m) k.at_ k.fn hn h
theorem rW {y:V} {u:Value} {Q:Unit→Shared→Prop} (I:Inv X pins σ H s) (e:H a=some (.ins C dx fs)) (c:Cls X.K C) (n:bw X.K C f) (hl:fs.length<1000) (ry:aR y u)
   (h:∀ s',Inv X pins σ (upd H a (.ins C dx (cw f y fs))) s'→Q () s'):wpAny (model X.prog X.w) A (setAttr (.ref a) f u) Q E s:=by
 obtain ⟨mA,O,r,wi,_,ho⟩:=hE I.hok e
 have hz:(fs.map (·.1)).length≤sizeLine:=by rw [List.length_map,sizeLine_eq];omega
 refine AF I.kIn O c.sa c.po n.taker c.hd wi hz fun h' O' sb=>h _ ?_
 have hd:∃ o,h'.get? dx=some o:=let ⟨o,_,_,e',_⟩:=O'.ns;⟨o,e'⟩
 refine I.write (x:=a) (e:=dx) (by rw [e];exact True.intro) (.inr ho) (fun b q hb z=>(sb.2 b hb).trans z) hd ?_
 refine ⟨by rw [ap O.ne];exact ho,?_,O.ne,O'.obj,_,O'.ns,fun g=>?_,fun g hg=>?_⟩
 · have:=jX f y fs;omega
 · show dj ((cw f y fs).lookup g) (if g=f then some u else mA g)
   rw [jY]
   by_cases q:g=f
   · rw [if_pos q,if_pos q];exact ry
   · rw [if_neg q,if_neg q];exact r g
 · by_cases q:g=f
   · rw [q];exact (jt f y fs).1
   · refine (jt f y fs).2 g (wi g fun z=>hg ?_)
     show (if g=f then some u else mA g)=none
     rw [if_neg q];exact z
theorem Inv.made (I:Inv X pins σ H s):Inv X pins σ (upd (upd H s.heap.objs.size (.own (s.heap.objs.size+1))) (s.heap.objs.size+1) (.ins C s.heap.objs.size []))
  { s with heap:=(s.heap.push W.emptyDict).push (W.instObj C s.heap.objs.size) }:=by
 have e1:(s.heap.push W.emptyDict).get? s.heap.objs.size=some W.emptyDict:=Heap.get?_push_size s.heap rfl
 have e2:((s.heap.push W.emptyDict).push (W.instObj C s.heap.objs.size)).get? (s.heap.objs.size+1)=some (W.instObj C s.heap.objs.size):=by
  have:=Heap.get?_push_size (s.heap.push W.emptyDict) (o:=W.instObj C s.heap.objs.size) rfl
  rwa [Heap.size_push] at this
 have e3:(s.heap.push W.emptyDict).Ns s.heap.objs.size (fun _=>none):=⟨W.emptyDict,#[],_,e1,rfl,(fun e he=>absurd he (by simp)),fun _=>rfl⟩
 have I1:=I.laid (a:=s.heap.objs.size) (o:=.own (s.heap.objs.size+1)) (h':=s.heap.push W.emptyDict) (t':=s.toks) (fun b u q=>Heap.get?_push_of_some _ q) (Nat.le_refl _) ⟨_,e1⟩
 refine I1.laid (a:=s.heap.objs.size+1) (o:=.ins C s.heap.objs.size []) (t':=s.toks) (fun b u q=>Heap.get?_push_of_some _ q) (Nat.le_of_eq (Heap.size_push _ _)) ?_
 have ne:s.heap.objs.size≠s.heap.objs.size+1:=Nat.ne_of_lt (Nat.lt_succ_self _)
 refine ⟨by rw [ap ne,aj],Nat.zero_le _,ne,e2,fun _=>none,(Heap.Ns1.of_empty e3).at fun o q=>Heap.get?_push_of_some _ q,fun _=>True.intro,fun y hy=>absurd rfl hy⟩
theorem Ai {prog:Program} {w:World} {env:Env} {e:Expr} {f:Str} {pos:Pos} {s:Shared} {Q:Value→Shared→Prop} (hb:attributeBase e f env (eval e env)=eval e env)
  (h:wpAny (model prog w) A (eval e env) (fun o s₁=>wpAny (model prog w) A (getAttr o f true) Q E s₁) E s):wpAny (model prog w) A (eval (.Attribute e f pos) env) Q E s:=
 Attribute_any_ h (by rw [arm_eval_Attribute,hb])
end
def bc (K:W.Frag) (ta:TE) (f:Str):TE:=fun σ H Q=>ta σ H fun x H1=>∃ a C dx fs v,x=.ref a∧H1 a=some (.ins C dx fs)∧Cls K C∧bw K C f∧fs.lookup f=some v∧Q v H1
def eh (K:W.Frag) (ta tv:TE) (f:Str):TS:=fun D σ H=>tv σ H fun y H1=>ta σ H1 fun x H2=>∃ a C dx fs,x=.ref a∧H2 a=some (.ins C dx fs)∧Cls K C∧bw K C f∧fs.length<1000∧
 D.nx σ (upd H2 a (.ins C dx (cw f y fs)))
section
variable {X:Cx} {o e value:Expr} {f:Str} {pos pos' tpos:Pos} {ta tv:TE}
theorem Eu (he:PE X e ta) (hb:attributeBase e f X.env (eval e X.env)=eval e X.env):PE X (.Attribute e f pos) (bc X.K ta f):=by
 intro pins s σ H Q I h
 refine Ai hb (thn (he pins s σ H _ I h) fun u s1 ⟨x,H1,I1,rx,a,C,dx,fs,v,ex,ea,c,n,l,q⟩=>?_)
 subst ex
 obtain rfl:u=Value.ref a:=rx
 exact rE I1 ea c n l fun u' s2 I2 ru=>⟨v,H1,I2,ru,q⟩
theorem Dx (ha:PE X o ta) (hv:PE X value tv) (hs:swapsWith value (some (.Attribute o f pos')) pos.line X.env=pure false):PS X (.Assign [.Attribute o f pos'] value pos) (eh X.K ta tv f):=by
 intro pins s σ H D I h
 refine plainObj_wpAny_Assign_Attribute (thn (hv pins s σ H _ I h) fun u s1 ⟨y,H1,I1,ry,q⟩=>thn (ha pins s1 σ H1 _ I1 q) fun ov s2 ⟨x,H2,I2,rx,a,C,dx,fs,ex,ea,c,n,l,q2⟩=>?_) hs
 subst ex
 obtain rfl:ov=Value.ref a:=rx
 exact rW I2 ea c n l ry fun s3 I3=>⟨σ,_,I3,q2⟩
end
section
variable {X:Cx} {pins:List (Addr×Obj)} {σ:St} {H:Hp} {s:Shared} {A:Around} {E:Value→Shared→Prop} {Q:Value→Shared→Prop} {c:Value} {b:Bool}
inductive fA (K:W.Frag) (H:Hp):V→Value→Prop where
 | non:fA K H .non (.type "NoneType")
 | bl (x:Bool):fA K H (.bl x) (.type "bool")
 | int (i:Int):fA K H (.int i) (.type "int")
 | str (x:Str):fA K H (.str x) (.type "str")
 | flt (x:UInt64):fA K H (.flt x) (.type "float")
 | lst {a:Addr} {xs:List V} (e:H a=some (.lst xs)):fA K H (.ref a) (.type "list")
 | frz {a:Addr} {o:Obj} {xs:List V} (e:H a=some (.frz o (.lst xs))):fA K H (.ref a) (.type "list")
 | tup {a:Addr} {xs:List V} (e:H a=some (.tup xs)):fA K H (.ref a) (.type "tuple")
 | dK {a:Addr} {kvs:List (Key×V)} (e:H a=some (.dK kvs)):fA K H (.ref a) (.type "dict")
 | dT {a:Addr} {kvs:List (List Key×V)} (e:H a=some (.dT kvs)):fA K H (.ref a) (.type "dict")
 | ins {a C dx:Addr} {fs:List (Str×V)} (e:H a=some (.ins C dx fs)) (cl:Cls K C) (ha:W.findIn K (.ref C) "__class__" =some (some (.builtin "object.__class__")))
  (hn:W.specialIn K (.builtin "object.__class__") "__get__" =some (some (.builtin "getset_descriptor.__get__"))) (htk:W.takesIn K (.builtin "object.__class__")=some true)
  (hm:W.mroIn K C (.type "object")=some true):fA K H (.ref a) (.ref C)
theorem uT {x : V} {u t : Value} (I : Inv X pins σ H s) (rx : aR x u) (ty : fA X.K H x t) (e : W.kitOne X.K t c = some b) (h : ∀ tk, Q (.bool b) { s with toks := tk }) :
    wpAny (model X.prog X.w) A (call (.builtin "isinstance") [u, c]) Q E s := by
  cases ty with
  | non => cases (show u = Value.none from rx); exact W.kia_one W.kitx_none I.kIn True.intro e (fun z => nomatch z) h
  | bl y => cases (show u = Value.bool y from rx); exact W.kia_one W.kitx_bool I.kIn True.intro e (fun z => nomatch z) h
  | int i => obtain ⟨t, q⟩ := (show ∃ t, u = Value.int i t from rx); cases q; exact W.kia_one W.kitx_int I.kIn True.intro e (fun z => nomatch z) h
  | str y => obtain ⟨t, q⟩ := (show ∃ t, u = Value.str y t from rx); cases q; exact W.kia_one W.kitx_str I.kIn True.intro e (fun z => nomatch z) h
  | flt y => obtain ⟨t, q⟩ := (show ∃ t, u = Value.float y t from rx); cases q; exact W.kia_one W.kitx_float I.kIn True.intro e (fun z => nomatch z) h
  | @lst a xs ea =>
    cases (show u = Value.ref a from rx)
    obtain ⟨_, _, n, _, h1⟩ := (show bh X.prog X.w H s.heap a (.lst xs) from I.hok a _ ea)
    exact W.kia_one W.kitx_list I.kIn ⟨_, h1, rfl⟩ e (fun z => nomatch z) h
  | @frz a ob xs ea =>
    cases (show u = Value.ref a from rx)
    obtain ⟨_, _, _, n, _, h1⟩ := (show bh X.prog X.w H s.heap a (.frz ob (.lst xs)) from I.hok a _ ea)
    exact W.kia_one W.kitx_list I.kIn ⟨_, h1, rfl⟩ e (fun z => nomatch z) h
  | @tup a xs ea =>
    cases (show u = Value.ref a from rx)
    obtain ⟨_, _, _, p⟩ := (show bh X.prog X.w H s.heap a (.tup xs) from I.hok a _ ea)
    obtain ⟨o, h1, h2, _⟩ := p
    exact W.kia_one W.kitx_tuple I.kIn ⟨o, h1, h2⟩ e (fun z => nomatch z) h
  | @dK a kvs ea =>
    cases (show u = Value.ref a from rx)
    obtain ⟨_, _, vs, _, p⟩ := (show bh X.prog X.w H s.heap a (.dK kvs) from I.hok a _ ea)
    obtain ⟨o, es, ep, h1, h2, _⟩ := p
    exact W.kia_one W.kitx_dict I.kIn ⟨o, h1, h2.1⟩ e (fun z => nomatch z) h
  | @dT a kvs ea =>
    cases (show u = Value.ref a from rx)
    obtain ⟨_, _, xs, _, o, es, ep, h1, h2, _⟩ := (show bh X.prog X.w H s.heap a (.dT kvs) from I.hok a _ ea)
    exact W.kia_one W.kitx_dict I.kIn ⟨o, h1, h2.1⟩ e (fun z => nomatch z) h
  | @ins a C dx fs ea cl ha hn htk hm =>
    cases (show u = Value.ref a from rx)
    obtain ⟨mA, O, _⟩ := hE I.hok ea
    obtain ⟨od, J, _⟩ := O.look
    exact W.kia_one (W.kitx_own (cl.get _) cl.hd ha hn htk hm) I.kIn J e (fun z => nomatch z) h
end
structure bg (k:Nat) (A:Around):Prop where
 hd:A.handled=none
 dp:A.depth+3*k+5<recursionLimit
 un:A.units+16*k+200<cLine
theorem bg.mono {j k:Nat} {A:Around} (r:bg k A) (h:j≤k):bg j A:=⟨r.hd,by have:=r.dp;omega,by have:=r.un;omega⟩
theorem bg.deeper {k:Nat} {A:Around} (r:bg (k+1) A) (env:Env):bg k (A.deeper env):=
 ⟨r.hd,by have:=r.dp;show A.depth+1+3*k+5<_;omega,by have:=r.un;show A.units+3+16*k+200<_;omega⟩
theorem sZ {A:Around} {C:Addr} {us:List Value} {kw:List (Str×Value)}:(A.under (.builtin "type.__call__" ⟨.ref C::us,kw⟩)).depth=A.depth+1:=by
 first | rfl | simp [Around.under,Code.weight,Code.isCreation,Code.isGuard,Code.isCaller,Code.frames,Code.isFrame,guardIds]
theorem sN {A:Around} {C:Addr} {us:List Value} {kw:List (Str×Value)}:(A.under (.builtin "type.__call__" ⟨.ref C::us,kw⟩)).units=A.units+1:=by
 first | rfl | simp [Around.under,Code.cUnits,Code.frames,Code.isFrame]
theorem bg.make {k:Nat} {A:Around} (r:bg (k+1) A) (C:Addr) (us:List Value) (kw:List (Str×Value)):bg k (A.under (.builtin "type.__call__" ⟨.ref C::us,kw⟩)):=
 ⟨r.hd,by have:=r.dp;rw [sZ];omega,by have:=r.un;rw [sN];omega⟩
theorem bg.depth {k:Nat} {A:Around} (r:bg k A):A.depth<recursionLimit:=by have:=r.dp;omega
def ai:TA:=fun _ H Q=>Q [] H
def ae (ta:TE) (tr:TA):TA:=fun σ H Q=>ta σ H fun x H1=>tr σ H1 fun xs H2=>Q (x::xs) H2
section
variable {X:Cx} {e:Expr} {es:List Expr} {te:TE} {t:TA} {pos:Pos}
theorem Bg:PA X [] ai:=fun _ _ _ _ H Q I h=>Calls.spliced_nil ⟨[],H,I,.nil,h⟩
theorem AV (ha:PE X e te) (hr:PA X es t) (hs:starEach (e::es) X.env=(false,eval e X.env)::starEach es X.env:=by rfl):PA X (e::es) (ae te t):=by
 intro pos pins s σ H Q I h
 rw [hs]
 show wpAny _ _ (spliced ((false,eval e X.env)::backTo pos (starEach es X.env))) _ _ s
 refine Calls.spliced_cons (thn (ha pins s σ H _ I h) fun u s1 ⟨x,H1,I1,r1,q1⟩=>?_)
 exact thn (hr pos pins s1 σ H1 _ I1 q1) fun us s2 ⟨xs,H2,I2,r2,q2⟩=>⟨x::xs,H2,I2,.cons r1 r2,q2⟩
def df (t:TA):TE:=fun σ H Q=>t σ H fun xs H1=>xs.length≤sizeLine∧∀ p,H1 p=none→Q (.ref p) (upd H1 p (.tup xs))
def ff (t:TA):TE:=fun σ H Q=>t σ H fun xs H1=>xs.length≤sizeLine∧∀ p,H1 p=none→Q (.ref p) (upd H1 p (.lst xs))
theorem Be {x1} (h:PA X es t):PE X (.Tuple es x1 pos) (df t):=by
 intro pins s σ H Q I hq
 refine wpAny_Tuple_spliced (thn (h pos pins s σ H _ I hq) fun us s1 ⟨xs,H1,I1,r,z,q⟩=>⟨by rw [← r.length];exact z,?_⟩)
 have hf:H1 s1.heap.objs.size=none:=I1.hok.fresh (Nat.le_refl _)
 refine ⟨.ref s1.heap.objs.size,upd H1 s1.heap.objs.size (.tup xs),I1.laid (t':=s1.toks) (fun b u e=>Heap.get?_push_of_some _ e) (Nat.le_refl _) ?_,rfl,q _ hf⟩
 exact ⟨z,us,r,⟨_,Heap.get?_push_size _ rfl,rfl,_,rfl⟩⟩
theorem CS (h:PA X es t):PE X (.List es pos) (ff t):=by
 intro pins s σ H Q I hq
 refine wpAny_List_spliced (thn (h pos pins s σ H _ I hq) fun us s1 ⟨xs,H1,I1,r,z,q⟩=>⟨by rw [← r.length];exact z,?_⟩)
 have hf:H1 s1.heap.objs.size=none:=I1.hok.fresh (Nat.le_refl _)
 refine ⟨.ref s1.heap.objs.size,upd H1 s1.heap.objs.size (.lst xs),I1.laid (t':=s1.toks) (fun b u e=>Heap.get?_push_of_some _ e) (Nat.le_refl _) ?_,rfl,q _ hf⟩
 exact ⟨z,us,0,r,Heap.get?_push_size _ rfl⟩
end
abbrev Sp:=List V→Hp→VK→XK→Prop
abbrev CXT:=List Env→Hp→Shared→XK→Value→Shared→Prop
structure iN (P:Program) (w:World) (K:W.Frag) (mg:Str→Option Value) (base:Heap) (A:Around) (outer:List Env) (s:Shared) (H:Hp):Prop where
 frames:A.frames=some outer
 mod:Mod K mg base
 bs:∀ b o,base.get? b=some o→s.heap.get? b=some o∧H b=none
 bsz:base.objs.size≤s.heap.objs.size
 funs:s.heap.FunFrames base outer
 frf:∀ b∈frs outer,H b=none
 hok:HOk P w H s.heap
 bare:AllBare s.gens
def CE (outer:List Env) (P:Program) (w:World) (H:Hp) (s:Shared) (Q:VK) (u:Value) (s':Shared):Prop:=
 ∃ v H',s'.os=s.os∧AllBare s'.gens∧Un (frs outer) [] H H' s.heap s'.heap∧HOk P w H' s'.heap∧aR v u∧Q v H'
def CR (CX:CXT) (outer:List Env) (P:Program) (w:World) (H:Hp) (s:Shared) (Q:VK) (E:XK) (r:Result) (s':Shared):Prop:=
 match r with
 | .ok (.ret u)=>CE outer P w H s Q u s'
 | .ok _=>False
 | .error e=>CX outer H s E e s'
structure aF (P:Program) (w:World) (K:W.Frag) (mg:Str→Option Value) (base:Heap) (CX:CXT) (k:Nat) (f:Addr) (fd:FuncData) (ps:List Str) (sp:Sp):Prop where
 len:∀ vs H Q E,sp vs H Q E→vs.length=ps.length
 run:∀ (A:Around) (outer:List Env) (s:Shared) (H:Hp) (args:Args) (us:List Value) (vs:List V) (Q:VK) (E:XK),bg k A→iN P w K mg base A outer s H→BindsTo s fd args (ps.zip us)→aX vs us→sp vs H Q E→
  codeAny (model P w) A (.call (.ref f) args) (CR CX outer P w H s Q E) s
theorem iN.make {P:Program} {w:World} {K:W.Frag} {mg:Str→Option Value} {base:Heap} {A:Around} {outer:List Env} {s:Shared} {H:Hp} (e:iN P w K mg base A outer s H) (C:Addr) (us:List Value) (kw:List (Str×Value)):
 iN P w K mg base (A.under (.builtin "type.__call__" ⟨.ref C::us,kw⟩)) outer s H:=⟨by first | exact e.frames | (simpa [Around.under,Code.envs,Code.isFrame,pushEnvs] using e.frames),e.mod,e.bs,e.bsz,e.funs,e.frf,e.hok,e.bare⟩
section
variable {X:Cx} {pins:List (Addr×Obj)} {σ:St} {H:Hp} {s s':Shared}
theorem Inv.env0 (I:Inv X pins σ H s):iN X.prog X.w X.K X.mg X.base X.A X.stack s H:=
 ⟨I.ok.frames,I.ok.mod,I.bs,Nat.le_trans I.ok.bsz I.sz,I.stack,I.stkFree,I.hok,I.bare⟩
theorem Inv.after {Q:VK} {u:Value} (I:Inv X pins σ H s) (h:CE X.stack X.prog X.w H s Q u s'):EP X pins σ Q u s':=by
 obtain ⟨v,H',os,bare,un,hok,r,q⟩:=h
 obtain ⟨hh,g,d,t,os'⟩:=s'
 obtain rfl:os'=s.os:=os
 exact ⟨v,H',I.call (h':=hh) (g':=g) (d':=d) (t':=t) (ch:=[]) un hok bare (fun b z=>absurd z (by simp)),r,q⟩
end
def be (K:W.Frag) (fd:FuncData) (ps:List Str) (ds:List Value):Prop:=
 ∀ (s:Shared) (us:List Value),K.In s.heap→(us++ds).length=ps.length→BindsTo s fd ⟨us,[]⟩ (ps.zip (us++ds))
theorem be.all {K:W.Frag} {fd:FuncData} {ps:List Str} (h:∀ us:List Value,us.length=ps.length→bindArgs fd ⟨us,[]⟩=pure (ps.zip us)):be K fd ps []:=fun s us _ hl=>by
 rw [List.append_nil] at hl ⊢
 exact .of_eq (h us hl)
section
variable {X:Cx} {CX:CXT} {k:Nat} {f C:Addr} {fd:FuncData} {ps:List Str} {sp:Sp} {dvs:List V} {ds:List Value} {E:XK} {x m:Str} {p pos apos:Pos} {e o:Expr} {es:List Expr} {ta:TE} {t:TA}
structure Mk (K:W.Frag) (C f:Addr):Prop where
 makes:W.makesIn K C=true
 init:W.findIn K (.ref C) "__init__" =some (some (.ref f))
 fn:W.isFn K (.ref f)=true
 kp:W.keepIn K (.ref C)=true
end
structure ar (N P:List Str) (sc:Scope):Prop where
 kind:sc.kind=.function
 co:sc.isCoroutine=false
 gen:sc.isGenerator=false
 nd:N.Nodup
 pre:N.take P.length=P
 par:∀ x∈P,sc.names.lookup x=some .local∨sc.names.lookup x=some .cell
 nofree:∀ y∈sc.names,y.2≠ .free
theorem nC {kindOf : Str → Option NameKind} {x : Str} : ∀ {binds : List (Str × Value)} {m : Str → Option Value}, (∀ v, (x, v) ∉ binds) → bindL kindOf binds m x = m x
  | [], _, _ => rfl
  | (n, v) :: r, m, h => by
    unfold bindL
    rw [nC fun w hw => h w (List.mem_cons_of_mem _ hw)]
    split
    · have : x ≠ n := by rintro rfl; exact h v List.mem_cons_self
      simp [this]
    · rfl
theorem mW {kindOf : Str → Option NameKind} {x : Str} : ∀ {binds : List (Str × Value)} {m : Str → Option Value}, (∀ v, (x, v) ∉ binds) → bindC kindOf binds m x = m x
  | [], _, _ => rfl
  | (n, v) :: r, m, h => by
    unfold bindC
    rw [mW fun w hw => h w (List.mem_cons_of_mem _ hw)]
    split
    · rfl
    · have : x ≠ n := by rintro rfl; exact h v List.mem_cons_self
      simp [this]
theorem mT {kindOf : Str → Option NameKind} {x : Str} {v : Value} : ∀ {P : List Str} {vs : List Value} {i : Nat} {m : Str → Option Value}, P.Nodup → P[i]? = some x → vs[i]? = some v → kindOf x = some .local →
    bindL kindOf (P.zip vs) m x = some v
  | [], _, _, _, _, h, _, _ => by simp at h
  | _ :: _, [], _, _, _, _, h, _ => by simp at h
  | p :: P, w :: vs, 0, m, nd, h1, h2, hk => by
    simp at h1 h2; subst h1; subst h2
    show bindL kindOf ((p, w) :: P.zip vs) m p = _
    unfold bindL
    rw [nC fun v hv => (List.nodup_cons.mp nd).1 (List.of_mem_zip hv).1, if_pos hk]
    simp
  | p :: P, w :: vs, i + 1, m, nd, h1, h2, hk => by
    show bindL kindOf ((p, w) :: P.zip vs) m x = _
    unfold bindL
    exact mT (i := i) (List.nodup_cons.mp nd).2 (by simpa using h1) (by simpa using h2) hk
theorem nz {kindOf : Str → Option NameKind} {x : Str} {v : Value} : ∀ {P : List Str} {vs : List Value} {i : Nat} {m : Str → Option Value}, P.Nodup → P[i]? = some x → vs[i]? = some v → kindOf x ≠ some .local →
    bindC kindOf (P.zip vs) m x = some v
  | [], _, _, _, _, h, _, _ => by simp at h
  | _ :: _, [], _, _, _, _, h, _ => by simp at h
  | p :: P, w :: vs, 0, m, nd, h1, h2, hk => by
    simp at h1 h2; subst h1; subst h2
    show bindC kindOf ((p, w) :: P.zip vs) m p = _
    unfold bindC
    rw [mW fun v hv => (List.nodup_cons.mp nd).1 (List.of_mem_zip hv).1, if_neg hk]
    simp
  | p :: P, w :: vs, i + 1, m, nd, h1, h2, hk => by
    show bindC kindOf ((p, w) :: P.zip vs) m x = _
    unfold bindC
    exact nz (i := i) (List.nodup_cons.mp nd).2 (by simpa using h1) (by simpa using h2) hk
def cp (N:List Str) (vs:List V):St:=vs.map some++List.replicate (N.length - vs.length) none
def eU (CX:CXT) (P:Program) (w:World) (K:W.Frag) (mg:Str→Option Value) (base:Heap) (N:List Str) (qual:Str) (scope:Scope) (f:Addr) (cd:Value) (A:Around) (outer:List Env) (s:Shared) (H:Hp) (E:XK):Cx where
 prog:=P
 w:=w
 K:=K
 mg:=mg
 base:=base
 A:=A.deeper (envOfC qual scope s.heap.objs.size f cd)
 N:=N
 s₀:=s
 H₀:=H
 env:=envOfC qual scope s.heap.objs.size f cd
 outer:=outer
 stack:=envOfC qual scope s.heap.objs.size f cd::outer
 ex:=[]
 calm:=true
 fn:=fun _=>true
 pn:=[]
 xe:=fun e s'=>wpAny (model P w) (A.deeper (envOfC qual scope s.heap.objs.size f cd)) (leaving (envOfC qual scope s.heap.objs.size f cd) e) (fun _ s''=>CX outer H s E e s'') (fun e' s''=>CX outer H s E e' s'') s'
theorem oY {sc:Scope} {n:Nat} {x:Str} (h:sc.names.lookup x=some .cell):∃ c,(cellsFrom n sc.names []).lookup x=some c:=by
 have q:=W.cellsFrom_some sc.names n [] (.inl h)
 exact Option.isSome_iff_exists.mp q
theorem ni {CX:CXT} {P:Program} {w:World} {K:W.Frag} {mg:Str→Option Value} {base:Heap} {N ps:List Str} {qual:Str} {scope:Scope} {f:Addr} {cd:Value} {A:Around} {outer:List Env} {s s1:Shared} {H:Hp} {E:XK} {us:List Value} {vs:List V}
   (S:ar N ps scope) (hd:A.handled=none) (e0:iN P w K mg base A outer s H) (hl:vs.length=ps.length) (r:aX vs us)
   (x:InCallC s s.heap.objs.size (bindL (envOfC qual scope s.heap.objs.size f cd).kindOf (ps.zip us) fun _=>none) (cellsFrom (s.heap.objs.size+1) scope.names []) (bindC (envOfC qual scope s.heap.objs.size f cd).kindOf (ps.zip us) fun _=>none) s1):
   Inv (eU CX P w K mg base N qual scope f cd A outer s H E) [] (cp N vs) H s1:=by
 have hpl:ps.length≤N.length:=by have:=congrArg List.length S.pre;rw [List.length_take] at this;omega
 obtain ⟨h1,tk,rfl,hk⟩:=x.done
 have noA:∀ b:Addr,b∉(eU CX P w K mg base N qual scope f cd A outer s H E).ex:=fun b z=>absurd (show b∈([]:List Addr) from z) (by simp)
 refine ⟨⟨e0.mod,S.kind,rfl,rfl,Nat.le_refl _,fun y z c h1 h2=>?_,fun y hy=>?_,fun y c _ h=>?_,fun _=>hd,Around.frames_deeper e0.frames,.inr ⟨rfl,rfl⟩,fun b z=>absurd z (noA b),e0.bs,e0.bsz,fun b _ _=>noA b,fun b z=>absurd z (noA b),e0.funs,e0.frf⟩,
   rfl,e0.bare,Un.kept hk,⟨_,x.toInCall.ns,fun i y v h1 h2 h3=>?_⟩,fun y c h=>⟨_,x.cell y c h⟩,e0.hok.fresh (Nat.le_refl _),fun y c h=>?_,fun p hp=>absurd (show p∈([]:List (Addr×Obj)) from hp) (by simp),e0.hok.kept hk,?_⟩
 · exact name_of_addr x.apart (PySem.mem_of_lookup h1) (PySem.mem_of_lookup h2)
 · have hy:scope.names.lookup y=some .cell∨scope.names.lookup y=some .free:=hy
   rcases hy with hy | hy
   · exact oY hy
   · exact absurd rfl (S.nofree _ (PySem.mem_of_lookup hy))
 · exact Nat.le_of_lt (x.above y c (PySem.mem_of_lookup h))
 · have hi:i<vs.length:=by
     unfold cp at h2
     by_cases hi:i<vs.length
     · exact hi
     · rw [List.getElem?_append_right (by simpa using hi)] at h2
       rw [List.getElem?_replicate] at h2
       split at h2 <;> cases h2
   have ha:vs[i]?=some v:=by
     unfold cp at h2
     rw [List.getElem?_append_left (by simpa using hi),List.getElem?_map] at h2
     cases e:vs[i]? with
     | none=>rw [e] at h2;cases h2
     | some a=>rw [e] at h2;cases h2;rfl
   obtain ⟨u,hu,rv⟩:=r.get ha
   have hp:ps[i]?=some y:=by
     rw [← S.pre,List.getElem?_take_of_lt (by omega)];exact h1
   have ndP:ps.Nodup:=by rw [← S.pre];exact S.nd.sublist (List.take_sublist _ _)
   refine ⟨u,rv,?_⟩
   rcases S.par y (List.mem_of_getElem? hp) with k | k
   · exact .inl ⟨k,mT ndP hp hu k⟩
   · obtain ⟨c,e⟩:=oY (n:=s.heap.objs.size+1) k
     refine .inr ⟨.inl k,c,e,?_⟩
     have q:=x.cell y c e
     rw [nz ndP hp hu (by show scope.names.lookup y≠_;rw [k];decide)] at q
     exact q
 · exact e0.hok.fresh (Nat.le_of_lt (x.above y c (PySem.mem_of_lookup h)))
 · unfold cp
   show _=N.length
   rw [List.length_append,List.length_map,List.length_replicate]
   omega
theorem GT {CX : CXT} {P : Program} {w : World} {K : W.Frag} {mg : Str → Option Value} {base : Heap} {k : Nat} {f : Addr} {name qual : Str} {params : Arguments} {body : List Stmt} {scope : Scope} {dV kV doc pm cdv ct oc : Value} {an od : Option Addr}
    {osl : Array (Option Value)} {N ps : List Str} {sp : Sp} (lk : K.lookup f = some ⟨oc, od, .func (W.fnOf name qual params body scope dV kV doc pm an cdv ct), osl⟩) (hcd : W.codeIn K cdv qual = true) (S : ar N ps scope)
    (len : ∀ vs H Q E, sp vs H Q E → vs.length = ps.length)
    (hbody : ∀ (A : Around) (outer : List Env) (s : Shared) (H : Hp) (vs : List V) (Q : VK) (E : XK), bg k (A.deeper (envOfC qual scope s.heap.objs.size f cdv)) → sp vs H Q E →
      ∃ t, PSs (eU CX P w K mg base N qual scope f cdv A outer s H E) body t ∧ t { nx := fun _ H' => Q .non H', rt := Q } (cp N vs) H) :
    aF P w K mg base CX (k + 1) f (W.fnOf name qual params body scope dV kV doc pm an cdv ct) ps sp := by
  refine ⟨len, fun A outer s H args us vs Q E hr e0 hb r hsp => ?_⟩
  have hl := len _ _ _ _ hsp
  have KX : K.In s.heap := e0.mod.kin.keeps fun b o e => (e0.bs b o e).1
  have lim : s.heap.NoLimit := e0.mod.nolimit.keeps fun b o e => (e0.bs b o e).1
  have hkind : ∀ y ∈ ps.zip us, scope.names.lookup y.1 = some .local ∨ (scope.names.lookup y.1 = some .cell ∧ ((cellsFrom (s.heap.objs.size + 1) scope.names []).lookup y.1).isSome = true) := fun ⟨n, v⟩ hy => by
    rcases S.par n (List.of_mem_zip hy).1 with q | q
    · exact .inl q
    · exact .inr ⟨q, W.cellsFrom_some _ _ _ (.inl q)⟩
  refine codeAny_call_function hr.depth (KX _ _ lk) rfl S.co S.gen rfl (W.codeRec_of KX hcd) (hb _ _ _ _ ?_)
  refine wpAny_newFunctionEnv_cells S.kind hkind fun env he s1 x => ?_
  subst he
  refine ⟨lim.keeps x.toInCall.keep, codeAny_func ?_⟩
  obtain ⟨t, ht, hq⟩ := hbody A outer s H vs Q E (hr.deeper _) hsp
  have I : Inv (eU CX P w K mg base N qual scope f cdv A outer s H E) [] (cp N vs) H s1 := ni S hr.hd e0 hl r x
  refine wpAny_mono (ht [] s1 (cp N vs) H _ I hq) (fun fl s' hs => ?_) fun e s' hs => hs
  have fin : ∀ {σ' : St} {H' : Hp} {v : V} {u : Value}, Inv (eU CX P w K mg base N qual scope f cdv A outer s H E) [] σ' H' s' → aR v u → Q v H' → CE outer P w H s Q u s' :=
    fun {σ' H' v u} J rv q => ⟨v, H', J.os, J.bare, J.base, J.hok, rv, q⟩
  cases fl with
  | ret u =>
    obtain ⟨v, σ', H', J, rv, q⟩ := hs
    exact fin J rv q
  | next =>
    obtain ⟨σ', H', J, q⟩ := hs
    exact fin (v := V.non) (u := Value.none) J rfl q
  | brk =>
    obtain ⟨_, _, _, q⟩ := hs
    exact False.elim q
  | cont =>
    obtain ⟨_, _, _, q⟩ := hs
    exact False.elim q
section
variable {X:Cx} {x:Str} {p pos:Pos} {e:Expr} {es:List Expr} {t:TA} {id T:String} {r:List V→Hp→VK→Prop}
def tCB (r:List V→Hp→VK→Prop) (t:TA):TE:=fun σ H Q=>t σ H fun vs H1=>r vs H1 Q
theorem wL (hc:bx X (.builtin id) r) (hg:Gl X x) (hm:X.mg x=none) (hv:bootBuiltins x=some (.builtin id)) (ha:PA X (e::es) t) (hn:x≠ "__name__" :=by decide) (hdb:(x==("__debug__" :Str))=false:=by decide)
  (he:starEach (e::es) X.env=(false,eval e X.env)::starEach es X.env:=by rfl) (hpl:(backTo pos (starEach es X.env)).any (·.1)=false:=by rfl):PE X (.Call (.Name x p) (e::es) [] pos) (tCB r t):=by
 intro pins s σ H Q I h
 refine wpAny_Call_Name_kw (jy I hg hm hv ?_ hn hdb)
 exact PyProof.Rows.callWith_builtin1 (thn (ha pos pins s σ H _ I h) fun us s1 ⟨vs,H1,I1,r1,q1⟩=>hc pins s1 σ H1 vs us Q I1 r1 q1) he hpl
theorem uG (hc:bx X (.type T) r) (hg:Gl X x) (hm:X.mg x=none) (hv:bootBuiltins x=some (.type T)) (ha:PA X (e::es) t) (hn:x≠ "__name__" :=by decide) (hdb:(x==("__debug__" :Str))=false:=by decide)
  (he:starEach (e::es) X.env=(false,eval e X.env)::starEach es X.env:=by rfl) (hpl:(backTo pos (starEach es X.env)).any (·.1)=false:=by rfl):PE X (.Call (.Name x p) (e::es) [] pos) (tCB r t):=by
 intro pins s σ H Q I h
 refine wpAny_Call_Name_kw (jy I hg hm hv ?_ hn hdb)
 exact PyProof.Rows.callWith_type1 (thn (ha pos pins s σ H _ I h) fun us s1 ⟨vs,H1,I1,r1,q1⟩=>hc pins s1 σ H1 vs us Q I1 r1 q1) he hpl
end
end L2
namespace HT
open PySem PyProof.Rows
section
open PySem.SeqAt
open PySem.AutoSeq1 (wpAny_loadPart')
open PySem.MeetsSeq PySem.MeetsSeq2 PySem.MeetsSeq3
end
section
variable {prog:Program} {w:World} {A:Around} {E:Value→Shared→Prop} {s:Shared}
theorem As {t b:Addr} {vs ws:List Value} {Q:Value→Shared→Prop} (ht:IsTup s.heap t vs.toArray) (hb:IsTup s.heap b ws.toArray) (hv:vs≠[])
   (h1:ws=[]→Q (.ref t) s) (h2:ws≠[]→Q (.ref s.heap.objs.size) { s with heap:=s.heap.push { cls:=.type "tuple",data:=.seq (vs++ws).toArray } })
   (hsz:vs.length+ws.length≤sizeLine):wpAny (model prog w) A (binaryOp .Add (.ref t) (.ref b)) Q E s:=by
 obtain ⟨⟨cls,dd,data,sl⟩,ho,hc,n,hd⟩:=id ht
 obtain ⟨⟨cls2,dd2,data2,sl2⟩,ho2,hc2,n2,hd2⟩:=id hb
 simp only at hc hd hc2 hd2
 subst hc hd hc2 hd2
 have e:vs.toArray++ws.toArray=(vs++ws).toArray:=by simp
 by_cases hw:ws=[]
 · exact concat_meets ⟨_,ho,rfl⟩ ⟨_,ho2,rfl⟩ noFill_tuple_add seq_tuple_add PySem.F.slot_tuple_add PySem.F.entry_tuple_add (PySem.F.args_tuple_add_2 _ _)
    (tuple_addW1 t b vs.toArray ws.toArray n n2 dd dd2 sl sl2 (by simpa using hv) (by simp [hw])) ⟨ho,ho2,h1 hw⟩
 · refine concat_meets ⟨_,ho,rfl⟩ ⟨_,ho2,rfl⟩ noFill_tuple_add seq_tuple_add PySem.F.slot_tuple_add PySem.F.entry_tuple_add (PySem.F.args_tuple_add_2 _ _)
    (tuple_addW2 t b vs.toArray ws.toArray n n2 dd dd2 sl sl2 (by simpa using hv) (by simpa using hw) (by rw [List.size_toArray,List.size_toArray];exact hsz)) ⟨ho,ho2,?_⟩
   rw [e]
   exact h2 hw
def sIx (n d:Nat):Option Int→Nat
 | none=>d
 | some v=>if v<0 then (v+(n:Int)).toNat else min v.toNat n
theorem mK (n d k:Nat):sIx n d (some (k:Int))=min k n:=by
 show (if (k:Int)<0 then ((k:Int)+(n:Int)).toNat else min (k:Int).toNat n)=min k n
 rw [if_neg (by omega),Int.toNat_natCast]
end
end HT
namespace L2
open PySem PySem.Spec PyProof.Rows
abbrev TO:=St→Hp→(Option Int→Hp→Prop)→Prop
def PO (X:Cx) (e:Option Expr) (t:TO):Prop:=
 ∀ (pins:List (Addr×Obj)) (s:Shared) (σ:St) (H:Hp) (Q:Option Int→Hp→Prop),Inv X pins σ H s→t σ H Q→
  wpAny (model X.prog X.w) X.A (evalPart e X.env) (fun u s'=>∃ o H',Inv X pins σ H' s'∧IsPart u o∧Q o H') X.xe s
def gX:TO:=fun _ H Q=>Q none H
def iF (t:TE):TO:=fun σ H Q=>t σ H fun x H1=>∃ i,x=.int i∧Q (some i) H1
section
variable {X:Cx} {e:Expr} {te:TE} {lo hi:Option Expr} {tl th:TO} {pos p2:Pos}
theorem Aq:PO X none gX:=by
 intro pins s σ H Q I h
 rw [evalPart_none]
 exact wpAny_pure ⟨none,H,I,.none,h⟩
theorem AN (h:PE X e te):PO X (some e) (iF te):=by
 intro pins s σ H Q I hw
 rw [evalPart_some]
 refine thn (h pins s σ H _ I hw) fun u s1 ⟨x,H1,I1,r1,q1⟩=>?_
 obtain ⟨i,rfl,q⟩:=q1
 obtain ⟨t,rfl⟩:=r1
 exact ⟨some i,H1,I1,.int i t,q⟩
def SlR (X:Cx) (r:V→Option Int→Option Int→Hp→VK→Prop):Prop:=
 ∀ (pins:List (Addr×Obj)) (s:Shared) (σ:St) (H:Hp) (x:V) (v vl vu:Value) (lo hi:Option Int) (sl:Addr) (Q:VK),Inv X pins σ H s→aR x v→s.heap.IsSliceOf sl vl vu .none→IsPart vl lo→IsPart vu hi→r x lo hi H Q→
  ∃ T id,typeLookup (.type T) "__getitem__" =pure (some (.builtin id))∧s.TypeIs v T∧wpAny (model X.prog X.w) X.A (getItem v (.ref sl)) (EP X pins σ Q) X.xe s
theorem SlR.or {r r':V→Option Int→Option Int→Hp→VK→Prop} (h:SlR X r) (h':SlR X r'):SlR X (fun x lo hi H Q=>r x lo hi H Q∨r' x lo hi H Q):=by
 intro pins s σ H x v vl vu lo hi sl Q I rx hs pl pu q
 rcases q with q | q
 · exact h pins s σ H x v vl vu lo hi sl Q I rx hs pl pu q
 · exact h' pins s σ H x v vl vu lo hi sl Q I rx hs pl pu q
def tSl (r:V→Option Int→Option Int→Hp→VK→Prop) (te:TE) (tl th:TO):TE:=fun σ H Q=>te σ H fun x H1=>tl σ H1 fun l H2=>th σ H2 fun u H3=>r x l u H3 Q
theorem vX {r:V→Option Int→Option Int→Hp→VK→Prop} (hr:SlR X r) (he:PE X e te) (hl:PO X lo tl) (hu:PO X hi th):PE X (.Subscript e (.Slice lo hi none p2) pos) (tSl r te tl th):=by
 intro pins s σ H Q I h
 refine Subscript_ (thn (he pins s σ H _ I h) fun v s1 ⟨x,H1,I1,r1,q1⟩=>?_)
 refine wpAny_Slice (thn (hl pins s1 σ H1 _ I1 q1) fun vl s2 ⟨l,H2,I2,pl,q2⟩=>thn (hu pins s2 σ H2 _ I2 q2) fun vu s3 ⟨u,H3,I3,pu,q3⟩=>?_)
 rw [evalPart_none]
 refine wpAny_pure ?_
 have I4:Inv X pins σ H3 { s3 with heap:=s3.heap.push { cls:=.type "slice",data:=.fields #[vl,vu,.none] } }:=I3.kept (t':=s3.toks) fun b ob q=>Heap.get?_push_of_some _ q
 obtain ⟨T,id,hT,ht,hg⟩:=hr pins { s3 with heap:=s3.heap.push { cls:=.type "slice",data:=.fields #[vl,vu,.none] } } σ H3 x v vl vu l u s3.heap.objs.size Q I4 r1 (Heap.IsSliceOf.new ..) pl pu q3
 show wpAny (model X.prog X.w) X.A (subscriptTail e (.Slice lo hi none p2) v (.ref s3.heap.objs.size)) (EP X pins σ Q) X.xe { s3 with heap:=s3.heap.push { cls:=.type "slice",data:=.fields #[vl,vu,.none] } }
 exact tail_any (ops:=[.ref s3.heap.objs.size,v]) ht hT hg (by with_unfolding_all rfl)
def dI (xs:List V) (lo hi:Option Int):List V:=(xs.drop (HT.sIx xs.length 0 lo)).take (HT.sIx xs.length xs.length hi - HT.sIx xs.length 0 lo)
theorem qg (xs:List V) (lo hi:Option Int):(dI xs lo hi).length≤xs.length:=by
 unfold dI
 rw [List.length_take,List.length_drop]
 omega
def Il (K:W.Frag):R2:=fun x y H Q=>∃ a b xs ys,x=.ref a∧y=.ref b∧SqT K H a xs∧SqT K H b ys∧xs≠[]∧xs.length+ys.length≤sizeLine∧
 (ys=[]→Q (.ref a) H)∧(ys≠[]→∀ p,H p=none→Q (.ref p) (upd H p (.tup (xs++ys))))
theorem aX.nil_iff {xs:List V} {us:List Value} (r:aX xs us):us=[]↔xs=[]:=by
 cases r with
 | nil=>simp
 | cons _ _=>simp
theorem AA:OpR X (binaryOp .Add) (Il X.K):=by
 intro pins s σ H x y v u Q I rx ry h
 obtain ⟨a,b,xs,ys,rfl,rfl,ha,hb,hx,hz,q1,q2⟩:=h
 cases rx
 cases ry
 obtain ⟨its,r1,p1,_⟩:=I.tuple ha
 obtain ⟨its2,r2,p2,_⟩:=I.tuple hb
 refine HT.As p1 p2 (fun z=>hx (r1.nil_iff.mp z)) (fun z=>⟨.ref a,H,I,rfl,q1 (r2.nil_iff.mp z)⟩) (fun z=>?_) (by rw [← r1.length,←r2.length];exact hz)
 refine ⟨.ref s.heap.objs.size,_,I.laid (t':=s.toks) (o:=.tup (xs++ys)) (fun b ob q=>Heap.get?_push_of_some _ q) (Nat.le_refl _) ?_,rfl,q2 (fun w=>z (r2.nil_iff.mpr w)) _ (I.hok.fresh (Nat.le_refl _))⟩
 exact ⟨by rw [List.length_append];exact hz,_,r1.append r2,IsTup.new _ _⟩
end
def ixN (n:Nat) (i:Int):Option Nat:=if 0≤i then (if i<n then some i.toNat else none) else if -(n:Int)≤i then some (i+n).toNat else none
def atI {α:Type} (xs:List α) (i:Int):Option α:=(ixN xs.length i).bind fun j=>xs[j]?
theorem qR {n:Nat} {i:Int} {j:Nat} (h:ixN n i=some j):seqIndex? i n=some j∧j<n∧ -(n:Int)≤i∧i<n:=by
 unfold ixN at h
 by_cases h0:0≤i
 · rw [if_pos h0] at h
   by_cases h1:i<n
   · rw [if_pos h1] at h
     have e:i.toNat=j:=Option.some.inj h
     exact ⟨by rw [seqIndex_of h0 h1,e],by omega,by omega,h1⟩
   · rw [if_neg h1] at h;cases h
 · rw [if_neg h0] at h
   by_cases h1: -(n:Int)≤i
   · rw [if_pos h1] at h
     have e:(i+n).toNat=j:=Option.some.inj h
     exact ⟨by rw [seqIndex_neg (by omega) h1,e],by omega,h1,by omega⟩
   · rw [if_neg h1] at h;cases h
theorem gj {α : Type} {xs : List α} {i : Int} {v : α} (h : atI xs i = some v) : ∃ j, seqIndex? i xs.length = some j ∧ xs[j]? = some v ∧ j < xs.length ∧ -(xs.length : Int) ≤ i ∧ i < xs.length := by
  unfold atI at h
  cases e : ixN xs.length i with
  | none => rw [e] at h; cases h
  | some j =>
    rw [e] at h
    obtain ⟨h1, h2, h3, h4⟩ := qR e
    exact ⟨j, h1, h, h2, h3, h4⟩
theorem wR {α:Type} (xs:List α) (v:α):atI (xs++[v]) (-1)=some v:=by
 have hl:(xs++[v]).length=xs.length+1:=by simp
 have e:ixN (xs++[v]).length (-1)=some xs.length:=by
  unfold ixN
  rw [hl,if_neg (by decide),if_pos (by omega)]
  congr 1
  omega
 unfold atI
 rw [e]
 show (xs++[v])[xs.length]?=some v
 simp
def qI (b:Expr):Prop:=∀ o i,subscripted b false o i=operate [o,i] (getItem o i)
def IxR (X:Cx) (r:R2):Prop:=
 ∀ (value slice:Expr) (pins:List (Addr×Obj)) (s:Shared) (σ:St) (H:Hp) (x y:V) (v u:Value) (Q:VK),Inv X pins σ H s→aR x v→aR y u→r x y H Q→
  subscripted slice false v u=operate [v,u] (getItem v u)→wpAny (model X.prog X.w) X.A (subscriptTail value slice v u) (EP X pins σ Q) X.xe s
def MtR (X:Cx) (id:String) (r:V→List V→Hp→VK→Prop):Prop:=
 ∀ (pins:List (Addr×Obj)) (s:Shared) (σ:St) (H:Hp) (x:V) (xs:List V) (v:Value) (us:List Value) (Q:VK),Inv X pins σ H s→aR x v→aX xs us→r x xs H Q→
  wpAny (model X.prog X.w) X.A (call (.builtin id) (v::us)) (EP X pins σ Q) X.xe s
section
variable {X:Cx} {a b:Expr} {ta tb:TE} {pos:Pos}
theorem IxR.or {r r':R2} (h:IxR X r) (h':IxR X r'):IxR X (fun x y H Q=>r x y H Q∨r' x y H Q):=by
 intro value slice pins s σ H x y v u Q I rx ry q hs
 rcases q with q | q
 · exact h value slice pins s σ H x y v u Q I rx ry q hs
 · exact h' value slice pins s σ H x y v u Q I rx ry q hs
theorem Iv {r:R2} (hr:IxR X r) (ha:PE X a ta) (hb:PE X b tb) (hs:qI b):PE X (.Subscript a b pos) (tOp r ta tb):=by
 intro pins s σ H Q I h
 exact Subscript_ (yt ha hb I h fun v u s2 x y H2 I2 rx ry q=>hr a b pins s2 σ H2 x y v u Q I2 rx ry q (hs _ _))
def Ck (K:W.Frag):R2:=fun x y H Q=>∃ p xs i v,x=.ref p∧y=.int i∧SqL K H p xs∧atI xs i=some v∧Q v H
def En (K:W.Frag):R2:=fun x y H Q=>∃ p xs i v,x=.ref p∧y=.int i∧SqT K H p xs∧atI xs i=some v∧Q v H
def Ex:R2:=fun x y H Q=>∃ z i c,x=.str z∧y=.int i∧z.length≤sizeLine∧atI z.cps.toList i=some c∧Q (.str ⟨#[c]⟩) H
theorem Ax:IxR X (Ck X.K):=by
 intro value slice pins s σ H x y v u Q I rx ry h hs
 obtain ⟨p,xs,i,z,rfl,rfl,hq,he,q⟩:=h
 cases rx
 obtain ⟨t,rfl⟩:=ry
 obtain ⟨its,r,pl,hz⟩:=I.list hq
 obtain ⟨j,h1,h2,h3,h4,h5⟩:=gj he
 obtain ⟨w,ew,rw'⟩:=r.get h2
 have hl:=r.length
 have hn:=ie
 have fin:EP X pins σ Q w s:=⟨z,H,I,rw',q⟩
 by_cases h0:0≤i
 · have hj:i.toNat=j:=by
    rw [seqIndex_of h0 h5] at h1
    exact Option.some.inj h1
   exact item_listR pl.isList h0 (by omega) (by rw [hj];simpa using ew) fin hs
 · have hj:(i+(its.toArray.size:Int)).toNat=j:=by
    rw [seqIndex_neg (by omega) h4] at h1
    rw [List.size_toArray,←hl]
    exact Option.some.inj h1
   exact subscriptTail_builtinR (x:=w) pl.isList.typeIs slot_list_getitem.lookup
    (wpAny_getItem_list_neg (Q:=fun r s'=>r=w∧EP X pins σ Q r s') pl.isList (by omega) (by rw [List.size_toArray] <;> omega) (by omega) (by rw [hj];simpa using ew) ⟨rfl,fin⟩) hs
theorem CQ:IxR X (En X.K):=by
 intro value slice pins s σ H x y v u Q I rx ry h hs
 obtain ⟨p,xs,i,z,rfl,rfl,hq,he,q⟩:=h
 cases rx
 obtain ⟨t,rfl⟩:=ry
 obtain ⟨its,r,pl,hz⟩:=I.tuple hq
 obtain ⟨j,h1,h2,h3,h4,h5⟩:=gj he
 obtain ⟨w,ew,rw'⟩:=r.get h2
 have hl:=r.length
 have hn:=ie
 have fin:EP X pins σ Q w s:=⟨z,H,I,rw',q⟩
 exact subscriptTail_builtinR (x:=w) pl.typeIs slot_tuple_getitem.lookup
  (getItem_tuple (j:=j) (Q:=fun r s'=>r=w∧EP X pins σ Q r s') pl (by omega) (by omega) (by rw [List.size_toArray,←hl];exact h1) (by simpa using ew) ⟨rfl,fin⟩) hs
theorem By:IxR X Ex:=by
 intro value slice pins s σ H x y v u Q I rx ry h hs
 obtain ⟨z,i,c,rfl,rfl,hz,he,q⟩:=h
 obtain ⟨t,rfl⟩:=rx
 obtain ⟨t',rfl⟩:=ry
 obtain ⟨j,h1,h2,h3,h4,h5⟩:=gj he
 have hl:z.cps.toList.length=z.length:=by simp [Str.length]
 rw [hl] at h1 h4 h5
 have hn:=ie
 exact tail_any (typeIs_str s z t) slot_str_getitem.lookup (getItem_str (c:=c) (by
  have e1:decide (i< -(2^63:Int))=false:=decide_eq_false (by omega)
  have e2:decide (i≥2^63)=false:=decide_eq_false (by omega)
  rw [e1,e2,Bool.or_false]) (by rw [h1];simpa using h2) ⟨.str ⟨#[c]⟩,H,I.tok _,⟨_,rfl⟩,q⟩) hs
def rIx (K:W.Frag):R2:=fun x y H Q=>Ck K x y H Q∨En K x y H Q∨Ex x y H Q
theorem Cz:IxR X (rIx X.K):=Ax.or (CQ.or By)
theorem sr (its:List Value) (n j:Nat) (u:Value):Obj.mapSeq (·.setIfInBounds j u) { cls:=.type "list",data:=.seq its.toArray n }={ cls:=.type "list",data:=.seq (its.set j u).toArray n }:=by
 simp [Obj.mapSeq]
theorem Inv.lst {pins:List (Addr×Obj)} {σ:St} {H:Hp} {s:Shared} {p:Addr} {xs:List V} (I:Inv X pins σ H s) (h:H p=some (.lst xs)):
  ∃ (its:List Value) (n:Nat),aX xs its∧s.heap.get? p=some { cls:=.type "list",data:=.seq its.toArray n }∧xs.length≤sizeLine:=by
 obtain ⟨z,its,n,r,e⟩:=I.hok p _ h
 exact ⟨its,n,r,e,z⟩
theorem Inv.lstUpd {pins:List (Addr×Obj)} {σ:St} {H:Hp} {s:Shared} {p:Addr} {xs ys:List V} {its its':List Value} {n n':Nat} {f:Obj→Obj} (I:Inv X pins σ H s) (h:H p=some (.lst xs))
  (ho:s.heap.get? p=some { cls:=.type "list",data:=.seq its.toArray n }) (hf:f { cls:=.type "list",data:=.seq its.toArray n }={ cls:=.type "list",data:=.seq its'.toArray n' }) (r:aX ys its') (hz:ys.length≤sizeLine) (t:Nat):
  Inv X pins σ (upd H p (.lst ys)) { s with heap:=s.heap.update p f,toks:=t }:=by
 have e:(s.heap.update p f).get? p=some { cls:=.type "list",data:=.seq its'.toArray n' }:=by
  rw [Heap.get?_update_self f ho (by rw [hf] <;> rfl),hf]
 refine I.write (x:=p) (e:=p) (by rw [h];trivial) (.inl rfl) (fun b u hb q=>(Heap.get?_update_other _ _ (Ne.symm hb)).trans q) ⟨_,e⟩ ?_
 exact ⟨hz,its',n',r,e⟩
def zK:V→V→V→Hp→(Hp→Prop)→Prop:=fun o i v H Q=>∃ p xs k j,o=.ref p∧i=.int k∧H p=some (.lst xs)∧ixN xs.length k=some j∧Q (upd H p (.lst (xs.set j v)))
theorem vV:sk X zK:=by
 intro pins s σ H o i v ov iv u Q I ro ri rv h
 obtain ⟨p,xs,k,j,rfl,rfl,hp,hj,q⟩:=h
 cases ro
 obtain ⟨t,rfl⟩:=ri
 obtain ⟨its,n,r,ho,hz⟩:=I.lst hp
 obtain ⟨h1,h2,h3,h4⟩:=qR hj
 have hl:=r.length
 have hn:=ie
 have I':Inv X pins σ (upd H p (.lst (xs.set j v))) { s with heap:=s.heap.update p (Obj.mapSeq (·.setIfInBounds j u)) }:=
   I.lstUpd hp ho (sr its n j u) (r.set rv j) (by rw [List.length_set];exact hz) s.toks
 by_cases h0:0≤k
 · have hk:k.toNat=j:=by
    rw [seqIndex_of h0 h4] at h1
    exact Option.some.inj h1
   exact W.ki_setAt ho h0 (by omega) (by rw [List.size_toArray,←hl];exact h4) (by rw [hk];exact ⟨_,I',q⟩)
 · have hk:(k+(its.toArray.size:Int)).toNat=j:=by
    rw [seqIndex_neg (by omega) h3] at h1
    rw [List.size_toArray,←hl]
    exact Option.some.inj h1
   exact W.ki_setBack ho (by omega) (by rw [List.size_toArray,←hl];exact h3) (by omega) (by rw [hk];exact ⟨_,I',q⟩)
theorem pD (lo hi : Option Int) (n : Nat) : (sliceBounds lo hi none n).1 = ((HT.sIx n 0 lo : Nat) : Int) ∧ (sliceBounds lo hi none n).2.1 = ((HT.sIx n n hi : Nat) : Int) ∧ (sliceBounds lo hi none n).2.2 = 1 := by
  refine ⟨?_, ?_, rfl⟩
  · cases lo with
    | none => simp [sliceBounds, HT.sIx]
    | some i =>
      simp only [sliceBounds, HT.sIx, Option.getD_none, show (1 : Int) > 0 by decide, if_true]
      by_cases h : i < 0
      · simp only [h, if_true] <;> omega
      · simp only [h, if_false] <;> omega
  · cases hi with
    | none => simp [sliceBounds, HT.sIx]
    | some i =>
      simp only [sliceBounds, HT.sIx, Option.getD_none, show (1 : Int) > 0 by decide, if_true]
      by_cases h : i < 0
      · simp only [h, if_true] <;> omega
      · simp only [h, if_false] <;> omega
theorem nD (its:List Value) (lo hi:Option Int):slicePick its.toArray lo hi none=((its.drop (HT.sIx its.length 0 lo)).take (HT.sIx its.length its.length hi - HT.sIx its.length 0 lo)).toArray:=by
 obtain ⟨h1,h2,h3⟩:=pD lo hi its.toArray.size
 unfold slicePick
 rw [h1,h2,h3]
 simp only [sliceRange_one,pick_run,List.size_toArray] <;> rfl
def BC (K:W.Frag):V→Option Int→Option Int→Hp→VK→Prop:=fun x lo hi H Q=>∃ a xs,x=.ref a∧SqL K H a xs∧∀ p,H p=none→Q (.ref p) (upd H p (.lst (dI xs lo hi)))
theorem Al:SlR X (BC X.K):=by
 intro pins s σ H x v vl vu lo hi sl Q I rx hs pl pu h
 obtain ⟨a,xs,rfl,hx,q⟩:=h
 cases rx
 obtain ⟨its,r,ht,hz⟩:=I.list hx
 have hlen:=r.length
 refine ⟨"list",_,slot_list_getitem.lookup,ht.isList.typeIs,?_⟩
 refine wpAny_getItem_list_slice ht.isList hs pl pu .none (by simp) ?_ (by rw [List.size_toArray] <;> omega)
 rw [nD,←hlen]
 refine ⟨.ref s.heap.objs.size,_,I.laid (t':=s.toks) (o:=.lst (dI xs lo hi)) (fun b ob q=>Heap.get?_push_of_some _ q) (Nat.le_refl _) ?_,rfl,q _ (I.hok.fresh (Nat.le_refl _))⟩
 exact ⟨Nat.le_trans (qg xs lo hi) hz,_,0,(r.drop (HT.sIx xs.length 0 lo)).take (HT.sIx xs.length xs.length hi - HT.sIx xs.length 0 lo),Heap.get?_push_size _ rfl⟩
theorem bx.or {f:Value} {r r':List V→Hp→VK→Prop} (h:bx X f r) (h':bx X f r'):bx X f (fun xs H Q=>r xs H Q∨r' xs H Q):=by
 intro pins s σ H xs us Q I rs q
 rcases q with q | q
 · exact h pins s σ H xs us Q I rs q
 · exact h' pins s σ H xs us Q I rs q
def tyV (K:W.Frag) (T:String) (x:V) (H:Hp):Prop:=match x with
 | .str _=>T= "str"
 | .int _=>T= "int"
 | .ref p=>(T= "list" ∧∃ xs,SqL K H p xs)∨(T= "tuple" ∧∃ o,K.lookup p=some o∧o.cls=.type "tuple" ∧o.dict=none)∨
  (T= "dict" ∧((∃ kvs,H p=some (.dK kvs))∨∃ kvs,H p=some (.dT kvs)))∨(T= "set" ∧∃ S n,H p=some (.set S n))
 | _=>False
theorem vi {pins : List (Addr × Obj)} {σ : St} {H : Hp} {s : Shared} {T : String} {x : V} {v : Value} (I : Inv X pins σ H s) (r : aR x v) (ty : tyV X.K T x H) :
    s.TypeIs v T ∧ ∀ a, v = .ref a → ∃ ob, s.heap.get? a = some ob ∧ ob.dict = none := by
  cases x with
  | str z =>
    obtain ⟨t, rfl⟩ := r
    cases (show T = "str" from ty)
    exact ⟨typeIs_str s z t, fun _ e => nomatch e⟩
  | int i =>
    obtain ⟨t, rfl⟩ := r
    cases (show T = "int" from ty)
    exact ⟨typeIs_int s i t, fun _ e => nomatch e⟩
  | ref p =>
    cases r
    rcases ty with ⟨rfl, xs, hq⟩ | ⟨rfl, o, hk, hc, hd⟩ | ⟨rfl, hk⟩ | ⟨rfl, S, n, hk⟩
    · obtain ⟨its, _, pl, _⟩ := I.list hq
      refine ⟨pl.isList.typeIs, fun a e => ?_⟩
      cases e
      obtain ⟨o, n, e, c, hd, _⟩ := pl
      exact ⟨o, e, hd⟩
    · refine ⟨⟨o, I.kIn p o hk, hc⟩, fun a e => ?_⟩
      cases e
      exact ⟨o, I.kIn _ o hk, hd⟩
    · have z : ∃ o, s.heap.get? p = some o ∧ o.ExactDict := by
        rcases hk with ⟨kvs, hk⟩ | ⟨kvs, hk⟩
        · obtain ⟨_, _, _, _, o, _, _, e, ex, _⟩ := I.hok p _ hk
          exact ⟨o, e, ex⟩
        · obtain ⟨_, _, _, _, o, _, _, e, ex, _⟩ := I.hok p _ hk
          exact ⟨o, e, ex⟩
      obtain ⟨o, e, ex⟩ := z
      refine ⟨⟨o, e, ex.1⟩, fun a e2 => ?_⟩
      cases e2
      exact ⟨o, e, ex.2.1⟩
    · obtain ⟨o, _, _, _, e, ex, _⟩ := I.hok p _ hk
      refine ⟨⟨o, e, ex.1⟩, fun a e2 => ?_⟩
      cases e2
      exact ⟨o, e, ex.2.1⟩
  | _ => exact False.elim ty
def yo (K:W.Frag) (T:String) (r:V→List V→Hp→VK→Prop) (to:TE):TE:=fun σ H Q=>to σ H fun x H1=>tyV K T x H1∧r x [] H1 Q
def tBM (K:W.Frag) (T:String) (r:V→List V→Hp→VK→Prop) (to:TE) (t:TA):TE:=fun σ H Q=>to σ H fun x H1=>tyV K T x H1∧t σ H1 fun xs H2=>r x xs H2 Q
variable {o e:Expr} {es:List Expr} {to:TE} {t:TA} {name:Str} {apos cpos:Pos} {T id:String} {r:V→List V→Hp→VK→Prop}
theorem CB (pa:PlainAttrs T) (slot:Slot T name id) (hty:typeOf (.builtin id)=pure (.type "method_descriptor")) (hm:MtR X id r) (ho:PE X o to)
  (hbase:attributeBase o name X.env (eval o X.env)=eval o X.env:=by rfl) (hline:(apos.endLine==cpos.line)=true:=by rfl):PE X (.Call (.Attribute o name apos) [] [] cpos) (yo X.K T r to):=by
 intro pins s σ H Q I h
 refine wpAny_Call_method0_late hbase hline (thn (ho pins s σ H _ I h) fun v s1 ⟨x,H1,I1,r1,ty,q1⟩=>?_)
 obtain ⟨h1,h2⟩:=vi I1 r1 ty
 exact ⟨T,id,pa,slot,hty,h1,h2,Calls.callWith_builtin rfl (PySem.evalArgs_none (hm pins s1 σ H1 x [] v [] Q I1 r1 .nil q1))⟩
theorem HY (pa : PlainAttrs T) (slot : Slot T name id) (hty : typeOf (.builtin id) = pure (.type "method_descriptor")) (hm : MtR X id r) (ho : PE X o to) (ha : PA X (e :: es) t)
  (hbase : attributeBase o name X.env (eval o X.env) = eval o X.env := by rfl)
  (hfew : ((backTo cpos (starEach (e :: es) X.env)).all (fun x => !x.1) && (backToKw cpos (keywordEach [] X.env)).all (fun x => x.1.isSome)
   && decide ((e :: es).length + ([] : List Keyword).length + (if ([] : List Keyword).isEmpty then 0 else 1) < 30)) = true := by rfl)
  (hline : (apos.endLine == cpos.line) = true := by rfl) (hs : starEach (e :: es) X.env = (false, eval e X.env) :: starEach es X.env := by rfl) (hplain : (backTo cpos (starEach es X.env)).any (·.1) = false := by rfl) :
  PE X (.Call (.Attribute o name apos) (e :: es) [] cpos) (tBM X.K T r to t) := by
 intro pins s σ H Q I h
 refine wpAny_Call_method_late hbase hfew hline rfl (thn (ho pins s σ H _ I h) fun v s1 ⟨x, H1, I1, r1, ty, q1⟩ => ?_)
 obtain ⟨h1, h2⟩ := vi I1 r1 ty
 refine ⟨T, id, pa, slot, hty, h1, h2, ?_⟩
 have hA := ha cpos pins s1 σ H1 _ I1 q1
 rw [hs] at hA ⊢
 refine Calls.callWith_builtin (by show (false || (backTo cpos (starEach es X.env)).any (·.1)) = false; rw [hplain] <;> rfl) (Calls.evalArgs_plain ?_)
 exact thn hA fun us s2 ⟨vs, H2, I2, r2, q2⟩ => hm pins s2 σ H2 x vs v us Q I2 r1 r2 q2
end
def MtM (X:Cx) (id:String) (r:V→List V→Hp→VK→Prop):Prop:=
 ∀ (pins:List (Addr×Obj)) (s:Shared) (σ:St) (H:Hp) (x:V) (xs:List V) (v:Value) (us:List Value) (Q:VK),Inv X pins σ H s→aR x v→aX xs us→r x xs H Q→
  wpAny (model X.prog X.w) X.A (call (.builtin id) (v::us)) (EP X pins σ Q) X.xe s
theorem aX.one:∀ {x:V} {us:List Value},aX [x] us→∃ u,us=[u]∧aR x u
 | _,_,.cons r .nil=>⟨_,rfl,r⟩
section
variable {X:Cx} {pins:List (Addr×Obj)} {σ:St} {H:Hp} {s:Shared} {l b:Addr} {xs ys zs:List V}
theorem Inv.lset {its its':List Value} {n:Nat} {f:Array Value→Array Value} {t':Nat} (I:Inv X pins σ H s) (hH:H l=some (.lst xs))
  (e:s.heap.get? l=some { cls:=.type "list",data:=.seq its.toArray n }) (hf:f its.toArray=its'.toArray) (hv:aX ys its') (hz:ys.length≤sizeLine):
  Inv X pins σ (upd H l (.lst ys)) { s with heap:=s.heap.update l (Obj.mapSeq f),toks:=t' }:=by
 have q:=PySem.IsL.update e f
 rw [hf] at q
 refine I.write (x:=l) (e:=l) (by rw [hH];exact trivial) (.inl rfl) (fun b' u hb hu=>(Heap.get?_update_other s.heap (Obj.mapSeq f) (Ne.symm hb)).trans hu) ⟨_,q⟩ ?_
 exact ⟨hz,its',_,hv,q⟩
theorem Inv.lnew {its:List Value} {t':Nat} (I:Inv X pins σ H s) (hv:aX ys its) (hz:ys.length≤sizeLine):
  Inv X pins σ (upd H s.heap.objs.size (.lst ys)) { s with heap:=s.heap.push { cls:=.type "list",data:=.seq its.toArray },toks:=t' }:=
 I.laid (fun _ _ q=>Heap.get?_push_of_some _ q) (Nat.le_refl _) ⟨hz,its,0,hv,Heap.get?_push_size _ rfl⟩
theorem Inv.fresh (I:Inv X pins σ H s):H s.heap.objs.size=none:=I.hok.fresh (Nat.le_refl _)
theorem Inv.lstM (I:Inv X pins σ H s) (hH:H l=some (.lst xs)):xs.length≤sizeLine∧∃ (its:List Value) (n:Nat),aX xs its∧xs.length=its.length∧s.heap.get? l=some { cls:=.type "list",data:=.seq its.toArray n }:=by
 obtain ⟨z,its,n,r,e⟩:=I.hok l _ hH
 exact ⟨z,its,n,r,r.length,e⟩
end
section
variable {X:Cx}
def mq:V→List V→Hp→VK→Prop:=fun x vs H Q=>∃ l xs y,x=.ref l∧vs=[y]∧H l=some (.lst xs)∧xs.length<sizeLine∧Q .non (upd H l (.lst (xs++[y])))
theorem jn:MtM X "list.append" mq:=by
 intro pins s σ H x vs v us Q I rx rv h
 obtain ⟨l,xs,y,rfl,rfl,hH,hz,q⟩:=h
 cases rx
 obtain ⟨u,rfl,ru⟩:=rv.one
 obtain ⟨z,its,n,r,hl,e⟩:=I.lstM hH
 refine call_meets F.slot_list_append ⟨_,e,rfl⟩ F.entry_list_append (F.args_list_append_2 _ _) (PySem.list_append l its.toArray n u (by rw [List.size_toArray];omega)) ⟨e,?_⟩
 refine ⟨.non,_,I.lset (its':=its++[u]) hH e (by simp) (r.append (.cons ru .nil)) ?_,rfl,q⟩
 rw [List.length_append,List.length_singleton]
 omega
def Cc:R2:=fun x y H Q=>∃ l b xs zs,x=.ref l∧y=.ref b∧H l=some (.lst xs)∧H b=some (.lst zs)∧xs.length+zs.length≤sizeLine∧∀ p,H p=none→Q (.ref p) (upd H p (.lst (xs++zs)))
theorem Cv:OpR X (binaryOp .Add) Cc:=by
 intro pins s σ H x y v u Q I rx ry h
 obtain ⟨l,b,xs,zs,rfl,rfl,hH,hB,hz,q⟩:=h
 cases rx
 cases ry
 obtain ⟨z,its,n,r,hl,e⟩:=I.lstM hH
 obtain ⟨z2,its2,n2,r2,hl2,e2⟩:=I.lstM hB
 refine PySem.P.add_list e e2 ?_ (by rw [List.size_toArray,List.size_toArray];omega)
 have ea:its.toArray++its2.toArray=(its++its2).toArray:=by simp
 rw [ea]
 exact ⟨.ref _,_,I.lnew (t':=s.toks) (r.append r2) (by rw [List.length_append];omega),rfl,q _ I.fresh⟩
end
section
variable {prog:Program} {w:World} {A:Around} {E:Value→Shared→Prop} {s:Shared}
set_option maxRecDepth 100000 in
end

section
variable {κ:Type} [DecidableEq κ]
def bD (kvs:List (κ×V)) (k:κ):Option V:=(kvs.find? fun kv=>decide (kv.1=k)).map (·.2)
def cC (kvs:List (κ×V)) (k:κ) (v:V):List (κ×V):=
 if (kvs.any fun kv=>decide (kv.1=k))=true then kvs.map (fun kv=>if kv.1=k then (kv.1,v) else kv) else kvs++[(k,v)]
def iD (kvs:List (κ×V)) (k:κ):List (κ×V):=kvs.filter fun kv=>decide (kv.1≠k)
theorem cK {p:κ×V} {r:List (κ×V)} {k:κ} (e:p.1=k):bD (p::r) k=some p.2:=by simp [bD,List.find?_cons,e]
theorem cL {p:κ×V} {r:List (κ×V)} {k:κ} (e:¬ p.1=k):bD (p::r) k=bD r k:=by simp [bD,List.find?_cons,e]
theorem gz (k : κ) : ∀ kvs : List (κ × V), (kvs.any fun kv => decide (kv.1 = k)) = (bD kvs k).isSome
  | [] => rfl
  | p :: r => by
    rw [List.any_cons]
    by_cases e : p.1 = k
    · simp only [cK e, decide_eq_true e, Bool.true_or, Option.isSome_some]
    · rw [cL e, decide_eq_false e, Bool.false_or]; exact gz k r
theorem pe (k j : κ) (y : V) : ∀ kvs : List (κ × V), bD (kvs.map fun kv => if kv.1 = k then (kv.1, y) else kv) j = (bD kvs j).map fun x => if j = k then y else x
  | [] => rfl
  | p :: r => by
    have ih := pe k j y r
    rw [List.map_cons]
    by_cases h : p.1 = k
    · rw [if_pos h]
      by_cases e : p.1 = j
      · rw [cK (p := (p.1, y)) e, cK e, Option.map_some, if_pos (e.symm.trans h)]
      · rw [cL (p := (p.1, y)) e, cL e, ih]
    · rw [if_neg h]
      by_cases e : p.1 = j
      · rw [cK (p := p) e, cK e, Option.map_some, if_neg (fun z => h (e.trans z))]
      · rw [cL (p := p) e, cL e, ih]
theorem mV (k j : κ) (y : V) : ∀ kvs : List (κ × V), bD kvs k = none → bD (kvs ++ [(k, y)]) j = if j = k then some y else bD kvs j
  | [], _ => by
    by_cases e : k = j
    · rw [if_pos e.symm]; exact cK (p := (k, y)) e
    · rw [if_neg (fun z => e z.symm)]; exact cL (p := (k, y)) e
  | p :: r, hn => by
    rw [List.cons_append]
    have hk : ¬ p.1 = k := fun z => by rw [cK z] at hn; cases hn
    rw [cL hk] at hn
    have ih := mV k j y r hn
    by_cases e : p.1 = j
    · rw [cK e, cK e, if_neg (fun z => hk (e.trans z))]
    · rw [cL e, cL e, ih]
theorem wq (kvs:List (κ×V)) (k j:κ) (y:V):bD (cC kvs k y) j=if j=k then some y else bD kvs j:=by
 unfold cC
 by_cases a:(kvs.any fun kv=>decide (kv.1=k))=true
 · rw [if_pos a,pe]
   rw [gz] at a
   by_cases e:j=k
   · obtain ⟨x,hx⟩:=Option.isSome_iff_exists.mp a
     rw [if_pos e,e,hx,Option.map_some,if_pos rfl]
   · rw [if_neg e]
     cases bD kvs j with
     | none=>rfl
     | some x=>rw [Option.map_some,if_neg e]
 · rw [if_neg a]
   refine mV k j y kvs ?_
   rw [gz] at a
   cases q:bD kvs k with
   | none=>rfl
   | some x=>rw [q] at a;exact (a rfl).elim
theorem fI (kvs:List (κ×V)) (k:κ) (v:V):(cC kvs k v).length≤kvs.length+1:=by
 unfold cC
 split
 · rw [List.length_map];omega
 · rw [List.length_append,List.length_cons,List.length_nil];omega
theorem vp {kvs:List (κ×V)} {k:κ} (v:V) (h:bD kvs k=none):cC kvs k v=kvs++[(k,v)]:=by
 unfold cC
 rw [gz,h]
 exact if_neg (by decide)
theorem dj.isSome_eq {o : Option V} {u : Option Value} (r : dj o u) : o.isSome = u.isSome := by
  cases o with
  | none => cases u with
    | none => rfl
    | some _ => exact (show False from r).elim
  | some _ => cases u with
    | none => exact (show False from r).elim
    | some _ => rfl
theorem KV.val {kvs : List (κ × V)} {vs : List (κ × Value)} (r : KV kvs vs) (k : κ) : dj (bD kvs k) (valueAt vs k) := by
  unfold KV at r
  induction r with
  | nil => exact True.intro
  | @cons p q ps qs h t ih =>
    obtain ⟨h1, h2⟩ := h
    by_cases e : p.1 = k
    · have e' : q.1 = k := h1.symm.trans e
      have b : valueAt (q :: qs) k = some q.2 := by simp [valueAt, List.find?_cons, e']
      rw [cK e, b]; exact h2
    · have e' : ¬ q.1 = k := fun z => e (h1.trans z)
      have b : valueAt (q :: qs) k = valueAt qs k := by simp [valueAt, List.find?_cons, e']
      rw [cL e, b]; exact ih
theorem KV.any {kvs:List (κ×V)} {vs:List (κ×Value)} (r:KV kvs vs) (k:κ):(kvs.any fun kv=>decide (kv.1=k))=vs.any fun kv=>decide (kv.1=k):=by
 unfold KV at r
 induction r with
 | nil=>rfl
 | cons h t ih=>rw [List.any_cons,List.any_cons,ih,h.1]
theorem KV.repl {kvs : List (κ × V)} {vs : List (κ × Value)} (r : KV kvs vs) (k : κ) {y : V} {u : Value} (ry : aR y u) :
    KV (kvs.map fun kv => if kv.1 = k then (kv.1, y) else kv) (vs.map fun kv => if kv.1 = k then (kv.1, u) else kv) := by
  unfold KV at r ⊢
  induction r with
  | nil => exact .nil
  | @cons p q ps qs h t ih =>
    rw [List.map_cons, List.map_cons]
    refine .cons ?_ ih
    obtain ⟨h1, h2⟩ := h
    by_cases e : p.1 = k
    · rw [if_pos e, if_pos (h1.symm.trans e)]; exact ⟨h1, ry⟩
    · rw [if_neg e, if_neg (fun z => e (h1.trans z))]; exact ⟨h1, h2⟩
theorem KV.put {kvs:List (κ×V)} {vs:List (κ×Value)} (r:KV kvs vs) (k:κ) {y:V} {u:Value} (ry:aR y u):KV (cC kvs k y) (stored vs k u):=by
 unfold cC stored
 rw [r.any k]
 by_cases e:(vs.any fun kv=>decide (kv.1=k))=true
 · rw [if_pos e,if_pos e];exact r.repl k ry
 · rw [if_neg e,if_neg e];exact Paired.snoc r ⟨rfl,ry⟩
theorem KV.drop {kvs : List (κ × V)} {vs : List (κ × Value)} (r : KV kvs vs) (k : κ) : KV (iD kvs k) (without vs k) := by
  unfold KV at r ⊢
  unfold iD without
  induction r with
  | nil => exact .nil
  | @cons p q ps qs h t ih =>
    obtain ⟨h1, h2⟩ := h
    rw [List.filter_cons, List.filter_cons]
    by_cases e : p.1 = k
    · have a : ¬ decide (p.1 ≠ k) = true := by simp [e]
      have b : ¬ decide (q.1 ≠ k) = true := by simp [h1.symm.trans e]
      rw [if_neg a, if_neg b]; exact ih
    · have e' : ¬ q.1 = k := fun z => e (h1.trans z)
      have a : decide (p.1 ≠ k) = true := by simp [e]
      have b : decide (q.1 ≠ k) = true := by simp [e']
      rw [if_pos a, if_pos b]; exact .cons ⟨h1, h2⟩ ih
theorem KV.length {kvs:List (κ×V)} {vs:List (κ×Value)} (r:KV kvs vs):kvs.length=vs.length:=Paired.length r
theorem xA (kvs:List (κ×V)) (k:κ):(iD kvs k).length≤kvs.length:=List.length_filter_le _ _
end
theorem iT {P:Program} {w:World} {k:Key} {u:Value} (r:aR (kV k) u):(bN P w).is k u=true:=by
 cases k with
 | inl i=>obtain ⟨t,e⟩:=(show ∃ t,u=Value.int i t from r);subst e;exact qp P w i t
 | inr x=>obtain ⟨t,e⟩:=(show ∃ t,u=Value.str x t from r);subst e;exact qm P w x t
theorem Du {a b : Key} (e : kV a = kV b) : a = b := by
  cases a with
  | inl i => cases b with
    | inl j => have e' : V.int i = V.int j := e; injection e' with e'; rw [e']
    | inr y => exact nomatch (show V.int i = V.str y from e)
  | inr x => cases b with
    | inl j => exact nomatch (show V.str x = V.int j from e)
    | inr y => have e' : V.str x = V.str y := e; injection e' with e'; rw [e']
theorem qW : ∀ {a b : List Key}, a.map kV = b.map kV → a = b
  | [], [], _ => rfl
  | [], _ :: _, e => by simp at e
  | _ :: _, [], e => by simp at e
  | x :: xs, y :: ys, e => by
    rw [List.map_cons, List.map_cons] at e
    injection e with e1 e2
    rw [Du e1, qW e2]
theorem mR {P : Program} {w : World} : ∀ {ks : List Key} {us : List Value}, aX (ks.map kV) us → ItemsAre (bN P w) ks us
  | [], _, r => by rw [List.map_nil] at r; cases r; exact .nil
  | k :: ks, _, r => by
    rw [List.map_cons] at r
    cases r with
    | cons h t => exact .cons (iT h) (mR t)
abbrev KT (H:Hp):List (List Key×V)→List (List Key×Addr×Value)→Prop:=Paired fun p q=>p.1=q.1∧H q.2.1=some (.tup (p.1.map kV))∧aR p.2 q.2.2
theorem KT.val {H : Hp} {kvs : List (List Key × V)} {xs : List (List Key × Addr × Value)} (r : KT H kvs xs) (k : List Key) : dj (bD kvs k) ((atKey xs k).map (·.2)) := by
  induction r with
  | nil => exact True.intro
  | @cons p q ps qs h t ih =>
    obtain ⟨h1, _, h2⟩ := h
    by_cases e : p.1 = k
    · have e' : q.1 = k := h1.symm.trans e
      have b : atKey (q :: qs) k = some q.2 := by simp [atKey, List.find?_cons, e']
      rw [cK e, b]; exact h2
    · have e' : ¬ q.1 = k := fun z => e (h1.trans z)
      have b : atKey (q :: qs) k = atKey qs k := by simp [atKey, List.find?_cons, e']
      rw [cL e, b]; exact ih
theorem KT.repl {H : Hp} {kvs : List (List Key × V)} {xs : List (List Key × Addr × Value)} (r : KT H kvs xs) (k : List Key) {y : V} {u : Value} (ry : aR y u) :
    KT H (kvs.map fun kv => if kv.1 = k then (kv.1, y) else kv) (xs.map (putAt k u)) := by
  induction r with
  | nil => exact .nil
  | @cons p q ps qs h t ih =>
    rw [List.map_cons, List.map_cons]
    refine .cons ?_ ih
    obtain ⟨h1, h2, h3⟩ := h
    unfold putAt
    by_cases e : p.1 = k
    · rw [if_pos e, if_pos (h1.symm.trans e)]; exact ⟨h1, h2, ry⟩
    · rw [if_neg e, if_neg (fun z => e (h1.trans z))]; exact ⟨h1, h2, h3⟩
theorem KT.put {H:Hp} {kvs:List (List Key×V)} {xs:List (List Key×Addr×Value)} (r:KT H kvs xs) (k:List Key) {b:Addr} {y:V} {u:Value} (hb:H b=some (.tup (k.map kV))) (ry:aR y u):
   KT H (cC kvs k y) (storedH xs k b u):=by
 have e:(kvs.any fun kv=>decide (kv.1=k))=(atKey xs k).isSome:=by
   rw [gz,(r.val k).isSome_eq,Option.isSome_map]
 unfold cC storedH
 rw [e]
 by_cases q:(atKey xs k).isSome=true
 · rw [if_pos q,if_pos q];exact r.repl k ry
 · rw [if_neg q,if_neg q];exact Paired.snoc r ⟨rfl,hb,ry⟩
theorem KT.keeps {H H':Hp} {kvs:List (List Key×V)} {xs:List (List Key×Addr×Value)} (r:KT H kvs xs) (ht:∀ b ys,H b=some (.tup ys)→H' b=some (.tup ys)):KT H' kvs xs:=
 Paired.mapP r fun _ _ z=>⟨z.1,ht _ _ z.2.1,z.2.2⟩
section
variable {P:Program} {w:World} {H:Hp} {h:Heap} {a:Addr}
theorem yM {u:HO} (ok:HOk P w H h) (e:Rd H a u):bh P w H h a u:=e.ok ok
theorem iS {kvs:List (Key×V)} (ok:HOk P w H h) (e:Rd H a (.dK kvs)):kvs.length≤sizeLine∧(a==sysModules)=false∧∃ vs,KV kvs vs∧h.DictOf (bN P w) a vs:=
 show bh P w H h a (.dK kvs) from yM ok e
theorem jR {kvs:List (Key×V)} (ok:HOk P w H h) (e:H a=some (.dK kvs)):kvs.length≤sizeLine∧(a==sysModules)=false∧∃ vs,KV kvs vs∧h.DictOf (bN P w) a vs:=iS ok (.inl e)
theorem gZ {ks:List Key} (ok:HOk P w H h) (e:H a=some (.tup (ks.map kV))):(tupleKind (bN P w)).is h ks a:=by
 obtain ⟨_,its,r,o,h1,h2,n,h3⟩:=(show bh P w H h a (.tup (ks.map kV)) from ok a _ e)
 exact ⟨o,its.toArray,n,h1,h2,h3,by simpa using mR r⟩
theorem kM {kvs : List (List Key × V)} (ok : HOk P w H h) (e : Rd H a (.dT kvs)) : kvs.length ≤ sizeLine ∧ (a == sysModules) = false ∧
    ∃ xs, KT H kvs xs ∧ h.DictOfH (tupleKind (bN P w)) a xs := by
  obtain ⟨z, y, xs, r, o, es, ep, h1, h2, h3, h4, h5⟩ := (show bh P w H h a (.dT kvs) from yM ok e)
  refine ⟨z, y, xs, r, o, es, ep, h1, h2, h3, h4, fun x hx => ?_, h5⟩
  have all : ∀ {l : List (List Key × V)} {m : List (List Key × Addr × Value)}, KT H l m → ∀ x ∈ m, (tupleKind (bN P w)).is h x.1 x.2.1 := by
    intro l m q
    induction q with
    | nil => intro x hx; exact nomatch hx
    | @cons p q ps qs hq t ih =>
      intro x hx
      rcases List.mem_cons.mp hx with e | hx
      · subst e
        exact gZ ok (by rw [← hq.1]; exact hq.2.1)
      · exact ih x hx
  exact all r x hx
theorem rM {kvs:List (List Key×V)} (ok:HOk P w H h) (e:H a=some (.dT kvs)):kvs.length≤sizeLine∧(a==sysModules)=false∧
 ∃ xs,KT H kvs xs∧h.DictOfH (tupleKind (bN P w)) a xs:=kM ok (.inl e)
end
def eJ (H:Hp) (a:Addr) (y:V) (r:Option V):Prop:=
 (∃ kvs k,Rd H a (.dK kvs)∧y=kV k∧r=bD kvs k)∨∃ kvs k b,Rd H a (.dT kvs)∧y=.ref b∧H b=some (.tup (k.map kV))∧r=bD kvs k
def mz (H:Hp) (a:Addr) (y v:V) (H':Hp):Prop:=
 (∃ kvs k,H a=some (.dK kvs)∧y=kV k∧kvs.length<sizeLine∧H'=upd H a (.dK (cC kvs k v)))∨
 ∃ kvs k b,H a=some (.dT kvs)∧y=.ref b∧H b=some (.tup (k.map kV))∧kvs.length<sizeLine∧H'=upd H a (.dT (cC kvs k v))
theorem eJ.k {H:Hp} {a:Addr} {kvs:List (Key×V)} {k:Key} (e:H a=some (.dK kvs)):eJ H a (kV k) (bD kvs k):=.inl ⟨kvs,k,.inl e,rfl,rfl⟩
theorem eJ.t {H:Hp} {a b:Addr} {kvs:List (List Key×V)} {k:List Key} (e:H a=some (.dT kvs)) (eb:H b=some (.tup (k.map kV))):eJ H a (.ref b) (bD kvs k):=.inr ⟨kvs,k,b,.inl e,rfl,eb,rfl⟩
theorem mz.k {H:Hp} {a:Addr} {kvs:List (Key×V)} {k:Key} {v:V} (e:H a=some (.dK kvs)) (hl:kvs.length<sizeLine):mz H a (kV k) v (upd H a (.dK (cC kvs k v))):=.inl ⟨kvs,k,e,rfl,hl,rfl⟩
section
variable {X:Cx} {pins:List (Addr×Obj)} {σ:St} {H:Hp} {s:Shared} {a:Addr} {y v:V} {u r:Value} {o:Option V} {A:Around} {E:Value→Shared→Prop}
theorem Inv.big (I:Inv X pins σ H s):sysModules<s.heap.objs.size:=by
 have h:mainGlobals<s.heap.objs.size:=(I.mod.glob.keeps I.bk).lt
 exact Nat.lt_trans (by decide) h
theorem tN {Q:Value→Shared→Prop} (hu:A.units+1<cLine) (I:Inv X pins σ H s) (g:eJ H a y (some v)) (ry:aR y u) (h:∀ w' s',Inv X pins σ H s'→aR v w'→Q w' s'):
   wpAny (model X.prog X.w) A (getItem (.ref a) u) Q E s:=by
 rcases g with ⟨kvs,k,e,ey,l⟩ | ⟨kvs,k,b,e,ey,eb,l⟩
 · subst ey
   obtain ⟨z,hd,vs,rel,dd⟩:=iS I.hok e
   obtain ⟨w',hw,rw'⟩:=dj.some_of (v:=v) (o:=valueAt vs k) (by rw [l];exact rel.val k)
   exact wpAny_getItem_of (iT ry) dd.mapOf hw (h w' _ (I.tok _) rw')
 · subst ey
   cases (show u=Value.ref b from ry)
   obtain ⟨z,hd,xs,rel,dd⟩:=kM I.hok e
   obtain ⟨w',hw,rw'⟩:=dj.some_of (v:=v) (o:=(atKey xs k).map (·.2)) (by rw [l];exact rel.val k)
   obtain ⟨p,hp,hp2⟩:=Option.map_eq_some_iff.mp hw
   refine wpAny_getItem_heap (tupleKind_room_in1 hu) (gZ I.hok eb) dd hp ?_
   rw [hp2]
   exact h w' _ (I.tok _) rw'
theorem Am {Q:Value→Shared→Prop} (hu:A.units+1<cLine) (I:Inv X pins σ H s) (g:eJ H a y o) (ry:aR y u) (h:∀ s',Inv X pins σ H s'→Q (.bool (!o.isSome)) s'):
   wpAny (model X.prog X.w) A (compareOp .NotIn u (.ref a)) Q E s:=by
 rcases g with ⟨kvs,k,e,ey,l⟩ | ⟨kvs,k,b,e,ey,eb,l⟩
 · subst ey
   obtain ⟨z,hd,vs,rel,dd⟩:=iS I.hok e
   refine wpAny_notIn_of (iT ry) hd dd.mapOf ?_
   rw [← (rel.val k).isSome_eq,←l]
   exact h _ (I.tok _)
 · subst ey
   cases (show u=Value.ref b from ry)
   obtain ⟨z,hd,xs,rel,dd⟩:=kM I.hok e
   refine wpAny_notIn_heap (tupleKind_room_in1 hu) (gZ I.hok eb) hd dd ?_
   have q:=(rel.val k).isSome_eq
   rw [Option.isSome_map] at q
   rw [← q,←l]
   exact h _ (I.tok _)
theorem gY {h':Heap} {t':Nat} {ob:HO} (I:Inv X pins σ H s) (mu:Mut (H a)) (hs:Heap.SameBut a s.heap h') (he:∃ q,h'.get? a=some q) (new:bh X.prog X.w (upd H a ob) h' a ob):
  Inv X pins σ (upd H a ob) { s with heap:=h',toks:=t' }:=
 I.write (x:=a) (e:=a) mu (.inl rfl) (fun b q hb z=>(hs.2 b hb).trans z) he new
theorem lT {P:Program} {w:World} {H':Hp} {h':Heap} {kvs:List (Key×V)} {vs:List (Key×Value)} (z:kvs.length≤sizeLine) (hd:(a==sysModules)=false) (rel:KV kvs vs) (dd:h'.DictOf (bN P w) a vs):
 bh P w H' h' a (.dK kvs):=⟨z,hd,vs,rel,dd⟩
theorem tI {H':Hp} {Q:Unit→Shared→Prop} (hu:A.units+1<cLine) (I:Inv X pins σ H s) (g:mz H a y v H') (ry:aR y u) (rv:aR v r) (h:∀ s',Inv X pins σ H' s'→Q () s'):
   wpAny (model X.prog X.w) A (setItem (.ref a) u r) Q E s:=by
 rcases g with ⟨kvs,k,e,ey,l,eH⟩ | ⟨kvs,k,b,e,ey,eb,l,eH⟩
 · subst ey eH
   obtain ⟨z,hd,vs,rel,dd⟩:=jR I.hok e
   have hz:vs.length≤sizeLine:=by rw [← rel.length];exact z
   have hl:(cC kvs k v).length≤sizeLine:=by have:=fI kvs k v;omega
   refine wpAny_setItem_pairs (hsz:=hz) (iT ry) dd fun h' dd' hs=>h _ ?_
   have he:∃ q,h'.get? a=some q:=let ⟨q,_,_,hq,_⟩:=dd';⟨q,hq⟩
   exact gY I (by rw [e];exact True.intro) hs he (lT hl hd (rel.put k rv) dd')
 · subst ey eH
   cases (show u=Value.ref b from ry)
   obtain ⟨z,hd,xs,rel,dd⟩:=rM I.hok e
   have hz:xs.length≤sizeLine:=by rw [← Paired.length rel];exact z
   have hl:(cC kvs k v).length≤sizeLine:=by have:=fI kvs k v;omega
   refine wpAny_setItem_heap (hsz:=hz) (tupleKind_room_in1 hu) (gZ I.hok eb) dd fun h' dd' hs=>h _ ?_
   obtain ⟨q,es,ep,hq,h2,h3,h4,_,h5⟩:=dd'
   refine gY I (by rw [e];exact True.intro) hs ⟨q,hq⟩ ⟨hl,hd,_,(rel.put k eb rv).keeps fun c ys ec=>?_,q,es,ep,hq,h2,h3,h4,h5⟩
   rw [ap (cf ec e (fun z=>nomatch z))]
   exact ec
end
section
variable {X:Cx} {pins:List (Addr×Obj)} {σ:St} {H:Hp} {s:Shared} {a:Addr} {kvs:List (Key×V)} {k:Key} {u:Value} {A:Around} {E:Value→Shared→Prop}
theorem Ii {v:V} {more:List Value} {Q:Value→Shared→Prop} (I:Inv X pins σ H s) (e:H a=some (.dK kvs)) (ry:aR (kV k) u) (l:bD kvs k=some v) (hm:more=[]∨∃ x,more=[x])
  (h:∀ w' s',Inv X pins σ (upd H a (.dK (iD kvs k))) s'→aR v w'→Q w' s'):wpAny (model X.prog X.w) A (call (.builtin "dict.pop") (.ref a::u::more)) Q E s:=by
 obtain ⟨z,hd,vs,rel,dd⟩:=jR I.hok e
 obtain ⟨w',hw,rw'⟩:=dj.some_of (v:=v) (o:=valueAt vs k) (by rw [← l];exact rel.val k)
 have hp:(keyPart u).isSome=true:=by
  cases k with
  | inl i=>obtain ⟨t,q⟩:=(show ∃ t,u=Value.int i t from ry);subst q;rfl
  | inr x=>obtain ⟨t,q⟩:=(show ∃ t,u=Value.str x t from ry);subst q;rfl
 have ha:argsOk "dict.pop" ⟨.ref a::u::more,[]⟩:=by
  rcases hm with q | ⟨x,q⟩
  · subst q;exact PySem.F.args_dict_pop_2 _ _
  · subst q;exact PySem.F.args_dict_pop_3 _ _ _
 refine call_meetsIn PySem.F.slot_dict_pop dd.typeIs PySem.F.entry_dict_pop ha (meets_dict_pop_there (bN X.prog X.w) a (iT ry) more hm hp)
  ⟨vs,w',dd,by rw [← rel.length];exact z,hw,fun h' dd' hs=>h w' _ ?_ rw'⟩
 have he:∃ q,h'.get? a=some q:=let ⟨q,_,_,hq,_⟩:=dd';⟨q,hq⟩
 exact gY I (by rw [e];exact True.intro) hs he (lT (Nat.le_trans (xA kvs k) z) hd (rel.drop k) dd')
theorem Ff {Q:Value→Shared→Prop} (I:Inv X pins σ H s) (e:Rd H a (.dK kvs)) (h:∀ t s',Inv X pins σ H s'→Q (.int kvs.length t) s'):wpAny (model X.prog X.w) A (call (.builtin "len") [.ref a]) Q E s:=by
 obtain ⟨z,hd,vs,rel,dd⟩:=iS I.hok e
 refine call_len_dict hd dd (by rw [← rel.length];rw [sizeLine_eq] at z;omega) ?_
 rw [← rel.length]
 exact h _ _ (I.tok _)
end
theorem qi {X:Cx} {pins:List (Addr×Obj)} {σ:St} {H:Hp} {s:Shared} {a:Addr} {y:V} {o:Option V} (I:Inv X pins σ H s) (g:eJ H a y o):s.TypeIs (.ref a) "dict" :=by
 rcases g with ⟨kvs,k,e,_,_⟩ | ⟨kvs,k,b,e,_,_,_⟩
 · obtain ⟨_,_,vs,_,dd⟩:=iS I.hok e
   exact dd.typeIs
 · obtain ⟨_,_,xs,_,dd⟩:=kM I.hok e
   exact dd.typeIs
theorem yw {P:Program} {w:World} {H:Hp} (h:Heap) (hb:sysModules<h.objs.size):bh P w H (h.push { cls:=.type "dict",data:=.dict #[] }) h.objs.size (.dK []):=
 ⟨Nat.zero_le _,beq_eq_false_iff_ne.mpr (Ne.symm (Nat.ne_of_lt hb)),[],.nil,Heap.DictOf.new h⟩
theorem wo {P:Program} {w:World} {H:Hp} (h:Heap) (hb:sysModules<h.objs.size):bh P w H (h.push { cls:=.type "dict",data:=.dict #[] }) h.objs.size (.dT []):=
 ⟨Nat.zero_le _,beq_eq_false_iff_ne.mpr (Ne.symm (Nat.ne_of_lt hb)),[],.nil,_,#[],0,Heap.get?_push_size _ rfl,⟨rfl,rfl,rfl⟩,rfl,rfl,List.nodup_nil⟩
def uX:TE:=fun _ H Q=>∀ p,H p=none→Q (.ref p) (upd H p (.dK []))
def ux:TE:=fun _ H Q=>∀ p,H p=none→Q (.ref p) (upd H p (.dT []))
section
variable {X:Cx} {pos:Pos}
theorem vy:PE X (.Dict [] [] pos) uX:=fun pins s σ H Q I h=>
 wpAny_Dict_empty ⟨.ref s.heap.objs.size,_,I.laid (a:=s.heap.objs.size) (o:=.dK []) (t':=s.toks) (fun _ _ q=>Heap.get?_push_of_some _ q) (Nat.le_refl _) (yw s.heap I.big),rfl,h _ (I.hok.fresh (Nat.le_refl _))⟩
theorem vG:PE X (.Dict [] [] pos) ux:=fun pins s σ H Q I h=>
 wpAny_Dict_empty ⟨.ref s.heap.objs.size,_,I.laid (a:=s.heap.objs.size) (o:=.dT []) (t':=s.toks) (fun _ _ q=>Heap.get?_push_of_some _ q) (Nat.le_refl _) (wo s.heap I.big),rfl,h _ (I.hok.fresh (Nat.le_refl _))⟩
end
section
variable {X:Cx} {pins:List (Addr×Obj)} {σ:St} {H:Hp} {s:Shared} {a:Addr} {kvs:List (Key×V)} {A:Around} {E:Value→Shared→Prop}
theorem xV {Q:Value→Shared→Prop} (I:Inv X pins σ H s) (e:Rd H a (.dK kvs)) (h:∀ p s',H p=none→Inv X pins σ (upd H p (.dK kvs)) s'→Q (.ref p) s'):wpAny (model X.prog X.w) A (call (.type "dict") [.ref a]) Q E s:=by
 obtain ⟨z,hd,vs,rel,dd⟩:=iS I.hok e
 refine kt_call_dict hd dd (by rw [← rel.length];exact z) fun h' dd' hs=>?_
 refine h _ _ (I.hok.fresh (Nat.le_refl _)) (I.laid (a:=s.heap.objs.size) (o:=.dK kvs) (t':=s.toks) (fun b q hq=>?_) (Nat.le_refl _) (lT z (beq_eq_false_iff_ne.mpr (Ne.symm (Nat.ne_of_lt I.big))) rel dd'))
 exact (hs.2 b (Nat.ne_of_lt (Heap.lt_size hq))).trans (Heap.get?_push_of_some _ hq)
end

end L2
namespace Att
open PySem PySem.W PySem.Calls PyProof.Rows
theorem ints_of_wellAll {P : Params} {h : Heap} : ∀ (ns : List Int) (vs : List Value), WellAll P h vs (ns.map WData.int) → IntsAre vs ns := by
  intro ns
  induction ns with
  | nil =>
    intro vs w
    rw [List.map_nil] at w
    cases w
    exact .nil
  | cons n ns ih =>
    intro vs w
    rw [List.map_cons] at w
    cases w with
    | cons a b =>
      cases a
      exact .cons _ _ (ih _ b)
theorem script_of {l : OpenLaw} {n : Nat} (hn : l.most = some n) {P : Params} {h : Heap} {args : List WData} {vals : List Value}
    (hpre : l.row.toRowW.claim.pre args = true) (hwl : WellAll P h vals args) :
    ∃ a vs ns, vals = [Value.ref a] ∧ args = [WData.list (ns.map WData.int)] ∧ h.get? a = some { cls := .type "list", data := .seq vs.toArray } ∧ IntsAre vs ns ∧ ns.length ≤ n := by
  have hsh : WShape.hasAll [] args [.list .int] = true := (pre_splitW hpre).1
  have hc : l.pre.holds [] { args := args } = true := (pre_splitW hpre).2
  obtain ⟨d, r, rfl, h1, h2⟩ := hasAllW_cons hsh
  obtain rfl := hasAllW_nil h2
  obtain ⟨xs, rfl, h3⟩ := hasW_list h1
  obtain ⟨ns, rfl⟩ := items_int h3
  have hlen : ns.length ≤ n := by
    unfold OpenLaw.pre at hc
    have h4 : (WTm.not (.lt (.lit (.int (n : Int))) (.len (.arg 0)))).holds [] { args := [.list (ns.map .int)] } = true := by
      have h4 := (holds_andW hc).1
      rw [hn] at h4
      exact h4
    have h5 := condW_of h4 (w_not (w_lt w_lit (w_len_list (w_arg rfl))))
    rw [List.length_map] at h5
    refine Nat.le_of_not_lt fun q => ?_
    have q' : (n : Int) < ((ns.length : Nat) : Int) := by omega
    first
      | (rw [decide_eq_true q'] at h5; exact absurd h5 (by decide))
      | (simp at h5; omega)
  cases hwl with
  | cons w1 w2 =>
    cases w2
    cases w1 with
    | list ho hall => exact ⟨_, _, ns, rfl, rfl, ho, ints_of_wellAll ns _ hall, hlen⟩
theorem post_true (l:OpenLaw) (args:List WData):l.row.toRowW.claim.post args (.bool true) args=true:=
 postW_of (r:=l.row.toRowW) (X:=(true==true))
  (show WShape.has [] (.bool true) .bool=true by first | rfl | decide | simp [WShape.has,WShape.arms,WShape.armsAll])
  (show (WTm.eq .res (.lit (.bool true))).value [] { args:=args,res:=some (.bool true),after:=args }=some (.bool (true==true)) from w_eq_bool (w_res rfl) w_lit) rfl
theorem attach_call {l : OpenLaw} {n : Nat} {q : Program} {loose : List Str} {XP : (Str → Option Value) → Heap → Prop} {YP : World → Heap → Prop} {d : DefRec}
  (hn : l.most = some n) (hdf : d.params.defaults = [])
  (call : ∀ (w : World) (s₀ s₁ : Shared) (mg mb : Str → Option Value) (fa : Addr) (o : Obj) (pm cd doc : Value) (a : Addr) (vs : List Value) (ns : List Int),
   Ground q loose [] XP w s₀ mg mb s₁.heap → YP w s₁.heap →
   s₁.heap.get? fa = some o → o.data = .func (docDef d.name d.params d.body d.scope pm cd doc) → s₁.heap.CodeRec cd d.name → mg d.name = some (.ref fa) →
   s₁.heap.get? a = some { cls := .type "list", data := .seq vs.toArray } → IntsAre vs ns → ns.length ≤ n → s₁.gens = #[] →
   codeAny (model l.prog w) callerA (.call (.ref fa) ⟨[.ref a], []⟩) (fun r s' => r = .ok (.ret (.bool true)) ∧ OldK s₁.heap s'.heap ∧ s'.os = s₁.os ∧ AllBare s'.gens) s₁) :
  WalkO q loose XP YP l.row.toRowW d [] (fun f vs => PySem.call f vs) := by
 intro w s₀ s₁ mg mb G Y fa o pm cd doc dV kV ho hd hcd hD hmg hg args vals as hpre hlay hrd hwl hlo
 obtain rfl : dV = .none := Dflts.none hD hdf
 obtain rfl : kV = .none := Dflts.noKw hD
 obtain ⟨a, vs, ns, rfl, rfl, hobj, hints, hlen⟩ := script_of hn hpre hwl
 refine enter_call (codeAny_mono (call w s₀ s₁ mg mb fa o pm cd doc a vs ns G Y ho (fd_plain hd) hcd hmg hobj hints hlen hg) fun r s' hq => ?_)
 obtain ⟨rfl, h2, h3, h4⟩ := hq
 exact ⟨.inl ⟨.bool true, .bool true, [], rfl, fun _ => rfl, .bool true, post_true l _, fun _ => ⟨List.Pairwise.nil, fun _ hm => (nomatch hm)⟩⟩, h2, h3, h4⟩

end Att
namespace L2
open PySem PySem.Spec PyProof.Rows
theorem jw:∀ {vs:List Value} {ns:List Int},IntsAre vs ns→aX (ns.map V.int) vs
 | _,_,.nil=> .nil
 | _,_,.cons n t h=> .cons ⟨t,rfl⟩ (jw h)
def bC (s:Stmt):Arguments:=match s with
 | .FunctionDef _ a _ _ _ _ _ _ _ _=>a
 | _=>{ posonlyargs:=[],args:=[],vararg:=none,kwonlyargs:=[],kw_defaults:=[],kwarg:=none,defaults:=[] }
def aS (s:Stmt):List Stmt:=match s with
 | .FunctionDef _ _ b _ _ _ _ _ _ _=>b
 | _=>[]
def ag (s:Stmt):Scope:=match s with
 | .FunctionDef _ _ _ _ _ _ sc _ _ _=>sc
 | _=>{ kind:=.function,names:=[],isGenerator:=false,isCoroutine:=false }
abbrev E0:XK:=fun _ _ _=>False
structure Fun (K:W.Frag) (x qual:Str) (st:Stmt) (f:Addr) (fd:FuncData):Prop where
 ex:∃ (oc:Value) (od:Option Addr) (kV doc pm:Value) (an:Option Addr) (cdv ct:Value) (osl:Array (Option Value)),
  fd=W.fnOf x qual (bC st) (aS st) (ag st) .none kV doc pm an cdv ct∧K.lookup f=some ⟨oc,od,.func fd,osl⟩∧W.codeIn K cdv qual=true
 kp:W.keepIn K (.ref f)=true
section
variable {P:Program} {w:World} {K:W.Frag} {mg:Str→Option Value} {base:Heap}
theorem Fun.binds {x qual:Str} {st:Stmt} {f:Addr} {fd:FuncData} {ps:List Str} (F:Fun K x qual st f fd)
  (h:∀ (kV doc pm:Value) (an:Option Addr) (cdv ct:Value) (us:List Value),us.length=ps.length→bindArgs (W.fnOf x qual (bC st) (aS st) (ag st) .none kV doc pm an cdv ct) ⟨us,[]⟩=pure (ps.zip us)):be K fd ps []:=by
 obtain ⟨oc,od,kV,doc,pm,an,cdv,ct,osl,rfl,lk,hcd⟩:=F.ex
 exact .all (h kV doc pm an cdv ct)
theorem bA {x qual:Str} {st:Stmt} {f:Addr} {oc:Value} {od an:Option Addr} {osl:Array (Option Value)} {kV doc pm cdv ct:Value} (l:K.lookup f=some ⟨oc,od,.func (W.fnOf x qual (bC st) (aS st) (ag st) .none kV doc pm an cdv ct),osl⟩)
 (c:W.codeIn K cdv qual=true) (k:W.keepIn K (.ref f)=true):Fun K x qual st f (W.fnOf x qual (bC st) (aS st) (ag st) .none kV doc pm an cdv ct):=⟨⟨oc,od,kV,doc,pm,an,cdv,ct,osl,rfl,l,c⟩,k⟩
end
theorem fK {n:Nat} (h:n≤1000):n<sizeLine:=Nat.lt_of_le_of_lt h (by decide)
section
variable {X:Cx}
theorem tV:bx X (.builtin "len") (fun xs H Q=>∃ a kvs,xs=[V.ref a]∧H a=some (.dK kvs)∧Q (.int kvs.length) H):=by
 intro pins s σ H xs us Q I r h
 obtain ⟨a,kvs,rfl,ha,q⟩:=h
 obtain ⟨u,rfl,ru⟩:=eS r
 cases ru
 exact Ff I (.inl ha) fun t s' I'=>⟨.int kvs.length,H,I',⟨t,rfl⟩,q⟩
end
theorem sy {A B:Prop} (h:B):if false=true then A else B:=by
 rw [if_neg Bool.false_ne_true]
 exact h
theorem xT {A B:Prop} (h:A):if true=true then A else B:=by
 rw [if_pos rfl]
 exact h
def au (H H':Hp):Prop:=∀ b o,H b=some o→H' b=some o
theorem au.refl (H:Hp):au H H:=fun _ _ h=>h
theorem au.trans {H H1 H2:Hp} (a:au H H1) (b:au H1 H2):au H H2:=fun c o h=>b c o (a c o h)
theorem au.seq {K:W.Frag} {H H':Hp} {a:Addr} {xs:List V} (e:au H H') (h:SqL K H a xs):SqL K H' a xs:=by
 rcases h with (h | ⟨o,h⟩) | h
 · exact .inl (.inl (e _ _ h))
 · exact .inl (.inr ⟨o,e _ _ h⟩)
 · exact .inr h

def dG:List (Str×NameKind)→List (Str×Addr)→List (Str×Addr)→List (Str×Addr)
 | [],_,cs=>cs
 | (n,k)::r,cells,cs=>dG r cells (if k==.free then (match cells.lookup n with | some a=>(n,a)::cs | none=>cs) else cs)
theorem pM {scope : Scope} {env : Env} (h : ∀ y ∈ scope.names, y.2 = .free → (env.cells.lookup y.1).isSome = true) : closureFor scope env = pure (dG scope.names env.cells []) := by
  have key : ∀ (l : List (Str × NameKind)) (cs : List (Str × Addr)), (∀ y ∈ l, y.2 = .free → (env.cells.lookup y.1).isSome = true) →
      (forIn l cs (fun (x : Str × NameKind) (cs : List (Str × Addr)) => (if (x.2 == NameKind.free) = true then (do let a ← cellOf env x.1; pure (ForInStep.yield ((x.1, a) :: cs))) else (pure (ForInStep.yield cs) : Sem _))) : Sem (List (Str × Addr))) = pure (dG l env.cells cs) := by
    intro l
    induction l with
    | nil => intro cs _; rfl
    | cons y r ih =>
      intro cs hy
      obtain ⟨n, k⟩ := y
      rw [List.forIn_cons]
      by_cases hk : k = .free
      · subst hk
        have hs := hy (n, .free) List.mem_cons_self rfl
        cases e : env.cells.lookup n with
        | none => rw [e] at hs; cases hs
        | some a =>
          have := ih ((n, a) :: cs) (fun z hz => hy z (List.mem_cons_of_mem _ hz))
          simp only [dG, beq_self_eq_true, if_true, e, cellOf, pure_bind]
          exact this
      · have hb : (k == NameKind.free) = false := by simpa using hk
        have := ih cs (fun z hz => hy z (List.mem_cons_of_mem _ hz))
        simp only [dG, hb, Bool.false_eq_true, if_false, pure_bind]
        exact this
  have := key scope.names [] h
  unfold closureFor
  simpa using this
theorem ny : ∀ {l : List (Str × NameKind)} {cells cs : List (Str × Addr)} {x : Str} {c : Addr}, (∀ x c, cs.lookup x = some c → cells.lookup x = some c) → (dG l cells cs).lookup x = some c → cells.lookup x = some c
  | [], _, _, _, _, h, e => h _ _ e
  | (n, k) :: r, cells, cs, x, c, h, e => by
    refine ny (l := r) (fun y d hy => ?_) e
    split at hy
    · split at hy
      · rename_i a ha
        by_cases hyn : y = n
        · subst hyn
          rw [List.lookup_cons_self] at hy
          rw [← hy]; exact ha
        · rw [List.lookup_cons] at hy
          have : (y == n) = false := by simpa using hyn
          rw [this] at hy
          exact h _ _ hy
      · exact h _ _ hy
    · exact h _ _ hy
theorem lA : ∀ {l : List (Str × NameKind)} {cells cs : List (Str × Addr)} {x : Str}, (cs.lookup x).isSome = true → ((dG l cells cs).lookup x).isSome = true
  | [], _, _, _, h => h
  | (n, k) :: r, cells, cs, x, h => by
    refine lA (l := r) ?_
    split
    · split
      · rw [List.lookup_cons]
        split
        · rfl
        · exact h
      · exact h
    · exact h
theorem jb : ∀ {l : List (Str × NameKind)} {cells cs : List (Str × Addr)} {x : Str}, (x, NameKind.free) ∈ l → (cells.lookup x).isSome = true → ((dG l cells cs).lookup x).isSome = true
  | [], _, _, _, h, _ => by cases h
  | (n, k) :: r, cells, cs, x, h, hs => by
    rcases List.mem_cons.mp h with e | h
    · cases e
      refine lA (l := r) ?_
      simp only [beq_self_eq_true, if_true]
      cases e : cells.lookup n with
      | none => rw [e] at hs; cases hs
      | some a => simp only [List.lookup_cons_self]; rfl
    · exact jb (l := r) h hs
theorem lS {x:Str} {k:NameKind}:∀ {l:List (Str×NameKind)},l.lookup x=some k→(x,k)∈l:=fun h=>PySem.mem_of_lookup h
inductive fO (X:Cx) (scope:Scope):List Str→List Nat→Prop where
 | nil:fO X scope [] []
 | cons {y:Str} {i:Nat} {ys:List Str} {is:List Nat} (h1:X.N[i]?=some y) (h2:X.env.kindOf y=some .cell∨X.env.kindOf y=some .free) (h3:scope.names.lookup y=some .free) (h:fO X scope ys is):fO X scope (y::ys) (i::is)
structure eX (scope:Scope) (x:Str) (ys:List Str):Prop where
 kind:scope.kind=.function
 nocell:∀ y∈scope.names,y.2≠ .cell
 names:∀ y∈scope.names,y.2=.local→scope.names.lookup y.1=some .local
 own:scope.names.lookup x=some .local
 all:∀ y∈scope.names,y.2=.free→y.1∈ys
 nd:(x::ys).Nodup
def bu (X:Cx) (scope:Scope) (C:Addr) (N:List Str) (s:Shared) (H:Hp) (fp:List Addr):Cx:=
 { X with N:=N,s₀:=s,H₀:=H,env:=compEnvC scope (dG scope.names X.env.cells []) C X.env,outer:=X.stack,ex:=fp,fn:=fun _=>false,pn:=[],xe:=fun _ _=>False }
def bF (σ:St) (is:List Nat):St:=is.map fun i=>(σ[i]?).getD none
theorem ia {f : Str × NameKind → Str × NameKind} (hf : ∀ p, (f p).1 = p.1) {x : Str} : ∀ (l : List (Str × NameKind)), (l.map f).lookup x = (l.lookup x).map fun k => (f (x, k)).2
  | [] => rfl
  | (n, k) :: r => by
    have ih := ia hf (x := x) r
    have e : f (n, k) = (n, (f (n, k)).2) := Prod.ext (hf (n, k)) rfl
    rw [List.map_cons, e, List.lookup_cons, List.lookup_cons]
    cases hx : x == n with
    | true =>
      have e' : x = n := by simpa using hx
      subst e'; rfl
    | false => exact ih
theorem iu (scope:Scope) (env:Env) (x:Str):(relabel scope env).names.lookup x=(scope.names.lookup x).map fun k=>if (k==NameKind.free&&env.scope.kind==.function&&env.kindOf x==some .cell) then NameKind.cell else k:=by
 have hf:∀ p:Str×NameKind,((fun (n,k)=>if (k==NameKind.free&&env.scope.kind==.function&&env.kindOf n==some .cell) then (n,NameKind.cell) else (n,k)) p:Str×NameKind).1=p.1:=by
  intro p
  obtain ⟨n,k⟩:=p
  show (if _ then (n,NameKind.cell) else (n,k)).1=n
  split <;> rfl
 have:=ia hf (x:=x) scope.names
 show List.lookup x (List.map _ scope.names)=_
 rw [this]
 congr 1
 funext k
 show (if _ then (x,NameKind.cell) else (x,k)).2=_
 split <;> rfl
theorem hJ {scope : Scope} {env : Env} {x : Str} {k : NameKind} (nc : ∀ y ∈ scope.names, y.2 ≠ .cell) (h : (relabel scope env).names.lookup x = some k) (hk : k = .cell ∨ k = .free) : (x, NameKind.free) ∈ scope.names := by
  rw [iu] at h
  cases q : scope.names.lookup x with
  | none => rw [q] at h; cases h
  | some k' =>
    have hm := lS q
    rw [q] at h
    have h : (if (k' == NameKind.free && env.scope.kind == .function && env.kindOf x == some .cell) then NameKind.cell else k') = k := Option.some.inj h
    by_cases hc : k' = .free
    · subst hc; exact hm
    · have hb : (k' == NameKind.free) = false := by simpa using hc
      rw [hb] at h
      have h : k' = k := h
      subst h
      rcases hk with z | z
      · exact absurd z (nc _ hm)
      · exact absurd z hc
theorem pW {scope:Scope} {env:Env} {x:Str} (h:scope.names.lookup x=some .free):(relabel scope env).names.lookup x=some .cell∨(relabel scope env).names.lookup x=some .free:=by
 rw [iu,h]
 show some (if _ then _ else _)=_∨some (if _ then _ else _)=_
 split
 · exact .inl rfl
 · exact .inr rfl
theorem nE {scope:Scope} {env:Env} {x:Str} (h:scope.names.lookup x=some .local):(relabel scope env).names.lookup x=some .local:=by
 rw [iu,h];rfl
theorem uj {X : Cx} {scope : Scope} {ys : List Str} {is : List Nat} {m : Str → Option Value} {h : Heap} {σ : St} (hc : fO X scope ys is)
    (hl : ∀ (i : Nat) (x : Str) (v : V), X.N[i]? = some x → σ[i]? = some (some v) → Vis X.env.scope x → ∃ u, aR v u ∧ Ci X.env h m x u) (nd : True) :
    ∀ (j : Nat) (y : Str) (v : V), ys[j]? = some y → (bF σ is)[j]? = some (some v) → ∃ u, aR v u ∧ scope.names.lookup y = some .free ∧ ∃ c, X.env.cells.lookup y = some c ∧ h.IsCell c (some u) := by
  induction hc with
  | nil => intro j y v e; simp at e
  | @cons z i zs js h1 h2 h3 hr ih =>
    intro j y v e1 e2
    cases j with
    | zero =>
      simp at e1; subst e1
      have e2 : (σ[i]?).getD none = some v := by simpa [bF] using e2
      have e3 : σ[i]? = some (some v) := by
        cases q : σ[i]? with
        | none => rw [q] at e2; simp at e2
        | some o => rw [q] at e2; simp at e2; rw [e2]
      have hv : Vis X.env.scope z := by
        rcases h2 with q | q
        · exact .inr (.inl q)
        · exact .inr (.inr q)
      obtain ⟨u, r, l⟩ := hl i z v h1 e3 hv
      refine ⟨u, r, h3, ?_⟩
      rcases l with ⟨k, _⟩ | ⟨_, c, e, ic⟩
      · rcases h2 with q | q
        · rw [q] at k; cases k
        · rw [q] at k; cases k
      · exact ⟨c, e, ic⟩
    | succ j =>
      exact ih j y v (by simpa using e1) (by simpa [bF] using e2)
def tE (is:List Nat) (tc:TT) (te:TE) (σ:St) (D:Addr) (J:It) (H1:Hp) (Q:VK):Prop:=∃ W:Nat→Nat→List V→Hp→Prop,(∃ m,W 0 m [] (upd H1 D (.lst [])))∧
 ∀ i m ys H2,W i m ys H2→(J.stop i H2∧Q (.ref D) H2)∨(J.go i H2∧∀ x H3,J.yld i H2 x H3→tc (some x::bF σ is) H3 fun b H4=>if b=true then
  te (some x::bF σ is) H4 fun y H5=>H5 D=some (.lst ys)∧ys.length<sizeLine∧∃ m',m'<m∧W (i+1) m' (ys++[y]) (upd H5 D (.lst (ys++[y])))
  else ∃ m',m'<m∧W (i+1) m' ys H4)
def gc (is:List Nat) (wi:TI) (tc:TT) (te:TE):TE:=fun σ H Q=>wi σ H fun J H1=>∀ D,H1 D=none→tE is tc te σ D J H1 Q
theorem qq (elt target iter c : Expr) (scope : Scope) (pos : Pos) (it acc : Value) (env : Env) :
    compTurn (.ListComp elt [⟨target, iter, [c], 0⟩] scope pos) 0 it acc env = (standAt iter.pos >>= fun _ => pyNext it >>= fun r => match r with
      | none => pure (.done .next)
      | some v => letOwnedTupleGo target it v >>= fun _ => assign target env v >>= fun _ => isTrue c env (eval c env) >>= fun ok =>
        (if ok = true then (eval elt env >>= fun x => call (.builtin "list.append") [acc, x] >>= fun _ => pure ()) else pure ()) >>= fun _ =>
          again (.compLoop (.ListComp elt [⟨target, iter, [c], 0⟩] scope pos) 0 it acc env)) := by
  unfold compTurn
  simp only [List.forIn_cons, List.forIn_nil, List.getElem?_cons_zero, List.getElem?_cons_succ, List.getElem?_nil, bind_assoc, pure_bind, bne_self_eq_false, Bool.false_eq_true, if_false, if_true]
  congr 1
  funext _
  congr 1
  funext r
  cases r with
  | none => rfl
  | some v =>
    simp only [bind_assoc, pure_bind, if_true]
    congr 1; funext _
    congr 1; funext _
    congr 1; funext b
    cases b <;> simp
section
variable {prog:Program} {w:World} {A:Around} {R:Result→Shared→Prop} {s:Shared}
theorem iY {elt target iter c : Expr} {scope : Scope} {pos : Pos} {it acc : Value} {env : Env} (I : Nat → Shared → Prop)
    (turn : ∀ n s, I n s → wpAny (model prog w) A (pyNext it) (fun r s₁ => match r with
      | none => R (.ok .next) s₁
      | some v => wpAny (model prog w) A (letOwnedTupleGo target it v) (fun _ s₁ => wpAny (model prog w) A (assign target env v) (fun _ s₂ => wpAny (model prog w) A (isTrue c env (eval c env)) (fun ok s₂ => if ok = true then wpAny (model prog w) A (eval elt env) (fun x s₃ =>
          wpAny (model prog w) A (call (.builtin "list.append") [acc, x]) (fun _ s₄ => ∃ m, m < n ∧ I m s₄) (notedBy (model prog w) A env fun e s' => R (.error e) s') s₃)
          (notedBy (model prog w) A env fun e s' => R (.error e) s') s₂ else ∃ m, m < n ∧ I m s₂) (notedBy (model prog w) A env fun e s' => R (.error e) s') s₂) (notedBy (model prog w) A env fun e s' => R (.error e) s') s₁) (notedBy (model prog w) A env fun e s' => R (.error e) s') s₁) (notedBy (model prog w) A env fun e s' => R (.error e) s') s)
    (n : Nat) (h : I n s) :
    codeAny (model prog w) A (.compLoop (.ListComp elt [⟨target, iter, [c], 0⟩] scope pos) 0 it acc env) R s := by
  refine codeAny_loop rfl I (fun n s hI => ?_) n h
  show wpAny _ _ ((compTurn (.ListComp elt [⟨target, iter, [c], 0⟩] scope pos) 0 it acc env).onRaise (fun x => do noteFrame x env; theTreesLotGoes x)) _ _ s
  refine wpAny_noted ?_
  rw [qq]
  refine wpAny_bind (wpAny_standAt (wpAny_bind (wpAny_mono (turn n s hI) (fun r s₁ h₁ => ?_) fun _ _ h' => h')))
  cases r with
  | none => exact wpAny_pure h₁
  | some v =>
    refine wpAny_bind (wpAny_mono h₁ (fun _ s₁ h₁ => wpAny_bind (wpAny_mono h₁ (fun _ s₂ h₂ => wpAny_bind (wpAny_mono h₂ (fun ok s₃ h₃ => ?_) fun _ _ h' => h')) fun _ _ h' => h')) fun _ _ h' => h')
    cases ok with
    | true =>
      rw [if_pos rfl] at h₃
      simp only [if_true]
      exact wpAny_bind (wpAny_bind (wpAny_mono h₃ (fun x s₃ h₃ => wpAny_bind (wpAny_mono h₃ (fun _ s₄ h₄ => wpAny_pure (wpAny_pure ⟨rfl, h₄⟩)) fun _ _ h' => h')) fun _ _ h' => h'))
    | false =>
      rw [if_neg Bool.false_ne_true] at h₃
      simp only [Bool.false_eq_true, if_false]
      exact wpAny_bind (wpAny_pure (wpAny_pure ⟨rfl, h₃⟩))
theorem iZ {elt target iter : Expr} {scope : Scope} {pos : Pos} {it acc : Value} {env : Env} (I : Nat → Shared → Prop)
    (turn : ∀ n s, I n s → wpAny (model prog w) A (pyNext it) (fun r s₁ => match r with
      | none => R (.ok .next) s₁
      | some v => wpAny (model prog w) A (letOwnedTupleGo target it v) (fun _ s₁ => wpAny (model prog w) A (assign target env v) (fun _ s₂ => wpAny (model prog w) A (eval elt env) (fun x s₃ =>
          wpAny (model prog w) A (call (.builtin "list.append") [acc, x]) (fun _ s₄ => ∃ m, m < n ∧ I m s₄) (notedBy (model prog w) A env fun e s' => R (.error e) s') s₃)
          (notedBy (model prog w) A env fun e s' => R (.error e) s') s₂) (notedBy (model prog w) A env fun e s' => R (.error e) s') s₁) (notedBy (model prog w) A env fun e s' => R (.error e) s') s₁) (notedBy (model prog w) A env fun e s' => R (.error e) s') s)
    (n : Nat) (h : I n s) :
    codeAny (model prog w) A (.compLoop (.ListComp elt [⟨target, iter, [], 0⟩] scope pos) 0 it acc env) R s := by
  refine codeAny_loop rfl I (fun n s hI => ?_) n h
  show wpAny _ _ ((compTurn (.ListComp elt [⟨target, iter, [], 0⟩] scope pos) 0 it acc env).onRaise (fun x => do noteFrame x env; theTreesLotGoes x)) _ _ s
  refine wpAny_noted ?_
  rw [compTurn_list1]
  refine wpAny_bind (wpAny_standAt (wpAny_bind (wpAny_mono (turn n s hI) (fun r s₁ h₁ => ?_) fun _ _ h' => h')))
  cases r with
  | none => exact wpAny_pure h₁
  | some v =>
    exact wpAny_bind (wpAny_mono h₁ (fun _ s₁ h₁ => wpAny_bind (wpAny_mono h₁ (fun _ s₂ h₂ => wpAny_bind (wpAny_bind (wpAny_mono h₂ (fun x s₃ h₃ => wpAny_bind (wpAny_mono h₃
      (fun _ s₄ h₄ => wpAny_pure (wpAny_pure ⟨rfl, h₄⟩)) fun _ _ h' => h')) fun _ _ h' => h'))) fun _ _ h' => h')) fun _ _ h' => h')
end
def rH (X:Cx) (ifs:List Expr) (tc:TT):Prop:=match ifs with
 | []=>tc=fun _ H Q=>Q true H
 | [c]=>PT X c tc
 | _=>False
section
variable {X:Cx}
theorem wC {scope:Scope} {ys:List Str} {is:List Nat} (h:fO X scope ys is):is.length=ys.length:=by
 induction h with
 | nil=>rfl
 | cons _ _ _ _ ih=>simp [ih]
theorem mU {scope : Scope} {ys : List Str} {is : List Nat} (h : fO X scope ys is) {y : Str} (hy : y ∈ ys) : X.env.kindOf y = some .cell ∨ X.env.kindOf y = some .free := by
  induction h with
  | nil => cases hy
  | cons _ h2 _ _ ih =>
    rcases List.mem_cons.mp hy with e | e
    · rw [e]; exact h2
    · exact ih e
theorem nq {elt iter : Expr} {ifs : List Expr} {x : Str} {px pos : Pos} {scope : Scope} {ys : List Str} {is : List Nat} {tc : TT} {te : TE} {pins : List (Addr × Obj)} {σ : St} {H2 : Hp} {s2 : Shared} {it : Addr} {fp : List Addr} {tn : Nat → Heap → Prop} {J : It} {E : Value → Shared → Prop} {Q : VK} {RR : Value → Addr → Result → Shared → Prop}
    (hc : X.calm = true) (S : eX scope x ys) (hcap : fO X scope ys is)
    (hif : ∀ C s H fp, rH (bu X scope C (x :: ys) s H fp) ifs tc) (he : ∀ C s H fp, PE (bu X scope C (x :: ys) s H fp) elt te)
    (I2 : Inv X pins σ H2 s2) (T : kF X.prog X.w X.K (.Name x px) J fp it tn) (st2 : tn 0 s2.heap) (f2 : ∀ b ∈ fp, im X pins H2 b)
    (hW : ∀ D, H2 D = none → ∃ W : Nat → Nat → List V → Hp → Prop, (∃ m, W 0 m [] (upd H2 D (.lst []))) ∧
      ∀ i m ys H2, W i m ys H2 → (J.stop i H2 ∧ Q (.ref D) H2) ∨ (J.go i H2 ∧ ∀ x H3, J.yld i H2 x H3 → tc (some x :: bF σ is) H3 fun b H4 => if b = true then
        te (some x :: bF σ is) H4 fun y H5 => H5 D = some (.lst ys) ∧ ys.length < sizeLine ∧ ∃ m', m' < m ∧ W (i + 1) m' (ys ++ [y]) (upd H5 D (.lst (ys ++ [y])))
        else ∃ m', m' < m ∧ W (i + 1) m' ys H4))
    (hRR : ∀ D C H' s', (X.s₀.heap.objs.size ≤ C ∧ ∀ p ∈ X.pn ++ pins, p.1 ≠ C) → (∃ m, s'.heap.Ns C m) → C ≠ X.env.locals → H' C = none → Inv X pins σ H' s' → (∀ h', Heap.SameBut C s'.heap h' → Inv X pins σ H' { s' with heap := h' }) → Q (.ref D) H' → RR (.ref D) C (.ok .next) s') :
    wpAny (model X.prog X.w) X.A (newList []) (fun acc s₃ => wpAny (model X.prog X.w) X.A (newFunctionEnv scope X.env.globals (dG scope.names X.env.cells []) [] X.env.qual none .none (some X.env)) (fun cenv s₄ =>
      codeAny (model X.prog X.w) X.A (.compStart (.ListComp elt [⟨.Name x px, iter, ifs, 0⟩] scope pos) 0 (.ref it) acc { cenv with scope := relabel scope X.env }) (RR acc cenv.locals) s₄) E s₃) E s2 := by
  have hf2 : H2 s2.heap.objs.size = none := I2.fresh
  refine wpAny_newObj_type (wpAny_newFunctionEnv S.nocell (by intro y hy; simp at hy) (fun h₁ hns₁ hsb₁ => ?_) S.kind)
  dsimp only at hns₁ hsb₁ ⊢
  have I3 : Inv X pins σ (upd H2 s2.heap.objs.size (.lst [])) { s2 with heap := s2.heap.push { cls := .type "list", data := .seq ([] : List Value).toArray } } := I2.lnew (t' := s2.toks) (ys := []) .nil (Nat.zero_le _)
  obtain ⟨W, ⟨m0, w0⟩, turn⟩ := hW _ hf2
  generalize hD : s2.heap.objs.size = D at I3 w0 turn hf2 ⊢
  generalize hs3 : ({ s2 with heap := s2.heap.push { cls := .type "list", data := .seq ([] : List Value).toArray } } : Shared) = s3 at I3
  have hp3 : s2.heap.push { cls := .type "list", dict := none, data := .seq ([] : List Value).toArray } = s3.heap := by rw [← hs3]
  rw [hp3] at hns₁ hsb₁ ⊢
  have tk3 : s2.toks = s3.toks := by rw [← hs3]
  generalize hH3 : upd H2 D (.lst []) = H3 at I3 w0
  generalize hC : s3.heap.objs.size = C at hns₁ hsb₁ ⊢
  have keep2 : ∀ b o, s2.heap.get? b = some o → s3.heap.get? b = some o := fun b o e => by rw [← hp3]; exact Heap.get?_push_of_some _ e
  have keep3 : ∀ b o, s3.heap.get? b = some o → h₁.get? b = some o := fun b o e => hsb₁.extBut b o (by rw [← hC]; exact Nat.ne_of_lt (Heap.lt_size e)) (Heap.get?_push_of_some _ e)
  have st3 : tn 0 s3.heap := T.keep _ _ _ st2 fun b _ o e => keep2 b o e
  have st4 : tn 0 h₁ := T.keep _ _ _ st3 fun b _ o e => keep3 b o e
  have fp3 : ∀ b ∈ fp, H3 b = none ∧ b < C := fun b hb => by
    obtain ⟨o, e, _⟩ := T.obj _ _ st2 b hb
    refine ⟨?_, by rw [← hC]; exact Heap.lt_size (keep2 b o e)⟩
    rw [← hH3, ap (by rw [← hD]; exact Nat.ne_of_lt (Heap.lt_size e))]
    exact (f2 b hb).1
  have hcells : ∀ {z : Str} {c : Addr}, (dG scope.names X.env.cells []).lookup z = some c → X.env.cells.lookup z = some c := fun h => ny (fun _ _ q => by cases q) h
  have hX : (bu X scope C (x :: ys) s3 H3 fp).Ok := by
    refine ⟨I3.ok.mod, S.kind, I3.ok.glob, I3.ok.blt, Nat.le_of_eq hC, fun y z c h1 h2 => I3.ok.inj y z c (hcells h1) (hcells h2), fun y hy => ?_, fun y c h _ => absurd (show false = true from h) Bool.false_ne_true, I3.ok.hd, I3.ok.frames, .inl rfl, fun b hb => ⟨Nat.ne_of_lt (fp3 b hb).2, fun y c h => (f2 b hb).2.2.2.2.1 y c (hcells h)⟩, fun b o e => I3.bs b o e, Nat.le_trans I3.ok.bsz I3.sz, fun b o e hb => ?_, fun b hb z => ?_, I3.stack, I3.stkFree⟩
    · have hy : (relabel scope X.env).names.lookup y = some .cell ∨ (relabel scope X.env).names.lookup y = some .free := hy
      have hm : (y, NameKind.free) ∈ scope.names := by
        rcases hy with q | q
        · exact hJ S.nocell q (.inl rfl)
        · exact hJ S.nocell q (.inr rfl)
      have hs : ∃ c, X.env.cells.lookup y = some c := by
        by_cases hk : X.env.kindOf y = some .cell ∨ X.env.kindOf y = some .free
        · exact I3.ok.has y hk
        · exact absurd (mU hcap (S.all _ hm rfl)) hk
      exact Option.isSome_iff_exists.mp (jb hm (Option.isSome_iff_exists.mpr hs))
    · rcases (f2 b hb).2.2.2.1 with z | z
      · exact I3.ok.noex b o e z
      · exact absurd (Nat.lt_of_lt_of_le (Heap.lt_size e) (Nat.le_trans I3.ok.bsz z)) (Nat.lt_irrefl _)
    · rcases List.mem_cons.mp (I3.stkSub b z) with q | q
      · exact (f2 b hb).2.1 q
      · exact (f2 b hb).2.2.1 q
  have I4 : Inv (bu X scope C (x :: ys) s3 H3 fp) [] (none :: bF σ is) H3 { s2 with heap := h₁, toks := s2.toks + ([] : List (Str × Value)).length } := by
    obtain ⟨m3, hm3, hl3⟩ := id I3.loc
    refine ⟨hX, ?_, ?_, Un.kept keep3, ⟨_, hns₁, fun i y v e1 e2 e3 => ?_⟩, fun y c e => ?_, ?_, fun y c e => I3.freeC y c (hcells e), fun p hp => absurd (show p ∈ ([] : List (Addr × Obj)) from hp) (by simp), I3.hok.kept keep3, ?_⟩
    · show s2.os = s3.os
      rw [← hs3]
    · have := I2.bare; exact this
    · cases i with
      | zero => simp at e2
      | succ j =>
        obtain ⟨u, r, hfr, c, ec, ic⟩ := uj hcap hl3 trivial j y v (by have e1' : (x :: ys)[j + 1]? = some y := e1; simpa using e1') (by simpa using e2)
        have hk := pW (env := X.env) hfr
        obtain ⟨c', ec'⟩ := Option.isSome_iff_exists.mp (jb (cs := []) (lS hfr) (by rw [ec]; rfl) (cells := X.env.cells))
        have : c' = c := by have := hcells ec'; rw [ec] at this; exact (Option.some.inj this).symm
        subst this
        obtain ⟨o, ho, hd⟩ := ic
        exact ⟨u, r, .inr ⟨hk, c', ec', o, keep3 _ _ ho, hd⟩⟩
    · obtain ⟨v, o, ho, hd⟩ := I3.cell y c (hcells e)
      exact ⟨v, o, keep3 _ _ ho, hd⟩
    · have := I3.hok.fresh (a := C) (Nat.le_of_eq hC)
      exact this
    · have := wC hcap
      show (none :: bF σ is).length = (x :: ys).length
      simp [bF, this]
  have lenσ : ∀ v : Option V, (v :: bF σ is).set 0 = fun w => w :: bF σ is := fun v => rfl
  have hown : (relabel scope X.env).names.lookup x = some .local := nE S.own
  have loop : codeAny (model X.prog X.w) X.A (.compLoop (.ListComp elt [⟨.Name x px, iter, ifs, 0⟩] scope pos) 0 (.ref it) (.ref D) (compEnvC scope (dG scope.names X.env.cells []) C X.env)) (RR (.ref D) C)
      { s2 with heap := h₁, toks := s2.toks + ([] : List (Str × Value)).length } := by
    have fin : ∀ {H' : Hp} {v : Option V} {s' : Shared}, Inv (bu X scope C (x :: ys) s3 H3 fp) [] (v :: bF σ is) H' s' → Q (.ref D) H' → RR (.ref D) C (.ok .next) s' := fun {H' v s'} J q => by
      obtain ⟨m', hm', _⟩ := J.loc
      have hCL : C ≠ X.env.locals := Ne.symm (by rw [← hC]; exact Nat.ne_of_lt I3.lt)
      have back : ∀ h', Heap.SameBut C s'.heap h' → Inv X pins σ H' { s' with heap := h' } := fun h' hs' => by
        have os' : s'.os = s3.os := J.os
        refine I3.call' (s' := { s' with heap := h' }) (ch := fp) os' ⟨fun b o e n hb hx => ?_, fun b o e n hb hx => ?_, fun b o e n hx => J.base.free b o e n hx, fun b o e hx => ?_, J.base.tups, J.base.frzs, J.base.tbls⟩ (fun b o e => ?_) J.bare fun b hb => ?_
        · exact hs'.extBut b o (by rw [← hC]; exact Nat.ne_of_lt (Heap.lt_size e)) (J.base.keep b o e n hb hx)
        · obtain ⟨sl, e1⟩ := J.base.slot b o e n hb hx
          exact ⟨sl, hs'.extBut b _ (by rw [← hC]; exact Nat.ne_of_lt (Heap.lt_size e)) e1⟩
        · obtain ⟨o', e1⟩ := J.base.there b o e hx
          exact ⟨o', hs'.extBut b _ (by rw [← hC]; exact Nat.ne_of_lt (Heap.lt_size e)) e1⟩
        · refine (J.hok b o e).stay (fun c w' hc q => (hs'.2 c ?_).trans q) (fun _ q => q) fun _ _ q => q
          have fC : H' C = none := J.free
          rintro rfl
          rcases hc with rfl | hc
          · rw [fC] at e; cases e
          · rw [fC] at hc; cases hc
        · obtain ⟨_, a1, _, a2, a3, a4⟩ := f2 b hb
          exact ⟨a2, a1, a3, a4⟩
      refine hRR D C H' s' ⟨by rw [← hC]; exact I3.sz, fun p hp => by rw [← hC]; exact Nat.ne_of_lt (Heap.lt_size (I3.pin p hp).1)⟩ ⟨m', hm'⟩ hCL J.free ?_ back q
      have := back s'.heap (.refl ..)
      exact this
    have stat : ∀ {H' : Hp}, (∀ b ∈ fp, H' b = none) → ∀ b ∈ fp, im (bu X scope C (x :: ys) s3 H3 fp) [] H' b := fun hn b hb => by
      obtain ⟨_, a1, a5, a2, a3, a4⟩ := f2 b hb
      refine ⟨hn b hb, Nat.ne_of_lt (fp3 b hb).2, fun z => ?_, .inl hb, fun y c e => a3 y c (hcells e), fun p hp => absurd (show p ∈ ([] : List (Addr × Obj)) from hp) (by simp)⟩
      rcases List.mem_cons.mp (I3.stkSub b z) with q | q
      · exact a1 q
      · exact a5 q
    have turnAt : ∀ n s, (∃ i v ys' H', Inv (bu X scope C (x :: ys) s3 H3 fp) [] (v :: bF σ is) H' s ∧ tn i s.heap ∧ (∀ b ∈ fp, H' b = none) ∧ W i n ys' H') →
        wpAny (model X.prog X.w) X.A (pyNext (.ref it)) (fun r s₁ => match r with
          | none => RR (.ref D) C (.ok .next) s₁
          | some u => wpAny (model X.prog X.w) X.A (letOwnedTupleGo (.Name x px) (.ref it) u) (fun _ s₁ => wpAny (model X.prog X.w) X.A (assign (.Name x px) (compEnvC scope (dG scope.names X.env.cells []) C X.env) u) (fun _ s₂ =>
            ∃ (xx : V) (i : Nat) (ys' : List V) (H3' H6 : Hp) (pl : List (Addr × Obj)), Inv (bu X scope C (x :: ys) s3 H3 fp) ([] ++ pl) (some xx :: bF σ is) H6 s₂ ∧
              (∀ s7 v7 H7, Inv (bu X scope C (x :: ys) s3 H3 fp) ([] ++ pl) (v7 :: bF σ is) H7 s7 → Inv (bu X scope C (x :: ys) s3 H3 fp) [] (v7 :: bF σ is) H7 s7 ∧ tn (i + 1) s7.heap ∧ ∀ b ∈ fp, H7 b = none) ∧
              (tc (some xx :: bF σ is) H6 fun b H4 => if b = true then te (some xx :: bF σ is) H4 fun y H5 => H5 D = some (.lst ys') ∧ ys'.length < sizeLine ∧ ∃ m', m' < n ∧ W (i + 1) m' (ys' ++ [y]) (upd H5 D (.lst (ys' ++ [y])))
                else ∃ m', m' < n ∧ W (i + 1) m' ys' H4)) (fun _ _ => False) s₁) (fun _ _ => False) s₁) (fun _ _ => False) s := by
      rintro n s ⟨i, v, ys', H', J, st, fr, w'⟩
      rcases turn i n ys' H' w' with ⟨stop, qn⟩ | ⟨go, step⟩
      · refine thn (T.done (bu X scope C (x :: ys) s3 H3 fp) rfl rfl rfl hc i [] s _ H' (fun _ _ => False) J (stat fr) st stop) fun r s4 ⟨hr, J4⟩ => ?_
        subst hr
        exact fin J4 qn
      · refine thn (T.item (bu X scope C (x :: ys) s3 H3 fp) rfl rfl rfl hc i [] s _ H' (fun _ _ => False) J (stat fr) st go) fun r s4 ⟨u, hr, h4⟩ => ?_
        subst hr
        refine thn h4 fun _ s5 ⟨xx, H5, J5, r5, y5, st5, fr5⟩ => ?_
        have J5' := J5.pinned (stat fr5) (T.obj _ _ st5)
        refine wpAny_assign_Name (gH (i := 0) J5' S.nd rfl (.inl hown) r5 (fun s6 J6 => ?_) (.inr hown))
        refine ⟨xx, i, ys', H5, H5, jv fp s5.heap, J6, fun s7 v7 H7 J7 => ⟨J7.unpinned, T.keep _ _ _ st5 fun b hb o e => (J7.pin (b, o) (List.mem_append_right _ (List.mem_append_right _ (fT hb e)))).1, fun b hb => ?_⟩, step xx H5 y5⟩
        obtain ⟨o, e, d⟩ := T.obj _ _ st5 b hb
        exact (J7.pin (b, o) (List.mem_append_right _ (List.mem_append_right _ (fT hb e)))).2.1
    have start0 : ∃ i v ys' H', Inv (bu X scope C (x :: ys) s3 H3 fp) [] (v :: bF σ is) H' { s2 with heap := h₁, toks := s2.toks + ([] : List (Str × Value)).length } ∧ tn i h₁ ∧ (∀ b ∈ fp, H' b = none) ∧ W i m0 ys' H' :=
      ⟨0, none, [], H3, I4, st4, fun b hb => (fp3 b hb).1, w0⟩
    have emit : ∀ (n : Nat) (xx : V) (i : Nat) (ys' : List V) (H4 : Hp) (pl : List (Addr × Obj)) (s₂ : Shared), Inv (bu X scope C (x :: ys) s3 H3 fp) ([] ++ pl) (some xx :: bF σ is) H4 s₂ →
        (∀ s7 v7 H7, Inv (bu X scope C (x :: ys) s3 H3 fp) ([] ++ pl) (v7 :: bF σ is) H7 s7 → Inv (bu X scope C (x :: ys) s3 H3 fp) [] (v7 :: bF σ is) H7 s7 ∧ tn (i + 1) s7.heap ∧ ∀ b ∈ fp, H7 b = none) →
        (te (some xx :: bF σ is) H4 fun y H5 => H5 D = some (.lst ys') ∧ ys'.length < sizeLine ∧ ∃ m', m' < n ∧ W (i + 1) m' (ys' ++ [y]) (upd H5 D (.lst (ys' ++ [y])))) →
        wpAny (model X.prog X.w) X.A (eval elt (compEnvC scope (dG scope.names X.env.cells []) C X.env)) (fun y s₃ => wpAny (model X.prog X.w) X.A (call (.builtin "list.append") [.ref D, y]) (fun _ s₄ =>
          ∃ m, m < n ∧ ∃ i v ys' H', Inv (bu X scope C (x :: ys) s3 H3 fp) [] (v :: bF σ is) H' s₄ ∧ tn i s₄.heap ∧ (∀ b ∈ fp, H' b = none) ∧ W i m ys' H') (fun _ _ => False) s₃) (fun _ _ => False) s₂ := by
      intro n xx i ys' H4 pl s₂ J2 back q
      refine thn (he C s3 H3 fp ([] ++ pl) s₂ _ H4 _ J2 q) fun y s₃ ⟨yv, H5, J3, r3, q1, q2, q3⟩ => ?_
      refine thn (jn (X := bu X scope C (x :: ys) s3 H3 fp) ([] ++ pl) s₃ _ H5 (.ref D) [yv] (.ref D) [y] (fun v H7 => v = .non ∧ H7 = upd H5 D (.lst (ys' ++ [yv]))) J3 rfl (.cons r3 .nil) ⟨D, ys', yv, rfl, rfl, q1, q2, rfl, rfl⟩) fun _ s₄ ⟨_, H7, J4, _, _, e7⟩ => ?_
      subst e7
      obtain ⟨m', hm', w'⟩ := q3
      obtain ⟨b1, b2, b3⟩ := back s₄ _ _ J4
      exact ⟨m', hm', i + 1, some xx, ys' ++ [yv], _, b1, b2, b3, w'⟩
    have ex0 : ∀ {α : Type} {t : Sem α} {Q' : α → Shared → Prop} {E' : Value → Shared → Prop} {s : Shared}, wpAny (model X.prog X.w) X.A t Q' (fun _ _ => False) s → wpAny (model X.prog X.w) X.A t Q' E' s := fun h => wpAny_mono h (fun _ _ q => q) fun _ _ q => q.elim
    cases ifs with
    | nil =>
      have htc : tc = fun _ H Q => Q true H := hif C s3 H3 fp
      subst htc
      refine iZ (fun n s => ∃ i v ys' H', Inv (bu X scope C (x :: ys) s3 H3 fp) [] (v :: bF σ is) H' s ∧ tn i s.heap ∧ (∀ b ∈ fp, H' b = none) ∧ W i n ys' H') (fun n s hI => ?_) m0 start0
      refine wpAny_mono (turnAt n s hI) (fun r s₁ h₁ => ?_) fun _ _ q => q.elim
      cases r with
      | none => exact h₁
      | some u =>
        refine wpAny_mono h₁ (fun _ s₁ h₁ => wpAny_mono h₁ (fun _ s₂ h₂ => ?_) fun _ _ q => q.elim) fun _ _ q => q.elim
        obtain ⟨xx, i, ys', _, H6, pl, J2, back, q⟩ := h₂
        dsimp only at q
        rw [if_pos rfl] at q
        exact wpAny_mono (emit n xx i ys' H6 pl s₂ J2 back q) (fun y s₃ h₃ => ex0 h₃) fun _ _ q => q.elim
    | cons c r0 =>
      cases r0 with
      | cons _ _ => exact (hif C s3 H3 fp).elim
      | nil =>
        have hpt : PT (bu X scope C (x :: ys) s3 H3 fp) c tc := hif C s3 H3 fp
        refine iY (fun n s => ∃ i v ys' H', Inv (bu X scope C (x :: ys) s3 H3 fp) [] (v :: bF σ is) H' s ∧ tn i s.heap ∧ (∀ b ∈ fp, H' b = none) ∧ W i n ys' H') (fun n s hI => ?_) m0 start0
        refine wpAny_mono (turnAt n s hI) (fun r s₁ h₁ => ?_) fun _ _ q => q.elim
        cases r with
        | none => exact h₁
        | some u =>
          refine wpAny_mono h₁ (fun _ s₁ h₁ => wpAny_mono h₁ (fun _ s₂ h₂ => ?_) fun _ _ q => q.elim) fun _ _ q => q.elim
          obtain ⟨xx, i, ys', _, H6, pl, J2, back, q⟩ := h₂
          refine wpAny_mono (hpt ([] ++ pl) s₂ _ H6 _ J2 q) (fun b s₃ h₃ => ?_) fun _ _ q => q.elim
          obtain ⟨H4, J4, q4⟩ := h₃
          cases b with
          | true =>
            rw [if_pos rfl] at q4 ⊢
            exact wpAny_mono (emit n xx i ys' H4 pl s₃ J4 back q4) (fun y s₃ h₃ => ex0 h₃) fun _ _ q => q.elim
          | false =>
            rw [if_neg Bool.false_ne_true] at q4 ⊢
            obtain ⟨m', hm', w'⟩ := q4
            obtain ⟨b1, b2, b3⟩ := back s₃ _ _ J4
            exact ⟨m', hm', i + 1, some xx, ys', _, b1, b2, b3, w'⟩
  exact codeAny_compStart_list loop (T.self X.A 0 _ _ _ st4 loop)
end
section
variable {X:Cx}
theorem qu {scope:Scope} {x:Str} {ys:List Str} {is:List Nat} (ok:X.Ok) (S:eX scope x ys) (hcap:fO X scope ys is):closureFor scope X.env=pure (dG scope.names X.env.cells []):=
 pM fun y hy hk=>by
  obtain ⟨c,e⟩:=ok.has y.1 (mU hcap (S.all y hy hk))
  rw [e];rfl
theorem zW {elt iter:Expr} {ifs:List Expr} {x:Str} {px pos:Pos} {scope:Scope} {ys:List Str} {is:List Nat} {wi:TI} {tc:TT} {te:TE}
  (hc:X.calm=true) (S:eX scope x ys) (hcap:fO X scope ys is) (hi:PI X (.Name x px) iter wi)
  (hif:∀ C s H fp,rH (bu X scope C (x::ys) s H fp) ifs tc) (he:∀ C s H fp,PE (bu X scope C (x::ys) s H fp) elt te)
  (hs:∀ x,foldedSetIterable iter X.env x=pure x:=by intro _;rfl):PE X (.ListComp elt [⟨.Name x px,iter,ifs,0⟩] scope pos) (gc is wi tc te):=by
 intro pins s σ H Q I h
 rw [eval_ListComp]
 refine wpAny_comprehension_free (use:=none) rfl hs (qu I.ok S hcap) S.kind S.names (thn (hi pins s σ H _ I h) fun v s1 h1=>thn h1 fun itv s2 h2=>?_)
 obtain ⟨it,fp,tn,J,H2,rfl,I2,T,st2,f2,hW⟩:=h2
 refine nq (RR:=fun acc C=>compPost (model X.prog X.w) X.A X.xe none (EP X pins σ Q) acc C) hc S hcap hif he I2 T st2 f2 hW ?_
 intro D C H' s' hlt hns hne hfr I' back q
 obtain ⟨m,hm⟩:=hns
 exact ⟨m,hm,fun h' hs'=>⟨.ref D,H',back h' hs',rfl,q⟩⟩
theorem sS {elt iter:Expr} {ifs:List Expr} {x y:Str} {px py pos spos:Pos} {scope:Scope} {ys:List Str} {is:List Nat} {wi:TI} {tc:TT} {te:TE} {j:Nat}
  (hN:X.N.Nodup) (hj:X.N[j]?=some y) (hy:Loc X.env.scope y)
  (hc:X.calm=true) (S:eX scope x ys) (hcap:fO X scope ys is) (hi:PI X (.Name x px) iter wi)
  (hif:∀ C s H fp,rH (bu X scope C (x::ys) s H fp) ifs tc) (he:∀ C s H fp,PE (bu X scope C (x::ys) s H fp) elt te)
  (hsw:swapsWith (.ListComp elt [⟨.Name x px,iter,ifs,0⟩] scope pos) (some (.Name y py)) spos.line X.env=pure true:=by rfl)
  (hf:X.fn y=true∨X.env.scope.names.lookup y=some .local:=by first | exact .inl rfl | exact .inr rfl | assumption)
  (hs:∀ x,foldedSetIterable iter X.env x=pure x:=by intro _;rfl):PS X (.Assign [.Name y py] (.ListComp elt [⟨.Name x px,iter,ifs,0⟩] scope pos) spos) (aM (gc is wi tc te) (aA j)):=by
 intro pins s σ H D I h
 rw [exec_Assign_Name_used _ _ _ _ hsw]
 refine wpAny_bind (wpAny_standAt (wpAny_bind ?_))
 show wpAny _ X.A (do let _←comprehension (.ListComp elt [⟨.Name x px,iter,ifs,0⟩] scope pos) scope X.env _ (newList []) false (eval iter X.env) (some (assign (.Name y py) X.env))) _ _ s
 refine wpAny_bind (wpAny_mono (wpAny_comprehension_free (use:=some (assign (.Name y py) X.env)) (Q:=fun _ s'=>SP X pins D .next s') rfl hs (qu I.ok S hcap) S.kind S.names
  (thn (hi pins s σ H _ I h) fun v s1 h1=>thn h1 fun itv s2 h2=>?_)) (fun _ s' hq=>wpAny_pure (wpAny_pure hq)) fun _ _ e=>e)
 obtain ⟨it,fp,tn,J,H2,rfl,I2,T,st2,f2,hW⟩:=h2
 refine nq (Q:=fun x H1=>aA j x σ H1 D.nx) (RR:=fun acc C=>compPost (model X.prog X.w) X.A X.xe (some (assign (.Name y py) X.env)) (fun _ s'=>SP X pins D .next s') acc C) hc S hcap hif he I2 T st2 f2 hW ?_
 intro Da C H' s' hlt hns hne hfr I' back q
 show wpAny _ X.A (assign (.Name y py) X.env (.ref Da)) _ _ _
 obtain ⟨m,hm⟩:=hns
 refine wpAny_assign_Name (nv I' hN hj hy (v:=.ref Da) rfl (fun s2 I2' ⟨a,hsb,ha⟩=>?_) hf)
 have hCa:C≠a:=by
  rcases ha with e | e
  · rw [e];exact hne
  · rintro rfl
    obtain ⟨v,o,ho,hd⟩:=I'.cell y C e
    obtain ⟨o2,es,ep,ho2,hd2,_⟩:=hm
    rw [ho] at ho2;cases ho2;rw [hd] at hd2;cases hd2
 refine ⟨m,hm.sameBut hsb hCa,fun h' hs'=>?_⟩
 have hCn:∀ y c,X.env.cells.lookup y=some c→c≠C:=fun z c e q=>by
  subst q
  obtain ⟨v,o,ho,hd⟩:=I'.cell z c e
  obtain ⟨o2,es,ep,ho2,hd2,_⟩:=hm
  rw [ho] at ho2;cases ho2;rw [hd] at hd2;cases hd2
 have I3:Inv X pins (σ.set j (some (.ref Da))) H' { s2 with heap:=h' }:=by
  refine I2'.step (g':=s2.gens) (d':=s2.drawn) (t':=s2.toks) (ch:=[C]) (fun b hb=>?_) (fun b o _ _ hb e _=>(hs'.2 b (fun z=>hb (by simp [z]))).trans e) (fun b o _ _ hb e _=>⟨o.slots,(hs'.2 b (fun z=>hb (by simp [z]))).trans e⟩) (fun _ _ _ _ n=>n) (fun b o hb e=>⟨o,(hs'.2 b (fun z=>hb (by simp [z]))).trans e⟩)
    (fun _ _ e=>e) (fun _ _ _ e=>e) (fun b ps e=>⟨#[],by rw [e];simp⟩) (fun m' hm'=>hm'.sameBut hs' (Ne.symm hne)) (fun b o e=>?_) I2'.bare
  · have e:b=C:=by simpa using hb
    subst e
    exact ⟨.inr hlt.1,hne,fun z c e=>hCn z c e,hlt.2⟩
  · refine (I2'.hok b o e).stay (fun c w' hc q=>(hs'.2 c ?_).trans q) (fun _ q=>q) fun _ _ q=>q
    rintro rfl
    rcases hc with rfl | hc
    · rw [hfr] at e;cases e
    · rw [hfr] at hc;cases hc
 exact ⟨_,H',I3,q⟩
end
def tyN (H : Hp) : V → Option String
  | .non => some "NoneType"
  | .bl _ => some "bool"
  | .int _ => some "int"
  | .str _ => some "str"
  | .ref a => match H a with
    | some (.lst _) => some "list"
    | some (.frz _ (.lst _)) => some "list"
    | some (.tup _) => some "tuple"
    | some (.dK _) => some "dict"
    | some (.dT _) => some "dict"
    | _ => none
  | _ => none
theorem Cp {K : W.Frag} {H : Hp} {x : V} {t : String} (h : tyN H x = some t) : fA K H x (.type t) := by
  cases x with
  | non => cases h; exact .non
  | bl b => cases h; exact .bl b
  | int i => cases h; exact .int i
  | str x => cases h; exact .str x
  | byt _ => cases h
  | flt _ => cases h
  | ty _ => cases h
  | ref a =>
    unfold tyN at h
    dsimp only at h
    split at h
    · rename_i e; cases h; exact .lst e
    · rename_i e; cases h; exact .frz e
    · rename_i e; cases h; exact .tup e
    · rename_i e; cases h; exact .dK e
    · rename_i e; cases h; exact .dT e
    · cases h
def tyL:List String:=["NoneType", "bool", "int", "str", "list", "tuple", "dict"]
theorem Dw {H : Hp} {x : V} {t : String} (h : tyN H x = some t) : t ∈ tyL := by
  cases x with
  | non => cases h; decide
  | bl b => cases h; decide
  | int i => cases h; decide
  | str x => cases h; decide
  | byt _ => cases h
  | flt _ => cases h
  | ty _ => cases h
  | ref a =>
    unfold tyN at h
    dsimp only at h
    split at h <;> first | (cases h; decide) | cases h
def isI (t T:String):Bool:=t==T||(T== "int" &&t== "bool")
theorem Dl (K:W.Frag):∀ t∈tyL,∀ T∈["int", "bool", "str", "tuple", "list", "dict"],W.kitOne K (.type t) (.type T)=some (isI t T):=by
 intro t ht T hT
 simp only [tyL,List.mem_cons,List.not_mem_nil,or_false] at ht hT
 rcases ht with rfl | rfl | rfl | rfl | rfl | rfl | rfl <;> rcases hT with rfl | rfl | rfl | rfl | rfl | rfl <;> (unfold W.kitOne;first | rfl | decide +kernel | (simp only [W.kitCls];rfl))
section
variable {X:Cx}
theorem xS:bx X (.builtin "isinstance") (fun xs H Q=>∃ x T t,xs=[x,.ty T]∧T∈["int", "bool", "str", "tuple", "list", "dict"]∧tyN H x=some t∧Q (.bl (isI t T)) H):=by
 intro pins s σ H xs us Q I r h
 obtain ⟨x,T,t,rfl,hT,ht,q⟩:=h
 obtain ⟨u,w',rfl,r1,r2⟩:=lp r
 cases r2
 exact uT I r1 (Cp ht) (Dl X.K t (Dw ht) T hT) fun tk=>⟨.bl _,H,I.tok tk,rfl,q⟩
end
section
variable {X:Cx}
theorem rk : ∀ {bs : List Bool} {us : List Value}, aX (bs.map V.bl) us → us = bs.map Value.bool
  | [], _, .nil => rfl
  | b :: bs, _, .cons r t => by
    have e : _ = Value.bool b := r
    rw [rk t, List.map_cons, e]
theorem tP (bs:List Bool):(List.range bs.length).all (fun i=>bs.getD i false)=bs.all id:=by
 rw [Bool.eq_iff_iff,List.all_eq_true,List.all_eq_true]
 constructor
 · intro h b hb
   obtain ⟨i,hi,e⟩:=List.mem_iff_getElem.mp hb
   have:=h i (List.mem_range.mpr hi)
   simp only [List.getD_eq_getElem?_getD,List.getElem?_eq_getElem hi,Option.getD_some] at this
   rw [← e];exact this
 · intro h i hi
   have hi:=List.mem_range.mp hi
   simp only [List.getD_eq_getElem?_getD,List.getElem?_eq_getElem hi,Option.getD_some]
   exact h _ (List.getElem_mem hi)
theorem qh {prog : Program} {w : World} {A : Around} {bs : List Bool} : TruthOf prog w A (fun i v => (bs.map Value.bool).toArray[i]? = some v) (fun i => bs.getD i false) := by
  intro i v s Q E hP hQ
  have hP : (bs.map Value.bool)[i]? = some v := by simpa using hP
  rw [List.getElem?_map] at hP
  cases e : bs[i]? with
  | none => rw [e] at hP; cases hP
  | some b =>
    rw [e] at hP
    cases hP
    have hQ' : Q b s := by
      have e2 : bs.getD i false = b := by rw [List.getD_eq_getElem?_getD, e]; rfl
      have hQ2 : Q (bs.getD i false) s := hQ
      rw [e2] at hQ2; exact hQ2
    exact wpAny_of_eq (a := b) rfl hQ'
theorem wW (hc:X.calm=true):bx X (.builtin "all") (fun xs H Q=>∃ (a:Addr) (bs:List Bool),xs=[.ref a]∧H a=some (.lst (bs.map V.bl))∧Q (.bl (bs.all id)) H):=by
 intro pins s σ H xs us Q I r h
 obtain ⟨a,bs,rfl,hH,q⟩:=h
 obtain ⟨u,rfl,ru⟩:=eS r
 cases ru
 obtain ⟨z,its,n,rv,e⟩:=I.hok a _ hH
 have ei:=rk rv
 subst ei
 have hl:s.heap.IsList a (bs.map Value.bool).toArray:=⟨_,e,rfl,_,rfl⟩
 refine call_all_walk (wpAny_pyIter_list hl ?_)
 have hne:a≠s.heap.objs.size:=Nat.ne_of_lt (Heap.lt_size e)
 refine ⟨s.heap.objs.size,_,_,_,_,_,_,rfl,Walks.list (by show X.A.handled=none;exact I.ok.hd hc) _ a hne (bs.map Value.bool).toArray,⟨⟨_,Heap.get?_push_size _ rfl,rfl,rfl⟩,⟨_,Heap.get?_push_of_some _ e,rfl,_,rfl⟩⟩,qh,fun h' tk hk=>?_⟩
 have e2:((bs.map Value.bool).toArray).size=bs.length:=by simp
 rw [e2,tP]
 refine ⟨.bl _,H,I.kept (t':=tk) fun b o hb=>hk b o ?_ (Heap.get?_push_of_some _ hb),rfl,q⟩
 intro z
 have:b=s.heap.objs.size:=by simpa using z
 rw [this] at hb
 exact absurd (Heap.lt_size hb) (Nat.lt_irrefl _)
theorem qt : ∀ {xs : List Str} {us : List Value}, aX (xs.map V.str) us → StrsAre us xs
  | [], _, .nil => .nil
  | x :: xs, _, .cons r t => by
    obtain ⟨tk, e⟩ := (show ∃ t, _ = Value.str x t from r)
    rw [e]
    exact .cons _ _ (qt t)
def zh:V→List V→Hp→VK→Prop:=fun x vs H Q=>∃ (z:Str) (a:Addr) (xs:List Str),x=.str z∧vs=[.ref a]∧H a=some (.lst (xs.map V.str))∧(xs.map (·.length)).sum+xs.length*z.length≤16777216∧Q (.str (Txt.join z xs)) H
theorem Ad:MtM X "str.join" zh:=by
 intro pins s σ H x vs v us Q I rx rv h
 obtain ⟨z,a,xs,rfl,rfl,hH,hz,q⟩:=h
 obtain ⟨t,rfl⟩:=(show ∃ t,v=Value.str z t from rx)
 obtain ⟨u,rfl,ru⟩:=rv.one
 cases ru
 obtain ⟨_,its,n,rv,e⟩:=I.hok a _ hH
 refine join_list (items:=its.toArray) ⟨_,e,rfl,_,rfl⟩ (by simpa using qt rv) hz fun t' k=>⟨.str _,H,I.tok k,⟨_,rfl⟩,q⟩
end
@[irreducible] def Sel (b:Bool) (A B:Prop):Prop:=if b=true then A else B
theorem Sel.mk {b:Bool} {A B:Prop} (h1:b=true→A) (h2:b=false→B):Sel b A B:=by
 unfold Sel
 cases b with
 | true=>exact h1 rfl
 | false=>exact h2 rfl
theorem Sel.t {A B:Prop} (h:A):Sel true A B:=.mk (fun _=>h) fun e=>by cases e
theorem Sel.f {A B:Prop} (h:B):Sel false A B:=.mk (fun e=>by cases e) fun _=>h
theorem Sel.dec {p A B:Prop} [Decidable p] (h1:p→A) (h2:¬ p→B):Sel (decide p) A B:=.mk (fun e=>h1 (of_decide_eq_true e)) fun e=>h2 (of_decide_eq_false e)
theorem Sel.ndec {p A B:Prop} [Decidable p] (h1:¬ p→A) (h2:p→B):Sel (!decide p) A B:=.mk (fun e=>h1 (by simpa using e)) fun e=>h2 (by simpa using e)
theorem Sel.yes {b:Bool} {A B:Prop} (e:b=true) (h:A):Sel b A B:=by rw [e];exact .t h
theorem Sel.no {b:Bool} {A B:Prop} (e:b=false) (h:B):Sel b A B:=by rw [e];exact .f h
theorem eV {b:Bool} {A B:Prop} (h:Sel b A B):if b=true then A else B:=by unfold Sel at h;exact h
def ac (i:Nat):TE:=fun σ H Q=>match σ[i]? with | some (some v)=>Q v H | _=>False
section
variable {X:Cx}
theorem PE.imp {e:Expr} {t t':TE} (h:PE X e t) (i:∀ σ H Q,t' σ H Q→t σ H Q):PE X e t':=fun pins s σ H Q I q=>h pins s σ H Q I (i _ _ _ q)
theorem OpR.imp {f:Value→Value→Sem Value} {r r':R2} (h:OpR X f r) (i:∀ x y H Q,r' x y H Q→r x y H Q):OpR X f r':=fun pins s σ H x y v u Q I rx ry q=>h pins s σ H x y v u Q I rx ry (i _ _ _ _ q)
theorem qv (i:Nat) {x:Str} {pos:Pos} (hN:X.N[i]?=some x:=by rfl) (hv:Vis X.env.scope x:=by first | exact Or.inl rfl | exact Or.inr (Or.inl rfl) | exact Or.inr (Or.inr rfl)) (hd:(x==("__debug__" :Str))=false:=by decide)
   (hcd:(x==("__classdict__" :Str))=false:=by decide):PE X (.Name x pos) (ac i):=(Cd hN hv hd hcd).imp fun σ H Q q=>by
 unfold ac at q
 split at q
 · rename_i v e;exact ⟨v,e,q⟩
 · exact q.elim
theorem qgi {x:Str} {i:Int} {pos:Pos} (hm:∃ t,X.mg x=some (.int i t)) (hg:Gl X x:=by rfl) (hd:(x==("__debug__" :Str))=false:=by decide):PE X (.Name x pos) (tC (.int i)):=by
 obtain ⟨t,e⟩:=hm
 exact mw hg e ⟨t,rfl⟩ hd
def de:R2:=fun x y H Q=>match x,y with | .int i,.int j=>Q (.int (i - j)) H | _,_=>False
theorem dF:OpR X (binaryOp .Sub) de:=BQ.imp fun x y H Q q=>by
 unfold de at q
 split at q
 · exact ⟨_,_,rfl,rfl,q⟩
 · exact q.elim
theorem Ab:OpR X (binaryOp .Mult) (rI IntMulOk fun i j=> .int (i*j)):=opI fun _ _ _ _ _ _ _ hc q=>mul_int q hc
def dQ:R2:=fun x y H Q=>match x,y with
 | .int i,.int j=>IntMulOk i j∧Q (.int (i*j)) H
 | _,_=>False
theorem eM:OpR X (binaryOp .Mult) dQ:=Ab.imp fun x y H Q q=>by
 unfold dQ at q
 split at q
 · exact ⟨_,_,rfl,rfl,q.1,q.2⟩
 · exact q.elim
def bJ:R2:=fun x y H Q=>match x,y with | .int i,.int j=>0<j∧Q (.int (i%j)) H | _,_=>False
theorem bO:OpR X (binaryOp .Mod) bJ:=EG.imp fun x y H Q q=>by
 unfold bJ at q
 split at q
 · exact ⟨_,_,rfl,rfl,q.1,q.2⟩
 · exact q.elim
def vq:R2:=fun x y H Q=>match x,y with | .int i,.int j=>(0≤j∧j≤1000000∧i.natAbs<2^64)∧Q (.int (i^j.toNat)) H | _,_=>False
theorem IR:OpR X (binaryOp .Pow) vq:=DB.imp fun x y H Q q=>by
 unfold vq at q
 split at q
 · exact ⟨_,_,rfl,rfl,q.1,q.2⟩
 · exact q.elim
def eK:R2:=fun x y H Q=>match x,y with | .int i,.int j=>(0≤j∧j≤1000000∧i.natAbs<2^64)∧Q (.int (i*2^j.toNat)) H | _,_=>False
theorem eY:OpR X (binaryOp .LShift) eK:=Cb.imp fun x y H Q q=>by
 unfold eK at q
 split at q
 · exact ⟨_,_,rfl,rfl,q.1,q.2⟩
 · exact q.elim
def oV:R2:=fun x y H Q=>match x,y with | .int i,.int j=>0≤j∧Q (.int (i/2^j.toNat)) H | _,_=>False
theorem vW:OpR X (binaryOp .RShift) oV:=Bd.imp fun x y H Q q=>by
 unfold oV at q
 split at q
 · exact ⟨_,_,rfl,rfl,q.1,q.2⟩
 · exact q.elim
def mC:R2:=fun x y H Q=>match x,y with | .int i,.int j=>Q (.int (Builtin.bitXor i j)) H | _,_=>False
theorem sP:OpR X (binaryOp .BitXor) mC:=DI.imp fun x y H Q q=>by
 unfold mC at q
 split at q
 · exact ⟨_,_,rfl,rfl,q⟩
 · exact q.elim
def sE:R2:=fun x y H Q=>match x,y with | .int i,.int j=>Q (.int (Builtin.bitAnd i j)) H | _,_=>False
theorem EV:OpR X (binaryOp .BitAnd) sE:=Bx.imp fun x y H Q q=>by
 unfold sE at q
 split at q
 · exact ⟨_,_,rfl,rfl,q⟩
 · exact q.elim
def mLt:R2:=fun x y H Q=>match x,y with | .int i,.int j=>Q (.bl (decide (i<j))) H | _,_=>False
theorem oLt:OpR X (compareOp .Lt) mLt:=Fw.imp fun x y H Q q=>by
 unfold mLt at q
 split at q
 · exact ⟨_,_,rfl,rfl,q⟩
 · exact q.elim
def mLe:R2:=fun x y H Q=>match x,y with | .int i,.int j=>Q (.bl (decide (i≤j))) H | _,_=>False
theorem oLe:OpR X (compareOp .LtE) mLe:=GQ.imp fun x y H Q q=>by
 unfold mLe at q
 split at q
 · exact ⟨_,_,rfl,rfl,q⟩
 · exact q.elim
def mGt:R2:=fun x y H Q=>match x,y with | .int i,.int j=>Q (.bl (decide (j<i))) H | _,_=>False
theorem oGt:OpR X (compareOp .Gt) mGt:=GZ.imp fun x y H Q q=>by
 unfold mGt at q
 split at q
 · exact ⟨_,_,rfl,rfl,q⟩
 · exact q.elim
def mEq:R2:=fun x y H Q=>match x,y with
 | .int i,.int j=>Q (.bl (decide (i=j))) H
 | .str i,.str j=>Q (.bl (decide (i=j))) H
 | .bl i,.bl j=>Q (.bl (decide (i=j))) H
 | .non,.non=>Q (.bl true) H
 | .non,.int _=>Q (.bl false) H | .int _,.non=>Q (.bl false) H | .non,.bl _=>Q (.bl false) H | .bl _,.non=>Q (.bl false) H | .non,.str _=>Q (.bl false) H | .str _,.non=>Q (.bl false) H
 | .int _,.str _=>Q (.bl false) H | .str _,.int _=>Q (.bl false) H | .bl _,.str _=>Q (.bl false) H | .str _,.bl _=>Q (.bl false) H
 | _,_=>False
theorem jr {α:Type} [DecidableEq α] {f:α→V} (hf:∀ a b,f a=f b→a=b) (a b:α):decide (f a=f b)=decide (a=b):=by
 by_cases h:a=b
 · subst h;simp
 · rw [decide_eq_false h,decide_eq_false fun e=>h (hf a b e)]
theorem oEq:OpR X (compareOp .Eq) mEq:=FE.imp fun x y H Q q=>by
 unfold mEq at q
 split at q
 · exact ⟨rfl,by rw [jr (f:=V.int) fun _ _ e=>V.int.inj e];exact q⟩
 · exact ⟨rfl,by rw [jr (f:=V.str) fun _ _ e=>V.str.inj e];exact q⟩
 · exact ⟨rfl,by rw [jr (f:=V.bl) fun _ _ e=>V.bl.inj e];exact q⟩
 · exact ⟨rfl,by simpa using q⟩
 all_goals first | exact q.elim | exact ⟨rfl,q⟩
def mNe:R2:=fun x y H Q=>match x,y with
 | .int i,.int j=>Q (.bl (!decide (i=j))) H
 | .str i,.str j=>Q (.bl (!decide (i=j))) H
 | .bl i,.bl j=>Q (.bl (!decide (i=j))) H
 | .non,.non=>Q (.bl false) H
 | .non,.int _=>Q (.bl true) H | .int _,.non=>Q (.bl true) H | .non,.bl _=>Q (.bl true) H | .bl _,.non=>Q (.bl true) H | .non,.str _=>Q (.bl true) H | .str _,.non=>Q (.bl true) H
 | .int _,.str _=>Q (.bl true) H | .str _,.int _=>Q (.bl true) H | .bl _,.str _=>Q (.bl true) H | .str _,.bl _=>Q (.bl true) H
 | _,_=>False
theorem oNe:OpR X (compareOp .NotEq) mNe:=Gf.imp fun x y H Q q=>by
 unfold mNe at q
 split at q
 · exact ⟨rfl,by rw [jr (f:=V.int) fun _ _ e=>V.int.inj e];exact q⟩
 · exact ⟨rfl,by rw [jr (f:=V.str) fun _ _ e=>V.str.inj e];exact q⟩
 · exact ⟨rfl,by rw [jr (f:=V.bl) fun _ _ e=>V.bl.inj e];exact q⟩
 · exact ⟨rfl,by simpa using q⟩
 all_goals first | exact q.elim | exact ⟨rfl,q⟩
def xk:R2:=fun x y H Q=>match y with | .non=>Q (.bl (match x with | .non=>true | _=>false)) H | _=>False
theorem oIs:OpR X (compareOp .Is) xk:=EF.imp fun x y H Q q=>by
 unfold xk at q
 split at q
 · refine ⟨rfl,?_⟩
   cases x <;> simpa using q
 · exact q.elim
def aV (t:TE):TT:=fun σ H Q=>t σ H fun x H'=>match x with | .bl k=>Q k H' | _=>False
theorem qtc {op:CmpOp} {r:R2} {a b:Expr} {ta tb:TE} {pos:Pos} (ho:OpR X (compareOp op) r) (ha:PE X a ta) (hb:PE X b tb) (hm:behindInMarks op b=false:=by first | exact kW _ | rfl):PT X (.Compare a [op] [b] pos) (aV (tOp r ta tb)):=by
 intro pins s σ H Q I h
 refine wpAny_isTrue_Compare1 (thn (ha pins s σ H _ I h) fun v s1 ⟨x,H1,I1,r1,q1⟩=>thn (hb pins s1 σ H1 _ I1 q1) fun u s2 ⟨y,H2,I2,r2,q2⟩=>
  thn (ho pins s2 σ H2 x y v u _ I2 r1 r2 q2) fun c s3 ⟨z,H3,I3,r3,q3⟩=>?_) hm
 cases z <;> first | exact q3.elim | (cases r3;exact wpAny_truthy_bool ⟨H3,I3,q3⟩)
theorem qc {op:CmpOp} {r:R2} {a b:Expr} {ta tb:TE} {pos:Pos} (ho:OpR X (compareOp op) r) (ha:PE X a ta) (hb:PE X b tb) (hm:behindInMarks op b=false:=by first | exact kW _ | rfl):PE X (.Compare a [op] [b] pos) (tOp r ta tb):=AD ho ha hb hm
def dL (r r':R2) (ta tb tc:TE):TE:=fun σ H Q=>ta σ H fun x H1=>tb σ H1 fun y H2=>r x y H2 fun z H3=>match z with
 | .bl k=>Sel k (tc σ H3 fun w' H4=>r' y w' H4 Q) (Q (.bl false) H3)
 | _=>False
theorem qch {op op':CmpOp} {r r':R2} {a b c:Expr} {ta tb tc:TE} {pos:Pos} (ho:OpR X (compareOp op) r) (ho':OpR X (compareOp op') r') (ha:PE X a ta) (hb:PE X b tb) (hc:PE X c tc)
  (hm:lastMarks [op,op'] [b,c]=false:=by with_unfolding_all rfl):PE X (.Compare a [op,op'] [b,c] pos) (dL r r' ta tb tc):=by
 intro pins s σ H Q I h
 refine Compare_chain (thn (ha pins s σ H _ I h) fun v s1 ⟨x,H1,I1,r1,q1⟩=>chain_link (thn (hb pins s1 σ H1 _ I1 q1) fun u s2 ⟨y,H2,I2,r2,q2⟩=>
  thn (ho pins s2 σ H2 x y v u _ I2 r1 r2 q2) fun d s3 ⟨z,H3,I3,r3,q3⟩=>?_)) hm
 cases z <;> first | exact q3.elim | skip
 rename_i k
 cases r3
 refine wpAny_truthy_bool ?_
 have q3:=eV q3
 cases k with
 | false=>exact ite_ff ⟨.bl false,H3,I3,rfl,q3⟩
 | true=>exact ite_tt (chain_last (thn (hc pins s3 σ H3 _ I3 q3) fun w' s4 ⟨z',H4,I4,r4,q4⟩=>ho' pins s4 σ H4 y z' u w' Q I4 r2 r4 q4))
theorem Kl {op op' : CmpOp} {r r' : R2} {a b c : Expr} {ta tb tc : TE} {pos : Pos} (ho : OpR X (compareOp op) r) (ho' : OpR X (compareOp op') r') (ha : PE X a ta) (hb : PE X b tb) (hc : PE X c tc)
    (hm : lastMarks [op, op'] [b, c] = false := by with_unfolding_all rfl) : PT X (.Compare a [op, op'] [b, c] pos) (aV (dL r r' ta tb tc)) := by
  intro pins s σ H Q I h
  refine isTrue_chain (thn (ha pins s σ H _ I h) fun v s1 ⟨x, H1, I1, r1, q1⟩ => test_link (thn (hb pins s1 σ H1 _ I1 q1) fun u s2 ⟨y, H2, I2, r2, q2⟩ =>
    thn (ho pins s2 σ H2 x y v u _ I2 r1 r2 q2) fun d s3 ⟨z, H3, I3, r3, q3⟩ => ?_)) hm
  cases z <;> first | exact q3.elim | skip
  rename_i k
  cases r3
  refine wpAny_truthy_bool ?_
  have q3 := eV q3
  cases k with
  | false => exact ite_ff ⟨H3, I3, q3⟩
  | true =>
    refine ite_tt (test_last (thn (hc pins s3 σ H3 _ I3 q3) fun w' s4 ⟨z', H4, I4, r4, q4⟩ => thn (ho' pins s4 σ H4 y z' u w' _ I4 r2 r4 q4) fun d' s5 ⟨z2, H5, I5, r5, q5⟩ => ?_))
    cases z2 <;> first | exact q5.elim | (cases r5; exact wpAny_truthy_bool ⟨H5, I5, q5⟩)
def bM (K:W.Frag) (t:TE):TT:=fun σ H Q=>t σ H fun x H'=>match x with
 | .bl k=>Q k H'
 | .non=>Q false H'
 | .int i=>Q (i !=0) H'
 | x=>∃ k,DK K x H' k∧Q k H'
theorem qtb {e:Expr} {t:TE} (h:PE X e t) (he:∀ whole,isTrue e X.env whole=(do let v←whole;standAt e.pos;holding [v] (truthy v)):=by intro _;rfl):PT X e (bM X.K t):=by
 intro pins s σ H Q I q
 refine isTrue_plain (thn (h pins s σ H _ I q) fun v s1 ⟨x,H1,I1,r1,q1⟩=>BV pins s1 σ H1 x v Q I1 r1 ?_) (he _)
 cases x <;> first | exact ⟨_,rfl,q1⟩ | exact q1
def qe (t u:TT):TT:=fun σ H Q=>t σ H fun c H1=>Sel c (u σ H1 Q) (Q false H1)
def mOr (t u:TT):TT:=fun σ H Q=>t σ H fun c H1=>Sel c (Q true H1) (u σ H1 Q)
variable {a b c:Expr} {ta tb:TE} {tA tB':TT} {bL:List Expr} {pos:Pos}
theorem AG (ha:PT X a tA):PW X (.BoolOp .And [a] pos) tA:=zY ha
theorem Bv (ha:PT X a tA):PW X (.BoolOp .Or [a] pos) tA:=DE ha
theorem Di (ha:PT X a tA) (hb:PW X (.BoolOp .And (b::bL) pos) tB'):PW X (.BoolOp .And (a::b::bL) pos) (qe tA tB'):=by
 intro wh pins s σ H Q I h
 refine isTrue_and (thn (ha pins s σ H _ I h) fun c s1 ⟨H1,I1,q1⟩=>?_)
 have q1:=eV q1
 cases c with
 | true=>exact hb wh pins s1 σ H1 Q I1 q1
 | false=>exact ⟨H1,I1,q1⟩
theorem HN (ha:PT X a tA) (hb:PW X (.BoolOp .Or (b::bL) pos) tB'):PW X (.BoolOp .Or (a::b::bL) pos) (mOr tA tB'):=by
 intro wh pins s σ H Q I h
 refine isTrue_or (thn (ha pins s σ H _ I h) fun c s1 ⟨H1,I1,q1⟩=>?_)
 have q1:=eV q1
 cases c with
 | true=>exact ⟨H1,I1,q1⟩
 | false=>exact hb wh pins s1 σ H1 Q I1 q1
def dW (ta tb:TE):TE:=fun σ H Q=>ta σ H fun x H1=>match x with | .bl c=>Sel c (tb σ H1 Q) (Q (.bl false) H1) | _=>False
def vU (ta tb:TE):TE:=fun σ H Q=>ta σ H fun x H1=>match x with | .bl c=>Sel c (Q (.bl true) H1) (tb σ H1 Q) | _=>False
def nM (ta:TE):TE:=fun σ H Q=>ta σ H fun x H1=>match x with | .bl c=>Q (.bl (!c)) H1 | _=>False
theorem Ji (ha:PE X a ta) (hb:PE X (.BoolOp .And (b::bL) pos) tb):PE X (.BoolOp .And (a::b::bL) pos) (dW ta tb):=by
 intro pins s σ H Q I h
 refine BoolOp_and (thn (ha pins s σ H _ I h) fun v s1 ⟨x,H1,I1,r1,q1⟩=>?_)
 cases x <;> first | exact q1.elim | skip
 rename_i c
 cases r1
 refine wpAny_truthy_bool ?_
 have q1:=eV q1
 cases c with
 | true=>exact hb pins s1 σ H1 Q I1 q1
 | false=>exact ⟨.bl false,H1,I1,rfl,q1⟩
theorem qor (ha:PE X a ta) (hb:PE X (.BoolOp .Or (b::bL) pos) tb):PE X (.BoolOp .Or (a::b::bL) pos) (vU ta tb):=by
 intro pins s σ H Q I h
 refine BoolOp_or (thn (ha pins s σ H _ I h) fun v s1 ⟨x,H1,I1,r1,q1⟩=>?_)
 cases x <;> first | exact q1.elim | skip
 rename_i c
 cases r1
 refine wpAny_truthy_bool ?_
 have q1:=eV q1
 cases c with
 | false=>exact hb pins s1 σ H1 Q I1 q1
 | true=>exact ⟨.bl true,H1,I1,rfl,q1⟩
theorem Gb (ha:PE X a ta):PE X (.UnaryOp .Not a pos) (nM ta):=by
 intro pins s σ H Q I h
 refine UnaryOp_ (thn (ha pins s σ H _ I h) fun v s1 ⟨x,H1,I1,r1,q1⟩=>?_)
 cases x <;> first | exact q1.elim | skip
 rename_i c
 cases r1
 exact not_of (wpAny_truthy_bool ⟨.bl (!c),H1,I1,rfl,q1⟩)
def mIf (t:TT) (ta tb:TE):TE:=fun σ H Q=>t σ H fun c H1=>Sel c (ta σ H1 Q) (tb σ H1 Q)
theorem Jp {c:Expr} (hc:PT X c tA) (ha:PE X a ta) (hb:PE X b tb):PE X (.IfExp c a b pos) (mIf tA ta tb):=by
 intro pins s σ H Q I h
 refine wpAny_IfExp (thn (hc pins s σ H _ I h) fun d s1 ⟨H1,I1,q1⟩=>?_)
 have q1:=eV q1
 cases d with
 | true=>exact ha pins s1 σ H1 Q I1 q1
 | false=>exact hb pins s1 σ H1 Q I1 q1
def aZ (c:TT) (t u:TS):TS:=fun D σ H=>c σ H fun b H1=>Sel b (t D σ H1) (u D σ H1)
theorem qif {c:Expr} {l m:List Stmt} {tc:TT} {t u:TS} (hc:PT X c tc) (ha:PSs X l t) (hb:PSs X m u):PS X (.If c l m pos) (aZ tc t u):=by
 intro pins s σ H D I h
 refine wpAny_If (thn (hc pins s σ H _ I h) fun d s1 ⟨H1,I1,q1⟩=>?_)
 have q1:=eV q1
 cases d with
 | true=>exact ha pins s1 σ H1 D I1 q1
 | false=>exact hb pins s1 σ H1 D I1 q1
theorem Jt:bx X (.builtin "len") (fun xs H Q=>match xs with
   | [.str y]=>y.length≤sizeLine∧Q (.int y.length) H
   | [.ref p]=>(∃ xs,SqL X.K H p xs∧Q (.int xs.length) H)∨(∃ xs,SqT X.K H p xs∧Q (.int xs.length) H)∨∃ kvs,H p=some (.dK kvs)∧Q (.int kvs.length) H
   | _=>False):=by
 intro pins s σ H xs us Q I r h
 split at h
 · rename_i y
   exact kL pins s σ H _ us Q I r ⟨_,_,rfl,⟨h.1,rfl⟩,h.2⟩
 · rename_i p
   rcases h with ⟨ys,h1,h2⟩ | ⟨ys,h1,h2⟩ | ⟨kvs,h1,h2⟩
   · exact kL pins s σ H _ us Q I r ⟨_,_,rfl,.inl ⟨ys,h1,rfl⟩,h2⟩
   · exact kL pins s σ H _ us Q I r ⟨_,_,rfl,.inr ⟨ys,h1,rfl⟩,h2⟩
   · exact tV pins s σ H _ us Q I r ⟨p,kvs,rfl,h1,h2⟩
 · exact h.elim
end
section
variable {X:Cx} {tg:Expr}
def mn:V→Hp→VK→Prop:=fun x H Q=>match x with | .int i=>Q (.int (-i)) H | _=>False
theorem JA:UnR X (unaryOp .USub) mn:=fun pins s σ H x v Q I rx q=>DZ pins s σ H x v Q I rx (by
 unfold mn at q
 split at q
 · exact ⟨_,rfl,q⟩
 · exact q.elim)
def Bh (K:W.Frag):List V→Hp→VK→Prop:=fun xs H Q=>match xs with
 | [.str y]=>y.length≤sizeLine∧Q (.int y.length) H
 | [.ref p]=>(∃ xs,SqL K H p xs∧Q (.int xs.length) H)∨(∃ xs,SqT K H p xs∧Q (.int xs.length) H)∨∃ kvs,H p=some (.dK kvs)∧Q (.int kvs.length) H
 | _=>False
theorem IS:bx X (.builtin "len") (Bh X.K):=Jt
def dS:List V→Hp→VK→Prop:=fun xs H Q=>match xs with
 | [x,.ty T]=>T∈["int", "bool", "str", "tuple", "list", "dict"]∧∃ t,tyN H x=some t∧Q (.bl (isI t T)) H
 | _=>False
theorem eI:bx X (.builtin "isinstance") dS:=fun pins s σ H xs us Q I r h=>by
 unfold dS at h
 split at h
 · obtain ⟨h1,t,h2,h3⟩:=h
   exact xS pins s σ H _ us Q I r ⟨_,_,t,rfl,h1,h2,h3⟩
 · exact h.elim
def BI:List V→Hp→VK→Prop:=fun xs H Q=>∃ (a:Addr) (bs:List Bool),xs=[.ref a]∧H a=some (.lst (bs.map V.bl))∧Q (.bl (bs.all id)) H
theorem JH (hc:X.calm=true):bx X (.builtin "all") BI:=wW hc
def xv:List V→Hp→VK→Prop:=fun xs H Q=>match xs with
 | [.int i]=>i.natAbs.log2<1920∧Q (.str (toString i)) H
 | _=>False
theorem Jf:bx X (.type "str") xv:=fun pins s σ H xs us Q I r h=>by
 unfold xv at h
 split at h
 · exact pY pins s σ H _ us Q I r ⟨_,rfl,h.1,h.2⟩
 · exact h.elim
def yu:List V→Hp→VK→Prop:=fun xs H Q=>match xs with
 | [.str x]=>x.length=1∧Q (.int (x.cps.getD 0 0:Nat)) H
 | _=>False
theorem IV:bx X (.builtin "ord") yu:=fun pins s σ H xs us Q I r h=>by
 unfold yu at h
 split at h
 · exact vv pins s σ H _ us Q I r ⟨_,rfl,h.1,h.2⟩
 · exact h.elim
end
theorem Dm:bootBuiltins "all" =some (.builtin "all"):=by decide +kernel
structure eO (J:It) (n:Nat) (it:Nat→V) (Pv:Hp→Prop):Prop where
 go:∀ i H,i<n→Pv H→J.go i H
 yld:∀ i H x H',i<n→Pv H→J.yld i H x H'→H'=H∧x=it i
 stop:∀ H,Pv H→J.stop n H
theorem eO.list {K:W.Frag} {a:Addr} {xs:List V} (d:V):eO (Itl K a) xs.length (fun i=>xs.getD i d) (fun H=>SqL K H a xs) where
 go:=fun i H hi h=>⟨xs,xs[i],h,by simp [hi]⟩
 yld:=fun i H x H' hi h y=>⟨y.1,by have:=y.2 xs h;rw [List.getD_eq_getElem?_getD,this];rfl⟩
 stop:=fun H h=>⟨xs,h,Nat.le_refl _⟩
theorem eO.tuple {K:W.Frag} {a:Addr} {xs:List V} (d:V):eO (Itt K a) xs.length (fun i=>xs.getD i d) (fun H=>SqT K H a xs) where
 go:=fun i H hi h=>⟨xs,xs[i],h,by simp [hi]⟩
 yld:=fun i H x H' hi h y=>⟨y.1,by have:=y.2 xs h;rw [List.getD_eq_getElem?_getD,this];rfl⟩
 stop:=fun H h=>⟨xs,h,Nat.le_refl _⟩
def CWd (n:Nat) (Pv:Nat→List V→Hp→Prop):Nat→Nat→List V→Hp→Prop:=fun i m ys H=>i≤n∧m=n - i∧Pv i ys H
theorem CWd.next {n i:Nat} {Pv:Nat→List V→Hp→Prop} {ys:List V} {H:Hp} (hi:i<n) (h:Pv (i+1) ys H):∃ m',m'<n - i∧CWd n Pv (i+1) m' ys H:=⟨n - (i+1),by omega,hi,rfl,h⟩
theorem hZ {J : It} {n : Nat} {it : Nat → V} {Pk : Hp → Prop} {σ : St} {is : List Nat} {tc : TT} {te : TE} {Q : VK} {H1 : Hp} {D : Addr} (T : eO J n it Pk) (Pv : Nat → List V → Hp → Prop)
   (hk : ∀ i ys H, i ≤ n → Pv i ys H → Pk H) (h0 : Pv 0 [] (upd H1 D (.lst [])))
   (hs : ∀ i ys H2, i < n → Pv i ys H2 → tc (some (it i) :: bF σ is) H2 fun b H4 => if b = true then
    te (some (it i) :: bF σ is) H4 fun y H5 => H5 D = some (.lst ys) ∧ ys.length < sizeLine ∧ ∃ m', m' < n - i ∧ CWd n Pv (i + 1) m' (ys ++ [y]) (upd H5 D (.lst (ys ++ [y])))
    else ∃ m', m' < n - i ∧ CWd n Pv (i + 1) m' ys H4)
   (hd : ∀ ys H, Pv n ys H → Q (.ref D) H) : tE is tc te σ D J H1 Q := by
 refine ⟨CWd n Pv, ⟨n, Nat.zero_le _, rfl, h0⟩, ?_⟩
 rintro i m ys H2 ⟨hi, rfl, p⟩
 by_cases hlt : i < n
 · refine .inr ⟨T.go i H2 hlt (hk i ys H2 hi p), fun x H3 y => ?_⟩
   obtain ⟨rfl, rfl⟩ := T.yld i H2 x H3 hlt (hk i ys H2 hi p) y
   exact hs i ys _ hlt p
 · have e : i = n := by omega
   subst e
   exact .inl ⟨T.stop H2 (hk _ ys H2 hi p), hd ys H2 p⟩
theorem au.upd {H:Hp} {p:Addr} {o:HO} (h:H p=none):au H (upd H p o):=fun b u e=>by rw [ap (az e h)];exact e
theorem au.put {H H':Hp} {p:Addr} {o:HO} (s:au H H') (h:H p=none):au H (L2.upd H' p o):=fun b u e=>by rw [ap (az e h)];exact s b u e
theorem uZ {xs:List V} {i:Int} (h0:0≤i) (h1:i<xs.length):atI xs i=some (xs.getD i.toNat .non):=by
 unfold atI ixN
 rw [if_pos h0,if_pos h1]
 show xs[i.toNat]?=_
 rw [List.getD_eq_getElem?_getD]
 have:i.toNat<xs.length:=by omega
 rw [List.getElem?_eq_getElem this];rfl
def bZ:Expr→Bool
 | .Starred _ _=>false
 | _=>true
theorem bo {e:Expr} (h:bZ e=true) (bL:List Expr) (env:Env):starEach (e::bL) env=(false,eval e env)::starEach bL env:=by
 cases e <;> first | rfl | cases h
def bn:List Expr→Bool
 | []=>true
 | e::r=>bZ e&&bn r
theorem bU : ∀ {es : List Expr} {env : Env} {pos : Pos}, bn es = true → (backTo pos (starEach es env)).any (·.1) = false
  | [], _, _, _ => rfl
  | e :: r, env, pos, h => by
    have h : (bZ e && bn r) = true := h
    rw [Bool.and_eq_true] at h
    rw [bo h.1]
    show (false || (backTo pos (starEach r env)).any (·.1)) = false
    rw [bU h.2]; rfl
section
variable {X:Cx} {e:Expr} {es:List Expr} {te:TE} {t:TA} {pos:Pos}
theorem An (ha:PE X e te) (hr:PA X es t) (hs:bZ e=true:=by rfl):PA X (e::es) (ae te t):=AV ha hr (bo hs es X.env)
variable {x:Str} {p apos cpos:Pos} {id T:String} {r:List V→Hp→VK→Prop}
theorem Ap (hc:bx X (.builtin id) r) (hg:Gl X x) (hm:X.mg x=none) (hv:bootBuiltins x=some (.builtin id)) (ha:PA X (e::es) t) (hn:x≠ "__name__" :=by decide) (hdb:(x==("__debug__" :Str))=false:=by decide)
  (hs:bn (e::es)=true:=by rfl):PE X (.Call (.Name x p) (e::es) [] pos) (tCB r t):=
 have h:(bZ e&&bn es)=true:=hs
 wL hc hg hm hv ha hn hdb (bo (Bool.and_eq_true_iff.mp h).1 es X.env) (bU (Bool.and_eq_true_iff.mp h).2)
theorem wG (hc:bx X (.type T) r) (hg:Gl X x) (hm:X.mg x=none) (hv:bootBuiltins x=some (.type T)) (ha:PA X (e::es) t) (hn:x≠ "__name__" :=by decide) (hdb:(x==("__debug__" :Str))=false:=by decide)
  (hs:bn (e::es)=true:=by rfl):PE X (.Call (.Name x p) (e::es) [] pos) (tCB r t):=
 have h:(bZ e&&bn es)=true:=hs
 uG hc hg hm hv ha hn hdb (bo (Bool.and_eq_true_iff.mp h).1 es X.env) (bU (Bool.and_eq_true_iff.mp h).2)
variable {CX:CXT} {k:Nat} {f C:Addr} {fd:FuncData} {ps:List Str} {sp:Sp} {dvs:List V} {ds:List Value} {E:XK} {m:Str} {o:Expr} {ta:TE}
theorem jZ : ∀ {es : List Expr} {env : Env} {pos : Pos}, bn es = true → (backTo pos (starEach es env)).all (fun x => !x.1) = true
  | [], _, _, _ => rfl
  | e :: r, env, pos, h => by
    have h : (bZ e && bn r) = true := h
    rw [Bool.and_eq_true] at h
    rw [bo h.1]
    show (true && (backTo pos (starEach r env)).all (fun x => !x.1)) = true
    rw [jZ h.2]; rfl
variable {to:TE} {name:Str} {rm:V→List V→Hp→VK→Prop}
theorem KI (pa:PlainAttrs T) (slot:Slot T name id) (hty:typeOf (.builtin id)=pure (.type "method_descriptor")) (hm:MtR X id rm) (ho:PE X o to) (ha:PA X (e::es) t)
  (hbase:attributeBase o name X.env (eval o X.env)=eval o X.env:=by rfl) (hfew:decide ((e::es).length<30)=true:=by rfl)
  (hline:(apos.endLine==cpos.line)=true:=by rfl) (hs:bn (e::es)=true:=by rfl):PE X (.Call (.Attribute o name apos) (e::es) [] cpos) (tBM X.K T rm to t):=
 have h:(bZ e&&bn es)=true:=hs
 HY pa slot hty hm ho ha hbase (by rw [jZ hs];exact hfew) hline (bo (Bool.and_eq_true_iff.mp h).1 es X.env) (bU (Bool.and_eq_true_iff.mp h).2)
end
structure QE (X:Cx) (e:Expr) (t:TE):Prop where
 out:PE X e t
structure QT (X:Cx) (e:Expr) (t:TT):Prop where
 out:PT X e t
structure QW (X:Cx) (e:Expr) (t:TT):Prop where
 out:PW X e t
structure QA (X:Cx) (e:List Expr) (t:TA):Prop where
 out:PA X e t
structure QS (X:Cx) (e:Stmt) (t:TS):Prop where
 out:PS X e t
structure QSs (X:Cx) (e:List Stmt) (t:TS):Prop where
 out:PSs X e t
structure QI (X:Cx) (tg iter:Expr) (t:TI):Prop where
 out:PI X tg iter t
structure QO (X:Cx) (e:Option Expr) (t:TO):Prop where
 out:PO X e t
structure sj (X:Cx) (e:List Expr) (t:TT):Prop where
 out:rH X e t
section
variable {X:Cx} {a b c e o:Expr} {es bL:List Expr} {ta tb tc te to tv:TE} {tA tB':TT} {t:TA} {pos apos cpos p:Pos} {x y:Str}
theorem aa (i:Nat) (hN:X.N[i]?=some x:=by rfl) (hv:Vis X.env.scope x:=by first | exact Or.inl rfl | exact Or.inr (Or.inl rfl) | exact Or.inr (Or.inr rfl)) (hd:(x==("__debug__" :Str))=false:=by decide)
 (hcd:(x==("__classdict__" :Str))=false:=by decide):QE X (.Name x pos) (ac i):=⟨qv i hN hv hd hcd⟩
theorem xq {i:Int} (hm:∃ t,X.mg x=some (.int i t)) (hg:Gl X x:=by rfl) (hd:(x==("__debug__" :Str))=false:=by decide):QE X (.Name x pos) (tC (.int i)):=⟨qgi hm hg hd⟩
theorem eN {T:String} (hm:X.mg x=none) (hv:bootBuiltins x=some (.type T)) (hg:Gl X x:=by rfl) (hn:x≠ "__name__" :=by decide) (hd:(x==("__debug__" :Str))=false:=by decide):QE X (.Name x pos) (tC (.ty T)):=⟨zT hg hm hv rfl hn hd⟩
theorem ak {i:Int} {j}:QE X (.Constant (.int i) j pos) (tC (.int i)):=⟨Bp⟩
theorem ej {b:Bool} {j}:QE X (.Constant (.bool b) j pos) (tC (.bl b)):=⟨Fp⟩
theorem rT {j}:QE X (.Constant .none j pos) (tC .non):=⟨DC⟩
theorem cb {z:Str} {j}:QE X (.Constant (.str z) j pos) (tC (.str z)):=⟨BF⟩
theorem rX (ha:QE X a ta):QE X (.UnaryOp .USub a pos) (tUn mn ta):=⟨Hw JA ha.out⟩
theorem zH (ha:QE X a ta):QE X (.UnaryOp .Not a pos) (nM ta):=⟨Gb ha.out⟩
theorem ax {op:Operator} {r:R2} (ho:OpR X (binaryOp op) r) (ha:QE X a ta) (hb:QE X b tb):QE X (.BinOp a op b pos) (tOp r ta tb):=⟨IL ho ha.out hb.out⟩
theorem eQ {op:CmpOp} {r:R2} (ho:OpR X (compareOp op) r) (ha:QE X a ta) (hb:QE X b tb) (hm:behindInMarks op b=false:=by first | exact kW _ | rfl):QE X (.Compare a [op] [b] pos) (tOp r ta tb):=⟨qc ho ha.out hb.out hm⟩
theorem mf {op op':CmpOp} {r r':R2} (ho:OpR X (compareOp op) r) (ho':OpR X (compareOp op') r') (ha:QE X a ta) (hb:QE X b tb) (hc:QE X c tc) (hm:lastMarks [op,op'] [b,c]=false:=by with_unfolding_all rfl):
 QE X (.Compare a [op,op'] [b,c] pos) (dL r r' ta tb tc):=⟨qch ho ho' ha.out hb.out hc.out hm⟩
theorem fG {op} (h:QE X a ta):QE X (.BoolOp op [a] pos) ta:=⟨DQ h.out⟩
theorem eT (ha:QE X a ta) (hb:QE X (.BoolOp .And (b::bL) pos) tb):QE X (.BoolOp .And (a::b::bL) pos) (dW ta tb):=⟨Ji ha.out hb.out⟩
theorem Ko (ha:QE X a ta) (hb:QE X (.BoolOp .Or (b::bL) pos) tb):QE X (.BoolOp .Or (a::b::bL) pos) (vU ta tb):=⟨qor ha.out hb.out⟩
theorem oP (hc:QT X c tA) (ha:QE X a ta) (hb:QE X b tb):QE X (.IfExp c a b pos) (mIf tA ta tb):=⟨Jp hc.out ha.out hb.out⟩
theorem af:QA X [] ai:=⟨Bg⟩
theorem ab (ha:QE X e te) (hr:QA X es t) (hs:bZ e=true:=by rfl):QA X (e::es) (ae te t):=⟨An ha.out hr.out hs⟩
theorem fi (h:QA X es t):QE X (.List es pos) (ff t):=⟨CS h.out⟩
theorem cH {x1} (h:QA X es t):QE X (.Tuple es x1 pos) (df t):=⟨Be h.out⟩
theorem bd {r:R2} (hr:IxR X r) (ha:QE X a ta) (hb:QE X b tb) (hs:qI b):QE X (.Subscript a b pos) (tOp r ta tb):=⟨Iv hr ha.out hb.out hs⟩
theorem ma:QO X none gX:=⟨Aq⟩
theorem ij (h:QE X e te):QO X (some e) (iF te):=⟨AN h.out⟩
theorem jS {r:V→Option Int→Option Int→Hp→VK→Prop} {lo hi:Option Expr} {tl th:TO} {p2:Pos} (hr:SlR X r) (he:QE X e te) (hl:QO X lo tl) (hu:QO X hi th):QE X (.Subscript e (.Slice lo hi none p2) pos) (tSl r te tl th):=⟨vX hr he.out hl.out hu.out⟩
variable {id T:String} {r:List V→Hp→VK→Prop}
theorem aC (hc:bx X (.builtin id) r) (hm:X.mg x=none) (hv:bootBuiltins x=some (.builtin id)) (ha:QA X (e::es) t) (hg:Gl X x:=by rfl) (hn:x≠ "__name__" :=by decide) (hdb:(x==("__debug__" :Str))=false:=by decide)
 (hs:bn (e::es)=true:=by rfl):QE X (.Call (.Name x p) (e::es) [] pos) (tCB r t):=⟨Ap hc hg hm hv ha.out hn hdb hs⟩
theorem kg (hc:bx X (.type T) r) (hm:X.mg x=none) (hv:bootBuiltins x=some (.type T)) (ha:QA X (e::es) t) (hg:Gl X x:=by rfl) (hn:x≠ "__name__" :=by decide) (hdb:(x==("__debug__" :Str))=false:=by decide)
 (hs:bn (e::es)=true:=by rfl):QE X (.Call (.Name x p) (e::es) [] pos) (tCB r t):=⟨wG hc hg hm hv ha.out hn hdb hs⟩
variable {CX:CXT} {k:Nat} {f C:Addr} {fd:FuncData} {ps:List Str} {sp:Sp} {dvs:List V} {ds:List Value} {E:XK} {m:Str}
variable {name:Str} {rm:V→List V→Hp→VK→Prop}
theorem mO (pa:PlainAttrs T) (slot:Slot T name id) (hty:typeOf (.builtin id)=pure (.type "method_descriptor")) (hm:MtR X id rm) (ho:QE X o to) (ha:QA X (e::es) t)
 (hbase:attributeBase o name X.env (eval o X.env)=eval o X.env:=by rfl) (hfew:decide ((e::es).length<30)=true:=by rfl)
 (hline:(apos.endLine==cpos.line)=true:=by rfl) (hs:bn (e::es)=true:=by rfl):QE X (.Call (.Attribute o name apos) (e::es) [] cpos) (tBM X.K T rm to t):=⟨KI pa slot hty hm ho.out ha.out hbase hfew hline hs⟩
theorem aU {op:CmpOp} {r:R2} (ho:OpR X (compareOp op) r) (ha:QE X a ta) (hb:QE X b tb) (hm:behindInMarks op b=false:=by first | exact kW _ | rfl):QT X (.Compare a [op] [b] pos) (aV (tOp r ta tb)):=⟨qtc ho ha.out hb.out hm⟩
theorem gE {op op':CmpOp} {r r':R2} (ho:OpR X (compareOp op) r) (ho':OpR X (compareOp op') r') (ha:QE X a ta) (hb:QE X b tb) (hc:QE X c tc) (hm:lastMarks [op,op'] [b,c]=false:=by with_unfolding_all rfl):
 QT X (.Compare a [op,op'] [b,c] pos) (aV (dL r r' ta tb tc)):=⟨Kl ho ho' ha.out hb.out hc.out hm⟩
theorem br (h:QE X e te) (he:∀ whole,isTrue e X.env whole=(do let v←whole;standAt e.pos;holding [v] (truthy v)):=by intro _;rfl):QT X e (bM X.K te):=⟨qtb h.out he⟩
theorem bv (ha:QT X a tA):QT X (.UnaryOp .Not a pos) (bS tA):=⟨ED ha.out⟩
theorem x_w (h:QW X e tA):QT X e tA:=⟨h.out.pt⟩
theorem mI (ha:QT X a tA):QW X (.BoolOp .And [a] pos) tA:=⟨AG ha.out⟩
theorem fc (ha:QT X a tA):QW X (.BoolOp .Or [a] pos) tA:=⟨Bv ha.out⟩
theorem pN (ha:QT X a tA) (hb:QW X (.BoolOp .And (b::bL) pos) tB'):QW X (.BoolOp .And (a::b::bL) pos) (qe tA tB'):=⟨Di ha.out hb.out⟩
theorem fg (ha:QT X a tA) (hb:QW X (.BoolOp .Or (b::bL) pos) tB'):QW X (.BoolOp .Or (a::b::bL) pos) (mOr tA tB'):=⟨HN ha.out hb.out⟩
variable {tg iter elt:Expr} {wi:TI} {ifs:List Expr} {scope:Scope} {ys:List Str} {is:List Nat} {px py spos:Pos}
theorem kj (hm:X.mg "range" =none) (ha:QA X [a] t) (hg:Gl X "range" :=by rfl) (hs:bZ a=true:=by rfl):QI X tg (.Call (.Name "range" p) [a] [] pos) (kX t):=⟨uU hg hm ha.out (bo hs [] X.env)⟩
theorem oU:sj X [] (fun _ H Q=>Q true H):=⟨rfl⟩
theorem qD (h:QT X c tA):sj X [c] tA:=⟨h.out⟩
theorem lF {tcn:TT} (S:eX scope x ys) (hcap:fO X scope ys is) (hi:QI X (.Name x px) iter wi)
 (hif:∀ C s H fp,sj (bu X scope C (x::ys) s H fp) ifs tcn) (he:∀ C s H fp,QE (bu X scope C (x::ys) s H fp) elt te) (hc:X.calm=true:=by rfl)
 (hs:∀ x,foldedSetIterable iter X.env x=pure x:=by intro _;rfl):QE X (.ListComp elt [⟨.Name x px,iter,ifs,0⟩] scope pos) (gc is wi tcn te):=⟨zW hc S hcap hi.out (fun C s H fp=>(hif C s H fp).out) (fun C s H fp=>(he C s H fp).out) hs⟩
variable {st:Stmt} {sts:List Stmt} {tS uS:TS} {i j:Nat}
theorem aI:QSs X [] aJ:=⟨zQ⟩
theorem ao (h:QS X st tS):QSs X [st] tS:=⟨AT h.out⟩
theorem am (h1:QS X st tS) (h2:QSs X sts uS):QSs X (st::sts) (av tS uS):=⟨wF h1.out h2.out⟩
theorem ay (h:QE X e te):QS X (.Return (some e) pos) (aB te):=⟨BN h.out⟩
theorem aN {l m:List Stmt} (hc:QT X c tA) (ha:QSs X l tS) (hb:QSs X m uS):QS X (.If c l m pos) (aZ tA tS uS):=⟨qif hc.out ha.out hb.out⟩
theorem aK (i:Nat) (hN:X.N.Nodup) (he:QE X e te) (hi:X.N[i]?=some x:=by rfl) (hx:Loc X.env.scope x:=by first | exact .inl rfl | exact .inr rfl)
 (hs:swapsWith e (some (.Name x p)) pos.line X.env=pure false:=by rfl) (hf:X.fn x=true∨X.env.scope.names.lookup x=some .local:=by first | exact .inl rfl | exact .inr rfl):QS X (.Assign [.Name x p] e pos) (aM te (aA i)):=⟨CD hN hi hx he.out hs hf⟩
theorem uY (j:Nat) {tcn:TT} (hN:X.N.Nodup) (S:eX scope x ys) (hcap:fO X scope ys is) (hi:QI X (.Name x px) iter wi)
  (hif:∀ C s H fp,sj (bu X scope C (x::ys) s H fp) ifs tcn) (he:∀ C s H fp,QE (bu X scope C (x::ys) s H fp) elt te) (hc:X.calm=true:=by rfl)
  (hj:X.N[j]?=some y:=by rfl) (hy:Loc X.env.scope y:=by first | exact .inl rfl | exact .inr rfl)
  (hsw:swapsWith (.ListComp elt [⟨.Name x px,iter,ifs,0⟩] scope pos) (some (.Name y py)) spos.line X.env=pure true:=by rfl) (hf:X.fn y=true∨X.env.scope.names.lookup y=some .local:=by first | exact .inl rfl | exact .inr rfl)
  (hs:∀ x,foldedSetIterable iter X.env x=pure x:=by intro _;rfl):QS X (.Assign [.Name y py] (.ListComp elt [⟨.Name x px,iter,ifs,0⟩] scope pos) spos) (aM (gc is wi tcn te) (aA j)):=
 ⟨sS hN hj hy hc S hcap hi.out (fun C s H fp=>(hif C s H fp).out) (fun C s H fp=>(he C s H fp).out) hsw hf hs⟩
theorem cU (h:QE X e te) (hs:swapsWith e none pos.line X.env=pure false:=by rfl):QS X (.Expr e pos) (dt te):=⟨AS h.out hs⟩
theorem iP (i:Nat) (hN:X.N.Nodup) {body:List Stmt} (hi:QI X (.Name x px) iter wi) (hb:QSs X body tS) (hp:PassesOwn (model X.prog X.w) X.A X.env X.xe) (hc:X.calm=true:=by rfl)
 (hj:X.N[i]?=some x:=by rfl) (hx:Loc X.env.scope x:=by first | exact .inl rfl | exact .inr rfl) (hf:X.fn x=true∨X.env.scope.names.lookup x=some .local:=by first | exact .inl rfl | exact .inr rfl)
 (hs:∀ x,foldedSetIterable iter X.env x=pure x:=by intro _;rfl):QS X (.For (.Name x px) iter body [] pos) (fD wi (aA i) tS):=⟨tO hp hc hi.out (ik hN hj hx hf) hb.out hs⟩
theorem dN:QS X st dJ:=⟨yf⟩
end
end L2
namespace HT
open PySem PyProof.Rows
structure Hd0 (vs:Array Value) (a0:Value):Prop where
 a:vs[0]?=some a0
 b:vs[2]?=some .none

end HT
namespace L2
open PySem PySem.Spec PyProof.Rows
structure Fly (P:Program) (w:World) (l:List Env) (H:Hp) (s:Shared) (cls fl:Value) (a:Addr) (d:Option Addr) (H':Hp) (s':Shared):Prop where
 os:s'.os=s.os
 bare:AllBare s'.gens
 un:Un (frs l) [] H H' s.heap s'.heap
 hok:HOk P w H' s'.heap
 new:s.heap.get? a=none
 free:H' a=none
 tr:∃ oe vs a0 T oT ts,s'.heap.get? a=some oe∧oe.cls=cls∧oe.dict=d∧oe.data=.fields vs∧HT.Hd0 vs a0∧vs[1]?=some (.ref T)∧T≠a∧s'.heap.get? T=some oT∧oT.data=.fields ts∧ts[3]?=some fl∧s.heap.get? T=none∧H' T=none
def CX1 (P:Program) (w:World):CXT:=fun outer H s E e s'=>∃ a C d H',e=.ref a∧Fly P w outer H s (.ref C) .none a d H' s'∧E (.ref C) d H'
theorem wH {P:Program} {w:World} {H:Hp} {h:Heap} {a:Addr} {o:HO} (x:bh P w H h a o):∃ u,h.get? a=some u:=by
 cases o with
 | lst xs=>obtain ⟨_,_,_,_,e⟩:=x;exact ⟨_,e⟩
 | tup xs=>obtain ⟨_,_,_,p⟩:=x;obtain ⟨o,e,_⟩:=p;exact ⟨_,e⟩
 | dK kvs=>obtain ⟨_,_,_,_,o,_,_,e,_⟩:=x;exact ⟨_,e⟩
 | dT kvs=>obtain ⟨_,_,_,_,o,_,_,e,_⟩:=x;exact ⟨_,e⟩
 | set S n=>obtain ⟨o,_,_,_,e,_⟩:=x;exact ⟨_,e⟩
 | ins C dx fs=>obtain ⟨_,_,_,e,_⟩:=x;exact ⟨_,e⟩
 | own y=>exact x
 | xd fs=>obtain ⟨_,⟨_,_,_,e,_⟩,_⟩:=x;exact ⟨_,e⟩
 | rng lo hi=>obtain ⟨_,_,_,e⟩:=x;exact ⟨_,e⟩
 | frz ob u=>obtain ⟨e,_⟩:=x;exact ⟨_,e⟩
 | tbl ps=>exact ⟨_,(show h.get? a=some _ from x)⟩
 | met f y=>exact ⟨_,(show h.get? a=some _ from x)⟩
 | ext φ=>obtain ⟨_,e,_⟩:=x;exact e

def eE (CX:CXT) (X:Cx) (E:St→XK):Prop:=∀ (pins:List (Addr×Obj)) (σ:St) (H:Hp) (s:Shared) (e:Value) (s':Shared),Inv X pins σ H s→CX X.stack H s (E σ) e s'→X.xe e s'
theorem aP {P:Program} {w:World} {X:Cx}:eE (CX1 P w) X (fun _=>E0):=fun pins σ H s e s' I ⟨_,_,_,_,_,_,h⟩=>h.elim
def aq (sp:Sp) (E:St→XK) (t:TA):TE:=fun σ H Q=>t σ H fun vs H1=>sp vs H1 Q (E σ)
section
variable {X:Cx} {CX:CXT} {k:Nat} {f:Addr} {fd:FuncData} {ps:List Str} {sp:Sp} {E:St→XK} {x:Str} {p pos:Pos} {e:Expr} {es:List Expr} {t:TA}
theorem gi {pins : List (Addr × Obj)} {σ : St} {H : Hp} {s : Shared} {Q : VK} {us : List Value} {vs : List V} (F : aF X.prog X.w X.K X.mg X.base CX k f fd ps sp) (hr : bg k X.A) (hb : be X.K fd ps []) (hx : eE CX X E)
    (I : Inv X pins σ H s) (r : aX vs us) (h : sp vs H Q (E σ)) : wpAny (model X.prog X.w) X.A (call (.ref f) us) (EP X pins σ Q) X.xe s := by
  have hl : us.length = ps.length := by rw [← r.length]; exact F.len _ _ _ _ h
  have hb' := hb s us I.kIn (by rw [List.append_nil]; exact hl)
  rw [List.append_nil] at hb'
  refine wpAny_call (codeAny_mono (F.run X.A X.stack s H ⟨us, []⟩ us vs Q (E σ) hr I.env0 hb' r h) fun r s' hq => ?_)
  cases r with
  | error e => exact hx pins σ H s e s' I hq
  | ok fl =>
    cases fl with
    | ret u => exact I.after hq
    | next => exact False.elim hq
    | brk => exact False.elim hq
    | cont => exact False.elim hq
theorem Ah (F:aF X.prog X.w X.K X.mg X.base CX k f fd ps sp) (hr:bg k X.A) (hm:X.mg x=some (.ref f)) (hk:W.keepIn X.K (.ref f)=true) (hb:be X.K fd ps []) (hx:eE CX X E)
  (ha:QA X (e::es) t) (hg:Gl X x:=by rfl) (hdb:(x==("__debug__" :Str))=false:=by decide) (hs:bn (e::es)=true:=by rfl):QE X (.Call (.Name x p) (e::es) [] pos) (aq sp E t):=by
 refine ⟨fun pins s σ H Q I h=>?_⟩
 have h':(bZ e&&bn es)=true:=hs
 refine wpAny_Call_Name_kw (gW I hg hm ?_ hdb)
 refine W.callWith_K (h₀:=X.base) I.ok.mod.kin hk (thn (ha.out pos pins s σ H _ I h) fun us s1 ⟨vs,H1,I1,r,q⟩=>⟨I1.kIn,?_⟩) (bo (Bool.and_eq_true_iff.mp h').1 es X.env) (bU (Bool.and_eq_true_iff.mp h').2)
 exact gi F hr hb hx I1 r q
theorem ke (F:aF X.prog X.w X.K X.mg X.base CX k f fd ps sp) (hr:bg k X.A) (hm:X.mg x=some (.ref f)) (hk:W.keepIn X.K (.ref f)=true) (hb:be X.K fd ps []) (hx:eE CX X E)
  (hg:Gl X x:=by rfl) (hdb:(x==("__debug__" :Str))=false:=by decide):QE X (.Call (.Name x p) [] [] pos) (aq sp E ai):=by
 refine ⟨fun pins s σ H Q I h=>?_⟩
 refine wpAny_Call_Name_kw (gW I hg hm ?_ hdb)
 exact W.callWith_K0 I.kIn hk (gi (us:=[]) F hr hb hx I .nil h)
end
abbrev TH:=fN→St→Addr→Option Addr→Hp→Prop

section
variable {X:Cx}
theorem BY {x:Str} {D:Addr} {pos:Pos} (hm:X.mg x=some (.ref D)) (hg:Gl X x:=by rfl) (hd:(x==("__debug__" :Str))=false:=by decide):QE X (.Name x pos) (tC (.ref D)):=⟨mw hg hm rfl hd⟩
end
end L2
namespace HT
open PySem PyProof.Rows
section
variable {prog:Program} {w:World} {A:Around} {E:Value→Shared→Prop} {s:Shared}
theorem xp {t b:Addr} {ws:List Value} {Q:Value→Shared→Prop} (ht:IsTup s.heap t #[]) (hb:IsTup s.heap b ws.toArray) (h1:Q (.ref b) s):wpAny (model prog w) A (binaryOp .Add (.ref t) (.ref b)) Q E s:=by
 obtain ⟨⟨cls,dd,data,sl⟩,ho,hc,n,hd⟩:=id ht
 obtain ⟨⟨cls2,dd2,data2,sl2⟩,ho2,hc2,n2,hd2⟩:=id hb
 simp only at hc hd hc2 hd2
 subst hc hd hc2 hd2
 exact concat_meets ⟨_,ho,rfl⟩ ⟨_,ho2,rfl⟩ noFill_tuple_add seq_tuple_add PySem.F.slot_tuple_add PySem.F.entry_tuple_add (PySem.F.args_tuple_add_2 _ _)
  (tuple_addW0 t b #[] ws.toArray n n2 dd dd2 sl sl2 (by simp)) ⟨ho,ho2,h1⟩
end
end HT
namespace L2
open PySem PySem.Spec PyProof.Rows
theorem au.rfl' {H:Hp}:au H H:=fun _ _ e=>e
section
variable {X:Cx}
def zF:R2:=fun x y H Q=>∃ a b xs ys,x=.ref a∧y=.ref b∧H a=some (.tup xs)∧H b=some (.tup ys)∧xs.length+ys.length≤sizeLine∧∀ p H',au H H'→H' p=some (.tup (xs++ys))→Q (.ref p) H'
theorem Af:OpR X (binaryOp .Add) zF:=by
 intro pins s σ H x y v u Q I rx ry h
 obtain ⟨a,b,xs,ys,rfl,rfl,ha,hb,hz,q⟩:=h
 by_cases hx:xs=[]
 · subst hx
   cases rx
   cases ry
   obtain ⟨its,r1,p1,_⟩:=I.tuple (.inl (.inl ha))
   obtain ⟨its2,r2,p2,_⟩:=I.tuple (.inl (.inl hb))
   cases r1
   exact HT.xp p1 p2 ⟨.ref b,H,I,rfl,q b H au.rfl' hb⟩
 · refine AA pins s σ H _ _ v u Q I rx ry ⟨a,b,xs,ys,rfl,rfl,.inl (.inl ha),.inl (.inl hb),hx,hz,fun e=>?_,fun _ p hp=>q p _ (au.upd hp) (aj ..)⟩
   subst e
   exact q a H au.rfl' (by rw [List.append_nil];exact ha)
def bK (K:W.Frag):R2:=fun x y H Q=>match x,y with
 | .int i,.int j=>Q (.int (i+j)) H
 | .str i,.str j=>i.length+j.length≤sizeLine∧Q (.str (i++j)) H
 | .ref a,.ref b=>Cc (.ref a) (.ref b) H Q∨zF (.ref a) (.ref b) H Q
 | _,_=>False
theorem bQ:OpR X (binaryOp .Add) (bK X.K):=(Et.or (rG.or (Cv.or Af))).imp fun x y H Q q=>by
 unfold bK at q
 split at q
 · exact .inl ⟨_,_,rfl,rfl,q⟩
 · exact .inr (.inl ⟨_,_,rfl,rfl,q.1,q.2⟩)
 · exact .inr (.inr q)
 · exact q.elim
def sG (t:TE):TE:=fun σ H Q=>t σ H fun x H'=>match x with
 | .int i=>i.natAbs.log2<1920∧Q (.str (toString i)) H'
 | .str z=>z.length≤sizeLine∧Q (.str z) H'
 | _=>False
theorem rO {e:Expr} {te:TE} {pos:Pos} (h:QE X e te):QE X (.FormattedValue e (-1) none pos) (sG te):=⟨fun pins s σ H Q I q=>by
 refine FormattedValue_plain (thn (h.out pins s σ H _ I q) fun v s1 ⟨x,H1,I1,r1,q1⟩=>?_)
 cases x <;> first | exact q1.elim | skip
 · rename_i i
   obtain ⟨t,rfl⟩:=(show ∃ t,v=Value.int i t from r1)
   exact formatField_int_small q1.1 ⟨.str _,H1,I1.tok _,⟨_,rfl⟩,q1.2⟩
 · rename_i z
   obtain ⟨t,rfl⟩:=(show ∃ t,v=Value.str z t from r1)
   exact formatField_str (fun t' tk=>⟨.str _,H1,I1.tok _,⟨_,rfl⟩,q1.2⟩) q1.1⟩
def mJ : List TE → Str → TE
  | [], acc => fun σ H Q => acc.length ≤ sizeLine ∧ Q (.str acc) H
  | t :: r, acc => fun σ H Q => t σ H fun x H' => match x with
    | .str y => (acc ++ y).length ≤ sizeLine ∧ mJ r (acc ++ y) σ H' Q
    | _ => False
inductive QJ (X:Cx):List Expr→List TE→Prop where
 | nil:QJ X [] []
 | cons {e:Expr} {t:TE} {es:List Expr} {ts:List TE}:QE X e t→QJ X es ts→QJ X (e::es) (t::ts)
theorem FP {es : List Expr} {ts : List TE} (j : QJ X es ts) : ∀ {pins : List (Addr × Obj)} {s : Shared} {σ : St} {H : Hp} {Q : VK} {acc : Str}, Inv X pins σ H s → mJ ts acc σ H Q → wpAny (model X.prog X.w) X.A (joinParts acc (evalEach es X.env)) (EP X pins σ Q) X.xe s := by
  induction j with
  | nil => intro pins s σ H Q acc I q; exact joinParts_nil ⟨.str _, H, I.tok _, ⟨_, rfl⟩, q.2⟩ q.1
  | cons h _ ih =>
    intro pins s σ H Q acc I q
    refine joinParts_cons (thn (h.out pins s σ H _ I q) fun v s1 ⟨x, H1, I1, r1, q1⟩ => ?_)
    cases x <;> first | exact q1.elim | skip
    rename_i z
    obtain ⟨t, rfl⟩ := (show ∃ t, v = Value.str z t from r1)
    exact ⟨q1.1, ih I1 q1.2⟩
theorem vc {v1 v2:Expr} {bL:List Expr} {ts:List TE} {pos:Pos} (j:QJ X (v1::v2::bL) ts):QE X (.JoinedStr (v1::v2::bL) pos) (mJ ts Str.empty):=⟨fun pins s σ H Q I q=>JoinedStr_many (FP j I q)⟩
end
theorem Fun.okN {P : Program} {w : World} {K : W.Frag} {mg : Str → Option Value} {base : Heap} {CX : CXT} {x qual : Str} {st : Stmt} {f : Addr} {fd : FuncData} {N ps : List Str} {k : Nat} {sp : Sp} (F : Fun K x qual st f fd) (S : ar N ps (ag st)) (len : ∀ vs H Q E, sp vs H Q E → vs.length = ps.length)
  (hbody : ∀ (cdv : Value) (A : Around) (outer : List Env) (s : Shared) (H : Hp) (vs : List V) (Q : VK) (E : XK), bg k (A.deeper (envOfC qual (ag st) s.heap.objs.size f cdv)) → sp vs H Q E →
   ∃ t, PSs (eU CX P w K mg base N qual (ag st) f cdv A outer s H E).nox (aS st) t ∧ t { nx := fun _ H' => Q .non H', rt := Q } (cp N vs) H) : aF P w K mg base CX (k + 1) f fd ps sp := by
 obtain ⟨oc, od, kV, doc, pm, an, cdv, ct, osl, rfl, lk, hcd⟩ := F.ex
 refine GT lk hcd S len fun A outer s H vs Q E hr hsp => ?_
 obtain ⟨t, h, q⟩ := hbody cdv A outer s H vs Q E hr hsp
 exact ⟨t, h.nox, q⟩
section
variable {X:Cx}
def Ee:V→Option Int→Option Int→Hp→VK→Prop:=fun x lo hi H Q=>∃ z,x=.str z∧z.length≤sizeLine∧Q (.str (Txt.slice z lo hi)) H
theorem Bz : SlR X Ee := by
  intro pins s σ H x v vl vu lo hi sl Q I rx hs pl pu h
  obtain ⟨z, rfl, hz, q⟩ := h
  obtain ⟨t, rfl⟩ := (show ∃ t, v = Value.str z t from rx)
  refine ⟨"str", _, F.slot_str_getitem.lookup, typeIs_str _ _ _, ?_⟩
  have fin : ∀ (l u : Option (Int × Tok)), l.map (·.1) = lo → u.map (·.1) = hi → s.heap.IsSlice sl l u none → wpAny (model X.prog X.w) X.A (getItem (.str z t) (.ref sl)) (EP X pins σ Q) X.xe s := fun l u e1 e2 hs' => by
    subst e1 e2
    refine wpAny_getItem_str_slice (l := l) (u := u) (st := none) hs' rfl (post_val_or_str ⟨Nat.le_trans (Txt.slice_le z _ _) hz, fun t' k => ⟨.str _, H, I.tok k, ⟨_, rfl⟩, q⟩⟩)
  obtain ⟨os, hos, hcs, hds⟩ := hs
  cases pl with
  | none => cases pu with
    | none => exact fin none none rfl rfl ⟨os, hos, hcs, hds⟩
    | int j tj => exact fin none (some (j, tj)) rfl rfl ⟨os, hos, hcs, hds⟩
  | int i ti => cases pu with
    | none => exact fin (some (i, ti)) none rfl rfl ⟨os, hos, hcs, hds⟩
    | int j tj => exact fin (some (i, ti)) (some (j, tj)) rfl rfl ⟨os, hos, hcs, hds⟩
def kO:V→Bool
 | .int _=>true
 | .str _=>true
 | _=>false
theorem ss {A:Around} {s:Shared} {x y:V} {u v:Value} (rx:aR x u) (ry:aR y v) (hx:kO x=true) (hy:kO y=true):PySem.SeqAt.EqAt A s u v (decide (x=y)):=by
 cases x <;> first | cases hx | skip
 all_goals (cases y <;> first | cases hy | skip)
 · obtain ⟨t,rfl⟩:=rx;obtain ⟨t',rfl⟩:=ry
   have e:=PySem.SeqAt.EqAt.int_int (A:=A) (s:=s) ‹Int› t ‹Int› t'
   rename_i i j
   have e2:decide (V.int i=V.int j)=(i==j):=by rw [jr (f:=V.int) fun _ _ e=>V.int.inj e];rfl
   rw [e2];exact PySem.SeqAt.EqAt.int_int i t j t'
 · obtain ⟨t,rfl⟩:=rx;obtain ⟨t',rfl⟩:=ry
   exact PySem.SeqAt.EqAt.int_str _ _ _ _
 · obtain ⟨t,rfl⟩:=rx;obtain ⟨t',rfl⟩:=ry
   exact PySem.SeqAt.EqAt.str_int _ _ _ _
 · obtain ⟨t,rfl⟩:=rx;obtain ⟨t',rfl⟩:=ry
   rename_i i j
   have e2:decide (V.str i=V.str j)=(i==j):=by
    rw [jr (f:=V.str) fun _ _ e=>V.str.inj e]
    by_cases h:i=j
    · rw [h];simp
    · rw [decide_eq_false h];exact (beq_eq_false_iff_ne.mpr h).symm
   rw [e2];exact PySem.SeqAt.EqAt.str_str i t j t'
theorem vk {xs ys:List V}:decide (xs=ys)=((List.range (min xs.length ys.length)).all (fun j=>decide (xs[j]?=ys[j]?))&&xs.length==ys.length):=by
 by_cases h:xs=ys
 · subst h;simp
 · rw [decide_eq_false h]
   by_cases hl:xs.length=ys.length
   · rw [hl,Nat.min_self,beq_self_eq_true,Bool.and_true]
     symm
     rw [List.all_eq_false]
     apply Classical.byContradiction
     intro hn
     apply h
     apply List.ext_getElem? fun i=>?_
     by_cases hi:i<ys.length
     · apply Classical.byContradiction
       intro hne
       exact hn ⟨i,List.mem_range.mpr hi,by simpa using hne⟩
     · rw [List.getElem?_eq_none (by omega),List.getElem?_eq_none (by omega)]
   · have:(xs.length==ys.length)=false:=by simpa using hl
     rw [this,Bool.and_false]
def CZ (K:W.Frag):R2:=fun x y H Q=>∃ a b xs ys,x=.ref a∧y=.ref b∧SqT K H a xs∧SqT K H b ys∧xs.all kO=true∧ys.all kO=true∧Q (.bl (decide (xs=ys))) H
theorem DG (hu:X.A.units<cLine):OpR X (compareOp .Eq) (CZ X.K):=by
 intro pins s σ H x y v u Q I rx ry h
 obtain ⟨a,b,xs,ys,rfl,rfl,ha,hb,px,py,q⟩:=h
 cases rx
 cases ry
 obtain ⟨its,r1,p1,_⟩:=I.tuple ha
 obtain ⟨its2,r2,p2,_⟩:=I.tuple hb
 have l1:=r1.length
 have l2:=r2.length
 refine PySem.SeqAt.eq_tupleAt (e:=fun j=>decide (xs[j]?=ys[j]?)) p1 p2 hu (fun j h1 h2=>?_) ?_
 · have h1:j<its.length:=by simpa using h1
   have h2:j<its2.length:=by simpa using h2
   have e1:xs[j]?=some xs[j]:=List.getElem?_eq_getElem (by omega)
   have e2:ys[j]?=some ys[j]:=List.getElem?_eq_getElem (by omega)
   obtain ⟨u1,g1,ru1⟩:=r1.get e1
   obtain ⟨u2,g2,ru2⟩:=r2.get e2
   have g1':its.toArray[j]=u1:=by
    rw [List.getElem?_eq_getElem h1] at g1;simpa using Option.some.inj g1
   have g2':its2.toArray[j]=u2:=by
    rw [List.getElem?_eq_getElem h2] at g2;simpa using Option.some.inj g2
   rw [g1',g2',e1,e2]
   have:decide (some xs[j]=some ys[j])=decide (xs[j]=ys[j]):=by simp
   rw [this]
   exact ss ru1 ru2 (List.all_eq_true.mp px _ (List.getElem_mem _)) (List.all_eq_true.mp py _ (List.getElem_mem _))
 · have e:=vk (xs:=xs) (ys:=ys)
   rw [l1,l2] at e
   simp only [List.size_toArray]
   rw [← e]
   exact ⟨.bl _,H,I,rfl,q⟩
def wD:List V→Hp→VK→Prop:=fun xs H Q=>match xs with
 | [.str z]=>∃ n,PySem.intText? z=some n∧z.length≤640∧Q (.int n) H
 | [.bl b]=>Q (.int (if b then 1 else 0)) H
 | _=>False
theorem IW:bx X (.type "int") wD:=fun pins s σ H xs us Q I r h=>by
 unfold wD at h
 split at h
 · obtain ⟨n,h1,h2,q⟩:=h
   obtain ⟨u,rfl,ru⟩:=eS r
   obtain ⟨t,rfl⟩:=ru
   exact W.KIN.call_text h1 h2 ⟨.int n,H,I.tok _,⟨_,rfl⟩,q⟩
 · obtain ⟨u,rfl,ru⟩:=eS r
   cases ru
   exact call_int_bool ⟨.int _,H,I.tok _,⟨_,rfl⟩,h⟩
 · exact h.elim
end
section
variable {X:Cx} {pins:List (Addr×Obj)} {σ:St} {H:Hp} {s:Shared} {h':Heap}
theorem Inv.turnedL {t':Nat} {fp:List Addr} (I:Inv X pins σ H s) (k:∀ b o,b∉fp→s.heap.get? b=some o→h'.get? b=some o) (hf:∀ b∈fp,im X pins H b):Inv X pins σ H { s with heap:=h',toks:=t' }:=by
 have nit:∀ b u,H b=some u→b∉fp:=fun b u e z=>by rw [(hf b z).1] at e;cases e
 refine I.step (g':=s.gens) (d':=s.drawn) (ch:=fp) (fun b hb=>?_) (fun b o _ _ hc e _=>k b o hc e) (fun b o _ _ hc e _=>⟨o.slots,k b o hc e⟩) (fun _ _ _ _ n=>n)
   (fun b o hc e=>⟨o,k b o hc e⟩) (fun _ _ e=>e) (fun _ _ _ e=>e) (fun b ps e=>⟨#[],by rw [e];simp⟩) (fun m hm=>?_) (fun b u e=>?_) I.bare
 · obtain ⟨f0,f1,f2,f3,f4,f5⟩:=hf b hb
   exact ⟨f3,f1,f4,f5⟩
 · obtain ⟨o,es,ep,ho,r⟩:=hm
   exact ⟨o,es,ep,k _ o (fun z=>(hf _ z).2.1 rfl) ho,r⟩
 · refine (I.hok b u e).stay (fun c v hc q=>k c v ?_ q) (fun _ q=>q) fun _ _ q=>q
   rcases hc with z | z
   · rw [z];exact nit b u e
   · exact nit c _ z
end
section
variable {X:Cx} {pins:List (Addr×Obj)} {σ:St} {H H1:Hp} {s s0:Shared} {a:Addr} {o:HO}
theorem Inv.track2 (I0:Inv X pins σ H1 s0) (I:Inv X pins σ H s) (new:s0.heap.objs.size≤a) (hn:H a=none) (ok:bh X.prog X.w (upd H a o) s.heap a o):Inv X pins σ (upd H a o) s:=by
 have ne:∀ b u,s0.heap.get? b=some u→b≠a:=fun b u e=>Nat.ne_of_lt (Nat.lt_of_lt_of_le (Heap.lt_size e) new)
 have ne0:∀ b u,X.s₀.heap.get? b=some u→b≠a:=fun b u e=>Nat.ne_of_lt (Nat.lt_of_lt_of_le (Heap.lt_size e) (Nat.le_trans I0.sz new))
 have nL:X.env.locals≠a:=by
   obtain ⟨m,⟨o',_,_,e,_⟩,_⟩:=I0.loc
   exact ne _ _ e
 refine ⟨I.ok,I.os,I.bare,⟨I.base.keep,I.base.slot,fun b u e n hx=>?_,I.base.there,fun b xs e=>?_,fun b u v e=>?_,fun b ps e=>?_⟩,I.loc,I.cell,?_,fun x c e=>?_,fun p hp=>?_,fun b u e=>?_,I.len⟩
 · rw [ap (ne0 b u e)];exact I.base.free b u e n hx
 · have:=I.base.tups b xs e
   rw [ap (az this hn)];exact this
 · have:=I.base.frzs b u v e
   rw [ap (az this hn)];exact this
 · obtain ⟨more,this⟩:=I.base.tbls b ps e
   exact ⟨more,by rw [ap (az this hn)];exact this⟩
 · rw [ap nL];exact I.free
 · obtain ⟨v,o',e',_⟩:=I0.cell x c e
   rw [ap (ne _ _ e')];exact I.freeC x c e
 · obtain ⟨h1,h2,h3⟩:=I.pin p hp
   exact ⟨h1,by rw [ap (ne _ _ (I0.pin p hp).1)];exact h2,h3⟩
 · by_cases hb:b=a
   · subst hb
     rw [aj] at e;cases e
     exact ok
   · rw [ap hb] at e
     exact (I.hok b u e).stay (fun c v _ q=>q) (fun c q=>by
      have:c≠a:=az q hn
      rw [ap this];exact q) fun c xs q=>by
      have:c≠a:=az q hn
      rw [ap this];exact q
end
theorem Bo:bootBuiltins "int" =some (.type "int"):=by decide +kernel
section
variable {X:Cx} {a b:Expr} {t:TA} {p pos ep px py:Pos} {elts:List Expr} {ek:Nat} {x y:Str} {iter:Expr} {wi:TI} {tS:TS}
theorem Ba (i j:Nat) (hN:X.N.Nodup) {body:List Stmt} (hi:QI X (.Tuple [.Name x px,.Name y py] ek ep) iter wi) (hb:QSs X body tS) (hp:PassesOwn (model X.prog X.w) X.A X.env X.xe) (hc:X.calm=true:=by rfl)
  (hj:X.N[i]?=some x:=by rfl) (hx:Loc X.env.scope x:=by first | exact .inl rfl | exact .inr rfl) (hf:X.fn x=true∨X.env.scope.names.lookup x=some .local:=by first | exact .inl rfl | exact .inr rfl)
  (hj2:X.N[j]?=some y:=by rfl) (hx2:Loc X.env.scope y:=by first | exact .inl rfl | exact .inr rfl) (hf2:X.fn y=true∨X.env.scope.names.lookup y=some .local:=by first | exact .inl rfl | exact .inr rfl)
  (hs:∀ x,foldedSetIterable iter X.env x=pure x:=by intro _;rfl):QS X (.For (.Tuple [.Name x px,.Name y py] ek ep) iter body [] pos) (fD wi (pZ X.K 2 (fX (aA i) (fX (aA j) pF))) tS):=
 ⟨tO hp hc hi.out (tK hc (iW (ik hN hj hx hf) (iW (ik hN hj2 hx2 hf2) rz))) hb.out hs⟩
end
def bT (C:Addr) (m:Str) (sp:Sp) (E:St→XK) (ta:TE) (t:TA):TE:=fun σ H Q=>ta σ H fun x H1=>∃ a dx fs,x=.ref a∧H1 a=some (.ins C dx fs)∧fs.lookup m=none∧t σ H1 fun vs H2=>sp (x::vs) H2 Q (E σ)
def cS (C:Addr) (sp:Sp) (E:St→XK) (t:TA):TE:=fun σ H Q=>t σ H fun vs H1=>∀ x dx,H1 x=none→H1 dx=none→dx≠x→
 sp (.ref x::vs) (upd (upd H1 dx (.own x)) x (.ins C dx [])) (fun v H2=>v=.non∧Q (.ref x) H2) (E σ)
section
variable {X:Cx} {CX:CXT} {k:Nat} {f C:Addr} {fd:FuncData} {ps:List Str} {sp:Sp} {E:St→XK} {x m fl:Str} {p pos apos pos':Pos} {e o value:Expr} {es:List Expr} {ta tv to:TE} {t:TA}
theorem aO (he:QE X e ta) (hb:attributeBase e fl X.env (eval e X.env)=eval e X.env:=by rfl):QE X (.Attribute e fl pos) (bc X.K ta fl):=⟨Eu he.out hb⟩
theorem bY (ho:QE X o to) (hv:QE X value tv) (hs:swapsWith value (some (.Attribute o fl pos')) pos.line X.env=pure false:=by rfl):QS X (.Assign [.Attribute o fl pos'] value pos) (eh X.K to tv fl):=⟨Dx ho.out hv.out hs⟩
theorem cO {pl : Sem Bool} (he : QE X o ta) (c : Cls X.K C) (hm : cE X.K C m f) (F : aF X.prog X.w X.K X.mg X.base CX k f fd ps sp) (hr : bg k X.A) (hb : be X.K fd ps []) (hx : eE CX X E) (ha : QA X (e :: es) t)
  (hs : bn (e :: es) = true := by rfl)
  (ht : eval (.Call (.Attribute o m apos) (e :: es) [] pos) X.env = (do
   let ov ← eval o X.env
   standAt apos.atName
   let (f, first) ← holding [ov] (getMethod ov m pl)
   callWith pos f first (backTo pos (starEach (e :: es) X.env)) (backToKw pos (keywordEach [] X.env))) := by rfl) :
  QE X (.Call (.Attribute o m apos) (e :: es) [] pos) (bT C m sp E ta t) := ⟨fun pins s σ H Q I h => by
 have h' : (bZ e && bn es) = true := hs
 refine W.methodCall_KW (pl := pl) (thn (he.out pins s σ H _ I h) fun u s1 ⟨x, H1, I1, rx, a, dx, fs, ex, ea, l, q⟩ => ?_) ht
 subst ex
 obtain rfl : u = Value.ref a := rx
 refine iL I1 ea c hm l ?_
 refine W.callWith_K (first := [.ref a]) (h₀ := X.base) I.ok.mod.kin hm.kp (thn (ha.out pos pins s1 σ H1 _ I1 q) fun us s2 ⟨vs, H2, I2, r, q2⟩ => ⟨I2.kIn, ?_⟩)
  (bo (Bool.and_eq_true_iff.mp h').1 es X.env) (bU (Bool.and_eq_true_iff.mp h').2)
 exact gi (us := .ref a :: us) (vs := .ref a :: vs) F hr hb hx I2 (.cons rfl r) q2⟩
theorem gB {pl : Sem Bool} (he : QE X o ta) (c : Cls X.K C) (hm : cE X.K C m f) (F : aF X.prog X.w X.K X.mg X.base CX k f fd ps sp) (hr : bg k X.A) (hb : be X.K fd ps []) (hx : eE CX X E)
  (ht : eval (.Call (.Attribute o m apos) [] [] pos) X.env = (do
   let ov ← eval o X.env
   standAt apos.atName
   let (f, first) ← holding [ov] (getMethod ov m pl)
   callWith pos f first (backTo pos (starEach [] X.env)) (backToKw pos (keywordEach [] X.env))) := by rfl) :
  QE X (.Call (.Attribute o m apos) [] [] pos) (bT C m sp E ta ai) := ⟨fun pins s σ H Q I h => by
 refine W.methodCall_KW (pl := pl) (thn (he.out pins s σ H _ I h) fun u s1 ⟨x, H1, I1, rx, a, dx, fs, ex, ea, l, q⟩ => ?_) ht
 subst ex
 obtain rfl : u = Value.ref a := rx
 refine iL I1 ea c hm l ?_
 exact W.callWith_K0 (first := [.ref a]) I1.kIn hm.kp (gi (us := [.ref a]) (vs := [.ref a]) F hr hb hx I1 (.cons rfl .nil) q)⟩
theorem nj {pins : List (Addr × Obj)} {σ : St} {H : Hp} {s : Shared} {Q : VK} {us : List Value} {vs : List V} (M : Mk X.K C f) (F : aF X.prog X.w X.K X.mg X.base CX k f fd ps sp) (hr : bg (k + 1) X.A) (hb : be X.K fd ps [])
    (hx : eE CX X E) (I : Inv X pins σ H s) (r : aX vs us)
    (h : ∀ x dx, H x = none → H dx = none → dx ≠ x → sp (.ref x :: vs) (upd (upd H dx (.own x)) x (.ins C dx [])) (fun v H2 => v = .non ∧ Q (.ref x) H2) (E σ)) :
    wpAny (model X.prog X.w) X.A (call (.ref C) us) (EP X pins σ Q) X.xe s := by
  have hq := h (s.heap.objs.size + 1) s.heap.objs.size (I.hok.fresh (Nat.le_succ _)) (I.hok.fresh (Nat.le_refl _)) (Nat.ne_of_lt (Nat.lt_succ_self _))
  have I2 := Inv.made (C := C) I
  have r2 : aX (V.ref (s.heap.objs.size + 1) :: vs) (Value.ref (s.heap.objs.size + 1) :: us) := .cons rfl r
  have hl : (Value.ref (s.heap.objs.size + 1) :: us).length = ps.length := by
    have e := r2.length
    rw [F.len _ _ _ _ hq] at e
    exact e.symm
  have hb' := hb _ (Value.ref (s.heap.objs.size + 1) :: us) I2.kIn (by rw [List.append_nil]; exact hl)
  rw [List.append_nil] at hb'
  refine wpAny_call (yc (f := f) I.kIn M.makes M.init (beq_iff_eq.mp M.fn) (codeAny_mono (F.run _ X.stack _ _ ⟨Value.ref (s.heap.objs.size + 1) :: us, []⟩ (Value.ref (s.heap.objs.size + 1) :: us) _ _ (E σ) (hr.make C us [])
    (I2.env0.make C us []) hb' r2 hq) fun r s' hq' => ?_))
  cases r with
  | error e => exact hx pins σ _ _ e s' I2 hq'
  | ok fl =>
    cases fl with
    | ret u =>
      obtain ⟨v, H', I3, rv, ev, q3⟩ := I2.after hq'
      subst ev
      exact ⟨rv, ⟨V.ref (s.heap.objs.size + 1), H', I3, rfl, q3⟩⟩
    | next => exact False.elim hq'
    | brk => exact False.elim hq'
    | cont => exact False.elim hq'
theorem dB (M:Mk X.K C f) (F:aF X.prog X.w X.K X.mg X.base CX k f fd ps sp) (hr:bg (k+1) X.A) (hm:X.mg x=some (.ref C)) (hb:be X.K fd ps []) (hx:eE CX X E) (ha:QA X (e::es) t)
  (hg:Gl X x:=by rfl) (hdb:(x==("__debug__" :Str))=false:=by decide) (hs:bn (e::es)=true:=by rfl):QE X (.Call (.Name x p) (e::es) [] pos) (cS C sp E t):=⟨fun pins s σ H Q I h=>by
 have h':(bZ e&&bn es)=true:=hs
 refine wpAny_Call_Name_kw (gW I hg hm ?_ hdb)
 refine W.callWith_K (h₀:=X.base) I.ok.mod.kin M.kp (thn (ha.out pos pins s σ H _ I h) fun us s1 ⟨vs,H1,I1,r,q⟩=>⟨I1.kIn,?_⟩) (bo (Bool.and_eq_true_iff.mp h').1 es X.env) (bU (Bool.and_eq_true_iff.mp h').2)
 exact nj M F hr hb hx I1 r q⟩
theorem xH (M:Mk X.K C f) (F:aF X.prog X.w X.K X.mg X.base CX k f fd ps sp) (hr:bg (k+1) X.A) (hm:X.mg x=some (.ref C)) (hb:be X.K fd ps []) (hx:eE CX X E)
  (hg:Gl X x:=by rfl) (hdb:(x==("__debug__" :Str))=false:=by decide):QE X (.Call (.Name x p) [] [] pos) (cS C sp E ai):=⟨fun pins s σ H Q I h=>by
 refine wpAny_Call_Name_kw (gW I hg hm ?_ hdb)
 exact W.callWith_K0 I.kIn M.kp (nj (us:=[]) M F hr hb hx I .nil h)⟩
end
mutual
inductive et (K:W.Frag) (H:Hp):V→PyData→Prop
 | non:et K H .non .none
 | bl (b):et K H (.bl b) (.bool b)
 | int (i):et K H (.int i) (.int i)
 | str (z):et K H (.str z) (.str z)
 | lst {a xs ds}:SqL K H a xs→DatVs K H xs ds→et K H (.ref a) (.list ds)
 | tup {a xs ds}:SqT K H a xs→DatVs K H xs ds→et K H (.ref a) (.tuple ds)
inductive DatVs (K:W.Frag) (H:Hp):List V→List PyData→Prop
 | nil:DatVs K H [] []
 | cons {x xs d ds}:et K H x d→DatVs K H xs ds→DatVs K H (x::xs) (d::ds)
end
section
variable {X:Cx}
mutual
theorem cT {pins : List (Addr × Obj)} {σ : St} {H : Hp} {s : Shared} (I : Inv X pins σ H s) : ∀ {x : V} {d : PyData}, et X.K H x d → ∀ {v : Value}, aR x v → ∃ as, Reads s.heap v d as
  | _, _, .non, _, r => by cases r; exact ⟨_, .none⟩
  | _, _, .bl b, _, r => by cases r; exact ⟨_, .bool b⟩
  | _, _, .int i, _, r => by obtain ⟨t, rfl⟩ := r; exact ⟨_, .int i t⟩
  | _, _, .str z, _, r => by obtain ⟨t, rfl⟩ := r; exact ⟨_, .str z t⟩
  | _, _, .lst h hs, _, r => by
    cases r
    obtain ⟨its, r1, ⟨o, n, h1, h2, _, h3⟩, _⟩ := I.list h
    obtain ⟨as, ra⟩ := datVs_reads I hs r1
    exact ⟨_, .list h1 h2 h3 (by simpa using ra)⟩
  | _, _, .tup h hs, _, r => by
    cases r
    obtain ⟨its, r1, ⟨o, h1, h2, n, h3⟩, _⟩ := I.tuple h
    obtain ⟨as, ra⟩ := datVs_reads I hs r1
    exact ⟨_, .tuple h1 h2 h3 (by simpa using ra)⟩
theorem datVs_reads {pins : List (Addr × Obj)} {σ : St} {H : Hp} {s : Shared} (I : Inv X pins σ H s) : ∀ {xs : List V} {ds : List PyData}, DatVs X.K H xs ds → ∀ {vs : List Value}, aX xs vs → ∃ as, ReadsAll s.heap vs ds as
  | _, _, .nil, _, r => by cases r; exact ⟨_, .nil⟩
  | _, _, .cons h hs, _, r => by
    cases r with
    | cons r1 r2 =>
      obtain ⟨as, a⟩ := cT I h r1
      obtain ⟨bs, b⟩ := datVs_reads I hs r2
      exact ⟨_, .cons a b⟩
end
def pL (K:W.Frag):R2:=fun x y H Q=>∃ d e,et K H x d∧et K H y e∧d.canLay0=true∧e.canLay0=true∧d.depth≤150∧Q (.bl (d.eqv e)) H
def vM (K:W.Frag):R2:=fun x y H Q=>∃ d e,et K H x d∧et K H y e∧d.canLay0=true∧e.canLay0=true∧d.depth≤150∧Q (.bl (!d.eqv e)) H
theorem BJ (hu:X.A.units+150<cLine):OpR X (compareOp .Eq) (pL X.K):=by
 intro pins s σ H x y v u Q I rx ry h
 obtain ⟨d,e,hd,he,cd,ce,dp,q⟩:=h
 obtain ⟨as,ra⟩:=cT I hd rx
 obtain ⟨bs,rb⟩:=cT I he ry
 exact PySem.SeqAt.compareEq_reads ra rb cd ce (by have:=Nat.min_le_left d.depth e.depth;omega) ⟨.bl _,H,I,rfl,q⟩
theorem Es (hu:X.A.units+150<cLine):OpR X (compareOp .NotEq) (vM X.K):=by
 intro pins s σ H x y v u Q I rx ry h
 obtain ⟨d,e,hd,he,cd,ce,dp,q⟩:=h
 obtain ⟨as,ra⟩:=cT I hd rx
 obtain ⟨bs,rb⟩:=cT I he ry
 exact PySem.SeqAt.compareNe_reads ra rb cd ce (by have:=Nat.min_le_left d.depth e.depth;omega) ⟨.bl _,H,I,rfl,q⟩
theorem bg.units150 {k:Nat} {A:Around} (r:bg k A):A.units+150<cLine:=by have:=r.un;omega
def eL (K:W.Frag):R2:=fun x y H Q=>match x,y with
 | .ref a,y=>vM K (.ref a) y H Q
 | x,.ref b=>vM K x (.ref b) H Q
 | x,y=>mNe x y H Q
theorem gy (hu:X.A.units+150<cLine):OpR X (compareOp .NotEq) (eL X.K):=((Es hu).or oNe).imp fun x y H Q q=>by
 unfold eL at q
 split at q
 · exact .inl q
 · exact .inl q
 · exact .inr q
def rK:V→List V→Hp→VK→Prop:=fun x vs H Q=>match x,vs with | .int i,[]=>Q (.int (Builtin.Int.intBits i)) H | _,_=>False
theorem AJ:MtR X "int.bit_length" rK:=by
 intro pins s σ H x xs v us Q I rx rs q
 unfold rK at q
 split at q
 · obtain ⟨t,rfl⟩:=rx
   cases rs
   exact call_int_bit_length ⟨.int _,H,I.tok _,⟨_,rfl⟩,q⟩
 · exact q.elim
def jj:List V→Hp→VK→Prop:=fun xs H Q=>match xs with | [.int i,.int j]=>Q (.int (if j<i then j else i)) H | _=>False
theorem lV (hc:X.calm=true):bx X (.builtin "min") jj:=fun pins s σ H xs us Q I r q=>by
 unfold jj at q
 split at q
 · exact uO hc pins s σ H _ us Q I r ⟨_,_,rfl,q⟩
 · exact q.elim
variable {o:Expr} {to:TE} {name:Str} {apos cpos:Pos} {T id:String} {rm:V→List V→Hp→VK→Prop}
theorem Fs (pa:PlainAttrs T) (slot:Slot T name id) (hty:typeOf (.builtin id)=pure (.type "method_descriptor")) (hm:MtR X id rm) (ho:QE X o to)
 (hbase:attributeBase o name X.env (eval o X.env)=eval o X.env:=by rfl) (hline:(apos.endLine==cpos.line)=true:=by rfl):QE X (.Call (.Attribute o name apos) [] [] cpos) (yo X.K T rm to):=⟨CB pa slot hty hm ho.out hbase hline⟩
end
def jN (ns:List Int):List PyData:=ns.map PyData.int
theorem lN {K:W.Frag} {H:Hp}:∀ ns:List Int,DatVs K H (ns.map V.int) (jN ns)
 | []=> .nil
 | i::r=> .cons (.int i) (lN r)
theorem jV:∀ ns:List Int,(PyData.list (jN ns)).canLay0=true
 | []=>rfl
 | i::r=>jV r
theorem iX:∀ ns:List Int,PyData.depthAll (jN ns)=0
 | []=>rfl
 | i::r=>by show max 0 (PyData.depthAll (jN r))=0;rw [iX r];rfl
theorem sX (ns:List Int):(PyData.list (jN ns)).depth≤150:=by show PyData.depthAll (jN ns)+1≤150;rw [iX];decide
theorem tY:(("" :String):Str)=Str.empty:=by decide
theorem zo : ∀ xs : List Str, Str.join "" xs = xs.foldr (· ++ ·) Str.empty
  | [] => rfl
  | [x] => (Str.append_empty x).symm
  | x :: y :: r => by
    show x ++ (("" : String) : Str) ++ Str.join "" (y :: r) = x ++ (y :: r).foldr (· ++ ·) Str.empty
    rw [zo (y :: r), tY, Str.append_empty]
theorem zX (xs:List Str):Txt.join "" xs=xs.foldr (·++·) Str.empty:=(eq_of_beq (join_plain_closes "" xs)).trans (zo xs)
theorem aW {n:Nat} (h:n≤1000000):n≤sizeLine:=by rw [sizeLine_eq];omega
theorem dY (k:Nat):((2^k:Nat):Int)=(2:Int)^k:=by simp
theorem fu (k:Nat):(0:Int)<2^k:=by have:=Nat.two_pow_pos k;rw [← dY];omega
theorem uh (ns:List Int) (lo hi:Option Int):∃ zs:List Int,dI (ns.map V.int) lo hi=zs.map V.int∧zs.length≤ns.length:=by
 refine ⟨(ns.drop (HT.sIx ns.length 0 lo)).take (HT.sIx ns.length ns.length hi - HT.sIx ns.length 0 lo),?_,?_⟩
 · unfold dI
   rw [List.length_map,List.map_take,List.map_drop]
 · rw [List.length_take,List.length_drop];omega
theorem ph {α:Type} {xs:List α} {i:Int} (h0:0≤i) (h1:i<xs.length):∃ c,atI xs i=some c:=by
 unfold atI ixN
 rw [if_pos h0,if_pos h1]
 have:i.toNat<xs.length:=by omega
 exact ⟨xs[i.toNat],by show xs[i.toNat]?=_;rw [List.getElem?_eq_getElem this]⟩
theorem xor_zero {x y:Nat} (h:x^^^y=0):x=y:=by
 have h2:x^^^y^^^y=0^^^y:=by rw [h]
 rwa [Nat.xor_assoc,Nat.xor_self,Nat.xor_zero,Nat.zero_xor] at h2
theorem sf (x y : Nat) : x ||| y = (x &&& y) + (x ^^^ y) := by
  have h : ∀ n, ∀ x y : Nat, x < 2 ^ n → y < 2 ^ n → x ||| y = (x &&& y) + (x ^^^ y) := by
    intro n
    induction n with
    | zero => intro x y hx hy; have : x = 0 := by simpa using hx
              have : y = 0 := by simpa using hy
              subst_vars; rfl
    | succ n ih =>
      intro x y hx hy
      have i := ih (x / 2) (y / 2) (by omega) (by omega)
      rw [← Nat.div_add_mod (x ||| y) 2, ← Nat.div_add_mod (x &&& y) 2, ← Nat.div_add_mod (x ^^^ y) 2]
      rw [Nat.or_div_two, Nat.and_div_two, Nat.xor_div_two, i]
      have hm : (x ||| y) % 2 = (x &&& y) % 2 + (x ^^^ y) % 2 := by
        have a := @Nat.or_mod_two_pow x y 1
        have b := @Nat.and_mod_two_pow x y 1
        have c := @Nat.xor_mod_two_pow x y 1
        rw [Nat.pow_one] at a b c
        rw [a, b, c]
        rcases Nat.mod_two_eq_zero_or_one x with h | h <;> rcases Nat.mod_two_eq_zero_or_one y with h' | h' <;> rw [h, h'] <;> rfl
      omega
  have h2 : max x y < 2 ^ (max x y) := Nat.lt_two_pow_self
  exact h (max x y) x y (by omega) (by omega)
theorem kR (x y:Nat):Builtin.bitXor x y=((x^^^y:Nat):Int):=by
 unfold Builtin.bitXor Builtin.bitOr
 have e1:Builtin.bitAnd x y=((x &&& y:Nat):Int):=by
  unfold Builtin.bitAnd
  rw [decide_eq_true (by omega:(0:Int)≤x),decide_eq_true (by omega:(0:Int)≤y)];rfl
 have n (z:Nat):Builtin.bitNot z<0:=by unfold Builtin.bitNot;omega
 have nn (z:Nat):(Builtin.bitNot (Builtin.bitNot z)).toNat=z:=by unfold Builtin.bitNot;omega
 have e2:Builtin.bitAnd (Builtin.bitNot x) (Builtin.bitNot y)=Builtin.bitNot ((x ||| y:Nat):Int):=by
  unfold Builtin.bitAnd
  rw [decide_eq_false (by have:=n x;omega:¬ 0≤Builtin.bitNot x),decide_eq_false (by have:=n y;omega:¬ 0≤Builtin.bitNot y)]
  show Builtin.bitNot (((Builtin.bitNot (Builtin.bitNot x)).toNat ||| (Builtin.bitNot (Builtin.bitNot y)).toNat:Nat):Int)=_
  rw [nn,nn]
 rw [e1,e2,sf]
 unfold Builtin.bitNot
 omega
theorem si (x:Nat):Builtin.bitAnd x 1=((x%2:Nat):Int):=by
 unfold Builtin.bitAnd
 rw [decide_eq_true (by omega:(0:Int)≤x),decide_eq_true (by decide:(0:Int)≤1)]
 show (((x:Int).toNat &&& (1:Int).toNat:Nat):Int)=_
 rw [Int.toNat_natCast,show (1:Int).toNat=1 from rfl,Nat.and_one_is_mod]
section
variable {X:Cx}
theorem bg.units1 {k:Nat} {A:Around} (r:bg k A):A.units+1<cLine:=by have:=r.un;omega
def Ea:R2:=fun x y H Q=>∃ a v,x=.ref a∧eJ H a y (some v)∧Q v H
theorem Ay (hu:X.A.units+1<cLine):IxR X Ea:=by
 intro value slice pins s σ H x y v u Q I rx ry h hs
 obtain ⟨a,w0,rfl,g,q⟩:=h
 obtain rfl:v=Value.ref a:=rx
 have hT:=qi I g
 have h2:wpAny (model X.prog X.w) X.A (getItem (.ref a) u) (EP X pins σ Q) X.xe s:=tN hu I g ry fun w' s3 I3 rw'=>⟨w0,H,I3,rw',q⟩
 unfold subscriptTail
 refine wpAny_bind ?_
 rw [getitemInPython_of_ne hT.not_modules]
 refine wpAny_bind (wpAny_specialOf hT PySem.F.slot_dict_getitem.lookup ?_)
 have fin:wpAny (model X.prog X.w) X.A (subscripted slice false (.ref a) u) (fun r s₃=>wpAny (model X.prog X.w) X.A (letTemporaryGo value (.ref a) r>>=fun _=>pure r) (EP X pins σ Q) X.xe s₃) X.xe s:=by
  rw [hs]
  exact wpAny_operating (wpAny_mono h2 (fun r s₃ h₃=>wpAny_bind (wpAny_letTemporaryGo (wpAny_pure h₃))) fun _ _ x=>x)
 first
  | exact wpAny_pure (wpAny_bind fin)
  | exact wpAny_bind (wpAny_pure (wpAny_bind fin))
  | exact wpAny_bind fin
def aQ (K:W.Frag):R2:=fun x y H Q=>rIx K x y H Q∨Ea x y H Q
theorem aH (hu:X.A.units+1<cLine):IxR X (aQ X.K):=Cz.or (Ay hu)
def zk:V→V→V→Hp→(Hp→Prop)→Prop:=fun o i v H Q=>∃ a H',o=.ref a∧mz H a i v H'∧Q H'
theorem wJ (hu:X.A.units+1<cLine):sk X zk:=by
 intro pins s σ H o i v ov iv u Q I ro ri rv h
 obtain ⟨a,H',rfl,g,q⟩:=h
 obtain rfl:ov=Value.ref a:=ro
 exact tI hu I g ri rv fun s4 I4=>⟨H',I4,q⟩
def oI:V→V→V→Hp→(Hp→Prop)→Prop:=fun o i v H Q=>zK o i v H Q∨zk o i v H Q
theorem Aa (hu:X.A.units+1<cLine):sk X oI:=by
 intro pins s σ H o i v ov iv u Q I ro ri rv h
 rcases h with h | h
 · exact vV pins s σ H o i v ov iv u Q I ro ri rv h
 · exact wJ hu pins s σ H o i v ov iv u Q I ro ri rv h
variable {o e:Expr} {to te:TE} {p pos:Pos}
theorem pJ {ti:TE} {i:Expr} (hu:X.A.units+1<cLine) (ho:QE X o to) (hi:QE X i ti) (he:QE X e te) (hs:swapsWithSole [.Subscript o i p] e pos.line X.env=pure false:=by rfl) (hw:swappedStores [.Subscript o i p] e X.env=pure none:=by rfl) (ha:∀ v,assign (.Subscript o i p) X.env v=(do let ov←holding [v] (eval o X.env);let iv←holding [v,ov] (eval i X.env);standAt p;holding [v,ov,iv] (setItem ov iv v);release [v,ov,iv] []):=by intro _;rfl):QS X (.Assign [.Subscript o i p] e pos) (aM te (sD to ti oI)):=⟨vd he.out (Dv ho.out hi.out (Aa hu) ha) hs hw⟩
def qZ:R2:=fun y x H Q=>∃ a o,x=.ref a∧eJ H a y o∧Q (.bl (!o.isSome)) H
theorem uQ (hu:X.A.units+1<cLine):OpR X (compareOp .NotIn) qZ:=by
 intro pins s σ H x y v u Q I rx ry h
 obtain ⟨a,ov,rfl,g,q⟩:=h
 obtain rfl:u=Value.ref a:=ry
 exact Am hu I g rx fun s3 I3=>⟨.bl (!ov.isSome),H,I3,rfl,q⟩
def rj (K:W.Frag):R2:=fun y x H Q=>∃ d ds,et K H y d∧(et K H x (.list ds)∨et K H x (.tuple ds))∧PyData.canLayAll0 ds=true∧d.canLay0=true∧d.depth≤140∧Q (.bl (!ds.any fun e=>e.eqv d)) H
theorem uH (hu:X.A.units+150<cLine):OpR X (compareOp .NotIn) (rj X.K):=by
 intro pins s σ H x y v u Q I rx ry h
 obtain ⟨d,ds,hd,hx,c1,c2,dp,q⟩:=h
 obtain ⟨as,ra⟩:=cT I hd rx
 have hm:X.A.units+1+min (PyData.depthAll ds) d.depth<cLine:=by have:=Nat.min_le_right (PyData.depthAll ds) d.depth;omega
 rcases hx with hx | hx
 · obtain ⟨bs,rb⟩:=cT I hx ry
   exact PySem.SeqAt.notIn_list_reads rb ra c1 c2 hm ⟨.bl _,H,I,rfl,q⟩
 · obtain ⟨bs,rb⟩:=cT I hx ry
   exact PySem.SeqAt.notIn_tuple_reads rb ra c1 c2 hm ⟨.bl _,H,I,rfl,q⟩
def qL (K:W.Frag):R2:=fun y x H Q=>qZ y x H Q∨rj K y x H Q
theorem Av (hu:X.A.units+150<cLine):OpR X (compareOp .NotIn) (qL X.K):=(uQ (by omega)).or (uH hu)
def gx:TE:=fun σ H Q=>uX σ H Q∨ux σ H Q
theorem gk:QE X (.Dict [] [] pos) gx:=⟨fun pins s σ H Q I h=>h.elim (vy pins s σ H Q I) (vG pins s σ H Q I)⟩
theorem uL:bx X (.builtin "len") (fun xs H Q=>∃ p kvs,xs=[.ref p]∧H p=some (.dT kvs)∧Q (.int kvs.length) H):=by
 intro pins s σ H xs us Q I r h
 obtain ⟨a,kvs,rfl,e,q⟩:=h
 obtain ⟨u,rfl,r1⟩:=eS r
 cases r1
 obtain ⟨z,hd,ps,rel,dd⟩:=rM I.hok e
 have hl:ps.length=kvs.length:=(Paired.length rel).symm
 have hT:s.TypeIs (.ref a) "dict" :=dd.typeIs
 obtain ⟨o,es,ep,ho,hc,hdat,he,his,hn⟩:=dd
 have hsz:es.size=kvs.length:=by rw [← hl];have:=congrArg List.length he;simpa using this
 have M:MeetsIn X.prog X.w (Builtin.«dict.__len__» ⟨[.ref a],[]⟩) (fun _ R s=>s.heap.get? a=some o∧R (.ok (.ret (.int kvs.length s.toks))) { s with toks:=s.toks+1 }):=
  .of_wp fun A R s ⟨ho,h⟩=>by
   show wpAny _ _ (dictSize a>>=_) _ _ s
   unfold dictSize
   refine wpAny_bind (wpAny_bind (wpAny_dictEntries ho hdat (wpAny_pure ?_)))
   show wpAny _ _ (Builtin.Dict.pendingCount a>>=_) _ _ s
   refine wpAny_bind (wpAny_pendingCount_other hd ?_)
   refine wpAny_ret_mkInt ?_
   rw [Nat.add_zero,hsz];exact h
 refine Calls.call_function_entry kind_len plain_len entry_len (args_len1 _) ?_
 unfold Builtin.«len»
 refine wpAny_bind (m:=oneArg "len" _) (wpAny_pure ?_)
 refine wpAny_bind (m:=callSpecial? (.ref a) (Str.ofString "__len__")) (wpAny_callSpecial?_slot (name:=Str.ofString "__len__") hT F.slot_dict_len
  (call_meetsIn F.slot_dict_len hT F.entry_dict_len (F.args_dict_len_1 _) M ⟨ho,?_⟩))
 show wpAny _ _ _ _ _ { s with toks:=s.toks+1 }
 refine wpAny_bind (wpAny_holding (wpAny_pure ?_))
 refine wpAny_bind (wpAny_letGo ?_)
 have zz:kvs.length≤sizeLine:=z
 rw [sizeLine_eq] at zz
 show wpAny _ _ (if ((kvs.length:Nat):Int)<0 then _ else _) _ _ _
 rw [if_neg (by omega)]
 show wpAny _ _ (if ((kvs.length:Nat):Int)≥2^63 then _ else _) _ _ _
 rw [if_neg (by omega)]
 exact wpAny_bind (wpAny_mkInt (wpAny_pure ⟨_,rfl,⟨.int kvs.length,H,I.tok _,⟨_,rfl⟩,q⟩⟩))
def cg (K:W.Frag):List V→Hp→VK→Prop:=fun xs H Q=>Bh K xs H Q∨∃ p kvs,xs=[.ref p]∧H p=some (.dT kvs)∧Q (.int kvs.length) H
theorem ck:bx X (.builtin "len") (cg X.K):=IS.or uL
def Br (H:Hp) (a:Addr) (y d:V) (r:V) (H':Hp):Prop:=(eJ H a y (some r)∧H'=H)∨(eJ H a y none∧mz H a y d H'∧r=d)
theorem fq {A:Around} {E:Value→Shared→Prop} {s:Shared} {P:Program} {w:World} {K:Type} [DecidableEq K] {knd:HeapKind P w K} {d a:Addr} {xs:List (K×Addr×Value)} {k:K} {v:Value} {Q:Value→Shared→Prop} (hu:knd.room A) (hkey:knd.is s.heap k a) (hm:s.heap.DictOfH knd d xs)
   (hthere:∀ p,atKey xs k=some p→Q p.2 { s with toks:=s.toks+knd.draws k })
   (hQ:atKey xs k=none→∀ h',h'.DictOfH knd d (storedH xs k a v)→Heap.SameBut d s.heap h'→Q v { s with heap:=h',toks:=s.toks+knd.draws k })
   (hsz:xs.length≤sizeLine):
   wpAny (model P w) A (dictSetDefault d (.ref a) v) Q E s:=by
 obtain ⟨o,es,ep,ho,hc,hd,he,his,hn⟩:=hm
 unfold dictSetDefault
 try with_reducible refine wpAny_holding ?_
 refine wpAny_bind (knd.pyHash hu hkey ?_)
 refine wpAny_bind (wpAny_dictFind_heap (s:={ s with toks:=s.toks+knd.draws k }) hu hkey ho hd he his hn ?_ ?_)
 · intro hno
   have hnot:k∉xs.map (·.1):=not_mem_keys_of_get hno
   refine wpAny_bind (wpAny_rule (wpAny_bind (wpAny_updateDictKeys (hz:=by have e:=size_of_entries he;omega) (s:={ s with toks:=s.toks+knd.draws k }) ho hd (wpAny_pure (hQ (atKey_none_of_get hno) _ ⟨_,_,ep+1,Heap.get?_update_self _ ho (Obj.isFreed_of_dict (Obj.data_mapDictKeys hd _)),
     hc.mapDictKeys _,Obj.data_mapDictKeys hd _,?_,?_,?_⟩ (Heap.SameBut.update ..))))))
   · rw [storedH_new (atKey_none_of_get hno)]
     simp [he,entryOfKey]
   · rw [storedH_new (atKey_none_of_get hno)]
     intro x hx
     rcases List.mem_append.mp hx with hx | hx
     · exact knd.keeps (his x hx) ho hd (Heap.SameBut.update ..)
     · simp only [List.mem_singleton] at hx
       subst hx
       exact knd.keeps hkey ho hd (Heap.SameBut.update ..)
   · rw [storedH_new (atKey_none_of_get hno)]
     rw [List.map_append,List.nodup_append]
     refine ⟨hn,by simp,?_⟩
     intro x hx y hy
     simp only [List.map_cons,List.map_nil,List.mem_singleton] at hy
     subst hy
     exact fun e=>hnot (e▸hx)
 · intro j p hj
   refine wpAny_bind (wpAny_dictEntries (s:={ s with toks:=s.toks+knd.draws k }) ho hd ?_)
   rw [entry_at he j,hj]
   exact wpAny_bind (wpAny_rule (wpAny_pure (hthere p (atKey_of_get hn hj))))
end
theorem gC {h:Heap} {a:Addr} {its:Array Value} (p:PlainL h a its):h.IsList a its:=let ⟨o,n,e,c,_,d⟩:=p;⟨o,e,c,n,d⟩

set_option genInjectivity false in
set_option genSizeOf false in
structure cM where
 qual:Str
 body:FuncBody
 scope:Scope
 ps:List Str
 ys:List Str
def lm (t:cM) (cs:List Addr) (c:Addr) (fd:FuncData):Prop:=
 fd.qualname=t.qual∧fd.body=t.body∧fd.scope=t.scope∧fd.globals=mainGlobals∧fd.closure=t.ys.zip cs∧fd.code=.ref c∧fd.builtins=builtinsNs∧
  (∀ us:List Value,us.length=t.ps.length→bindArgs fd ⟨us,[]⟩=pure (t.ps.zip us))∧cs.Nodup∧cs.length=t.ys.length
def dA (f:Addr) (t:cM) (cs:List Addr) (c:Addr):HO:=.ext fun h=>∃ od fd sl,h.get? f=some ⟨.type "function",od,.func fd,sl⟩∧lm t cs c fd
def cG (c:Addr) (qual:Str):HO:=.ext fun h=>∃ o vs tk,h.get? c=some o∧o.data=.fields vs∧vs[1]?=some (.str qual tk)
def cq (c:Addr) (v:V):HO:=.ext fun h=>∃ u o,aR v u∧h.get? c=some o∧o.data=.cell (some u)
abbrev cx (H:Hp):List Addr→List V→Prop:=Paired fun c v=>H c=some (cq c v)
structure dD (H:Hp) (f:Addr) (t:cM) (cs:List Addr) (cvs:List V):Prop where
 ex:∃ c,H f=some (dA f t cs c)∧H c=some (cG c t.qual)
 cells:cx H cs cvs
theorem cx.mem {H : Hp} {cs : List Addr} {cvs : List V} (h : cx H cs cvs) : ∀ c ∈ cs, ∃ v, H c = some (cq c v) := by
  induction h with
  | nil => intro c hc; cases hc
  | cons r t ih =>
    intro c hc
    rcases List.mem_cons.mp hc with rfl | hc
    · exact ⟨_, r⟩
    · exact ih c hc
theorem cx.get {H : Hp} {cs : List Addr} {cvs : List V} (h : cx H cs cvs) : ∀ {i : Nat} {v : V}, cvs[i]? = some v → ∃ c, cs[i]? = some c ∧ H c = some (cq c v) := by
  induction h with
  | nil => intro i v e; cases e
  | @cons c w cs ws r t ih =>
    intro i v e
    cases i with
    | zero => cases e; exact ⟨c, rfl, r⟩
    | succ i => exact ih e
def cF (cs:List Addr) (H:Hp):Hp:=fun b=>if b∈cs then none else H b
def cu (cs:List Addr) (H H':Hp):Hp:=fun b=>if b∈cs then H b else H' b
theorem gD {cs:List Addr} {H:Hp} {b:Addr} (h:b∈cs):cF cs H b=none:=if_pos h
theorem cI {cs:List Addr} {H:Hp} {b:Addr} (h:b∉cs):cF cs H b=H b:=if_neg h
theorem iH {cs:List Addr} {H H':Hp} {b:Addr} (h:b∈cs):cu cs H H' b=H b:=if_pos h
theorem cn {cs:List Addr} {H H':Hp} {b:Addr} (h:b∉cs):cu cs H H' b=H' b:=if_neg h
theorem uB {cs:List Addr} {H H':Hp} {d:Addr} {o:HO} (h:d∉cs):cu cs H (upd H' d o)=upd (cu cs H H') d o:=by
 funext b
 by_cases hb:b∈cs
 · have:b≠d:=fun e=>h (e▸hb)
   rw [iH hb,ap this,iH hb]
 · rw [cn hb]
   by_cases e:b=d
   · subst e;rw [aj,aj]
   · rw [ap e,ap e,cn hb]
theorem cx.notin {H:Hp} {cs:List Addr} {cvs:List V} (h:cx H cs cvs) {b:Addr} {o:HO} (e:H b=some o) (hn:∀ φ,o≠ .ext φ):b∉cs:=fun hb=>by
 obtain ⟨v,ev⟩:=h.mem b hb
 rw [e] at ev
 exact hn _ (Option.some.inj ev)
theorem cx.hide {H:Hp} {cs:List Addr} {cvs:List V} (h:cx H cs cvs) {b:Addr} {o:HO} (e:H b=some o) (hn:∀ φ,o≠ .ext φ):cF cs H b=some o:=by
 rw [cI (h.notin e hn)];exact e
theorem au.hide {H H':Hp} (cs:List Addr) (s:au (cF cs H) H'):au H (cu cs H H'):=fun b o e=>by
 by_cases hb:b∈cs
 · rw [iH hb];exact e
 · rw [cn hb];exact s _ _ (by rw [cI hb];exact e)
section
variable {P:Program} {w:World} {fs:List Addr} {H H':Hp} {h h':Heap} {cs:List Addr} {cvs:List V}
theorem Ao (hc:cx H cs cvs) (ok:HOk P w H h):HOk P w (cF cs H) h:=fun b o e=>by
 by_cases hb:b∈cs
 · rw [gD hb] at e;cases e
 · rw [cI hb] at e
   exact (ok b o e).stay (fun c u _ q=>q) (fun c q=>hc.hide q fun φ z=>nomatch z) fun c xs q=>hc.hide q fun φ z=>nomatch z
theorem qN (hc:cx H cs cvs) (hfs:∀ b∈fs,H b=none) (ok:HOk P w H h) (u:Un fs [] (cF cs H) H' h h') (ok':HOk P w H' h'):Un fs [] H (cu cs H H') h h'∧HOk P w (cu cs H H') h':=by
 have obj:∀ c∈cs,∃ v o,H c=some (cq c v)∧h.get? c=some o∧h'.get? c=some o∧H' c=none:=fun c hm=>by
   obtain ⟨v,ev⟩:=hc.mem c hm
   obtain ⟨_,⟨o,eo⟩,_⟩:=(show bh P w H h c (cq c v) from ok c _ ev)
   refine ⟨v,o,ev,eo,u.keep c o eo (gD hm) (fun z=>?_) (by simp),u.free c o eo (gD hm) (by simp)⟩
   rw [hfs c z] at ev;cases ev
 have nin:∀ b,H b=none→b∉cs:=fun b e hb=>by
   obtain ⟨v,ev⟩:=hc.mem b hb
   rw [e] at ev;cases ev
 have nin':∀ b o,H' b=some o→b∉cs:=fun b o e hb=>by
   obtain ⟨_,_,_,_,_,z⟩:=obj b hb
   rw [e] at z;cases z
 refine ⟨⟨fun b o e n hb hx=>u.keep b o e (by rw [cI (nin b n)];exact n) hb hx,fun b o e n hb hx=>u.slot b o e (by rw [cI (nin b n)];exact n) hb hx,
   fun b o e n hx=>by rw [cn (nin b n)];exact u.free b o e (by rw [cI (nin b n)];exact n) hx,u.there,fun b xs e=>?_,fun b o v e=>?_,fun b ps e=>?_⟩,fun b o e=>?_⟩
 · have hb:=hc.notin e fun φ z=>nomatch z
   rw [cn hb];exact u.tups b xs (by rw [cI hb];exact e)
 · have hb:=hc.notin e fun φ z=>nomatch z
   rw [cn hb];exact u.frzs b o v (by rw [cI hb];exact e)
 · have hb:=hc.notin e fun φ z=>nomatch z
   rw [cn hb];exact u.tbls b ps (by rw [cI hb];exact e)
 · by_cases hb:b∈cs
   · rw [iH hb] at e
     obtain ⟨v,o',ev,e1,e2,_⟩:=obj b hb
     rw [e] at ev;cases ev
     obtain ⟨φ1,_,φ3⟩:=(show bh P w H h b (cq b v) from ok b _ e)
     exact ⟨φ3 h h' φ1 fun q hq=>by rw [e1] at hq;cases hq;exact e2,⟨o',e2⟩,φ3⟩
   · rw [cn hb] at e
     exact (ok' b o e).stay (fun c u _ q=>q) (fun c q=>by rw [cn (nin' c _ q)];exact q) fun c xs q=>by rw [cn (nin' c _ q)];exact q
theorem CR.back {outer : List Env} {s s' : Shared} {Q : VK} {E : XK} {r : Result} (hc : cx H cs cvs) (hfs : ∀ b ∈ frs outer, H b = none) (ok : HOk P w H s.heap)
    (h : CR (CX1 P w) outer P w (cF cs H) s (fun v H' => Q v (cu cs H H')) (fun c a H' => E c a (cu cs H H')) r s') : CR (CX1 P w) outer P w H s Q E r s' := by
  cases r with
  | error e =>
    obtain ⟨a, C, d, H', rfl, F, q⟩ := h
    obtain ⟨u, k⟩ := qN hc hfs ok F.un F.hok
    have na : a ∉ cs := fun hb => by
      obtain ⟨v, ev⟩ := hc.mem a hb
      obtain ⟨_, ⟨o, eo⟩, _⟩ := (show bh P w H s.heap a (cq a v) from ok a _ ev)
      rw [F.new] at eo; cases eo
    obtain ⟨oe, vs, a0, T, oT, ts, t1, t2, td, t3, t4, t5, t6, t7, t8, t9, t10, t11⟩ := F.tr
    have nT : T ∉ cs := fun hb => by
      obtain ⟨v, ev⟩ := hc.mem T hb
      obtain ⟨_, ⟨o, eo⟩, _⟩ := (show bh P w H s.heap T (cq T v) from ok T _ ev)
      rw [t10] at eo; cases eo
    exact ⟨a, C, d, _, rfl, ⟨F.os, F.bare, u, k, F.new, by rw [cn na]; exact F.free, ⟨oe, vs, a0, T, oT, ts, t1, t2, td, t3, t4, t5, t6, t7, t8, t9, t10, by rw [cn nT]; exact t11⟩⟩, q⟩
  | ok fl =>
    cases fl with
    | ret u =>
      obtain ⟨v, H', os, bare, un, hok, rv, q⟩ := h
      obtain ⟨u', k⟩ := qN hc hfs ok un hok
      exact ⟨v, _, os, bare, u', k, rv, q⟩
    | next => exact False.elim h
    | brk => exact False.elim h
    | cont => exact False.elim h
end
structure fh (P:Program) (w:World) (K:W.Frag) (mg:Str→Option Value) (base:Heap) (k:Nat) (t:cM) (sp:Sp):Prop where
 run:∀ (A:Around) (outer:List Env) (s:Shared) (H:Hp) (f:Addr) (cs:List Addr) (us:List Value) (vs cvs:List V) (Q:VK) (E:XK),bg k A→iN P w K mg base A outer s H→dD H f t cs cvs→aX vs us→vs.length=t.ps.length→
  sp (vs++cvs) (cF cs H) (fun v H'=>Q v (cu cs H H')) (fun c a H'=>E c a (cu cs H H'))→codeAny (model P w) A (.call (.ref f) ⟨us,[]⟩) (CR (CX1 P w) outer P w H s Q E) s
def dM (N:List Str) (vs cvs:List V):St:=vs.map some++(List.replicate (N.length - vs.length - cvs.length) none++cvs.map some)
def gb (P:Program) (w:World) (K:W.Frag) (mg:Str→Option Value) (base:Heap) (N:List Str) (qual:Str) (scope:Scope) (f c:Addr) (cl:List (Str×Addr)) (A:Around) (outer:List Env) (s:Shared) (H:Hp) (E:XK):Cx where
 prog:=P
 w:=w
 K:=K
 mg:=mg
 base:=base
 A:=A.deeper (W.envX qual scope s.heap.objs.size f (.ref c) cl)
 N:=N
 s₀:=s
 H₀:=H
 env:=W.envX qual scope s.heap.objs.size f (.ref c) cl
 outer:=outer
 stack:=W.envX qual scope s.heap.objs.size f (.ref c) cl::outer
 ex:=[]
 calm:=true
 fn:=fun _=>false
 pn:=[]
 xe:=fun e s'=>wpAny (model P w) (A.deeper (W.envX qual scope s.heap.objs.size f (.ref c) cl)) (leaving (W.envX qual scope s.heap.objs.size f (.ref c) cl) e) (fun _ s''=>CX1 P w outer H s E e s'') (fun e' s''=>CX1 P w outer H s E e' s'') s'
structure dZ (N ps ys:List Str) (sc:Scope):Prop where
 kind:sc.kind=.function
 co:sc.isCoroutine=false
 gen:sc.isGenerator=false
 nd:N.Nodup
 pre:N.take ps.length=ps
 suf:N.drop (N.length - ys.length)=ys
 le:ps.length+ys.length≤N.length
 par:∀ x∈ps,sc.names.lookup x=some .local
 nocell:∀ x∈sc.names,x.2≠ .cell
 fr:∀ x∈ys,sc.names.lookup x=some .free
 frs:∀ y∈sc.names,y.2=.free→y.1∈ys
theorem lJ {ys : List Str} {cs : List Addr} (hl : cs.length = ys.length) (nd : ys.Nodup) : ∀ {i : Nat} {y : Str} {c : Addr}, ys[i]? = some y → cs[i]? = some c → (ys.zip cs).lookup y = some c := by
  induction ys generalizing cs with
  | nil => intro i y c e; cases e
  | cons a r ih =>
    intro i y c e1 e2
    cases cs with
    | nil => cases e2
    | cons b cs =>
      cases i with
      | zero => cases e1; cases e2; show (List.lookup _ ((_, _) :: _)) = _; rw [List.lookup_cons]; simp
      | succ i =>
        have hne : y ≠ a := fun e => (List.nodup_cons.mp nd).1 (e ▸ List.mem_of_getElem? (show r[i]? = some y from e1))
        show (List.lookup y ((a, b) :: r.zip cs)) = _
        rw [List.lookup_cons, show (y == a) = false from by simpa using hne]
        exact ih (by simpa using hl) (List.nodup_cons.mp nd).2 (show r[i]? = some y from e1) (show cs[i]? = some c from e2)
theorem fQ {ys : List Str} {cs : List Addr} : ∀ {y : Str} {c : Addr}, (ys.zip cs).lookup y = some c → ∃ i : Nat, ys[i]? = some y ∧ cs[i]? = some c := by
  induction ys generalizing cs with
  | nil => intro y c e; cases e
  | cons a r ih =>
    intro y c e
    cases cs with
    | nil => cases e
    | cons b cs =>
      have e : (List.lookup y ((a, b) :: r.zip cs)) = some c := e
      rw [List.lookup_cons] at e
      by_cases hy : (y == a) = true
      · rw [hy] at e; cases e; exact ⟨0, by simpa using (eq_of_beq hy).symm, rfl⟩
      · rw [show (y == a) = false from by simpa using hy] at e
        obtain ⟨i, h1, h2⟩ := ih e
        exact ⟨i + 1, h1, h2⟩
theorem mN {ps : List Str} {us : List Value} (nd : ps.Nodup) : ∀ {i : Nat} {x : Str} {u : Value}, ps[i]? = some x → us[i]? = some u → (ps.zip us).reverse.lookup x = some u := by
  induction ps generalizing us with
  | nil => intro i x u e; cases e
  | cons a r ih =>
    intro i x u e1 e2
    cases us with
    | nil => cases e2
    | cons b us =>
      show (List.lookup x ((a, b) :: r.zip us).reverse) = _
      rw [List.reverse_cons, List.lookup_append]
      cases i with
      | zero =>
        cases e1; cases e2
        have : (r.zip us).reverse.lookup a = none := by
          rw [List.lookup_eq_none_iff]
          intro p hp
          have := (List.of_mem_zip (List.mem_reverse.mp hp)).1
          simp only [beq_eq_false_iff_ne, ne_eq, bne_iff_ne]
          intro e
          exact (List.nodup_cons.mp nd).1 (by rw [← e] at this; exact this)
        rw [this]; simp
      | succ i =>
        rw [ih (List.nodup_cons.mp nd).2 (show r[i]? = some x from e1) (show us[i]? = some u from e2)]; rfl
section
variable {P:Program} {w:World} {K:W.Frag} {mg:Str→Option Value} {base:Heap} {N ps ys:List Str} {qual:Str} {scope:Scope} {f c:Addr} {A:Around} {outer:List Env} {s:Shared} {H:Hp} {E:XK} {us:List Value} {vs cvs:List V} {cs:List Addr} {h1:Heap} {tk:Nat}
theorem qF (S:dZ N ps ys scope) (hd:A.handled=none) (e0:iN P w K mg base A outer s H) (ca:cx H cs cvs) (hcs:cs.Nodup) (hcl:cs.length=ys.length) (hl:vs.length=ps.length) (r:aX vs us)
   (hns:h1.Ns s.heap.objs.size (fun x=>(ps.zip us).reverse.lookup x)) (hk:∀ b o,s.heap.get? b=some o→h1.get? b=some o):
   Inv (gb P w K mg base N qual scope f c (ys.zip cs) A outer s (cF cs H) E) [] (dM N vs cvs) (cF cs H) { s with heap:=h1,toks:=tk }:=by
 have ndY:ys.Nodup:=by rw [← S.suf];exact S.nd.sublist (List.drop_sublist _ _)
 have ndP:ps.Nodup:=by rw [← S.pre];exact S.nd.sublist (List.take_sublist _ _)
 have lcv:cvs.length=ys.length:=by rw [← hcl];exact (Paired.length ca).symm
 have cellOf:∀ c∈cs,∃ v,h1.IsCell c v:=fun c hm=>by
   obtain ⟨v,ev⟩:=ca.mem c hm
   obtain ⟨⟨u,o,_,eo,hd⟩,_,_⟩:=(show bh P w H s.heap c (cq c v) from e0.hok c _ ev)
   exact ⟨_,o,hk _ _ eo,hd⟩
 have memC:∀ x c,(ys.zip cs).lookup x=some c→c∈cs:=fun x c e=>by
   obtain ⟨i,_,e2⟩:=fQ e
   exact List.mem_of_getElem? e2
 have noA:∀ b:Addr,b∉(gb P w K mg base N qual scope f c (ys.zip cs) A outer s (cF cs H) E).ex:=fun b z=>absurd (show b∈([]:List Addr) from z) (by simp)
 have hid:∀ b,H b=none→cF cs H b=none:=fun b e=>by
   by_cases hb:b∈cs
   · exact gD hb
   · rw [cI hb];exact e
 refine ⟨⟨e0.mod,S.kind,rfl,rfl,Nat.le_refl _,fun y z c h1 h2=>?_,fun y hy=>?_,fun y c hf _=>?_,fun _=>hd,Around.frames_deeper e0.frames,.inr ⟨rfl,rfl⟩,fun b z=>absurd z (noA b),fun b o e=>⟨(e0.bs b o e).1,hid b (e0.bs b o e).2⟩,e0.bsz,fun b _ _=>noA b,fun b z=>absurd z (noA b),e0.funs,fun b hb=>hid b (e0.frf b hb)⟩,
   rfl,e0.bare,Un.kept hk,⟨_,hns,fun i y v q1 q2 q3=>?_⟩,fun y c h=>cellOf c (memC y c h),hid _ (e0.hok.fresh (Nat.le_refl _)),fun y c h=>gD (memC y c h),fun p hp=>absurd (show p∈([]:List (Addr×Obj)) from hp) (by simp),(Ao ca e0.hok).kept hk,?_⟩
 · obtain ⟨i,e1,e2⟩:=fQ (show (ys.zip cs).lookup y=some c from h1)
   obtain ⟨j,e3,e4⟩:=fQ (show (ys.zip cs).lookup z=some c from h2)
   have:i=j:=by
     obtain ⟨a1,b1⟩:=List.getElem?_eq_some_iff.mp e2
     obtain ⟨a2,b2⟩:=List.getElem?_eq_some_iff.mp e4
     exact (List.getElem_inj hcs).mp (b1.trans b2.symm)
   subst this
   rw [e1] at e3;exact Option.some.inj e3
 · have hy:scope.names.lookup y=some .cell∨scope.names.lookup y=some .free:=hy
   rcases hy with hy | hy
   · exact absurd rfl (S.nocell _ (PySem.mem_of_lookup hy))
   · obtain ⟨i,hi,e⟩:=List.mem_iff_getElem.mp (S.frs _ (PySem.mem_of_lookup hy) rfl)
     have hi2:i<cs.length:=by omega
     exact ⟨cs[i],lJ hcl ndY (List.getElem?_eq_some_iff.mpr ⟨hi,e⟩) (List.getElem?_eq_getElem hi2)⟩
 · exact absurd (show false=true from hf) Bool.false_ne_true
 · unfold dM at q2
   by_cases hi:i<vs.length
   · rw [List.getElem?_append_left (by simpa using hi),List.getElem?_map] at q2
     have ha:vs[i]?=some v:=by
       cases e:vs[i]? with
       | none=>rw [e] at q2;cases q2
       | some a=>rw [e] at q2;cases q2;rfl
     obtain ⟨u,hu,rv⟩:=r.get ha
     have hp:ps[i]?=some y:=by
       rw [← S.pre,List.getElem?_take_of_lt (by omega)];exact q1
     exact ⟨u,rv,.inl ⟨S.par y (List.mem_of_getElem? hp),mN ndP hp hu⟩⟩
   · rw [List.getElem?_append_right (by simpa using hi),List.length_map] at q2
     by_cases hj:i - vs.length<N.length - vs.length - cvs.length
     · rw [List.getElem?_append_left (by simpa using hj),List.getElem?_replicate] at q2
       split at q2 <;> cases q2
     · rw [List.getElem?_append_right (by simpa using hj),List.length_replicate,List.getElem?_map] at q2
       have ha:cvs[i - vs.length - (N.length - vs.length - cvs.length)]?=some v:=by
        cases e:cvs[i - vs.length - (N.length - vs.length - cvs.length)]? with
        | none=>rw [e] at q2;cases q2
        | some a=>rw [e] at q2;cases q2;rfl
       have hle:=S.le
       have hiN:i<N.length:=(List.getElem?_eq_some_iff.mp q1).1
       have hx:i - vs.length - (N.length - vs.length - cvs.length)=i - (N.length - ys.length):=by omega
       rw [hx] at ha
       have hy:ys[i - (N.length - ys.length)]?=some y:=by
        have e1:N.drop (N.length - ys.length)=ys:=S.suf
        have e2:(N.drop (N.length - ys.length))[i - (N.length - ys.length)]?=some y:=by
         rw [List.getElem?_drop]
         rw [show N.length - ys.length+(i - (N.length - ys.length))=i by omega];exact q1
        rw [e1] at e2;exact e2
       obtain ⟨c,ec,hc⟩:=ca.get ha
       obtain ⟨⟨u,o,ru,eo,hdo⟩,_,_⟩:=(show bh P w H s.heap c (cq c v) from e0.hok c _ hc)
       exact ⟨u,ru,.inr ⟨.inr (S.fr y (List.mem_of_getElem? hy)),c,lJ hcl ndY hy ec,o,hk _ _ eo,hdo⟩⟩
 · unfold dM
   show _=N.length
   have:=S.le
   rw [List.length_append,List.length_append,List.length_map,List.length_map,List.length_replicate]
   omega
end
section
variable {P:Program} {w:World} {K:W.Frag} {mg:Str→Option Value} {base:Heap} {k:Nat} {t:cM} {N:List Str} {sp:Sp}
theorem oX {body : List Stmt} (hb : t.body = .stmts body) (S : dZ N t.ps t.ys t.scope)
    (hbody : ∀ (f c : Addr) (cl : List (Str × Addr)) (A : Around) (outer : List Env) (s : Shared) (H : Hp) (vs cvs : List V) (Q : VK) (E : XK), bg k (A.deeper (W.envX t.qual t.scope s.heap.objs.size f (.ref c) cl)) → vs.length = t.ps.length → cvs.length = t.ys.length → sp (vs ++ cvs) H Q E →
      ∃ td, PSs (gb P w K mg base N t.qual t.scope f c cl A outer s H E) body td ∧ td { nx := fun _ H' => Q .non H', rt := Q } (dM N vs cvs) H) : fh P w K mg base (k + 1) t sp := by
  refine ⟨fun A outer s H f cs us vs cvs Q E hr e0 ca r hl hsp => ?_⟩
  obtain ⟨c, hf, hcc⟩ := ca.ex
  have KX : K.In s.heap := e0.mod.kin.keeps fun b o e => (e0.bs b o e).1
  have lim : s.heap.NoLimit := e0.mod.nolimit.keeps fun b o e => (e0.bs b o e).1
  obtain ⟨⟨od, fd, sl, ho, h1, h2, h3, h4, h5, h6, h7, h8, h9, h10⟩, _, _⟩ := (show bh P w H s.heap f (dA f t cs c) from e0.hok f _ hf)
  obtain ⟨⟨o, vs', tk, hco, hdo, hv⟩, _, _⟩ := (show bh P w H s.heap c (cG c t.qual) from e0.hok c _ hcc)
  have hcd : s.heap.CodeRec fd.code fd.qualname := ⟨c, o, vs', tk, h6, hco, hdo, by rw [h1]; exact hv⟩
  refine codeAny_mono (codeAny_call_function (R := CR (CX1 P w) outer P w (cF cs H) s (fun v H' => Q v (cu cs H H')) (fun c a H' => E c a (cu cs H H'))) hr.depth ho rfl (by rw [h3]; exact S.co) (by rw [h3]; exact S.gen) (h2.trans hb) hcd ?_) fun r s' h => CR.back ca.cells e0.frf e0.hok h
  rw [h8 us (by rw [← r.length]; exact hl), h3, h4, h5, h1, h6, h7]
  refine wpAny_pure (wpAny_newFunctionEnv S.nocell (fun y hy => S.par y.1 (List.of_mem_zip hy).1) (fun h' hns hsb => ⟨lim.fresh _ hsb, ?_⟩) S.kind)
  have hk : ∀ b o, s.heap.get? b = some o → h'.get? b = some o := fun b o e => hsb.extBut b o (Nat.ne_of_lt (Heap.lt_size e)) (Heap.get?_push_of_some _ e)
  have lcv : cvs.length = t.ys.length := by rw [← h10]; exact (Paired.length ca.cells).symm
  obtain ⟨td, ht, hq⟩ := hbody f c (t.ys.zip cs) A outer s (cF cs H) vs cvs _ _ (hr.deeper _) hl lcv hsp
  have I := qF (tk := s.toks + (t.ps.zip us).length) (qual := t.qual) (f := f) (c := c) (E := fun c a H' => E c a (cu cs H H')) S hr.hd e0 ca.cells h9 h10 hl r hns hk
  show codeAny _ _ (.func body (W.envX t.qual t.scope s.heap.objs.size f (.ref c) (t.ys.zip cs))) _ _
  refine codeAny_func ?_
  refine wpAny_mono (ht [] _ (dM N vs cvs) _ _ I hq) (fun fl s' hs => ?_) fun e s' hs => hs
  cases fl with
  | ret u =>
    obtain ⟨v, σ', H', J, rv, q⟩ := hs
    exact ⟨v, H', J.os, J.bare, J.base, J.hok, rv, q⟩
  | next =>
    obtain ⟨σ', H', J, q⟩ := hs
    exact ⟨V.non, H', J.os, J.bare, J.base, J.hok, rfl, q⟩
  | brk =>
    obtain ⟨_, _, _, q⟩ := hs
    exact False.elim q
  | cont =>
    obtain ⟨_, _, _, q⟩ := hs
    exact False.elim q
theorem qT {body : Expr} (hb : t.body = .expr body) (S : dZ N t.ps t.ys t.scope)
  (hbody : ∀ (f c : Addr) (cl : List (Str × Addr)) (A : Around) (outer : List Env) (s : Shared) (H : Hp) (vs cvs : List V) (Q : VK) (E : XK), bg k (A.deeper (W.envX t.qual t.scope s.heap.objs.size f (.ref c) cl)) → vs.length = t.ps.length → cvs.length = t.ys.length → sp (vs ++ cvs) H Q E →
   ∃ te, PE (gb P w K mg base N t.qual t.scope f c cl A outer s H E) body te ∧ te (dM N vs cvs) H Q) : fh P w K mg base (k + 1) t sp := by
 refine ⟨fun A outer s H f cs us vs cvs Q E hr e0 ca r hl hsp => ?_⟩
 obtain ⟨c, hf, hcc⟩ := ca.ex
 have KX : K.In s.heap := e0.mod.kin.keeps fun b o e => (e0.bs b o e).1
 have lim : s.heap.NoLimit := e0.mod.nolimit.keeps fun b o e => (e0.bs b o e).1
 obtain ⟨⟨od, fd, sl, ho, h1, h2, h3, h4, h5, h6, h7, h8, h9, h10⟩, _, _⟩ := (show bh P w H s.heap f (dA f t cs c) from e0.hok f _ hf)
 obtain ⟨⟨o, vs', tk, hco, hdo, hv⟩, _, _⟩ := (show bh P w H s.heap c (cG c t.qual) from e0.hok c _ hcc)
 have hcd : s.heap.CodeRec fd.code fd.qualname := ⟨c, o, vs', tk, h6, hco, hdo, by rw [h1]; exact hv⟩
 refine codeAny_mono (W.kla_callFunE (R := CR (CX1 P w) outer P w (cF cs H) s (fun v H' => Q v (cu cs H H')) (fun c a H' => E c a (cu cs H H'))) hr.depth ho rfl (by rw [h3]; exact S.co) (by rw [h3]; exact S.gen) (h2.trans hb) hcd ?_) fun r s' h => CR.back ca.cells e0.frf e0.hok h
 rw [h8 us (by rw [← r.length]; exact hl), h3, h4, h5, h1, h6, h7]
 refine wpAny_pure (wpAny_newFunctionEnv S.nocell (fun y hy => S.par y.1 (List.of_mem_zip hy).1) (fun h' hns hsb => ⟨lim.fresh _ hsb, ?_⟩) S.kind)
 have hk : ∀ b o, s.heap.get? b = some o → h'.get? b = some o := fun b o e => hsb.extBut b o (Nat.ne_of_lt (Heap.lt_size e)) (Heap.get?_push_of_some _ e)
 have lcv : cvs.length = t.ys.length := by rw [← h10]; exact (Paired.length ca.cells).symm
 obtain ⟨te, ht, hq⟩ := hbody f c (t.ys.zip cs) A outer s (cF cs H) vs cvs _ _ (hr.deeper _) hl lcv hsp
 have I := qF (tk := s.toks + (t.ps.zip us).length) (qual := t.qual) (f := f) (c := c) (E := fun c a H' => E c a (cu cs H H')) S hr.hd e0 ca.cells h9 h10 hl r hns hk
 show codeAny _ _ (.expr body (W.envX t.qual t.scope s.heap.objs.size f (.ref c) (t.ys.zip cs))) _ _
 refine W.kla_codeExpr ?_
 refine wpAny_mono (ht [] _ (dM N vs cvs) _ _ I hq) (fun v s' hs => ?_) fun e s' hs => hs
 obtain ⟨x, H', J, rv, q⟩ := hs
 exact ⟨x, H', J.os, J.bare, J.base, J.hok, rv, q⟩
end
def BM (mg:Str→Option Value) (h:Heap):Prop:=∃ bm ob,mg "__builtins__" =some (.ref bm)∧bm≠builtinsNs∧h.get? bm=some ob∧ob.cls=.type "module" ∧ob.dict=some builtinsNs∧ob.data=.plain
section
variable {X:Cx} {pins:List (Addr×Obj)} {σ:St} {H:Hp} {s:Shared} {P c:Addr} {ps:Array Value} {t:cM} {cs:List Addr} {h':Heap} {tk:Nat} {fd:FuncData}
theorem pK {more:Array Value} (I:Inv X pins σ H s) (hP:H P=some (.tbl ps)) (hx:Heap.ExtBut P s.heap h') (hge:s.heap.objs.size≤c) (hlt:c<h'.objs.size) (hrec:h'.CodeRec (.ref c) t.qual)
   (htb:h'.get? P=some (W.tabObj (ps++more))) (hfd:lm t cs c fd):
   Inv X pins σ (upd (upd (upd H P (.tbl (ps++more))) c (cG c t.qual)) h'.objs.size (dA h'.objs.size t cs c)) { s with heap:=h'.push { cls:=.type "function",data:=.func fd },toks:=tk }:=by
 have hcn:H c=none:=I.hok.fresh hge
 have hfn:H h'.objs.size=none:=I.hok.fresh (Nat.le_of_lt (Nat.lt_of_le_of_lt hge hlt))
 have ncP:c≠P:=(az hP hcn).symm
 have nfP:h'.objs.size≠P:=(az hP hfn).symm
 have ncf:c≠h'.objs.size:=Nat.ne_of_lt hlt
 have old:∀ b o,s.heap.get? b=some o→b≠c∧b≠h'.objs.size:=fun b o e=>⟨Nat.ne_of_lt (Nat.lt_of_lt_of_le (Heap.lt_size e) hge),Nat.ne_of_lt (Nat.lt_of_lt_of_le (Heap.lt_size e) (Nat.le_of_lt (Nat.lt_of_le_of_lt hge hlt)))⟩
 have keepP:∀ b o,b≠P→s.heap.get? b=some o→(h'.push { cls:=.type "function",data:=.func fd }).get? b=some o:=fun b o hb e=>Heap.get?_push_of_some _ (hx b o hb e)
 have neP:∀ b,H b=none→b≠P:=fun b e z=>by rw [z,hP] at e;cases e
 have obj:∀ b o,H b=some o→∃ u,s.heap.get? b=some u:=fun b o e=>wH (I.hok b o e)
 have same:∀ b o,H b=some o→b≠P→(upd (upd (upd H P (.tbl (ps++more))) c (cG c t.qual)) h'.objs.size (dA h'.objs.size t cs c)) b=some o:=fun b o e hb=>by
   rw [ap (az e hfn),ap (az e hcn),ap hb];exact e
 refine I.un ⟨fun b o e n hb hx'=>keepP b o (neP b n) e,fun b o e n hb hx'=>⟨o.slots,keepP b o (neP b n) e⟩,fun b o e n hx'=>?_,fun b o e hx'=>?_,fun b xs e=>same b _ e (cf e hP (fun z=>nomatch z)),fun b o u e=>same b _ e (cf e hP (fun z=>nomatch z)),fun b qs e=>?_⟩ fun b o e=>?_
 · rw [ap (old b o e).2,ap (old b o e).1,ap (neP b n)];exact n
 · by_cases hb:b=P
   · subst hb;exact ⟨_,Heap.get?_push_of_some _ htb⟩
   · exact ⟨o,keepP b o hb e⟩
 · by_cases hb:b=P
   · subst hb
     rw [hP] at e;cases e
     exact ⟨more,by rw [ap nfP.symm,ap ncP.symm,aj]⟩
   · exact ⟨#[],by rw [same b _ e hb];simp⟩
 · by_cases hf:b=h'.objs.size
   · subst hf
     rw [aj] at e;cases e
     refine ⟨⟨_,fd,_,Heap.get?_push_size _ rfl,hfd⟩,⟨_,Heap.get?_push_size _ rfl⟩,?_⟩
     rintro h1 h2 ⟨od,fd',sl,e1,e2⟩ k
     exact ⟨od,fd',sl,k _ e1,e2⟩
   · rw [ap hf] at e
     by_cases hc:b=c
     · subst hc
       rw [aj] at e;cases e
       obtain ⟨c2,oc,vs,tq,e0,e1,e2,e3⟩:=hrec
       cases e0
       refine ⟨⟨oc,vs,tq,Heap.get?_push_of_some _ e1,e2,e3⟩,⟨_,Heap.get?_push_of_some _ e1⟩,?_⟩
       rintro h1 h2 ⟨o,vs,tk,a1,a2,a3⟩ k
       exact ⟨o,vs,tk,k _ a1,a2,a3⟩
     · rw [ap hc] at e
       by_cases hp:b=P
       · subst hp
         rw [aj] at e;cases e
         exact Heap.get?_push_of_some _ htb
       · rw [ap hp] at e
         refine (I.hok b o e).stay (fun a u ha q=>keepP a u ?_ q) (fun a q=>same a _ q (cf q hP (fun z=>nomatch z))) fun a xs q=>same a _ q (cf q hP (fun z=>nomatch z))
         rcases ha with rfl | ha
         · exact hp
         · exact cf ha hP (fun z=>nomatch z)
theorem pH (I:Inv X pins σ H s) (hk:∀ b o,s.heap.get? b=some o→h'.get? b=some o) (hsz:s.heap.objs.size≤h'.objs.size) (hfd:lm t cs c fd):
  Inv X pins σ (upd H h'.objs.size (dA h'.objs.size t cs c)) { s with heap:=h'.push { cls:=.type "function",data:=.func fd },toks:=tk }:=by
 refine I.laid (a:=h'.objs.size) (o:=dA h'.objs.size t cs c) (fun b u e=>Heap.get?_push_of_some _ (hk b u e)) hsz ⟨⟨_,fd,_,Heap.get?_push_size _ rfl,hfd⟩,⟨_,Heap.get?_push_size _ rfl⟩,?_⟩
 rintro h1 h2 ⟨od,fd',sl,e1,e2⟩ k
 exact ⟨od,fd',sl,k _ e1,e2⟩
end
def kC (P : Addr) (pos : Pos) (t : cM) (cs : List Addr) : TE := fun _ H Q => ∃ ps, H P = some (.tbl ps) ∧ TriplesOk ps.toList ∧
  ((codeAmong pos ps.toList = none ∧ ∀ c f, H c = none → H f = none → c ≠ f → Q (.ref f) (upd (upd (upd H P (.tbl (ps ++ #[rawInt pos.line, rawInt pos.col, .ref c]))) c (cG c t.qual)) f (dA f t cs c))) ∨
   ∃ c, codeAmong pos ps.toList = some (.ref c) ∧ ∀ f, H f = none → Q (.ref f) (upd H f (dA f t cs c)))
section
variable {X:Cx} {c0 P:Addr} {params:Arguments} {scope:Scope} {pos:Pos} {t:cM} {cs:List Addr}
theorem qQ {pins:List (Addr×Obj)} {σ:St} {H:Hp} {s:Shared} {ps:Array Value} (I:Inv X pins σ H s) (hP:H P=some (.tbl ps)) (B:BM X.mg X.base):
   s.heap.get? P=some (W.tabObj ps)∧s.heap.Ns mainGlobals X.mg∧mainGlobals≠P∧s.heap.BuiltinsAt X.mg P:=by
 have hPo:s.heap.get? P=some (W.tabObj ps):=I.hok P _ hP
 have hg:s.heap.Ns mainGlobals X.mg:=I.mod.glob.keeps I.bk
 have hgP:mainGlobals≠P:=fun q=>by
   obtain ⟨o,es,ep,e,hd,_⟩:=hg
   rw [q,hPo] at e;cases e;cases hd
 obtain ⟨bm,ob,b1,b2,b3,b4,b5,b6⟩:=B
 have b3':=I.bk _ _ b3
 refine ⟨hPo,hg,hgP,bm,ob,b1,b2,fun q=>?_,fun q=>?_,b3',b4,b5,b6⟩
 · obtain ⟨o,es,ep,e,hd,_⟩:=hg
   rw [q,e] at b3';cases b3';rw [hd] at b6;cases b6
 · rw [q,hPo] at b3';cases b3';cases b4
theorem yG {body:Expr} (B:BM X.mg X.base) (C:W.CodeHd X.base c0 P) (hcode:X.env.code=.ref c0) (hcl:closureFor scope X.env=pure (t.ys.zip cs)) (nd:cs.Nodup) (hl:cs.length=t.ys.length)
   (hq:X.env.qual++ "<lambda>" =t.qual) (hb:t.body=.expr body) (hs:t.scope=scope)
   (hbind:∀ (cl:List (Str×Addr)) (pm cdv ct:Value) (us:List Value),us.length=t.ps.length→bindArgs (W.kla_fn "<lambda>" t.qual params body scope cl pm cdv ct) ⟨us,[]⟩=pure (t.ps.zip us))
   (hdef:defaultsOf params X.env=([],[]):=by rfl):QE X (.Lambda params body scope pos) (kC P pos t cs):=⟨fun pins s σ H Q I h=>by
 obtain ⟨ps,hP,ht,h⟩:=h
 obtain ⟨hPo,hg,hgP,hB⟩:=qQ I hP B
 have hfd:∀ (pm ct:Value) (c:Addr),lm t cs c (W.kla_fn "<lambda>" t.qual params body scope (t.ys.zip cs) pm (.ref c) ct):=fun pm ct c=>⟨rfl,hb.symm,hs.symm,rfl,rfl,rfl,rfl,hbind _ _ _ _,nd,hl⟩
 refine W.kla_eval hdef ?_
 rw [hq]
 rcases h with ⟨hn,q⟩ | ⟨c,hf,q⟩
 · refine W.kla_makeFunction hcl I.ok.glob hg hcode (C.keeps I.bk) hPo ht hn hgP hB fun c ctv h' tk hx hge hlt hrec htb=>?_
   exact ⟨.ref h'.objs.size,_,pK I hP hx hge hlt hrec htb (hfd _ _ _),rfl,q c h'.objs.size (I.hok.fresh hge) (I.hok.fresh (Nat.le_of_lt (Nat.lt_of_le_of_lt hge hlt))) (Nat.ne_of_lt hlt)⟩
 · refine W.kla_makeFunctionHit hcl I.ok.glob hg hcode (C.keeps I.bk) hPo ht hf hB fun ctv h' tk hk hsz=>?_
   exact ⟨.ref h'.objs.size,_,pH I hk hsz (hfd _ _ _),rfl,q h'.objs.size (I.hok.fresh hsz)⟩⟩
theorem sT (i:Nat) {name:Str} {body:List Stmt} (hN:X.N.Nodup) (B:BM X.mg X.base) (C:W.CodeHd X.base c0 P) (hcode:X.env.code=.ref c0) (hcl:closureFor scope X.env=pure (t.ys.zip cs)) (nd:cs.Nodup) (hl:cs.length=t.ys.length)
   (hq:qualnameIn X.env name name=t.qual) (hb:t.body=.stmts body) (hs:t.scope=scope)
   (hbind:∀ (cl:List (Str×Addr)) (doc pm cdv ct:Value) (us:List Value),us.length=t.ps.length→bindArgs (W.fnX name t.qual params body scope cl .none .none doc pm none cdv ct) ⟨us,[]⟩=pure (t.ps.zip us))
   (hi:X.N[i]?=some name:=by rfl) (hx:Loc X.env.scope name:=by first | exact .inl rfl | exact .inr rfl) (hf:X.fn name=true∨X.env.scope.names.lookup name=some .local:=by first | exact .inl rfl | exact .inr rfl)
   (hd0:params.defaults=[]:=by rfl) (hk0:params.kw_defaults=[]:=by rfl) (ha:annTrees params none X.env=[]:=by rfl):
   QS X (.FunctionDef name params body [] none [] scope none name pos) (aM (kC P pos t cs) (aA i)):=⟨fun pins s σ H D I h=>by
 obtain ⟨ps,hP,ht,h⟩:=h
 obtain ⟨hPo,hg,hgP,hB⟩:=qQ I hP B
 have hfd:∀ (doc pm ct:Value) (c:Addr),lm t cs c (W.fnX name t.qual params body scope (t.ys.zip cs) .none .none doc pm none (.ref c) ct):=fun doc pm ct c=>⟨rfl,hb.symm,hs.symm,rfl,rfl,rfl,rfl,hbind _ _ _ _ _,nd,hl⟩
 refine W.nestDef_K hd0 hk0 ha ?_
 rw [hq]
 rcases h with ⟨hn,q⟩ | ⟨c,hff,q⟩
 · refine W.makeFunction_K hcl I.ok.glob hg hcode (C.keeps I.bk) hPo ht hn hgP hB fun c ctv doc h' tk hx' hge hlt hrec htb=>?_
   have I2:=pK (tk:=tk) (cs:=cs) I hP hx' hge hlt hrec htb (hfd doc ((X.mg "__name__").getD .none) ctv c)
   exact gH I2 hN hi hx (v:=.ref h'.objs.size) rfl (fun s' I3=>⟨_,_,I3,q c h'.objs.size (I.hok.fresh hge) (I.hok.fresh (Nat.le_of_lt (Nat.lt_of_le_of_lt hge hlt))) (Nat.ne_of_lt hlt)⟩) hf
 · refine W.makeFunction_hit hcl I.ok.glob hg hcode (C.keeps I.bk) hPo ht hff hB fun ctv doc h' tk hk hsz=>?_
   have I2:=pH (tk:=tk) (cs:=cs) I hk hsz (hfd doc ((X.mg "__name__").getD .none) ctv c)
   exact gH I2 hN hi hx (v:=.ref h'.objs.size) rfl (fun s' I3=>⟨_,_,I3,q h'.objs.size (I.hok.fresh hsz)⟩) hf⟩
end
section
variable {X:Cx} {k:Nat} {E:St→XK} {x:Str} {p pos:Pos} {e:Expr} {es:List Expr} {ta:TE}
abbrev lO:=List (cM×Sp)
def rP (ks:lO) (f:Addr) (vs:List V) (H:Hp) (Q:VK) (E:XK):Prop:=∃ ts∈ks,∃ cs cvs,dD H f ts.1 cs cvs∧vs.length=ts.1.ps.length∧ts.2 (vs++cvs) (cF cs H) (fun v H'=>Q v (cu cs H H')) (fun c a H'=>E c a (cu cs H H'))
def kU (ks:lO) (E:St→XK) (ta:TE) (t:TA):TE:=fun σ H Q=>ta σ H fun x H1=>∃ f,x=.ref f∧(∃ ts∈ks,∃ cs cvs,dD H1 f ts.1 cs cvs)∧t σ H1 fun vs H2=>rP ks f vs H2 Q (E σ)
theorem uE {P:Program} {w:World} {H:Hp} {h:Heap} {f:Addr} {t:cM} {cs:List Addr} {cvs:List V} (ok:HOk P w H h) (c:dD H f t cs cvs):W.FnAt f h:=by
 obtain ⟨c',hf,_⟩:=c.ex
 obtain ⟨⟨od,fd,sl,ho,_⟩,_,_⟩:=(show bh P w H h f (dA f t cs c') from ok f _ hf)
 exact ⟨_,_,_,_,ho⟩
def rh (P:Program) (w:World) (K:W.Frag) (mg:Str→Option Value) (base:Heap) (k:Nat) (ks:lO):Prop:=∀ ts∈ks,fh P w K mg base k ts.1 ts.2
theorem lj {ks : lO} {t : TA} (hk : rh X.prog X.w X.K X.mg X.base k ks) (hr : bg k X.A) (hx : eE (CX1 X.prog X.w) X E) (hg : QE X (.Name x p) ta) (ha : QA X (e :: es) t) (hs : bn (e :: es) = true := by rfl) :
    QE X (.Call (.Name x p) (e :: es) [] pos) (kU ks E ta t) := ⟨fun pins s σ H Q I h => by
  have h' : (bZ e && bn es) = true := hs
  refine wpAny_Call_Name_kw (thn (hg.out pins s σ H _ I h) fun u s1 ⟨y, H1, I1, ry, f, ey, ⟨ts, hts, cs, cvs, ca⟩, q⟩ => ?_)
  subst ey
  obtain rfl : u = Value.ref f := ry
  refine W.callWith_F (uE I1.hok ca) (thn (ha.out pos pins s1 σ H1 _ I1 q) fun us s2 ⟨vs, H2, I2, rv, ts2, hm2, cs2, cvs2, ca2, hl, hsp⟩ => ⟨uE I2.hok ca2, ?_⟩)
    (bo (Bool.and_eq_true_iff.mp h').1 es X.env) (bU (Bool.and_eq_true_iff.mp h').2)
  refine wpAny_call (codeAny_mono ((hk ts2 hm2).run X.A X.stack s2 H2 f cs2 us vs cvs2 Q (E σ) hr I2.env0 ca2 rv hl hsp) fun r s' hq => ?_)
  cases r with
  | error e => exact hx pins σ H2 s2 e s' I2 hq
  | ok fl =>
    cases fl with
    | ret u => exact I2.after hq
    | next => exact False.elim hq
    | brk => exact False.elim hq
    | cont => exact False.elim hq⟩
end
structure lc where
 nx:St→Hp→Prop
 rt:St→VK
abbrev TSM:=lc→St→Hp→Prop
def SPM (X:Cx) (pins:List (Addr×Obj)) (D:lc) (f:Flow) (s':Shared):Prop:=
 match f with
 | .next=>∃ σ' H',Inv X pins σ' H' s'∧D.nx σ' H'
 | .ret u=>∃ v σ' H',Inv X pins σ' H' s'∧aR v u∧D.rt σ' v H'
 | _=>False
structure QM (X:Cx) (st:Stmt) (t:TSM):Prop where
 out:∀ (pins:List (Addr×Obj)) (s:Shared) (σ:St) (H:Hp) (D:lc),Inv X pins σ H s→t D σ H→wpAny (model X.prog X.w) X.A (exec st X.env) (SPM X pins D) X.xe s
structure QMs (X:Cx) (st:List Stmt) (t:TSM):Prop where
 out:∀ (pins:List (Addr×Obj)) (s:Shared) (σ:St) (H:Hp) (D:lc),Inv X pins σ H s→t D σ H→wpAny (model X.prog X.w) X.A (execs st X.env) (SPM X pins D) X.xe s
def kJ (t u:TSM):TSM:=fun D σ H=>t { D with nx:=fun σ' H'=>u D σ' H' } σ H
def iK (t:TS):TSM:=fun D σ H=>t { nx:=D.nx,rt:=fun _ _=>False } σ H
def mF (te:TE):TSM:=fun D σ H=>te σ H (D.rt σ)
section
variable {X:Cx} {st:Stmt} {sts l m:List Stmt} {t u:TSM} {tS:TS} {e c:Expr} {te:TE} {tc:TT} {pos:Pos}
theorem hV (h:QS X st tS):QM X st (iK tS):=⟨fun pins s σ H D I hq=>thn (h.out pins s σ H _ I hq) fun f s1 q=>by
 cases f with
 | next=>exact q
 | ret v=>obtain ⟨_,_,_,_,_,z⟩:=q;exact z.elim
 | brk=>obtain ⟨_,_,_,z⟩:=q;exact z.elim
 | cont=>obtain ⟨_,_,_,z⟩:=q;exact z.elim⟩
theorem lg (h:QE X e te):QM X (.Return (some e) pos) (mF te):=⟨fun pins s σ H D I hq=>
 wpAny_Return_some (thn (h.out pins s σ H _ I hq) fun v s1 ⟨x,H1,I1,r1,q1⟩=>⟨x,σ,H1,I1,r1,q1⟩)⟩
theorem ii (h1 : QM X st t) (h2 : QMs X sts u) : QMs X (st :: sts) (kJ t u) := ⟨fun pins s σ H D I h => by
  refine wpAny_execs_cons (thn (h1.out pins s σ H _ I h) fun f s1 q => ?_)
  cases f with
  | next =>
    obtain ⟨σ', H', I', q⟩ := q
    exact h2.out pins s1 σ' H' D I' q
  | ret v => exact q
  | brk => exact q
  | cont => exact q⟩
theorem lC (h1:QM X st t):QMs X [st] t:=⟨fun pins s σ H D I h=>by
 refine wpAny_execs_cons (thn (h1.out pins s σ H D I h) fun f s1 q=>?_)
 cases f with
 | next=>exact wpAny_execs_nil q
 | ret v=>exact q
 | brk=>exact q
 | cont=>exact q⟩
end
def cv : List (Nat × Addr) → St → Hp → Hp
  | [], _, H => H
  | (i, c) :: r, σ, H => match σ[i]? with
    | some (some v) => cv r σ (upd H c (cq c v))
    | _ => cv r σ H
theorem kf {P : Program} {w : World} {fs : List Addr} {H : Hp} {h h' : Heap} {σ : St} : ∀ (cs : List (Nat × Addr)) (H' : Hp), (cs.map (·.2)).Nodup → (∀ p ∈ cs, H' p.2 = none ∧ h.objs.size ≤ p.2 ∧ ∀ v, σ[p.1]? = some (some v) → ∃ u o, aR v u ∧ h'.get? p.2 = some o ∧ o.data = .cell (some u)) →
    Un fs [] H H' h h' → HOk P w H' h' → Un fs [] H (cv cs σ H') h h' ∧ HOk P w (cv cs σ H') h'
  | [], H', _, _, u, ok => ⟨u, ok⟩
  | (i, c) :: r, H', nd, hc, u, ok => by
    unfold cv
    have ndr := (List.nodup_cons.mp nd).2
    have hcr : ∀ p ∈ r, H' p.2 = none ∧ h.objs.size ≤ p.2 ∧ ∀ v, σ[p.1]? = some (some v) → ∃ u o, aR v u ∧ h'.get? p.2 = some o ∧ o.data = .cell (some u) := fun p hp => hc p (List.mem_cons_of_mem _ hp)
    split
    · rename_i v hv
      obtain ⟨hn, hge, hcell⟩ := hc (i, c) List.mem_cons_self
      have hn : H' c = none := hn
      have hge : h.objs.size ≤ c := hge
      obtain ⟨uv, o, ru, eo, hd⟩ := hcell v hv
      have eo : h'.get? c = some o := eo
      refine kf r (upd H' c (cq c v)) ndr (fun p hp => ⟨?_, (hcr p hp).2⟩) ⟨u.keep, u.slot, fun b ob e n hx => ?_, u.there, fun b xs e => ?_, fun b ob z e => ?_, fun b ps e => ?_⟩ fun b ob e => ?_
      · have : p.2 ≠ c := fun z => (List.nodup_cons.mp nd).1 (by rw [← z]; exact List.mem_map.mpr ⟨p, hp, rfl⟩)
        rw [ap this]; exact (hcr p hp).1
      · rw [ap (Nat.ne_of_lt (Nat.lt_of_lt_of_le (Heap.lt_size e) hge))]; exact u.free b ob e n hx
      · have z := u.tups b xs e; rw [ap (az z hn)]; exact z
      · have z := u.frzs b ob _ e; rw [ap (az z hn)]; exact z
      · obtain ⟨more, z⟩ := u.tbls b ps e; exact ⟨more, by rw [ap (az z hn)]; exact z⟩
      · by_cases hb : b = c
        · subst hb
          rw [aj] at e; cases e
          refine ⟨⟨uv, o, ru, eo, hd⟩, ⟨o, eo⟩, ?_⟩
          rintro h1 h2 ⟨u', o', r', e', d'⟩ k
          exact ⟨u', o', r', k _ e', d'⟩
        · rw [ap hb] at e
          exact (ok b ob e).stay (fun a q _ z => z) (fun a q => by rw [ap (az q hn)]; exact q) fun a xs q => by rw [ap (az q hn)]; exact q
    · exact kf r H' ndr hcr u ok
theorem Fun.okM {P : Program} {w : World} {K : W.Frag} {mg : Str → Option Value} {base : Heap} {x qual : Str} {st : Stmt} {f c0 : Addr} {fd : FuncData} {N ps : List Str} {k : Nat} {sp : Sp} {caps : Nat → List (Nat × Addr)} (F : Fun K x qual st f fd) (hcd : fd.code = .ref c0) (S : ar N ps (ag st)) (len : ∀ vs H Q E, sp vs H Q E → vs.length = ps.length)
    (hcaps : ∀ (L : Nat) (p : Nat × Addr), p ∈ caps L → ∃ y, N[p.1]? = some y ∧ (ag st).names.lookup y = some .cell ∧ (cellsFrom (L + 1) (ag st).names []).lookup y = some p.2) (hnd : ∀ L, ((caps L).map (·.2)).Nodup)
    (hbody : ∀ (A : Around) (outer : List Env) (s : Shared) (H : Hp) (vs : List V) (Q : VK) (E : XK), bg k (A.deeper (envOfC qual (ag st) s.heap.objs.size f (.ref c0))) → sp vs H Q E →
      ∃ t, QMs (eU (CX1 P w) P w K mg base N qual (ag st) f (.ref c0) A outer s H E) (aS st) t ∧ t { nx := fun σ H' => (∀ p ∈ caps s.heap.objs.size, H' p.2 = none) → Q .non (cv (caps s.heap.objs.size) σ H'), rt := fun σ v H' => (∀ p ∈ caps s.heap.objs.size, H' p.2 = none) → Q v (cv (caps s.heap.objs.size) σ H') } (cp N vs) H) : aF P w K mg base (CX1 P w) (k + 1) f fd ps sp := by
  obtain ⟨oc, od, kV, doc, pm, an, cdv, ct, osl, rfl, lk, hcd'⟩ := F.ex
  obtain rfl : cdv = .ref c0 := hcd
  refine ⟨len, fun A outer s H args us vs Q E hr e0 hb r hsp => ?_⟩
  have hl := len _ _ _ _ hsp
  have KX : K.In s.heap := e0.mod.kin.keeps fun b o e => (e0.bs b o e).1
  have lim : s.heap.NoLimit := e0.mod.nolimit.keeps fun b o e => (e0.bs b o e).1
  have hkind : ∀ y ∈ ps.zip us, (ag st).names.lookup y.1 = some .local ∨ ((ag st).names.lookup y.1 = some .cell ∧ ((cellsFrom (s.heap.objs.size + 1) (ag st).names []).lookup y.1).isSome = true) := fun ⟨n, v⟩ hy => by
    rcases S.par n (List.of_mem_zip hy).1 with q | q
    · exact .inl q
    · exact .inr ⟨q, W.cellsFrom_some _ _ _ (.inl q)⟩
  refine codeAny_call_function hr.depth (KX _ _ lk) rfl S.co S.gen rfl (W.codeRec_of KX hcd') (hb _ _ _ _ ?_)
  refine wpAny_newFunctionEnv_cells S.kind hkind fun env he s1 x => ?_
  subst he
  refine ⟨lim.keeps x.toInCall.keep, codeAny_func ?_⟩
  obtain ⟨t, ht, hq⟩ := hbody A outer s H vs Q E (hr.deeper _) hsp
  have I : Inv (eU (CX1 P w) P w K mg base N qual (ag st) f (.ref c0) A outer s H E) [] (cp N vs) H s1 := ni S hr.hd e0 hl r x
  refine wpAny_mono (ht.out [] s1 (cp N vs) H _ I hq) (fun fl s' hs => ?_) fun e s' hs => hs
  have fin : ∀ {σ' : St} {H' : Hp} {v : V} {u : Value}, Inv (eU (CX1 P w) P w K mg base N qual (ag st) f (.ref c0) A outer s H E) [] σ' H' s' → aR v u → ((∀ p ∈ caps s.heap.objs.size, H' p.2 = none) → Q v (cv (caps s.heap.objs.size) σ' H')) → CE outer P w H s Q u s' :=
    fun {σ' H' v u} J rv q => by
      have free : ∀ p ∈ caps s.heap.objs.size, H' p.2 = none := fun p hp => by
        obtain ⟨y, _, _, hc⟩ := hcaps _ p hp
        exact J.freeC y p.2 hc
      have hcond : ∀ p ∈ caps s.heap.objs.size, H' p.2 = none ∧ s.heap.objs.size ≤ p.2 ∧ ∀ v, σ'[p.1]? = some (some v) → ∃ u o, aR v u ∧ s'.heap.get? p.2 = some o ∧ o.data = .cell (some u) := fun p hp => by
        obtain ⟨y, hy, hk, hc⟩ := hcaps _ p hp
        refine ⟨free p hp, J.ok.cab y p.2 rfl hc, fun v hv => ?_⟩
        obtain ⟨m, _, hloc⟩ := J.loc
        obtain ⟨u', r', lk'⟩ := hloc p.1 y v hy hv (.inr (.inl hk))
        rcases lk' with ⟨z, _⟩ | ⟨_, c, ec, o, eo, hd⟩
        · have z : (ag st).names.lookup y = some .local := z
          rw [hk] at z; cases z
        · have ec : (cellsFrom (s.heap.objs.size + 1) (ag st).names []).lookup y = some c := ec
          rw [hc] at ec; cases ec
          exact ⟨u', o, r', eo, hd⟩
      obtain ⟨un, ok⟩ := kf (P := P) (w := w) (σ := σ') (caps s.heap.objs.size) H' (hnd _) hcond J.base J.hok
      exact ⟨v, _, J.os, J.bare, un, ok, rv, q free⟩
  cases fl with
  | ret u =>
    obtain ⟨v, σ', H', J, rv, q⟩ := hs
    exact fin J rv q
  | next =>
    obtain ⟨σ', H', J, q⟩ := hs
    exact fin (v := V.non) (u := Value.none) J rfl q
  | brk => exact False.elim hs
  | cont => exact False.elim hs
theorem uk {P : Program} {w : World} {K : W.Frag} {mg mb : Str → Option Value} {CX : CXT} {k : Nat} {fa a : Addr} {fd : FuncData} {x : Str} {sp : Sp} {s₁ : Shared} {vs : List Value} {ns : List Int} {tabs : List (Addr × Addr)}
    (KX : K.In s₁.heap) (hns : s₁.heap.Ns mainGlobals mg) (hb : s₁.heap.Ns builtinsNs mb) (hbb : ∀ x : Str, x ≠ "__name__" → mb x = bootBuiltins x) (hlim : s₁.heap.NoLimit) (hg : s₁.gens = #[]) (hB : BM mg s₁.heap)
    (hT : ∀ q ∈ tabs, W.CodeHd s₁.heap q.1 q.2 ∧ s₁.heap.get? q.2 = some (W.tabObj #[])) (hKT : W.noTabs K = true)
    (ha : s₁.heap.get? a = some { cls := .type "list", data := .seq vs.toArray }) (hi : IntsAre vs ns) (hl : ns.length ≤ sizeLine) (hr : bg k callerA)
    (F : ∀ base : Heap, K.In base → base.Ns mainGlobals mg → BM mg base → (∀ q ∈ tabs, W.CodeHd base q.1 q.2) → aF P w K mg base CX k fa fd [x] sp) (hbind : ∀ (s : Shared) (u : Value), BindsTo s fd ⟨[u], []⟩ [(x, u)])
    (hsp : ∀ H : Hp, (∀ q ∈ tabs, H q.2 = some (.tbl #[])) → SqL K H a (ns.map V.int) → sp [.ref a] H (fun v _ => v = .bl true) fun _ _ _ => False)
    (hCX : ∀ H e s', CX [] H s₁ (fun _ _ _ => False) e s' → False) :
    codeAny (model P w) callerA (.call (.ref fa) ⟨[.ref a], []⟩) (fun r s' => r = .ok (.ret (.bool true)) ∧ OldK s₁.heap s'.heap ∧ s'.os = s₁.os ∧ AllBare s'.gens) s₁ := by
  have rv := jw hi
  have lenV := hi.length
  have tabK : ∀ q ∈ tabs, K.lookup q.2 = none := fun q hq => by
    cases e : K.lookup q.2 with
    | none => rfl
    | some o =>
      have e2 := KX _ _ e
      rw [(hT q hq).2] at e2; cases e2
      have := List.all_eq_true.mp hKT _ (W.mem_of_lookupK e)
      exact absurd (show false = true from this) Bool.false_ne_true
  have tabA : ∀ q ∈ tabs, q.2 ≠ a := fun q hq e => by
    have e2 := (hT q hq).2
    rw [e, ha] at e2; cases e2
  have core : ∀ H : Hp, (∀ q ∈ tabs, H q.2 = some (.tbl #[])) → SqL K H a (ns.map V.int) → HOk P w H s₁.heap → (∀ b, H b ≠ none → (b = a ∧ ∃ o xs, H b = some (.frz o (.lst xs))) ∨ ∃ q ∈ tabs, q.2 = b) → (∀ b, H b ≠ none → K.lookup b = none) →
      codeAny (model P w) callerA (.call (.ref fa) ⟨[.ref a], []⟩) (fun r s' => r = .ok (.ret (.bool true)) ∧ OldK s₁.heap s'.heap ∧ s'.os = s₁.os ∧ AllBare s'.gens) s₁ := by
    intro H hO hS hok hA hK
    have base_of : ∀ {b : Addr} {o : Obj}, s₁.heap.get? b = some o → H b = none → (gF s₁.heap H).get? b = some o := fun e n => wa e n
    have noA : ∀ {b : Addr} {o : Obj}, s₁.heap.get? b = some o → o.cls ≠ .none → o.cls ≠ .type "list" → H b = none := fun {b o} e c1 c2 => by
      cases q : H b with
      | none => rfl
      | some u =>
        rcases hA b (by rw [q]; simp) with ⟨rfl, _⟩ | ⟨p, hp, rfl⟩
        · rw [ha] at e; cases e; exact absurd rfl c2
        · rw [(hT p hp).2] at e; cases e; exact absurd rfl c1
    have noD : ∀ {b : Addr} {o : Obj} {es : Array DictEntry} {ep : Nat}, s₁.heap.get? b = some o → o.data = .dict es ep → H b = none := fun {b o es ep} e d => by
      cases q : H b with
      | none => rfl
      | some u =>
        rcases hA b (by rw [q]; simp) with ⟨rfl, _⟩ | ⟨p, hp, rfl⟩
        · rw [ha] at e; cases e; cases d
        · rw [(hT p hp).2] at e; cases e; cases d
    have nsK : ∀ {b : Addr} {m : Str → Option Value}, s₁.heap.Ns b m → (gF s₁.heap H).Ns b m := fun {b m} ⟨o, es, ep, e, d, r⟩ => ⟨o, es, ep, base_of e (noD e d), d, r⟩
    have hKb : K.In (gF s₁.heap H) := fun b o e => base_of (KX b o e) (by
      cases q : H b with
      | none => rfl
      | some u => rw [hK b (by rw [q]; simp)] at e; cases e)
    have hBb : BM mg (gF s₁.heap H) := by
      obtain ⟨bm, ob, b1, b2, b3, b4, b5, b6⟩ := hB
      exact ⟨bm, ob, b1, b2, base_of b3 (noA b3 (by rw [b4]; intro z; cases z) (by rw [b4]; intro z; exact absurd (Value.type.inj z) (by decide))), b4, b5, b6⟩
    have hCb : ∀ q ∈ tabs, W.CodeHd (gF s₁.heap H) q.1 q.2 := fun q hq => by
      obtain ⟨o, vs, file, tf, flags, tg, inF, text, tt, e1, e2, r⟩ := (hT q hq).1
      exact ⟨o, vs, file, tf, flags, tg, inF, text, tt, base_of e1 (noA e1 (by rw [e2]; intro z; cases z) (by rw [e2]; intro z; exact absurd (Value.type.inj z) (by decide))), e2, r⟩
    have hM : Mod K mg (gF s₁.heap H) := ⟨hKb, nsK hns, ⟨mb, nsK hb, hbb⟩, let ⟨mc, h1, h2⟩ := hlim; ⟨mc, nsK h1, h2⟩⟩
    have e0 : iN P w K mg (gF s₁.heap H) callerA [] s₁ H := ⟨rfl, hM, fun b o e => AI e, Nat.le_of_eq (uJ _ _), trivial, fun b hb => absurd (show b ∈ ([] : List Addr) from hb) (by simp), hok, .of_eq hg⟩
    refine codeAny_mono ((F _ hKb (nsK hns) hBb hCb).run callerA [] s₁ H ⟨[.ref a], []⟩ [.ref a] [.ref a] _ _ hr e0 (hbind s₁ (.ref a)) (.cons rfl .nil) (hsp H hO hS)) fun r s' h => ?_
    cases r with
    | error e => exact (hCX H e s' h).elim
    | ok fl =>
      cases fl with
      | next => exact False.elim h
      | brk => exact False.elim h
      | cont => exact False.elim h
      | ret u =>
        obtain ⟨v, H', os, bare, un, hok', r', q⟩ := h
        have q' : v = .bl true := q
        subst q'
        obtain rfl : u = Value.bool true := r'
        have all : ∀ b o, s₁.heap.get? b = some o → s'.heap.get? b = some o ∨ ∃ q ∈ tabs, q.2 = b ∧ ∃ more, s'.heap.get? b = some (W.tabObj more) := fun b o e => by
          cases q : H b with
          | none => exact .inl (un.keep b o e q (by intro z; exact absurd (show b ∈ ([] : List Addr) from z) (by simp)) (by simp))
          | some u =>
            rcases hA b (by rw [q]; simp) with ⟨rfl, ob, xs, z⟩ | ⟨p, hp, rfl⟩
            · have z2 := un.frzs b ob _ z
              obtain ⟨e1, _⟩ := hok b _ z
              obtain ⟨e2, _⟩ := hok' b _ z2
              rw [e] at e1; cases e1
              exact .inl e2
            · obtain ⟨more, z2⟩ := un.tbls p.2 _ (hO p hp)
              exact .inr ⟨p, hp, rfl, _, hok' p.2 _ z2⟩
        refine ⟨rfl, ⟨fun b o e => ?_, fun b o e => ?_⟩, os, bare⟩
        · rcases all b o e with z | ⟨p, hp, rfl, more, z⟩
          · exact .inl z
          · have e2 := (hT p hp).2
            rw [e] at e2; cases e2
            exact .inr (.inl ⟨((hT p hp).1.tab (hT p hp).2).isCodeTable, rfl, #[], more, rfl, by rw [Array.empty_append]; exact z⟩)
        · rcases all b o e with z | ⟨p, hp, rfl, more, z⟩
          · exact ⟨_, z⟩
          · exact ⟨_, z⟩
  cases hk : K.lookup a with
  | some o =>
    have e := KX a o hk
    rw [ha] at e
    cases e
    refine core (fun b => if b ∈ tabs.map (·.2) then some (.tbl #[]) else none) (fun q hq => if_pos (List.mem_map.mpr ⟨q, hq, rfl⟩)) (.inr ⟨_, vs.toArray, _, hk, rfl, rfl, rfl, by rw [List.size_toArray, lenV]; exact hl, by simpa using rv⟩) (fun b u z => ?_) (fun b z => ?_) fun b z => ?_
    · by_cases hb : b ∈ tabs.map (·.2)
      · have z' := (if_pos hb).symm.trans z
        cases z'
        obtain ⟨q, hq, rfl⟩ := List.mem_map.mp hb
        exact (hT q hq).2
      · have z' := (if_neg hb).symm.trans z
        cases z'
    · by_cases hb : b ∈ tabs.map (·.2)
      · obtain ⟨q, hq, e⟩ := List.mem_map.mp hb
        exact .inr ⟨q, hq, e⟩
      · exact absurd (if_neg hb) z
    · by_cases hb : b ∈ tabs.map (·.2)
      · obtain ⟨q, hq, rfl⟩ := List.mem_map.mp hb
        exact tabK q hq
      · exact absurd (if_neg hb) z
  | none =>
    refine core (fun b => if b = a then some (.frz { cls := .type "list", data := .seq vs.toArray } (.lst (ns.map V.int))) else if b ∈ tabs.map (·.2) then some (.tbl #[]) else none)
      (fun q hq => by show (if q.2 = a then _ else _) = _; rw [if_neg (tabA q hq), if_pos (List.mem_map.mpr ⟨q, hq, rfl⟩)]) (.inl (.inr ⟨{ cls := .type "list", data := .seq vs.toArray }, if_pos rfl⟩)) (fun b u z => ?_) (fun b z => ?_) fun b z => ?_
    · by_cases hb : b = a
      · have z' := (if_pos hb).symm.trans z
        cases z'
        subst hb
        exact ⟨ha, by rw [List.length_map]; exact hl, vs, _, rv, ha⟩
      · have z' : (if b ∈ tabs.map (·.2) then some (HO.tbl #[]) else none) = some u := (if_neg hb).symm.trans z
        by_cases hb2 : b ∈ tabs.map (·.2)
        · rw [if_pos hb2] at z'; cases z'
          obtain ⟨q, hq, rfl⟩ := List.mem_map.mp hb2
          exact (hT q hq).2
        · rw [if_neg hb2] at z'; cases z'
    · by_cases hb : b = a
      · exact .inl ⟨hb, _, _, if_pos hb⟩
      · by_cases hb2 : b ∈ tabs.map (·.2)
        · obtain ⟨q, hq, e⟩ := List.mem_map.mp hb2
          exact .inr ⟨q, hq, e⟩
        · exact absurd ((if_neg hb).trans (if_neg hb2)) z
    · by_cases hb : b = a
      · rw [hb]; exact hk
      · by_cases hb2 : b ∈ tabs.map (·.2)
        · obtain ⟨q, hq, rfl⟩ := List.mem_map.mp hb2
          exact tabK q hq
        · exact absurd ((if_neg hb).trans (if_neg hb2)) z
theorem yq {l : W.OpenLaw} {n k : Nat} {q : Program} {loose : List Str} {XP : (Str → Option Value) → Heap → Prop} {YP : World → Heap → Prop} {d : DefRec} {K : Params → W.Frag} {CX : World → CXT} {x : Str} {names : List Str}
  (hn : l.most = some n) (hn2 : n ≤ sizeLine) (hdf : d.params.defaults = []) (hr : bg k callerA)
  (hY : ∀ (w : World) (h : Heap), YP w h → (K w.params).In h)
  (hq : ∀ y ∈ names, ((PyProof.Rows.recsOf q).find? fun e => e.name == y).isSome = true)
  (F : ∀ (w : World) (mg : Str → Option Value) (fa : Addr) (h : Heap), (K w.params).In h → h.Ns mainGlobals mg → mg d.name = some (.ref fa) →
   ∃ (fd : FuncData) (tabs : List (Addr × Addr)) (sp : Sp), (∀ (s : Shared) (u : Value), BindsTo s fd ⟨[u], []⟩ [(x, u)]) ∧ W.noTabs (K w.params) = true ∧ (∀ t ∈ tabs, ∃ y ∈ names, W.tabIn (K w.params) y = some t) ∧
    (∀ base : Heap, (K w.params).In base → base.Ns mainGlobals mg → BM mg base → (∀ t ∈ tabs, W.CodeHd base t.1 t.2) → aF l.prog w (K w.params) mg base (CX w) k fa fd [x] sp) ∧
    ∀ (H : Hp) (a : Addr) (ns : List Int), ns.length ≤ n → (∀ t ∈ tabs, H t.2 = some (.tbl #[])) → SqL (K w.params) H a (ns.map V.int) → sp [.ref a] H (fun v _ => v = .bl true) fun _ _ _ => False)
  (hCX : ∀ (w : World) (H : Hp) (s : Shared) (e : Value) (s' : Shared), CX w [] H s (fun _ _ _ => False) e s' → False) :
  W.WalkO q loose XP YP l.row.toRowW d [] (fun f vs => PySem.call f vs) := by
 refine Att.attach_call hn hdf fun w s₀ s₁ mg mb fa o pm cd doc a vs ns G Y ho hd hcd hmg hobj hints hlen hg => ?_
 have KX := hY w _ Y
 obtain ⟨fd, tabs, sp, hb, hKT, htabs, hF, hsp⟩ := F w mg fa _ KX G.T.g hmg
 refine uk (tabs := tabs) KX G.T.g G.T.b G.T.builtins G.T.nolimit hg G.T.bmain (fun t ht => ?_) hKT hobj hints (Nat.le_trans hlen hn2) hr hF hb (fun H hO hS => hsp H a ns hlen hO hS) fun H e s' => hCX w H s₁ e s'
 obtain ⟨y, hy, e⟩ := htabs t ht
 obtain ⟨dd, hdd⟩ := Option.isSome_iff_exists.mp (hq y hy)
 exact W.tab_of G.T KX hdd e
section
variable {X:Cx}
theorem SPM.unwish {E:Value→Shared→Prop} {pins:List (Addr×Obj)} {D:lc} {f:Flow} {s':Shared} (h:SPM (X.wish E) pins D f s'):SPM X pins D f s':=by
 cases f with
 | next=>obtain ⟨σ',H',I,q⟩:=h;exact ⟨σ',H',I.unwish,q⟩
 | brk=>exact h
 | cont=>exact h
 | ret u=>obtain ⟨v,σ',H',I,r,q⟩:=h;exact ⟨v,σ',H',I.unwish,r,q⟩
theorem QMs.nox {st:List Stmt} {t:TSM} (h:QMs X.nox st t):QMs X st t:=⟨fun pins s σ H D I hw=>
 wpAny_mono (h.out pins s σ H D (I.wish _) hw) (fun _ _ q=>SPM.unwish q) fun _ _ z=>False.elim z⟩
theorem fh.mono {P:Program} {w:World} {K:W.Frag} {mg:Str→Option Value} {base:Heap} {j k:Nat} {t:cM} {sp:Sp} (F:fh P w K mg base j t sp) (h:j≤k):fh P w K mg base k t sp:=
 ⟨fun A outer s H f cs us vs cvs Q E hr=>F.run A outer s H f cs us vs cvs Q E (hr.mono h)⟩
def mh:V→List V→Hp→VK→Prop:=fun x vs H Q=>∃ a y d r H',x=.ref a∧vs=[y,d]∧Br H a y d r H'∧Q r H'
theorem mZ (hu:X.A.units+1<cLine):MtR X "dict.setdefault" mh:=by
 intro pins s σ H x xs v us Q I rx rs h
 obtain ⟨a,y,d,r,H',rfl,rfl,g,q⟩:=h
 obtain rfl:v=Value.ref a:=rx
 obtain ⟨uy,ud,rfl,ry,rd⟩:=lp rs
 rcases g with ⟨g,rfl⟩ | ⟨g,p,rfl⟩
 · rcases g with ⟨kvs,k,e,rfl,l⟩ | ⟨kvs,k,b,e,rfl,eb,l⟩
   · obtain ⟨z,hd,vs,rel,dd⟩:=iS I.hok e
     obtain ⟨w',hw,rw'⟩:=dj.some_of (v:=r) (o:=valueAt vs k) (by rw [l];exact rel.val k)
     exact call_meetsIn PySem.F.slot_dict_setdefault dd.typeIs PySem.F.entry_dict_setdefault (PySem.F.args_dict_setdefault_3 _ _ _) (kt_meets_setdefault (bN X.prog X.w) a (iT ry) hd ud)
       ⟨vs,dd,by rw [← rel.length];exact z,(fun v' hv'=>by rw [hw] at hv';cases hv';exact ⟨r,H',I.tok _,rw',q⟩),(fun hn=>by rw [hw] at hn;cases hn)⟩
   · cases (show uy=Value.ref b from ry)
     obtain ⟨z,hd,xs,rel,dd⟩:=kM I.hok e
     obtain ⟨w',hw,rw'⟩:=dj.some_of (v:=r) (o:=(atKey xs k).map (·.2)) (by rw [l];exact rel.val k)
     obtain ⟨pp,hp,hp2⟩:=Option.map_eq_some_iff.mp hw
     refine wpAny_call_entry PySem.F.slot_dict_setdefault dd.typeIs PySem.F.entry_dict_setdefault ?_ (PySem.F.args_dict_setdefault_3 _ _ _)
     unfold Builtin.«dict.setdefault»
     refine wpAny_bind ?_
     unfold Builtin.Dict.keyAndDefault
     refine wpAny_bind (wpAny_notOrdered_dict dd.typeIs ?_)
     show wpAny _ _ (pure (a,Value.ref b,some ud)) _ _ s
     refine wpAny_pure ?_
     show wpAny _ _ (if (a==sysModules)=true then _ else (dictSetDefault a (.ref b) ud>>=_)) _ _ s
     rw [if_neg (by rw [hd];exact Bool.false_ne_true)]
     refine wpAny_bind (fq (tupleKind_room_in1 hu) (gZ I.hok eb) dd (fun p' hp'=>?_) (fun hn=>?_) (by rw [← Paired.length rel];exact z))
     · rw [hp] at hp';cases hp'
       exact wpAny_pure ⟨_,rfl,⟨r,H',I.tok _,by rw [hp2];exact rw',q⟩⟩
     · rw [hp] at hn;cases hn
 · rcases g with ⟨kvs,k,e,rfl,l⟩ | ⟨kvs,k,b,e,rfl,eb,l⟩
   · rcases p with ⟨kvs',k',e',ey,lz,rfl⟩ | ⟨kvs',k',b',e',ey,_⟩
     · have ek:k=k':=by cases k <;> cases k' <;> first | (cases ey;rfl) | cases ey
       subst ek
       obtain ⟨z,hd,vs,rel,dd⟩:=jR I.hok e'
       have ee:kvs=kvs':=by
         rcases e with e | ⟨o,e⟩
         · rw [e'] at e;cases e;rfl
         · rw [e'] at e;cases e
       subst ee
       have hn:valueAt vs k=none:=dj.none_of (by rw [l];exact rel.val k)
       refine call_meetsIn PySem.F.slot_dict_setdefault dd.typeIs PySem.F.entry_dict_setdefault (PySem.F.args_dict_setdefault_3 _ _ _) (kt_meets_setdefault (bN X.prog X.w) a (iT ry) hd ud)
         ⟨vs,dd,by rw [← rel.length];exact z,(fun v' hv'=>by rw [hn] at hv';cases hv'),fun _ h' dd' hs=>?_⟩
       have he:∃ q,h'.get? a=some q:=let ⟨q,_,_,hq,_⟩:=dd';⟨q,hq⟩
       have hl:(cC kvs k r).length≤sizeLine:=by have:=fI kvs k r;omega
       exact ⟨r,_,gY I (by rw [e'];exact True.intro) hs he (lT hl hd (rel.put k rd) dd'),rd,q⟩
     · cases k <;> cases ey
   · rcases p with ⟨kvs',k',e',ey,_⟩ | ⟨kvs',k',b',e',ey,eb',lz,rfl⟩
     · cases k' <;> cases ey
     · cases ey
       have ek:k=k':=qW (HO.tup.inj (Option.some.inj (eb.symm.trans eb')))
       subst ek
       cases (show uy=Value.ref b from ry)
       obtain ⟨z,hd,xs,rel,dd⟩:=rM I.hok e'
       have ee:kvs=kvs':=by
         rcases e with e | ⟨o,e⟩
         · rw [e'] at e;cases e;rfl
         · rw [e'] at e;cases e
       subst ee
       have hn:atKey xs k=none:=by
         have:=dj.none_of (o:=(atKey xs k).map (·.2)) (by rw [l];exact rel.val k)
         exact Option.map_eq_none_iff.mp this
       refine wpAny_call_entry PySem.F.slot_dict_setdefault dd.typeIs PySem.F.entry_dict_setdefault ?_ (PySem.F.args_dict_setdefault_3 _ _ _)
       unfold Builtin.«dict.setdefault»
       refine wpAny_bind ?_
       unfold Builtin.Dict.keyAndDefault
       refine wpAny_bind (wpAny_notOrdered_dict dd.typeIs ?_)
       show wpAny _ _ (pure (a,Value.ref b,some ud)) _ _ s
       refine wpAny_pure ?_
       show wpAny _ _ (if (a==sysModules)=true then _ else (dictSetDefault a (.ref b) ud>>=_)) _ _ s
       rw [if_neg (by rw [hd];exact Bool.false_ne_true)]
       refine wpAny_bind (fq (tupleKind_room_in1 hu) (gZ I.hok eb) dd (fun p' hp'=>?_) (fun _ h' dd' hs=>?_) (by rw [← Paired.length rel];exact z))
       · rw [hn] at hp';cases hp'
       · obtain ⟨q',es,ep,hq,h2,h3,h4,_,h5⟩:=dd'
         have hl:(cC kvs k r).length≤sizeLine:=by have:=fI kvs k r;omega
         refine wpAny_pure ⟨_,rfl,⟨r,_,gY (ob:=.dT (cC kvs k r)) I (by rw [e'];exact True.intro) hs ⟨q',hq⟩ ⟨hl,hd,_,(rel.put k eb rd).keeps fun c ys ec=>?_,q',es,ep,hq,h2,h3,h4,h5⟩,rd,q⟩⟩
         rw [ap (cf ec e' (fun z=>nomatch z))]
         exact ec
def Its (z:Str):It:=⟨fun i _=>i<z.length,fun i H x H'=>H'=H∧∃ c,z.cps[i]?=some c∧x=.str ⟨#[c]⟩,fun i _=>z.length≤i⟩
theorem xL {P:Program} {w:World} {K:W.Frag} {tg:Expr} (z:Str) (t:Tok) (it:Addr):kF P w K tg (Its z) [it] it (fun i h=>h.IsStrIter it "str_ascii_iterator" z t i) where
 mem:=by simp
 obj:=fun i h st b hb=>by
  have e:b=it:=by simpa using hb
  subst e
  obtain ⟨o,e,c,d⟩:=st
  exact ⟨o,e,fun v z=>by rw [d] at z;cases z⟩
 keep:=fun i h h' st k=>let ⟨o,ho,r⟩:=st;⟨o,k it (by simp) o ho,r⟩
 item:=by
  intro X hP hw hK hc i pins s σ H E I hf st hg
  subst hP hw hK
  obtain ⟨f0,f1,f2,f3,f4,f5⟩:=hf it (by simp)
  have hi:i<z.cps.size:=hg
  refine wpAny_pyNext_ascii_item st (c:=z.cps[i]) (Array.getElem?_eq_getElem hi) fun h' st' sb=>?_
  have I1:Inv X pins σ H { s with heap:=h',toks:=s.toks+1 }:=I.turned (t':=s.toks+1) (fun b o hb e=>(sb.2 b hb).trans e) f0 f1 f3 f4 f5
  obtain ⟨o,e,c,d⟩:=id st'
  exact ⟨_,rfl,nF (s:={ s with heap:=h',toks:=s.toks+1 }) e c d (by decide) ⟨.str ⟨#[z.cps[i]]⟩,H,I1,⟨_,rfl⟩,⟨rfl,_,Array.getElem?_eq_getElem hi,rfl⟩,st',fun b hb=>(hf b hb).1⟩⟩
 done:=by
  intro X hP hw hK hc i pins s σ H E I hf st hg
  subst hP hw hK
  obtain ⟨f0,f1,f2,f3,f4,f5⟩:=hf it (by simp)
  exact wpAny_pyNext_ascii_end (I.ok.hd hc) st (Array.getElem?_eq_none (show z.cps.size≤i from hg)) fun h' eb=>⟨rfl,I.turned (t':=s.toks) (fun b o hb e=>eb b o hb e) f0 f1 f3 f4 f5⟩
 self:=fun A i s Q E st h=>by
  refine wpAny_pyIter_slot st.typeIs F.slot_str_ascii_iterator_iter (wpAny_call_entry F.slot_str_ascii_iterator_iter st.typeIs F.entry_str_ascii_iterator_iter ?_ (F.args_str_ascii_iterator_iter_1 _))
  show wpAny _ _ (ret (.ref it)) _ _ s
  exact wpAny_pure ⟨_,rfl, "str_ascii_iterator",_,st.typeIs,F.slot_str_ascii_iterator_next.lookup,h⟩
variable {a:Expr} {ta:TE} {tg:Expr}
def fE (K:W.Frag) (tl:TE):TI:=fun σ H R=>tl σ H fun x H1=>match x with
 | .str z=>z.cps.all (·<128)=true∧R (Its z) H1
 | x=>∃ a,x=.ref a∧(((∃ xs,SqL K H1 a xs)∧R (Itl K a) H1)∨((∃ xs,SqT K H1 a xs)∧R (Itt K a) H1))
theorem fj (h : QE X a ta) : QI X tg a (fE X.K ta) := ⟨fun pins s σ H R I hw => by
  refine thn (h.out pins s σ H _ I hw) fun v s1 ⟨x, H1, I1, r1, q1⟩ => ?_
  cases x with
  | str z =>
    obtain ⟨t, rfl⟩ := r1
    refine wpAny_pyIter_ascii q1.1 ?_
    refine ⟨s1.heap.objs.size, [s1.heap.objs.size], _, _, H1, rfl, I1.kept (t' := s1.toks) fun b o e => Heap.get?_push_of_some _ e, xL z t _, ⟨_, Heap.get?_push_size _ rfl, rfl, rfl⟩, fun b hb => ?_, q1.2⟩
    have e : b = s1.heap.objs.size := by simpa using hb
    subst e
    exact I1.fpOk (Nat.le_refl _) (I1.hok.fresh (Nat.le_refl _))
  | ref c =>
    obtain ⟨a, e, q⟩ := q1
    cases e
    cases r1
    rcases q with ⟨⟨xs, hq⟩, q⟩ | ⟨⟨xs, hq⟩, q⟩
    · obtain ⟨its, rv, p, hz⟩ := I1.list hq
      refine wpAny_pyIter_list (gC p) ?_
      refine ⟨s1.heap.objs.size, [s1.heap.objs.size], _, _, H1, rfl, I1.kept (t' := s1.toks) fun b o e => Heap.get?_push_of_some _ e, ua _ _, ⟨_, Heap.get?_push_size _ rfl, rfl, rfl⟩, fun b hb => ?_, q⟩
      have e : b = s1.heap.objs.size := by simpa using hb
      subst e
      exact I1.fpOk (Nat.le_refl _) (I1.hok.fresh (Nat.le_refl _))
    · obtain ⟨its, rv, p, hz⟩ := I1.tuple hq
      refine wpAny_pyIter_tuple (show s1.heap.IsTuple c its.toArray from p) ?_
      refine ⟨s1.heap.objs.size, [s1.heap.objs.size], _, _, H1, rfl, I1.kept (t' := s1.toks) fun b o e => Heap.get?_push_of_some _ e, sK _ _, ⟨_, Heap.get?_push_size _ rfl, rfl, rfl⟩, fun b hb => ?_, q⟩
      have e : b = s1.heap.objs.size := by simpa using hb
      subst e
      exact I1.fpOk (Nat.le_refl _) (I1.hok.fresh (Nat.le_refl _))
  | _ => obtain ⟨_, e, _⟩ := q1; cases e⟩
end
theorem eO.str (z:Str):eO (Its z) z.length (fun i=> .str ⟨#[z.cps.getD i 0]⟩) (fun _=>True) where
 go:=fun i H hi _=>hi
 yld:=fun i H x H' hi _ y=>⟨y.1,by obtain ⟨_,c,hc,rfl⟩:=y;simp [Array.getD_eq_getD_getElem?,hc]⟩
 stop:=fun H _=>Nat.le_refl _
theorem rQ {α β:Type} (f:β→α→β) (b:β) (l:List α) (i:Nat) (x:α) (h:l[i]?=some x):(l.take (i+1)).foldl f b=f ((l.take i).foldl f b) x:=by
 rw [List.take_succ,h];simp
theorem mE {α β:Type} {f:α→β} {l:List α} {i:Nat} {x:β} (h:(l.map f)[i]?=some x):∃ a,l[i]?=some a∧x=f a:=by
 rw [List.getElem?_map] at h
 cases e:l[i]? with
 | none=>rw [e] at h;cases h
 | some a=>rw [e] at h;cases h;exact ⟨a,rfl,rfl⟩
theorem dD.keep {H H':Hp} {f:Addr} {t:cM} {cs:List Addr} {cvs:List V} (k:∀ b φ,H b=some (.ext φ)→H' b=some (.ext φ)) (c:dD H f t cs cvs):dD H' f t cs cvs:=by
 obtain ⟨⟨a,h1,h2⟩,h3⟩:=c
 refine ⟨⟨a,k _ _ h1,k _ _ h2⟩,?_⟩
 clear h1 h2
 induction h3 with
 | nil=>exact .nil
 | cons r t ih=>exact .cons (k _ _ r) ih
theorem ixL {K:W.Frag} {H:Hp} {Q:VK} {L:Addr} {xs:List V} {x:V} {i:Int} {j:Nat} (hL:H L=some (.lst xs)) (e:i=j) (hx:xs[j]?=some x) (q:Q x H):aQ K (.ref L) (.int i) H Q:=by
 subst e
 refine .inl (.inl ⟨L,xs,j,x,rfl,rfl,SqL.of hL,?_,q⟩)
 have hj:=(List.getElem?_eq_some_iff.mp hx).1
 rw [uZ (by omega) (by omega)]
 simp [List.getD_eq_getElem?_getD,hx]
def mQ (K:W.Frag) (ns:List Str):Bool:=decide ((ns.map fun n=>(W.tabIn K n).map (·.2)).Nodup)
theorem wK {l:List Addr} (h:(l.map some).Nodup):l.Nodup:=List.Pairwise.of_map some (fun a b h e=>h (congrArg some e)) h
section
variable {X:Cx}
theorem BH:OpR X (compareOp .Is) (fun x y H Q=>∃ b c,x=.bl b∧y=.bl c∧Q (.bl (decide (b=c))) H):=by
 intro pins s σ H x y v u Q I rx ry h
 obtain ⟨b,c,rfl,rfl,q⟩:=h
 cases rx
 cases ry
 refine wpAny_is_plain (by rfl) (bq I q ?_)
 cases b <;> cases c <;> rfl
def xY:R2:=fun x y H Q=>match x,y with
 | .bl b,.bl c=>Q (.bl (decide (b=c))) H
 | x,y=>xk x y H Q
theorem JU:OpR X (compareOp .Is) xY:=(BH.or oIs).imp fun x y H Q q=>by
 unfold xY at q
 split at q
 · exact .inl ⟨_,_,rfl,rfl,q⟩
 · exact .inr q
theorem Ec {x y:Str} {px py ep pos:Pos} {ek:Nat} {e:Expr} {te:TE} (i j:Nat) (hN:X.N.Nodup) (hc:X.calm=true) (he:QE X e te) (hi:X.N[i]?=some x:=by rfl) (hj:X.N[j]?=some y:=by rfl)
  (hx:Loc X.env.scope x:=by first | exact .inl rfl | exact .inr rfl) (hy:Loc X.env.scope y:=by first | exact .inl rfl | exact .inr rfl)
  (fx:X.fn x=true∨X.env.scope.names.lookup x=some .local:=by first | exact .inl rfl | exact .inr rfl) (fy:X.fn y=true∨X.env.scope.names.lookup y=some .local:=by first | exact .inl rfl | exact .inr rfl)
  (hs:swapsWithSole [.Tuple [.Name x px,.Name y py] ek ep] e pos.line X.env=pure false:=by rfl) (hw:swappedStores [.Tuple [.Name x px,.Name y py] ek ep] e X.env=pure none:=by rfl):
  QS X (.Assign [.Tuple [.Name x px,.Name y py] ek ep] e pos) (aM te (pZ X.K 2 (fX (aA i) (fX (aA j) pF)))):=
 ⟨vd he.out (tK hc (iW (ik hN hi hx fx) (iW (ik hN hj hy fy) rz))) hs hw⟩
end
end L2
namespace HT
open PySem PyProof.Rows
theorem sub_tuple_dict:isSubtype (.type "tuple") (.type "dict")=pure false:=by rw [isSubtype_type];kernel_rfl
theorem mH:isSubtype (.type "dict") (.type "tuple")=pure false:=by rw [isSubtype_type];kernel_rfl
theorem sR (l b:Addr) (o:Obj) (hc:o.cls=.type "dict") (o2:Obj) (hc2:o2.cls=.type "tuple"):
  Meets (Builtin.«dict.__eq__» ⟨[.ref l,.ref b],[]⟩) (fun _ R s=>s.heap.get? l=some o∧s.heap.get? b=some o2∧R (.ok (.ret .notImplemented)) s):=
 .of_wp fun prog w A R s h=>by
  obtain ⟨hp,g,d,tk,os⟩:=s;obtain ⟨hl,hb,h⟩:=h;obtain ⟨cls,dd,data,sl⟩:=o;obtain ⟨cls2,dd2,data2,sl2⟩:=o2
  simp only at hc hc2;subst hc hc2
  have f1:=sub_tuple_dict;wp_walk using wpAny_loadPart' hl,wpAny_loadPart' hb;exact ⟨_,rfl,h⟩
theorem qj (l b:Addr) (o:Obj) (hc:o.cls=.type "tuple") (o2:Obj) (hc2:o2.cls=.type "dict"):
  Meets (Builtin.«tuple.__eq__» ⟨[.ref l,.ref b],[]⟩) (fun _ R s=>s.heap.get? l=some o∧s.heap.get? b=some o2∧R (.ok (.ret .notImplemented)) s):=
 .of_wp fun prog w A R s h=>by
  obtain ⟨hp,g,d,tk,os⟩:=s;obtain ⟨hl,hb,h⟩:=h;obtain ⟨cls,dd,data,sl⟩:=o;obtain ⟨cls2,dd2,data2,sl2⟩:=o2
  simp only at hc hc2;subst hc hc2
  have f1:=mH;wp_walk using wpAny_loadPart' hl,wpAny_loadPart' hb;exact ⟨_,rfl,h⟩
end HT
namespace L2
open PySem PySem.Spec PyProof.Rows
section
variable {X:Cx}
def yY (K:W.Frag):R2:=fun x y H Q=>∃ a b ys,x=.ref a∧y=.ref b∧((∃ kvs,H a=some (.dK kvs))∨∃ kvs,H a=some (.dT kvs))∧SqT K H b ys∧Q (.bl false) H
theorem zV (hu:X.A.units<cLine):OpR X (compareOp .Eq) (yY X.K):=by
 intro pins s σ H x y v u Q I rx ry h
 obtain ⟨a,b,ys,rfl,rfl,ha,hb,q⟩:=h
 cases rx
 cases ry
 obtain ⟨its,_,p1,_⟩:=I.tuple hb
 obtain ⟨o2,ho2,hc2,_⟩:=id p1
 obtain ⟨o,ho,hc⟩:∃ o,s.heap.get? a=some o∧o.cls=.type "dict" :=by
  rcases ha with ⟨kvs,e⟩ | ⟨kvs,e⟩
  · obtain ⟨_,_,_,_,o,_,_,h1,h2,_⟩:=(show bh X.prog X.w H s.heap a (.dK kvs) from I.hok a _ e)
    exact ⟨o,h1,h2.1⟩
  · obtain ⟨_,_,_,_,o,_,_,h1,h2,_⟩:=(show bh X.prog X.w H s.heap a (.dT kvs) from I.hok a _ e)
    exact ⟨o,h1,h2.1⟩
 have hne:a≠b:=fun e=>by
  subst e
  rw [ho] at ho2;cases ho2
  rw [hc] at hc2;exact absurd hc2 (by simp)
 show wpAny _ _ (richCompare .Eq (.ref a) (.ref b)) _ _ s
 exact SeqAt.rc_eq_decline_or (k:=false) ⟨_,ho,hc⟩ ⟨_,ho2,hc2⟩ (by decide) F.sub_tuple_dict F.slot_dict_eq F.slot_tuple_eq_refl
  (fun _ hq=>call_meets F.slot_dict_eq ⟨_,ho,hc⟩ F.entry_dict_eq (F.args_dict_eq_2 _ _) (HT.sR a b o hc o2 hc2) ⟨ho,ho2,hq⟩)
  (fun _ hq=>call_meets F.slot_tuple_eq_refl ⟨_,ho2,hc2⟩ F.entry_tuple_eq (F.args_tuple_eq_2 _ _) (HT.qj b a o2 hc2 o hc) ⟨ho2,ho,hq⟩)
  (fun _ hq=>wpAny_isSame_ref_other hne ho ho2 (by rw [hc];simp) hq) (.inr hu) ⟨.bl false,H,I,rfl,q⟩
def bB (K:W.Frag):R2:=fun x y H Q=>match x,y with
 | .ref a,.ref b=>CZ K (.ref a) (.ref b) H Q∨pL K (.ref a) (.ref b) H Q∨yY K (.ref a) (.ref b) H Q
 | .ref a,y=>pL K (.ref a) y H Q
 | x,.ref b=>pL K x (.ref b) H Q
 | x,y=>mEq x y H Q
theorem bH (hu:X.A.units+150<cLine):OpR X (compareOp .Eq) (bB X.K):=((DG (by omega)).or ((BJ hu).or ((zV (by omega)).or oEq))).imp fun x y H Q q=>by
 unfold bB at q
 split at q
 · exact q.elim .inl fun z=>z.elim (fun z=> .inr (.inl z)) fun z=> .inr (.inr (.inl z))
 · exact .inr (.inl q)
 · exact .inr (.inl q)
 · exact .inr (.inr (.inr q))
end
section
variable {X:Cx} {a:Expr} {t:TA} {p pos:Pos} {tg:Expr}
def kD:List V→Hp→VK→Prop:=fun xs H Q=>match xs with | [.int i,.int j]=>Q (.int (if j>i then j else i)) H | _=>False
theorem pA (hc:X.calm=true):bx X (.builtin "max") kD:=fun pins s σ H xs us Q I r q=>by
 unfold kD at q
 split at q
 · exact tG hc pins s σ H _ us Q I r ⟨_,_,rfl,q⟩
 · exact q.elim
theorem oN : ∀ {ns : List Int} {its : List Value}, aX (ns.map V.int) its → PyProof.Rows.IntsAre its ns
  | [], its, h => by cases h; exact .nil
  | n :: r, its, h => by
    cases h with
    | cons h1 h2 =>
      obtain ⟨t, rfl⟩ := h1
      exact .cons _ _ (oN h2)
def BE (K:W.Frag):List V→Hp→VK→Prop:=fun xs H Q=>∃ (a:Addr) (ns:List Int),xs=[.ref a]∧SqL K H a (ns.map V.int)∧Q (.int ns.sum) H
theorem Kr (hc:X.calm=true):bx X (.builtin "sum") (BE X.K):=fun pins s σ H xs us Q I r h=>by
 obtain ⟨a,ns,rfl,hq,q⟩:=h
 obtain ⟨u,rfl,ru⟩:=eS r
 cases ru
 obtain ⟨its,rv,p,hz⟩:=I.list hq
 have hi:=oN rv
 obtain ⟨ys,hy⟩:=hi.allInts.items
 have hl':s.heap.IsList a (intItems ys):=hy▸gC p
 refine sum_intListG (I.ok.hd hc) hl' fun h' tk t' hk=>?_
 have e1:ns=ys.toList.map (·.1):=by
  rw [← nums_intItems,←hy]
  exact (show numsOf its.toArray.toList=ns from hi.numsOf).symm
 have e2:preSum (numAt ys) ys.size=ns.sum:=by
  rw [preSum_eq,List.take_of_length_le (by simp),e1]
 rw [e2]
 exact ⟨.int ns.sum,H,I.kept (t':=tk) hk,⟨_,rfl⟩,q⟩
theorem xJ:OpR X (binaryOp .FloorDiv) (rI (fun _ j=>0<j∧j<1267650600228229401496703205376) fun i j=> .int (i/j)):=opI fun i j _ _ _ _ _ hc q=>by
 have h1:(0:Int)<j:=hc.1
 have h2:j<1267650600228229401496703205376:=hc.2
 have h3:j.natAbs.log2<100:=(Nat.log2_lt (by omega)).mpr (Nat.lt_of_lt_of_eq (m:=1267650600228229401496703205376) (by omega) (by decide))
 exact floordiv_int (by omega) (by rw [Int.fdiv_eq_ediv_of_nonneg i (by omega)];exact q) (.inl (PyProof.noPylong_of_log2 (by omega)))
def du:R2:=fun x y H Q=>match x,y with | .int i,.int j=>(0<j∧j<1267650600228229401496703205376)∧Q (.int (i/j)) H | _,_=>False
theorem em:OpR X (binaryOp .FloorDiv) du:=xJ.imp fun x y H Q q=>by
 unfold du at q
 split at q
 · exact ⟨_,_,rfl,rfl,q.1,q.2⟩
 · exact q.elim
end
section
variable {α:Type} {l:List α}
theorem sV (h:l.length=0):l=[]:=List.length_eq_zero_iff.mp h
theorem dH (h : l.length = 1) : ∃ a0, l = [a0] := by
  cases l with
  | nil => simp at h
  | cons a l =>
    obtain rfl := sV (l := l) (by simpa using h)
    exact ⟨a, rfl⟩
theorem sg (h : l.length = 2) : ∃ a0 a1, l = [a0, a1] := by
  cases l with
  | nil => simp at h
  | cons a l =>
    obtain ⟨b0, rfl⟩ := dH (l := l) (by simpa using h)
    exact ⟨a, b0, rfl⟩
theorem zE (h : l.length = 3) : ∃ a0 a1 a2, l = [a0, a1, a2] := by
  cases l with
  | nil => simp at h
  | cons a l =>
    obtain ⟨b0, b1, rfl⟩ := sg (l := l) (by simpa using h)
    exact ⟨a, b0, b1, rfl⟩
theorem zL (h : l.length = 4) : ∃ a0 a1 a2 a3, l = [a0, a1, a2, a3] := by
  cases l with
  | nil => simp at h
  | cons a l =>
    obtain ⟨b0, b1, b2, rfl⟩ := zE (l := l) (by simpa using h)
    exact ⟨a, b0, b1, b2, rfl⟩
theorem yQ (h : l.length = 5) : ∃ a0 a1 a2 a3 a4, l = [a0, a1, a2, a3, a4] := by
  cases l with
  | nil => simp at h
  | cons a l =>
    obtain ⟨b0, b1, b2, b3, rfl⟩ := zL (l := l) (by simpa using h)
    exact ⟨a, b0, b1, b2, b3, rfl⟩
theorem HL (h : l.length = 6) : ∃ a0 a1 a2 a3 a4 a5, l = [a0, a1, a2, a3, a4, a5] := by
  cases l with
  | nil => simp at h
  | cons a l =>
    obtain ⟨b0, b1, b2, b3, b4, rfl⟩ := yQ (l := l) (by simpa using h)
    exact ⟨a, b0, b1, b2, b3, b4, rfl⟩
end
theorem bg.le {A:Around} {m n:Nat} (h:bg m A) (d:n≤m:=by first | decide | omega):bg n A:=h.mono d
theorem scF {N P:List Str} {sc:Scope} (h1:sc.kind=.function:=by rfl) (h2:sc.isCoroutine=false:=by rfl) (h3:sc.isGenerator=false:=by rfl) (h4:N.Nodup:=by decide +kernel) (h5:N.take P.length=P:=by rfl)
 (h6:∀ x∈P,sc.names.lookup x=some .local∨sc.names.lookup x=some .cell:=by decide +kernel) (h7:∀ y∈sc.names,y.2≠ .free:=by decide +kernel):ar N P sc:=⟨h1,h2,h3,h4,h5,h6,h7⟩
structure Fm (K:W.Frag) (mg:Str→Option Value) (x qual:Str) (st:Stmt) (a:Addr) (d:FuncData) (ps:List Str):Prop where
 f:Fun K x qual st a d
 m:mg x=some (.ref a)
 b:be K d ps []
structure Fa (K:W.Frag) (x qual:Str) (st:Stmt) (a:Addr) (d:FuncData):Prop where
 m:W.nsIn K mainGlobals x=some (some (.ref a))
 f:Fun K x qual st a d
section
variable {P:Program} {w:World} {K:W.Frag} {mg:Str→Option Value} {base h:Heap} {x qual:Str} {st:Stmt} {a:Addr} {d:FuncData} {ps:List Str}
theorem ba {oc:Value} {od an:Option Addr} {osl:Array (Option Value)} {kV doc pm cdv ct:Value} (m:W.nsIn K mainGlobals x=some (some (.ref a))) (l:K.lookup a=some ⟨oc,od,.func (W.fnOf x qual (bC st) (aS st) (ag st) .none kV doc pm an cdv ct),osl⟩)
 (c:W.codeIn K cdv qual=true) (k:W.keepIn K (.ref a)=true):Fa K x qual st a (W.fnOf x qual (bC st) (aS st) (ag st) .none kV doc pm an cdv ct):=⟨m,bA l c k⟩
theorem Fa.code (F:Fa K x qual st a d) (X:K.In h) (G:h.Ns mainGlobals mg) {z t:Addr} (ht:W.tabIn K x=some (z,t)):d.code=.ref z:=by
 obtain ⟨oc,od,kV,doc,pm,an,cdv,ct,osl,e,lk,hcd⟩:=F.f.ex
 exact W.law_code X G ht (W.mg_of X G F.m) (X _ _ lk) rfl
theorem Fun.bt {p:Str} (F:Fun K x qual st a d) (hb:∀ (kV doc pm:Value) (an:Option Addr) (cdv ct v:Value),bindArgs (W.fnOf x qual (bC st) (aS st) (ag st) .none kV doc pm an cdv ct) ⟨[v],[]⟩=pure [(p,v)]:=by intros;rfl) (s:Shared) (v:Value):BindsTo s d ⟨[v],[]⟩ [(p,v)]:=by
 obtain ⟨oc,od,kV,doc,pm,an,cdv,ct,osl,rfl,lk,hcd⟩:=F.ex
 exact .of_eq (hb kV doc pm an cdv ct v)
theorem Fun.b0 (F:Fun K x qual st a d) (hb:∀ (kV doc pm:Value) (an:Option Addr) (cdv ct:Value),bindArgs (W.fnOf x qual (bC st) (aS st) (ag st) .none kV doc pm an cdv ct) ⟨[],[]⟩=pure (List.zip [] []):=by intros;rfl):be K d [] []:=F.binds fun kV doc pm an cdv ct us hl=>by
 obtain rfl:=L2.sV hl
 exact hb kV doc pm an cdv ct
theorem Fa.fm0 (F:Fa K x qual st a d) (X:K.In h) (G:h.Ns mainGlobals mg) (hb:∀ (kV doc pm:Value) (an:Option Addr) (cdv ct:Value),bindArgs (W.fnOf x qual (bC st) (aS st) (ag st) .none kV doc pm an cdv ct) ⟨[],[]⟩=pure (List.zip [] []):=by intros;rfl):Fm K mg x qual st a d []:=⟨F.f,W.mg_of X G F.m,F.f.b0 hb⟩
theorem Fun.b1 {p0:Str} (F:Fun K x qual st a d) (hb:∀ (kV doc pm:Value) (an:Option Addr) (cdv ct u0:Value),bindArgs (W.fnOf x qual (bC st) (aS st) (ag st) .none kV doc pm an cdv ct) ⟨[u0],[]⟩=pure (List.zip [p0] [u0]):=by intros;rfl):be K d [p0] []:=F.binds fun kV doc pm an cdv ct us hl=>by
 obtain ⟨u0,rfl⟩:=L2.dH hl
 exact hb kV doc pm an cdv ct u0
theorem Fa.fm1 {p0:Str} (F:Fa K x qual st a d) (X:K.In h) (G:h.Ns mainGlobals mg) (hb:∀ (kV doc pm:Value) (an:Option Addr) (cdv ct u0:Value),bindArgs (W.fnOf x qual (bC st) (aS st) (ag st) .none kV doc pm an cdv ct) ⟨[u0],[]⟩=pure (List.zip [p0] [u0]):=by intros;rfl):Fm K mg x qual st a d [p0]:=⟨F.f,W.mg_of X G F.m,F.f.b1 hb⟩
theorem Fun.b2 {p0 p1:Str} (F:Fun K x qual st a d) (hb:∀ (kV doc pm:Value) (an:Option Addr) (cdv ct u0 u1:Value),bindArgs (W.fnOf x qual (bC st) (aS st) (ag st) .none kV doc pm an cdv ct) ⟨[u0,u1],[]⟩=pure (List.zip [p0,p1] [u0,u1]):=by intros;rfl):be K d [p0,p1] []:=F.binds fun kV doc pm an cdv ct us hl=>by
 obtain ⟨u0,u1,rfl⟩:=L2.sg hl
 exact hb kV doc pm an cdv ct u0 u1
theorem Fa.fm2 {p0 p1:Str} (F:Fa K x qual st a d) (X:K.In h) (G:h.Ns mainGlobals mg) (hb:∀ (kV doc pm:Value) (an:Option Addr) (cdv ct u0 u1:Value),bindArgs (W.fnOf x qual (bC st) (aS st) (ag st) .none kV doc pm an cdv ct) ⟨[u0,u1],[]⟩=pure (List.zip [p0,p1] [u0,u1]):=by intros;rfl):Fm K mg x qual st a d [p0,p1]:=⟨F.f,W.mg_of X G F.m,F.f.b2 hb⟩
theorem Fun.b3 {p0 p1 p2:Str} (F:Fun K x qual st a d) (hb:∀ (kV doc pm:Value) (an:Option Addr) (cdv ct u0 u1 u2:Value),bindArgs (W.fnOf x qual (bC st) (aS st) (ag st) .none kV doc pm an cdv ct) ⟨[u0,u1,u2],[]⟩=pure (List.zip [p0,p1,p2] [u0,u1,u2]):=by intros;rfl):be K d [p0,p1,p2] []:=F.binds fun kV doc pm an cdv ct us hl=>by
 obtain ⟨u0,u1,u2,rfl⟩:=L2.zE hl
 exact hb kV doc pm an cdv ct u0 u1 u2
theorem Fa.fm3 {p0 p1 p2:Str} (F:Fa K x qual st a d) (X:K.In h) (G:h.Ns mainGlobals mg) (hb:∀ (kV doc pm:Value) (an:Option Addr) (cdv ct u0 u1 u2:Value),bindArgs (W.fnOf x qual (bC st) (aS st) (ag st) .none kV doc pm an cdv ct) ⟨[u0,u1,u2],[]⟩=pure (List.zip [p0,p1,p2] [u0,u1,u2]):=by intros;rfl):Fm K mg x qual st a d [p0,p1,p2]:=⟨F.f,W.mg_of X G F.m,F.f.b3 hb⟩
theorem Fun.b4 {p0 p1 p2 p3:Str} (F:Fun K x qual st a d) (hb:∀ (kV doc pm:Value) (an:Option Addr) (cdv ct u0 u1 u2 u3:Value),bindArgs (W.fnOf x qual (bC st) (aS st) (ag st) .none kV doc pm an cdv ct) ⟨[u0,u1,u2,u3],[]⟩=pure (List.zip [p0,p1,p2,p3] [u0,u1,u2,u3]):=by intros;rfl):be K d [p0,p1,p2,p3] []:=F.binds fun kV doc pm an cdv ct us hl=>by
 obtain ⟨u0,u1,u2,u3,rfl⟩:=L2.zL hl
 exact hb kV doc pm an cdv ct u0 u1 u2 u3
theorem Fa.fm4 {p0 p1 p2 p3:Str} (F:Fa K x qual st a d) (X:K.In h) (G:h.Ns mainGlobals mg) (hb:∀ (kV doc pm:Value) (an:Option Addr) (cdv ct u0 u1 u2 u3:Value),bindArgs (W.fnOf x qual (bC st) (aS st) (ag st) .none kV doc pm an cdv ct) ⟨[u0,u1,u2,u3],[]⟩=pure (List.zip [p0,p1,p2,p3] [u0,u1,u2,u3]):=by intros;rfl):Fm K mg x qual st a d [p0,p1,p2,p3]:=⟨F.f,W.mg_of X G F.m,F.f.b4 hb⟩
theorem Fun.b5 {p0 p1 p2 p3 p4:Str} (F:Fun K x qual st a d) (hb:∀ (kV doc pm:Value) (an:Option Addr) (cdv ct u0 u1 u2 u3 u4:Value),bindArgs (W.fnOf x qual (bC st) (aS st) (ag st) .none kV doc pm an cdv ct) ⟨[u0,u1,u2,u3,u4],[]⟩=pure (List.zip [p0,p1,p2,p3,p4] [u0,u1,u2,u3,u4]):=by intros;rfl):be K d [p0,p1,p2,p3,p4] []:=F.binds fun kV doc pm an cdv ct us hl=>by
 obtain ⟨u0,u1,u2,u3,u4,rfl⟩:=L2.yQ hl
 exact hb kV doc pm an cdv ct u0 u1 u2 u3 u4
theorem Fa.fm5 {p0 p1 p2 p3 p4:Str} (F:Fa K x qual st a d) (X:K.In h) (G:h.Ns mainGlobals mg) (hb:∀ (kV doc pm:Value) (an:Option Addr) (cdv ct u0 u1 u2 u3 u4:Value),bindArgs (W.fnOf x qual (bC st) (aS st) (ag st) .none kV doc pm an cdv ct) ⟨[u0,u1,u2,u3,u4],[]⟩=pure (List.zip [p0,p1,p2,p3,p4] [u0,u1,u2,u3,u4]):=by intros;rfl):Fm K mg x qual st a d [p0,p1,p2,p3,p4]:=⟨F.f,W.mg_of X G F.m,F.f.b5 hb⟩
theorem Fun.b6 {p0 p1 p2 p3 p4 p5:Str} (F:Fun K x qual st a d) (hb:∀ (kV doc pm:Value) (an:Option Addr) (cdv ct u0 u1 u2 u3 u4 u5:Value),bindArgs (W.fnOf x qual (bC st) (aS st) (ag st) .none kV doc pm an cdv ct) ⟨[u0,u1,u2,u3,u4,u5],[]⟩=pure (List.zip [p0,p1,p2,p3,p4,p5] [u0,u1,u2,u3,u4,u5]):=by intros;rfl):be K d [p0,p1,p2,p3,p4,p5] []:=F.binds fun kV doc pm an cdv ct us hl=>by
 obtain ⟨u0,u1,u2,u3,u4,u5,rfl⟩:=L2.HL hl
 exact hb kV doc pm an cdv ct u0 u1 u2 u3 u4 u5
theorem Fa.fm6 {p0 p1 p2 p3 p4 p5:Str} (F:Fa K x qual st a d) (X:K.In h) (G:h.Ns mainGlobals mg) (hb:∀ (kV doc pm:Value) (an:Option Addr) (cdv ct u0 u1 u2 u3 u4 u5:Value),bindArgs (W.fnOf x qual (bC st) (aS st) (ag st) .none kV doc pm an cdv ct) ⟨[u0,u1,u2,u3,u4,u5],[]⟩=pure (List.zip [p0,p1,p2,p3,p4,p5] [u0,u1,u2,u3,u4,u5]):=by intros;rfl):Fm K mg x qual st a d [p0,p1,p2,p3,p4,p5]:=⟨F.f,W.mg_of X G F.m,F.f.b6 hb⟩
theorem Fun.okS {CX:CXT} {N:List Str} {k:Nat} {sp:Sp} {t:TS} (F:Fun K x qual st a d) (S:ar N ps (ag st)) (len:∀ vs H Q E,sp vs H Q E→vs.length=ps.length)
  (hrd:∀ (vs:List V) (H:Hp) (Q:VK) (E:XK),sp vs H Q E→t { nx:=fun _ H'=>Q .non H',rt:=Q } (cp N vs) H)
  (hq:∀ (cdv:Value) (A:Around) (outer:List Env) (s:Shared) (H:Hp) (E:XK),bg k (A.deeper (envOfC qual (ag st) s.heap.objs.size a cdv))→QSs (eU CX P w K mg base N qual (ag st) a cdv A outer s H E).nox (aS st) t):aF P w K mg base CX (k+1) a d ps sp:=
 F.okN S len fun cdv A outer s H vs Q E hr h=>⟨t,(hq cdv A outer s H E hr).out,hrd vs H Q E h⟩
end
section
variable {X:Cx} {x q:Str} {e:Expr} {es:List Expr} {t:TA} {p pos:Pos} {st:Stmt} {f:Addr} {fd:FuncData} {ps:List Str} {k:Nat} {sp:Sp}
theorem aE {P:Program} {w:World} (F:aF X.prog X.w X.K X.mg X.base (CX1 P w) k f fd ps sp) (hr:bg k X.A) (M:Fm X.K X.mg x q st f fd ps)
 (ha:QA X (e::es) t) (hg:Gl X x:=by rfl) (hdb:(x==("__debug__" :Str))=false:=by decide) (hs:bn (e::es)=true:=by rfl):QE X (.Call (.Name x p) (e::es) [] pos) (aq sp (fun _=>E0) t):=Ah F hr M.m M.f.kp M.b aP ha hg hdb hs
end
def gw (L:List (Addr×Sp)) (m:Str) (E:St→XK) (ta:TE) (t:TA):TE:=fun σ H Q=>ta σ H fun x H1=>∃ a C dx fs sp,x=.ref a∧H1 a=some (.ins C dx fs)∧(C,sp)∈L∧fs.lookup m=none∧t σ H1 fun vs H2=>sp (x::vs) H2 Q (E σ)
def MD (X:Cx) (m:Str) (E:St→XK) (p:Addr×Sp):Prop:=∃ CX k f fd ps,Cls X.K p.1∧cE X.K p.1 m f∧aF X.prog X.w X.K X.mg X.base CX k f fd ps p.2∧bg k X.A∧be X.K fd ps []∧eE CX X E
structure zj (K:W.Frag) (C:Addr) (m:Str) (f:Addr):Prop where
 ga:W.specialIn K (.ref C) "__getattribute__" =some (some (.builtin "type.__getattribute__"))
 rd:W.readsIn K C (.type "type")=true
 at_:W.findCls K (.ref C) (.type "type") m=some (.val (.ref f))
 ho:W.handedIn (.ref f)=true
 kp:W.keepIn K (.ref f)=true
structure jU (K:W.Frag) (C:Addr):Prop where
 cl:W.findIn K (.ref C) "__class__" =some (some (.builtin "object.__class__"))
 gt:W.specialIn K (.builtin "object.__class__") "__get__" =some (some (.builtin "getset_descriptor.__get__"))
 tk:W.takesIn K (.builtin "object.__class__")=some true
 mo:W.mroIn K C (.type "object")=some true
section
variable {X:Cx} {CX:CXT} {k:Nat} {f C:Addr} {fd:FuncData} {ps:List Str} {sp:Sp} {E:St→XK} {x m:Str} {p pos apos:Pos} {e:Expr} {es:List Expr} {t u:TE} {ta:TA}
theorem mdn {L:List (Addr×Sp)} (h:L=[]):∀ p∈L,MD X m E p:=fun p hp=>by subst h;cases hp
theorem mdc {L:List (Addr×Sp)} (c:Cls X.K C) (hm:cE X.K C m f) (F:aF X.prog X.w X.K X.mg X.base CX k f fd ps sp) (hr:bg k X.A) (hb:be X.K fd ps []) (hx:eE CX X E) (h:∀ p∈L,MD X m E p):∀ p∈(C,sp)::L,MD X m E p:=fun p hp=>by
 rcases List.mem_cons.mp hp with rfl | hp
 · exact ⟨_,_,_,_,_,c,hm,F,hr,hb,hx⟩
 · exact h p hp
theorem gl {L : List (Addr × Sp)} {o : Expr} {to : TE} {pl : Sem Bool} (he : QE X o to) (hL : ∀ p ∈ L, MD X m E p) (ha : QA X (e :: es) ta) (hs : bn (e :: es) = true := by rfl)
  (ht : eval (.Call (.Attribute o m apos) (e :: es) [] pos) X.env = (do
   let ov ← eval o X.env
   standAt apos.atName
   let (f, first) ← holding [ov] (getMethod ov m pl)
   callWith pos f first (backTo pos (starEach (e :: es) X.env)) (backToKw pos (keywordEach [] X.env))) := by rfl) :
  QE X (.Call (.Attribute o m apos) (e :: es) [] pos) (gw L m E to ta) := ⟨fun pins s σ H Q I h => by
 have h' : (bZ e && bn es) = true := hs
 refine W.methodCall_KW (pl := pl) (thn (he.out pins s σ H _ I h) fun u s1 ⟨x, H1, I1, rx, a, C, dx, fs, sp, ex, ea, hC, l, q⟩ => ?_) ht
 subst ex
 obtain rfl : u = Value.ref a := rx
 obtain ⟨CX, k, f, fd, ps, c, hm, F, hr, hb, hx⟩ := hL _ hC
 refine iL I1 ea c hm l ?_
 refine W.callWith_K (first := [.ref a]) (h₀ := X.base) I.ok.mod.kin hm.kp (thn (ha.out pos pins s1 σ H1 _ I1 q) fun us s2 ⟨vs, H2, I2, r, q2⟩ => ⟨I2.kIn, ?_⟩)
  (bo (Bool.and_eq_true_iff.mp h').1 es X.env) (bU (Bool.and_eq_true_iff.mp h').2)
 exact gi (us := .ref a :: us) (vs := .ref a :: vs) F hr hb hx I2 (.cons rfl r) q2⟩
theorem pI {pl : Sem Bool} (hm : X.mg x = some (.ref C)) (c : zj X.K C m f) (F : aF X.prog X.w X.K X.mg X.base CX k f fd ps sp) (hr : bg k X.A) (hb : be X.K fd ps []) (hx : eE CX X E) (ha : QA X (e :: es) ta)
  (hg : Gl X x := by rfl) (hd : (x == ("__debug__" : Str)) = false := by decide) (hs : bn (e :: es) = true := by rfl)
  (ht : eval (.Call (.Attribute (.Name x p) m apos) (e :: es) [] pos) X.env = (do
   let ov ← eval (.Name x p) X.env
   standAt apos.atName
   let (f, first) ← holding [ov] (getMethod ov m pl)
   callWith pos f first (backTo pos (starEach (e :: es) X.env)) (backToKw pos (keywordEach [] X.env))) := by rfl) :
  QE X (.Call (.Attribute (.Name x p) m apos) (e :: es) [] pos) (aq sp E ta) := ⟨fun pins s σ H Q I h => by
 have h' : (bZ e && bn es) = true := hs
 refine W.methodCall_KW (pl := pl) (thn ((mw (v := .ref C) hg hm rfl hd) pins s σ H (fun v H1 => v = .ref C ∧ H1 = H) I ⟨rfl, rfl⟩) fun u s1 ⟨v, H1, I1, rv, ev, eH⟩ => ?_) ht
 subst ev eH
 obtain rfl : u = Value.ref C := rv
 refine W.method_cls I1.kIn c.ga (W.cls_value I1.kIn c.rd c.at_ c.ho ?_)
 refine W.callWith_K (first := []) (h₀ := X.base) I.ok.mod.kin c.kp (thn (ha.out pos pins _ σ H1 _ (I1.tok _) h) fun us s2 ⟨vs, H2, I2, r, q2⟩ => ⟨I2.kIn, ?_⟩)
  (bo (Bool.and_eq_true_iff.mp h').1 es X.env) (bU (Bool.and_eq_true_iff.mp h').2)
 exact gi F hr hb hx I2 r q2⟩
def sJ (K:W.Frag):List V→Hp→VK→Prop:=fun xs H Q=>∃ a C dx fs D b,xs=[.ref a,.ref D]∧H a=some (.ins C dx fs)∧Cls K C∧jU K C∧W.kitOne K (.ref C) (.ref D)=some b∧Q (.bl b) H
theorem yX:bx X (.builtin "isinstance") (sJ X.K):=fun pins s σ H xs us Q I r h=>by
 obtain ⟨a,C,dx,fs,D,b,rfl,ha,hC,G,hk,q⟩:=h
 obtain ⟨u,w',rfl,r1,r2⟩:=lp r
 cases (show w'=Value.ref D from r2)
 cases (show u=Value.ref a from r1)
 obtain ⟨mA,O,_,_,_,_⟩:=hE I.hok ha
 obtain ⟨od,IA,_⟩:=O.look
 exact W.kia_one (W.kitx_own (hC.get _) hC.hd G.cl G.gt G.tk G.mo) I.kIn IA hk (fun z=>nomatch z) fun tk=>⟨.bl _,H,I.tok tk,rfl,q⟩
end
end L2
namespace L2
open PySem PySem.Spec PyProof.Rows PySem.W
section
variable {key:Nat→Int} {n:Nat}
variable (inj:∀ i j,i<n→j<n→key i=key j→i=j)
include inj
omit inj in
omit inj in
omit inj in
end
section
variable {X:Cx} {pins:List (Addr×Obj)} {σ:St} {H:Hp} {s:Shared} {h':Heap} {tk:Nat}
theorem bh.there {P:Program} {w:World} {h:Heap} {a:Addr} {o:HO} (x:bh P w H h a o):∃ q,h.get? a=some q:=by
 cases o with
 | lst xs=>obtain ⟨_,_,_,_,e⟩:=x;exact ⟨_,e⟩
 | tup xs=>obtain ⟨_,_,_,o,e,_⟩:=x;exact ⟨_,e⟩
 | dK kvs=>obtain ⟨_,_,_,_,o,_,_,e,_⟩:=x;exact ⟨_,e⟩
 | dT kvs=>obtain ⟨_,_,_,_,o,_,_,e,_⟩:=x;exact ⟨_,e⟩
 | set S n=>obtain ⟨o,_,_,_,e,_⟩:=x;exact ⟨_,e⟩
 | ins C dx fs=>obtain ⟨_,_,_,e,_⟩:=x;exact ⟨_,e⟩
 | own y=>exact x
 | xd fs=>obtain ⟨_,⟨_,_,_,e,_⟩,_⟩:=x;exact ⟨_,e⟩
 | rng lo hi=>obtain ⟨_,_,_,e⟩:=x;exact ⟨_,e⟩
 | frz ob u=>exact ⟨_,x.1⟩
 | tbl ps=>exact ⟨_,x⟩
 | met f y=>exact ⟨_,x⟩
 | ext φ=>exact x.2.1
def New (h:Heap) (a:Addr):Prop:=∀ b u,h.get? b=some u→b≠a
theorem New.free {a:Addr} (n:New s.heap a) (I:Inv X pins σ H s):H a=none:=by
 cases e:H a with
 | none=>rfl
 | some o=>obtain ⟨q,z⟩:=(I.hok a o e).there;exact absurd rfl (n a q z)
theorem Inv.track3 {a:Addr} {o:HO} {H1:Hp} {s0:Shared} (I0:Inv X pins σ H1 s0) (I:Inv X pins σ H s) (ne:New s0.heap a) (hn:H a=none) (ok:bh X.prog X.w (upd H a o) s.heap a o):Inv X pins σ (upd H a o) s:=by
 have nL:X.env.locals≠a:=let ⟨m,⟨o',_,_,e,_⟩,_⟩:=I0.loc;ne _ _ e
 refine ⟨I.ok,I.os,I.bare,⟨I.base.keep,I.base.slot,fun b u e n hx=>?_,I.base.there,fun b xs e=>?_,fun b u v e=>?_,fun b ps e=>?_⟩,I.loc,I.cell,?_,fun x c e=>?_,fun p hp=>?_,fun b u e=>?_,I.len⟩
 · obtain ⟨o',e'⟩:=I0.base.there b u e hx
   rw [ap (ne b o' e')];exact I.base.free b u e n hx
 · have:=I.base.tups b xs e
   rw [ap (az this hn)];exact this
 · have:=I.base.frzs b u v e
   rw [ap (az this hn)];exact this
 · obtain ⟨more,this⟩:=I.base.tbls b ps e
   exact ⟨more,by rw [ap (az this hn)];exact this⟩
 · rw [ap nL];exact I.free
 · obtain ⟨v,o',e',_⟩:=I0.cell x c e
   rw [ap (ne _ _ e')];exact I.freeC x c e
 · obtain ⟨h1,h2,h3⟩:=I.pin p hp
   exact ⟨h1,by rw [ap (ne _ _ (I0.pin p hp).1)];exact h2,h3⟩
 · by_cases hb:b=a
   · subst hb
     rw [aj] at e;cases e
     exact ok
   · rw [ap hb] at e
     have nt:∀ c q,H c=some q→upd H a o c=some q:=fun c q z=>by rw [ap (az z hn)];exact z
     exact (I.hok b u e).stay (fun c v _ q=>q) (fun c q=>nt _ _ q) fun c xs q=>nt _ _ q
def io (rs:List (Int×V)):List (Key×V):=rs.map fun r=>(.inl r.1,r.2)
theorem AW {P:Program} {w:World} {i:Int} {v:Value} (h:(bN P w).is (.inl i) v=true):∃ t,v=Value.int i t:=by
 rcases ci (k:=.inl i) (v:=v) h with ⟨j,t,e,rfl⟩ | ⟨x,t,e,_⟩
 · cases e;exact ⟨t,rfl⟩
 · cases e
theorem Gs {rs : List (Int × V)} {vs : List (Key × Value)} (r : KV (io rs) vs) {j : Nat} {k : Key} {x : Value} (e : vs[j]? = some (k, x)) : ∃ q, rs[j]? = some q ∧ k = .inl q.1 ∧ aR q.2 x := by
  unfold KV io at r
  induction rs generalizing vs j with
  | nil => cases r; simp at e
  | cons q rs ih =>
    cases r with
    | cons h t =>
      cases j with
      | zero => cases e; exact ⟨q, rfl, h.1.symm, h.2⟩
      | succ j => exact ih t (by simpa using e)
theorem BK {rs:List (Int×V)} {vs:List (Key×Value)} (r:KV (io rs) vs):vs.length=rs.length:=by
 rw [← r.length];unfold io;rw [List.length_map]
def zt (K:W.Frag):List V→Hp→VK→Prop:=fun xs H Q=>∃ a kvs,xs=[.ref a]∧H a=some (.dK kvs)∧∀ p,H p=none→Q (.ref p) (upd H p (.dK kvs))
theorem GW:bx X (.type "dict") (zt X.K):=fun pins s σ H xs us Q I r h=>by
 obtain ⟨a,kvs,rfl,ha,q⟩:=h
 obtain ⟨u,rfl,ru⟩:=eS r
 cases (show u=Value.ref a from ru)
 exact xV I (.inl ha) fun p s' hp I'=>⟨.ref p,_,I',rfl,q p hp⟩
def zD:V→List V→Hp→VK→Prop:=fun x vs H Q=>∃ a kvs k v,x=.ref a∧vs=[kV k]∧H a=some (.dK kvs)∧bD kvs k=some v∧Q v (upd H a (.dK (iD kvs k)))
theorem AR:MtR X "dict.pop" zD:=by
 intro pins s σ H x vs v us Q I rx rv h
 obtain ⟨a,kvs,k,v',rfl,rfl,ha,l,q⟩:=h
 obtain rfl:v=Value.ref a:=rx
 obtain ⟨uy,rfl,ry⟩:=rv.one
 exact Ii (more:=[]) I ha ry l (.inl rfl) fun w' s' I' r'=>⟨_,_,I',r',q⟩
end
end L2
namespace Rs
def mx (b x y c:Nat):Prop:=c≤b∧x/2^(b - c)=y/2^(b - c)∧(c=b∨x/2^(b - (c+1))≠y/2^(b - (c+1)))
abbrev st (B k d:Nat):Nat:=k/2^(B - d)
abbrev sd (B k d:Nat):Nat:=k/2^(B - 1 - d)%2
inductive Kn (α:Type) where
 | bare
 | leaf (k:Nat) (t:α)
 | fork (d b:Nat) (l r:Kn α)
section
variable {α:Type}
def aG:Kn α→List (Nat×α)
 | .bare=>[]
 | .leaf k t=>[(k,t)]
 | .fork _ _ l r=>aG l++aG r
def aD (B key:Nat):Kn α→Option α
 | .bare=>none
 | .leaf k t=>if key=k then some t else none
 | .fork d _ l r=>if sd B key d=0 then aD B key l else aD B key r
def WF (B:Nat):Nat→Nat→Kn α→Prop
 | _,_,.bare=>False
 | d0,b0,.leaf k _=>k<2^B∧st B k d0=b0
 | d0,b0,.fork d b l r=>d0≤d∧d<B∧b/2^(d - d0)=b0∧WF B (d+1) (2*b) l∧WF B (d+1) (2*b+1) r
theorem cm {B k d:Nat} (h:d<B):st B k (d+1)=2*st B k d+sd B k d:=by
 have e:B - d=(B - (d+1))+1:=by omega
 have e2:B - 1 - d=B - (d+1):=by omega
 unfold st sd
 rw [e,e2,Nat.pow_succ,←Nat.div_div_eq_div_mul]
 omega
theorem fe {B k d:Nat}:sd B k d<2:=Nat.mod_lt _ (by decide)
theorem jT {B k d e:Nat} (h1:d≤e) (h2:e≤B):st B k d=st B k e/2^(e - d):=by
 unfold st
 rw [Nat.div_div_eq_div_mul,←Nat.pow_add]
 congr 2
 omega
theorem WF.mem {B : Nat} : ∀ {t : Kn α} {d0 b0 : Nat}, d0 ≤ B → WF B d0 b0 t → ∀ p ∈ aG t, p.1 < 2 ^ B ∧ st B p.1 d0 = b0
  | .bare, _, _, _, h, _, _ => h.elim
  | .leaf k t, _, _, _, h, p, hp => by rw [List.mem_singleton.mp hp]; exact h
  | .fork d b l r, d0, b0, _, ⟨h1, h2, h3, hl, hr⟩, p, hp => by
    have key : p.1 < 2 ^ B ∧ st B p.1 d = b := by
      rcases List.mem_append.mp hp with z | z
      · obtain ⟨a, c⟩ := hl.mem (by omega) p z
        rw [cm h2] at c
        have := @fe B p.1 d
        exact ⟨a, by omega⟩
      · obtain ⟨a, c⟩ := hr.mem (by omega) p z
        rw [cm h2] at c
        have := @fe B p.1 d
        exact ⟨a, by omega⟩
    exact ⟨key.1, by rw [jT h1 (by omega), key.2]; exact h3⟩
theorem WF.left {B d0 b0 d b:Nat} {l r:Kn α} (h:WF B d0 b0 (.fork d b l r)):∀ p∈aG l,st B p.1 d=b∧sd B p.1 d=0:=fun p hp=>by
 obtain ⟨h1,h2,h3,hl,hr⟩:=h
 have c:=(hl.mem (by omega) p hp).2
 rw [cm h2] at c
 have:=@fe B p.1 d
 omega
theorem WF.right {B d0 b0 d b:Nat} {l r:Kn α} (h:WF B d0 b0 (.fork d b l r)):∀ p∈aG r,st B p.1 d=b∧sd B p.1 d=1:=fun p hp=>by
 obtain ⟨h1,h2,h3,hl,hr⟩:=h
 have c:=(hr.mem (by omega) p hp).2
 rw [cm h2] at c
 have:=@fe B p.1 d
 omega
theorem WF.ne {B d0 b0 : Nat} : ∀ {t : Kn α} {d0 b0 : Nat}, WF B d0 b0 t → ∃ p, p ∈ aG t
  | .bare, _, _, h => h.elim
  | .leaf k t, _, _, _ => ⟨(k, t), List.mem_singleton.mpr rfl⟩
  | .fork d b l r, _, _, ⟨_, _, _, hl, _⟩ => by
    obtain ⟨p, hp⟩ := WF.ne (d0 := d0) (b0 := b0) hl
    exact ⟨p, List.mem_append_left _ hp⟩
def fJ (l:List (Nat×α)):Prop:=l.Pairwise fun p q=>p.1<q.1
theorem WF.up {B : Nat} : ∀ {t : Kn α} {d0 b0 : Nat}, WF B d0 b0 t → fJ (aG t)
  | .bare, _, _, h => h.elim
  | .leaf k t, _, _, _ => List.pairwise_singleton _ _
  | .fork d b l r, d0, b0, h => by
    have hf := h
    obtain ⟨h1, h2, h3, hl, hr⟩ := h
    refine List.pairwise_append.mpr ⟨hl.up, hr.up, fun p hp q hq => ?_⟩
    have e1 := (hl.mem (by omega) p hp).2
    have e2 := (hr.mem (by omega) q hq).2
    unfold st at e1 e2
    apply Classical.byContradiction
    intro hn
    have := Nat.div_le_div_right (c := 2 ^ (B - (d + 1))) (show q.1 ≤ p.1 by omega)
    omega
def look (key:Nat):List (Nat×α)→Option α
 | []=>none
 | (k,t)::r=>if key=k then some t else look key r
theorem jW (key : Nat) (l m : List (Nat × α)) : look key (l ++ m) = (look key l).or (look key m) := by
  induction l with
  | nil => rfl
  | cons p r ih =>
    show (if key = p.1 then some p.2 else look key (r ++ m)) = (if key = p.1 then some p.2 else look key r).or (look key m)
    split
    · rfl
    · exact ih
theorem cX {key : Nat} {l : List (Nat × α)} (h : ∀ p ∈ l, p.1 ≠ key) : look key l = none := by
  induction l with
  | nil => rfl
  | cons p r ih =>
    show (if key = p.1 then some p.2 else look key r) = none
    rw [if_neg fun e => h p List.mem_cons_self e.symm]
    exact ih fun q hq => h q (List.mem_cons_of_mem _ hq)
theorem cy {B key : Nat} : ∀ {t : Kn α} {d0 b0 : Nat}, WF B d0 b0 t → aD B key t = look key (aG t)
  | .bare, _, _, h => h.elim
  | .leaf k t, _, _, _ => rfl
  | .fork d b l r, d0, b0, h => by
    have hf := h
    obtain ⟨h1, h2, h3, hl, hr⟩ := h
    show (if sd B key d = 0 then aD B key l else aD B key r) = look key (aG l ++ aG r)
    rw [jW]
    by_cases e : sd B key d = 0
    · rw [if_pos e, cy hl, cX (l := aG r) fun p hp z => by
        have := (hf.right p hp).2
        rw [z] at this; omega]
      cases look key (aG l) <;> rfl
    · rw [if_neg e, cy hr, cX (l := aG l) fun p hp z => by
        have := (hf.left p hp).2
        rw [z] at this; omega]
      rfl
def alN (B x y:Nat):Nat→Nat
 | 0=>0
 | c+1=>if x/2^(B - (c+1))=y/2^(B - (c+1)) then c+1 else alN B x y c
theorem tJ {B x y : Nat} (hx : x < 2 ^ B) (hy : y < 2 ^ B) : ∀ n, n ≤ B → alN B x y n ≤ n ∧ x / 2 ^ (B - alN B x y n) = y / 2 ^ (B - alN B x y n) ∧ (alN B x y n = n ∨ x / 2 ^ (B - (alN B x y n + 1)) ≠ y / 2 ^ (B - (alN B x y n + 1)))
  | 0, _ => ⟨Nat.le_refl _, by show x / 2 ^ B = y / 2 ^ B; rw [Nat.div_eq_of_lt hx, Nat.div_eq_of_lt hy], .inl rfl⟩
  | c + 1, hn => by
    unfold alN
    split
    · rename_i e; exact ⟨Nat.le_refl _, e, .inl rfl⟩
    · rename_i e
      obtain ⟨a1, a2, a3⟩ := tJ hx hy c (by omega)
      refine ⟨by omega, a2, .inr ?_⟩
      rcases a3 with z | z
      · rw [z]; exact e
      · exact z
def al (B x y:Nat):Nat:=alN B x y B
theorem jm {B x y:Nat} (hx:x<2^B) (hy:y<2^B):mx B x y (al B x y):=tJ hx hy B (Nat.le_refl _)
theorem nZ {B x y:Nat} (hx:x<2^B) (hy:y<2^B) (ne:x≠y):al B x y<B∧st B x (al B x y)=st B y (al B x y)∧sd B x (al B x y)≠sd B y (al B x y):=by
 obtain ⟨a1,a2,a3⟩:=jm hx hy
 have lt:al B x y<B:=by
   rcases Nat.lt_or_ge (al B x y) B with h | h
   · exact h
   · exfalso
     have e:al B x y=B:=by omega
     rw [e,Nat.sub_self,Nat.pow_zero,Nat.div_one,Nat.div_one] at a2
     exact ne a2
 refine ⟨lt,a2,fun z=>?_⟩
 rcases a3 with h | h
 · omega
 · apply h
   have e1:=@cm B x _ lt
   have e2:=@cm B y _ lt
   show st B x (al B x y+1)=st B y (al B x y+1)
   have a2':st B x (al B x y)=st B y (al B x y):=a2
   rw [e1,e2,a2',z]
theorem oO {B x y d e:Nat} (h1:d≤e) (h2:e≤B) (h:st B x e=st B y e):st B x d=st B y d:=by rw [jT h1 h2,jT h1 h2,h]
def dU (B d key:Nat) (x:α) (t:Kn α):Kn α:=if sd B key d=0 then .fork d (st B key d) (.leaf key x) t else .fork d (st B key d) t (.leaf key x)
def bW (B key : Nat) (x : α) : Kn α → Kn α
  | .bare => .leaf key x
  | .leaf k t => if key = k then .leaf key x else dU B (al B key k) key x (.leaf k t)
  | .fork d b l r => if st B key d = b then (if sd B key d = 0 then .fork d b (bW B key x l) r else .fork d b l (bW B key x r))
    else dU B (al d b (st B key d)) key x (.fork d b l r)
theorem WF.lift {B d0 b0 d b : Nat} : ∀ {t : Kn α}, WF B d0 b0 t → (∀ p ∈ aG t, st B p.1 d = b) → d ≤ B → d0 ≤ B → (∀ e b' l r, t = .fork e b' l r → d ≤ e) → WF B d b t
  | .bare, h, _, _, _, _ => h.elim
  | .leaf k t, h, hs, _, _, _ => ⟨h.1, hs (k, t) (List.mem_singleton.mpr rfl)⟩
  | .fork e b' l r, h, hs, hd, _, he => by
    have hf := h
    obtain ⟨h1, h2, h3, hl, hr⟩ := h
    have hde := he e b' l r rfl
    refine ⟨hde, h2, ?_, hl, hr⟩
    obtain ⟨p, hp⟩ := WF.ne (d0 := 0) (b0 := 0) hl
    have := hs p (List.mem_append_left _ hp)
    rw [jT hde (by omega), (hf.left p hp).1] at this
    exact this
theorem oW {B d0 b0 d key:Nat} {x:α} {t:Kn α} (h:WF B d0 b0 t) (hk:key<2^B) (hd:d<B) (h0:d0≤d) (hkb:st B key d0=b0) (hs:∀ p∈aG t,st B p.1 d=st B key d∧sd B p.1 d≠sd B key d)
   (he:∀ e b' l r,t=.fork e b' l r→d<e):WF B d0 b0 (dU B d key x t)∧∀ k,aD B k (dU B d key x t)=if k=key then some x else aD B k t:=by
 have lt:=@fe B key d
 have up:∀ p∈aG t,st B p.1 (d+1)=2*st B key d+(1 - sd B key d):=fun p hp=>by
   obtain ⟨a,c⟩:=hs p hp
   have:=@fe B p.1 d
   rw [cm hd,a]
   omega
 have wt:WF B (d+1) (2*st B key d+(1 - sd B key d)) t:=h.lift up hd (by omega) fun e b' l r z=>he e b' l r z
 have wk:WF B (d+1) (2*st B key d+sd B key d) (Kn.leaf key x):=⟨hk,cm hd⟩
 have pre:st B key d/2^(d - d0)=b0:=by rw [← jT h0 (by omega)];exact hkb
 unfold dU
 by_cases e:sd B key d=0
 · rw [if_pos e]
   rw [e] at wt wk
   refine ⟨⟨h0,hd,pre,wk,wt⟩,fun k=>?_⟩
   show (if sd B k d=0 then (if k=key then some x else none) else aD B k t)=_
   by_cases ek:k=key
   · subst ek;rw [if_pos e,if_pos rfl,if_pos rfl]
   · rw [if_neg ek,if_neg ek]
     by_cases e2:sd B k d=0
     · rw [if_pos e2,cy h,cX fun p hp z=>?_]
       have:=(hs p hp).2
       rw [z] at this;omega
     · rw [if_neg e2]
 · rw [if_neg e]
   have e1:sd B key d=1:=by omega
   rw [e1] at wt wk
   refine ⟨⟨h0,hd,pre,wt,wk⟩,fun k=>?_⟩
   show (if sd B k d=0 then aD B k t else (if k=key then some x else none))=_
   by_cases ek:k=key
   · subst ek;rw [if_neg e,if_pos rfl,if_pos rfl]
   · rw [if_neg ek,if_neg ek]
     by_cases e2:sd B k d=0
     · rw [if_pos e2]
     · rw [if_neg e2,cy h,cX fun p hp z=>?_]
       have w:=(hs p hp).2
       have:=@fe B k d
       rw [z] at w;omega
theorem km {B key : Nat} {x : α} (hk : key < 2 ^ B) : ∀ {t : Kn α} {d0 b0 : Nat}, d0 ≤ B → WF B d0 b0 t → st B key d0 = b0 → WF B d0 b0 (bW B key x t) ∧ ∀ k, aD B k (bW B key x t) = if k = key then some x else aD B k t
  | .bare, _, _, _, h, _ => h.elim
  | .leaf k t, d0, b0, h0, h, hb => by
    unfold bW
    by_cases e : key = k
    · subst e
      rw [if_pos rfl]
      refine ⟨h, fun k' => ?_⟩
      show (if k' = key then some x else none) = if k' = key then some x else (if k' = key then some t else none)
      by_cases e : k' = key
      · rw [if_pos e, if_pos e]
      · rw [if_neg e, if_neg e, if_neg e]
    · rw [if_neg e]
      obtain ⟨a1, a2, a3⟩ := nZ hk h.1 e
      refine oW h hk a1 ?_ hb (fun p hp => ?_) fun _ _ _ _ z => nomatch z
      · apply Classical.byContradiction
        intro hn
        apply a3
        have q : st B key (al B key k + 1) = st B k (al B key k + 1) := oO (by omega) h0 (by rw [hb, h.2])
        rw [cm a1, cm a1] at q
        omega
      · rw [List.mem_singleton.mp hp]
        exact ⟨a2.symm, Ne.symm a3⟩
  | .fork d b l r, d0, b0, h0, h, hb => by
    have hf := h
    obtain ⟨h1, h2, h3, hl, hr⟩ := h
    unfold bW
    by_cases e : st B key d = b
    · rw [if_pos e]
      by_cases e2 : sd B key d = 0
      · rw [if_pos e2]
        obtain ⟨w, f⟩ := km (x := x) hk (by omega) hl (by rw [cm h2, e, e2]; rfl)
        refine ⟨⟨h1, h2, h3, w, hr⟩, fun k => ?_⟩
        show (if sd B k d = 0 then aD B k (bW B key x l) else aD B k r) = if k = key then some x else (if sd B k d = 0 then aD B k l else aD B k r)
        rw [f k]
        by_cases ek : k = key
        · subst ek; rw [if_pos e2, if_pos rfl, if_pos rfl]
        · rw [if_neg ek, if_neg ek]
      · rw [if_neg e2]
        have lt := @fe B key d
        obtain ⟨w, f⟩ := km (x := x) hk (by omega) hr (by rw [cm h2, e]; omega)
        refine ⟨⟨h1, h2, h3, hl, w⟩, fun k => ?_⟩
        show (if sd B k d = 0 then aD B k l else aD B k (bW B key x r)) = if k = key then some x else (if sd B k d = 0 then aD B k l else aD B k r)
        rw [f k]
        by_cases ek : k = key
        · subst ek; rw [if_neg e2, if_pos rfl, if_pos rfl]
        · rw [if_neg ek, if_neg ek]
    · rw [if_neg e]
      have all : ∀ p ∈ aG (Kn.fork d b l r), st B p.1 d = b ∧ p.1 < 2 ^ B := fun p hp => ⟨(List.mem_append.mp hp).elim (fun z => (hf.left p z).1) fun z => (hf.right p z).1, (hf.mem h0 p hp).1⟩
      obtain ⟨p0, hp0⟩ := WF.ne (d0 := 0) (b0 := 0) hf
      have stlt : ∀ k, k < 2 ^ B → st B k d < 2 ^ d := fun k hk => by
        unfold st
        rw [Nat.div_lt_iff_lt_mul (Nat.two_pow_pos _), ← Nat.pow_add, show d + (B - d) = B by omega]
        exact hk
      have hbl : b < 2 ^ d := by rw [← (all p0 hp0).1]; exact stlt _ (all p0 hp0).2
      obtain ⟨a1, a2, a3⟩ := nZ hbl (stlt key hk) (Ne.symm e)
      generalize al d b (st B key d) = a at a1 a2 a3 ⊢
      have pp : ∀ k, st d (st B k d) a = st B k a := fun k => by
        unfold st
        rw [Nat.div_div_eq_div_mul, ← Nat.pow_add, show B - d + (d - a) = B - a by omega]
      have ps : ∀ k, sd d (st B k d) a = sd B k a := fun k => by
        unfold sd st
        rw [Nat.div_div_eq_div_mul, ← Nat.pow_add, show B - d + (d - 1 - a) = B - 1 - a by omega]
      have ea : ∀ p ∈ aG (Kn.fork d b l r), st B p.1 a = st B key a ∧ sd B p.1 a ≠ sd B key a := fun p hp => by
        have q := (all p hp).1
        rw [← pp p.1, ← pp key, ← ps p.1, ← ps key, q]
        exact ⟨a2, a3⟩
      refine oW hf hk (by omega) ?_ hb ea fun e' _ _ _ z => by cases z; exact a1
      apply Classical.byContradiction
      intro hn
      apply (ea p0 hp0).2
      have q : st B p0.1 (a + 1) = st B key (a + 1) := oO (by omega) h0 (by rw [hb, (hf.mem h0 p0 hp0).2])
      rw [cm (by omega), cm (by omega), (ea p0 hp0).1] at q
      omega
def aL (B key:Nat):Kn α→Kn α
 | .bare=> .bare
 | .leaf k t=>if key=k then .bare else .leaf k t
 | .fork d b l r=>if sd B key d=0 then (match aL B key l with | .bare=>r | u=> .fork d b u r) else (match aL B key r with | .bare=>l | u=> .fork d b l u)
theorem gO {B key : Nat} : ∀ {t : Kn α} {d0 b0 : Nat}, d0 ≤ B → WF B d0 b0 t → (aL B key t = .bare ∨ WF B d0 b0 (aL B key t)) ∧ ∀ k, aD B k (aL B key t) = if k = key then none else aD B k t
  | .bare, _, _, _, h => h.elim
  | .leaf k t, d0, b0, h0, h => by
    unfold aL
    by_cases e : key = k
    · subst e
      rw [if_pos rfl]
      refine ⟨.inl rfl, fun k' => ?_⟩
      show none = if k' = key then none else (if k' = key then some t else none)
      by_cases e : k' = key
      · rw [if_pos e]
      · rw [if_neg e, if_neg e]
    · rw [if_neg e]
      refine ⟨.inr h, fun k' => ?_⟩
      show (if k' = k then some t else none) = if k' = key then none else (if k' = k then some t else none)
      by_cases e' : k' = key
      · rw [if_pos e', if_neg fun z => e (e'.symm.trans z)]
      · rw [if_neg e']
  | .fork d b l r, d0, b0, h0, h => by
    have hf := h
    obtain ⟨h1, h2, h3, hl, hr⟩ := h
    have one : ∀ {u : Kn α}, WF B (d + 1) (2 * b) u ∨ WF B (d + 1) (2 * b + 1) u → WF B d0 b0 u := fun {u} hu => by
      have hm : ∀ p ∈ aG u, st B p.1 d = b := fun p hp => by
        rcases hu with hu | hu
        · have c := (hu.mem (by omega) p hp).2
          rw [cm h2] at c
          have := @fe B p.1 d
          omega
        · have c := (hu.mem (by omega) p hp).2
          rw [cm h2] at c
          have := @fe B p.1 d
          omega
      have hm0 : ∀ p ∈ aG u, st B p.1 d0 = b0 := fun p hp => by rw [jT h1 (by omega), hm p hp]; exact h3
      rcases hu with hu | hu
      · exact hu.lift hm0 h0 (by omega) fun e b' l' r' z => by subst z; have := hu.1; omega
      · exact hu.lift hm0 h0 (by omega) fun e b' l' r' z => by subst z; have := hu.1; omega
    unfold aL
    by_cases e : sd B key d = 0
    · rw [if_pos e]
      obtain ⟨w, f⟩ := gO (key := key) (by omega) hl
      cases q : aL B key l with
      | bare =>
        rw [q] at f
        refine ⟨.inr (one (.inr hr)), fun k => ?_⟩
        show aD B k r = if k = key then none else (if sd B k d = 0 then aD B k l else aD B k r)
        have fk : none = if k = key then none else aD B k l := f k
        by_cases ek : k = key
        · subst ek
          rw [if_pos rfl, cy hr, cX fun p hp z => ?_]
          have := (hf.right p hp).2
          rw [z] at this; omega
        · rw [if_neg ek] at fk ⊢
          by_cases e2 : sd B k d = 0
          · rw [if_pos e2, ← fk, cy hr, cX fun p hp z => ?_]
            have := (hf.right p hp).2
            rw [z] at this; omega
          · rw [if_neg e2]
      | leaf k' t' =>
        rw [q] at w f
        have w' := w.resolve_left (by intro z; cases z)
        refine ⟨.inr ⟨h1, h2, h3, w', hr⟩, fun k => ?_⟩
        show (if sd B k d = 0 then aD B k (.leaf k' t') else aD B k r) = _
        rw [f k]
        show _ = if k = key then none else (if sd B k d = 0 then aD B k l else aD B k r)
        by_cases ek : k = key
        · subst ek; rw [if_pos e, if_pos rfl, if_pos rfl]
        · rw [if_neg ek, if_neg ek]
      | fork d' b' l' r' =>
        rw [q] at w f
        have w' := w.resolve_left (by intro z; cases z)
        refine ⟨.inr ⟨h1, h2, h3, w', hr⟩, fun k => ?_⟩
        show (if sd B k d = 0 then aD B k (.fork d' b' l' r') else aD B k r) = _
        rw [f k]
        show _ = if k = key then none else (if sd B k d = 0 then aD B k l else aD B k r)
        by_cases ek : k = key
        · subst ek; rw [if_pos e, if_pos rfl, if_pos rfl]
        · rw [if_neg ek, if_neg ek]
    · rw [if_neg e]
      have e1 : sd B key d = 1 := by have := @fe B key d; omega
      obtain ⟨w, f⟩ := gO (key := key) (by omega) hr
      cases q : aL B key r with
      | bare =>
        rw [q] at f
        refine ⟨.inr (one (.inl hl)), fun k => ?_⟩
        show aD B k l = if k = key then none else (if sd B k d = 0 then aD B k l else aD B k r)
        have fk : none = if k = key then none else aD B k r := f k
        by_cases ek : k = key
        · subst ek
          rw [if_pos rfl, cy hl, cX fun p hp z => ?_]
          have := (hf.left p hp).2
          rw [z] at this; omega
        · rw [if_neg ek] at fk ⊢
          by_cases e2 : sd B k d = 0
          · rw [if_pos e2]
          · rw [if_neg e2, ← fk, cy hl, cX fun p hp z => ?_]
            have := (hf.left p hp).2
            rw [z] at this; omega
      | leaf k' t' =>
        rw [q] at w f
        have w' := w.resolve_left (by intro z; cases z)
        refine ⟨.inr ⟨h1, h2, h3, hl, w'⟩, fun k => ?_⟩
        show (if sd B k d = 0 then aD B k l else aD B k (.leaf k' t')) = _
        rw [f k]
        show _ = if k = key then none else (if sd B k d = 0 then aD B k l else aD B k r)
        by_cases ek : k = key
        · subst ek; rw [if_neg e, if_pos rfl, if_pos rfl]
        · rw [if_neg ek, if_neg ek]
      | fork d' b' l' r' =>
        rw [q] at w f
        have w' := w.resolve_left (by intro z; cases z)
        refine ⟨.inr ⟨h1, h2, h3, hl, w'⟩, fun k => ?_⟩
        show (if sd B k d = 0 then aD B k l else aD B k (.fork d' b' l' r')) = _
        rw [f k]
        show _ = if k = key then none else (if sd B k d = 0 then aD B k l else aD B k r)
        by_cases ek : k = key
        · subst ek; rw [if_neg e, if_pos rfl, if_pos rfl]
        · rw [if_neg ek, if_neg ek]
theorem uw : ∀ {l m : List (Nat × α)}, fJ l → fJ m → (∀ k, look k l = look k m) → l = m
  | [], [], _, _, _ => rfl
  | [], q :: m, _, _, h => by
    have := h q.1
    have e : look q.1 (q :: m) = some q.2 := if_pos rfl
    rw [e] at this; cases this
  | p :: l, [], _, _, h => by
    have := h p.1
    have e : look p.1 (p :: l) = some p.2 := if_pos rfl
    rw [e] at this; cases this
  | p :: l, q :: m, hl, hm, h => by
    obtain ⟨l1, l2⟩ := List.pairwise_cons.mp hl
    obtain ⟨m1, m2⟩ := List.pairwise_cons.mp hm
    have no : ∀ {p : Nat × α} {l : List (Nat × α)}, (∀ q ∈ l, p.1 < q.1) → ∀ k, k ≤ p.1 → look k l = none := fun hp k hk => cX fun q hq z => by have := hp q hq; omega
    have ep : look p.1 (p :: l) = some p.2 := if_pos rfl
    have eq : look q.1 (q :: m) = some q.2 := if_pos rfl
    have e1 : p.1 = q.1 := by
      rcases Nat.lt_trichotomy p.1 q.1 with z | z | z
      · have w := h p.1
        rw [ep] at w
        have : look p.1 (q :: m) = none := by
          show (if p.1 = q.1 then some q.2 else look p.1 m) = none
          rw [if_neg (by omega)]
          exact no m1 _ (by omega)
        rw [this] at w; cases w
      · exact z
      · have w := h q.1
        rw [eq] at w
        have : look q.1 (p :: l) = none := by
          show (if q.1 = p.1 then some p.2 else look q.1 l) = none
          rw [if_neg (by omega)]
          exact no l1 _ (by omega)
        rw [this] at w; cases w
    have e2 : p = q := by
      have w := h p.1
      rw [ep, e1, eq] at w
      exact Prod.ext e1 (Option.some.inj w)
    subst e2
    have e3 : l = m := uw l2 m2 fun k => by
      by_cases e : k = p.1
      · subst e; rw [no l1 _ (Nat.le_refl _), no m1 _ (Nat.le_refl _)]
      · have w := h k
        have a : look k (p :: l) = look k l := if_neg e
        have b : look k (p :: m) = look k m := if_neg e
        rw [a, b] at w; exact w
    rw [e3]
end
end Rs
namespace L2
open PySem PySem.Spec PyProof.Rows
def txV (ka:List (Key×Str)):List (Key×V):=ka.map fun p=>(p.1,V.str p.2)
def kAt (kb:List (Key×Str)) (k:Key):Option Str:=(kb.find? fun p=>decide (p.1=k)).map (·.2)
def BS (ka kb:List (Key×Str)):Bool:=ka.length==kb.length&&ka.all fun p=>decide (kAt kb p.1=some p.2)
theorem AO (kb:List (Key×Str)) (k:Key):bD (txV kb) k=(kAt kb k).map V.str:=by
 unfold bD txV kAt
 rw [List.find?_map]
 simp only [Option.map_map]
 congr 1
theorem rp {A : Around} {s : Shared} {kb : List (Key × Str)} {vb : List (Key × Value)} (rb : KV (txV kb) vb) : ∀ {ka : List (Key × Str)} {va : List (Key × Value)}, KV (txV ka) va → W.KeqHits A s vb va (ka.all fun p => decide (kAt kb p.1 = some p.2))
  | [], _, h => by cases h; exact .nil
  | p :: ka, _, h => by
    cases h with
    | @cons _ q _ va e r =>
      obtain ⟨k, v⟩ := q
      obtain ⟨e1, e2⟩ := e
      have e1 : p.1 = k := e1
      subst e1
      obtain ⟨t, rfl⟩ : ∃ t, v = Value.str p.2 t := e2
      have rv := rb.val p.1
      rw [AO] at rv
      rw [List.all_cons]
      have ih := rp (A := A) (s := s) rb (ka := ka) r
      cases hk : kAt kb p.1 with
      | none =>
        rw [hk] at rv
        have hv : valueAt vb p.1 = none := by
          cases hv : valueAt vb p.1 with
          | none => rfl
          | some y => rw [hv] at rv; exact rv.elim
        rw [decide_eq_false (fun z => nomatch z), Bool.false_and]
        exact .miss hv
      | some z =>
        rw [hk] at rv
        cases hv : valueAt vb p.1 with
        | none => rw [hv] at rv; exact rv.elim
        | some y =>
          rw [hv] at rv
          obtain ⟨t2, rfl⟩ : ∃ t2, y = Value.str z t2 := rv
          have e3 : decide (some z = some p.2) = decide (p.2 = z) := decide_eq_decide.mpr ⟨fun h => (Option.some.inj h).symm, fun h => by rw [h]⟩
          rw [e3]
          exact .hit hv (SeqAt.EqAt.str_str p.2 t z t2) ih
section
variable {X:Cx}
def zu:R2:=fun x y H Q=>∃ a b ka kb,x=.ref a∧y=.ref b∧H a=some (.dK (txV ka))∧H b=some (.dK (txV kb))∧Q (.bl (!BS ka kb)) H
theorem AL (hu:X.A.units<cLine):OpR X (compareOp .NotEq) zu:=by
 intro pins s σ H x y v u Q I rx ry h
 obtain ⟨a,b,ka,kb,rfl,rfl,ha,hb,q⟩:=h
 cases rx
 cases ry
 obtain ⟨_,la,va,ra,da⟩:=jR I.hok ha
 obtain ⟨_,lb,vb,rb,db⟩:=jR I.hok hb
 have e1:va.length=ka.length:=by rw [← ra.length];exact List.length_map _
 have e2:vb.length=kb.length:=by rw [← rb.length];exact List.length_map _
 refine W.keq_ne la lb da db hu (fun _=>rp rb ra) ⟨.bl (!BS ka kb),H,I,?_,q⟩
 show Value.bool _=Value.bool _
 rw [e1,e2];rfl
end
def Ite (K:W.Frag) (a:Addr):It where
 go:=fun i H=>∃ xs x,SqL K H a xs∧xs[i]?=some x
 yld:=fun i H v H'=>∃ p,v=.ref p∧H p=none∧∀ xs,SqL K H a xs→∃ x,xs[i]?=some x∧H'=upd H p (.tup [.int (i:Int),x])
 stop:=fun i H=>∃ xs,SqL K H a xs∧xs.length≤i
theorem AB:bootBuiltins "enumerate" =some (.type "enumerate"):=by decide +kernel
theorem tZ {P:Program} {w:World} {K:W.Frag} {elts:List Expr} {ek:Nat} {ep:Pos} (a e it:Addr) (ne:e≠it):
  kF P w K (.Tuple elts ek ep) (Ite K a) [e,it] e (fun i h=>(∃ old,IsEnum h e it i old)∧h.IsListIter it a i) where
 mem:=by simp
 obj:=fun i h st c hc=>by
  obtain ⟨⟨old,he⟩,o1,e1,c1,d1⟩:=st
  simp only [List.mem_cons,List.not_mem_nil,or_false] at hc
  rcases hc with rfl | rfl
  · exact ⟨_,he,fun v q=>by cases q⟩
  · exact ⟨o1,e1,fun v q=>by rw [d1] at q;cases q⟩
 keep:=fun i h h' st k=>by
  obtain ⟨⟨old,he⟩,h1⟩:=st
  exact ⟨⟨old,k e (by simp) _ he⟩,h1.at fun o q=>k it (by simp) o q⟩
 item:=by
  intro X hP hw hK hc i pins s σ H E I hf st hg
  subst hP hw hK
  obtain ⟨xs,x,hx,ex⟩:=hg
  obtain ⟨its,r1,p1,_⟩:=I.list hx
  obtain ⟨u,gu,ru⟩:=r1.get ex
  obtain ⟨⟨old,z1⟩,z4⟩:=st
  refine wpAny_pyNext_enum_item (items:=its.toArray) (x:=u) z1 z4 (gC p1) (by simpa using gu) ne fun h1 y1 y4 hT hsz hk=>?_
  refine ⟨_,rfl,wpAny_letOwnedTupleGo_enum (s:={ s with heap:=h1,toks:=s.toks+1 }) y1 fun h2 hz2 hs2=>?_⟩
  have Tn:∀ c∈[e,it],c≠s.heap.objs.size:=fun c hc q=>by
    obtain ⟨o,eo⟩:∃ o,s.heap.get? c=some o:=by
     simp only [List.mem_cons,List.not_mem_nil,or_false] at hc
     rcases hc with rfl | rfl
     · exact ⟨_,z1⟩
     · obtain ⟨_,q,_⟩:=z4;exact ⟨_,q⟩
    have:=Heap.lt_size eo
    rw [q] at this;exact Nat.lt_irrefl _ this
  have k2:∀ c o,c∉[e,it]→s.heap.get? c=some o→h2.get? c=some o:=fun c o hc q=>by
    simp only [List.mem_cons,List.not_mem_nil,or_false,not_or] at hc
    exact hs2.extBut _ _ hc.1 (hk c o hc.1 hc.2 q)
  have I1:Inv X pins σ H { s with heap:=h2,toks:=s.toks+1 }:=I.turnedL k2 hf
  have hTe:s.heap.objs.size≠e:=fun q=>Tn e (by simp) q.symm
  have hT2:=hs2.extBut _ _ hTe hT
  have hfr:H s.heap.objs.size=none:=I.hok.fresh (Nat.le_refl _)
  have I2:Inv X pins σ (upd H s.heap.objs.size (.tup [.int (i:Int),x])) { s with heap:=h2,toks:=s.toks+1 }:=
    Inv.track2 I I1 (Nat.le_refl _) hfr ⟨by show 2≤sizeLine;decide,[.int i s.toks,u],.cons ⟨_,rfl⟩ (.cons ru .nil),⟨_,hT2,rfl,_,rfl⟩⟩
  refine ⟨.ref s.heap.objs.size,_,I2,rfl,⟨_,rfl,hfr,fun xs' hx'=>⟨x,by rw [I.list_inj hx' hx];exact ex,rfl⟩⟩,?_,fun c hc=>?_⟩
  · exact ⟨⟨_,hz2⟩,y4.at fun o q=>hs2.extBut _ _ (Ne.symm ne) q⟩
  · rw [ap (Tn c hc)];exact (hf c hc).1
 done:=by
  intro X hP hw hK hc i pins s σ H E I hf st hg
  subst hP hw hK
  obtain ⟨xs,hx,hl⟩:=hg
  obtain ⟨its,r1,p1,_⟩:=I.list hx
  have l1:=r1.length
  obtain ⟨⟨old,z1⟩,z4⟩:=st
  refine wpAny_pyNext_enum_end (items:=its.toArray) (I.ok.hd hc) z1 z4 (gC p1) (by simp;omega) fun h1 hk=>⟨rfl,I.turnedL (t':=s.toks) (fun c o hc q=>?_) hf⟩
  simp only [List.mem_cons,List.not_mem_nil,or_false,not_or] at hc
  exact hk c o hc.2 q
 self:=fun _ _ _ _ _ st h=>by
  obtain ⟨⟨old,z1⟩,_⟩:=st
  exact wpAny_pyIter_enum z1 h
section
variable {X:Cx} {a:Expr} {t:TA} {p pos ep:Pos} {elts:List Expr} {ek:Nat}
def yE (K:W.Frag) (t:TA):TI:=fun σ H R=>t σ H fun vs H1=>∃ c xs,vs=[.ref c]∧SqL K H1 c xs∧R (Ite K c) H1
theorem uI:∀ (pins:List (Addr×Obj)) (s:Shared) (σ:St) (H:Hp) (us:List Value) (vs:List V) (R:It→Hp→Prop),Inv X pins σ H s→aX vs us→(∃ c xs,vs=[.ref c]∧SqL X.K H c xs∧R (Ite X.K c) H)→
  wpAny (model X.prog X.w) X.A (call (.type "enumerate") us) (fun v s1=>wpAny (model X.prog X.w) X.A (pyIter v) (PIE X pins σ (.Tuple elts ek ep) R) X.xe s1) X.xe s:=by
 intro pins s σ H us vs R I r h
 obtain ⟨c,xs,rfl,hx,q⟩:=h
 obtain ⟨u,rfl,r1⟩:=eS r
 cases r1
 obtain ⟨its,rv1,p1,_⟩:=I.list hx
 refine call_enumerate_list (show s.heap.IsList c its.toArray from (gC p1)) fun h' y1 y2 _ hk=>?_
 refine wpAny_pyIter_enum (s:={ s with heap:=h' }) y1 ?_
 refine ⟨s.heap.objs.size+1,[s.heap.objs.size+1,s.heap.objs.size],_,Ite X.K c,H,rfl,I.kept (t':=s.toks) hk,tZ c (s.heap.objs.size+1) s.heap.objs.size (Nat.succ_ne_self _),⟨⟨_,y1⟩,y2⟩,fun b hb=>?_,q⟩
 have:s.heap.objs.size≤b:=by
  simp only [List.mem_cons,List.not_mem_nil,or_false] at hb
  rcases hb with rfl | rfl <;> omega
 exact I.fpOk this (I.hok.fresh this)
theorem CA (hm:X.mg "enumerate" =none) (ha:QA X [a] t) (hg:Gl X "enumerate" :=by rfl) (hs:bn [a]=true:=by rfl):QI X (.Tuple elts ek ep) (.Call (.Name "enumerate" p) [a] [] pos) (yE X.K t):=⟨fun pins s σ H R I h=>by
 have h':(bZ a&&bn [])=true:=hs
 refine wpAny_Call_Name_kw (jy I hg hm AB ?_ (by decide) (by decide))
 exact PyProof.Rows.callWith_type1 (thn (ha.out pos pins s σ H _ I h) fun us s1 ⟨vs,H1,I1,r1,q1⟩=>uI pins s1 σ H1 us vs R I1 r1 q1)
  (bo (Bool.and_eq_true_iff.mp h').1 [] X.env) (bU (Bool.and_eq_true_iff.mp h').2)⟩
end
theorem wV {K:W.Frag} {a:Addr} {xs:List V} {g:TG} {tb:TS} {D:fN} {σ:St} {H:Hp} (Pv:Nat→St→Hp→Prop) (h0:Pv 0 σ H) (hl:∀ i σ H,i≤xs.length→Pv i σ H→SqL K H a xs)
   (hs:∀ i x σ H p,xs[i]?=some x→Pv i σ H→H p=none→g (.ref p) σ (upd H p (.tup [.int (i:Int),x])) fun σ2 H2=>tb { D with nx:=Pv (i+1),ct:=Pv (i+1),bk:=D.nx } σ2 H2) (hd:∀ σ H,Pv xs.length σ H→D.nx σ H):
   ∃ W:Nat→Nat→St→Hp→Prop,(∃ m,W 0 m σ H)∧∀ i m σ H,W i m σ H→
    ((Ite K a).stop i H∧D.nx σ H)∨((Ite K a).go i H∧∃ N:St→Hp→Prop,(∀ σ' H',N σ' H'→∃ m',m'<m∧W (i+1) m' σ' H')∧∀ x H',(Ite K a).yld i H x H'→g x σ H' fun σ2 H2=>tb { D with nx:=N,ct:=N,bk:=D.nx } σ2 H2):=by
 refine ⟨fun i m σ H=>m=xs.length - i∧i≤xs.length∧Pv i σ H,⟨xs.length,by simp,Nat.zero_le _,h0⟩,?_⟩
 rintro i m σ H ⟨rfl,hi,p⟩
 have q1:=hl i σ H hi p
 by_cases hlt:i<xs.length
 · refine .inr ⟨⟨xs,_,q1,List.getElem?_eq_getElem hlt⟩,Pv (i+1),fun σ' H' p'=>⟨xs.length - (i+1),by omega,rfl,hlt,p'⟩,fun v H' yl=>?_⟩
   obtain ⟨pp,rfl,hn,hy⟩:=yl
   obtain ⟨x,ex,rfl⟩:=hy xs q1
   exact hs i x σ H pp ex p hn
 · have:i=xs.length:=by omega
   subst this
   exact .inl ⟨⟨xs,q1,Nat.le_refl _⟩,hd σ H p⟩
end L2
namespace L2
open PySem PySem.Spec PyProof.Rows PySem.W
section
variable {X:Cx}
def oR (K:W.Frag):List V→Hp→VK→Prop:=fun xs H Q=>∃ a rs,xs=[.ref a]∧H a=some (.dK (io rs))∧rs.length<64∧∀ (l:Addr) (ns:List Int),H l=none→ns.Perm (rs.map (·.1))→ns.Pairwise (·≤·)→Q (.ref l) (upd H l (.lst (ns.map V.int)))
theorem tL (hc : X.calm = true) : bx X (.builtin "sorted") (oR X.K) := fun pins s σ H xs us Q I r h => by
  obtain ⟨a, rs, rfl, ha, h64, q⟩ := h
  obtain ⟨u, rfl, ru⟩ := eS r
  cases (show u = Value.ref a from ru)
  obtain ⟨z, hd, vs, rel, dd⟩ := jR I.hok ha
  obtain ⟨ep, dat⟩ := dd.dictAt
  have lv := BK rel
  refine Calls.call_function_entry kind_sorted plain_sorted entry_sorted (args_sorted1 _) ?_
  unfold Builtin.«sorted»
  refine wpAny_bind (m := checkCount "sorted" 1 1 _) (wpAny_pure ?_)
  refine wpAny_bind (kdu_collect (A := X.A.in1) (kdl_dict (knd := bN X.prog X.w) (kvs := vs) (ep := ep) hd) (I.ok.hd hc) dat (by rw [lv, sizeLine_eq]; omega) fun h1 tk acc hk hacc => ?_)
  have la : acc.toList.length = rs.length := by rw [Array.length_toList, ← lv]; exact hacc.1
  refine wpAny_bind (wpAny_newList ?_ (by rw [la, sizeLine_eq]; omega))
  have hB : (h1.push { cls := .type "list", data := .seq acc.toList.toArray }).get? h1.objs.size = some (seqObj "list" acc.toList.toArray 0) := Heap.get?_push_size _ rfl
  have hI : IntsAre acc.toList (rs.map (·.1)) := by
    have : ∀ (l : List Value) (ns : List Int), l.length = ns.length → (∀ (j : Nat) (v : Value), l[j]? = some v → ∃ n t, ns[j]? = some n ∧ v = .int n t) → IntsAre l ns := by
      intro l
      induction l with
      | nil => intro ns hl _; cases ns with
        | nil => exact .nil
        | cons => simp at hl
      | cons v l ih =>
        intro ns hl hv
        cases ns with
        | nil => simp at hl
        | cons n ns =>
          obtain ⟨n', t, e, rfl⟩ := hv 0 v rfl
          cases e
          exact .cons n t (ih ns (by simpa using hl) fun j v hj => by simpa using hv (j + 1) v (by simpa using hj))
    refine this _ _ (by rw [la, List.length_map]) fun j v hj => ?_
    obtain ⟨k, x, e1, e2⟩ := hacc.2 j v (by rw [← Array.getElem?_toList]; exact hj)
    obtain ⟨r, er, rfl, _⟩ := Gs rel e1
    obtain ⟨t, rfl⟩ := AW e2
    exact ⟨r.1, t, by rw [List.getElem?_map, er]; rfl, rfl⟩
  refine wpAny_bind (wpAny_holding (wpAny_call_entry slot_list_sort ⟨_, hB, rfl⟩ entry_list_sort ?_ (args_list_sort _)))
  refine list_sort_tree hB hI (by rw [la]; exact h64) fun out ns' hI' pm up => ?_
  refine ⟨_, rfl, wpAny_pure ⟨_, rfl, ?_⟩⟩
  obtain ⟨c, hBa⟩ := sortedHeap_at (out := out) hB
  have lt1 : ∀ b o, h1.get? b = some o → b < h1.objs.size := fun b o e => Heap.lt_size e
  have nw : New s.heap h1.objs.size := fun b u e z => by subst z; exact Nat.lt_irrefl _ (lt1 _ _ (hk _ u e))
  have I1 : Inv X pins σ H { s with heap := sortedHeap (h1.push { cls := .type "list", data := .seq acc.toList.toArray }) h1.objs.size acc.toList out, toks := tk } := I.kept fun b o e => by
    rw [sortedHeap_old (Nat.ne_of_lt (lt1 _ _ (hk b o e))) (by rw [Heap.size_push]; exact Nat.lt_succ_of_lt (lt1 _ _ (hk b o e)))]
    exact Heap.get?_push_of_some _ (hk b o e)
  have lo : ns'.length = rs.length := by rw [pm.length_eq, List.length_map]
  have hl2 : (ns'.map V.int).length ≤ sizeLine := by rw [List.length_map, lo, sizeLine_eq]; omega
  exact ⟨.ref h1.objs.size, _, Inv.track3 I I1 nw (nw.free I) (o := .lst (ns'.map V.int)) ⟨hl2, out.toList, c, jw hI', by rw [hBa, Array.toArray_toList]⟩, rfl, q _ ns' (nw.free I) pm up⟩
def pS (K:W.Frag):V→Option Int→Option Int→Hp→VK→Prop:=fun x lo hi H Q=>(BC K x lo hi H Q∨False)∨Ee x lo hi H Q
theorem zU:SlR X (fun _ _ _ _ _=>False):=fun _ _ _ _ _ _ _ _ _ _ _ _ _ _ _ _ _ h=>h.elim
theorem jA:SlR X (pS X.K):=(Al.or zU).or Bz
end
end L2
namespace Rs
open PySem PySem.Spec PyProof.Rows L2
abbrev gOp:=List Key→Option Key
def bV (s:Stmt) (j:Nat):Stmt:=match s with
 | .ClassDef _ _ _ b _ _ _ _ _ _ _=>b.getD j (.Pass ⟨0,0,0,0⟩)
 | _=> .Pass ⟨0,0,0,0⟩
def top (i:Nat):Stmt:=PySem.Challenge.pw_rootstamp_k33_whole_stretches_of_a_table.main.body.getD i (.Pass ⟨0,0,0,0⟩)
abbrev wA:Stmt:=top 13
abbrev xZ:Stmt:=top 14
abbrev vR:Stmt:=top 15
abbrev xG:Stmt:=top 17
abbrev wX:Stmt:=top 16
abbrev xh:Stmt:=bV (top 53) 1
abbrev wg:Stmt:=top 60
abbrev vx:Stmt:=top 59
abbrev kH:Stmt:=top 54
abbrev wj:Stmt:=bV (top 53) 0
abbrev kE:Stmt:=top 55
abbrev ko:Stmt:=top 64
abbrev kq:Stmt:=top 63
abbrev kB:Stmt:=top 65
abbrev ya:Stmt:=top 66
abbrev wQ:Stmt:=top 21
abbrev vC:Stmt:=bV (top 29) 0
abbrev s_0:Stmt:=bV (top 30) 0
abbrev vS:Stmt:=bV (top 57) 0
abbrev vO:Stmt:=top 61
abbrev vz:Stmt:=bV (top 57) 7
abbrev wn:Stmt:=top 22
abbrev xa:Stmt:=top 38
abbrev xt:Stmt:=top 27
abbrev xU:Stmt:=top 39
abbrev vK:Stmt:=top 41
abbrev vn:Stmt:=top 40
abbrev s_1:Stmt:=bV (top 30) 1
abbrev xX:Stmt:=bV (top 31) 1
abbrev yd:Stmt:=top 24
abbrev s_9:Stmt:=bV (top 32) 2
abbrev s_7:Stmt:=bV (top 32) 4
abbrev xi:Stmt:=bV (top 57) 3
abbrev s_3:Stmt:=bV (top 30) 4
abbrev wM:Stmt:=bV (top 31) 4
abbrev s_5:Stmt:=bV (top 32) 3
abbrev s_4:Stmt:=bV (top 32) 0
abbrev s_6:Stmt:=bV (top 32) 8
abbrev vA:Stmt:=bV (top 32) 7
abbrev vH:Stmt:=bV (top 57) 2
abbrev wy:Stmt:=top 62
abbrev vB:Stmt:=top 23
abbrev xI:Stmt:=bV (top 31) 0
abbrev s_2:Stmt:=bV (top 30) 3
abbrev xQ:Stmt:=top 25
abbrev xf:Stmt:=top 33
abbrev yk:Stmt:=top 26
abbrev xb:Stmt:=bV (top 31) 3
abbrev s_8:Stmt:=bV (top 32) 1
abbrev xl:Stmt:=bV (top 32) 6
abbrev xB:Stmt:=bV (top 57) 1
abbrev ye:Stmt:=top 72
abbrev vZ:Stmt:=top 67
abbrev xM:Stmt:=top 76
abbrev wZ:Stmt:=top 44
abbrev vJ:Stmt:=top 35
abbrev yj:Stmt:=top 36
abbrev xK:Stmt:=top 43
abbrev vN:Stmt:=top 42
abbrev xg:Stmt:=top 45
abbrev we:Stmt:=top 47
abbrev vE:Stmt:=top 46
abbrev vP:Stmt:=top 48
abbrev vY:Stmt:=top 49
abbrev vI:Stmt:=top 74
abbrev yp:Stmt:=top 68
abbrev vt:Stmt:=top 69
abbrev xw:Stmt:=top 71
abbrev xR:Stmt:=top 51
abbrev wN:Stmt:=top 50
abbrev vD:Stmt:=top 73
abbrev wc:Stmt:=top 75
abbrev wO:Stmt:=bV (top 57) 6
abbrev xj:Stmt:=top 77
def sAt (i:Nat) (l:List Stmt):Stmt:=l.getD i (.Pass ⟨0,0,0,0⟩)
def DN:Stmt→Expr | .Return (some e) _=>e | .Assign _ e _=>e | .Expr e _=>e | _=> .Constant .none 0 ⟨0,0,0,0⟩
def jD:Expr→Expr | .Lambda _ b _ _=>b | e=>e
def pE:Expr→Scope | .Lambda _ _ sc _=>sc | _=>{ kind:=.function,names:=[],isGenerator:=false,isCoroutine:=false }
abbrev wz:Expr:=(DN (sAt 0 (aS kH)))
def fH:cM:=⟨(("writing" :Str)++ ".<locals>.")++ "<lambda>",.expr (jD wz),pE wz,["term"],[]⟩
abbrev wB:Expr:=(DN (sAt 1 (aS kE)))
def fV:cM:=⟨(("counting" :Str)++ ".<locals>.")++ "<lambda>",.expr (jD wB),pE wB,["term"],["numbers"]⟩
abbrev vF:Stmt:=(sAt 1 (aS kq))
def fY:cM:=⟨(("_law_sure" :Str)++ ".<locals>.")++ "_law_number",.stmts (aS vF),ag vF,["_law_term"],["_law_known", "_law_first"]⟩
abbrev vw:Stmt:=(sAt 1 (aS ko))
def gh:cM:=⟨(("_law_worded" :Str)++ ".<locals>.")++ "_law_word",.stmts (aS vw),ag vw,["_law_term"],["_law_known"]⟩
abbrev xD:Stmt:=(sAt 0 (aS kB))
def fU:cM:=⟨(("_law_weak" :Str)++ ".<locals>.")++ "_law_short",.stmts (aS xD),ag xD,["_law_term"],["_law_many"]⟩
set_option genInjectivity false in
set_option genSizeOf false in
abbrev Rd (sp:Sp) (t:TS) (N:List Str):Prop:=∀ (vs:List V) (H:Hp) (Q:VK) (E:XK),sp vs H Q E→t { nx:=fun _ H'=>Q .non H',rt:=Q } (L2.cp N vs) H
abbrev Ln (sp:Sp) (n:Nat):Prop:=∀ vs H Q E,sp vs H Q E→vs.length=n
structure Adr where
 a_60:Addr
 d_60:FuncData
 a_57:Addr
 d_57:FuncData
 a_58:Addr
 d_58:FuncData
 a_64:Addr
 d_64:FuncData
 a_78:Addr
 d_78:FuncData
 a_18:Addr
 d_18:FuncData
 a_27:Addr
 d_27:FuncData
 a_26:Addr
 d_26:FuncData
 a_76:Addr
 d_76:FuncData
 a_17:Addr
 d_17:FuncData
 a_49:Addr
 d_49:FuncData
 a_43:Addr
 d_43:FuncData
 a_37:Addr
 d_37:FuncData
 a_41:Addr
 d_41:FuncData
 a_35:Addr
 d_35:FuncData
 a_51:Addr
 d_51:FuncData
 a_12:Addr
 d_12:FuncData
 a_0:Addr
 d_0:FuncData
 a_19:Addr
 d_19:FuncData
 a_31:Addr
 d_31:FuncData
 a_23:Addr
 d_23:FuncData
 a_54:Addr
 d_54:FuncData
 a_48:Addr
 d_48:FuncData
 a_70:Addr
 d_70:FuncData
 a_63:Addr
 d_63:FuncData
 a_66:Addr
 d_66:FuncData
 a_74:Addr
 d_74:FuncData
 a_1:Addr
 d_1:FuncData
 a_14:Addr
 d_14:FuncData
 a_69:Addr
 d_69:FuncData
 a_9:Addr
 d_9:FuncData
 a_7:Addr
 d_7:FuncData
 a_24:Addr
 d_24:FuncData
 a_3:Addr
 d_3:FuncData
 a_16:Addr
 d_16:FuncData
 a_5:Addr
 d_5:FuncData
 a_4:Addr
 d_4:FuncData
 a_6:Addr
 d_6:FuncData
 a_11:Addr
 d_11:FuncData
 a_22:Addr
 d_22:FuncData
 a_40:Addr
 d_40:FuncData
 a_59:Addr
 d_59:FuncData
 a_13:Addr
 d_13:FuncData
 a_2:Addr
 d_2:FuncData
 a_71:Addr
 d_71:FuncData
 a_61:Addr
 d_61:FuncData
 a_45:Addr
 d_45:FuncData
 a_15:Addr
 d_15:FuncData
 a_8:Addr
 d_8:FuncData
 a_10:Addr
 d_10:FuncData
 a_20:Addr
 d_20:FuncData
 a_29:Addr
 d_29:FuncData
 a_36:Addr
 d_36:FuncData
 a_25:Addr
 d_25:FuncData
 a_52:Addr
 d_52:FuncData
 a_55:Addr
 d_55:FuncData
 a_53:Addr
 d_53:FuncData
 a_56:Addr
 d_56:FuncData
 a_47:Addr
 d_47:FuncData
 a_46:Addr
 d_46:FuncData
 a_65:Addr
 d_65:FuncData
 a_67:Addr
 d_67:FuncData
 a_75:Addr
 d_75:FuncData
 a_73:Addr
 d_73:FuncData
 a_28:Addr
 d_28:FuncData
 a_32:Addr
 d_32:FuncData
 a_39:Addr
 d_39:FuncData
 a_34:Addr
 d_34:FuncData
 a_68:Addr
 d_68:FuncData
 a_72:Addr
 d_72:FuncData
 a_30:Addr
 d_30:FuncData
 a_33:Addr
 d_33:FuncData
 a_21:Addr
 d_21:FuncData
 a_62:Addr
 d_62:FuncData
 k_76:Addr
 t_76:Addr
 k_49:Addr
 t_49:Addr
 k_43:Addr
 t_43:Addr
 k_37:Addr
 t_37:Addr
 k_41:Addr
 t_41:Addr
 c_Numbers:Addr
 c_Knot:Addr
 c_Bare:Addr
 c_Table:Addr
 c_Fork:Addr
 c_Leaf:Addr
set_option genInjectivity false in
set_option genSizeOf false in
structure Txt (K:W.Frag) (mg:Str→Option Value) (A:Adr):Prop where
 f_60:Fm K mg "is_whole" "is_whole" wA A.a_60 A.d_60 ["thing"]
 f_57:Fm K mg "is_stamp" "is_stamp" xZ A.a_57 A.d_57 ["thing"]
 f_58:Fm K mg "is_term" "is_term" vR A.a_58 A.d_58 ["thing"]
 f_64:Fm K mg "part_form" "part_form" xG A.a_64 A.d_64 ["part"]
 f_78:Fm K mg "written" "written" wX A.a_78 A.d_78 ["term"]
 f_18:Fun K "number_of" "Numbers.number_of" xh A.a_18 A.d_18
 b_18:be K A.d_18 ["self", "term"] []
 f_27:Fm K mg "_law_bits" "_law_bits" wg A.a_27 A.d_27 ["_law_cell"]
 f_26:Fm K mg "_law_at" "_law_at" vx A.a_26 A.d_26 ["_law_script", "_law_k"]
 f_76:Fm K mg "writing" "writing" kH A.a_76 A.d_76 []
 f_17:Fun K "__init__" "Numbers.__init__" wj A.a_17 A.d_17
 b_17:be K A.d_17 ["self"] []
 f_49:Fm K mg "counting" "counting" kE A.a_49 A.d_49 []
 f_43:Fm K mg "_law_worded" "_law_worded" ko A.a_43 A.d_43 []
 f_37:Fm K mg "_law_sure" "_law_sure" kq A.a_37 A.d_37 ["_law_first"]
 f_41:Fm K mg "_law_weak" "_law_weak" kB A.a_41 A.d_41 ["_law_many"]
 f_35:Fm K mg "_law_stamper" "_law_stamper" ya A.a_35 A.d_35 ["_law_cell"]
 f_51:Fm K mg "is_bits" "is_bits" wQ A.a_51 A.d_51 ["thing"]
 f_12:Fun K "__init__" "Knot.__init__" vC A.a_12 A.d_12
 b_12:be K A.d_12 ["self", "stamper", "term"] []
 f_0:Fun K "__init__" "Bare.__init__" s_0 A.a_0 A.d_0
 b_0:be K A.d_0 ["self", "stamper"] []
 f_19:Fun K "__init__" "Table.__init__" vS A.a_19 A.d_19
 b_19:be K A.d_19 ["self", "stamper", "bits"] []
 f_31:Fm K mg "_law_key" "_law_key" vO A.a_31 A.d_31 ["_law_bits_here", "_law_cell", "_law_others"]
 f_23:Fun K "twin" "Table.twin" vz A.a_23 A.d_23
 b_23:be K A.d_23 ["self"] []
 f_54:Fm K mg "is_key" "is_key" wn A.a_54 A.d_54 ["bits", "thing"]
 f_48:Fm K mg "check_stretch" "check_stretch" xa A.a_48 A.d_48 ["bits", "low", "high"]
 f_70:Fm K mg "span" "span" xt A.a_70 A.d_70 ["bits", "depth", "begin"]
 f_63:Fm K mg "meets" "meets" xU A.a_63 A.d_63 ["bits", "low", "high", "depth", "begin"]
 f_66:Fm K mg "part_of" "part_of" vK A.a_66 A.d_66 ["bits", "low", "high", "depth", "begin", "knot"]
 f_74:Fm K mg "stretch_of" "stretch_of" vn A.a_74 A.d_74 ["table", "low", "high"]
 f_1:Fun K "found" "Bare.found" s_1 A.a_1 A.d_1
 b_1:be K A.d_1 ["self", "bits", "key"] []
 f_14:Fun K "found" "Leaf.found" xX A.a_14 A.d_14
 b_14:be K A.d_14 ["self", "bits", "key"] []
 f_69:Fm K mg "side" "side" yd A.a_69 A.d_69 ["bits", "key", "depth"]
 f_9:Fun K "toward" "Fork.toward" s_9 A.a_9 A.d_9
 b_9:be K A.d_9 ["self", "bits", "key"] []
 f_7:Fun K "found" "Fork.found" s_7 A.a_7 A.d_7
 b_7:be K A.d_7 ["self", "bits", "key"] []
 f_24:Fun K "value_of" "Table.value_of" xi A.a_24 A.d_24
 b_24:be K A.d_24 ["self", "key"] []
 f_3:Fun K "without" "Bare.without" s_3 A.a_3 A.d_3
 b_3:be K A.d_3 ["self", "stamper", "bits", "key"] []
 f_16:Fun K "without" "Leaf.without" wM A.a_16 A.d_16
 b_16:be K A.d_16 ["self", "stamper", "bits", "key"] []
 f_5:Fun K "aside" "Fork.aside" s_5 A.a_5 A.d_5
 b_5:be K A.d_5 ["self", "bits", "key"] []
 f_4:Fun K "__init__" "Fork.__init__" s_4 A.a_4 A.d_4
 b_4:be K A.d_4 ["self", "stamper", "depth", "begin", "left", "right"] []
 f_6:Fun K "changed" "Fork.changed" s_6 A.a_6 A.d_6
 b_6:be K A.d_6 ["self", "stamper", "bits", "key", "knot"] []
 f_11:Fun K "without" "Fork.without" vA A.a_11 A.d_11
 b_11:be K A.d_11 ["self", "stamper", "bits", "key"] []
 f_22:Fun K "take" "Table.take" vH A.a_22 A.d_22
 b_22:be K A.d_22 ["self", "key"] []
 f_40:Fm K mg "_law_text" "_law_text" wy A.a_40 A.d_40 ["_law_cell"]
 f_59:Fm K mg "is_value" "is_value" vB A.a_59 A.d_59 ["thing"]
 f_13:Fun K "__init__" "Leaf.__init__" xI A.a_13 A.d_13
 b_13:be K A.d_13 ["self", "stamper", "key", "value"] []
 f_2:Fun K "with_key" "Bare.with_key" s_2 A.a_2 A.d_2
 b_2:be K A.d_2 ["self", "stamper", "bits", "key", "value"] []
 f_71:Fm K mg "start" "start" xQ A.a_71 A.d_71 ["bits", "key", "depth"]
 f_61:Fm K mg "joined" "joined" xf A.a_61 A.d_61 ["stamper", "bits", "depth", "leaf", "knot"]
 f_45:Fm K mg "alike" "alike" yk A.a_45 A.d_45 ["bits", "one", "other"]
 f_15:Fun K "with_key" "Leaf.with_key" xb A.a_15 A.d_15
 b_15:be K A.d_15 ["self", "stamper", "bits", "key", "value"] []
 f_8:Fun K "leads" "Fork.leads" s_8 A.a_8 A.d_8
 b_8:be K A.d_8 ["self", "bits", "key"] []
 f_10:Fun K "with_key" "Fork.with_key" xl A.a_10 A.d_10
 b_10:be K A.d_10 ["self", "stamper", "bits", "key", "value"] []
 f_20:Fun K "put" "Table.put" xB A.a_20 A.d_20
 b_20:be K A.d_20 ["self", "key", "value"] []
 f_29:Fm K mg "_law_deed" "_law_deed" ye A.a_29 A.d_29 ["_law_table", "_law_bits_here", "_law_known", "_law_keys", "_law_cell"]
 f_36:Fm K mg "_law_stretch" "_law_stretch" vZ A.a_36 A.d_36 ["_law_bits_here", "_law_one", "_law_other"]
 f_25:Fm K mg "_law_asked" "_law_asked" xM A.a_25 A.d_25 ["_law_script", "_law_bits_here", "_law_keys"]
 f_52:Fm K mg "is_cut" "is_cut" wZ A.a_52 A.d_52 ["thing"]
 f_55:Fm K mg "is_leaf" "is_leaf" vJ A.a_55 A.d_55 ["bits", "depth", "begin", "thing"]
 f_53:Fm K mg "is_fork" "is_fork" yj A.a_53 A.d_53 ["bits", "depth", "begin", "thing"]
 f_56:Fm K mg "is_part" "is_part" xK A.a_56 A.d_56 ["bits", "low", "high", "depth", "begin", "thing"]
 f_47:Fm K mg "check_part" "check_part" vN A.a_47 A.d_47 ["bits", "low", "high", "depth", "begin", "part"]
 f_46:Fm K mg "check_paper" "check_paper" xg A.a_46 A.d_46 ["bits", "low", "high", "paper"]
 f_65:Fm K mg "part_mark" "part_mark" we A.a_65 A.d_65 ["stamper", "part", "terms"]
 f_67:Fm K mg "part_terms" "part_terms" vE A.a_67 A.d_67 ["stamper", "part"]
 f_75:Fm K mg "stretch_terms" "stretch_terms" vP A.a_75 A.d_75 ["stamper", "bits", "low", "high", "paper"]
 f_73:Fm K mg "stretch_mark" "stretch_mark" vY A.a_73 A.d_73 ["stamper", "bits", "low", "high", "paper"]
 f_28:Fm K mg "_law_cuts" "_law_cuts" vI A.a_28 A.d_28 ["_law_part"]
 f_32:Fm K mg "_law_part_alike" "_law_part_alike" yp A.a_32 A.d_32 ["_law_found", "_law_due_here"]
 f_39:Fm K mg "_law_term_alike" "_law_term_alike" vt A.a_39 A.d_39 ["_law_found", "_law_due_here"]
 f_34:Fm K mg "_law_rows_alike" "_law_rows_alike" xw A.a_34 A.d_34 ["_law_found", "_law_due_here"]
 f_68:Fm K mg "rows_within" "rows_within" xR A.a_68 A.d_68 ["low", "high", "terms"]
 f_72:Fm K mg "stretch_answer" "stretch_answer" wN A.a_72 A.d_72 ["stamper", "bits", "mark", "low", "high", "paper"]
 f_30:Fm K mg "_law_due" "_law_due" vD A.a_30 A.d_30 ["_law_known", "_law_low", "_law_high"]
 f_33:Fm K mg "_law_right" "_law_right" wc A.a_33 A.d_33 ["_law_table", "_law_stamper_here", "_law_bits_here", "_law_root", "_law_known", "_law_ends"]
 f_21:Fun K "root" "Table.root" wO A.a_21 A.d_21
 b_21:be K A.d_21 ["self"] []
 f_62:Fm K mg "law" "law" xj A.a_62 A.d_62 ["_law_script"]
 z_all:mg "all" =none
 z_bool:mg "bool" =none
 z_dict:mg "dict" =none
 z_enumerate:mg "enumerate" =none
 z_int:mg "int" =none
 z_isinstance:mg "isinstance" =none
 z_len:mg "len" =none
 z_list:mg "list" =none
 z_max:mg "max" =none
 z_min:mg "min" =none
 z_ord:mg "ord" =none
 z_range:mg "range" =none
 z_sorted:mg "sorted" =none
 z_str:mg "str" =none
 z_sum:mg "sum" =none
 z_tuple:mg "tuple" =none
 c_MOST_BITS:∃ t,mg "MOST_BITS" =some (.int 60 t)
 c_MOST_PARTS:∃ t,mg "MOST_PARTS" =some (.int 8 t)
 c_MOST_SIGNS:∃ t,mg "MOST_SIGNS" =some (.int 60 t)
 kc_76:A.d_76.code=.ref A.k_76
 kc_49:A.d_49.code=.ref A.k_49
 kc_43:A.d_43.code=.ref A.k_43
 kc_37:A.d_37.code=.ref A.k_37
 kc_41:A.d_41.code=.ref A.k_41
 mc_Numbers:mg "Numbers" =some (.ref A.c_Numbers)
 cl_Numbers:Cls K A.c_Numbers
 na_Numbers_given:bw K A.c_Numbers "given"
 mc_Knot:mg "Knot" =some (.ref A.c_Knot)
 cl_Knot:Cls K A.c_Knot
 na_Knot_term:bw K A.c_Knot "term"
 na_Knot_mark:bw K A.c_Knot "mark"
 mc_Bare:mg "Bare" =some (.ref A.c_Bare)
 cl_Bare:Cls K A.c_Bare
 na_Bare_term:bw K A.c_Bare "term"
 na_Bare_mark:bw K A.c_Bare "mark"
 mc_Table:mg "Table" =some (.ref A.c_Table)
 cl_Table:Cls K A.c_Table
 na_Table_stamper:bw K A.c_Table "stamper"
 na_Table_bits:bw K A.c_Table "bits"
 na_Table_top:bw K A.c_Table "top"
 mc_Fork:mg "Fork" =some (.ref A.c_Fork)
 cl_Fork:Cls K A.c_Fork
 na_Fork_depth:bw K A.c_Fork "depth"
 na_Fork_begin:bw K A.c_Fork "begin"
 na_Fork_left:bw K A.c_Fork "left"
 na_Fork_right:bw K A.c_Fork "right"
 na_Fork_term:bw K A.c_Fork "term"
 na_Fork_mark:bw K A.c_Fork "mark"
 mc_Leaf:mg "Leaf" =some (.ref A.c_Leaf)
 cl_Leaf:Cls K A.c_Leaf
 na_Leaf_key:bw K A.c_Leaf "key"
 na_Leaf_text:bw K A.c_Leaf "text"
 na_Leaf_term:bw K A.c_Leaf "term"
 na_Leaf_mark:bw K A.c_Leaf "mark"
 me_Fork_toward:cE K A.c_Fork "toward" A.a_9
 me_Bare_found:cE K A.c_Bare "found" A.a_1
 me_Leaf_found:cE K A.c_Leaf "found" A.a_14
 me_Fork_found:cE K A.c_Fork "found" A.a_7
 me_Fork_changed:cE K A.c_Fork "changed" A.a_6
 me_Fork_aside:cE K A.c_Fork "aside" A.a_5
 me_Bare_without:cE K A.c_Bare "without" A.a_3
 me_Leaf_without:cE K A.c_Leaf "without" A.a_16
 me_Fork_without:cE K A.c_Fork "without" A.a_11
 me_Table_value_of:cE K A.c_Table "value_of" A.a_24
 me_Bare_with_key:cE K A.c_Bare "with_key" A.a_2
 me_Leaf_with_key:cE K A.c_Leaf "with_key" A.a_15
 me_Fork_with_key:cE K A.c_Fork "with_key" A.a_10
 me_Fork_leads:cE K A.c_Fork "leads" A.a_8
 me_Table_put:cE K A.c_Table "put" A.a_20
 me_Table_take:cE K A.c_Table "take" A.a_22
 me_Table_root:cE K A.c_Table "root" A.a_21
 me_Table_twin:cE K A.c_Table "twin" A.a_23
 me_Numbers_number_of:cE K A.c_Numbers "number_of" A.a_18
 mk_Numbers:Mk K A.c_Numbers A.a_17
 mk_Bare:Mk K A.c_Bare A.a_0
 mk_Table:Mk K A.c_Table A.a_19
 mk_Fork:Mk K A.c_Fork A.a_4
 mk_Leaf:Mk K A.c_Leaf A.a_13
 cf_Knot:zj K A.c_Knot "__init__" A.a_12
 oi_Bare:jU K A.c_Bare
 oi_Fork:jU K A.c_Fork
 oi_Leaf:jU K A.c_Leaf
 ko_Bare_Fork:W.kitOne K (.ref A.c_Bare) (.ref A.c_Fork)=some false
 ko_Bare_Bare:W.kitOne K (.ref A.c_Bare) (.ref A.c_Bare)=some true
 ko_Fork_Fork:W.kitOne K (.ref A.c_Fork) (.ref A.c_Fork)=some true
 ko_Fork_Bare:W.kitOne K (.ref A.c_Fork) (.ref A.c_Bare)=some false
 ko_Leaf_Fork:W.kitOne K (.ref A.c_Leaf) (.ref A.c_Fork)=some false
 ko_Leaf_Bare:W.kitOne K (.ref A.c_Leaf) (.ref A.c_Bare)=some false
def ot (A:Adr) (H:Hp):Prop:=H A.t_76=some (.tbl #[])∧H A.t_49=some (.tbl #[])∧H A.t_43=some (.tbl #[])∧H A.t_37=some (.tbl #[])∧H A.t_41=some (.tbl #[])∧([A.t_76,A.t_49,A.t_43,A.t_37,A.t_41]:List Addr).Nodup
theorem GJ:dZ ["term"] ["term"] [] fH.scope:=⟨rfl,rfl,rfl,by decide +kernel,rfl,rfl,by decide +kernel,by decide +kernel,by decide +kernel,by decide +kernel,by decide +kernel⟩
theorem FK:dZ ["term", "numbers"] ["term"] ["numbers"] fV.scope:=⟨rfl,rfl,rfl,by decide +kernel,rfl,rfl,by decide +kernel,by decide +kernel,by decide +kernel,by decide +kernel,by decide +kernel⟩
theorem IE:dZ ["_law_term", "_law_known", "_law_first"] ["_law_term"] ["_law_known", "_law_first"] fY.scope:=⟨rfl,rfl,rfl,by decide +kernel,rfl,rfl,by decide +kernel,by decide +kernel,by decide +kernel,by decide +kernel,by decide +kernel⟩
theorem Hm:dZ ["_law_term", "_law_known"] ["_law_term"] ["_law_known"] gh.scope:=⟨rfl,rfl,rfl,by decide +kernel,rfl,rfl,by decide +kernel,by decide +kernel,by decide +kernel,by decide +kernel,by decide +kernel⟩
theorem jP:dZ ["_law_term", "_law_total", "_law_part", "_law_signs", "_law_many"] ["_law_term"] ["_law_many"] fU.scope:=⟨rfl,rfl,rfl,by decide +kernel,rfl,rfl,by decide +kernel,by decide +kernel,by decide +kernel,by decide +kernel,by decide +kernel⟩
theorem Fb:ar ["thing"] ["thing"] (ag wA):=scF
theorem ES:ar ["thing"] ["thing"] (ag xZ):=scF
theorem Gh:ar ["thing"] ["thing"] (ag vR):=scF
theorem yW:ar ["part", "signs"] ["part"] (ag xG):=scF
theorem Fj:ar ["term"] ["term"] (ag wX):=scF
theorem Fh:ar ["self", "term"] ["self", "term"] (ag xh):=scF
theorem Hs:ar ["_law_cell"] ["_law_cell"] (ag wg):=scF
theorem lH:ar ["_law_script", "_law_k", "_law_number_here", "_law_cell"] ["_law_script", "_law_k"] (ag vx):=scF
theorem Fq:ar [] [] (ag kH):=scF
theorem Hn:ar ["self"] ["self"] (ag wj):=scF
theorem zM:ar ["numbers"] [] (ag kE):=scF
theorem sA:ar ["_law_known", "_law_word"] [] (ag ko):=scF
theorem su:ar ["_law_first", "_law_known", "_law_number"] ["_law_first"] (ag kq):=scF
theorem zm:ar ["_law_many", "_law_short"] ["_law_many"] (ag kB):=scF
theorem zp:ar ["_law_cell", "_law_way"] ["_law_cell"] (ag ya):=scF
theorem EU:ar ["thing"] ["thing"] (ag wQ):=scF
theorem EQ:ar ["self", "stamper", "term"] ["self", "stamper", "term"] (ag vC):=scF
theorem Kc:ar ["self", "stamper"] ["self", "stamper"] (ag s_0):=scF
theorem Gz:ar ["self", "stamper", "bits"] ["self", "stamper", "bits"] (ag vS):=scF
theorem oG:ar ["_law_bits_here", "_law_cell", "_law_others", "_law_many", "_law_number_here", "_law_flip"] ["_law_bits_here", "_law_cell", "_law_others"] (ag vO):=scF
theorem zB:ar ["self", "other"] ["self"] (ag vz):=scF
theorem EK:ar ["bits", "thing"] ["bits", "thing"] (ag wn):=scF
theorem HZ:ar ["bits", "low", "high"] ["bits", "low", "high"] (ag xa):=scF
theorem yN:ar ["bits", "depth", "begin", "rest"] ["bits", "depth", "begin"] (ag xt):=scF
theorem yZ:ar ["bits", "low", "high", "depth", "begin", "ends"] ["bits", "low", "high", "depth", "begin"] (ag xU):=scF
theorem rS:ar ["bits", "low", "high", "depth", "begin", "knot", "left", "right"] ["bits", "low", "high", "depth", "begin", "knot"] (ag vK):=scF
theorem Ho:ar ["table", "low", "high"] ["table", "low", "high"] (ag vn):=scF
theorem Jx:ar ["self", "bits", "key"] ["self", "bits", "key"] (ag s_1):=scF
theorem Fi:ar ["self", "bits", "key"] ["self", "bits", "key"] (ag xX):=scF
theorem Ia:ar ["bits", "key", "depth"] ["bits", "key", "depth"] (ag yd):=scF
theorem KH:ar ["self", "bits", "key"] ["self", "bits", "key"] (ag s_9):=scF
theorem KC:ar ["self", "bits", "key"] ["self", "bits", "key"] (ag s_7):=scF
theorem Fz:ar ["self", "key"] ["self", "key"] (ag xi):=scF
theorem KO:ar ["self", "stamper", "bits", "key"] ["self", "stamper", "bits", "key"] (ag s_3):=scF
theorem HA:ar ["self", "stamper", "bits", "key"] ["self", "stamper", "bits", "key"] (ag wM):=scF
theorem Kw:ar ["self", "bits", "key"] ["self", "bits", "key"] (ag s_5):=scF
theorem Kj:ar ["self", "stamper", "depth", "begin", "left", "right"] ["self", "stamper", "depth", "begin", "left", "right"] (ag s_4):=scF
theorem IQ:ar ["self", "stamper", "bits", "key", "knot"] ["self", "stamper", "bits", "key", "knot"] (ag s_6):=scF
theorem zy:ar ["self", "stamper", "bits", "key", "rest"] ["self", "stamper", "bits", "key"] (ag vA):=scF
theorem yB:ar ["self", "key", "before"] ["self", "key"] (ag vH):=scF
theorem fW:ar ["_law_cell", "_law_signs", "_law_size", "_law_made", "_law_k"] ["_law_cell"] (ag wy):=scF
theorem Ir:ar ["thing"] ["thing"] (ag vB):=scF
theorem GA:ar ["self", "stamper", "key", "value"] ["self", "stamper", "key", "value"] (ag xI):=scF
theorem IU:ar ["self", "stamper", "bits", "key", "value"] ["self", "stamper", "bits", "key", "value"] (ag s_2):=scF
theorem GD:ar ["bits", "key", "depth"] ["bits", "key", "depth"] (ag xQ):=scF
theorem zG:ar ["stamper", "bits", "depth", "leaf", "knot", "begin"] ["stamper", "bits", "depth", "leaf", "knot"] (ag xf):=scF
theorem GG:ar ["bits", "one", "other"] ["bits", "one", "other"] (ag yk):=scF
theorem zd:ar ["self", "stamper", "bits", "key", "value", "leaf"] ["self", "stamper", "bits", "key", "value"] (ag xb):=scF
theorem Kb:ar ["self", "bits", "key"] ["self", "bits", "key"] (ag s_8):=scF
theorem yP:ar ["self", "stamper", "bits", "key", "value", "depth"] ["self", "stamper", "bits", "key", "value"] (ag xl):=scF
theorem yI:ar ["self", "key", "value", "before"] ["self", "key", "value"] (ag xB):=scF
theorem lD:ar ["_law_table", "_law_bits_here", "_law_known", "_law_keys", "_law_cell", "_law_number_here", "_law_key_here", "_law_told"] ["_law_table", "_law_bits_here", "_law_known", "_law_keys", "_law_cell"] (ag ye):=scF
theorem ls:ar ["_law_bits_here", "_law_one", "_law_other", "_law_low", "_law_high"] ["_law_bits_here", "_law_one", "_law_other"] (ag vZ):=scF
theorem lI:ar ["_law_script", "_law_bits_here", "_law_keys", "_law_one", "_law_other", "_law_some"] ["_law_script", "_law_bits_here", "_law_keys"] (ag xM):=scF
theorem FW:ar ["thing"] ["thing"] (ag wZ):=scF
theorem GI:ar ["bits", "depth", "begin", "thing"] ["bits", "depth", "begin", "thing"] (ag vJ):=scF
theorem Gq:ar ["bits", "depth", "begin", "thing"] ["bits", "depth", "begin", "thing"] (ag yj):=scF
theorem GY:ar ["bits", "low", "high", "depth", "begin", "thing"] ["bits", "low", "high", "depth", "begin", "thing"] (ag xK):=scF
theorem Ge:ar ["bits", "low", "high", "depth", "begin", "part"] ["bits", "low", "high", "depth", "begin", "part"] (ag vN):=scF
theorem GL:ar ["bits", "low", "high", "paper"] ["bits", "low", "high", "paper"] (ag xg):=scF
theorem Gk:ar ["stamper", "part", "terms"] ["stamper", "part", "terms"] (ag we):=scF
theorem oB:ar ["stamper", "part", "left", "right", "marks"] ["stamper", "part"] (ag vE):=scF
theorem GS:ar ["stamper", "bits", "low", "high", "paper"] ["stamper", "bits", "low", "high", "paper"] (ag vP):=scF
theorem FA:ar ["stamper", "bits", "low", "high", "paper"] ["stamper", "bits", "low", "high", "paper"] (ag vY):=scF
theorem GE:ar ["_law_part"] ["_law_part"] (ag vI):=scF
theorem Hl:ar ["_law_found", "_law_due_here"] ["_law_found", "_law_due_here"] (ag yp):=scF
theorem yU:ar ["_law_found", "_law_due_here", "_law_k"] ["_law_found", "_law_due_here"] (ag vt):=scF
theorem zi:ar ["_law_found", "_law_due_here", "_law_k"] ["_law_found", "_law_due_here"] (ag xw):=scF
theorem FY:ar ["low", "high", "terms"] ["low", "high", "terms"] (ag xR):=scF
theorem sO:ar ["stamper", "bits", "mark", "low", "high", "paper", "terms", "came"] ["stamper", "bits", "mark", "low", "high", "paper"] (ag wN):=scF
theorem HF:ar ["_law_known", "_law_low", "_law_high"] ["_law_known", "_law_low", "_law_high"] (ag vD):=scF
theorem sI:ar ["_law_table", "_law_stamper_here", "_law_bits_here", "_law_root", "_law_known", "_law_ends", "_law_low", "_law_high", "_law_paper"] ["_law_table", "_law_stamper_here", "_law_bits_here", "_law_root", "_law_known", "_law_ends"] (ag wc):=scF
theorem Iy:ar ["self"] ["self"] (ag wO):=scF
theorem dq:ar ["_law_script", "_law_bits_here", "_law_stamper_here", "_law_table", "_law_known", "_law_keys", "_law_twin_then", "_law_known_then", "_law_kept", "_law_k", "_law_cell", "_law_ends", "_law_found"] ["_law_script"] (ag xj):=scF
inductive Dat where
 | non
 | bl (b:Bool)
 | int (i:Int)
 | str (z:Str)
 | lst (ds:List Dat)
 | tup (ds:List Dat)
 | dic
mutual
inductive aY (H:Hp):V→Dat→Prop
 | non:aY H .non .non
 | bl (b):aY H (.bl b) (.bl b)
 | int (i):aY H (.int i) (.int i)
 | str (z):aY H (.str z) (.str z)
 | lst {a xs ds}:H a=some (.lst xs)→DatWs H xs ds→aY H (.ref a) (.lst ds)
 | tup {a xs ds}:H a=some (.tup xs)→DatWs H xs ds→aY H (.ref a) (.tup ds)
 | dic {a}:(∃ kvs,H a=some (.dK kvs))→aY H (.ref a) .dic
inductive DatWs (H:Hp):List V→List Dat→Prop
 | nil:DatWs H [] []
 | cons {x xs d ds}:aY H x d→DatWs H xs ds→DatWs H (x::xs) (d::ds)
end
mutual
def cB:Dat→PyData
 | .non=> .none
 | .bl b=> .bool b
 | .int i=> .int i
 | .str z=> .str z
 | .lst ds=> .list (toPys ds)
 | .tup ds=> .tuple (toPys ds)
 | .dic=> .none
def toPys:List Dat→List PyData
 | []=>[]
 | d::r=>cB d::toPys r
end
def bI (z:Str):Bool:=z.cps.all (·<128)
mutual
def okD:Dat→Bool
 | .str z=>bI z&&decide (z.length≤100000)
 | .lst ds=>okDs ds
 | .tup ds=>okDs ds
 | .dic=>false
 | .non=>true
 | .bl _=>true
 | .int _=>true
def okDs:List Dat→Bool
 | []=>true
 | d::r=>okD d&&okDs r
end
def yr:Dat→Bool
 | .int _=>true
 | _=>false
def gs:Dat→Bool
 | .int i=>decide (0≤i∧i<10^60)
 | .str _=>true
 | _=>false
def cz (w:Str):Dat→Bool
 | .str z=>decide (z=w)
 | _=>false
def dw (bits:Int):Dat→Bool
 | .int i=>decide (0≤i∧i<2^bits.toNat)
 | _=>false
def cN:Dat→Bool
 | .str z=>decide (z.length≤60)
 | _=>false
def fL (bits key depth:Int):Int:=key/2^(bits - depth).toNat
def fw (bits depth begin:Int):Dat→Bool
 | .tup [w,.int k,z]=>cz "leaf" w&&decide (0≤k∧k<2^bits.toNat)&&cN z&&decide (fL bits k depth=begin)
 | _=>false
def fv (bits depth begin:Int):Dat→Bool
 | .tup [w,.int e,.int b,_,_]=>cz "fork" w&&decide (depth≤e∧e<bits)&&decide (0≤b∧b<2^e.toNat)&&decide (b/2^(e - depth).toNat=begin)
 | _=>false
def mD:Dat→Bool
 | .tup [w]=>cz "bare" w
 | _=>false
def jE (d:Dat):Prop:=(okD d=true∧(cB d).depth≤140)∨d=.dic
def fS (K:W.Frag) (A:Adr):Sp:=fun vs H Q _=>∃ v d,vs=[v]∧aY H v d∧Q (.bl (yr d)) H
def lh (K:W.Frag) (A:Adr):Sp:=fun vs H Q _=>∃ v d,vs=[v]∧aY H v d∧Q (.bl (gs d)) H
def iM (K:W.Frag) (A:Adr):Sp:=fun vs H Q _=>∃ (b k d:Int),vs=[.int b,.int k,.int d]∧d≤b∧Q (.int (fL b k d)) H
def iU (K:W.Frag) (A:Adr):Sp:=fun vs H Q _=>∃ (b:Int) (v:V) (d:Dat),vs=[.int b,v]∧0≤b∧b≤60∧aY H v d∧Q (.bl (dw b d)) H
def lR (K:W.Frag) (A:Adr):Sp:=fun vs H Q _=>∃ (v:V) (d:Dat),vs=[v]∧aY H v d∧okD d=true∧Q (.bl (cN d)) H
def nI (K:W.Frag) (A:Adr):Sp:=fun vs H Q _=>∃ (b p g:Int) (v:V) (d:Dat),vs=[.int b,.int p,.int g,v]∧0≤b∧b≤60∧p≤b∧aY H v d∧jE d∧Q (.bl (fw b p g d)) H
def oa (K:W.Frag) (A:Adr):Sp:=fun vs H Q _=>∃ (b p g:Int) (v:V) (d:Dat),vs=[.int b,.int p,.int g,v]∧0≤p∧b≤60∧p≤b∧aY H v d∧jE d∧Q (.bl (fv b p g d)) H
def dR:Key→Dat
 | .inl i=> .int i
 | .inr z=> .str z
def szK:Key→Nat
 | .inl _=>62
 | .inr z=>z.length+62
def fm (K:W.Frag) (A:Adr):Sp:=fun vs H Q _=>∃ (a:Addr) (ns:List Int) (k:Int),vs=[.ref a,.int k]∧SqL K H a (ns.map V.int)∧0≤k∧∀ (z:Int) (H':Hp),au H H'→Q (.int z) H'
def oE (K:W.Frag) (A:Adr):Sp:=fun vs H Q _=>∃ c:Int,vs=[.int c]∧∀ (b:Int) (H':Hp),au H H'→1≤b→b≤60→Q (.int b) H'
def iE (K:W.Frag) (A:Adr):Sp:=fun vs H Q _=>∃ (b c:Int) (o:Addr) (ks:List Int),vs=[.int b,.int c,.ref o]∧1≤b∧b≤60∧H o=some (.lst (ks.map V.int))∧ks.length≤100∧(∀ k∈ks,0≤k∧k<2^b.toNat)∧∀ (k:Int) (H':Hp),au H H'→0≤k→k<2^b.toNat→Q (.int k) H'
def nP (K:W.Frag) (A:Adr):Sp:=fun vs H Q _=>∃ c:Int,vs=[.int c]∧∀ (z:Str) (H':Hp),au H H'→z.length≤60→bI z=true→Q (.str z) H'
def okP:Key→Bool
 | .inl i=>decide (0≤i∧i<10^60)
 | .inr z=>bI z&&decide (z.length≤100000)
def lG:Key→Bool
 | .inr _=>true
 | .inl _=>false
def okT (k:List Key):Bool:=decide (1≤k.length∧k.length≤8)&&(k.head?.map lG).getD false&&k.all okP
def szT (k:List Key):Nat:=(k.map szK).sum
def pQ (k:List Key):Key→Prop
 | .inl i=>0≤i∧i<10^60
 | .inr z=>bI z=true∧z.length≤szT k
def gM (t:Int):Key→Int
 | .inr z=>t*7+z.length+2*((PySem.Txt.slice z none (some 2)).cps.toList.map fun c=>((c:Nat):Int)).sum
 | .inl i=>t*5+i
def tF (m:Int) (k:List Key):Key:=.inl (k.foldl gM 0%m)
def eP:Key→Str
 | .inl i=>toString i++ ";"
 | .inr z=>toString (z.length:Int)++ ":" ++z
def fZ:List Key→Str
 | []=>Str.empty
 | x::r=>eP x++fZ r
def kQ (H H':Hp):Prop:=∀ b o,H b=some o→(∀ ps,o≠ .tbl ps)→H' b=some o
def cj (kvs:List (List Key×Key)):List (List Key×V):=kvs.map fun p=>(p.1,kV p.2)
def dh (kvs:List (List Key×Key)) (k:List Key):Option Key:=(kvs.find? fun p=>decide (p.1=k)).map (·.2)
def gG:Key→Prop
 | .inl i=>0≤i∧i<10^60
 | .inr z=>bI z=true∧z.length≤62
def fo (kvs:List (List Key×Key)):Prop:=∀ p∈kvs,gG p.2
structure gd (A:Adr) (H:Hp) (x d:Addr) (kvs:List (List Key×V)):Prop where
 ob:∃ dx,H x=some (.ins A.c_Numbers dx [("given",.ref d)])
 di:H d=some (.dT kvs)
def aT (b:Addr) (H H':Hp):Prop:=∀ x o,x≠b→H x=some o→H' x=some o
inductive Stp (A:Adr) (H:Hp) (f b:Addr) (g:gOp) (n:Nat):Prop
 | wri (hc:dD H f fH [] []) (hb:b=f) (hg:g=fun k=>some (.inr (fZ k)))
 | cnt (q x:Addr) (kvs:List (List Key×Key)) (hc:dD H f fV [q] [.ref x]) (num:gd A H x b (cj kvs)) (hl:kvs.length≤n) (hs:fo kvs) (hg:g=dh kvs)
 | sur (q0 q1:Addr) (j:Int) (h0:0≤j) (h1:j<1000) (kvs:List (List Key×Key)) (hc:dD H f fY [q1,q0] [.ref b,.int j]) (hb:H b=some (.dT (cj kvs))) (hl:kvs.length≤n) (hs:fo kvs) (hg:g=dh kvs)
 | wor (q:Addr) (kvs:List (List Key×Key)) (hc:dD H f gh [q] [.ref b]) (hb:H b=some (.dT (cj kvs))) (hl:kvs.length≤n) (hs:fo kvs) (hg:g=dh kvs)
 | wea (q:Addr) (m:Int) (h1:1≤m) (h2:m≤9) (hc:dD H f fU [q] [.int m]) (hb:b=f) (hg:g=fun k=>some (tF m k))
def Sub (g g':gOp):Prop:=∀ k v,g k=some v→g' k=some v
def Ext (g:gOp) (h:List Key→Key):Prop:=∀ k v,g k=some v→h k=v
abbrev PK (H:Hp):List Addr→List (List Key)→Prop:=Paired (fun (p:Addr) (k:List Key)=>H p=some (.tup (k.map kV))∧okT k=true)
def lP (K:W.Frag) (A:Adr):Sp:=fun vs H Q _=>∃ (p:Addr) (k:List Key),vs=[.ref p]∧H p=some (.tup (k.map kV))∧okT k=true∧∀ H',au H H'→Q (.bl true) H'
def oj (K:W.Frag) (A:Adr):Sp:=fun vs H Q _=>∃ x:Key,vs=[kV x]∧okP x=true∧Q (.str (eP x)) H
def lL (K:W.Frag) (A:Adr):Sp:=fun vs H Q _=>∃ (p:Addr) (k:List Key),vs=[.ref p]∧H p=some (.tup (k.map kV))∧okT k=true∧∀ H',au H H'→Q (.str (fZ k)) H'
def rD (K:W.Frag) (A:Adr):Sp:=lL K A
def gT (kvs:List (List Key×V)) (kk:List Key) (d:V):V:=(bD kvs kk).getD d
def gN (H:Hp) (b:Addr) (kvs:List (List Key×V)) (kk:List Key) (d:V):Hp:=if (bD kvs kk).isSome=true then H else upd H b (.dT (cC kvs kk d))
def ox (K:W.Frag) (A:Adr):Sp:=fun vs H Q _=>∃ x dx,vs=[.ref x]∧H x=some (.ins A.c_Numbers dx [])∧∀ d,H d=none→Q .non (upd (upd H d (.dT [])) x (.ins A.c_Numbers dx [("given",.ref d)]))
def nW (K:W.Frag) (A:Adr):Sp:=fun vs H Q _=>∃ (x d p:Addr) (kvs:List (List Key×V)) (k:List Key),vs=[.ref x,.ref p]∧gd A H x d kvs∧kvs.length≤50000∧H p=some (.tup (k.map kV))∧okT k=true∧∀ H',au H H'→Q (gT kvs k (.int kvs.length)) (gN H' d kvs k (.int kvs.length))
def rB (K:W.Frag) (A:Adr):Sp:=fun vs H Q _=>∃ (x d p:Addr) (kvs:List (List Key×V)) (k:List Key),vs=[.ref p,.ref x]∧gd A H x d kvs∧kvs.length≤50000∧H p=some (.tup (k.map kV))∧okT k=true∧∀ H',au H H'→Q (gT kvs k (.int kvs.length)) (gN H' d kvs k (.int kvs.length))
def rJ (K:W.Frag) (A:Adr):Sp:=fun vs H Q _=>∃ (p b:Addr) (j:Int) (k:List Key) (kvs:List (List Key×V)),vs=[.ref p,.ref b,.int j]∧H p=some (.tup (k.map kV))∧H b=some (.dT kvs)∧kvs.length≤50000∧Q (gT kvs k (.int (3*(kvs.length:Int)+j))) (gN H b kvs k (.int (3*(kvs.length:Int)+j)))
def gJ (n:Nat):Str:=("m" :Str)++((toString (n:Int):String):Str)
def sW (K:W.Frag) (A:Adr):Sp:=fun vs H Q _=>∃ (p b:Addr) (k:List Key) (kvs:List (List Key×V)),vs=[.ref p,.ref b]∧H p=some (.tup (k.map kV))∧H b=some (.dT kvs)∧kvs.length≤50000∧Q (gT kvs k (.str (gJ kvs.length))) (gN H b kvs k (.str (gJ kvs.length)))
def sU (K:W.Frag) (A:Adr):Sp:=fun vs H Q _=>∃ (p:Addr) (m:Int) (k:List Key),vs=[.ref p,.int m]∧1≤m∧m≤9∧H p=some (.tup (k.map kV))∧okT k=true∧∀ H',au H H'→Q (kV (tF m k)) H'
def bG (P:Addr) (H H':Hp):Prop:=∀ b o,H b=some o→b≠P→H' b=some o
def MkQ (A:Adr) (P:Addr) (H:Hp) (Q:VK):Prop:=∀ (f b:Addr) (g:gOp) (H':Hp),bG P H H'→Stp A H' f b g 0→H b=none→Q (.ref f) H'
def oi (K:W.Frag) (A:Adr):Sp:=fun vs H Q _=>vs=[]∧H A.t_76=some (.tbl #[])∧MkQ A A.t_76 H Q
def ow (K:W.Frag) (A:Adr):Sp:=fun vs H Q _=>vs=[]∧H A.t_49=some (.tbl #[])∧MkQ A A.t_49 H Q
def nJ (K:W.Frag) (A:Adr):Sp:=fun vs H Q _=>vs=[]∧H A.t_43=some (.tbl #[])∧MkQ A A.t_43 H Q
def nR (K:W.Frag) (A:Adr):Sp:=fun vs H Q _=>∃ j:Int,vs=[.int j]∧0≤j∧j<1000∧H A.t_37=some (.tbl #[])∧MkQ A A.t_37 H Q
def nN (K:W.Frag) (A:Adr):Sp:=fun vs H Q _=>∃ m:Int,vs=[.int m]∧1≤m∧m≤9∧H A.t_41=some (.tbl #[])∧MkQ A A.t_41 H Q
def nX (K:W.Frag) (A:Adr):Sp:=fun vs H Q _=>∃ c:Int,vs=[.int c]∧ot A H∧∀ (f b:Addr) (g:gOp) (H':Hp),kQ H H'→Stp A H' f b g 0→H b=none→Q (.ref f) H'
def iO (K:W.Frag) (A:Adr):Sp:=fun vs H Q _=>∃ (b k d:Int),vs=[.int b,.int k,.int d]∧d<b∧0≤k∧Q (.int (k/2^(b - d - 1).toNat%2)) H
def kZ (K:W.Frag) (A:Adr):Sp:=fun vs H Q _=>∃ b x y c:Nat,vs=[.int b,.int x,.int y]∧x<2^b∧y<2^b∧mx b x y c∧Q (.int c) H
def fB:Dat→Bool
 | .int i=>decide (1≤i∧i≤60)
 | _=>false
def nK (K:W.Frag) (A:Adr):Sp:=fun vs H Q _=>∃ (v:V) (d:Dat),vs=[v]∧aY H v d∧Q (.bl (fB d)) H
def gI (b D:Addr) (H H':Hp):Prop:=∀ x o,x≠b→x≠D→H x=some o→H' x=some o
def brT:List Key:=[.inr "bare"]
def lfT (k:Nat) (z:Str):List Key:=[.inr "leaf",.inl (k:Int),.inr z]
def fkT (d b:Nat) (l r:Key):List Key:=[.inr "fork",.inl (d:Int),.inl (b:Int),l,r]
def szN:Kn Str→Nat
 | .bare=>200
 | .leaf _ _=>400
 | .fork _ _ l r=>300+szN l+szN r
def fb (z:Str):Prop:=bI z=true∧z.length≤60
inductive KnA (A:Adr) (H:Hp) (g:gOp):Addr→Kn Str→Key→Prop
 | bare {x dx t:Addr} {m:Key} (o:H x=some (.ins A.c_Bare dx [("term",.ref t),("mark",kV m)])) (ht:H t=some (.tup (brT.map kV))) (hm:g brT=some m) (ok:okP m=true) (sz:szK m≤200):KnA A H g x .bare m
 | leaf {x dx t:Addr} {m:Key} {k:Nat} {z:Str} (o:H x=some (.ins A.c_Leaf dx [("term",.ref t),("mark",kV m),("key",.int (k:Int)),("text",.str z)])) (ht:H t=some (.tup ((lfT k z).map kV))) (hm:g (lfT k z)=some m) (ok:okP m=true) (sz:szK m≤400) (hz:fb z):KnA A H g x (.leaf k z) m
 | fork {x dx t l r:Addr} {m ml mr:Key} {d b:Nat} {tl tr:Kn Str} (o:H x=some (.ins A.c_Fork dx [("term",.ref t),("mark",kV m),("depth",.int (d:Int)),("begin",.int (b:Int)),("left",.ref l),("right",.ref r)])) (hl:KnA A H g l tl ml) (hr:KnA A H g r tr mr)
  (ht:H t=some (.tup ((fkT d b ml mr).map kV))) (hm:g (fkT d b ml mr)=some m) (ok:okP m=true) (sz:szK m≤szN (.fork d b tl tr)):KnA A H g x (.fork d b tl tr) m
def clK (A:Adr):Kn Str→Addr
 | .bare=>A.c_Bare
 | .leaf _ _=>A.c_Leaf
 | .fork _ _ _ _=>A.c_Fork
def kdK:Kn Str→Nat
 | .bare=>0
 | .leaf _ _=>1
 | .fork _ _ _ _=>2
def hgt:Kn Str→Nat
 | .bare=>0
 | .leaf _ _=>0
 | .fork _ _ l r=>max (hgt l) (hgt r)+1
def jl (B:Nat):Kn Str→Prop
 | .bare=>True
 | .leaf _ _=>True
 | .fork d b l r=>d<B∧b<2^d∧jl B l∧jl B r
def ov:Option Str→V
 | none=> .non
 | some z=> .str z
def KnQ (A:Adr) (H:Hp) (f b:Addr) (g:gOp) (n c:Nat) (t:Kn Str) (Q:VK):Prop:=∀ (y:Addr) (m:Key) (g':gOp) (H':Hp),aT b H H'→KnA A H' g' y t m→Stp A H' f b g' (n+c)→Sub g g'→Q (.ref y) H'
def jJ (K:W.Frag) (A:Adr):Sp:=fun vs H Q _=>∃ (x dx C f b p:Addr) (g:gOp) (n:Nat) (k:List Key),vs=[.ref x,.ref f,.ref p]∧H x=some (.ins C dx [])∧Cls K C∧bw K C "term" ∧bw K C "mark" ∧Stp A H f b g n∧n≤45000∧H p=some (.tup (k.map kV))∧okT k=true∧
 ∀ (m:Key) (g':gOp) (H':Hp),gI b x H H'→H' x=some (.ins C dx [("term",.ref p),("mark",kV m)])→Stp A H' f b g' (n+1)→Sub g g'→g' k=some m→pQ k m→Q .non H'
def InQ (A:Adr) (H:Hp) (x f b:Addr) (g:gOp) (n:Nat) (t:Kn Str) (Q:VK):Prop:=∀ (m:Key) (g':gOp) (H':Hp),gI b x H H'→KnA A H' g' x t m→Stp A H' f b g' (n+1)→Sub g g'→Q .non H'
def lX (K:W.Frag) (A:Adr):Sp:=fun vs H Q _=>∃ (x dx f b:Addr) (g:gOp) (n:Nat),vs=[.ref x,.ref f]∧H x=some (.ins A.c_Bare dx [])∧Stp A H f b g n∧n≤45000∧InQ A H x f b g n .bare Q
def iG (K:W.Frag) (A:Adr):Sp:=fun vs H Q _=>∃ (x dx f b:Addr) (g:gOp) (n k:Nat) (z:Str),vs=[.ref x,.ref f,.int (k:Int),.str z]∧H x=some (.ins A.c_Leaf dx [])∧Stp A H f b g n∧n≤45000∧k<2^60∧fb z∧InQ A H x f b g n (.leaf k z) Q
def ju (K:W.Frag) (A:Adr):Sp:=fun vs H Q _=>∃ (x dx f b l r:Addr) (g:gOp) (n d e:Nat) (tl tr:Kn Str) (ml mr:Key),vs=[.ref x,.ref f,.int (d:Int),.int (e:Int),.ref l,.ref r]∧H x=some (.ins A.c_Fork dx [])∧Stp A H f b g n∧n≤45000∧d<60∧e<2^60∧KnA A H g l tl ml∧KnA A H g r tr mr∧szN tl+szN tr≤90000∧InQ A H x f b g n (.fork d e tl tr) Q
def Kof (A:Adr) (H:Hp) (i:Nat) (g:gOp) (x:Addr) (t:Kn Str) (m:Key):Prop:=KnA A H g x t m∧kdK t=i
def lY (A:Adr) (i:Nat) (n:Nat):Sp:=fun vs H Q _=>∃ (x:Addr) (g:gOp) (t:Kn Str) (m:Key) (B key:Nat),vs=[.ref x,.int (B:Int),.int (key:Int)]∧Kof A H i g x t m∧jl B t∧hgt t<n∧Q (ov (aD B key t)) H
def me (K:W.Frag) (A:Adr):Sp:=lY A 0 70
def jK (K:W.Frag) (A:Adr):Sp:=lY A 1 70
def kK (K:W.Frag) (A:Adr) (n:Nat):Sp:=lY A 2 n
def jh (A:Adr) (H:Hp) (x:Addr) (d b:Nat) (l r:Addr):Prop:=∃ dx t m,H x=some (.ins A.c_Fork dx [("term",.ref t),("mark",kV m),("depth",.int (d:Int)),("begin",.int (b:Int)),("left",.ref l),("right",.ref r)])
def sM (K:W.Frag) (A:Adr):Sp:=fun vs H Q _=>∃ (x l r:Addr) (d b B key:Nat),vs=[.ref x,.int (B:Int),.int (key:Int)]∧jh A H x d b l r∧d<B∧Q (.bl (decide (st B key d=b))) H
def mj (K:W.Frag) (A:Adr):Sp:=fun vs H Q _=>∃ (x l r:Addr) (d b B key:Nat),vs=[.ref x,.int (B:Int),.int (key:Int)]∧jh A H x d b l r∧d<B∧Q (.ref (if sd B key d=0 then l else r)) H
def tB (K:W.Frag) (A:Adr):Sp:=fun vs H Q _=>∃ (x l r:Addr) (d b B key:Nat),vs=[.ref x,.int (B:Int),.int (key:Int)]∧jh A H x d b l r∧d<B∧Q (.ref (if sd B key d=0 then r else l)) H
structure KnS (A:Adr) (H:Hp) (f b:Addr) (g:gOp) (n:Nat) (B:Nat) (x:Addr) (t:Kn Str) (m:Key):Prop where
 k:KnA A H g x t m
 s:Stp A H f b g n
 B60:B≤60
 dp:jl B t
 ln:(aG t).length≤100
 sz:szN t≤80000
def lq (K:W.Frag) (A:Adr):Sp:=fun vs H Q _=>∃ (f b x y:Addr) (g:gOp) (n B d key:Nat) (z:Str) (t:Kn Str) (m m':Key),vs=[.ref f,.int (B:Int),.int (d:Int),.ref y,.ref x]∧KnS A H f b g n B x t m∧n≤45000∧KnA A H g y (.leaf key z) m'∧d<B∧key<2^B∧KnQ A H f b g n 1 (dU B d key z t) Q
def qf (K:W.Frag) (A:Adr):Sp:=fun vs H Q _=>∃ (x f b l r y:Addr) (g:gOp) (n B d e key:Nat) (tl tr t:Kn Str) (m ml mr:Key),vs=[.ref x,.ref f,.int (B:Int),.int (key:Int),.ref y]∧jh A H x d e l r∧KnA A H g l tl ml∧KnA A H g r tr mr∧KnA A H g y t m∧Stp A H f b g n∧n≤45000∧d<B∧B≤60∧e<2^60∧szN (if sd B key d=0 then tr else tl)+szN t≤90000∧
 KnQ A H f b g n 1 (if sd B key d=0 then .fork d e t tr else .fork d e tl t) Q
def pP (A:Adr) (i:Nat) (j:Nat):Sp:=fun vs H Q _=>∃ (x f b:Addr) (g:gOp) (n B key:Nat) (z:Str) (t:Kn Str) (m:Key),vs=[.ref x,.ref f,.int (B:Int),.int (key:Int),.str z]∧KnS A H f b g n B x t m∧kdK t=i∧n+hgt t+10≤45000∧(∀ p∈aG t,p.1<2^B)∧key<2^B∧fb z∧hgt t<j∧szN t≤70000∧KnQ A H f b g n (hgt t+2) (bW B key z t) Q
def mL (K:W.Frag) (A:Adr):Sp:=pP A 0 70
def jH (K:W.Frag) (A:Adr):Sp:=pP A 1 70
def iA (K:W.Frag) (A:Adr) (n:Nat):Sp:=pP A 2 n
def jf (A:Adr) (i:Nat) (j:Nat):Sp:=fun vs H Q _=>∃ (x f b:Addr) (g:gOp) (n B key:Nat) (t:Kn Str) (m:Key),vs=[.ref x,.ref f,.int (B:Int),.int (key:Int)]∧KnS A H f b g n B x t m∧kdK t=i∧n+hgt t+10≤45000∧hgt t<j∧KnQ A H f b g n (hgt t+1) (aL B key t) Q
def mB (K:W.Frag) (A:Adr):Sp:=jf A 0 70
def jO (K:W.Frag) (A:Adr):Sp:=jf A 1 70
def iI (K:W.Frag) (A:Adr) (n:Nat):Sp:=jf A 2 n
def WFo (B:Nat) (t:Kn Str):Prop:=t=.bare∨WF B 0 0 t
structure TbA (A:Adr) (H:Hp) (g:gOp) (x f:Addr) (B:Nat) (t:Kn Str) (m:Key):Prop where
 ob:∃ dx y,H x=some (.ins A.c_Table dx [("stamper",.ref f),("bits",.int (B:Int)),("top",.ref y)])∧KnA A H g y t m
 B1:1≤B
 B60:B≤60
 wf:WFo B t
structure TbS (A:Adr) (H:Hp) (x f b:Addr) (g:gOp) (n B:Nat) (t:Kn Str) (m:Key):Prop where
 ta:TbA A H g x f B t m
 s:Stp A H f b g n
 ln:(aG t).length≤90
def TbQ (A:Adr) (H:Hp) (x f b:Addr) (g:gOp) (n c B:Nat) (t:Kn Str) (R:Hp→Prop):Prop:=∀ (m:Key) (g':gOp) (H':Hp),gI b x H H'→TbA A H' g' x f B t m→Stp A H' f b g' (n+c)→Sub g g'→R H'
def jM (K:W.Frag) (A:Adr):Sp:=fun vs H Q E=>∃ (x dx f b:Addr) (g:gOp) (n:Nat) (v:V) (d:Dat),vs=[.ref x,.ref f,v]∧H x=some (.ins A.c_Table dx [])∧aY H v d∧Stp A H f b g n∧n≤45000∧(fB d=false→False)∧∀ B:Nat,d=.int (B:Int)→1≤B→B≤60→TbQ A H x f b g n 1 B .bare (Q .non)
def kY (K:W.Frag) (A:Adr):Sp:=fun vs H Q E=>∃ (x f:Addr) (g:gOp) (B:Nat) (t:Kn Str) (m:Key) (v:V) (d:Dat),vs=[.ref x,v]∧TbA A H g x f B t m∧aY H v d∧(dw B d=false→False)∧∀ key:Nat,d=.int (key:Int)→key<2^B→Q (ov (aD B key t)) H
def oh (K:W.Frag) (A:Adr):Sp:=fun vs H Q E=>∃ (x f b:Addr) (g:gOp) (n B:Nat) (t:Kn Str) (m:Key) (v w:V) (d e:Dat),vs=[.ref x,v,w]∧TbS A H x f b g n B t m∧n+100≤45000∧aY H v d∧aY H w e∧okD e=true∧(dw B d=false→False)∧
 ∀ key:Nat,d=.int (key:Int)→key<2^B→(cN e=false→False)∧∀ z,e=.str z→fb z→TbQ A H x f b g n 65 B (bW B key z t) fun H'=>Q (ov (aD B key t)) H'
def nO (K:W.Frag) (A:Adr):Sp:=fun vs H Q E=>∃ (x f b:Addr) (g:gOp) (n B:Nat) (t:Kn Str) (m:Key) (v:V) (d:Dat),vs=[.ref x,v]∧TbS A H x f b g n B t m∧n+100≤45000∧aY H v d∧(dw B d=false→False)∧
 ∀ key:Nat,d=.int (key:Int)→key<2^B→(aD B key t=none→False)∧∀ z,aD B key t=some z→TbQ A H x f b g n 65 B (aL B key t) fun H'=>Q (.str z) H'
def gK (K:W.Frag) (A:Adr):Sp:=fun vs H Q _=>∃ (x f:Addr) (g:gOp) (B:Nat) (t:Kn Str) (m:Key),vs=[.ref x]∧TbA A H g x f B t m∧Q (kV m) H
def dOf (kn:List (Nat×Str)):List (Key×V):=kn.map fun p=>(.inl (p.1:Int),.str p.2)
structure Kno (B:Nat) (kn:List (Nat×Str)) (t:Kn Str):Prop where
 nd:(kn.map (·.1)).Nodup
 ln:kn.length≤63
 eq:∀ k,look k kn=aD B k t
def lB (b x d:Addr) (H H':Hp):Prop:=∀ z o,z≠b→z≠x→z≠d→H z=some o→H' z=some o
def lf (K:W.Frag) (A:Adr):Sp:=fun vs H Q _=>∃ (x f b:Addr) (g:gOp) (n B:Nat) (t:Kn Str) (m:Key),vs=[.ref x]∧TbS A H x f b g n B t m∧n≤45000∧∀ (y:Addr) (g':gOp) (H':Hp),aT b H H'→H y=none→TbS A H' x f b g' (n+1) B t m→TbA A H' g' y f B t m→Sub g g'→Q (.ref y) H'
def GM (B:Nat) (kn:List (Nat×Str)):Prop:=∀ p∈kn,p.1<2^B
structure TK (A:Adr) (H:Hp) (x f kd:Addr) (g:gOp) (B:Nat) (t:Kn Str) (m:Key) (kn:List (Nat×Str)):Prop where
 ta:TbA A H g x f B t m
 hk:H kd=some (.dK (dOf kn))
 kno:Kno B kn t
def cZ (h:List Key→Key):Kn Str→List Key
 | .bare=>brT
 | .leaf k z=>lfT k z
 | .fork d b l r=>fkT d b (h (cZ h l)) (h (cZ h r))
def oF (K:W.Frag) (A:Adr):Sp:=fun vs H Q _=>∃ (x f b kd L:Addr) (g:gOp) (n B:Nat) (t:Kn Str) (m:Key) (kn:List (Nat×Str)) (ks:List Int) (c:Int),vs=[.ref x,.int (B:Int),.ref kd,.ref L,.int c]∧TK A H x f kd g B t m kn∧kn.length<60∧Stp A H f b g n∧n+100≤45000∧H L=some (.lst (ks.map V.int))∧ks.length≤100∧(∀ k∈ks,0≤k∧k<2^((B:Nat):Int).toNat)∧
 ∀ (key:Nat) (t':Kn Str) (m':Key) (kn':List (Nat×Str)) (g':gOp) (H':Hp),lB b x kd H H'→TK A H' x f kd g' B t' m' kn'→kn'.length≤kn.length+1→Stp A H' f b g' (n+65)→Sub g g'→key<2^B→Q (.int (key:Int)) H'
def iz (g:gOp):List Key→Key:=fun k=>(g k).getD (.inl 0)
def og (K:W.Frag) (A:Adr):Sp:=fun vs H Q _=>∃ x:Key,vs=[kV x,kV x]∧Q (.bl true) H
def nS (K:W.Frag) (A:Adr):Sp:=fun vs H Q _=>∃ (p r:Addr) (k:List Key),vs=[.ref p,.ref r]∧H p=some (.tup (k.map kV))∧H r=some (.tup (k.map kV))∧k.length≤8∧Q (.bl true) H
inductive bf where
 | cut (m:Key)
 | bare
 | leaf (k:Int) (z:Str)
 | fork (d b:Int) (l r:bf)
def bi:bf→Dat
 | .cut m=> .tup [.str "cut",dR m]
 | .bare=> .tup [.str "bare"]
 | .leaf k z=> .tup [.str "leaf",.int k,.str z]
 | .fork d b l r=> .tup [.str "fork",.int d,.int b,bi l,bi r]
def bj (b lo hi d g:Int):Bool:=decide (g*2^(b - d).toNat≤hi)&&decide (lo≤(g+1)*2^(b - d).toNat - 1)
def gr (b lo hi:Int):Int→Int→bf→Prop
 | d,g,.cut m=>bj b lo hi d g=false∧okP m=true
 | d,g,.bare=>bj b lo hi d g=true∧d=0
 | d,g,.leaf k z=>bj b lo hi d g=true∧0≤k∧k<2^b.toNat∧z.length≤60∧bI z=true∧fL b k d=g
 | d,g,.fork e x l r=>bj b lo hi d g=true∧d≤e∧e<b∧0≤x∧x<2^e.toNat∧x/2^(e - d).toNat=g∧gr b lo hi (e+1) (2*x) l∧gr b lo hi (e+1) (2*x+1) r
def bE:bf→Nat
 | .fork _ _ l r=>bE l+bE r+1
 | _=>0
def cD:bf→Nat
 | .fork _ _ l r=>max (cD l) (cD r)+1
 | _=>0
def gS:bf→Nat
 | .cut _=>0
 | .fork _ _ l r=>gS l+gS r+1
 | _=>1
def ib:bf→Bool
 | .cut _=>true
 | _=>false
def dn (h:List Key→Key):bf→Key
 | .cut m=>m
 | .bare=>h [.inr "bare"]
 | .leaf k z=>h [.inr "leaf",.inl k,.inr z]
 | .fork d b l r=>h [.inr "fork",.inl d,.inl b,dn h l,dn h r]
def bz (h:List Key→Key):bf→List (List Key)
 | .cut _=>[]
 | .bare=>[[.inr "bare"]]
 | .leaf k z=>[[.inr "leaf",.inl k,.inr z]]
 | .fork d b l r=>bz h l++bz h r++[[.inr "fork",.inl d,.inl b,dn h l,dn h r]]
def szP:bf→Nat
 | .cut m=>szK m
 | .bare=>128
 | .leaf _ _=>312
 | .fork _ _ l r=>252+szP l+szP r
def kz (h:List Key→Key):bf→List Key
 | .cut _=>[]
 | .bare=>[.inr "bare"]
 | .leaf k z=>[.inr "leaf",.inl k,.inr z]
 | .fork d b l r=>[.inr "fork",.inl d,.inl b,dn h l,dn h r]
def ug (p:bf) (ts:List (List Key)):Prop:=∀ t,ts.getLast?=some t→szT t+62≤szP p
def cA:bf→List (Int×Str)
 | .leaf k z=>[(k,z)]
 | .fork _ _ l r=>cA l++cA r
 | _=>[]
structure dE (b lo hi:Int):Prop where
 b1:1≤b
 b60:b≤60
 lo0:0≤lo
 le:lo≤hi
 hi1:hi<2^b.toNat
structure eZ (H:Hp) (v:V) (b lo hi d g:Int) (p:bf):Prop where
 w:aY H v (bi p)
 ok:gr b lo hi d g p
 d0:0≤d
 d1:d≤b
 g0:0≤g
 g1:g<2^d.toNat
def wU (x:Int×Str):List Key:=[.inl x.1,.inr x.2]
abbrev PR (H:Hp):List Addr→List (Int×Str)→Prop:=Paired (fun (p:Addr) (x:Int×Str)=>H p=some (.tup ((wU x).map kV)))
def inI (lo hi:Int) (x:Int×Str):Bool:=decide (lo≤x.1)&&decide (x.1≤hi)
def nU (K:W.Frag) (A:Adr):Sp:=fun vs H Q _=>∃ b c e:Int,vs=[.int b,.int c,.int e]∧1≤b∧b≤60∧∀ (p:Addr) (lo hi:Int) (H':Hp),au H H'→H' p=some (.tup [.int lo,.int hi])→dE b lo hi→Q (.ref p) H'
structure cV (H:Hp) (v:V) (b lo hi:Int) (p:bf):Prop where
 e:dE b lo hi
 w:eZ H v b lo hi 0 0 p
 f:bE p≤60
 t:cD p≤60
 z:szP p≤90000
def oo (K:W.Frag) (A:Adr):Sp:=fun vs H Q _=>∃ b d g:Int,vs=[.int b,.int d,.int g]∧0≤d∧d≤b∧b≤60∧0≤g∧g<2^d.toNat∧∀ p,H p=none→Q (.ref p) (upd H p (.tup [.int (g*2^(b - d).toNat),.int ((g+1)*2^(b - d).toNat - 1)]))
def lw (K:W.Frag) (A:Adr):Sp:=fun vs H Q _=>∃ b lo hi d g:Int,vs=[.int b,.int lo,.int hi,.int d,.int g]∧0≤d∧d≤b∧b≤60∧0≤g∧g<2^d.toNat∧∀ H',au H H'→Q (.bl (bj b lo hi d g)) H'
def lr (K:W.Frag) (A:Adr):Sp:=fun vs H Q _=>∃ b lo hi:Int,vs=[.int b,.int lo,.int hi]∧dE b lo hi∧Q .non H
def oC (K:W.Frag) (A:Adr):Sp:=fun vs H Q _=>∃ (v:V) (m:Key),vs=[v]∧aY H v (bi (.cut m))∧okP m=true∧Q (.bl true) H
def oq (K:W.Frag) (A:Adr):Sp:=fun vs H Q _=>∃ (b lo hi d g:Int) (v:V) (p:bf),vs=[.int b,.int lo,.int hi,.int d,.int g,v]∧dE b lo hi∧eZ H v b lo hi d g p∧cD p≤60∧∀ H',au H H'→Q (.bl true) H'
def ip (K:W.Frag) (A:Adr) (n:Nat):Sp:=fun vs H Q _=>∃ (b lo hi d g:Int) (v:V) (p:bf),vs=[.int b,.int lo,.int hi,.int d,.int g,v]∧dE b lo hi∧eZ H v b lo hi d g p∧cD p≤60∧cD p<n∧∀ H',au H H'→Q .non H'
def nH (K:W.Frag) (A:Adr):Sp:=fun vs H Q _=>∃ (b lo hi:Int) (v:V) (p:bf),vs=[.int b,.int lo,.int hi,v]∧cV H v b lo hi p∧∀ H',au H H'→Q .non H'
structure dX (H:Hp) (v:V) (p:bf):Prop where
 w:aY H v (bi p)
 ok:∃ b lo hi d g:Int,dE b lo hi∧0≤d∧d≤b∧gr b lo hi d g p
 f:bE p≤60
 z:szP p≤90000
def iJ (K:W.Frag) (A:Adr) (j:Nat):Sp:=fun vs H Q _=>∃ (f b:Addr) (v:V) (p:bf) (g:gOp) (n:Nat),vs=[.ref f,v]∧dX H v p∧cD p<j∧Stp A H f b g n∧n+2*bE p≤42000∧
 ∀ (L:Addr) (ps:List Addr) (ts:List (List Key)) (g':gOp) (H':Hp),aT b H H'→Stp A H' f b g' (n+2*bE p)→Sub g g'→H' L=some (.lst (ps.map V.ref))→PK H' ps ts→(∀ h,Ext g' h→ts=bz h p)→ug p ts→Q (.ref L) H'
def kN (K:W.Frag) (A:Adr):Sp:=fun vs H Q _=>∃ (f b L:Addr) (v:V) (p:bf) (ps:List Addr) (ts:List (List Key)) (g:gOp) (n:Nat),vs=[.ref f,v,.ref L]∧dX H v p∧Stp A H f b g n∧n≤44000∧H L=some (.lst (ps.map V.ref))∧PK H ps ts∧(∀ h,Ext g h→ts=bz h p)∧ug p ts∧
 ∀ (x:Key) (g':gOp) (H':Hp),aT b H H'→Stp A H' f b g' (n+1)→Sub g g'→(∀ h,Ext g' h→x=dn h p)→okP x=true→szK x≤szP p→Q (kV x) H'
def li (K:W.Frag) (A:Adr):Sp:=fun vs H Q _=>∃ (f b:Addr) (c lo hi:Int) (v:V) (p:bf) (g:gOp) (n:Nat),vs=[.ref f,.int c,.int lo,.int hi,v]∧cV H v c lo hi p∧Stp A H f b g n∧n≤40000∧
 ∀ (L:Addr) (ps:List Addr) (ts:List (List Key)) (g':gOp) (H':Hp),aT b H H'→Stp A H' f b g' (n+200)→Sub g g'→H' L=some (.lst (ps.map V.ref))→PK H' ps ts→(∀ h,Ext g' h→ts=bz h p)→Q (.ref L) H'
def oA (K:W.Frag) (A:Adr):Sp:=fun vs H Q _=>∃ (f b:Addr) (c lo hi:Int) (v:V) (p:bf) (g:gOp) (n:Nat),vs=[.ref f,.int c,.int lo,.int hi,v]∧cV H v c lo hi p∧Stp A H f b g n∧n≤40000∧
 ∀ (x:Key) (g':gOp) (H':Hp),aT b H H'→Stp A H' f b g' (n+201)→Sub g g'→(∀ h,Ext g' h→x=dn h p)→Q (kV x) H'
def nY (K:W.Frag) (A:Adr):Sp:=fun vs H Q _=>∃ (L:Addr) (lo hi:Int) (ps:List Addr) (h:List Key→Key) (p:bf),vs=[.int lo,.int hi,.ref L]∧H L=some (.lst (ps.map V.ref))∧PK H ps (bz h p)∧(bz h p).length≤1000∧
 ∀ (M:Addr) (rs:List Addr) (H':Hp),au H H'→H M=none→H' M=some (.lst (rs.map V.ref))→PR H' rs ((cA p).filter (inI lo hi))→Q (.ref M) H'
def lM (K:W.Frag) (A:Adr):Sp:=fun vs H Q _=>∃ (f b:Addr) (c lo hi:Int) (v:V) (p:bf) (g:gOp) (n:Nat) (x:Key),vs=[.ref f,.int c,kV x,.int lo,.int hi,v]∧cV H v c lo hi p∧Stp A H f b g n∧n≤40000∧(∀ h,Ext g h→x=dn h p)∧
 ∀ (M:Addr) (rs:List Addr) (g':gOp) (H':Hp),aT b H H'→Stp A H' f b g' (n+201)→Sub g g'→H' M=some (.lst (rs.map V.ref))→PR H' rs ((cA p).filter (inI lo hi))→Q (.ref M) H'
abbrev PT (H:Hp):List Addr→List (List Key)→Prop:=Paired (fun (p:Addr) (k:List Key)=>H p=some (.tup (k.map kV))∧k.length≤8)
def ly (K:W.Frag) (A:Adr):Sp:=fun vs H Q _=>∃ (L M:Addr) (ps rs:List Addr) (ts:List (List Key)),vs=[.ref L,.ref M]∧H L=some (.lst (ps.map V.ref))∧H M=some (.lst (rs.map V.ref))∧PT H ps ts∧PT H rs ts∧ts.length≤1000∧Q (.bl true) H
def bp (h:List Key→Key) (B lo hi:Int):Int→Int→Kn Str→bf
 | d,g,.bare=>if bj B lo hi d g=true then .bare else .cut (h (cZ h .bare))
 | d,g,.leaf k z=>if bj B lo hi d g=true then .leaf k z else .cut (h (cZ h (.leaf k z)))
 | d,g,.fork e b l r=>if bj B lo hi d g=true then .fork e b (bp h B lo hi ((e:Int)+1) (2*(b:Int)) l) (bp h B lo hi ((e:Int)+1) (2*(b:Int)+1) r) else .cut (h (cZ h (.fork e b l r)))
def ix (K:W.Frag) (A:Adr) (n:Nat):Sp:=fun vs H Q _=>∃ (B:Nat) (lo hi d gg:Int) (x:Addr) (g:gOp) (t:Kn Str) (m:Key),vs=[.int (B:Int),.int lo,.int hi,.int d,.int gg,.ref x]∧B≤60∧0≤d∧d≤B∧0≤gg∧gg<2^d.toNat∧KnA A H g x t m∧jl B t∧hgt t<n∧
 ∀ (v:V) (H':Hp),au H H'→aY H' v (bi (bp (iz g) B lo hi d gg t))→Q v H'
def iV (K:W.Frag) (A:Adr):Sp:=fun vs H Q _=>∃ (x f:Addr) (g:gOp) (B:Nat) (t:Kn Str) (m:Key) (lo hi:Int),vs=[.ref x,.int lo,.int hi]∧TbA A H g x f B t m∧(aG t).length≤60∧dE B lo hi∧
 ∀ (v:V) (p:bf) (H':Hp),au H H'→cV H' v B lo hi p→(∀ h,Ext g h→p=bp h B lo hi 0 0 t)→Q v H'
def dm:bf→Nat
 | .cut _=>1
 | .fork _ _ l r=>dm l+dm r
 | _=>0
def iC (K:W.Frag) (A:Adr) (n:Nat):Sp:=fun vs H Q _=>∃ (v:V) (p:bf),vs=[v]∧aY H v (bi p)∧cD p<n∧Q (.int (dm p)) H
abbrev eF (t:Kn Str):List (Int×Str):=(aG t).map fun p=>((p.1:Int),p.2)
def lE (K:W.Frag) (A:Adr):Sp:=fun vs H Q _=>∃ (x f kd:Addr) (g:gOp) (B:Nat) (t:Kn Str) (m:Key) (kn:List (Nat×Str)) (lo hi:Int),vs=[.ref kd,.int lo,.int hi]∧TK A H x f kd g B t m kn∧
 ∀ (M:Addr) (rs:List Addr) (H':Hp),au H H'→H' M=some (.lst (rs.map V.ref))→PR H' rs ((eF t).filter (inI lo hi))→Q (.ref M) H'
def iq (K:W.Frag) (A:Adr):Sp:=fun vs H Q _=>∃ (x f b kd r:Addr) (g:gOp) (n B:Nat) (t:Kn Str) (m:Key) (kn:List (Nat×Str)) (lo hi:Int),vs=[.ref x,.ref f,.int (B:Int),kV m,.ref kd,.ref r]∧TK A H x f kd g B t m kn∧kn.length≤60∧Stp A H f b g n∧n≤35000∧H r=some (.tup [.int lo,.int hi])∧dE B lo hi∧
 ∀ (g':gOp) (H':Hp),aT b H H'→Stp A H' f b g' (n+500)→Sub g g'→Q (.bl true) H'
def cJ (H:Hp) (B:Nat) (p:Addr):Prop:=∃ lo hi:Int,H p=some (.tup [.int lo,.int hi])∧dE B lo hi
def lK (K:W.Frag) (A:Adr):Sp:=fun vs H Q _=>∃ (a L:Addr) (ns:List Int) (B:Nat) (ks:List Nat),vs=[.ref a,.int (B:Int),.ref L]∧SqL K H a (ns.map V.int)∧1≤B∧B≤60∧H L=some (.lst (ks.map fun k:Nat=>V.int (k:Int)))∧ks≠[]∧(∀ k∈ks,k<2^B)∧
 ∀ (M:Addr) (ps:List Addr) (H':Hp),au H H'→H' M=some (.lst (ps.map V.ref))→ps.length≤7→(∀ p∈ps,cJ H' B p)→Q (.ref M) H'
def nG (K:W.Frag) (A:Adr):Sp:=fun vs H Q _=>∃ (a:Addr) (ns:List Int),vs=[.ref a]∧SqL K H a (ns.map V.int)∧ns.length≤63∧ot A H∧∀ H',Q (.bl true) H'
def iB (K:W.Frag) (A:Adr):L2.lO:=[(fH,rD K A),(fV,rB K A),(fY,rJ K A),(gh,sW K A),(fU,sU K A)]
def DV (K:W.Frag) (A:Adr):TE:=aq (lL K A) (fun _=>E0) (ae (ac 0) (ai))
def BD (K:W.Frag) (A:Adr):TE:=bT A.c_Numbers "number_of" (nW K A) (fun _=>E0) (ac 1) (ae (ac 0) (ai))
def Do (K:W.Frag) (A:Adr):TS:=aB (tBM K "dict" mh (ac 1) (ae (ac 0) (ae (tOp (bK K) (tOp (dQ) (tC (.int 3)) (tCB (cg K) (ae (ac 1) (ai)))) (ac 2)) (ai))))
def CP (K:W.Frag) (A:Adr):TS:=aB (tBM K "dict" mh (ac 1) (ae (ac 0) (ae (tOp (bK K) (tC (.str "m")) (tCB (xv) (ae (tCB (cg K) (ae (ac 1) (ai))) (ai)))) (ai))))
def CI (K:W.Frag) (A:Adr):TS:=av (aM (tC (.int 0)) (aA 1)) (av (fD (fE K (ac 0)) (aA 2) (aZ (bM K (tCB (dS) (ae (ac 2) (ae (tC (.ty "str")) (ai))))) (av (aM (gc [] (fE K (tSl (pS K) (ac 2) (gX) (iF (tC (.int 2))))) (fun _ H Q=>Q true H) (tCB (yu) (ae (ac 0) (ai)))) (aA 3)) (aM (tOp (bK K) (tOp (bK K) (tOp (dQ) (ac 1) (tC (.int 7))) (tCB (cg K) (ae (ac 2) (ai)))) (tOp (dQ) (tC (.int 2)) (tCB (BE K) (ae (ac 3) (ai))))) (aA 1))) (aM (tOp (bK K) (tOp (dQ) (ac 1) (tC (.int 5))) (ac 2)) (aA 1)))) (aB (tOp (bJ) (ac 1) (ac 4))))
def Kh (K:W.Frag) (A:Adr):TS:=aB (dW (tCB (dS) (ae (ac 0) (ae (tC (.ty "int")) (ai)))) (nM (tCB (dS) (ae (ac 0) (ae (tC (.ty "bool")) (ai))))))
def IZ (K:W.Frag) (A:Adr):TS:=av (aZ (bM K (aq (fS K A) (fun _=>E0) (ae (ac 0) (ai)))) (aB (dL (mLe) (mLt) (tC (.int 0)) (ac 0) (tOp (vq) (tC (.int 10)) (tC (.int 60))))) (aJ)) (aB (tCB (dS) (ae (ac 0) (ae (tC (.ty "str")) (ai)))))
def JM (K:W.Frag) (A:Adr):TS:=av (aZ (bS (bM K (tCB (dS) (ae (ac 0) (ae (tC (.ty "tuple")) (ai)))))) (aB (tC (.bl false))) (aJ)) (av (aZ (bS (aV (dL (mLe) (mLe) (tC (.int 1)) (tCB (cg K) (ae (ac 0) (ai))) (tC (.int 8))))) (aB (tC (.bl false))) (aJ)) (aB (dW (tCB (dS) (ae (tOp (aQ K) (ac 0) (tC (.int 0))) (ae (tC (.ty "str")) (ai)))) (tCB (BI) (ae (gc [] (fE K (ac 0)) (fun _ H Q=>Q true H) (aq (lh K A) (fun _=>E0) (ae (ac 0) (ai)))) (ai))))))
def Kd (K:W.Frag) (A:Adr):TS:=av (aZ (bM K (aq (fS K A) (fun _=>E0) (ae (ac 0) (ai)))) (aB (mJ ((sG (ac 0))::(tC (.str ";"))::[]) Str.empty)) (aJ)) (av (aM (tCB (cg K) (ae (ac 0) (ai))) (aA 1)) (aB (mJ ((sG (ac 1))::(tC (.str ":"))::(sG (ac 0))::[]) Str.empty)))
def JD (K:W.Frag) (A:Adr):TS:=av (aZ (bS (bM K (aq (lP K A) (fun _=>E0) (ae (ac 0) (ai))))) (dJ) (aJ)) (aB (tBM K "str" zh (tC (.str "")) (ae (gc [] (fE K (ac 0)) (fun _ H Q=>Q true H) (aq (oj K A) (fun _=>E0) (ae (ac 0) (ai)))) (ai))))
def JI (K:W.Frag) (A:Adr):TS:=av (aZ (bS (bM K (aq (lP K A) (fun _=>E0) (ae (ac 1) (ai))))) (dJ) (aJ)) (av (aZ (aV (tOp (qL K) (ac 1) (bc K (ac 0) "given"))) (aM (tCB (cg K) (ae (bc K (ac 0) "given") (ai))) (sD (bc K (ac 0) "given") (ac 1) oI)) (aJ)) (aB (tOp (aQ K) (bc K (ac 0) "given") (ac 1))))
def Kg (K:W.Frag) (A:Adr):TS:=aB (tOp (bK K) (tC (.int 1)) (tOp (bJ) (tOp (du) (ac 0) (tC (.int 3))) (tOp (aQ K) (ff (ae (tC (.int 60)) (ae (tC (.int 8)) (ae (tC (.int 60)) (ai))))) (tOp (bJ) (ac 0) (tC (.int 3))))))
def IX (K:W.Frag) (A:Adr):TS:=av (aZ (aV (tOp (mLt) (ac 1) (tCB (cg K) (ae (ac 0) (ai))))) (aB (tOp (aQ K) (ac 0) (ac 1))) (aJ)) (av (aM (tOp (bK K) (tC (.int 17)) (tCB (cg K) (ae (ac 0) (ai)))) (aA 2)) (av (fD (fE K (tSl (pS K) (ac 0) (gX) (iF (tC (.int 5))))) (aA 3) (aM (tOp (bJ) (tOp (bK K) (tOp (dQ) (ac 2) (tC (.int 31))) (ac 3)) (tC (.int 1000003))) (aA 2))) (av (aM (tOp (bJ) (tOp (bK K) (ac 2) (tOp (dQ) (tC (.int 7919)) (ac 1))) (tC (.int 1000003))) (aA 2)) (aB (tOp (bJ) (tOp (dQ) (ac 2) (ac 2)) (tC (.int 2147483629)))))))
def DH (K:W.Frag) (A:Adr):TSM:=mF (kC A.t_76 ⟨247,11,247,37⟩ fH [])
def Jy (K:W.Frag) (A:Adr):TS:=eh K (ac 0) (gx) "given"
def DM (K:W.Frag) (A:Adr) (q0:Addr):TSM:=kJ (iK (aM (cS A.c_Numbers (ox K A) (fun _=>E0) (ai)) (aA 0))) (mF (kC A.t_49 ⟨250,11,250,47⟩ fV [q0]))
def Eo (K:W.Frag) (A:Adr) (q0:Addr):TSM:=kJ (iK (aM (gx) (aA 0))) (kJ (iK (aM (kC A.t_43 ⟨336,4,337,75⟩ gh [q0]) (aA 1))) (mF (ac 1)))
def BR (K:W.Frag) (A:Adr) (q0 q1:Addr):TSM:=kJ (iK (aM (gx) (aA 1))) (kJ (iK (aM (kC A.t_37 ⟨330,4,331,81⟩ fY [q1,q0]) (aA 2))) (mF (ac 2)))
def CT (K:W.Frag) (A:Adr) (q0:Addr):TSM:=kJ (iK (aM (kC A.t_41 ⟨341,4,349,37⟩ fU [q0]) (aA 1))) (mF (ac 1))
def KM (K:W.Frag) (A:Adr):TS:=av (aM (tOp (bJ) (ac 0) (tC (.int 5))) (aA 1)) (av (aZ (aV (tOp (bB K) (ac 1) (tC (.int 0)))) (aB (aq (oi K A) (fun _=>E0) ai)) (aJ)) (av (aZ (aV (tOp (bB K) (ac 1) (tC (.int 1)))) (aB (aq (ow K A) (fun _=>E0) ai)) (aJ)) (av (aZ (aV (tOp (bB K) (ac 1) (tC (.int 2)))) (aB (aq (nJ K A) (fun _=>E0) ai)) (aJ)) (av (aZ (aV (tOp (bB K) (ac 1) (tC (.int 3)))) (aB (aq (nR K A) (fun _=>E0) (ae (tOp (bJ) (tOp (du) (ac 0) (tC (.int 5))) (tC (.int 1000))) (ai)))) (aJ)) (aB (aq (nN K A) (fun _=>E0) (ae (tOp (bK K) (tC (.int 1)) (tOp (bJ) (tOp (du) (ac 0) (tC (.int 5))) (tC (.int 9)))) (ai))))))))
def KW (K:W.Frag) (A:Adr):TS:=aB (dW (aq (fS K A) (fun _=>E0) (ae (ac 0) (ai))) (dL (mLe) (mLe) (tC (.int 1)) (ac 0) (tC (.int 60))))
def Kv (K:W.Frag) (A:Adr):TS:=av (eh K (ac 0) (ac 2) "term") (eh K (ac 0) (kU (iB K A) (fun _=>E0) (ac 1) (ae (ac 2) (ai))) "mark")
def T_0 (K:W.Frag) (A:Adr):TS:=dt (aq (jJ K A) (fun _=>E0) (ae (ac 0) (ae (ac 1) (ae (df (ae (tC (.str "bare")) (ai))) (ai)))))
def Kq (K:W.Frag) (A:Adr):TS:=av (aZ (bS (bM K (aq (nK K A) (fun _=>E0) (ae (ac 2) (ai))))) (dJ) (aJ)) (av (eh K (ac 0) (ac 1) "stamper") (av (eh K (ac 0) (ac 2) "bits") (eh K (ac 0) (cS A.c_Bare (lX K A) (fun _=>E0) (ae (ac 1) (ai))) "top")))
def KJ (K:W.Frag) (A:Adr):TS:=av (aM (tOp (eK) (tC (.int 1)) (ac 0)) (aA 3)) (av (aM (tOp (du) (ac 1) (tC (.int 5))) (aA 4)) (av (aZ (aV (tOp (bB K) (tOp (bJ) (ac 1) (tC (.int 5))) (tC (.int 0)))) (aB (tOp (bJ) (ac 4) (ac 3))) (aJ)) (av (aZ (aV (tOp (bB K) (tOp (bJ) (ac 1) (tC (.int 5))) (tC (.int 1)))) (aB (tOp (de) (tOp (de) (ac 3) (tC (.int 1))) (tOp (bJ) (ac 4) (ac 3)))) (aJ)) (av (aZ (qe (aV (tOp (bB K) (tOp (bJ) (ac 1) (tC (.int 5))) (tC (.int 2)))) (aV (tOp (eL K) (ac 2) (ff (ai))))) (av (aM (tOp (bJ) (tOp (bJ) (tOp (dQ) (ac 4) (tC (.int 48271))) (tC (.int 65537))) (ac 0)) (aA 5)) (aB (tOp (mC) (tOp (aQ K) (ac 2) (tOp (bJ) (ac 4) (tCB (cg K) (ae (ac 2) (ai))))) (tOp (eK) (tC (.int 1)) (ac 5))))) (aJ)) (aB (tOp (bJ) (tOp (dQ) (ac 4) (tC (.int 1152921504606846883))) (ac 3)))))))
def JT (K:W.Frag) (A:Adr):TS:=av (aM (cS A.c_Table (jM K A) (fun _=>E0) (ae (bc K (ac 0) "stamper") (ae (bc K (ac 0) "bits") (ai)))) (aA 1)) (av (eh K (ac 1) (bc K (ac 0) "top") "top") (aB (ac 1)))
def KB (K:W.Frag) (A:Adr):TS:=aB (dW (aq (fS K A) (fun _=>E0) (ae (ac 1) (ai))) (dL (mLe) (mLt) (tC (.int 0)) (ac 1) (tOp (eK) (tC (.int 1)) (ac 0))))
def JS (K:W.Frag) (A:Adr):TS:=av (aZ (mOr (bS (bM K (aq (iU K A) (fun _=>E0) (ae (ac 0) (ae (ac 1) (ai)))))) (bS (bM K (aq (iU K A) (fun _=>E0) (ae (ac 0) (ae (ac 2) (ai))))))) (dJ) (aJ)) (aZ (aV (tOp (mGt) (ac 1) (ac 2))) (dJ) (aJ))
def Kf (K:W.Frag) (A:Adr):TS:=av (aM (tOp (de) (ac 0) (ac 1)) (aA 3)) (aB (df (ae (tOp (eK) (ac 2) (ac 3)) (ae (tOp (de) (tOp (eK) (tOp (bK K) (ac 2) (tC (.int 1))) (ac 3)) (tC (.int 1))) (ai)))))
def JQ (K:W.Frag) (A:Adr):TS:=av (aM (aq (oo K A) (fun _=>E0) (ae (ac 0) (ae (ac 3) (ae (ac 4) (ai))))) (aA 5)) (aB (dW (tOp (mLe) (tOp (aQ K) (ac 5) (tC (.int 0))) (ac 2)) (tOp (mLe) (ac 1) (tOp (aQ K) (ac 5) (tC (.int 1))))))
def Ju (K:W.Frag) (A:Adr) (n:Nat):TS:=av (aZ (bS (bM K (aq (lw K A) (fun _=>E0) (ae (ac 0) (ae (ac 1) (ae (ac 2) (ae (ac 3) (ae (ac 4) (ai))))))))) (aB (df (ae (tC (.str "cut")) (ae (bc K (ac 5) "mark") (ai))))) (aJ)) (av (aZ (bS (bM K (tCB (sJ K) (ae (ac 5) (ae (tC (.ref A.c_Fork)) (ai)))))) (aB (bc K (ac 5) "term")) (aJ)) (av (aM (aq (ix K A n) (fun _=>E0) (ae (ac 0) (ae (ac 1) (ae (ac 2) (ae (tOp (bK K) (bc K (ac 5) "depth") (tC (.int 1))) (ae (tOp (dQ) (tC (.int 2)) (bc K (ac 5) "begin")) (ae (bc K (ac 5) "left") (ai)))))))) (aA 6)) (av (aM (aq (ix K A n) (fun _=>E0) (ae (ac 0) (ae (ac 1) (ae (ac 2) (ae (tOp (bK K) (bc K (ac 5) "depth") (tC (.int 1))) (ae (tOp (bK K) (tOp (dQ) (tC (.int 2)) (bc K (ac 5) "begin")) (tC (.int 1))) (ae (bc K (ac 5) "right") (ai)))))))) (aA 7)) (aB (df (ae (tC (.str "fork")) (ae (bc K (ac 5) "depth") (ae (bc K (ac 5) "begin") (ae (ac 6) (ae (ac 7) (ai)))))))))))
def JJ (K:W.Frag) (A:Adr):TS:=av (dt (aq (lr K A) (fun _=>E0) (ae (bc K (ac 0) "bits") (ae (ac 1) (ae (ac 2) (ai)))))) (aB (aq (ix K A 70) (fun _=>E0) (ae (bc K (ac 0) "bits") (ae (ac 1) (ae (ac 2) (ae (tC (.int 0)) (ae (tC (.int 0)) (ae (bc K (ac 0) "top") (ai)))))))))
def T_1 (K:W.Frag) (A:Adr):TS:=aB (tC .non)
def Js (K:W.Frag) (A:Adr):TS:=aB (mIf (aV (tOp (bB K) (ac 2) (bc K (ac 0) "key"))) (bc K (ac 0) "text") (tC .non))
def KD (K:W.Frag) (A:Adr):TS:=aB (tOp (sE) (tOp (oV) (ac 1) (tOp (de) (tOp (de) (ac 0) (ac 2)) (tC (.int 1)))) (tC (.int 1)))
def T_9 (K:W.Frag) (A:Adr):TS:=aB (mIf (aV (tOp (bB K) (aq (iO K A) (fun _=>E0) (ae (ac 1) (ae (ac 2) (ae (bc K (ac 0) "depth") (ai))))) (tC (.int 0)))) (bc K (ac 0) "left") (bc K (ac 0) "right"))
def T_7 (K:W.Frag) (A:Adr) (n:Nat):TS:=aB (gw [(A.c_Bare,(me K A)),(A.c_Leaf,(jK K A)),(A.c_Fork,(kK K A n))] "found" (fun _=>E0) (bT A.c_Fork "toward" (mj K A) (fun _=>E0) (ac 0) (ae (ac 1) (ae (ac 2) (ai)))) (ae (ac 1) (ae (ac 2) (ai))))
def Jz (K:W.Frag) (A:Adr):TS:=av (aZ (bS (bM K (aq (iU K A) (fun _=>E0) (ae (bc K (ac 0) "bits") (ae (ac 1) (ai)))))) (dJ) (aJ)) (aB (gw [(A.c_Bare,(me K A)),(A.c_Leaf,(jK K A)),(A.c_Fork,(kK K A 70))] "found" (fun _=>E0) (bc K (ac 0) "top") (ae (bc K (ac 0) "bits") (ae (ac 1) (ai)))))
def T_3 (K:W.Frag) (A:Adr):TS:=aB (ac 0)
def Jm (K:W.Frag) (A:Adr):TS:=aB (mIf (aV (tOp (bB K) (ac 3) (bc K (ac 0) "key"))) (cS A.c_Bare (lX K A) (fun _=>E0) (ae (ac 1) (ai))) (ac 0))
def T_5 (K:W.Frag) (A:Adr):TS:=aB (mIf (aV (tOp (bB K) (aq (iO K A) (fun _=>E0) (ae (ac 1) (ae (ac 2) (ae (bc K (ac 0) "depth") (ai))))) (tC (.int 0)))) (bc K (ac 0) "right") (bc K (ac 0) "left"))
def T_4 (K:W.Frag) (A:Adr):TS:=av (dt (aq (jJ K A) (fun _=>E0) (ae (ac 0) (ae (ac 1) (ae (df (ae (tC (.str "fork")) (ae (ac 2) (ae (ac 3) (ae (bc K (ac 4) "mark") (ae (bc K (ac 5) "mark") (ai))))))) (ai)))))) (av (eh K (ac 0) (ac 2) "depth") (av (eh K (ac 0) (ac 3) "begin") (av (eh K (ac 0) (ac 4) "left") (eh K (ac 0) (ac 5) "right"))))
def T_6 (K:W.Frag) (A:Adr):TS:=av (aZ (aV (tOp (bB K) (aq (iO K A) (fun _=>E0) (ae (ac 2) (ae (ac 3) (ae (bc K (ac 0) "depth") (ai))))) (tC (.int 0)))) (aB (cS A.c_Fork (ju K A) (fun _=>E0) (ae (ac 1) (ae (bc K (ac 0) "depth") (ae (bc K (ac 0) "begin") (ae (ac 4) (ae (bc K (ac 0) "right") (ai)))))))) (aJ)) (aB (cS A.c_Fork (ju K A) (fun _=>E0) (ae (ac 1) (ae (bc K (ac 0) "depth") (ae (bc K (ac 0) "begin") (ae (bc K (ac 0) "left") (ae (ac 4) (ai))))))))
def JE (K:W.Frag) (A:Adr) (n:Nat):TS:=av (aM (gw [(A.c_Bare,(mB K A)),(A.c_Leaf,(jO K A)),(A.c_Fork,(iI K A n))] "without" (fun _=>E0) (bT A.c_Fork "toward" (mj K A) (fun _=>E0) (ac 0) (ae (ac 2) (ae (ac 3) (ai)))) (ae (ac 1) (ae (ac 2) (ae (ac 3) (ai))))) (aA 4)) (av (aZ (bM K (tCB (sJ K) (ae (ac 4) (ae (tC (.ref A.c_Bare)) (ai))))) (aB (bT A.c_Fork "aside" (tB K A) (fun _=>E0) (ac 0) (ae (ac 2) (ae (ac 3) (ai))))) (aJ)) (aB (bT A.c_Fork "changed" (qf K A) (fun _=>E0) (ac 0) (ae (ac 1) (ae (ac 2) (ae (ac 3) (ae (ac 4) (ai))))))))
def KQ (K:W.Frag) (A:Adr):TS:=av (aM (bT A.c_Table "value_of" (kY K A) (fun _=>E0) (ac 0) (ae (ac 1) (ai))) (aA 2)) (av (aZ (aV (tOp (xY) (ac 2) (tC .non))) (dJ) (aJ)) (av (eh K (ac 0) (gw [(A.c_Bare,(mB K A)),(A.c_Leaf,(jO K A)),(A.c_Fork,(iI K A 70))] "without" (fun _=>E0) (bc K (ac 0) "top") (ae (bc K (ac 0) "stamper") (ae (bc K (ac 0) "bits") (ae (ac 1) (ai))))) "top") (aB (ac 2))))
def Ej (K:W.Frag) (A:Adr):TS:=aB (ac 3)
def Bc (K:W.Frag) (A:Adr):TS:=av (fD (kX (ae (ac 2) (ai))) (aA 4) (aM (tOp (bK K) (ac 3) (tOp (aQ K) (ac 1) (tOp (bJ) (tOp (bK K) (tOp (du) (ac 0) (tC (.int 4))) (tOp (dQ) (ac 4) (tOp (bJ) (tOp (du) (ac 0) (tC (.int 128))) (tC (.int 5))))) (tCB (cg K) (ae (ac 1) (ai)))))) (aA 3))) (Ej K A)
def tQ (K:W.Frag) (A:Adr):TS:=av (aM (tC (.str "")) (aA 3)) (Bc K A)
def ub (K:W.Frag) (A:Adr):TS:=av (aZ (aV (tOp (bB K) (tOp (bJ) (tOp (du) (ac 0) (tC (.int 4))) (tC (.int 8))) (tC (.int 2)))) (aM (tOp (bJ) (tOp (du) (ac 0) (tC (.int 32))) (tC (.int 61))) (aA 2)) (aJ)) (tQ K A)
def Jg (K:W.Frag) (A:Adr):TS:=av (aM (tC (.str " !\"#$&'()*+,-./0123456789:;<=>?@ABCDEFGHIJKLMNOPQRSTUVWXYZ[\\]^_`")) (aA 1)) (av (aM (tOp (bK K) (ac 1) (tC (.str "abcdefghijklmnopqrstuvwxyz{|}~"))) (aA 1)) (av (aM (tOp (bJ) (ac 0) (tC (.int 4))) (aA 2)) (av (aZ (aV (tOp (bB K) (tOp (bJ) (tOp (du) (ac 0) (tC (.int 4))) (tC (.int 8))) (tC (.int 1)))) (aM (tC (.int 60)) (aA 2)) (aJ)) (ub K A))))
def JB (K:W.Frag) (A:Adr):TS:=aB (dW (tCB (dS) (ae (ac 0) (ae (tC (.ty "str")) (ai)))) (tOp (mLe) (tCB (cg K) (ae (ac 0) (ai))) (tC (.int 60))))
def KA (K:W.Frag) (A:Adr):TS:=av (dt (aq (jJ K A) (fun _=>E0) (ae (ac 0) (ae (ac 1) (ae (df (ae (tC (.str "leaf")) (ae (ac 2) (ae (ac 3) (ai))))) (ai)))))) (av (eh K (ac 0) (ac 2) "key") (eh K (ac 0) (ac 3) "text"))
def T_2 (K:W.Frag) (A:Adr):TS:=aB (cS A.c_Leaf (iG K A) (fun _=>E0) (ae (ac 1) (ae (ac 3) (ae (ac 4) (ai)))))
def Ks (K:W.Frag) (A:Adr):TS:=aB (tOp (oV) (ac 1) (tOp (de) (ac 0) (ac 2)))
def Jb (K:W.Frag) (A:Adr):TS:=av (aM (aq (iM K A) (fun _=>E0) (ae (ac 1) (ae (bc K (ac 3) "key") (ae (ac 2) (ai))))) (aA 5)) (av (aZ (aV (tOp (bB K) (aq (iO K A) (fun _=>E0) (ae (ac 1) (ae (bc K (ac 3) "key") (ae (ac 2) (ai))))) (tC (.int 0)))) (aB (cS A.c_Fork (ju K A) (fun _=>E0) (ae (ac 0) (ae (ac 2) (ae (ac 5) (ae (ac 3) (ae (ac 4) (ai)))))))) (aJ)) (aB (cS A.c_Fork (ju K A) (fun _=>E0) (ae (ac 0) (ae (ac 2) (ae (ac 5) (ae (ac 4) (ae (ac 3) (ai)))))))))
def Jl (K:W.Frag) (A:Adr):TS:=aB (tOp (de) (ac 0) (yo K "int" rK (tOp (mC) (ac 1) (ac 2))))
def Ki (K:W.Frag) (A:Adr):TS:=av (aM (cS A.c_Leaf (iG K A) (fun _=>E0) (ae (ac 1) (ae (ac 3) (ae (ac 4) (ai))))) (aA 5)) (av (aZ (aV (tOp (bB K) (ac 3) (bc K (ac 0) "key"))) (aB (ac 5)) (aJ)) (aB (aq (lq K A) (fun _=>E0) (ae (ac 1) (ae (ac 2) (ae (aq (kZ K A) (fun _=>E0) (ae (ac 2) (ae (ac 3) (ae (bc K (ac 0) "key") (ai))))) (ae (ac 5) (ae (ac 0) (ai)))))))))
def T_8 (K:W.Frag) (A:Adr):TS:=aB (tOp (bB K) (aq (iM K A) (fun _=>E0) (ae (ac 1) (ae (ac 2) (ae (bc K (ac 0) "depth") (ai))))) (bc K (ac 0) "begin"))
def KN (K:W.Frag) (A:Adr) (n:Nat):TS:=av (aZ (bS (bM K (bT A.c_Fork "leads" (sM K A) (fun _=>E0) (ac 0) (ae (ac 2) (ae (ac 3) (ai)))))) (av (aM (aq (kZ K A) (fun _=>E0) (ae (bc K (ac 0) "depth") (ae (bc K (ac 0) "begin") (ae (aq (iM K A) (fun _=>E0) (ae (ac 2) (ae (ac 3) (ae (bc K (ac 0) "depth") (ai))))) (ai))))) (aA 5)) (aB (aq (lq K A) (fun _=>E0) (ae (ac 1) (ae (ac 2) (ae (ac 5) (ae (cS A.c_Leaf (iG K A) (fun _=>E0) (ae (ac 1) (ae (ac 3) (ae (ac 4) (ai))))) (ae (ac 0) (ai))))))))) (aJ)) (aB (bT A.c_Fork "changed" (qf K A) (fun _=>E0) (ac 0) (ae (ac 1) (ae (ac 2) (ae (ac 3) (ae (gw [(A.c_Bare,(mL K A)),(A.c_Leaf,(jH K A)),(A.c_Fork,(iA K A n))] "with_key" (fun _=>E0) (bT A.c_Fork "toward" (mj K A) (fun _=>E0) (ac 0) (ae (ac 2) (ae (ac 3) (ai)))) (ae (ac 1) (ae (ac 2) (ae (ac 3) (ae (ac 4) (ai)))))) (ai)))))))
def KG (K:W.Frag) (A:Adr):TS:=av (aM (bT A.c_Table "value_of" (kY K A) (fun _=>E0) (ac 0) (ae (ac 1) (ai))) (aA 3)) (av (aZ (bS (bM K (aq (lR K A) (fun _=>E0) (ae (ac 2) (ai))))) (dJ) (aJ)) (av (eh K (ac 0) (gw [(A.c_Bare,(mL K A)),(A.c_Leaf,(jH K A)),(A.c_Fork,(iA K A 70))] "with_key" (fun _=>E0) (bc K (ac 0) "top") (ae (bc K (ac 0) "stamper") (ae (bc K (ac 0) "bits") (ae (ac 1) (ae (ac 2) (ai)))))) "top") (aB (ac 3))))
def Bq (K:W.Frag) (A:Adr):TS:=aB (ac 6)
def Cu (K:W.Frag) (A:Adr):TS:=av (aM (ac 7) (sD (ac 2) (ac 6) oI)) (Bq K A)
def CW (K:W.Frag) (A:Adr):TS:=av (dt (bT A.c_Table "put" (oh K A) (fun _=>E0) (ac 0) (ae (ac 6) (ae (ac 7) (ai))))) (Cu K A)
def DF (K:W.Frag) (A:Adr):TS:=av (aM (aq (nP K A) (fun _=>E0) (ae (tOp (bJ) (tOp (dQ) (ac 4) (tC (.int 48271))) (tC (.int 1000003))) (ai))) (aA 7)) (CW K A)
def tT (K:W.Frag) (A:Adr):TS:=av (aM (aq (iE K A) (fun _=>E0) (ae (ac 1) (ae (ac 5) (ae (ac 3) (ai))))) (aA 6)) (DF K A)
def Kk (K:W.Frag) (A:Adr):TS:=av (aM (tOp (du) (ac 4) (tC (.int 4))) (aA 5)) (av (aZ (qe (aV (tOp (bB K) (tOp (bJ) (ac 4) (tC (.int 4))) (tC (.int 0)))) (aV (tOp (zu) (ac 2) (gx)))) (av (aM (tOp (aQ K) (tCB (oR K) (ae (ac 2) (ai))) (tOp (bJ) (ac 5) (tCB (cg K) (ae (ac 2) (ai))))) (aA 6)) (av (dt (bT A.c_Table "take" (nO K A) (fun _=>E0) (ac 0) (ae (ac 6) (ai)))) (av (dt (tBM K "dict" zD (ac 2) (ae (ac 6) (ai)))) (aB (ac 6))))) (aJ)) (tT K A))
def BA (K:W.Frag) (A:Adr):TS:=aB (df (ae (tCB (jj) (ae (ac 3) (ae (ac 4) (ai)))) (ae (tCB (kD) (ae (ac 3) (ae (ac 4) (ai)))) (ai))))
def vm (K:W.Frag) (A:Adr):TS:=av (aZ (aV (tOp (bB K) (tOp (bJ) (ac 2) (tC (.int 16))) (tC (.int 5)))) (aB (df (ae (tC (.int 0)) (ae (tOp (de) (tOp (eK) (tC (.int 1)) (ac 0)) (tC (.int 1))) (ai))))) (aJ)) (BA K A)
def tR (K:W.Frag) (A:Adr):TS:=av (aZ (aV (tOp (bB K) (tOp (bJ) (ac 1) (tC (.int 4))) (tC (.int 1)))) (aM (ac 3) (aA 4)) (aJ)) (vm K A)
def KS (K:W.Frag) (A:Adr):TS:=av (aM (aq (iE K A) (fun _=>E0) (ae (ac 0) (ae (ac 1) (ae (ff (ai)) (ai))))) (aA 3)) (av (aM (aq (iE K A) (fun _=>E0) (ae (ac 0) (ae (ac 2) (ae (ff (ae (ac 3) (ai))) (ai))))) (aA 4)) (av (aZ (aV (tOp (bB K) (tOp (bJ) (ac 2) (tC (.int 7))) (tC (.int 3)))) (aM (tCB (jj) (ae (tOp (bK K) (ac 3) (tOp (bJ) (tOp (du) (ac 2) (tC (.int 7))) (tC (.int 40)))) (ae (tOp (de) (tOp (eK) (tC (.int 1)) (ac 0)) (tC (.int 1))) (ai)))) (aA 4)) (aJ)) (tR K A)))
def CV (K:W.Frag) (A:Adr):TS:=aB (ac 5)
def ui (K:W.Frag) (A:Adr):TS:=av (aZ (aV (tOp (mGt) (tOp (de) (tCB (kD) (ae (ac 3) (ae (ac 4) (ai)))) (tCB (jj) (ae (ac 3) (ae (ac 4) (ai))))) (tC (.int 1)))) (dt (tBM K "list" mq (ac 5) (ae (df (ae (tOp (bK K) (tCB (jj) (ae (ac 3) (ae (ac 4) (ai)))) (tC (.int 1))) (ae (tOp (de) (tCB (kD) (ae (ac 3) (ae (ac 4) (ai)))) (tC (.int 1))) (ai)))) (ai)))) (aJ)) (CV K A)
def uu (K:W.Frag) (A:Adr):TS:=av (aM (tOp (bK K) (ac 5) (ff (ae (df (ae (tC (.int 0)) (ae (ac 3) (ai)))) (ae (df (ae (ac 4) (ae (tOp (de) (tOp (eK) (tC (.int 1)) (ac 1)) (tC (.int 1))) (ai)))) (ae (df (ae (ac 3) (ae (ac 3) (ai)))) (ae (df (ae (tCB (jj) (ae (ac 3) (ae (tOp (mC) (ac 3) (tC (.int 1))) (ai)))) (ae (tCB (kD) (ae (ac 3) (ae (tOp (mC) (ac 3) (tC (.int 1))) (ai)))) (ai)))) (ai))))))) (aA 5)) (ui K A)
def Je (K:W.Frag) (A:Adr):TS:=av (aM (tOp (aQ K) (ac 2) (tOp (bJ) (aq (fm K A) (fun _=>E0) (ae (ac 0) (ae (tC (.int 2)) (ai)))) (tCB (cg K) (ae (ac 2) (ai))))) (aA 3)) (av (aM (tOp (aQ K) (ac 2) (tOp (bJ) (aq (fm K A) (fun _=>E0) (ae (ac 0) (ae (tC (.int 3)) (ai)))) (tCB (cg K) (ae (ac 2) (ai))))) (aA 4)) (av (aM (ff (ae (aq (nU K A) (fun _=>E0) (ae (ac 1) (ae (aq (fm K A) (fun _=>E0) (ae (ac 0) (ae (tC (.int 4)) (ai)))) (ae (aq (fm K A) (fun _=>E0) (ae (ac 0) (ae (tC (.int 5)) (ai)))) (ai))))) (ae (df (ae (tCB (jj) (ae (ac 3) (ae (ac 4) (ai)))) (ae (tCB (kD) (ae (ac 3) (ae (ac 4) (ai)))) (ai)))) (ai)))) (aA 5)) (uu K A)))
def Ja (K:W.Frag) (A:Adr):TS:=aB (dW (tCB (dS) (ae (ac 0) (ae (tC (.ty "tuple")) (ai)))) (dW (tOp (bB K) (tCB (cg K) (ae (ac 0) (ai))) (tC (.int 2))) (dW (tOp (bB K) (tOp (aQ K) (ac 0) (tC (.int 0))) (tC (.str "cut"))) (aq (lh K A) (fun _=>E0) (ae (tOp (aQ K) (ac 0) (tC (.int 1))) (ai))))))
def Jc (K:W.Frag) (A:Adr):TS:=av (aZ (mOr (bS (bM K (tCB (dS) (ae (ac 3) (ae (tC (.ty "tuple")) (ai)))))) (mOr (aV (tOp (eL K) (tCB (cg K) (ae (ac 3) (ai))) (tC (.int 3)))) (aV (tOp (eL K) (tOp (aQ K) (ac 3) (tC (.int 0))) (tC (.str "leaf")))))) (aB (tC (.bl false))) (aJ)) (av (aZ (mOr (bS (bM K (aq (iU K A) (fun _=>E0) (ae (ac 0) (ae (tOp (aQ K) (ac 3) (tC (.int 1))) (ai)))))) (bS (bM K (aq (lR K A) (fun _=>E0) (ae (tOp (aQ K) (ac 3) (tC (.int 2))) (ai)))))) (aB (tC (.bl false))) (aJ)) (aB (tOp (bB K) (aq (iM K A) (fun _=>E0) (ae (ac 0) (ae (tOp (aQ K) (ac 3) (tC (.int 1))) (ae (ac 1) (ai))))) (ac 2))))
def JG (K:W.Frag) (A:Adr):TS:=av (aZ (mOr (bS (bM K (tCB (dS) (ae (ac 3) (ae (tC (.ty "tuple")) (ai)))))) (mOr (aV (tOp (eL K) (tCB (cg K) (ae (ac 3) (ai))) (tC (.int 5)))) (aV (tOp (eL K) (tOp (aQ K) (ac 3) (tC (.int 0))) (tC (.str "fork")))))) (aB (tC (.bl false))) (aJ)) (av (aZ (mOr (bS (bM K (aq (fS K A) (fun _=>E0) (ae (tOp (aQ K) (ac 3) (tC (.int 1))) (ai))))) (bS (aV (dL (mLe) (mLt) (ac 1) (tOp (aQ K) (ac 3) (tC (.int 1))) (ac 0))))) (aB (tC (.bl false))) (aJ)) (av (aZ (mOr (bS (bM K (aq (fS K A) (fun _=>E0) (ae (tOp (aQ K) (ac 3) (tC (.int 2))) (ai))))) (bS (aV (dL (mLe) (mLt) (tC (.int 0)) (tOp (aQ K) (ac 3) (tC (.int 2))) (tOp (eK) (tC (.int 1)) (tOp (aQ K) (ac 3) (tC (.int 1)))))))) (aB (tC (.bl false))) (aJ)) (aB (tOp (bB K) (tOp (oV) (tOp (aQ K) (ac 3) (tC (.int 2))) (tOp (de) (tOp (aQ K) (ac 3) (tC (.int 1))) (ac 1))) (ac 2)))))
def DO (K:W.Frag) (A:Adr):TS:=aB (vU (aq (nI K A) (fun _=>E0) (ae (ac 0) (ae (ac 3) (ae (ac 4) (ae (ac 5) (ai)))))) (aq (oa K A) (fun _=>E0) (ae (ac 0) (ae (ac 3) (ae (ac 4) (ae (ac 5) (ai)))))))
def uD (K:W.Frag) (A:Adr):TS:=av (aZ (aV (tOp (bB K) (ac 5) (df (ae (tC (.str "bare")) (ai))))) (aB (tOp (bB K) (ac 3) (tC (.int 0)))) (aJ)) (DO K A)
def KF (K:W.Frag) (A:Adr):TS:=av (aZ (bS (bM K (aq (lw K A) (fun _=>E0) (ae (ac 0) (ae (ac 1) (ae (ac 2) (ae (ac 3) (ae (ac 4) (ai))))))))) (aB (aq (oC K A) (fun _=>E0) (ae (ac 5) (ai)))) (aJ)) (uD K A)
def Km (K:W.Frag) (A:Adr) (n:Nat):TS:=av (aZ (bS (bM K (aq (oq K A) (fun _=>E0) (ae (ac 0) (ae (ac 1) (ae (ac 2) (ae (ac 3) (ae (ac 4) (ae (ac 5) (ai)))))))))) (dJ) (aJ)) (aZ (aV (tOp (bB K) (tOp (aQ K) (ac 5) (tC (.int 0))) (tC (.str "fork")))) (av (dt (aq (ip K A n) (fun _=>E0) (ae (ac 0) (ae (ac 1) (ae (ac 2) (ae (tOp (bK K) (tOp (aQ K) (ac 5) (tC (.int 1))) (tC (.int 1))) (ae (tOp (dQ) (tC (.int 2)) (tOp (aQ K) (ac 5) (tC (.int 2)))) (ae (tOp (aQ K) (ac 5) (tC (.int 3))) (ai))))))))) (dt (aq (ip K A n) (fun _=>E0) (ae (ac 0) (ae (ac 1) (ae (ac 2) (ae (tOp (bK K) (tOp (aQ K) (ac 5) (tC (.int 1))) (tC (.int 1))) (ae (tOp (bK K) (tOp (dQ) (tC (.int 2)) (tOp (aQ K) (ac 5) (tC (.int 2)))) (tC (.int 1))) (ae (tOp (aQ K) (ac 5) (tC (.int 4))) (ai)))))))))) (aJ))
def Ka (K:W.Frag) (A:Adr):TS:=av (dt (aq (lr K A) (fun _=>E0) (ae (ac 0) (ae (ac 1) (ae (ac 2) (ai)))))) (dt (aq (ip K A 70) (fun _=>E0) (ae (ac 0) (ae (ac 1) (ae (ac 2) (ae (tC (.int 0)) (ae (tC (.int 0)) (ae (ac 3) (ai)))))))))
def Jk (K:W.Frag) (A:Adr):TS:=aB (mIf (aV (tOp (bB K) (tOp (aQ K) (ac 1) (tC (.int 0))) (tC (.str "cut")))) (tOp (aQ K) (ac 1) (tC (.int 1))) (kU (iB K A) (fun _=>E0) (ac 0) (ae (tOp (aQ K) (ac 2) (tUn mn (tC (.int 1)))) (ai))))
def Kz (K:W.Frag) (A:Adr) (n:Nat):TS:=av (aZ (aV (tOp (bB K) (tOp (aQ K) (ac 1) (tC (.int 0))) (tC (.str "cut")))) (aB (ff (ai))) (aJ)) (av (aZ (aV (tOp (eL K) (tOp (aQ K) (ac 1) (tC (.int 0))) (tC (.str "fork")))) (aB (ff (ae (ac 1) (ai)))) (aJ)) (av (aM (aq (iJ K A n) (fun _=>E0) (ae (ac 0) (ae (tOp (aQ K) (ac 1) (tC (.int 3))) (ai)))) (aA 2)) (av (aM (aq (iJ K A n) (fun _=>E0) (ae (ac 0) (ae (tOp (aQ K) (ac 1) (tC (.int 4))) (ai)))) (aA 3)) (av (aM (df (ae (aq (kN K A) (fun _=>E0) (ae (ac 0) (ae (tOp (aQ K) (ac 1) (tC (.int 3))) (ae (ac 2) (ai))))) (ae (aq (kN K A) (fun _=>E0) (ae (ac 0) (ae (tOp (aQ K) (ac 1) (tC (.int 4))) (ae (ac 3) (ai))))) (ai)))) (aA 4)) (aB (tOp (bK K) (tOp (bK K) (ac 2) (ac 3)) (ff (ae (df (ae (tC (.str "fork")) (ae (tOp (aQ K) (ac 1) (tC (.int 1))) (ae (tOp (aQ K) (ac 1) (tC (.int 2))) (ae (tOp (aQ K) (ac 4) (tC (.int 0))) (ae (tOp (aQ K) (ac 4) (tC (.int 1))) (ai))))))) (ai)))))))))
def Ku (K:W.Frag) (A:Adr):TS:=av (dt (aq (nH K A) (fun _=>E0) (ae (ac 1) (ae (ac 2) (ae (ac 3) (ae (ac 4) (ai))))))) (aB (aq (iJ K A 70) (fun _=>E0) (ae (ac 0) (ae (ac 4) (ai)))))
def JR (K:W.Frag) (A:Adr):TS:=aB (kU (iB K A) (fun _=>E0) (ac 0) (ae (tOp (aQ K) (aq (li K A) (fun _=>E0) (ae (ac 0) (ae (ac 1) (ae (ac 2) (ae (ac 3) (ae (ac 4) (ai))))))) (tUn mn (tC (.int 1)))) (ai)))
def Ky (K:W.Frag) (A:Adr) (n:Nat):TS:=av (aZ (aV (tOp (bB K) (tOp (aQ K) (ac 0) (tC (.int 0))) (tC (.str "fork")))) (aB (tOp (bK K) (aq (iC K A n) (fun _=>E0) (ae (tOp (aQ K) (ac 0) (tC (.int 3))) (ai))) (aq (iC K A n) (fun _=>E0) (ae (tOp (aQ K) (ac 0) (tC (.int 4))) (ai))))) (aJ)) (aB (tCB (wD) (ae (tOp (bB K) (tOp (aQ K) (ac 0) (tC (.int 0))) (tC (.str "cut"))) (ai))))
def KR (K:W.Frag) (A:Adr):TS:=av (aZ (bM K (tCB (dS) (ae (ac 1) (ae (tC (.ty "str")) (ai))))) (aB (dW (tCB (dS) (ae (ac 0) (ae (tC (.ty "str")) (ai)))) (tOp (bB K) (ac 0) (ac 1)))) (aJ)) (aB (dW (tCB (dS) (ae (ac 0) (ae (tC (.ty "int")) (ai)))) (dW (nM (tCB (dS) (ae (ac 0) (ae (tC (.ty "bool")) (ai))))) (tOp (bB K) (ac 0) (ac 1)))))
def KP (K:W.Frag) (A:Adr):TS:=av (aZ (mOr (bS (bM K (tCB (dS) (ae (ac 0) (ae (tC (.ty "tuple")) (ai)))))) (aV (tOp (eL K) (tCB (cg K) (ae (ac 0) (ai))) (tCB (cg K) (ae (ac 1) (ai)))))) (aB (tC (.bl false))) (aJ)) (av (fD (kX (ae (tCB (cg K) (ae (ac 1) (ai))) (ai))) (aA 2) (aZ (bS (bM K (aq (og K A) (fun _=>E0) (ae (tOp (aQ K) (ac 0) (ac 2)) (ae (tOp (aQ K) (ac 1) (ac 2)) (ai)))))) (aB (tC (.bl false))) (aJ))) (aB (tC (.bl true))))
def JW (K:W.Frag) (A:Adr):TS:=av (aZ (mOr (bS (bM K (tCB (dS) (ae (ac 0) (ae (tC (.ty "list")) (ai)))))) (aV (tOp (eL K) (tCB (cg K) (ae (ac 0) (ai))) (tCB (cg K) (ae (ac 1) (ai)))))) (aB (tC (.bl false))) (aJ)) (av (fD (kX (ae (tCB (cg K) (ae (ac 1) (ai))) (ai))) (aA 2) (aZ (bS (bM K (aq (nS K A) (fun _=>E0) (ae (tOp (aQ K) (ac 0) (ac 2)) (ae (tOp (aQ K) (ac 1) (ac 2)) (ai)))))) (aB (tC (.bl false))) (aJ))) (aB (tC (.bl true))))
def Kt (K:W.Frag) (A:Adr):TS:=aB (gc [0,1] (fE K (ac 2)) (qe (aV (tOp (bB K) (tOp (aQ K) (ac 0) (tC (.int 0))) (tC (.str "leaf")))) (aV (dL (mLe) (mLe) (ac 1) (tOp (aQ K) (ac 0) (tC (.int 1))) (ac 2)))) (df (ae (tOp (aQ K) (ac 0) (tC (.int 1))) (ae (tOp (aQ K) (ac 0) (tC (.int 2))) (ai)))))
def IT (K:W.Frag) (A:Adr):TS:=av (aM (aq (li K A) (fun _=>E0) (ae (ac 0) (ae (ac 1) (ae (ac 3) (ae (ac 4) (ae (ac 5) (ai))))))) (aA 6)) (av (aM (kU (iB K A) (fun _=>E0) (ac 0) (ae (tOp (aQ K) (ac 6) (tUn mn (tC (.int 1)))) (ai))) (aA 7)) (av (aZ (aV (tOp (eL K) (ac 7) (ac 2))) (dJ) (aJ)) (aB (aq (nY K A) (fun _=>E0) (ae (ac 3) (ae (ac 4) (ae (ac 6) (ai))))))))
def Kx (K:W.Frag) (A:Adr):TS:=aB (gc [0,1,2] (fE K (tCB (oR K) (ae (ac 0) (ai)))) (aV (dL (mLe) (mLe) (ac 2) (ac 0) (ac 3))) (df (ae (ac 0) (ae (tOp (aQ K) (ac 1) (ac 0)) (ai)))))
def Jn (K:W.Frag) (A:Adr):TS:=av (aM (ac 5) (pZ K 2 (fX (aA 6) (fX (aA 7) pF)))) (av (aM (aq (iV K A) (fun _=>E0) (ae (ac 0) (ae (ac 6) (ae (ac 7) (ai))))) (aA 8)) (av (aZ (mOr (aV (tOp (eL K) (aq (oA K A) (fun _=>E0) (ae (ac 1) (ae (ac 2) (ae (ac 6) (ae (ac 7) (ae (ac 8) (ai))))))) (ac 3))) (aV (tOp (mGt) (aq (iC K A 70) (fun _=>E0) (ae (ac 8) (ai))) (tOp (dQ) (tC (.int 2)) (ac 2))))) (aB (tC (.bl false))) (aJ)) (aB (aq (ly K A) (fun _=>E0) (ae (aq (lM K A) (fun _=>E0) (ae (ac 1) (ae (ac 2) (ae (ac 3) (ae (ac 6) (ae (ac 7) (ae (ac 8) (ai)))))))) (ae (aq (lE K A) (fun _=>E0) (ae (ac 4) (ae (ac 6) (ae (ac 7) (ai))))) (ai)))))))
def Kp (K:W.Frag) (A:Adr):TS:=aB (bc K (bc K (ac 0) "top") "mark")
def AX (K:W.Frag) (A:Adr):TS:=aB (aq (ly K A) (fun _=>E0) (ae (ac 12) (ae (aq (lE K A) (fun _=>E0) (ae (ac 7) (ae (tC (.int 0)) (ae (tOp (de) (tOp (eK) (tC (.int 1)) (ac 1)) (tC (.int 1))) (ai))))) (ai))))
def Au (K:W.Frag) (A:Adr):TS:=av (aM (aq (lM K A) (fun _=>E0) (ae (ac 2) (ae (ac 1) (ae (bT A.c_Table "root" (gK K A) (fun _=>E0) (ac 6) ai) (ae (tC (.int 0)) (ae (tOp (de) (tOp (eK) (tC (.int 1)) (ac 1)) (tC (.int 1))) (ae (ac 8) (ai)))))))) (aA 12)) (AX K A)
def qr (K:W.Frag) (A:Adr):TS:=av (aZ (aV (tOp (eL K) (aq (iV K A) (fun _=>E0) (ae (ac 6) (ae (tC (.int 0)) (ae (tOp (de) (tOp (eK) (tC (.int 1)) (ac 1)) (tC (.int 1))) (ai))))) (ac 8))) (aB (tC (.bl false))) (aJ)) (Au K A)
def Ak (K:W.Frag) (A:Adr):TS:=av (fD (fE K (tSl (pS K) (aq (lK K A) (fun _=>E0) (ae (ac 0) (ae (ac 1) (ae (ac 5) (ai))))) (gX) (iF (tC (.int 2))))) (aA 11) (aZ (bS (bM K (aq (iq K A) (fun _=>E0) (ae (ac 6) (ae (ac 2) (ae (ac 1) (ae (bT A.c_Table "root" (gK K A) (fun _=>E0) (ac 6) ai) (ae (ac 7) (ae (ac 11) (ai)))))))))) (aB (tC (.bl false))) (aJ))) (qr K A)
def uV (K:W.Frag) (A:Adr):TS:=av (fD (fE K (aq (lK K A) (fun _=>E0) (ae (ac 0) (ae (ac 1) (ae (ac 5) (ai)))))) (aA 11) (aZ (bS (bM K (aq (iq K A) (fun _=>E0) (ae (ac 3) (ae (ac 2) (ae (ac 1) (ae (bT A.c_Table "root" (gK K A) (fun _=>E0) (ac 3) ai) (ae (ac 4) (ae (ac 11) (ai)))))))))) (aB (tC (.bl false))) (aJ))) (Ak K A)
def vj (K:W.Frag) (A:Adr):TS:=av (fD (yE K (ae (tSl (pS K) (ac 0) (iF (tC (.int 7))) (iF (tC (.int 37)))) (ai))) (pZ K 2 (fX (aA 9) (fX (aA 10) pF))) (av (dt (tBM K "list" mq (ac 5) (ae (aq (oF K A) (fun _=>E0) (ae (ac 3) (ae (ac 1) (ae (ac 4) (ae (ac 5) (ae (ac 10) (ai))))))) (ai)))) (aZ (aV (tOp (bB K) (ac 9) (tOp (bJ) (aq (fm K A) (fun _=>E0) (ae (ac 0) (ae (tC (.int 6)) (ai)))) (tC (.int 30))))) (av (aM (bT A.c_Table "twin" (lf K A) (fun _=>E0) (ac 3) ai) (aA 6)) (av (aM (tCB (zt K) (ae (ac 4) (ai))) (aA 7)) (aM (aq (iV K A) (fun _=>E0) (ae (ac 3) (ae (tC (.int 0)) (ae (tOp (de) (tOp (eK) (tC (.int 1)) (ac 1)) (tC (.int 1))) (ai))))) (aA 8)))) (aJ)))) (uV K A)
def vg (K:W.Frag) (A:Adr):TS:=av (aM (aq (iV K A) (fun _=>E0) (ae (ac 3) (ae (tC (.int 0)) (ae (tOp (de) (tOp (eK) (tC (.int 1)) (ac 1)) (tC (.int 1))) (ai))))) (aA 8)) (vj K A)
def Er (K:W.Frag) (A:Adr):TS:=av (aM (gx) (aA 7)) (vg K A)
def ut (K:W.Frag) (A:Adr):TS:=av (aM (bT A.c_Table "twin" (lf K A) (fun _=>E0) (ac 3) ai) (aA 6)) (Er K A)
def tM (K:W.Frag) (A:Adr):TS:=av (aM (ff (ae (aq (iE K A) (fun _=>E0) (ae (ac 1) (ae (aq (fm K A) (fun _=>E0) (ae (ac 0) (ae (tC (.int 6)) (ai)))) (ae (ff (ai)) (ai))))) (ai))) (aA 5)) (ut K A)
def uc (K:W.Frag) (A:Adr):TS:=av (aM (gx) (aA 4)) (tM K A)
def vh (K:W.Frag) (A:Adr):TS:=av (aM (cS A.c_Table (jM K A) (fun _=>E0) (ae (ac 2) (ae (ac 1) (ai)))) (aA 3)) (uc K A)
def uR (K:W.Frag) (A:Adr):TS:=av (aM (aq (nX K A) (fun _=>E0) (ae (aq (fm K A) (fun _=>E0) (ae (ac 0) (ae (tC (.int 1)) (ai)))) (ai))) (aA 2)) (vh K A)
def Ke (K:W.Frag) (A:Adr):TS:=av (aM (aq (oE K A) (fun _=>E0) (ae (aq (fm K A) (fun _=>E0) (ae (ac 0) (ae (tC (.int 0)) (ai)))) (ai))) (aA 1)) (uR K A)
variable {K:W.Frag} {mg:Str→Option Value} {A:Adr}
def tyD:Dat→String
 | .non=> "NoneType"
 | .bl _=> "bool"
 | .int _=> "int"
 | .str _=> "str"
 | .lst _=> "list"
 | .tup _=> "tuple"
 | .dic=> "dict"
theorem aY.ty {H:Hp} {v:V} {d:Dat} (h:aY H v d):tyN H v=some (tyD d):=by
 cases h with
 | lst e _=>unfold tyN;dsimp only;rw [e];rfl
 | tup e _=>unfold tyN;dsimp only;rw [e];rfl
 | dic e=>unfold tyN;dsimp only;obtain ⟨kvs,e⟩:=e;rw [e];rfl
 | _=>rfl
mutual
theorem aY.toV {K:W.Frag} {H:Hp} {v:V} {d:Dat} (h:aY H v d) (ok:okD d=true):et K H v (cB d):=by
 cases h with
 | non=>exact .non
 | bl b=>exact .bl b
 | int i=>exact .int i
 | str z=>exact .str z
 | lst e r=>exact .lst (SqL.of e) (DatWs.toV r ok)
 | tup e r=>exact .tup (SqT.of e) (DatWs.toV r ok)
 | dic e=>cases ok
theorem DatWs.toV {K : W.Frag} {H : Hp} {xs : List V} {ds : List Dat} (h : DatWs H xs ds) (ok : okDs ds = true) : DatVs K H xs (toPys ds) := by
  cases h with
  | nil => exact .nil
  | cons a r =>
    have ok : (okD _ && okDs _) = true := ok
    rw [Bool.and_eq_true] at ok
    exact .cons (aY.toV a ok.1) (DatWs.toV r ok.2)
end
theorem DX {z:Str} (h:bI z=true):PyData.strOk z=true:=by
 unfold PyData.strOk
 unfold bI at h
 rw [Array.all_eq_true] at h ⊢
 intro i hi
 have:=of_decide_eq_true (h i hi)
 exact decide_eq_true (by omega)
mutual
theorem gA:∀ {d:Dat},okD d=true→(cB d).canLay0=true
 | .non,_=>rfl
 | .bl _,_=>rfl
 | .int _,_=>rfl
 | .str z,h=>DX (Bool.and_eq_true_iff.mp h).1
 | .lst ds,h=>lay_toPys h
 | .tup ds,h=>lay_toPys h
theorem lay_toPys : ∀ {ds : List Dat}, okDs ds = true → PyData.canLayAll0 (toPys ds) = true
  | [], _ => rfl
  | d :: r, h => by
    have h : (okD d && okDs r) = true := h
    rw [Bool.and_eq_true] at h
    show ((cB d).canLay0 && PyData.canLayAll0 (toPys r)) = true
    rw [gA h.1, lay_toPys h.2]; rfl
end
theorem DatWs.len {H:Hp}:∀ {xs:List V} {ds:List Dat},DatWs H xs ds→xs.length=ds.length
 | _,_,.nil=>rfl
 | _,_,.cons _ r=>by rw [List.length_cons,List.length_cons,r.len]
mutual
theorem aY.mono {H H':Hp} {v:V} {d:Dat} (s:au H H') (h:aY H v d):aY H' v d:=by
 cases h with
 | non=>exact .non
 | bl b=>exact .bl b
 | int i=>exact .int i
 | str z=>exact .str z
 | lst e r=>exact .lst (s _ _ e) (DatWs.mono s r)
 | tup e r=>exact .tup (s _ _ e) (DatWs.mono s r)
 | dic e=>exact (let ⟨k,e⟩:=e;.dic ⟨k,s _ _ e⟩)
theorem DatWs.mono {H H':Hp} {xs:List V} {ds:List Dat} (s:au H H') (h:DatWs H xs ds):DatWs H' xs ds:=by
 cases h with
 | nil=>exact .nil
 | cons a r=>exact .cons (aY.mono s a) (DatWs.mono s r)
end
theorem qY {K:W.Frag} {H:Hp} {v:V} {d:Dat} {w:Str} {Q:VK} (h:aY H v d) (ok:okD d=true) (dp:(cB d).depth≤150) (hw:PyData.strOk w=true) (q:Q (.bl (!cz w d)) H):eL K v (.str w) H Q:=by
 have ref:∀ a,v=.ref a→(cB d).eqv (.str w)=false→cz w d=false→eL K v (.str w) H Q:=fun a e e1 e2=>by
  subst e
  refine ⟨_,_,h.toV ok,.str w,gA ok,hw,dp,?_⟩
  rw [e1];rw [e2] at q;exact q
 cases h with
 | non=>exact q
 | bl b=>exact q
 | int i=>exact q
 | str z=>exact q
 | lst e r=>exact ref _ rfl rfl rfl
 | tup e r=>exact ref _ rfl rfl rfl
 | dic e=>cases ok
theorem ixT {K:W.Frag} {H:Hp} {Q:VK} {a:Addr} {xs:List V} {x:V} {i:Int} {j:Nat} (ha:H a=some (.tup xs)) (e:i=j) (hx:xs[j]?=some x) (q:Q x H):aQ K (.ref a) (.int i) H Q:=by
 subst e
 refine .inl (.inr (.inl ⟨a,xs,j,x,rfl,rfl,SqT.of ha,?_,q⟩))
 have hj:=(List.getElem?_eq_some_iff.mp hx).1
 rw [uZ (by omega) (by omega)]
 simp [List.getD_eq_getElem?_getD,hx]
theorem CG (K:W.Frag) (A:Adr):Ln (fS K A) 1:=by rintro vs H Q E ⟨v,d,rfl,_⟩;rfl
theorem Fy (T:Txt K mg A) (vs:List V) (H:Hp) (Q:VK) (E:XK) (h:fS K A vs H Q E):Kh K A { nx:=fun _ H'=>Q .non H',rt:=Q } (cp ["thing"] vs) H:=by
 obtain ⟨v,d,rfl,w,q⟩:=h
 refine ⟨by decide,_,w.ty,?_⟩
 cases d
 case int i=>exact Sel.yes rfl ⟨by decide,_,w.ty,q⟩
 case bl b=>exact Sel.yes rfl ⟨by decide,_,w.ty,q⟩
 all_goals exact Sel.no rfl q
theorem CY (K:W.Frag) (A:Adr):Ln (lh K A) 1:=by rintro vs H Q E ⟨v,d,rfl,_⟩;rfl
theorem Im (T : Txt K mg A) (vs : List V) (H : Hp) (Q : VK) (E : XK) (h : lh K A vs H Q E) : IZ K A { nx := fun _ H' => Q .non H', rt := Q } (cp ["thing"] vs) H := by
  obtain ⟨v, d, rfl, w, q⟩ := h
  refine ⟨v, d, rfl, w, ?_⟩
  cases w with
  | int i =>
    refine Sel.yes rfl (Sel.dec (fun h0 => ⟨⟨by decide, by decide, by decide⟩, ?_⟩) (fun h0 => ?_))
    · show Q (.bl (decide (i < 10 ^ ((60 : Int).toNat)))) H
      have e : gs (.int i) = decide (i < 10 ^ ((60 : Int).toNat)) := by
        show decide (0 ≤ i ∧ i < 10 ^ 60) = decide (i < 10 ^ 60)
        by_cases h1 : i < 10 ^ 60
        · rw [decide_eq_true h1, decide_eq_true ⟨h0, h1⟩]
        · rw [decide_eq_false h1, decide_eq_false fun z => h1 z.2]
      rw [← e]; exact q
    · have e : gs (.int i) = false := decide_eq_false fun z => h0 z.1
      rw [← e]; exact q
  | non => exact Sel.no rfl ⟨by decide, _, rfl, q⟩
  | bl b => exact Sel.no rfl ⟨by decide, _, rfl, q⟩
  | str z => exact Sel.no rfl ⟨by decide, _, rfl, q⟩
  | lst e r => exact Sel.no rfl ⟨by decide, _, (aY.lst e r).ty, q⟩
  | tup e r => exact Sel.no rfl ⟨by decide, _, (aY.tup e r).ty, q⟩
  | dic e => exact Sel.no rfl ⟨by decide, _, (aY.dic e).ty, q⟩
theorem Cf (K:W.Frag) (A:Adr):Ln (iM K A) 3:=by rintro vs H Q E ⟨b,k,d,rfl,_⟩;rfl
theorem GR (T:Txt K mg A):Rd (iM K A) (Ks K A) ["bits", "key", "depth"]:=by
 intro vs H Q E h
 obtain ⟨b,k,d,rfl,hd,q⟩:=h
 exact ⟨by omega,q⟩
theorem BU (K:W.Frag) (A:Adr):Ln (iU K A) 2:=by rintro vs H Q E ⟨b,v,d,rfl,_⟩;rfl
theorem Hf (T : Txt K mg A) : Rd (iU K A) (KB K A) ["bits", "thing"] := by
  intro vs H Q E h
  obtain ⟨b, v, d, rfl, h0, h1, w, q⟩ := h
  refine ⟨v, d, rfl, w, ?_⟩
  cases w with
  | int i =>
    refine Sel.yes rfl (Sel.dec (fun h2 => ⟨⟨h0, by omega, by decide⟩, ?_⟩) (fun h2 => ?_))
    · show Q (.bl (decide (i < 1 * 2 ^ b.toNat))) H
      have e : dw b (.int i) = decide (i < 1 * 2 ^ b.toNat) := by
        show decide (0 ≤ i ∧ i < 2 ^ b.toNat) = _
        rw [Int.one_mul]
        by_cases h1 : i < 2 ^ b.toNat
        · rw [decide_eq_true h1, decide_eq_true ⟨h2, h1⟩]
        · rw [decide_eq_false h1, decide_eq_false fun z => h1 z.2]
      rw [← e]; exact q
    · have e : dw b (.int i) = false := decide_eq_false fun z => h2 z.1
      rw [← e]; exact q
  | _ => exact Sel.no rfl q
theorem BX (K:W.Frag) (A:Adr):Ln (lR K A) 1:=by rintro vs H Q E ⟨v,d,rfl,_⟩;rfl
theorem Hj (T : Txt K mg A) : Rd (lR K A) (JB K A) ["thing"] := by
  intro vs H Q E h
  obtain ⟨v, d, rfl, w, ok, q⟩ := h
  refine ⟨by decide, _, w.ty, ?_⟩
  cases w with
  | str z =>
    have hl := of_decide_eq_true (Bool.and_eq_true_iff.mp ok).2
    refine Sel.yes rfl (.inl ⟨aW (by omega), ?_⟩)
    have e : cN (.str z) = decide ((z.length : Int) ≤ 60) := by
      show decide (z.length ≤ 60) = _
      by_cases h1 : z.length ≤ 60
      · rw [decide_eq_true h1, decide_eq_true (by omega)]
      · rw [decide_eq_false h1, decide_eq_false (by omega)]
    show Q (.bl (decide ((z.length : Int) ≤ 60))) H
    rw [← e]; exact q
  | _ => exact Sel.no rfl q
theorem uW {d : Dat} {ds : List Dat} (hm : d ∈ ds) : (cB d).depth ≤ PyData.depthAll (toPys ds) := by
  induction ds with
  | nil => cases hm
  | cons x r ih =>
    show _ ≤ max (cB x).depth (PyData.depthAll (toPys r))
    rcases List.mem_cons.mp hm with rfl | hm
    · omega
    · have := ih hm; omega
theorem oM {d : Dat} {ds : List Dat} (h : okDs ds = true) (hm : d ∈ ds) : okD d = true := by
  induction ds with
  | nil => cases hm
  | cons x r ih =>
    have h : (okD x && okDs r) = true := h
    rw [Bool.and_eq_true] at h
    rcases List.mem_cons.mp hm with rfl | hm
    · exact h.1
    · exact ih h.2 hm
theorem jE.tup {ds:List Dat} (h:jE (.tup ds)):okDs ds=true∧PyData.depthAll (toPys ds)≤139:=by
 rcases h with ⟨h1,h2⟩ | h
 · exact ⟨h1,by have h2:PyData.depthAll (toPys ds)+1≤140:=h2;omega⟩
 · cases h
theorem qB {K : W.Frag} {H : Hp} {v : V} {d : Dat} {p : Addr} {Q : VK} (w : aY H v d) (ok : jE d) (hp : H p = some (.tup [.str "bare"])) (q : Q (.bl (mD d)) H) : bB K v (.ref p) H Q := by
  have dv : et K H (.ref p) (.tuple [.str "bare"]) := .tup (SqT.of hp) (.cons (.str _) .nil)
  have lv : (PyData.tuple [.str "bare"]).canLay0 = true := by decide +kernel
  rcases ok with ⟨ok, dp⟩ | rfl
  · have hd : ∀ e : (cB d).eqv (.tuple [.str "bare"]) = mD d, pL K v (.ref p) H Q := fun e => ⟨_, _, w.toV ok, dv, gA ok, lv, by omega, by rw [e]; exact q⟩
    cases w with
    | non => exact hd rfl
    | bl b => exact hd rfl
    | int i => exact hd rfl
    | str z => exact hd rfl
    | lst e r => exact .inr (.inl (hd rfl))
    | @tup a xs ds e r =>
      refine .inr (.inl (hd ?_))
      clear hd r ok dp q
      cases ds with
      | nil => rfl
      | cons x rs =>
        cases rs with
        | nil =>
          show ((cB x).eqv (.str "bare") && true) = cz "bare" x
          rw [Bool.and_true]
          cases x with
          | str z =>
            show (z == ("bare" : Str)) = decide (z = "bare")
            by_cases h : z = "bare" <;> simp [h]
          | _ => rfl
        | cons y rs =>
          show ((cB x).eqv (.str "bare") && false) = false
          rw [Bool.and_false]
    | dic e => cases ok
  · cases w with
    | dic e => exact .inr (.inr ⟨_, p, _, rfl, rfl, .inl e, SqT.of hp, q⟩)
theorem Dp (K:W.Frag) (A:Adr):Ln (nI K A) 4:=by rintro vs H Q E ⟨b,p,g,v,d,rfl,_⟩;rfl
theorem IC (T : Txt K mg A) : Rd (nI K A) (Jc K A) ["bits", "depth", "begin", "thing"] := by
  intro vs H Q E h
  obtain ⟨b, p, g, v, d, rfl, b0, b60, hp, w, ok, q⟩ := h
  refine ⟨by decide, _, w.ty, ?_⟩
  cases w with
  | @tup a xs ds e r =>
    obtain ⟨ok, dp⟩ := ok.tup
    have el := r.len
    refine Sel.no rfl (.inl (.inr (.inl ⟨_, SqT.of e, Sel.ndec (fun ne => Sel.t ?_) (fun he => ?_)⟩)))
    · have e2 : fw b p g (.tup ds) = false := by
        unfold fw
        split
        · rename_i heq; cases heq; simp at el; omega
        · rfl
      rw [e2] at q; exact q
    · cases r with
      | nil => simp at he
      | @cons x0 _ d0 _ w0 r =>
      cases r with
      | nil => simp at he
      | @cons x1 _ d1 _ w1 r =>
      cases r with
      | nil => simp at he
      | @cons x2 _ d2 _ w2 r =>
      cases r with
      | cons _ _ => simp at he; omega
      | nil =>
      have o0 := oM ok (d := d0) (by simp)
      have p0 := uW (d := d0) (ds := [d0, d1, d2]) (by simp)
      have o2 := oM ok (d := d2) (by simp)
      refine ixT (j := 0) e rfl rfl (qY w0 o0 (by omega) (by decide +kernel) (Sel.mk (fun hn => ?_) (fun hy => ?_)))
      · have hn : cz "leaf" d0 = false := by simpa using hn
        have e2 : fw b p g (.tup [d0, d1, d2]) = false := by
          cases d1 <;> first | rfl | (show (cz "leaf" d0 && _ && _ && _) = false; rw [hn]; rfl)
        rw [e2] at q; exact q
      · have hy : cz "leaf" d0 = true := by simpa using hy
        refine ixT (j := 1) e rfl rfl ⟨b, x1, d1, rfl, b0, b60, w1, ?_⟩
        cases w1 with
        | int k =>
          have e2 : fw b p g (.tup [d0, .int k, d2]) = (decide (0 ≤ k ∧ k < 2 ^ b.toNat) && cN d2 && decide (fL b k p = g)) := by
            show (cz "leaf" d0 && _ && _ && _) = _
            rw [hy]; simp
          rw [e2] at q
          refine Sel.mk (fun hk => Sel.t ?_) (fun hk => ?_)
          · have hk : dw b (.int k) = false := by simpa only [Bool.not_eq_true'] using hk
            have hk : decide (0 ≤ k ∧ k < 2 ^ b.toNat) = false := hk
            rw [hk] at q; exact q
          · have hk : dw b (.int k) = true := by simpa only [Bool.not_eq_false'] using hk
            have hk : decide (0 ≤ k ∧ k < 2 ^ b.toNat) = true := hk
            rw [hk, Bool.true_and] at q
            refine ixT (j := 2) e rfl rfl ⟨x2, d2, rfl, w2, o2, ?_⟩
            refine Sel.mk (fun hv => ?_) (fun hv => ?_)
            · have hv : cN d2 = false := by simpa using hv
              rw [hv] at q; exact q
            · have hv : cN d2 = true := by simpa using hv
              rw [hv, Bool.true_and] at q
              exact ixT (j := 1) e rfl rfl ⟨b, k, p, rfl, hp, q⟩
        | _ => exact Sel.t (Sel.t q)
  | _ => exact Sel.yes rfl (Sel.t q)
theorem CH (K:W.Frag) (A:Adr):Ln (oa K A) 4:=by rintro vs H Q E ⟨b,p,g,v,d,rfl,_⟩;rfl
theorem HX (T : Txt K mg A) : Rd (oa K A) (JG K A) ["bits", "depth", "begin", "thing"] := by
  intro vs H Q E h
  obtain ⟨b, p, g, v, d, rfl, p0, b60, hp, w, ok, q⟩ := h
  refine ⟨by decide, _, w.ty, ?_⟩
  cases w with
  | @tup a xs ds e r =>
    obtain ⟨ok, dp⟩ := ok.tup
    have el := r.len
    refine Sel.no rfl (.inl (.inr (.inl ⟨_, SqT.of e, Sel.ndec (fun ne => Sel.t ?_) (fun he => ?_)⟩)))
    · have e2 : fv b p g (.tup ds) = false := by
        unfold fv
        split
        · rename_i heq; cases heq; simp at el; omega
        · rfl
      rw [e2] at q; exact q
    · cases r with
      | nil => simp at he
      | @cons x0 _ d0 _ w0 r =>
      cases r with
      | nil => simp at he
      | @cons x1 _ d1 _ w1 r =>
      cases r with
      | nil => simp at he
      | @cons x2 _ d2 _ w2 r =>
      cases r with
      | nil => simp at he
      | @cons x3 _ d3 _ w3 r =>
      cases r with
      | nil => simp at he
      | @cons x4 _ d4 _ w4 r =>
      cases r with
      | cons _ _ => simp at he; omega
      | nil =>
      have o0 := oM ok (d := d0) (by simp)
      have pp := uW (d := d0) (ds := [d0, d1, d2, d3, d4]) (by simp)
      refine ixT (j := 0) e rfl rfl (qY w0 o0 (by omega) (by decide +kernel) (Sel.mk (fun hn => ?_) (fun hy => ?_)))
      · have hn : cz "fork" d0 = false := by simpa using hn
        have e2 : fv b p g (.tup [d0, d1, d2, d3, d4]) = false := by
          cases d1 <;> first | rfl | (cases d2 <;> first | rfl | (show (cz "fork" d0 && _ && _ && _) = false; rw [hn]; rfl))
        rw [e2] at q; exact q
      · have hy : cz "fork" d0 = true := by simpa using hy
        refine ixT (j := 1) e rfl rfl ⟨x1, d1, rfl, w1, ?_⟩
        cases w1 with
        | int ee =>
          refine Sel.no rfl (ixT (j := 1) e rfl rfl ?_)
          have bad : decide (p ≤ ee ∧ ee < b) = false → fv b p g (.tup [d0, .int ee, d2, d3, d4]) = false := fun z => by
            cases d2 <;> first | rfl | (show (cz "fork" d0 && _ && _ && _) = false; rw [z]; simp)
          refine Sel.dec (fun h1 => Sel.ndec (fun h2 => ?_) (fun h2 => ?_)) (fun h1 => ?_)
          · rw [bad (decide_eq_false fun z => h2 z.2)] at q; exact q
          · refine ixT (j := 2) e rfl rfl ⟨x2, d2, rfl, w2, ?_⟩
            cases w2 with
            | int bb =>
              have e2 : fv b p g (.tup [d0, .int ee, .int bb, d3, d4]) = (decide (0 ≤ bb ∧ bb < 2 ^ ee.toNat) && decide (bb / 2 ^ (ee - p).toNat = g)) := by
                show (cz "fork" d0 && decide (p ≤ ee ∧ ee < b) && _ && _) = _
                rw [hy, decide_eq_true ⟨h1, h2⟩]; simp
              rw [e2] at q
              refine Sel.no rfl (ixT (j := 2) e rfl rfl ?_)
              refine Sel.dec (fun h3 => ixT (j := 1) e rfl rfl ⟨⟨by omega, by omega, by decide⟩, Sel.mk (fun h4 => ?_) (fun h4 => ?_)⟩) (fun h3 => ?_)
              · rw [Int.one_mul] at h4
                have h4 : ¬ bb < 2 ^ ee.toNat := by simpa using h4
                rw [decide_eq_false (fun z => h4 z.2)] at q; exact q
              · rw [Int.one_mul] at h4
                have h4 : bb < 2 ^ ee.toNat := by simpa using h4
                rw [decide_eq_true ⟨h3, h4⟩, Bool.true_and] at q
                exact ixT (j := 2) e rfl rfl (ixT (j := 1) e rfl rfl ⟨by omega, q⟩)
              · rw [decide_eq_false (fun z => h3 z.1)] at q; exact Sel.yes rfl q
            | _ => exact Sel.yes rfl (Sel.t q)
          · rw [bad (decide_eq_false fun z => h1 z.1)] at q; exact Sel.yes rfl q
        | _ => exact Sel.yes rfl (Sel.t q)
  | _ => exact Sel.yes rfl (Sel.t q)
theorem vQ {H:Hp} {Q:VK} {a:Addr} {xs:List V} {i:Int} (ha:H a=some (.lst xs)) (h0:0≤i) (h1:i<xs.length) (q:∀ v∈xs,Q v H):aQ K (.ref a) (.int i) H Q:=by
 obtain ⟨v,hv⟩:=ph h0 h1
 obtain ⟨j,_,hj,_⟩:=gj hv
 exact .inl (.inl ⟨a,xs,i,v,rfl,rfl,SqL.of ha,hv,q v (List.mem_of_getElem? hj)⟩)
theorem uq {x:Int} (h:x.natAbs<2^64):Builtin.Int.intBits x≤64:=by
 unfold Builtin.Int.intBits
 split
 · decide
 · rename_i hx
   have hx:x≠0:=by simpa using hx
   have:x.natAbs.log2<64:=(Nat.log2_lt (by omega)).mpr h
   omega
theorem my {x y:Int} (h0:0≤x) (h:x<2^64):IntMulOk x y:=IntMulOk.of_left (uq (by omega))
theorem lZ {x y:Int} (h0:0≤y) (h:y<2^64):IntMulOk x y:=IntMulOk.of_right (uq (by omega))
theorem EA (K:W.Frag) (A:Adr):Ln (fm K A) 2:=by rintro vs H Q E ⟨a,ns,k,rfl,_⟩;rfl
theorem Ik (T:Txt K mg A):Rd (fm K A) (IX K A) ["_law_script", "_law_k", "_law_number_here", "_law_cell"]:=by
 intro vs H Q E h
 obtain ⟨a,ns,k,rfl,hs,h0,q⟩:=h
 refine .inl (.inl ⟨_,hs,Sel.dec (fun h=>?_) (fun h=>?_)⟩)
 · obtain ⟨v,hv⟩:=ph h0 h
   obtain ⟨j,_,hj,_⟩:=gj hv
   obtain ⟨z,_,rfl⟩:=mE hj
   exact .inl (.inl ⟨a,_,k,_,rfl,rfl,hs,hv,q z H (.refl H)⟩)
 · obtain ⟨zs,ez,hz⟩:=uh ns none (some 5)
   refine .inl (.inl ⟨_,hs,5,rfl,.inl (.inl ⟨a,_,rfl,hs,fun p hp=>?_⟩)⟩)
   rw [ez]
   refine ⟨p,rfl,.inl ⟨⟨_,SqL.of aj⟩,?_⟩⟩
   refine kI (xs:=zs.map V.int) (fun i σ H'=>H'=upd H p (.lst (zs.map V.int))∧∃ n x3,σ=[some (.ref a),some (.int k),some (.int n),x3]) ⟨rfl,_,none,rfl⟩ ?_ ?_ ?_
   · rintro i σ _ _ ⟨rfl,_⟩;exact SqL.of aj
   · rintro i x σ _ hx ⟨rfl,n,x3,rfl⟩
     obtain ⟨z,_,rfl⟩:=mE hx
     exact ⟨lZ (by decide) (by decide),by decide,rfl,_,_,rfl⟩
   · rintro σ _ ⟨rfl,n,x3,rfl⟩
     refine ⟨IntMulOk.of_left (by decide),by decide,?_⟩
     have b0:0≤(n+7919*k)%1000003:=by omega
     have b1:(n+7919*k)%1000003<1000003:=by omega
     exact ⟨my b0 (by omega),by decide,q _ _ (au.upd hp)⟩
theorem Ek (K:W.Frag) (A:Adr):Ln (oE K A) 1:=by rintro vs H Q E ⟨c,rfl,_⟩;rfl
theorem Hx (T:Txt K mg A):Rd (oE K A) (Kg K A) ["_law_cell"]:=by
 intro vs H Q E h
 obtain ⟨c,rfl,q⟩:=h
 refine ⟨⟨by decide,by decide⟩,aW (n:=3) (by decide),fun p hp=>⟨by decide,?_⟩⟩
 have hc:c%3=0∨c%3=1∨c%3=2:=by omega
 have S:=au.upd (o:=.lst [V.int 60,.int 8,.int 60]) hp
 rcases hc with e | e | e <;> rw [e]
 · exact ixL (j:=0) aj rfl rfl ⟨by decide,q _ _ S (by omega) (by omega)⟩
 · exact ixL (j:=1) aj rfl rfl ⟨by decide,q _ _ S (by omega) (by omega)⟩
 · exact ixL (j:=2) aj rfl rfl ⟨by decide,q _ _ S (by omega) (by omega)⟩
theorem re {x:Int} {j m:Nat} (x0:0≤x) (hm:j<m) (x1:x<2^m):0≤Builtin.bitXor x (1*2^j)∧Builtin.bitXor x (1*2^j)<2^m:=by
 obtain ⟨y,rfl⟩:=Int.eq_ofNat_of_zero_le x0
 have e:(1:Int)*2^j=((2^j:Nat):Int):=by rw [Int.one_mul,dY]
 rw [e,kR,←dY]
 refine ⟨by omega,?_⟩
 have y1:y<2^m:=by rw [← dY] at x1;exact_mod_cast x1
 have:=Nat.xor_lt_two_pow (n:=m) y1 (Nat.pow_lt_pow_right (by decide:1<2) hm)
 exact_mod_cast this
theorem Eh (K:W.Frag) (A:Adr):Ln (iE K A) 3:=by rintro vs H Q E ⟨b,c,o,ks,rfl,_⟩;rfl
theorem HD (T : Txt K mg A) : Rd (iE K A) (KJ K A) ["_law_bits_here", "_law_cell", "_law_others", "_law_many", "_law_number_here", "_law_flip"] := by
  intro vs H Q E h
  obtain ⟨b, c, o, ks, rfl, b1, b60, ho, kl, kk, q⟩ := h
  have hp : (0 : Int) < 1 * 2 ^ b.toNat := by rw [Int.one_mul]; exact fu _
  have e1 : (1 : Int) * 2 ^ b.toNat = 2 ^ b.toNat := Int.one_mul _
  have fin : ∀ (n : Int) (H' : Hp), au H H' → Q (.int (n % (1 * 2 ^ b.toNat))) H' := fun n H' s => q _ _ s (Int.emod_nonneg _ (Int.ne_of_gt hp)) (Int.lt_of_lt_of_le (Int.emod_lt_of_pos _ hp) (Int.le_of_eq e1))
  refine ⟨⟨by omega, by omega, by decide⟩, ⟨by decide, by decide⟩, by decide, Sel.dec (fun h => ?_) (fun h => ?_)⟩
  · exact ⟨hp, fin _ H (.refl H)⟩
  refine ⟨by decide, Sel.dec (fun h1 => ?_) (fun h1 => ?_)⟩
  · have h2 := Int.emod_nonneg (c / 5) (b := 1 * 2 ^ b.toNat) (by omega)
    have h3 := Int.emod_lt_of_pos (c / 5) hp
    exact ⟨hp, q _ _ (.refl H) (by omega) (Int.lt_of_lt_of_le (b := 1 * 2 ^ b.toNat) (by omega) (Int.le_of_eq e1))⟩
  refine ⟨by decide, Sel.dec (fun h2 => ?_) (fun h2 => Sel.f ?_)⟩
  · refine ⟨aW (n := 0) (by decide), fun p hp' => ⟨_, _, .lst (SqL.of (au.upd hp' _ _ ho)) (lN ks), .lst (SqL.of aj) .nil, jV ks, rfl, sX ks, ?_⟩⟩
    cases ks with
    | nil => exact Sel.no rfl ⟨lZ (by decide) (by decide), hp, fin _ _ (au.upd hp')⟩
    | cons x xr =>
      have hl : ((x :: xr).map V.int).length = (x :: xr).length := List.length_map _
      have l0 : (0 : Int) < ((x :: xr).length : Int) := by rw [List.length_cons]; omega
      refine Sel.yes rfl ⟨lZ (by decide) (by decide), by decide, by omega, .inl (.inl ⟨_, SqL.of (au.upd hp' _ _ ho), ?_⟩)⟩
      rw [hl]
      have i0 := Int.emod_nonneg (c / 5) (b := ((x :: xr).length : Int)) (by omega)
      have i1 := Int.emod_lt_of_pos (c / 5) l0
      refine ⟨l0, vQ (au.upd hp' _ _ ho) i0 (by rw [hl]; exact i1) fun v hv => ?_⟩
      obtain ⟨y, hy, rfl⟩ := List.mem_map.mp hv
      have hx := kk y hy
      have r0 := Int.emod_nonneg (c / 5 * 48271 % 65537) (b := b) (by omega)
      have r1 := Int.emod_lt_of_pos (c / 5 * 48271 % 65537) (b := b) (by omega)
      have fl := re (j := (c / 5 * 48271 % 65537 % b).toNat) hx.1 (by omega) hx.2
      exact ⟨⟨by omega, by omega, by decide⟩, q _ _ (au.upd hp') fl.1 fl.2⟩
  · exact ⟨lZ (by decide) (by decide), hp, fin _ H (.refl H)⟩
theorem nB {x y:Str} (h1:bI x=true) (h2:bI y=true):bI (x++y)=true:=by
 unfold bI at h1 h2 ⊢
 show (x.cps++y.cps).all _=true
 rw [Array.all_append,h1,h2];rfl
theorem kP (H:Hp) (m:Key):aY H (kV m) (dR m):=by cases m <;> constructor
theorem AU (m:Key):(cB (dR m)).depth=0:=by cases m <;> rfl
mutual
def noL:Dat→Bool
 | .lst _=>false
 | .tup ds=>noLs ds
 | .non=>true
 | .bl _=>true
 | .int _=>true
 | .str _=>true
 | .dic=>true
def noLs:List Dat→Bool
 | []=>true
 | d::r=>noL d&&noLs r
end
theorem Jd {x y z:Key} (hx:okP x=true) (hy:okP y=true) (hz:okP z=true) (h:lG x=true):okT [x,y,z]=true:=by
 show (true&&lG x&&(okP x&&(okP y&&(okP z&&true))))=true
 rw [h,hx,hy,hz];rfl
theorem JY {x y z u v:Key} (hx:okP x=true) (hy:okP y=true) (hz:okP z=true) (hu:okP u=true) (hv:okP v=true) (h:lG x=true):okT [x,y,z,u,v]=true:=by
 show (true&&lG x&&(okP x&&(okP y&&(okP z&&(okP u&&(okP v&&true))))))=true
 rw [h,hx,hy,hz,hu,hv];rfl
theorem qK:okP (.inr "fork")=true∧okP (.inr "leaf")=true∧okP (.inr "bare")=true:=by decide +kernel
theorem qH:szK (.inr "fork")=66∧szK (.inr "leaf")=66∧szK (.inr "bare")=66:=by decide +kernel
theorem yh {i:Int} (h0:0≤i) (h1:i<10^60):okP (.inl i)=true:=decide_eq_true ⟨h0,h1⟩
def sg1:Str:= " !\"#$&'()*+,-./0123456789:;<=>?@ABCDEFGHIJKLMNOPQRSTUVWXYZ[\\]^_`"
def sg2:Str:= "abcdefghijklmnopqrstuvwxyz{|}~"
theorem Ei:(sg1++sg2).length=94∧(sg1++sg2).cps.toList.length=94∧(sg1++sg2).cps.toList.all (·<128)=true:=by decide +kernel
theorem xm:okD (.str "leaf")=true:=by decide +kernel
theorem ww:okD (.str "fork")=true:=by decide +kernel
theorem IF {z:Str} (h:bI z=true) (hl:z.length≤100000):okD (.str z)=true:=by
 show (bI z&&decide (z.length≤100000))=true
 rw [h,decide_eq_true hl];rfl
theorem DD (K:W.Frag) (A:Adr):Ln (nP K A) 1:=by rintro vs H Q E ⟨c,rfl,_⟩;rfl
theorem GN (T:Txt K mg A):Rd (nP K A) (Jg K A) ["_law_cell", "_law_signs", "_law_size", "_law_made", "_law_k"]:=by
 intro vs H Q E h
 obtain ⟨c,rfl,q⟩:=h
 obtain ⟨g1,g2,g3⟩:=Ei
 have bL:∀ sz:Int,0≤sz→sz≤60→tQ K A { nx:=fun _ H'=>Q .non H',rt:=Q } [some (.int c),some (.str (sg1++sg2)),some (.int sz),none,none] H:=by
  intro sz s0 s1
  refine ⟨sz,rfl,by omega,by omega,?_⟩
  refine je (fun i σ H'=>H'=H∧∃ z x4,σ=[some (.int c),some (.str (sg1++sg2)),some (.int sz),some (.str z),x4]∧z.length=i∧bI z=true) ⟨rfl, "",none,rfl,by decide,by decide +kernel⟩ ?_ ?_
  · rintro i σ _ hi ⟨rfl,z,x4,rfl,hz,ho⟩
    refine ⟨⟨by decide,by decide⟩,⟨by decide,by decide⟩,by decide,lZ (by omega) (by omega),.inl ⟨by rw [g1];exact aW (by decide),by rw [g1];decide,?_⟩⟩
    generalize (c/4+_:Int)=w
    have e94:((sg1++sg2).length:Int)=94:=by rw [g1];rfl
    rw [e94]
    obtain ⟨cc,hcc⟩:=ph (xs:=(sg1++sg2).cps.toList) (i:=w%94) (by omega) (by rw [g2];omega)
    refine .inl (.inr (.inr ⟨_,_,cc,rfl,rfl,by rw [g1];exact aW (by decide),hcc,?_⟩))
    refine ⟨by rw [hz];exact aW (by show i+1≤1000000;omega),rfl,z++⟨#[cc]⟩,_,rfl,by rw [strLen_append,hz];rfl,nB ho ?_⟩
    obtain ⟨j,_,hj,_⟩:=gj hcc
    have:=of_decide_eq_true (List.all_eq_true.mp g3 cc (List.mem_of_getElem? hj))
    unfold bI
    simp
    omega
  · rintro σ _ ⟨rfl,z,x4,rfl,hz,ho⟩
    exact q z _ (.refl _) (by omega) ho
 have rest4:∀ sz:Int,0≤sz→sz≤60→ub K A { nx:=fun _ H'=>Q .non H',rt:=Q } [some (.int c),some (.str (sg1++sg2)),some (.int sz),none,none] H:=by
  intro sz s0 s1
  refine ⟨⟨by decide,by decide⟩,by decide,Sel.dec (fun h=>?_) (fun h=>bL sz s0 s1)⟩
  exact ⟨⟨by decide,by decide⟩,by decide,bL (c/32%61) (by omega) (by omega)⟩
 refine ⟨aW (by decide +kernel),by decide,⟨by decide,by decide⟩,by decide,Sel.dec (fun h=>rest4 60 (by decide) (by decide)) (fun h=>rest4 (c%4) (by omega) (by omega))⟩
theorem pj {K:W.Frag} {H:Hp} {Q:VK} {a:Key} (q:Q (.bl false) H):eL K (kV a) (kV a) H Q:=by
 cases a
 · rename_i i
   have e:(!decide (i=i))=false:=by simp
   rw [← e] at q;exact q
 · rename_i i
   have e:(!decide (i=i))=false:=by simp
   rw [← e] at q;exact q
theorem Gu {H:Hp} {v:V} {k:Key} (w:aY H v (dR k)):v=kV k:=by cases k <;> (cases w;rfl)
theorem tH {H : Hp} {v : V} : ∀ {e : List Key} {xs : List V}, DatWs H xs (e.map dR) → xs = e.map kV
  | [], _, h => by cases h; rfl
  | x :: r, _, h => by
    cases h with
    | cons a b => rw [Gu a, tH (v := v) b]; rfl
theorem sQ {H:Hp} {v:V} {e:List Key} (h:aY H v (.tup (e.map dR))):∃ a,v=.ref a∧H a=some (.tup (e.map kV)):=by
 cases h with
 | @tup a xs _ ea r=>exact ⟨a,rfl,by rw [ea,tH (v:=.non) r]⟩
theorem Bk (K:W.Frag) (A:Adr):Ln (iO K A) 3:=by rintro vs H Q E ⟨b,k,d,rfl,_⟩;rfl
theorem HH (T:Txt K mg A):Rd (iO K A) (KD K A) ["bits", "key", "depth"]:=by
 intro vs H Q E h
 obtain ⟨b,k,d,rfl,hd,k0,q⟩:=h
 refine ⟨by omega,?_⟩
 show Q (.int (Builtin.bitAnd (k/2^(b - d - 1).toNat) 1)) H
 have h0:0≤k/2^(b - d - 1).toNat:=Int.ediv_nonneg k0 (Int.le_of_lt (fu _))
 obtain ⟨y,hy⟩:=Int.eq_ofNat_of_zero_le h0
 rw [hy] at q ⊢
 rw [si]
 have:((y%2:Nat):Int)=(y:Int)%2:=by omega
 rw [this];exact q
theorem uK {H : Hp} {ps : List Addr} {ts : List (List Key)} (h : PK H ps ts) : ∀ {i : Nat} {t : List Key}, ts[i]? = some t → ∃ p, ps[i]? = some p ∧ H p = some (.tup (t.map kV)) ∧ okT t = true := by
  induction h with
  | nil => intro i t e; cases e
  | cons r _ ih =>
    intro i t e
    cases i with
    | zero => cases e; exact ⟨_, rfl, r⟩
    | succ i => exact ih e
theorem kT {H:Hp} {ps:List Addr} {ts:List (List Key)} (h:PK H ps ts):ps.length=ts.length:=Paired.length h
theorem mM {k:List Key} (h:okT k=true):1≤k.length∧k.length≤8:=by
 unfold okT at h
 simp only [Bool.and_eq_true] at h
 exact of_decide_eq_true h.1.1
theorem hG {k:List Key} (h:okT k=true):k.all okP=true:=by
 unfold okT at h
 rw [Bool.and_eq_true] at h
 exact h.2
theorem ms {k:List Key} {x:Key} (h:okT k=true) (hx:x∈k):okP x=true:=List.all_eq_true.mp (hG h) x hx
theorem wv {k : List Key} (h : okT k = true) : ∃ z r, k = .inr z :: r := by
  unfold okT at h
  simp only [Bool.and_eq_true] at h
  cases k with
  | nil => cases h.1.2
  | cons x r =>
    cases x with
    | inl i => cases h.1.2
    | inr z => exact ⟨z, r, rfl⟩
theorem wm {x:Key} (h:okP x=true):gs (dR x)=true:=by
 cases x with
 | inl i=>exact h
 | inr z=>rfl
theorem jd {i:Int} (h0:0≤i) (h1:i<10^60):i.natAbs.log2<1920:=by
 by_cases e:i.natAbs=0
 · rw [e];decide
 · refine (Nat.log2_lt e).mpr ?_
   have:i.natAbs<10^60:=by omega
   exact Nat.lt_of_lt_of_le this (by decide +kernel)
theorem eC {i:Int} (h0:0≤i) (h1:i<10^60):((toString i:String):Str).length≤61:=by
 have:i.natAbs<10^60:=by omega
 have:=int_text_length_le10 (k:=60) (by decide) this
 show (Str.ofString _).length≤_
 rw [PySem.ofString_length];exact this
theorem gp (s:String) (h:s.length=1:=by rfl):(s:Str).length=1:=by
 show (Str.ofString s).length=1
 rw [PySem.ofString_length];exact h
theorem nh {x : Key} (h : okP x = true) : (eP x).length ≤ szK x := by
  cases x with
  | inl i =>
    have h := of_decide_eq_true h
    have := eC h.1 h.2
    show (((toString i : String) : Str) ++ ((";" : String) : Str)).length ≤ 62
    rw [strLen_append, gp ";"]; omega
  | inr z =>
    have h := of_decide_eq_true (Bool.and_eq_true_iff.mp h).2
    have := eC (i := (z.length : Int)) (by omega) (by omega)
    show (((toString (z.length : Int) : String) : Str) ++ ((":" : String) : Str) ++ z).length ≤ z.length + 62
    rw [strLen_append, strLen_append, gp ":"]; omega
theorem Cs {x : Key} (h : okP x = true) : szK x ≤ 100062 := by
  cases x with
  | inl i => show 62 ≤ 100062; decide
  | inr z =>
    have h := of_decide_eq_true (Bool.and_eq_true_iff.mp h).2
    show z.length + 62 ≤ 100062; omega
theorem pX:∀ xs:List Key,fZ xs=(xs.map eP).foldr (·++·) Str.empty
 | []=>rfl
 | x::r=>by show eP x++fZ r=eP x++_;rw [pX r]
theorem mY : ∀ {k : List Key}, k.all okP = true → (fZ k).length ≤ szT k
  | [], _ => by show Str.empty.length ≤ 0; decide
  | x :: r, h => by
    rw [List.all_cons, Bool.and_eq_true] at h
    have h1 := nh h.1
    have h2 := mY h.2
    show (eP x ++ fZ r).length ≤ ((x :: r).map szK).sum
    rw [strLen_append, List.map_cons, List.sum_cons]
    unfold szT at h2
    omega
theorem hU {x y:Str} (h1:bI x=true) (h2:bI y=true):bI (x++y)=true:=nB h1 h2
theorem pB {z:Str} (h:∀ c∈z.cps.toList,c<128):bI z=true:=by
 unfold bI
 rw [Array.all_eq_true]
 intro i hi
 exact decide_eq_true (h _ (by simp))
theorem pG {z:Str} (h:bI z=true):∀ c∈z.cps.toList,c<128:=by
 intro c hc
 unfold bI at h
 rw [Array.all_eq_true] at h
 obtain ⟨i,hi,e⟩:=List.getElem_of_mem hc
 have:=of_decide_eq_true (h i (by simpa using hi))
 rw [← e]
 simpa using this
theorem qU (n:Nat):bI ((toString (n:Int):String):Str)=true:=by
 refine pB fun c hc=>?_
 rw [W.KIN.signs_num n] at hc
 obtain ⟨ch,hch,e⟩:=List.mem_map.mp hc
 have:=digit_range (Nat.isDigit_of_mem_toDigits (by decide) (by decide) hch)
 rw [← e];omega
theorem qP {i:Int} (h:0≤i):bI ((toString i:String):Str)=true:=by
 obtain ⟨n,rfl⟩:=Int.eq_ofNat_of_zero_le h
 exact qU n
theorem uz {x : Key} (h : okP x = true) : bI (eP x) = true := by
  cases x with
  | inl i =>
    have h := of_decide_eq_true h
    exact hU (qP h.1) (by decide +kernel)
  | inr z =>
    have h := (Bool.and_eq_true_iff.mp h).1
    exact hU (hU (qP (by omega)) (by decide +kernel)) h
theorem ng : ∀ {k : List Key}, k.all okP = true → bI (fZ k) = true
  | [], _ => by decide +kernel
  | x :: r, h => by
    rw [List.all_cons, Bool.and_eq_true] at h
    exact hU (uz h.1) (ng h.2)
theorem qJ : ∀ {k : List Key}, k.all okP = true → szT k ≤ k.length * 100062
  | [], _ => by decide
  | x :: r, h => by
    rw [List.all_cons, Bool.and_eq_true] at h
    have h1 := Cs h.1
    have h2 := qJ h.2
    show ((x :: r).map szK).sum ≤ _
    rw [List.map_cons, List.sum_cons, List.length_cons, Nat.succ_mul]
    unfold szT at h2
    omega
theorem qd : ∀ {k : List Key}, k.all okP = true → ((k.map eP).map (·.length)).sum ≤ szT k
  | [], _ => by decide
  | x :: r, h => by
    rw [List.all_cons, Bool.and_eq_true] at h
    have h1 := nh h.1
    have h2 := qd h.2
    show (((x :: r).map eP).map (·.length)).sum ≤ ((x :: r).map szK).sum
    rw [List.map_cons, List.map_cons, List.sum_cons, List.map_cons, List.sum_cons]
    unfold szT at h2
    omega
theorem Cm (K:W.Frag) (A:Adr):Ln (lP K A) 1:=by rintro vs H Q E ⟨p,k,rfl,_⟩;rfl
theorem GC (T:Txt K mg A):Rd (lP K A) (JM K A) ["thing"]:=by
 intro vs H Q E h
 obtain ⟨p,k,rfl,hp,ok,q⟩:=h
 obtain ⟨l1,l8⟩:=mM ok
 obtain ⟨z,r,hk⟩:=wv ok
 have ty:tyN H (.ref p)=some "tuple" :=by unfold tyN;dsimp only;rw [hp]
 refine ⟨by decide, "tuple",ty,Sel.no rfl (.inl (.inr (.inl ⟨_,SqT.of hp,?_⟩)))⟩
 refine Sel.dec (fun h1=>?_) (fun h1=>absurd (by simp;omega) h1)
 refine Sel.ndec (fun h8=>absurd (by simp;omega) h8) (fun h8=>?_)
 refine ixT (j:=0) hp rfl (by rw [hk];rfl) ⟨by decide, "str",rfl,Sel.yes rfl ?_⟩
 refine ⟨p,rfl,.inr ⟨⟨_,SqT.of hp⟩,fun D hD=>?_⟩⟩
 have hne:p≠D:=az hp hD
 have hml:(k.map kV).length=k.length:=by simp
 refine hZ (eO.tuple (xs:=k.map kV) .non) (fun i ys H2=>ys=(k.take i).map (fun x=>V.bl true)∧H2=upd H D (.lst ys)) (fun i ys H2 hi ⟨_,e2⟩=>?_) ⟨rfl,rfl⟩ (fun i ys H2 hi ⟨e1,e2⟩=>?_) (fun ys H2 ⟨e1,e2⟩=>?_)
 · rw [e2];exact SqT.of (by rw [ap hne];exact hp)
 · subst e2
   have hi':i<k.length:=by omega
   obtain ⟨x,hx⟩:∃ x,k[i]?=some x:=⟨_,List.getElem?_eq_getElem hi'⟩
   have hg:(k.map kV).getD i .non=kV x:=by rw [List.getD_eq_getElem?_getD,List.getElem?_map,hx];rfl
   rw [hg]
   have hs:=wm (ms ok (List.mem_of_getElem? hx))
   refine xT ⟨_,dR x,rfl,kP _ x,?_⟩
   rw [hs]
   have hyl:ys.length=i:=by rw [e1,List.length_map,List.length_take];omega
   refine ⟨aj,by rw [hyl];exact fK (by omega),CWd.next hi ⟨?_,eW⟩⟩
   rw [e1,List.take_add_one,List.map_append,hx];rfl
 · subst e2
   refine ⟨D,k.map fun _=>true,rfl,by rw [aj,e1,hml,List.take_length,List.map_map];rfl,?_⟩
   have:(k.map fun _=>true).all id=true:=by simp
   rw [this];exact q _ (au.upd hD)
theorem BW (K:W.Frag) (A:Adr):Ln (oj K A) 1:=by rintro vs H Q E ⟨v,rfl,_⟩;rfl
theorem FH (T : Txt K mg A) : Rd (oj K A) (Kd K A) ["part", "signs"] := by
  intro vs H Q E h
  obtain ⟨v, rfl, hp, q⟩ := h
  cases v with
  | inl i =>
    have h := of_decide_eq_true hp
    have l := eC h.1 h.2
    refine ⟨.int i, .int i, rfl, .int i, Sel.t ?_⟩
    have e1 : Str.empty ++ ((toString i : String) : Str) = ((toString i : String) : Str) := Str.empty_append _
    have l2 : (((toString i : String) : Str) ++ ((";" : String) : Str)).length ≤ sizeLine := by rw [strLen_append, gp ";"]; exact aW (by omega)
    refine ⟨jd h.1 h.2, by rw [e1]; exact aW (by omega), ?_, ?_, ?_⟩ <;> rw [e1]
    · exact l2
    · exact l2
    · exact q
  | inr z =>
    have h := of_decide_eq_true (Bool.and_eq_true_iff.mp hp).2
    have l := eC (i := (z.length : Int)) (by omega) (by omega)
    refine ⟨.str z, .str z, rfl, .str z, Sel.f ?_⟩
    have e1 : Str.empty ++ ((toString (z.length : Int) : String) : Str) = ((toString (z.length : Int) : String) : Str) := Str.empty_append _
    have l2 : (((toString (z.length : Int) : String) : Str) ++ ((":" : String) : Str)).length ≤ sizeLine := by rw [strLen_append, gp ":"]; exact aW (by omega)
    have l3 : (((toString (z.length : Int) : String) : Str) ++ ((":" : String) : Str) ++ z).length ≤ sizeLine := by rw [strLen_append, strLen_append, gp ":"]; exact aW (by omega)
    refine .inl ⟨aW (by omega), jd (by omega) (by omega), by rw [e1]; exact aW (by omega), ?_, aW (by omega), ?_, ?_, ?_⟩ <;> rw [e1]
    · exact l2
    · exact l3
    · exact l3
    · exact q
theorem Co (K:W.Frag) (A:Adr):Ln (lL K A) 1:=by rintro vs H Q E ⟨p,k,rfl,_⟩;rfl
theorem HI (T:Txt K mg A):Rd (lL K A) (JD K A) ["term"]:=by
 intro vs H Q E h
 obtain ⟨p,k,rfl,hp,ok,q⟩:=h
 refine ⟨p,k,rfl,hp,ok,fun H' s=>Sel.no rfl ?_⟩
 have hp':=s _ _ hp
 have hml:(k.map kV).length=k.length:=by simp
 obtain ⟨l1,l8⟩:=mM ok
 refine ⟨rfl,⟨p,rfl,.inr ⟨⟨_,SqT.of hp'⟩,fun D hD=>?_⟩⟩⟩
 have hne:p≠D:=az hp' hD
 refine hZ (eO.tuple (xs:=k.map kV) .non) (fun i ys H2=>ys=(k.take i).map (fun x=>V.str (eP x))∧H2=upd H' D (.lst ys)) (fun i ys H2 hi ⟨_,e2⟩=>?_) ⟨rfl,rfl⟩ (fun i ys H2 hi ⟨e1,e2⟩=>?_) (fun ys H2 ⟨e1,e2⟩=>?_)
 · rw [e2];exact SqT.of (by rw [ap hne];exact hp')
 · subst e2
   have hi':i<k.length:=by omega
   obtain ⟨x,hx⟩:∃ x,k[i]?=some x:=⟨_,List.getElem?_eq_getElem hi'⟩
   have hg:(k.map kV).getD i .non=kV x:=by rw [List.getD_eq_getElem?_getD,List.getElem?_map,hx];rfl
   rw [hg]
   refine xT ⟨x,rfl,ms ok (List.mem_of_getElem? hx),?_⟩
   have hyl:ys.length=i:=by rw [e1,List.length_map,List.length_take];omega
   refine ⟨aj,by rw [hyl];exact fK (by omega),CWd.next hi ⟨?_,eW⟩⟩
   rw [e1,List.take_add_one,List.map_append,hx];rfl
 · subst e2
   refine ⟨"",D,k.map eP,rfl,rfl,by rw [aj,e1,hml,List.take_length,List.map_map];rfl,?_,?_⟩
   · have h1:=qd (hG ok)
     have h2:=qJ (hG ok)
     have e0:(("" :String):Str).length=0:=by decide
     rw [e0]
     have:k.length*100062≤8*100062:=Nat.mul_le_mul_right _ l8
     omega
   · rw [zX,←pX]
     exact q _ (s.trans (au.upd hD))
theorem Bf (K:W.Frag) (A:Adr):Ln (ox K A) 1:=by rintro vs H Q E ⟨x,dx,rfl,_⟩;rfl
theorem ID (T:Txt K mg A):Rd (ox K A) (Jy K A) ["self"]:=by
 intro vs H Q E h
 obtain ⟨x,dx,rfl,hx,q⟩:=h
 exact .inr fun d hd=>⟨x,A.c_Numbers,dx,[],rfl,by rw [ap (az hx hd)];exact hx,T.cl_Numbers,T.na_Numbers_given,by decide,q d hd⟩
theorem gd.mono {H H':Hp} {x d:Addr} {kvs:List (List Key×V)} (s:au H H') (n:gd A H x d kvs):gd A H' x d kvs:=by
 obtain ⟨⟨dx,h1⟩,h2⟩:=n
 exact ⟨⟨dx,s _ _ h1⟩,s _ _ h2⟩
theorem gd.hide {H:Hp} {x d:Addr} {kvs:List (List Key×V)} {cs:List Addr} {cvs:List V} (hc:cx H cs cvs) (n:gd A H x d kvs):gd A (cF cs H) x d kvs:=by
 obtain ⟨⟨dx,h1⟩,h2⟩:=n
 exact ⟨⟨dx,hc.hide h1 (fun _ z=>nomatch z)⟩,hc.hide h2 (fun _ z=>nomatch z)⟩
theorem DJ (K:W.Frag) (A:Adr):Ln (nW K A) 2:=by rintro vs H Q E ⟨x,d,p,kvs,k,rfl,_⟩;rfl
theorem HM (T : Txt K mg A) : Rd (nW K A) (JI K A) ["self", "term"] := by
  intro vs H Q E h
  obtain ⟨x, d, a, kvs, k, rfl, nu, hl, hp, ok, q⟩ := h
  refine ⟨a, k, rfl, hp, ok, fun H' s => Sel.no rfl ?_⟩
  have ta' := s _ _ hp
  obtain ⟨⟨dx, hx⟩, hd⟩ := nu.mono s
  have q := q H' s
  have g := eJ.t hd ta'
  refine ⟨x, A.c_Numbers, dx, _, .ref d, rfl, hx, T.cl_Numbers, T.na_Numbers_given, rfl, .inl ⟨d, bD kvs k, rfl, g, ?_⟩⟩
  unfold gT gN at q
  cases e : bD kvs k with
  | some w =>
    rw [e] at q g
    have q : Q w H' := q
    exact Sel.no rfl ⟨x, A.c_Numbers, dx, _, .ref d, rfl, hx, T.cl_Numbers, T.na_Numbers_given, rfl, .inr ⟨d, w, rfl, g, q⟩⟩
  | none =>
    rw [e] at q g
    have q : Q (.int kvs.length) (upd H' d (.dT (cC kvs k (.int kvs.length)))) := q
    have hx' : upd H' d (.dT (cC kvs k (.int kvs.length))) x = some (.ins A.c_Numbers dx [("given", .ref d)]) := by rw [ap (cf hx hd (fun z => nomatch z))]; exact hx
    have ha' : upd H' d (.dT (cC kvs k (.int kvs.length))) a = some (.tup (k.map kV)) := by rw [ap (cf ta' hd (fun z => nomatch z))]; exact ta'
    refine Sel.yes rfl ⟨x, A.c_Numbers, dx, _, .ref d, rfl, hx, T.cl_Numbers, T.na_Numbers_given, rfl, .inr ⟨d, kvs, rfl, hd, x, A.c_Numbers, dx, _, .ref d, rfl, hx, T.cl_Numbers, T.na_Numbers_given, rfl, .inr ⟨d, _, rfl, .inr ⟨kvs, k, a, hd, rfl, ta', Nat.lt_of_le_of_lt hl (aW (n := 50001) (by decide)), rfl⟩, ?_⟩⟩⟩
    have g2 := eJ.t (kvs := cC kvs k (.int kvs.length)) (k := k) aj ha'
    rw [wq, if_pos rfl] at g2
    exact ⟨x, A.c_Numbers, dx, _, .ref d, rfl, hx', T.cl_Numbers, T.na_Numbers_given, rfl, .inr ⟨d, _, rfl, g2, q⟩⟩
theorem Ib (T:Txt K mg A) (a0:V) (H:Hp) (Q:VK) (E:XK) (h:rD K A [a0] H Q E):DV K A (dM ["term"] [a0] []) H Q:=h
theorem IK (T:Txt K mg A) (a0 b0:V) (H:Hp) (Q:VK) (E:XK) (h:rB K A [a0,b0] H Q E):BD K A (dM ["term", "numbers"] [a0] [b0]) H Q:=by
 obtain ⟨x,d,p,kvs,k,e,nu,hl,hp,ok,h⟩:=h
 cases e
 obtain ⟨dx,hx⟩:=nu.ob
 exact ⟨x,dx,_,rfl,hx,rfl,x,d,p,kvs,k,rfl,nu,hl,hp,ok,h⟩
theorem uo {H:Hp} {b p:Addr} {kvs:List (List Key×V)} {kk:List Key} {d:V} (hb:H b=some (.dT kvs)) (hp:H p=some (.tup (kk.map kV))) (hl:kvs.length≤50000):
  Br H b (.ref p) d (gT kvs kk d) (gN H b kvs kk d):=by
 unfold gT gN
 have g:=eJ.t hb hp
 cases e:bD kvs kk with
 | some v=>rw [e] at g;exact .inl ⟨g,if_pos rfl⟩
 | none=>rw [e] at g;exact .inr ⟨g,.inr ⟨kvs,kk,p,hb,rfl,hp,Nat.lt_of_le_of_lt hl (aW (n:=50001) (by decide)),if_neg (by decide)⟩,rfl⟩
theorem HS (T:Txt K mg A) (a0 b0 b1:V) (H:Hp) (Q:VK) (E:XK) (h:rJ K A [a0,b0,b1] H Q E):Do K A { nx:=fun _ H'=>Q .non H',rt:=Q } (dM ["_law_term", "_law_known", "_law_first"] [a0] [b0,b1]) H:=by
 obtain ⟨p,b,j,k,kvs,e,hp,hb,hl,q⟩:=h
 cases e
 exact ⟨.inr (.inr (.inl ⟨rfl,.inr ⟨_,hb⟩⟩)),.inr ⟨b,kvs,rfl,hb,IntMulOk.of_left (by decide),b,.ref p,_,_,_,rfl,rfl,uo hb hp hl,q⟩⟩
theorem uP {z:Str} (h:bI z=true) (l u:Option Int):bI (PySem.Txt.slice z l u)=true:=by
 refine pB fun c hc=>?_
 unfold PySem.Txt.slice at hc
 split at hc
 · exact pG h c hc
 · simp only [List.toList_toArray,List.mem_filterMap] at hc
   obtain ⟨i,_,e⟩:=hc
   exact pG h c (by rw [← Array.getElem?_toList] at e;exact List.mem_of_getElem? e)
theorem Gj (T : Txt K mg A) (a0 b0 : V) (H : Hp) (Q : VK) (E : XK) (h : sU K A [a0, b0] H Q E) : CI K A { nx := fun _ H' => Q .non H', rt := Q } (dM ["_law_term", "_law_total", "_law_part", "_law_signs", "_law_many"] [a0] [b0]) H := by
  obtain ⟨p, m, k, e, h1, h2, hp, ok, q⟩ := h
  cases e
  refine ⟨p, rfl, .inr ⟨⟨_, SqT.of hp⟩, ?_⟩⟩
  refine AM (xs := k.map kV) (fun i σ H' => au H H' ∧ ∃ x2 x3, σ = [some (.ref p), some (.int ((k.take i).foldl gM 0)), x2, x3, some (.int m)]) ⟨.refl H, none, none, rfl⟩ ?_ ?_ ?_
  · rintro i σ H' _ ⟨S, _⟩; exact SqT.of (S _ _ hp)
  · rintro i x σ H' hx ⟨S, x2, x3, rfl⟩
    obtain ⟨kk, hk, rfl⟩ := mE hx
    have okk : okP kk = true := ms ok (List.mem_of_getElem? hk)
    have st := rQ gM 0 k i kk hk
    cases kk with
    | inl n =>
      refine ⟨by decide, "int", rfl, Sel.no rfl ⟨IntMulOk.of_right (by decide), S, some (.int n), x3, ?_⟩⟩
      rw [st]; rfl
    | inr z =>
      obtain ⟨hz, hl⟩ := Bool.and_eq_true_iff.mp okk
      have hl := of_decide_eq_true hl
      refine ⟨by decide, "str", rfl, Sel.yes rfl ⟨2, rfl, .inr ⟨z, rfl, aW (by omega), uP hz _ _, fun D hD => ?_⟩⟩⟩
      have hl2 := PySem.Txt.slice_le z none (some 2)
      rw [st]
      show tE _ _ _ _ _ _ _ _
      have est : gM ((k.take i).foldl gM 0) (.inr z) = (k.take i).foldl gM 0 * 7 + z.length + 2 * ((PySem.Txt.slice z none (some 2)).cps.toList.map fun c => ((c : Nat) : Int)).sum := rfl
      rw [est]
      generalize PySem.Txt.slice z none (some 2) = y at hl2 ⊢
      refine hZ (eO.str y) (fun j ys H2 => ys = (y.cps.toList.take j).map (fun c => V.int ((c : Nat) : Int)) ∧ H2 = upd H' D (.lst ys)) (fun _ _ _ _ _ => trivial) ⟨rfl, rfl⟩ (fun j ys H2 hj ⟨e1, e2⟩ => ?_) (fun ys H2 ⟨e1, e2⟩ => ?_)
      · subst e2
        have hj' : j < y.cps.toList.length := by rw [Array.length_toList]; exact hj
        refine xT ⟨rfl, ?_⟩
        have hyl : ys.length = j := by rw [e1, List.length_map, List.length_take]; omega
        refine ⟨aj, by rw [hyl]; exact Nat.lt_of_lt_of_le (by omega) (aW (n := 1000000) (by decide)), CWd.next hj ⟨?_, eW⟩⟩
        rw [e1, List.take_add_one, List.map_append, List.getElem?_eq_getElem hj']
        congr 1
        simp [Array.getD_eq_getD_getElem?, show j < y.cps.size from hj]
      · subst e2
        have ee : y.cps.toList.take y.length = y.cps.toList := List.take_of_length_le (by simp [Str.length])
        rw [ee] at e1
        refine ⟨IntMulOk.of_right (by decide), .inl ⟨aW (by omega), D, y.cps.toList.map (fun c => ((c : Nat) : Int)), rfl, SqL.of (by rw [aj, e1, List.map_map]; rfl), IntMulOk.of_left (by decide), S.trans (au.upd hD), some (.str z), some (.ref D), rfl⟩⟩
  · rintro σ H' ⟨S, x2, x3, rfl⟩
    have e : k.take (k.map kV).length = k := List.take_of_length_le (by simp)
    rw [e]
    exact ⟨by omega, q _ S⟩
theorem bG.trans {P:Addr} {H H1 H2:Hp} (a:bG P H H1) (b:bG P H1 H2):bG P H H2:=fun x o e n=>b x o (a x o e n) n
theorem bG.new {P p:Addr} {H:Hp} {o:HO} (h:H p=none):bG P H (upd H p o):=fun b u e _=>by rw [ap (az e h)];exact e
theorem bG.tab {P:Addr} {H:Hp} {o:HO}:bG P H (upd H P o):=fun b u e n=>by rw [ap n];exact e
theorem bX {H:Hp} {P q:Addr} {o:HO} (hP:H P=some o) (hq:H q=none):q≠P:=fun e=>by rw [e,hP] at hq;cases hq
theorem pf {H:Hp} {p q:Addr} {o:HO} (h:upd H p o q=none):q≠p∧H q=none:=by
 by_cases e:q=p
 · subst e;rw [aj] at h;cases h
 · rw [ap e] at h;exact ⟨e,h⟩
theorem rV {H:Hp} {P c f q:Addr} {o1 o2:HO} {t:cM} {v:V} (hP:H P=some o1) (hc:H c=none) (hf:H f=none) (hne:c≠f) (hq:upd (upd (upd H P o2) c (cG c t.qual)) f (dA f t [q] c) q=none):
  bG P H (upd (upd (upd (upd H P o2) c (cG c t.qual)) f (dA f t [q] c)) q (cq q v))∧dD (upd (upd (upd (upd H P o2) c (cG c t.qual)) f (dA f t [q] c)) q (cq q v)) f t [q] [v]:=by
 have c1:upd H P o2 c=none:=by rw [ap (bX hP hc)];exact hc
 have f1:upd (upd H P o2) c (cG c t.qual) f=none:=by rw [ap (Ne.symm hne),ap (bX hP hf)];exact hf
 have S3:=bG.new (P:=P) (o:=cq q v) hq
 have S2:=(bG.new (P:=P) (o:=dA f t [q] c) f1).trans S3
 have S1:=(bG.new (P:=P) (o:=cG c t.qual) c1).trans S2
 exact ⟨bG.tab.trans S1,⟨⟨c,S3 _ _ aj (bX hP hf),S2 _ _ aj (bX hP hc)⟩,.cons aj .nil⟩⟩
theorem Gw {H:Hp} {P c f q0 q1:Addr} {o1 o2:HO} {t:cM} {v0 v1:V} (hP:H P=some o1) (hc:H c=none) (hf:H f=none) (hne:c≠f) (n01:q0≠q1) (h0:upd (upd (upd H P o2) c (cG c t.qual)) f (dA f t [q1,q0] c) q0=none) (h1:upd (upd (upd H P o2) c (cG c t.qual)) f (dA f t [q1,q0] c) q1=none):
  bG P H (upd (upd (upd (upd (upd H P o2) c (cG c t.qual)) f (dA f t [q1,q0] c)) q0 (cq q0 v0)) q1 (cq q1 v1))∧dD (upd (upd (upd (upd (upd H P o2) c (cG c t.qual)) f (dA f t [q1,q0] c)) q0 (cq q0 v0)) q1 (cq q1 v1)) f t [q1,q0] [v1,v0]:=by
 have c1:upd H P o2 c=none:=by rw [ap (bX hP hc)];exact hc
 have f1:upd (upd H P o2) c (cG c t.qual) f=none:=by rw [ap (Ne.symm hne),ap (bX hP hf)];exact hf
 have h1':upd (upd (upd (upd H P o2) c (cG c t.qual)) f (dA f t [q1,q0] c)) q0 (cq q0 v0) q1=none:=by rw [ap (Ne.symm n01)];exact h1
 have S4:=bG.new (P:=P) (o:=cq q1 v1) h1'
 have S3:=(bG.new (P:=P) (o:=cq q0 v0) h0).trans S4
 have S2:=(bG.new (P:=P) (o:=dA f t [q1,q0] c) f1).trans S3
 have S1:=(bG.new (P:=P) (o:=cG c t.qual) c1).trans S2
 exact ⟨bG.tab.trans S1,⟨⟨c,S3 _ _ aj (bX hP hf),S2 _ _ aj (bX hP hc)⟩,.cons aj (.cons (by rw [ap n01];exact aj) .nil)⟩⟩
theorem kA:fo []:=fun p hp=>nomatch hp
theorem kQ.of {P:Addr} {H H':Hp} {ps:Array Value} (hP:H P=some (.tbl ps)) (k:bG P H H'):kQ H H':=fun b o e n=>k b o e fun z=>by subst z;rw [hP] at e;cases e;exact n _ rfl
theorem De (K:W.Frag) (A:Adr):Ln (oi K A) 0:=by rintro vs H Q E ⟨rfl,_⟩;rfl
theorem Ig (T:Txt K mg A) (hnd:([]:List Addr).Nodup) (vs:List V) (H:Hp) (Q:VK) (E:XK) (h:oi K A vs H Q E):DH K A { nx:=fun σ H'=>(∀ p∈([]:List (Nat×Addr)),H' p.2=none)→Q .non (cv [] σ H'),rt:=fun σ v H'=>(∀ p∈([]:List (Nat×Addr)),H' p.2=none)→Q v (cv [] σ H') } (L2.cp [] vs) H:=by
 obtain ⟨rfl,hP,q⟩:=h
 refine ⟨#[],hP,trivial,.inl ⟨rfl,fun c f hc hf hne _=>?_⟩⟩
 have cP:=bX hP hc
 have fP:=bX hP hf
 have c1:∀ o,upd H A.t_76 o c=none:=fun o=>by rw [ap cP];exact hc
 have f1:∀ o,upd (upd H A.t_76 o) c (cG c fH.qual) f=none:=fun o=>by rw [ap (Ne.symm hne),ap fP];exact hf
 exact q f f _ _ (bG.tab.trans ((bG.new (c1 _)).trans (bG.new (f1 _)))) (.wri ⟨⟨c,aj,(ap hne).trans aj⟩,.nil⟩ rfl rfl) hf
theorem BB (K:W.Frag) (A:Adr):Ln (ow K A) 0:=by rintro vs H Q E ⟨rfl,_⟩;rfl
theorem Gr (T:Txt K mg A) (q0:Addr) (hnd:([q0]:List Addr).Nodup) (vs:List V) (H:Hp) (Q:VK) (E:XK) (h:ow K A vs H Q E):DM K A q0 { nx:=fun σ H'=>(∀ p∈([(0,q0)]:List (Nat×Addr)),H' p.2=none)→Q .non (cv [(0,q0)] σ H'),rt:=fun σ v H'=>(∀ p∈([(0,q0)]:List (Nat×Addr)),H' p.2=none)→Q v (cv [(0,q0)] σ H') } (L2.cp ["numbers"] vs) H:=by
 obtain ⟨rfl,hP,q⟩:=h
 intro x dx hx hdx hne
 refine ⟨x,dx,rfl,aj,fun d hd=>⟨rfl,?_⟩⟩
 obtain ⟨dnx,hd1⟩:=pf hd
 obtain ⟨dndx,hd0⟩:=pf hd1
 have xP:=bX hP hx
 have dxP:=bX hP hdx
 have dP:=bX hP hd0
 generalize e2:upd (upd (upd (upd H dx (.own x)) x (.ins A.c_Numbers dx [])) d (.dT [])) x (.ins A.c_Numbers dx [("given",.ref d)])=H2
 have S2:bG A.t_49 H H2:=by
  intro b o e n
  have b1:=az e hx
  have b2:=az e hdx
  have b3:=az e hd0
  rw [← e2,ap b1,ap b3,ap b1,ap b2];exact e
 have hP2:H2 A.t_49=some (.tbl #[]):=by rw [← e2,ap (Ne.symm xP),ap (Ne.symm dP),ap (Ne.symm xP),ap (Ne.symm dxP)];exact hP
 have hx2:H2 x=some (.ins A.c_Numbers dx [("given",.ref d)]):=by rw [← e2,aj]
 have hd2:H2 d=some (.dT []):=by rw [← e2,ap dnx,aj]
 refine ⟨#[],hP2,trivial,.inl ⟨rfl,fun c f hc hf hne hq=>?_⟩⟩
 obtain ⟨k,ca⟩:=rV (v:=.ref x) hP2 hc hf hne (hq _ (List.mem_singleton.mpr rfl))
 exact q f d _ _ (S2.trans k) (.cnt q0 x [] ca ⟨⟨dx,k _ _ hx2 xP⟩,k _ _ hd2 dP⟩ (Nat.zero_le _) kA rfl) hd0
theorem Dn (K:W.Frag) (A:Adr):Ln (nN K A) 1:=by rintro vs H Q E ⟨m,rfl,_⟩;rfl
theorem FU (T:Txt K mg A) (q0:Addr) (hnd:([q0]:List Addr).Nodup) (vs:List V) (H:Hp) (Q:VK) (E:XK) (h:nN K A vs H Q E):CT K A q0 { nx:=fun σ H'=>(∀ p∈([(0,q0)]:List (Nat×Addr)),H' p.2=none)→Q .non (cv [(0,q0)] σ H'),rt:=fun σ v H'=>(∀ p∈([(0,q0)]:List (Nat×Addr)),H' p.2=none)→Q v (cv [(0,q0)] σ H') } (L2.cp ["_law_many", "_law_short"] vs) H:=by
 obtain ⟨m,rfl,m1,m2,hP,q⟩:=h
 refine ⟨#[],hP,trivial,.inl ⟨rfl,fun c f hc hf hne hq=>?_⟩⟩
 obtain ⟨k,ca⟩:=rV (v:=.int m) hP hc hf hne (hq _ (List.mem_singleton.mpr rfl))
 exact q f f _ _ k (.wea q0 m m1 m2 ca rfl rfl) hf
theorem Ft (T:Txt K mg A) (a0 b0:V) (H:Hp) (Q:VK) (E:XK) (h:sW K A [a0,b0] H Q E):CP K A { nx:=fun _ H'=>Q .non H',rt:=Q } (dM ["_law_term", "_law_known"] [a0] [b0]) H:=by
 obtain ⟨p,b,k,kvs,e,hp,hb,hl,q⟩:=h
 cases e
 have l:=eC (i:=(kvs.length:Int)) (by omega) (by omega)
 exact ⟨.inr (.inr (.inl ⟨rfl,.inr ⟨_,hb⟩⟩)),.inr ⟨b,kvs,rfl,hb,jd (by omega) (by omega),Nat.le_trans (Nat.add_le_add (Nat.le_refl 1) l) (aW (by decide)),b,.ref p,_,_,_,rfl,rfl,uo hb hp hl,q⟩⟩
theorem EC (K:W.Frag) (A:Adr):Ln (nR K A) 1:=by rintro vs H Q E ⟨j,rfl,_⟩;rfl
theorem Gc (T:Txt K mg A) (q0 q1:Addr) (hnd:([q0,q1]:List Addr).Nodup) (vs:List V) (H:Hp) (Q:VK) (E:XK) (h:nR K A vs H Q E):BR K A q0 q1 { nx:=fun σ H'=>(∀ p∈([(0,q0),(1,q1)]:List (Nat×Addr)),H' p.2=none)→Q .non (cv [(0,q0),(1,q1)] σ H'),rt:=fun σ v H'=>(∀ p∈([(0,q0),(1,q1)]:List (Nat×Addr)),H' p.2=none)→Q v (cv [(0,q0),(1,q1)] σ H') } (L2.cp ["_law_first", "_law_known", "_law_number"] vs) H:=by
 obtain ⟨j,rfl,j0,j1,hP,q⟩:=h
 have n01:q0≠q1:=fun e=>by simp [e] at hnd
 refine .inr fun b hb=>?_
 have bP:b≠A.t_37:=bX hP hb
 have hP1:upd H b (.dT []) A.t_37=some (.tbl #[]):=by rw [ap (Ne.symm bP)];exact hP
 have S1:bG A.t_37 H (upd H b (.dT [])):=bG.new hb
 refine ⟨#[],hP1,trivial,.inl ⟨rfl,fun c f hc hf hne hq=>?_⟩⟩
 obtain ⟨k,ca⟩:=Gw (v0:=.int j) (v1:=.ref b) hP1 hc hf hne n01 (hq (0,q0) (by simp)) (hq (1,q1) (by simp))
 exact q f b _ _ (S1.trans k) (.sur q0 q1 j j0 j1 [] ca (k _ _ aj bP) (Nat.zero_le _) kA rfl) hb
theorem Em (K:W.Frag) (A:Adr):Ln (nJ K A) 0:=by rintro vs H Q E ⟨rfl,_⟩;rfl
theorem HC (T:Txt K mg A) (q0:Addr) (hnd:([q0]:List Addr).Nodup) (vs:List V) (H:Hp) (Q:VK) (E:XK) (h:nJ K A vs H Q E):Eo K A q0 { nx:=fun σ H'=>(∀ p∈([(0,q0)]:List (Nat×Addr)),H' p.2=none)→Q .non (cv [(0,q0)] σ H'),rt:=fun σ v H'=>(∀ p∈([(0,q0)]:List (Nat×Addr)),H' p.2=none)→Q v (cv [(0,q0)] σ H') } (L2.cp ["_law_known", "_law_word"] vs) H:=by
 obtain ⟨rfl,hP,q⟩:=h
 refine .inr fun b hb=>?_
 have bP:b≠A.t_43:=bX hP hb
 have hP1:upd H b (.dT []) A.t_43=some (.tbl #[]):=by rw [ap (Ne.symm bP)];exact hP
 have S1:bG A.t_43 H (upd H b (.dT [])):=bG.new hb
 refine ⟨#[],hP1,trivial,.inl ⟨rfl,fun c f hc hf hne hq=>?_⟩⟩
 obtain ⟨k,ca⟩:=rV (v:=.ref b) hP1 hc hf hne (hq _ (List.mem_singleton.mpr rfl))
 exact q f b _ _ (S1.trans k) (.wor q0 [] ca (k _ _ aj bP) (Nat.zero_le _) kA rfl) hb
theorem DP (K:W.Frag) (A:Adr):Ln (nX K A) 1:=by rintro vs H Q E ⟨c,rfl,_⟩;rfl
theorem EM (T:Txt K mg A):Rd (nX K A) (KM K A) ["_law_cell", "_law_way"]:=by
 intro vs H Q E h
 obtain ⟨c,rfl,⟨t1,t2,t3,t4,t5,_⟩,q⟩:=h
 refine ⟨by decide,Sel.dec (fun h=>?_) (fun h=>?_)⟩
 · exact ⟨rfl,t1,fun f b g H' k s hb=>q f b g H' (.of t1 k) s hb⟩
 refine Sel.dec (fun h=>?_) (fun h=>?_)
 · exact ⟨rfl,t2,fun f b g H' k s hb=>q f b g H' (.of t2 k) s hb⟩
 refine Sel.dec (fun h=>?_) (fun h=>?_)
 · exact ⟨rfl,t3,fun f b g H' k s hb=>q f b g H' (.of t3 k) s hb⟩
 refine Sel.dec (fun h=>?_) (fun h=>?_)
 · exact ⟨⟨by decide,by decide⟩,by decide,_,rfl,by omega,by omega,t4,fun f b g H' k s hb=>q f b g H' (.of t4 k) s hb⟩
 · exact ⟨⟨by decide,by decide⟩,by decide,_,rfl,by omega,by omega,t5,fun f b g H' k s hb=>q f b g H' (.of t5 k) s hb⟩
theorem Sub.rfl' {g:gOp}:Sub g g:=fun _ _ e=>e
theorem Sub.trans {g g1 g2:gOp} (a:Sub g g1) (b:Sub g1 g2):Sub g g2:=fun k v e=>b k v (a k v e)
theorem Ext.of {g g':gOp} {h:List Key→Key} (s:Sub g g') (e:Ext g' h):Ext g h:=fun k v z=>e k v (s k v z)
theorem qx (kvs:List (List Key×Key)) (k:List Key):bD (cj kvs) k=(dh kvs k).map kV:=by
 unfold bD cj dh
 rw [List.find?_map]
 simp only [Option.map_map]
 congr 1
theorem vf {kvs:List (List Key×Key)} {k:List Key} {v:Key} {x:List Key×Key} (h:dh kvs k=some v):dh (kvs++[x]) k=some v:=by
 unfold dh at h ⊢
 rw [List.find?_append]
 cases e:kvs.find? fun p=>decide (p.1=k) with
 | none=>rw [e] at h;cases h
 | some y=>rw [e] at h;exact h
theorem xo {kvs:List (List Key×Key)} {k:List Key} {d:Key} (h:dh kvs k=none):dh (kvs++[(k,d)]) k=some d:=by
 unfold dh at h ⊢
 rw [List.find?_append]
 cases e:kvs.find? fun p=>decide (p.1=k) with
 | none=>simp
 | some y=>rw [e] at h;cases h
theorem vT {kvs:List (List Key×Key)} {k:List Key} {v:Key} (h:dh kvs k=some v):bD (cj kvs) k=some (kV v):=by rw [qx,h];rfl
theorem wY {kvs : List (List Key × Key)} {k : List Key} {v : Key} (hs : fo kvs) (h : dh kvs k = some v) : gG v := by
  unfold dh at h
  cases e : kvs.find? fun p => decide (p.1 = k) with
  | none => rw [e] at h; cases h
  | some y =>
    rw [e] at h
    cases h
    exact hs y (List.mem_of_find?_eq_some e)
theorem qo {kvs:List (List Key×Key)} {x:List Key×Key} (h:fo kvs) (hx:gG x.2):fo (kvs++[x]):=fun p hp=>by
 rcases List.mem_append.mp hp with z | z
 · exact h p z
 · rw [List.mem_singleton.mp z];exact hx
theorem iQ {k : List Key} {v : Key} (hk : 1 ≤ k.length) (h : gG v) : pQ k v := by
  cases v with
  | inl i => exact h
  | inr z =>
    refine ⟨h.1, Nat.le_trans h.2 ?_⟩
    cases k with
    | nil => simp at hk
    | cons x r =>
      show 62 ≤ ((x :: r).map szK).sum
      rw [List.map_cons, List.sum_cons]
      have : 62 ≤ szK x := by cases x with
        | inl i => exact Nat.le_refl 62
        | inr z => show 62 ≤ z.length + 62; omega
      omega
theorem ki {H : Hp} {b : Addr} {cs : List Addr} {cvs : List V} {kvs : List (List Key × Key)} (kk : List Key) (d : Key) (hs : fo kvs) (hd : gG d) (hb : H b = some (.dT (cj kvs))) (hc : cx H cs cvs) (H1 : Hp) (S : au (cF cs H) H1) :
    ∃ (kvs' : List (List Key × Key)) (v : Key) (H' : Hp), gT (cj kvs) kk (kV d) = kV v ∧ cu cs H (gN H1 b (cj kvs) kk (kV d)) = H' ∧ H' b = some (.dT (cj kvs')) ∧ (∀ x o, x ≠ b → H x = some o → H' x = some o) ∧ kvs'.length ≤ kvs.length + 1 ∧ fo kvs' ∧ dh kvs' kk = some v ∧ gG v ∧ ∀ k v, dh kvs k = some v → dh kvs' k = some v := by
  have hbc : b ∉ cs := hc.notin hb fun _ z => nomatch z
  have S2 := au.hide cs S
  cases e : dh kvs kk with
  | some v =>
    have ev := vT e
    refine ⟨kvs, v, cu cs H H1, by unfold gT; rw [ev]; rfl, ?_, S2 _ _ hb, fun _ _ _ h => S2 _ _ h, Nat.le_succ _, hs, e, wY hs e, fun _ _ h => h⟩
    unfold gN; rw [ev]; rfl
  | none =>
    have ev : bD (cj kvs) kk = none := by rw [qx, e]; rfl
    refine ⟨kvs ++ [(kk, d)], d, upd (cu cs H H1) b (.dT (cj (kvs ++ [(kk, d)]))), by unfold gT; rw [ev]; rfl, ?_, aj, fun x o n h => by rw [ap n]; exact S2 _ _ h, by simp, qo hs hd, xo e, hd, fun _ _ h => vf h⟩
    unfold gN; rw [ev, if_neg (by decide), uB hbc, vp _ ev]
    unfold cj; rw [List.map_append]; rfl
theorem m0 {x:cM×Sp} {l:List (cM×Sp)}:x∈x::l:=List.mem_cons_self
theorem mS {x y:cM×Sp} {l:List (cM×Sp)} (h:x∈l):x∈y::l:=List.mem_cons_of_mem _ h
theorem aT.rfl' {b:Addr} {H:Hp}:aT b H H:=fun _ _ _ e=>e
theorem aT.trans {b:Addr} {H H1 H2:Hp} (a:aT b H H1) (c:aT b H1 H2):aT b H H2:=fun x o n e=>c x o n (a x o n e)
theorem aT.same {b:Addr} {H H':Hp} (S:au H H'):aT b H H':=fun x o _ e=>S x o e
theorem Stp.clo {H:Hp} {f b:Addr} {g:gOp} {n:Nat} (s:Stp A H f b g n):∃ ts∈iB K A,∃ cs cvs,dD H f ts.1 cs cvs:=by
 cases s with
 | wri hc _ _=>exact ⟨_,m0,_,_,hc⟩
 | cnt _ _ _ hc=>exact ⟨_,mS m0,_,_,hc⟩
 | sur _ _ _ _ _ _ hc=>exact ⟨_,mS (mS m0),_,_,hc⟩
 | wor _ _ hc=>exact ⟨_,mS (mS (mS m0)),_,_,hc⟩
 | wea _ _ _ _ hc _ _=>exact ⟨_,mS (mS (mS (mS m0))),_,_,hc⟩
def stO (b z:Addr) (o:HO):Prop:=(∃ φ,o=.ext φ)∨(z=b∧∃ kvs,o=.dT kvs)∨∃ C dx v,o=HO.ins C dx [(("given" :Str),v)]
theorem Stp.keep {H H' : Hp} {f b : Addr} {g : List Key → Option Key} {n m : Nat} (s : Stp A H f b g n) (hn : n ≤ m) (k : ∀ z o, H z = some o → stO b z o → H' z = some o) : Stp A H' f b g m := by
  have kx : ∀ z φ, H z = some (.ext φ) → H' z = some (.ext φ) := fun z φ e => k z _ e (.inl ⟨_, rfl⟩)
  have kd : ∀ xs, H b = some (.dT xs) → H' b = some (.dT xs) := fun φ e => k b _ e (.inr (.inl ⟨rfl, _, rfl⟩))
  cases s with
  | wri hc hb hg => exact .wri (hc.keep kx) hb hg
  | cnt q x kvs hc num hl hs hg =>
    obtain ⟨⟨dx, h1⟩, h2⟩ := num
    exact .cnt q x kvs (hc.keep kx) ⟨⟨dx, k _ _ h1 (.inr (.inr ⟨_, _, _, rfl⟩))⟩, kd _ h2⟩ (Nat.le_trans hl hn) hs hg
  | sur q0 q1 j j0 j1 kvs hc hb hl hs hg => exact .sur q0 q1 j j0 j1 kvs (hc.keep kx) (kd _ hb) (Nat.le_trans hl hn) hs hg
  | wor q kvs hc hb hl hs hg => exact .wor q kvs (hc.keep kx) (kd _ hb) (Nat.le_trans hl hn) hs hg
  | wea q m h1 h2 hc hb hg => exact .wea q m h1 h2 (hc.keep kx) hb hg
theorem Stp.put {H:Hp} {f b x:Addr} {g:gOp} {n m:Nat} {C dx:Addr} {fs:List (Str×V)} {o:HO} (s:Stp A H f b g n) (hn:n≤m) (e:H x=some (.ins C dx fs)) (h:∀ v,fs≠[(("given" :Str),v)]):Stp A (upd H x o) f b g m:=s.keep hn fun z u ez hz=>by
 rw [ap (cf ez e fun q=>?_)]
 · exact ez
 · subst q
   rcases hz with ⟨_,q⟩ | ⟨_,_,q⟩ | ⟨_,_,v,q⟩
   · cases q
   · cases q
   · injection q with _ _ q;exact h v q
theorem Stp.same {H H':Hp} {f b:Addr} {g:gOp} {n m:Nat} (s:Stp A H f b g n) (hn:n≤m) (S:au H H'):Stp A H' f b g m:=s.keep hn fun z o e _=>S z o e
theorem Stp.nb {H:Hp} {f b z:Addr} {g:gOp} {n:Nat} {o:HO} (s:Stp A H f b g n) (e:H z=some o) (h:∀ kvs,o≠ .dT kvs) (h2:∀ φ,o≠ .ext φ:=by exact fun _ z=>nomatch z):z≠b:=fun q=>by
 subst q
 cases s with
 | wri hc hb hg=>subst hb;obtain ⟨⟨c,h,_⟩,_⟩:=hc;rw [e] at h;exact h2 _ (Option.some.inj h)
 | cnt q x kvs hc num hl hs hg=>have w:=num.di;rw [e] at w;exact h _ (Option.some.inj w)
 | sur q0 q1 j j0 j1 kvs hc hb hl hs hg=>rw [e] at hb;exact h _ (Option.some.inj hb)
 | wor q kvs hc hb hl hs hg=>rw [e] at hb;exact h _ (Option.some.inj hb)
 | wea q m h1 h2' hc hb hg=>subst hb;obtain ⟨⟨c,h,_⟩,_⟩:=hc;rw [e] at h;exact h2 _ (Option.some.inj h)
theorem Stp.tup {H H':Hp} {f b:Addr} {g:gOp} {n:Nat} (s:Stp A H f b g n) (k:aT b H H'):∀ x xs,H x=some (.tup xs)→H' x=some (.tup xs):=fun x xs e=>k x _ (s.nb e fun _ z=>nomatch z) e
theorem Stp.lst {H H':Hp} {f b:Addr} {g:gOp} {n:Nat} (s:Stp A H f b g n) (k:aT b H H'):∀ x xs,H x=some (.lst xs)→H' x=some (.lst xs):=fun x xs e=>k x _ (s.nb e fun _ z=>nomatch z) e
theorem lW {H : Hp} {f b p : Addr} {g : List Key → Option Key} {n : Nat} {k : List Key} {R : VK} (s : Stp A H f b g n) (hn : n ≤ 45000) (hp : H p = some (.tup (k.map kV))) (ok : okT k = true)
    (q : ∀ (v : Key) (H' : Hp) (g' : List Key → Option Key), aT b H H' → Stp A H' f b g' (n + 1) → Sub g g' → g' k = some v → pQ k v → R (kV v) H') : rP (iB K A) f [.ref p] H R E0 := by
  have s0 := s
  have hk := (mM ok).1
  have ll : ∀ kvs : List (List Key × Key), (cj kvs).length = kvs.length := fun kvs => by simp [cj]
  cases s with
  | wri hc hb hg =>
    refine ⟨_, m0, _, _, hc, rfl, p, k, rfl, hc.cells.hide hp (fun _ z => nomatch z), ok, fun H' S => ?_⟩
    have S := au.hide _ S
    exact q (.inr (fZ k)) _ g (aT.same S) (s0.same (Nat.le_succ _) S) Sub.rfl' (by rw [hg]) ⟨ng (hG ok), mY (hG ok)⟩
  | wea c m h1 h2 hc hb hg =>
    refine ⟨_, mS (mS (mS (mS m0))), _, _, hc, rfl, p, m, k, rfl, h1, h2, hc.cells.hide hp (fun _ z => nomatch z), ok, fun H' S => ?_⟩
    have S := au.hide _ S
    have r0 := Int.emod_nonneg (k.foldl gM 0) (b := m) (by omega)
    have r1 := Int.emod_lt_of_pos (k.foldl gM 0) (b := m) (by omega)
    have p60 : (9 : Int) < 10 ^ 60 := by decide +kernel
    exact q (tF m k) _ g (aT.same S) (s0.same (Nat.le_succ _) S) Sub.rfl' (by rw [hg]) (show 0 ≤ _ ∧ _ < _ from ⟨r0, by omega⟩)
  | cnt c x kvs hc num hl hs hg =>
    have p60 : (50000 : Int) < 10 ^ 60 := by decide +kernel
    refine ⟨_, mS m0, _, _, hc, rfl, x, b, p, cj kvs, k, rfl, num.hide hc.cells, by rw [ll]; omega, hc.cells.hide hp (fun _ z => nomatch z), ok, fun H' S => ?_⟩
    obtain ⟨dx, hx⟩ := num.ob
    obtain ⟨kvs', v, H2, ev, eH, hb', keep, hl', hs', gv, sv, sub⟩ := ki k (.inl ((cj kvs).length : Int)) hs (show 0 ≤ _ ∧ _ < _ from ⟨by omega, by rw [ll]; omega⟩) num.di hc.cells H' S
    rw [show V.int ((cj kvs).length : Int) = kV (.inl ((cj kvs).length : Int)) from rfl, ev, eH]
    refine q v H2 (dh kvs') (fun x o n e => keep x o n e)
      (.cnt c x kvs' (hc.keep fun x φ e => keep x _ (cf e num.di (fun z => nomatch z)) e) ⟨⟨dx, keep _ _ (cf hx num.di (fun z => nomatch z)) hx⟩, hb'⟩ (by omega) hs' rfl) ?_ gv (iQ hk sv)
    rw [hg]; exact sub
  | sur q0 q1 j j0 j1 kvs hc hb hl hs hg =>
    have p60 : (200000 : Int) < 10 ^ 60 := by decide +kernel
    obtain ⟨kvs', v, H2, ev, eH, hb', keep, hl', hs', gv, sv, sub⟩ := ki k (.inl (3 * ((cj kvs).length : Int) + j)) hs (show 0 ≤ _ ∧ _ < _ from ⟨by omega, by rw [ll]; omega⟩) hb hc.cells _ (.refl _)
    refine ⟨_, mS (mS m0), _, _, hc, rfl, p, b, j, k, cj kvs, rfl, hc.cells.hide hp (fun _ z => nomatch z), hc.cells.hide hb (fun _ z => nomatch z), by rw [ll]; omega, ?_⟩
    dsimp only
    rw [show V.int (3 * ((cj kvs).length : Int) + j) = kV (.inl (3 * ((cj kvs).length : Int) + j)) from rfl, ev, eH]
    refine q v H2 (dh kvs') (fun x o n e => keep x o n e)
      (.sur q0 q1 j j0 j1 kvs' (hc.keep fun x φ e => keep x _ (cf e hb (fun z => nomatch z)) e) hb' (by omega) hs' rfl) ?_ gv (iQ hk sv)
    rw [hg]; exact sub
  | wor c kvs hc hb hl hs hg =>
    have l60 := eC (i := ((cj kvs).length : Int)) (by omega) (by rw [ll]; omega)
    have sw : gG (.inr (gJ (cj kvs).length)) := ⟨hU (by decide +kernel) (qU _), by show (gJ _).length ≤ 62; unfold gJ; rw [strLen_append, gp "m"]; omega⟩
    obtain ⟨kvs', v, H2, ev, eH, hb', keep, hl', hs', gv, sv, sub⟩ := ki k (.inr (gJ (cj kvs).length)) hs sw hb hc.cells _ (.refl _)
    refine ⟨_, mS (mS (mS m0)), _, _, hc, rfl, p, b, k, cj kvs, rfl, hc.cells.hide hp (fun _ z => nomatch z), hc.cells.hide hb (fun _ z => nomatch z), by rw [ll]; omega, ?_⟩
    dsimp only
    rw [show V.str (gJ (cj kvs).length) = kV (.inr (gJ (cj kvs).length)) from rfl, ev, eH]
    refine q v H2 (dh kvs') (fun x o n e => keep x o n e)
      (.wor c kvs' (hc.keep fun x φ e => keep x _ (cf e hb (fun z => nomatch z)) e) hb' (by omega) hs' rfl) ?_ gv (iQ hk sv)
    rw [hg]; exact sub
mutual
def jk:Dat→Bool
 | .lst _=>false
 | .tup ds=>tupDs ds
 | .non=>true
 | .bl _=>true
 | .int _=>true
 | .str _=>true
 | .dic=>false
def tupDs:List Dat→Bool
 | []=>true
 | d::r=>jk d&&tupDs r
end
mutual
theorem aY.keepT {H H':Hp} {v:V} {d:Dat} (h:aY H v d) (k:∀ b xs,H b=some (.tup xs)→H' b=some (.tup xs)) (t:jk d=true):aY H' v d:=by
 cases h with
 | non=>exact .non
 | bl b=>exact .bl b
 | int i=>exact .int i
 | str z=>exact .str z
 | lst e r=>cases t
 | tup e r=>exact .tup (k _ _ e) (DatWs.keepT r k t)
 | dic e=>cases t
theorem DatWs.keepT {H H' : Hp} {xs : List V} {ds : List Dat} (h : DatWs H xs ds) (k : ∀ b xs, H b = some (.tup xs) → H' b = some (.tup xs)) (t : tupDs ds = true) : DatWs H' xs ds := by
  cases h with
  | nil => exact .nil
  | cons a r =>
    have t : (jk _ && tupDs _) = true := t
    rw [Bool.and_eq_true] at t
    exact .cons (aY.keepT a k t.1) (DatWs.keepT r k t.2)
end
theorem Aw (x:Key):jk (dR x)=true:=by cases x <;> rfl
theorem rq {x:Key} (h:okP x=true):okD (dR x)=true∧gs (dR x)=true:=by
 cases x with
 | inl i=>exact ⟨rfl,h⟩
 | inr z=>exact ⟨h,rfl⟩
theorem AE {k:List Key} {v:Key} (h:pQ k v) (hk:szT k≤100000):okP v=true∧szK v≤szT k+62:=by
 cases v with
 | inl i=>exact ⟨decide_eq_true h,by show 62≤_;omega⟩
 | inr z=>exact ⟨by show (bI z&&decide (z.length≤100000))=true;rw [h.1,decide_eq_true (Nat.le_trans h.2 hk)];rfl,by show z.length+62≤_;have:=h.2;omega⟩
theorem bR (g:gOp):Ext g (iz g):=fun k v e=>by unfold iz;rw [e];rfl
theorem Ae {H:Hp} {ps:List Addr} {ts:List (List Key)} {p:Addr} {t:List Key} (h:PK H ps ts) (e:H p=some (.tup (t.map kV))∧okT t=true):PK H (ps++[p]) (ts++[t]):=by
 induction h with
 | nil=>exact .cons e .nil
 | cons r t ih=>exact .cons r ih
theorem gn {H H':Hp} {ps:List Addr} {ts:List (List Key)} (k:∀ b xs,H b=some (.tup xs)→H' b=some (.tup xs)) (h:PK H ps ts):PK H' ps ts:=L2.Paired.imp' (fun p x e=>⟨k _ _ e.1,e.2⟩) h
theorem qw {H:Hp} {ps:List Addr} {pre:List (List Key)} {cur:List Key} (h:PK H ps (pre++[cur])):∃ qs p,ps=qs++[p]∧H p=some (.tup (cur.map kV))∧okT cur=true:=by
 have hl:=kT h
 obtain ⟨p,hp,h2⟩:=uK h (i:=pre.length) (t:=cur) (by simp)
 have hn:ps≠[]:=by intro z;subst z;simp at hl
 refine ⟨ps.dropLast,p,?_,h2⟩
 have:ps.getLast?=some p:=by
  rw [List.getLast?_eq_getElem?]
  have:ps.length - 1=pre.length:=by simp at hl;omega
  rw [this];exact hp
 obtain ⟨ys,hy⟩:=List.getLast?_eq_some_iff.mp this
 rw [hy];simp
theorem qA {K:W.Frag} {H:Hp} {Q:VK} {L:Addr} {qs:List Addr} {p:Addr} (hL:H L=some (.lst ((qs++[p]).map V.ref))) (q:Q (.ref p) H):aQ K (.ref L) (.int (-1)) H Q:=by
 refine .inl (.inl ⟨L,_,-1,.ref p,rfl,rfl,SqL.of hL,?_,q⟩)
 rw [List.map_append]
 exact wR _ _
def dO (o:HO):Prop:=(∃ xs,o=.lst xs)∨(∃ xs,o=.tup xs)∨∃ kvs,o=.dK kvs
theorem qk {b x y c:Nat} (hx:x<2^b) (hy:y<2^b) (h:mx b x y c):(b:Int) - (Builtin.Int.intBits (((x^^^y:Nat)):Int):Int)=(c:Int):=by
 obtain ⟨hc,he,hd⟩:=h
 have lt:x^^^y<2^(b - c):=by
   have h1:(x^^^y)/2^(b - c)=0:=by
     rw [← Nat.shiftRight_eq_div_pow,Nat.shiftRight_xor_distrib,Nat.shiftRight_eq_div_pow,Nat.shiftRight_eq_div_pow,he,Nat.xor_self]
   rcases (Nat.div_eq_zero_iff.mp h1) with h | h
   · have:=Nat.two_pow_pos (b - c);omega
   · exact h
 unfold Builtin.Int.intBits
 by_cases h0:x^^^y=0
 · rw [h0]
   have hxy:x=y:=xor_zero h0
   rcases hd with rfl | hd
   · simp
   · exact (hd (by rw [hxy])).elim
 · rw [if_neg (by simpa using h0)]
   rcases hd with rfl | hd
   · simp at lt;omega
   · by_cases hcb:c=b
     · subst hcb;simp at lt;omega
     have ge:2^(b - (c+1))≤x^^^y:=by
       apply Classical.byContradiction
       intro hn
       apply hd
       have h1:(x^^^y)/2^(b - (c+1))=0:=Nat.div_eq_of_lt (by omega)
       rw [← Nat.shiftRight_eq_div_pow,Nat.shiftRight_xor_distrib,Nat.shiftRight_eq_div_pow,Nat.shiftRight_eq_div_pow] at h1
       exact xor_zero h1
     have hl:(x^^^y).log2=b - (c+1):=by
       rw [Nat.log2_eq_iff h0]
       exact ⟨ge,by rw [show b - (c+1)+1=b - c by omega];exact lt⟩
     rw [Int.natAbs_natCast,hl]
     omega
theorem Cw (K:W.Frag) (A:Adr):Ln (kZ K A) 3:=by rintro vs H Q E ⟨b,_,_,_,rfl,_⟩;rfl
theorem EO (T:Txt K mg A):Rd (kZ K A) (Jl K A) ["bits", "one", "other"]:=by
 intro vs H Q E h
 obtain ⟨b,x,y,c,rfl,hx,hy,hc,q⟩:=h
 refine ⟨rfl,?_⟩
 show Q (.int ((b:Int) - (Builtin.Int.intBits (Builtin.bitXor x y):Int))) H
 rw [kR,qk hx hy hc]
 exact q
theorem Ca (K:W.Frag) (A:Adr):Ln (nK K A) 1:=by rintro vs H Q E ⟨v,d,rfl,_⟩;rfl
theorem Gx (T : Txt K mg A) : Rd (nK K A) (KW K A) ["thing"] := by
  intro vs H Q E h
  obtain ⟨v, d, rfl, w, q⟩ := h
  refine ⟨v, d, rfl, w, ?_⟩
  cases w with
  | int i =>
    refine Sel.yes rfl (Sel.dec (fun h1 => ?_) (fun h1 => ?_))
    · have e : fB (.int i) = decide (i ≤ 60) := by
        show decide (1 ≤ i ∧ i ≤ 60) = _
        by_cases h2 : i ≤ 60
        · rw [decide_eq_true h2, decide_eq_true ⟨h1, h2⟩]
        · rw [decide_eq_false h2, decide_eq_false fun z => h2 z.2]
      show Q (.bl (decide (i ≤ 60))) H
      rw [← e]; exact q
    · have e : fB (.int i) = false := decide_eq_false fun z => h1 z.1
      rw [← e]; exact q
  | _ => exact Sel.no rfl q
theorem lU (B k d:Nat):fL (B:Int) (k:Int) (d:Int)=((st B k d:Nat):Int):=by
 unfold fL st
 rw [show ((B:Int) - (d:Int)).toNat=B - d by omega,←dY,←Int.natCast_ediv]
theorem kS {B k d:Nat} (h:d<B):(k:Int)/2^((B:Int) - (d:Int) - 1).toNat%2=((sd B k d:Nat):Int):=by
 unfold sd
 rw [show ((B:Int) - (d:Int) - 1).toNat=B - 1 - d by omega,←dY]
 omega
def knO (o:HO):Prop:=(∃ xs,o=.tup xs)∨∃ C dx t m fs,o=HO.ins C dx ((("term" :Str),t)::(("mark" :Str),m)::fs)
theorem KnA.keep {H H':Hp} {g g':gOp} {x:Addr} {t:Kn Str} {m:Key} (h:KnA A H g x t m) (k:∀ z o,H z=some o→knO o→H' z=some o) (s:Sub g g'):KnA A H' g' x t m:=by
 induction h with
 | bare o ht hm ok sz=>exact .bare (k _ _ o (.inr ⟨_,_,_,_,_,rfl⟩)) (k _ _ ht (.inl ⟨_,rfl⟩)) (s _ _ hm) ok sz
 | leaf o ht hm ok sz hz=>exact .leaf (k _ _ o (.inr ⟨_,_,_,_,_,rfl⟩)) (k _ _ ht (.inl ⟨_,rfl⟩)) (s _ _ hm) ok sz hz
 | fork o hl hr ht hm ok sz ih1 ih2=>exact .fork (k _ _ o (.inr ⟨_,_,_,_,_,rfl⟩)) ih1 ih2 (k _ _ ht (.inl ⟨_,rfl⟩)) (s _ _ hm) ok sz
theorem knO.dT {kvs:List (List Key×V)} (h:knO (.dT kvs)):False:=by rcases h with ⟨_,h⟩ | ⟨_,_,_,_,_,h⟩ <;> cases h
theorem knO.tab {C dx:Addr} {v:V} {fs:List (Str×V)} (h:knO (.ins C dx ((("stamper" :Str),v)::fs))):False:=by
 rcases h with ⟨_,h⟩ | ⟨_,_,_,_,_,h⟩
 · cases h
 · injection h with _ _ h;injection h with h;injection h with h;exact absurd h (by decide)
theorem knO.nil {C dx:Addr} (h:knO (.ins C dx [])):False:=by rcases h with ⟨_,h⟩ | ⟨_,_,_,_,_,h⟩ <;> cases h
theorem knO.ext {φ} (h:knO (.ext φ)):False:=by rcases h with ⟨_,h⟩ | ⟨_,_,_,_,_,h⟩ <;> cases h
theorem aT.kn {H H':Hp} {f b:Addr} {g:gOp} {n:Nat} (s:Stp A H f b g n) (k:aT b H H'):∀ z o,H z=some o→knO o→H' z=some o:=fun z o e h=>k z o (s.nb e (fun kvs q=>by subst q;exact h.dT) fun φ q=>by subst q;exact h.ext) e
theorem gI.kn {H H':Hp} {f b x:Addr} {g:gOp} {n:Nat} {u:HO} (s:Stp A H f b g n) (k:gI b x H H') (hx:H x=some u) (hu:¬ knO u):∀ z o,H z=some o→knO o→H' z=some o:=fun z o e h=>k z o (s.nb e (fun kvs q=>by subst q;exact h.dT) fun φ q=>by subst q;exact h.ext) (fun q=>by subst q;rw [hx] at e;cases e;exact hu h) e
theorem KnA.kb {H H':Hp} {g g':gOp} {f b x:Addr} {t:Kn Str} {m:Key} {n:Nat} (h:KnA A H g x t m) (s:Stp A H f b g n) (k:aT b H H') (sub:Sub g g'):KnA A H' g' x t m:=h.keep (aT.kn s k) sub
theorem KnA.same {H H':Hp} {g:gOp} {x:Addr} {t:Kn Str} {m:Key} (h:KnA A H g x t m) (S:au H H'):KnA A H' g x t m:=h.keep (fun z o e _=>S z o e) Sub.rfl'
theorem KnA.ok {H:Hp} {g:gOp} {x:Addr} {t:Kn Str} {m:Key} (h:KnA A H g x t m):okP m=true∧szK m≤szN t:=by cases h <;> exact ⟨‹_›,‹_›⟩
theorem KnA.ob {H:Hp} {g:gOp} {x:Addr} {t:Kn Str} {m:Key} (h:KnA A H g x t m):∃ dx p fs,H x=some (.ins (clK A t) dx ((("term" :Str),.ref p)::(("mark" :Str),kV m)::fs))∧∀ nm:Str,(nm= "found" ∨nm= "rows" ∨nm= "with_key" ∨nm= "without")→((("term" :Str),V.ref p)::(("mark" :Str),kV m)::fs).lookup nm=none:=by
 cases h with
 | bare o _ _ _ _=>exact ⟨_,_,_,o,fun nm hn=>by rcases hn with rfl | rfl | rfl | rfl <;> rfl⟩
 | leaf o _ _ _ _ _=>exact ⟨_,_,_,o,fun nm hn=>by rcases hn with rfl | rfl | rfl | rfl <;> rfl⟩
 | fork o _ _ _ _ _ _=>exact ⟨_,_,_,o,fun nm hn=>by rcases hn with rfl | rfl | rfl | rfl <;> rfl⟩
theorem cQ (T:Txt K mg A) (t:Kn Str):Cls K (clK A t)∧bw K (clK A t) "mark" ∧bw K (clK A t) "term" :=by
 cases t
 · exact ⟨T.cl_Bare,T.na_Bare_mark,T.na_Bare_term⟩
 · exact ⟨T.cl_Leaf,T.na_Leaf_mark,T.na_Leaf_term⟩
 · exact ⟨T.cl_Fork,T.na_Fork_mark,T.na_Fork_term⟩
theorem yg:okP (.inr "bare")=true∧okP (.inr "leaf")=true∧okP (.inr "fork")=true:=by refine ⟨?_,?_,?_⟩ <;> decide +kernel
theorem DY:szK (.inr "bare")=66∧szK (.inr "leaf")=66∧szK (.inr "fork")=66:=by refine ⟨?_,?_,?_⟩ <;> decide +kernel
theorem okN {i:Int} (h0:0≤i) (h:i<2^60):okP (.inl i)=true:=by
 have p60:(2:Int)^60<10^60:=by decide +kernel
 exact decide_eq_true ⟨h0,by omega⟩
theorem okZ {z:Str} (h:fb z):okP (.inr z)=true:=by
 show (bI z&&decide (z.length≤100000))=true
 rw [h.1,decide_eq_true (by have:=h.2;omega)];rfl
theorem oS {w:Str} {k:List Key} (hw:okP (.inr w)=true) (hk:∀ x∈k,okP x=true) (hl:k.length≤7):okT (.inr w::k)=true:=by
 unfold okT
 refine Bool.and_eq_true_iff.mpr ⟨Bool.and_eq_true_iff.mpr ⟨decide_eq_true ⟨by simp,by simp;omega⟩,rfl⟩,?_⟩
 rw [List.all_cons,hw]
 exact List.all_eq_true.mpr hk
theorem HW:okT brT=true:=oS yg.1 (fun _ h=>nomatch h) (Nat.zero_le _)
theorem rR {k:Nat} (h:k<2^60):okP (.inl (k:Int))=true:=okN (by omega) (by omega)
theorem IH {k:Nat} {z:Str} (h:k<2^60) (hz:fb z):okT (lfT k z)=true:=oS yg.2.1 (fun x hx=>by
 rcases List.mem_cons.mp hx with rfl | hx
 · exact rR h
 · rw [List.mem_singleton.mp hx];exact okZ hz) (show 2≤7 by decide)
theorem Fe {d b:Nat} {l r:Key} (hd:d<60) (hb:b<2^60) (hl:okP l=true) (hr:okP r=true):okT (fkT d b l r)=true:=oS yg.2.2 (fun x hx=>by
 rcases List.mem_cons.mp hx with rfl | hx
 · exact rR (by omega)
 · rcases List.mem_cons.mp hx with rfl | hx
   · exact rR hb
   · rcases List.mem_cons.mp hx with rfl | hx
     · exact hl
     · rw [List.mem_singleton.mp hx];exact hr) (show 4≤7 by decide)
theorem kG {k : List Key} {v : Key} {n : Nat} (h : pQ k v) (hn : szT k ≤ n) (h2 : n + 62 ≤ 100000) : okP v = true ∧ szK v ≤ n + 62 := by
  cases v with
  | inl i => exact ⟨decide_eq_true h, by show 62 ≤ _; omega⟩
  | inr z =>
    have := h.2
    refine ⟨?_, by show z.length + 62 ≤ _; omega⟩
    show (bI z && decide (z.length ≤ 100000)) = true
    rw [h.1, decide_eq_true (by omega)]; rfl
theorem FX {k:Nat} {z:Str} (hz:fb z):szT (lfT k z)≤250:=by
 have:=hz.2
 show szK (.inr "leaf")+(62+(z.length+62+0))≤_
 rw [DY.2.1];omega
theorem EW {d b:Nat} {l r:Key}:szT (fkT d b l r)=190+szK l+szK r:=by
 show szK (.inr "fork")+(62+(62+(szK l+(szK r+0))))=_
 rw [DY.2.2];omega
theorem Aj {i:Nat} {σ:L2.St} {H:Hp} {Q:List V→Hp→Prop} {v:V} (h:σ[i]?=some (some v)) (q:Q [v] H):ae (ac i) ai σ H Q:=by
 show (match σ[i]? with | some (some v)=>ai σ H fun xs H2=>Q (v::xs) H2 | _=>False)
 rw [h];exact q
theorem Bs (K:W.Frag) (A:Adr):Ln (jJ K A) 3:=by rintro vs H Q E ⟨x,dx,C,f,b,p,g,n,k,rfl,_⟩;rfl
theorem EI (T:Txt K mg A):Rd (jJ K A) (Kv K A) ["self", "stamper", "term"]:=by
 intro vs H Q E h
 obtain ⟨x,dx,C,f,b,p,g,n,k,rfl,hx,cl,n1,n2,s,hn,hp,ok,q⟩:=h
 refine ⟨x,C,dx,[],rfl,hx,cl,n1,by decide,?_⟩
 have s1:Stp A (upd H x (.ins C dx (cw "term" (.ref p) []))) f b g n:=s.put (Nat.le_refl _) hx fun v z=>nomatch z
 have px:p≠x:=cf hp hx (fun z=>nomatch z)
 refine ⟨f,rfl,s1.clo,Aj (v:=.ref p) rfl ?_⟩
 refine lW s1 hn (by rw [ap px];exact hp) ok fun v H2 g2 kb s2 sub gv st=>?_
 have hx1:upd H x (.ins C dx (cw "term" (.ref p) [])) x=some (.ins C dx [(("term" :Str),.ref p)]):=aj
 have hx2:=kb _ _ (s1.nb hx1 fun _ z=>nomatch z) hx1
 refine ⟨x,C,dx,[(("term" :Str),.ref p)],rfl,hx2,cl,n2,by show 1<1000;decide,q v g2 _ (fun z o zb zx e=>?_) aj (s2.put (Nat.le_refl _) hx2 fun v z=>?_) sub gv st⟩
 · rw [ap zx];exact kb _ _ zb (by rw [ap zx];exact e)
 · injection z with z;injection z with z;exact absurd z (by decide)
theorem GK (K:W.Frag) (A:Adr):Ln (lX K A) 2:=by rintro vs H Q E ⟨x,dx,f,b,g,n,rfl,_⟩;rfl
theorem Jh (T:Txt K mg A):Rd (lX K A) (T_0 K A) ["self", "stamper"]:=by
 intro vs H Q E h
 obtain ⟨x,dx,f,b,g,n,rfl,hx,s,hn,q⟩:=h
 refine ⟨by show 1≤sizeLine;decide,fun p hp=>?_⟩
 have S:=au.upd (o:=.tup [.str "bare"]) hp
 refine ⟨x,dx,A.c_Bare,f,b,p,g,n,brT,rfl,S _ _ hx,T.cl_Bare,T.na_Bare_term,T.na_Bare_mark,s.same (Nat.le_refl _) S,hn,aj,HW,fun m g' H' k o s' sub gm st=>?_⟩
 obtain ⟨ok,sz⟩:=kG (n:=130) st (by decide +kernel) (by decide)
 have px:p≠x:=Ne.symm (az hx hp)
 have s1:=s.same (Nat.le_refl n) S
 exact q m g' H' (fun z u zb zx e=>k z u zb zx (S _ _ e)) (.bare o (k _ _ (s1.nb (o:=.tup (brT.map kV)) aj fun _ z=>nomatch z) px aj) gm ok (by omega)) s' sub
theorem Dz (K:W.Frag) (A:Adr):Ln (iG K A) 4:=by rintro vs H Q E ⟨x,dx,f,b,g,n,k,z,rfl,_⟩;rfl
theorem Fl (T:Txt K mg A):Rd (iG K A) (KA K A) ["self", "stamper", "key", "value"]:=by
 intro vs H Q E h
 obtain ⟨x,dx,f,b,g,n,kk,z,rfl,hx,s,hn,k60,hz,q⟩:=h
 refine ⟨by show 3≤sizeLine;decide,fun p hp=>?_⟩
 have S:=au.upd (o:=.tup [.str "leaf",.int (kk:Int),.str z]) hp
 refine ⟨x,dx,A.c_Leaf,f,b,p,g,n,lfT kk z,rfl,S _ _ hx,T.cl_Leaf,T.na_Leaf_term,T.na_Leaf_mark,s.same (Nat.le_refl _) S,hn,aj,IH k60 hz,fun m g' H' k o s' sub gm st=>?_⟩
 obtain ⟨ok,sz⟩:=kG (n:=250) st (FX hz) (by decide)
 have px:p≠x:=Ne.symm (az hx hp)
 have s1:=s.same (Nat.le_refl n) S
 have hp':=k _ _ (s1.nb (o:=.tup ((lfT kk z).map kV)) aj fun _ z=>nomatch z) px aj
 refine ⟨x,A.c_Leaf,dx,_,rfl,o,T.cl_Leaf,T.na_Leaf_key,by show 2<1000;decide,?_⟩
 refine ⟨x,A.c_Leaf,dx,_,rfl,aj,T.cl_Leaf,T.na_Leaf_text,by show 3<1000;decide,?_⟩
 rw [eW]
 have e:cw "text" (.str z) (cw "key" (.int (kk:Int)) [("term",.ref p),("mark",kV m)])=([("term",.ref p),("mark",kV m),("key",.int (kk:Int)),("text",.str z)]:List (Str×V)):=rfl
 rw [e]
 refine q m g' _ (fun y u yb yx e=>by rw [ap yx];exact k y u yb yx (S _ _ e)) (.leaf aj (by rw [ap px];exact hp') gm ok (by omega) hz) (s'.put (Nat.le_refl _) o fun v z=>?_) sub
 injection z with z;injection z with z;exact absurd z (by decide)
theorem FF (K:W.Frag) (A:Adr):Ln (ju K A) 6:=by rintro vs H Q E ⟨x,dx,f,b,l,r,g,n,d,e,tl,tr,ml,mr,rfl,_⟩;rfl
theorem Jv (T:Txt K mg A):Rd (ju K A) (T_4 K A) ["self", "stamper", "depth", "begin", "left", "right"]:=by
 intro vs H Q E h
 obtain ⟨x,dx,f,b,l,r,g,n,d,e,tl,tr,ml,mr,rfl,hx,s,hn,d60,e60,kl,kr,szs,q⟩:=h
 obtain ⟨dl,pl,fl,ol,_⟩:=kl.ob
 obtain ⟨dr,pr,fr,or',_⟩:=kr.ob
 refine ⟨l,_,dl,_,_,rfl,ol,(cQ T tl).1,(cQ T tl).2.1,rfl,r,_,dr,_,_,rfl,or',(cQ T tr).1,(cQ T tr).2.1,rfl,by show 5≤sizeLine;decide,fun p hp=>?_⟩
 have S:=au.upd (o:=.tup [.str "fork",.int (d:Int),.int (e:Int),kV ml,kV mr]) hp
 refine ⟨x,dx,A.c_Fork,f,b,p,g,n,fkT d e ml mr,rfl,S _ _ hx,T.cl_Fork,T.na_Fork_term,T.na_Fork_mark,s.same (Nat.le_refl _) S,hn,aj,Fe d60 e60 kl.ok.1 kr.ok.1,fun m g' H' k o s' sub gm st=>?_⟩
 have zl:=kl.ok.2
 have zr:=kr.ok.2
 obtain ⟨ok,sz⟩:=kG (n:=190+szK ml+szK mr) st (Nat.le_of_eq EW) (by omega)
 have px:p≠x:=Ne.symm (az hx hp)
 have s1:=s.same (Nat.le_refl n) S
 have hp':=k _ _ (s1.nb (o:=.tup ((fkT d e ml mr).map kV)) aj fun _ z=>nomatch z) px aj
 have kn:=gI.kn s1 k (S _ _ hx) knO.nil
 refine ⟨x,A.c_Fork,dx,_,rfl,o,T.cl_Fork,T.na_Fork_depth,by show 2<1000;decide,?_⟩
 refine ⟨x,A.c_Fork,dx,_,rfl,aj,T.cl_Fork,T.na_Fork_begin,by show 3<1000;decide,?_⟩
 refine ⟨x,A.c_Fork,dx,_,rfl,aj,T.cl_Fork,T.na_Fork_left,by show 4<1000;decide,?_⟩
 refine ⟨x,A.c_Fork,dx,_,rfl,aj,T.cl_Fork,T.na_Fork_right,by show 5<1000;decide,?_⟩
 rw [eW,eW,eW]
 have ef:cw "right" (.ref r) (cw "left" (.ref l) (cw "begin" (.int (e:Int)) (cw "depth" (.int (d:Int)) [("term",.ref p),("mark",kV m)])))=([("term",.ref p),("mark",kV m),("depth",.int (d:Int)),("begin",.int (e:Int)),("left",.ref l),("right",.ref r)]:List (Str×V)):=rfl
 rw [ef]
 have up:∀ z u,H z=some u→knO u→upd H' x (.ins A.c_Fork dx [("term",.ref p),("mark",kV m),("depth",.int (d:Int)),("begin",.int (e:Int)),("left",.ref l),("right",.ref r)]) z=some u:=fun z u ez hu=>by
  rw [ap (fun q=>by subst q;rw [hx] at ez;cases ez;exact knO.nil hu)]
  exact kn z u (S _ _ ez) hu
 refine q m g' _ (fun y u yb yx e=>by rw [ap yx];exact k y u yb yx (S _ _ e)) (.fork aj (kl.keep up sub) (kr.keep up sub) (by rw [ap px];exact hp') gm ok (by show _≤300+szN tl+szN tr;omega)) (s'.put (Nat.le_refl _) o fun v z=>?_) sub
 injection z with z;injection z with z;exact absurd z (by decide)
theorem qa {B d key:Nat} {z:Str} {t:Kn Str}:szN (dU B d key z t)=700+szN t:=by
 unfold dU;split
 · show 300+400+szN t=_;omega
 · show 300+szN t+400=_;omega
theorem iR {B key : Nat} {z : Str} : ∀ t : Kn Str, szN (bW B key z t) ≤ szN t + 700
  | .bare => by show 400 ≤ 200 + 700; omega
  | .leaf k t => by
    unfold bW; split
    · show 400 ≤ 400 + 700; omega
    · rw [qa]; omega
  | .fork d b l r => by
    have h1 := iR (B := B) (key := key) (z := z) l
    have h2 := iR (B := B) (key := key) (z := z) r
    unfold bW; split
    · split <;> (show 300 + _ + _ ≤ 300 + _ + _ + 700; omega)
    · rw [qa]; omega
theorem fF {B key : Nat} : ∀ t : Kn Str, szN (aL B key t) ≤ szN t
  | .bare => Nat.le_refl _
  | .leaf k t => by
    unfold aL; split
    · show 200 ≤ 400; omega
    · exact Nat.le_refl _
  | .fork d b l r => by
    have h1 := fF (B := B) (key := key) l
    have h2 := fF (B := B) (key := key) r
    have e : szN (.fork d b l r) = 300 + szN l + szN r := rfl
    unfold aL; split
    · cases q : aL B key l with
      | bare => show szN r ≤ _; omega
      | leaf _ _ => rw [q] at h1; show 300 + _ + _ ≤ _; omega
      | fork _ _ _ _ => rw [q] at h1; show 300 + _ + _ ≤ _; omega
    · cases q : aL B key r with
      | bare => show szN l ≤ _; omega
      | leaf _ _ => rw [q] at h2; show 300 + _ + _ ≤ _; omega
      | fork _ _ _ _ => rw [q] at h2; show 300 + _ + _ ≤ _; omega
theorem ja {B key : Nat} {z : Str} : ∀ t : Kn Str, (aG (bW B key z t)).length ≤ (aG t).length + 1
  | .bare => Nat.le_refl _
  | .leaf k t => by
    unfold bW; split
    · show 1 ≤ 2; decide
    · unfold dU; split <;> exact Nat.le_refl 2
  | .fork d b l r => by
    have h1 := ja (B := B) (key := key) (z := z) l
    have h2 := ja (B := B) (key := key) (z := z) r
    have ef : ∀ d b (l r : Kn Str), (aG (.fork d b l r)).length = (aG l).length + (aG r).length := fun _ _ _ _ => List.length_append
    have el : ∀ k (z : Str), (aG (.leaf k z)).length = 1 := fun _ _ => rfl
    unfold bW; split
    · split
      · rw [ef, ef]; omega
      · rw [ef, ef]; omega
    · unfold dU; split
      · rw [ef, el]; omega
      · rw [ef, el]; omega
theorem gq {B key : Nat} : ∀ t : Kn Str, (aG (aL B key t)).length ≤ (aG t).length
  | .bare => Nat.le_refl _
  | .leaf k t => by
    unfold aL; split
    · exact Nat.zero_le _
    · exact Nat.le_refl _
  | .fork d b l r => by
    have h1 := gq (B := B) (key := key) l
    have h2 := gq (B := B) (key := key) r
    have e : (aG (.fork d b l r)).length = (aG l).length + (aG r).length := List.length_append
    have ef : ∀ d b (l r : Kn Str), (aG (.fork d b l r)).length = (aG l).length + (aG r).length := fun _ _ _ _ => List.length_append
    unfold aL; split
    · cases q : aL B key l with
      | bare => show (aG r).length ≤ _; omega
      | leaf _ _ => rw [q] at h1; dsimp only; rw [ef]; omega
      | fork _ _ _ _ => rw [q] at h1; dsimp only; rw [ef]; omega
    · cases q : aL B key r with
      | bare => show (aG l).length ≤ _; omega
      | leaf _ _ => rw [q] at h2; dsimp only; rw [ef]; omega
      | fork _ _ _ _ => rw [q] at h2; dsimp only; rw [ef]; omega
theorem WF.dp {B : Nat} : ∀ {t : Kn Str} {d0 b0 : Nat}, b0 < 2 ^ d0 → WF B d0 b0 t → jl B t ∧ hgt t ≤ B - d0
  | .bare, _, _, _, _ => ⟨trivial, Nat.zero_le _⟩
  | .leaf _ _, _, _, _, _ => ⟨trivial, Nat.zero_le _⟩
  | .fork d b l r, d0, b0, hb, h => by
    obtain ⟨h1, h2, h3, h4, h5⟩ := h
    have hbd : b < 2 ^ d := by
      have e : 2 ^ d = 2 ^ d0 * 2 ^ (d - d0) := by rw [← Nat.pow_add]; congr 1; omega
      rw [e]
      exact (Nat.div_lt_iff_lt_mul (Nat.two_pow_pos _)).mp (by rw [h3]; exact hb)
    have e2 : 2 ^ (d + 1) = 2 * 2 ^ d := by rw [Nat.pow_succ]; omega
    obtain ⟨a1, a2⟩ := WF.dp (t := l) (by omega) h4
    obtain ⟨b1, b2⟩ := WF.dp (t := r) (by omega) h5
    exact ⟨⟨h2, hbd, a1, b1⟩, by show max (hgt l) (hgt r) + 1 ≤ _; omega⟩
theorem WF.szN {B : Nat} : ∀ {t : Kn Str} {d0 b0 : Nat}, WF B d0 b0 t → szN t + 300 ≤ 700 * (aG t).length
  | .bare, _, _, h => h.elim
  | .leaf _ _, _, _, _ => by show 400 + 300 ≤ 700 * 1; omega
  | .fork d b l r, _, _, h => by
    have a := WF.szN h.2.2.2.1
    have b' := WF.szN h.2.2.2.2
    have e : (aG (.fork d b l r)).length = (aG l).length + (aG r).length := List.length_append
    show 300 + Rs.szN l + Rs.szN r + 300 ≤ _
    rw [e]; omega
theorem WFo.dp {B:Nat} {t:Kn Str} (h:WFo B t):jl B t∧hgt t≤B:=by
 rcases h with rfl | h
 · exact ⟨trivial,Nat.zero_le _⟩
 · exact h.dp (by decide)
theorem WFo.szN {B:Nat} {t:Kn Str} (h:WFo B t):szN t≤700*(aG t).length+200:=by
 rcases h with rfl | h
 · exact Nat.le_refl _
 · have:=h.szN;omega
theorem WFo.lt {B:Nat} {t:Kn Str} (h:WFo B t):∀ p∈aG t,p.1<2^B:=by
 rcases h with rfl | h
 · exact fun _ z=>nomatch z
 · exact fun p hp=>(h.mem (Nat.zero_le _) p hp).1
theorem WFo.with {B key:Nat} {z:Str} {t:Kn Str} (h:WFo B t) (hk:key<2^B):WFo B (bW B key z t)∧∀ k,aD B k (bW B key z t)=if k=key then some z else aD B k t:=by
 rcases h with rfl | h
 · exact ⟨.inr ⟨hk,Nat.div_eq_of_lt (by simpa using hk)⟩,fun k=>rfl⟩
 · have e:st B key 0=0:=Nat.div_eq_of_lt (by simpa using hk)
   obtain ⟨a,b⟩:=km (x:=z) hk (Nat.zero_le _) h e
   exact ⟨.inr a,b⟩
theorem WFo.without {B key:Nat} {t:Kn Str} (h:WFo B t):WFo B (aL B key t)∧∀ k,aD B k (aL B key t)=if k=key then none else aD B k t:=by
 rcases h with rfl | h
 · exact ⟨.inl rfl,fun k=>by show none=_;split <;> rfl⟩
 · exact gO (Nat.zero_le _) h
theorem WFo.up {B:Nat} {t:Kn Str} (h:WFo B t):fJ (aG t)∧∀ k,aD B k t=look k (aG t):=by
 rcases h with rfl | h
 · exact ⟨.nil,fun _=>rfl⟩
 · exact ⟨h.up,fun k=>cy h⟩
theorem jq {B key d b:Nat} {l r:Kn Str}:aL B key (.fork d b l r)=if sd B key d=0 then (if kdK (aL B key l)=0 then r else .fork d b (aL B key l) r) else (if kdK (aL B key r)=0 then l else .fork d b l (aL B key r)):=by
 rw [aL]
 split
 · cases aL B key l <;> rfl
 · cases aL B key r <;> rfl
theorem KnQ.le {H:Hp} {f b:Addr} {g:gOp} {n c c':Nat} {t:Kn Str} {Q:VK} (h:KnQ A H f b g n c' t Q) (hc:c≤c'):KnQ A H f b g n c t Q:=fun y m g' H' kb k s sub=>h y m g' H' kb k (s.same (by omega) au.rfl') sub
theorem dc {H:Hp} {x dx:Addr} {o u:HO} (hx:H x=none) (hdx:H dx=none) (ne:dx≠x):au H (upd (upd H dx o) x u):=(au.upd hdx).trans (au.upd (by rw [ap (Ne.symm ne)];exact hx))
theorem pR {H:Hp} {x dx f b C:Addr} {g:gOp} {n:Nat} {t:Kn Str} {Q:VK} (hx:H x=none) (hdx:H dx=none) (ne:dx≠x) (q:KnQ A H f b g n 1 t Q):InQ A (upd (upd H dx (.own x)) x (.ins C dx [])) x f b g n t (fun v H2=>v=.non∧Q (.ref x) H2):=
 fun m g' H' k kn s sub=>⟨rfl,q x m g' H' (fun z o zb e=>k z o zb (az e hx) (dc hx hdx ne _ _ e)) kn s sub⟩
theorem zR {H:Hp} {x dx f b:Addr} {g:gOp} {n k:Nat} {z:Str} {Q:VK} {E:XK} (hx:H x=none) (hdx:H dx=none) (ne:dx≠x) (s:Stp A H f b g n) (hn:n≤45000) (hk:k<2^60) (hz:fb z) (q:KnQ A H f b g n 1 (.leaf k z) Q):
  iG K A [.ref x,.ref f,.int (k:Int),.str z] (upd (upd H dx (.own x)) x (.ins A.c_Leaf dx [])) (fun v H2=>v=.non∧Q (.ref x) H2) E:=
 ⟨x,dx,f,b,g,n,k,z,rfl,aj,s.same (Nat.le_refl _) (dc hx hdx ne),hn,hk,hz,pR hx hdx ne q⟩
theorem zP {H:Hp} {x dx f b:Addr} {g:gOp} {n:Nat} {Q:VK} {E:XK} (hx:H x=none) (hdx:H dx=none) (ne:dx≠x) (s:Stp A H f b g n) (hn:n≤45000) (q:KnQ A H f b g n 1 .bare Q):
  lX K A [.ref x,.ref f] (upd (upd H dx (.own x)) x (.ins A.c_Bare dx [])) (fun v H2=>v=.non∧Q (.ref x) H2) E:=
 ⟨x,dx,f,b,g,n,rfl,aj,s.same (Nat.le_refl _) (dc hx hdx ne),hn,pR hx hdx ne q⟩
theorem jI {H:Hp} {x dx f b l r:Addr} {g:gOp} {n d e:Nat} {tl tr:Kn Str} {ml mr:Key} {Q:VK} {E:XK} (hx:H x=none) (hdx:H dx=none) (ne:dx≠x) (s:Stp A H f b g n) (hn:n≤45000) (hd:d<60) (he:e<2^60) (kl:KnA A H g l tl ml) (kr:KnA A H g r tr mr) (sz:szN tl+szN tr≤90000)
  (q:KnQ A H f b g n 1 (.fork d e tl tr) Q):ju K A [.ref x,.ref f,.int (d:Int),.int (e:Int),.ref l,.ref r] (upd (upd H dx (.own x)) x (.ins A.c_Fork dx [])) (fun v H2=>v=.non∧Q (.ref x) H2) E:=
 have S:=dc (o:=.own x) (u:=.ins A.c_Fork dx []) hx hdx ne
 ⟨x,dx,f,b,l,r,g,n,d,e,tl,tr,ml,mr,rfl,aj,s.same (Nat.le_refl _) S,hn,hd,he,kl.same S,kr.same S,sz,pR hx hdx ne q⟩
theorem KnA.fk {H:Hp} {g:gOp} {x:Addr} {d b:Nat} {tl tr:Kn Str} {m:Key} (h:KnA A H g x (.fork d b tl tr) m):∃ l r ml mr,jh A H x d b l r∧KnA A H g l tl ml∧KnA A H g r tr mr:=by
 cases h with
 | fork o hl hr _ _ _ _=>exact ⟨_,_,_,_,⟨_,_,_,o⟩,hl,hr⟩
theorem EY (K:W.Frag) (A:Adr):Ln (sM K A) 3:=by rintro vs H Q E ⟨x,l,r,d,b,B,key,rfl,_⟩;rfl
theorem IY (T:Txt K mg A):Rd (sM K A) (T_8 K A) ["self", "bits", "key"]:=by
 intro vs H Q E h
 obtain ⟨x,l,r,d,b,B,key,rfl,⟨dx,t,m,o⟩,hd,q⟩:=h
 refine ⟨x,_,dx,_,_,rfl,o,T.cl_Fork,T.na_Fork_depth,rfl,_,_,_,rfl,by omega,x,_,dx,_,_,rfl,o,T.cl_Fork,T.na_Fork_begin,rfl,?_⟩
 have e:decide (((st B key d:Nat):Int)=(b:Int))=decide (st B key d=b):=by
  by_cases h:st B key d=b
  · rw [decide_eq_true h,decide_eq_true (by rw [h])]
  · rw [decide_eq_false h,decide_eq_false (by omega)]
 show Q (.bl (decide (fL (B:Int) (key:Int) (d:Int)=(b:Int)))) H
 rw [lU,e];exact q
theorem FG (K:W.Frag) (A:Adr):Ln (mj K A) 3:=by rintro vs H Q E ⟨x,l,r,d,b,B,key,rfl,_⟩;rfl
theorem Jr (T:Txt K mg A):Rd (mj K A) (T_9 K A) ["self", "bits", "key"]:=by
 intro vs H Q E h
 obtain ⟨x,l,r,d,b,B,key,rfl,⟨dx,t,m,o⟩,hd,q⟩:=h
 refine ⟨x,_,dx,_,_,rfl,o,T.cl_Fork,T.na_Fork_depth,rfl,_,_,_,rfl,by omega,by omega,?_⟩
 rw [kS hd]
 refine Sel.dec (fun h=>?_) (fun h=>?_)
 · have h:sd B key d=0:=by have h:((sd B key d:Nat):Int)=0:=h;omega
   rw [if_pos h] at q
   exact ⟨x,_,dx,_,_,rfl,o,T.cl_Fork,T.na_Fork_left,rfl,q⟩
 · have h:¬ sd B key d=0:=by have h:¬ ((sd B key d:Nat):Int)=0:=h;omega
   rw [if_neg h] at q
   exact ⟨x,_,dx,_,_,rfl,o,T.cl_Fork,T.na_Fork_right,rfl,q⟩
theorem Fx (K:W.Frag) (A:Adr):Ln (tB K A) 3:=by rintro vs H Q E ⟨x,l,r,d,b,B,key,rfl,_⟩;rfl
theorem Jj (T:Txt K mg A):Rd (tB K A) (T_5 K A) ["self", "bits", "key"]:=by
 intro vs H Q E h
 obtain ⟨x,l,r,d,b,B,key,rfl,⟨dx,t,m,o⟩,hd,q⟩:=h
 refine ⟨x,_,dx,_,_,rfl,o,T.cl_Fork,T.na_Fork_depth,rfl,_,_,_,rfl,by omega,by omega,?_⟩
 rw [kS hd]
 refine Sel.dec (fun h=>?_) (fun h=>?_)
 · have h:sd B key d=0:=by have h:((sd B key d:Nat):Int)=0:=h;omega
   rw [if_pos h] at q
   exact ⟨x,_,dx,_,_,rfl,o,T.cl_Fork,T.na_Fork_right,rfl,q⟩
 · have h:¬ sd B key d=0:=by have h:¬ ((sd B key d:Nat):Int)=0:=h;omega
   rw [if_neg h] at q
   exact ⟨x,_,dx,_,_,rfl,o,T.cl_Fork,T.na_Fork_left,rfl,q⟩
theorem Gn (K:W.Frag) (A:Adr):Ln (me K A) 3:=by rintro vs H Q E ⟨x,g,t,m,B,key,rfl,_⟩;rfl
theorem Cr (K:W.Frag) (A:Adr):Ln (jK K A) 3:=by rintro vs H Q E ⟨x,g,t,m,B,key,rfl,_⟩;rfl
theorem FS (K:W.Frag) (A:Adr) (n:Nat):Ln (kK K A n) 3:=by rintro vs H Q E ⟨x,g,t,m,B,key,rfl,_⟩;rfl
theorem CO (K:W.Frag) (A:Adr):∀ vs H Q E,kK K A 0 vs H Q E→False:=by rintro vs H Q E ⟨x,g,t,m,B,key,rfl,_,_,h,_⟩;omega
theorem Kof.b {H:Hp} {g:gOp} {x:Addr} {t:Kn Str} {m:Key} (h:Kof A H 0 g x t m):t=.bare:=by
 obtain ⟨k,e⟩:=h;cases t <;> first | rfl | cases e
theorem kd1 {t:Kn Str} (e:kdK t=1):∃ k z,t=.leaf k z:=by cases t <;> first | exact ⟨_,_,rfl⟩ | cases e
theorem kd2 {t:Kn Str} (e:kdK t=2):∃ d b l r,t=.fork d b l r:=by cases t <;> first | exact ⟨_,_,_,_,rfl⟩ | cases e
theorem xn {H:Hp} {g:gOp} {x:Addr} {t:Kn Str} {m:Key} {sB sL sF:Sp} (nm:Str) (hn:nm= "found" ∨nm= "rows" ∨nm= "with_key" ∨nm= "without") (h:KnA A H g x t m) (R:Sp→Prop) (q0:kdK t=0→R sB) (q1:kdK t=1→R sL) (q2:kdK t=2→R sF):
  ∃ a C dx fs sp,V.ref x=.ref a∧H a=some (.ins C dx fs)∧(C,sp)∈[(A.c_Bare,sB),(A.c_Leaf,sL),(A.c_Fork,sF)]∧fs.lookup nm=none∧R sp:=by
 obtain ⟨dx,p,fs,o,l⟩:=h.ob
 cases t with
 | bare=>exact ⟨x,_,_,_,sB,rfl,o,List.mem_cons_self,l nm hn,q0 rfl⟩
 | leaf _ _=>exact ⟨x,_,_,_,sL,rfl,o,List.mem_cons_of_mem _ List.mem_cons_self,l nm hn,q1 rfl⟩
 | fork _ _ _ _=>exact ⟨x,_,_,_,sF,rfl,o,List.mem_cons_of_mem _ (List.mem_cons_of_mem _ List.mem_cons_self),l nm hn,q2 rfl⟩
theorem kdh {t:Kn Str} {i:Nat} (e:kdK t=i) (hi:i<2):hgt t<70:=by
 cases t with
 | bare=>show 0<70;decide
 | leaf _ _=>show 0<70;decide
 | fork _ _ _ _=>have:2=i:=e;omega
theorem ji {n:Nat} {H:Hp} {Q:VK} {E:XK} {g:gOp} {x:Addr} {t:Kn Str} {m:Key} {B key:Nat} (k:KnA A H g x t m) (dp:jl B t) (hn:hgt t<n) (q:Q (ov (aD B key t)) H):
  ∃ a C dx fs sp,V.ref x=.ref a∧H a=some (.ins C dx fs)∧(C,sp)∈[(A.c_Bare,me K A),(A.c_Leaf,jK K A),(A.c_Fork,kK K A n)]∧fs.lookup ("found" :Str)=none∧sp [.ref x,.int (B:Int),.int (key:Int)] H Q E:=
 xn "found" (.inl rfl) k (fun sp=>sp [.ref x,.int (B:Int),.int (key:Int)] H Q E) (fun e=>⟨x,g,t,m,B,key,rfl,⟨k,e⟩,dp,kdh e (by decide),q⟩) (fun e=>⟨x,g,t,m,B,key,rfl,⟨k,e⟩,dp,kdh e (by decide),q⟩) (fun e=>⟨x,g,t,m,B,key,rfl,⟨k,e⟩,dp,hn,q⟩)
theorem JP (T:Txt K mg A):Rd (me K A) (T_1 K A) ["self", "bits", "key"]:=by
 intro vs H Q E h
 obtain ⟨x,g,t,m,B,key,rfl,k,_,_,q⟩:=h
 cases k.b
 exact q
theorem EZ (T : Txt K mg A) : Rd (jK K A) (Js K A) ["self", "bits", "key"] := by
  intro vs H Q E h
  obtain ⟨x, g, t, m, B, key, rfl, ⟨k, e⟩, _, _, q⟩ := h
  obtain ⟨kk, z, rfl⟩ := kd1 e
  cases k with
  | @leaf _ dx _ _ _ _ o _ _ _ _ _ =>
    refine ⟨x, _, dx, _, _, rfl, o, T.cl_Leaf, T.na_Leaf_key, rfl, Sel.dec (fun h => ?_) (fun h => ?_)⟩
    · have h : key = kk := by have h : (key : Int) = (kk : Int) := h; omega
      have q : Q (ov (if key = kk then some z else none)) H := q
      rw [if_pos h] at q
      exact ⟨x, _, dx, _, _, rfl, o, T.cl_Leaf, T.na_Leaf_text, rfl, q⟩
    · have h : ¬ key = kk := by have h : ¬ (key : Int) = (kk : Int) := h; omega
      have q : Q (ov (if key = kk then some z else none)) H := q
      rw [if_neg h] at q
      exact q
theorem JL (T:Txt K mg A) (n:Nat):Rd (kK K A (n+1)) (T_7 K A n) ["self", "bits", "key"]:=by
 intro vs H Q E h
 obtain ⟨x,g,t,m,B,key,rfl,⟨k,e⟩,dp,hn,q⟩:=h
 obtain ⟨d,b,tl,tr,rfl⟩:=kd2 e
 obtain ⟨l,r,ml,mr,fk,kl,kr⟩:=k.fk
 obtain ⟨dx,p,mm,o⟩:=id fk
 have q:Q (ov (if sd B key d=0 then aD B key tl else aD B key tr)) H:=q
 have hh:max (hgt tl) (hgt tr)+1<n+1:=hn
 refine ⟨x,dx,_,rfl,o,rfl,x,l,r,d,b,B,key,rfl,fk,dp.1,?_⟩
 by_cases hs:sd B key d=0
 · rw [if_pos hs] at q ⊢
   exact ji (n:=n) kl dp.2.2.1 (by omega) q
 · rw [if_neg hs] at q ⊢
   exact ji (n:=n) kr dp.2.2.2 (by omega) q
theorem Dg (K:W.Frag) (A:Adr):Ln (lq K A) 5:=by rintro vs H Q E ⟨f,b,x,y,g,n,B,d,key,z,t,m,m',rfl,_⟩;rfl
theorem DA {B key d:Nat} (h:key<2^B) (hB:B≤60):st B key d<2^60:=by
 have:2^B≤2^60:=Nat.pow_le_pow_right (by decide) hB
 exact Nat.lt_of_le_of_lt (Nat.div_le_self _ _) (Nat.lt_of_lt_of_le h this)
theorem Fk (T:Txt K mg A):Rd (lq K A) (Jb K A) ["stamper", "bits", "depth", "leaf", "knot", "begin"]:=by
 intro vs H Q E h
 obtain ⟨f,b,x,y,g,n,B,d,key,z,t,m,m',rfl,ks,hn,ky,hd,hk,q⟩:=h
 have B60:=ks.B60
 have sz:=ks.sz
 obtain ⟨dy,p,oy⟩:∃ dy p,H y=some (.ins A.c_Leaf dy [("term",.ref p),("mark",kV m'),("key",.int (key:Int)),("text",.str z)]):=by cases ky with | leaf o _ _ _ _ _=>exact ⟨_,_,o⟩
 refine ⟨y,_,dy,_,_,rfl,oy,T.cl_Leaf,T.na_Leaf_key,rfl,_,_,_,rfl,by omega,y,_,dy,_,_,rfl,oy,T.cl_Leaf,T.na_Leaf_key,rfl,_,_,_,rfl,by omega,by omega,?_⟩
 rw [kS hd,lU]
 unfold dU at q
 refine Sel.dec (fun h=>?_) (fun h=>?_)
 · have h:sd B key d=0:=by have h:((sd B key d:Nat):Int)=0:=h;omega
   rw [if_pos h] at q
   intro x' dx' hx hdx ne
   exact jI hx hdx ne ks.s hn (by omega) (DA hk B60) ky ks.k (by show 400+_≤_;omega) q
 · have h:¬ sd B key d=0:=by have h:¬ ((sd B key d:Nat):Int)=0:=h;omega
   rw [if_neg h] at q
   intro x' dx' hx hdx ne
   exact jI hx hdx ne ks.s hn (by omega) (DA hk B60) ks.k ky (by show _+400≤_;omega) q
theorem ET (K:W.Frag) (A:Adr):Ln (qf K A) 5:=by rintro vs H Q E ⟨x,f,b,l,r,y,g,n,B,d,e,key,tl,tr,t,m,ml,mr,rfl,_⟩;rfl
theorem KU (T:Txt K mg A):Rd (qf K A) (T_6 K A) ["self", "stamper", "bits", "key", "knot"]:=by
 intro vs H Q E h
 obtain ⟨x,f,b,l,r,y,g,n,B,d,e,key,tl,tr,t,m,ml,mr,rfl,⟨dx,p,mm,o⟩,kl,kr,ky,s,hn,hd,B60,e60,sz,q⟩:=h
 refine ⟨x,_,dx,_,_,rfl,o,T.cl_Fork,T.na_Fork_depth,rfl,_,_,_,rfl,by omega,by omega,?_⟩
 rw [kS hd]
 refine Sel.dec (fun h=>?_) (fun h=>?_)
 · have h:sd B key d=0:=by have h:((sd B key d:Nat):Int)=0:=h;omega
   rw [if_pos h] at q sz
   refine ⟨x,_,dx,_,_,rfl,o,T.cl_Fork,T.na_Fork_depth,rfl,x,_,dx,_,_,rfl,o,T.cl_Fork,T.na_Fork_begin,rfl,x,_,dx,_,_,rfl,o,T.cl_Fork,T.na_Fork_right,rfl,fun x' dx' hx hdx ne=>?_⟩
   exact jI hx hdx ne s hn (by omega) e60 ky kr (by omega) q
 · have h:¬ sd B key d=0:=by have h:¬ ((sd B key d:Nat):Int)=0:=h;omega
   rw [if_neg h] at q sz
   refine ⟨x,_,dx,_,_,rfl,o,T.cl_Fork,T.na_Fork_depth,rfl,x,_,dx,_,_,rfl,o,T.cl_Fork,T.na_Fork_begin,rfl,x,_,dx,_,_,rfl,o,T.cl_Fork,T.na_Fork_left,rfl,fun x' dx' hx hdx ne=>?_⟩
   exact jI hx hdx ne s hn (by omega) e60 kl ky (by omega) q
theorem mv {H H':Hp} {x dx b:Addr} {o u:HO} (hx:H x=none) (hdx:H dx=none) (ne:dx≠x) (k:gI b x (upd (upd H dx o) x u) H'):aT b H H':=fun z o zb e=>k z o zb (az e hx) (dc hx hdx ne _ _ e)
theorem GF (K:W.Frag) (A:Adr):Ln (mL K A) 5:=by rintro vs H Q E ⟨x,f,b,g,n,B,key,z,t,m,rfl,_⟩;rfl
theorem Eg (K:W.Frag) (A:Adr):Ln (jH K A) 5:=by rintro vs H Q E ⟨x,f,b,g,n,B,key,z,t,m,rfl,_⟩;rfl
theorem Dy (K:W.Frag) (A:Adr) (j:Nat):∀ vs H Q E,iA K A j vs H Q E→vs.length=5:=by rintro vs H Q E ⟨x,f,b,g,n,B,key,z,t,m,rfl,_⟩;rfl
theorem yS (K:W.Frag) (A:Adr):∀ vs H Q E,iA K A 0 vs H Q E→False:=by rintro vs H Q E ⟨x,f,b,g,n,B,key,z,t,m,rfl,_,_,_,_,_,_,h,_⟩;omega
theorem se {B key:Nat} (h:key<2^B) (hB:B≤60):key<2^60:=Nat.lt_of_lt_of_le h (Nat.pow_le_pow_right (by decide) hB)
theorem JZ (T:Txt K mg A):Rd (mL K A) (T_2 K A) ["self", "stamper", "bits", "key", "value"]:=by
 intro vs H Q E h
 obtain ⟨x,f,b,g,n,B,key,z,t,m,rfl,ks,e,hn,_,hk,hz,_,_,q⟩:=h
 cases (Kof.b (A:=A) ⟨ks.k,e⟩)
 intro x' dx' hx hdx ne
 exact zR hx hdx ne ks.s (by omega) (se hk ks.B60) hz (q.le (by show 1≤0+2;decide))
theorem KnQ.after {H H1:Hp} {f b:Addr} {g g1:gOp} {n c c1:Nat} {t:Kn Str} {Q:VK} (q:KnQ A H f b g n (c1+c) t Q) (kb:aT b H H1) (sub:Sub g g1):KnQ A H1 f b g1 (n+c1) c t Q:=fun y m g' H' kb' k s sub'=>q y m g' H' (kb.trans kb') k (s.same (by omega) au.rfl') (sub.trans sub')
theorem Hd (T:Txt K mg A):Rd (jH K A) (Ki K A) ["self", "stamper", "bits", "key", "value", "leaf"]:=by
 intro vs H Q E h
 obtain ⟨x,f,b,g,n,B,key,z,t,m,rfl,ks,e,hn,hr,hk,hz,_,_,q⟩:=h
 obtain ⟨kk,z',rfl⟩:=kd1 e
 have hkk:kk<2^B:=hr (kk,z') List.mem_cons_self
 intro y dx' hx hdx ne
 refine ⟨y,dx',f,b,g,n,key,z,rfl,aj,ks.s.same (Nat.le_refl _) (dc hx hdx ne),by omega,se hk ks.B60,hz,fun m' g1 H1 k2 ky s1 sub=>⟨rfl,?_⟩⟩
 have kb:=mv hx hdx ne k2
 have kx:=ks.k.kb ks.s kb sub
 obtain ⟨dy,p,oy⟩:∃ dy p,H1 x=some (.ins A.c_Leaf dy [("term",.ref p),("mark",kV m),("key",.int (kk:Int)),("text",.str z')]):=by cases kx with | leaf o _ _ _ _ _=>exact ⟨_,_,o⟩
 refine ⟨x,_,dy,_,_,rfl,oy,T.cl_Leaf,T.na_Leaf_key,rfl,Sel.dec (fun h=>?_) (fun h=>?_)⟩
 · have h:key=kk:=by have h:(key:Int)=(kk:Int):=h;omega
   have q:KnQ A H f b g n (0+2) (if key=kk then .leaf key z else dU B (al B key kk) key z (.leaf kk z')) Q:=q
   rw [if_pos h] at q
   exact q y m' g1 H1 kb ky (s1.same (by omega) au.rfl') sub
 · have h:¬ key=kk:=by have h:¬ (key:Int)=(kk:Int):=h;omega
   have q:KnQ A H f b g n (0+2) (if key=kk then .leaf key z else dU B (al B key kk) key z (.leaf kk z')) Q:=q
   rw [if_neg h] at q
   obtain ⟨a1,_,_⟩:=nZ hk hkk h
   refine ⟨x,_,dy,_,_,rfl,oy,T.cl_Leaf,T.na_Leaf_key,rfl,B,key,kk,al B key kk,rfl,hk,hkk,jm hk hkk,f,b,x,y,g1,n+1,B,al B key kk,key,z,.leaf kk z',m,m',rfl,⟨kx,s1,ks.B60,trivial,by show 1≤100;decide,by show 400≤80000;decide⟩,by omega,ky,a1,hk,?_⟩
   exact KnQ.after (c1:=1) (c:=1) q kb sub
theorem kh {j:Nat} {H:Hp} {Q:VK} {E:XK} {f b x:Addr} {g:gOp} {n B key:Nat} {z:Str} {t:Kn Str} {m:Key} (ks:KnS A H f b g n B x t m) (hn:n+hgt t+10≤45000) (hr:∀ p∈aG t,p.1<2^B) (hk:key<2^B) (hz:fb z) (hj:hgt t<j) (sz:szN t≤70000)
  (q:KnQ A H f b g n (hgt t+2) (bW B key z t) Q):
  ∃ a C dx fs sp,V.ref x=.ref a∧H a=some (.ins C dx fs)∧(C,sp)∈[(A.c_Bare,mL K A),(A.c_Leaf,jH K A),(A.c_Fork,iA K A j)]∧fs.lookup ("with_key" :Str)=none∧sp [.ref x,.ref f,.int (B:Int),.int (key:Int),.str z] H Q E:=
 xn "with_key" (.inr (.inr (.inl rfl))) ks.k (fun sp=>sp [.ref x,.ref f,.int (B:Int),.int (key:Int),.str z] H Q E) (fun e=>⟨x,f,b,g,n,B,key,z,t,m,rfl,ks,e,hn,hr,hk,hz,kdh e (by decide),sz,q⟩)
  (fun e=>⟨x,f,b,g,n,B,key,z,t,m,rfl,ks,e,hn,hr,hk,hz,kdh e (by decide),sz,q⟩) (fun e=>⟨x,f,b,g,n,B,key,z,t,m,rfl,ks,e,hn,hr,hk,hz,hj,sz,q⟩)
theorem KnS.side {H:Hp} {f b x y:Addr} {g:gOp} {n B d e:Nat} {tl tr t:Kn Str} {m m':Key} (h:KnS A H f b g n B x (.fork d e tl tr) m) (k:KnA A H g y t m') (ht:t=tl∨t=tr):KnS A H f b g n B y t m'∧szN t≤szN (.fork d e tl tr)∧hgt t+1≤hgt (.fork d e tl tr)∧∀ p∈aG t,p∈aG (.fork d e tl tr):=by
 have e1:szN (.fork d e tl tr)=300+szN tl+szN tr:=rfl
 have e2:(aG (.fork d e tl tr)).length=(aG tl).length+(aG tr).length:=List.length_append
 have e3:hgt (.fork d e tl tr)=max (hgt tl) (hgt tr)+1:=rfl
 have ln:=h.ln
 have sz:=h.sz
 rcases ht with rfl | rfl
 · exact ⟨⟨k,h.s,h.B60,h.dp.2.2.1,by omega,by omega⟩,by omega,by omega,fun p hp=>List.mem_append_left _ hp⟩
 · exact ⟨⟨k,h.s,h.B60,h.dp.2.2.2,by omega,by omega⟩,by omega,by omega,fun p hp=>List.mem_append_right _ hp⟩
theorem jh.keep {H H':Hp} {x:Addr} {d b:Nat} {l r:Addr} (h:jh A H x d b l r) (k:∀ z o,H z=some o→knO o→H' z=some o):jh A H' x d b l r:=by
 obtain ⟨dx,t,m,o⟩:=h
 exact ⟨dx,t,m,k _ _ o (.inr ⟨_,_,_,_,_,rfl⟩)⟩
theorem Fd (T:Txt K mg A) (j:Nat) (vs:List V) (H:Hp) (Q:VK) (E:XK) (h:iA K A (j+1) vs H Q E):KN K A j { nx:=fun _ H'=>Q .non H',rt:=Q } (L2.cp ["self", "stamper", "bits", "key", "value", "depth"] vs) H:=by
 obtain ⟨x,f,b,g,n,B,key,z,t,m,rfl,ks,e,hn,hr,hk,hz,hj,sz,q⟩:=h
 obtain ⟨d,bb,tl,tr,rfl⟩:=kd2 e
 obtain ⟨l,r,ml,mr,fk,kl,kr⟩:=ks.k.fk
 obtain ⟨dx,p,mm,o⟩:=id fk
 have dp:=ks.dp
 have B60:=ks.B60
 have b60:bb<2^60:=Nat.lt_of_lt_of_le dp.2.1 (Nat.pow_le_pow_right (by decide) (by have:=dp.1;omega))
 have q:KnQ A H f b g n (hgt (.fork d bb tl tr)+2) (if st B key d=bb then (if sd B key d=0 then .fork d bb (bW B key z tl) tr else .fork d bb tl (bW B key z tr)) else dU B (al d bb (st B key d)) key z (.fork d bb tl tr)) Q:=q
 refine ⟨x,dx,_,rfl,o,rfl,x,l,r,d,bb,B,key,rfl,fk,dp.1,?_⟩
 by_cases hb:st B key d=bb
 · rw [if_pos hb] at q
   rw [decide_eq_true hb]
   refine Sel.no rfl ⟨x,dx,_,rfl,o,rfl,x,dx,_,rfl,o,rfl,x,l,r,d,bb,B,key,rfl,fk,dp.1,?_⟩
   by_cases hs:sd B key d=0
   · rw [if_pos hs] at q ⊢
     obtain ⟨k1,k2,k3,k4⟩:=ks.side kl (.inl rfl)
     refine kh (j:=j) k1 (by omega) (fun p hp=>hr p (k4 p hp)) hk hz (by omega) (by omega) fun y m1 g1 H1 kb ky s1 sub=>?_
     have kn:=aT.kn ks.s kb
     have s2:=iR (B:=B) (key:=key) (z:=z) tl
     have s3:szN (.fork d bb tl tr)=300+szN tl+szN tr:=rfl
     refine ⟨x,f,b,l,r,y,g1,n+(hgt tl+2),B,d,bb,key,tl,tr,bW B key z tl,m1,ml,mr,rfl,fk.keep kn,kl.keep kn sub,kr.keep kn sub,ky,s1,by omega,dp.1,B60,b60,by rw [if_pos hs];omega,?_⟩
     rw [if_pos hs]
     exact KnQ.after (c1:=hgt tl+2) (c:=1) (q.le (by omega)) kb sub
   · rw [if_neg hs] at q ⊢
     obtain ⟨k1,k2,k3,k4⟩:=ks.side kr (.inr rfl)
     refine kh (j:=j) k1 (by omega) (fun p hp=>hr p (k4 p hp)) hk hz (by omega) (by omega) fun y m1 g1 H1 kb ky s1 sub=>?_
     have kn:=aT.kn ks.s kb
     have s2:=iR (B:=B) (key:=key) (z:=z) tr
     have s3:szN (.fork d bb tl tr)=300+szN tl+szN tr:=rfl
     refine ⟨x,f,b,l,r,y,g1,n+(hgt tr+2),B,d,bb,key,tl,tr,bW B key z tr,m1,ml,mr,rfl,fk.keep kn,kl.keep kn sub,kr.keep kn sub,ky,s1,by omega,dp.1,B60,b60,by rw [if_neg hs];omega,?_⟩
     rw [if_neg hs]
     exact KnQ.after (c1:=hgt tr+2) (c:=1) (q.le (by omega)) kb sub
 · rw [if_neg hb] at q
   rw [decide_eq_false hb]
   refine Sel.yes rfl ⟨x,_,dx,_,_,rfl,o,T.cl_Fork,T.na_Fork_depth,rfl,x,_,dx,_,_,rfl,o,T.cl_Fork,T.na_Fork_begin,rfl,x,_,dx,_,_,rfl,o,T.cl_Fork,T.na_Fork_depth,rfl,_,_,_,rfl,by have:=dp.1;omega,?_⟩
   rw [lU]
   have hst:st B key d<2^d:=by
     have e:2^B=2^d*2^(B - d):=by rw [← Nat.pow_add];congr 1;have:=dp.1;omega
     exact (Nat.div_lt_iff_lt_mul (Nat.two_pow_pos _)).mpr (by rw [← e];exact hk)
   obtain ⟨a1,_,_⟩:=nZ dp.2.1 hst (Ne.symm hb)
   refine ⟨d,bb,st B key d,al d bb (st B key d),rfl,dp.2.1,hst,jm dp.2.1 hst,fun y dy hy hdy ne=>?_⟩
   refine ⟨y,dy,f,b,g,n,key,z,rfl,aj,ks.s.same (Nat.le_refl _) (dc hy hdy ne),by omega,se hk B60,hz,fun m' g1 H1 k2 ky s1 sub=>⟨rfl,?_⟩⟩
   have kb:=mv hy hdy ne k2
   refine ⟨f,b,x,y,g1,n+1,B,al d bb (st B key d),key,z,.fork d bb tl tr,m,m',rfl,⟨ks.k.kb ks.s kb sub,s1,B60,dp,ks.ln,ks.sz⟩,by omega,ky,by have:=dp.1;omega,hk,?_⟩
   exact KnQ.after (c1:=1) (c:=1) (q.le (by omega)) kb sub
theorem Ic (K:W.Frag) (A:Adr):Ln (mB K A) 4:=by rintro vs H Q E ⟨x,f,b,g,n,B,key,t,m,rfl,_⟩;rfl
theorem Dk (K:W.Frag) (A:Adr):Ln (jO K A) 4:=by rintro vs H Q E ⟨x,f,b,g,n,B,key,t,m,rfl,_⟩;rfl
theorem Ep (K:W.Frag) (A:Adr) (j:Nat):∀ vs H Q E,iI K A j vs H Q E→vs.length=4:=by rintro vs H Q E ⟨x,f,b,g,n,B,key,t,m,rfl,_⟩;rfl
theorem yy (K:W.Frag) (A:Adr):∀ vs H Q E,iI K A 0 vs H Q E→False:=by rintro vs H Q E ⟨x,f,b,g,n,B,key,t,m,rfl,_,_,_,h,_⟩;omega
theorem JK (T:Txt K mg A):Rd (mB K A) (T_3 K A) ["self", "stamper", "bits", "key"]:=by
 intro vs H Q E h
 obtain ⟨x,f,b,g,n,B,key,t,m,rfl,ks,e,hn,hj,q⟩:=h
 cases (Kof.b (A:=A) ⟨ks.k,e⟩)
 exact q x m g H aT.rfl' ks.k (ks.s.same (by omega) au.rfl') Sub.rfl'
theorem IM (T:Txt K mg A):Rd (jO K A) (Jm K A) ["self", "stamper", "bits", "key"]:=by
 intro vs H Q E h
 obtain ⟨x,f,b,g,n,B,key,t,m,rfl,ks,e,hn,hj,q⟩:=h
 obtain ⟨kk,z',rfl⟩:=kd1 e
 obtain ⟨dy,p,oy⟩:∃ dy p,H x=some (.ins A.c_Leaf dy [("term",.ref p),("mark",kV m),("key",.int (kk:Int)),("text",.str z')]):=by cases ks.k with | leaf o _ _ _ _ _=>exact ⟨_,_,o⟩
 have q:KnQ A H f b g n (0+1) (if key=kk then .bare else .leaf kk z') Q:=q
 refine ⟨x,_,dy,_,_,rfl,oy,T.cl_Leaf,T.na_Leaf_key,rfl,Sel.dec (fun h=>?_) (fun h=>?_)⟩
 · have h:key=kk:=by have h:(key:Int)=(kk:Int):=h;omega
   rw [if_pos h] at q
   intro x' dx' hx hdx ne
   exact zP hx hdx ne ks.s (by omega) q
 · have h:¬ key=kk:=by have h:¬ (key:Int)=(kk:Int):=h;omega
   rw [if_neg h] at q
   exact q x m g H aT.rfl' ks.k (ks.s.same (by omega) au.rfl') Sub.rfl'
theorem gP {j:Nat} {H:Hp} {Q:VK} {E:XK} {f b x:Addr} {g:gOp} {n B key:Nat} {t:Kn Str} {m:Key} (ks:KnS A H f b g n B x t m) (hn:n+hgt t+10≤45000) (hj:hgt t<j) (q:KnQ A H f b g n (hgt t+1) (aL B key t) Q):
  ∃ a C dx fs sp,V.ref x=.ref a∧H a=some (.ins C dx fs)∧(C,sp)∈[(A.c_Bare,mB K A),(A.c_Leaf,jO K A),(A.c_Fork,iI K A j)]∧fs.lookup ("without" :Str)=none∧sp [.ref x,.ref f,.int (B:Int),.int (key:Int)] H Q E:=
 xn "without" (.inr (.inr (.inr rfl))) ks.k (fun sp=>sp [.ref x,.ref f,.int (B:Int),.int (key:Int)] H Q E) (fun e=>⟨x,f,b,g,n,B,key,t,m,rfl,ks,e,hn,kdh e (by decide),q⟩)
  (fun e=>⟨x,f,b,g,n,B,key,t,m,rfl,ks,e,hn,kdh e (by decide),q⟩) (fun e=>⟨x,f,b,g,n,B,key,t,m,rfl,ks,e,hn,hj,q⟩)
theorem uN {H:Hp} {g:gOp} {x:Addr} {t:Kn Str} {m:Key} (T:Txt K mg A) (k:KnA A H g x t m):∃ C dx fs,H x=some (.ins C dx fs)∧Cls K C∧jU K C∧W.kitOne K (.ref C) (.ref A.c_Bare)=some (decide (kdK t=0)):=by
 obtain ⟨dx,p,fs,o,_⟩:=k.ob
 cases t with
 | bare=>exact ⟨_,dx,_,o,T.cl_Bare,T.oi_Bare,T.ko_Bare_Bare⟩
 | leaf _ _=>exact ⟨_,dx,_,o,T.cl_Leaf,T.oi_Leaf,T.ko_Leaf_Bare⟩
 | fork _ _ _ _=>exact ⟨_,dx,_,o,T.cl_Fork,T.oi_Fork,T.ko_Fork_Bare⟩
theorem Hb (T:Txt K mg A) (j:Nat) (vs:List V) (H:Hp) (Q:VK) (E:XK) (h:iI K A (j+1) vs H Q E):JE K A j { nx:=fun _ H'=>Q .non H',rt:=Q } (L2.cp ["self", "stamper", "bits", "key", "rest"] vs) H:=by
 obtain ⟨x,f,b,g,n,B,key,t,m,rfl,ks,e,hn,hj,q⟩:=h
 obtain ⟨d,bb,tl,tr,rfl⟩:=kd2 e
 obtain ⟨l,r,ml,mr,fk,kl,kr⟩:=ks.k.fk
 obtain ⟨dx,p,mm,o⟩:=id fk
 have dp:=ks.dp
 have B60:=ks.B60
 have sz:=ks.sz
 have b60:bb<2^60:=Nat.lt_of_lt_of_le dp.2.1 (Nat.pow_le_pow_right (by decide) (by have:=dp.1;omega))
 have s3:szN (.fork d bb tl tr)=300+szN tl+szN tr:=rfl
 refine ⟨x,dx,_,rfl,o,rfl,x,l,r,d,bb,B,key,rfl,fk,dp.1,?_⟩
 by_cases hs:sd B key d=0
 · rw [if_pos hs]
   obtain ⟨k1,k2,k3,k4⟩:=ks.side kl (.inl rfl)
   refine gP (j:=j) k1 (by omega) (by omega) fun y m1 g1 H1 kb ky s1 sub=>?_
   have kn:=aT.kn ks.s kb
   have s2:=fF (B:=B) (key:=key) tl
   have fk1:=fk.keep kn
   obtain ⟨dx1,p1,mm1,o1⟩:=id fk1
   obtain ⟨C,dz,fz,oz,c1,c2,c3⟩:=uN T ky
   refine ⟨y,C,dz,fz,_,_,rfl,oz,c1,c2,c3,?_⟩
   rw [jq] at q
   rw [if_pos hs] at q
   by_cases hbr:kdK (aL B key tl)=0
   · rw [if_pos hbr] at q
     rw [decide_eq_true hbr]
     refine Sel.yes rfl ⟨x,dx1,_,rfl,o1,rfl,x,l,r,d,bb,B,key,rfl,fk1,dp.1,?_⟩
     rw [if_pos hs]
     exact q r mr g1 H1 kb (kr.keep kn sub) (s1.same (by omega) au.rfl') sub
   · rw [if_neg hbr] at q
     rw [decide_eq_false hbr]
     refine Sel.no rfl ⟨x,dx1,_,rfl,o1,rfl,x,f,b,l,r,y,g1,n+(hgt tl+1),B,d,bb,key,tl,tr,aL B key tl,m1,ml,mr,rfl,fk1,kl.keep kn sub,kr.keep kn sub,ky,s1,by omega,dp.1,B60,b60,by rw [if_pos hs];omega,?_⟩
     rw [if_pos hs]
     exact KnQ.after (c1:=hgt tl+1) (c:=1) (q.le (by omega)) kb sub
 · rw [if_neg hs]
   obtain ⟨k1,k2,k3,k4⟩:=ks.side kr (.inr rfl)
   refine gP (j:=j) k1 (by omega) (by omega) fun y m1 g1 H1 kb ky s1 sub=>?_
   have kn:=aT.kn ks.s kb
   have s2:=fF (B:=B) (key:=key) tr
   have fk1:=fk.keep kn
   obtain ⟨dx1,p1,mm1,o1⟩:=id fk1
   obtain ⟨C,dz,fz,oz,c1,c2,c3⟩:=uN T ky
   refine ⟨y,C,dz,fz,_,_,rfl,oz,c1,c2,c3,?_⟩
   rw [jq] at q
   rw [if_neg hs] at q
   by_cases hbr:kdK (aL B key tr)=0
   · rw [if_pos hbr] at q
     rw [decide_eq_true hbr]
     refine Sel.yes rfl ⟨x,dx1,_,rfl,o1,rfl,x,l,r,d,bb,B,key,rfl,fk1,dp.1,?_⟩
     rw [if_neg hs]
     exact q l ml g1 H1 kb (kl.keep kn sub) (s1.same (by omega) au.rfl') sub
   · rw [if_neg hbr] at q
     rw [decide_eq_false hbr]
     refine Sel.no rfl ⟨x,dx1,_,rfl,o1,rfl,x,f,b,l,r,y,g1,n+(hgt tr+1),B,d,bb,key,tl,tr,aL B key tr,m1,ml,mr,rfl,fk1,kl.keep kn sub,kr.keep kn sub,ky,s1,by omega,dp.1,B60,b60,by rw [if_neg hs];omega,?_⟩
     rw [if_neg hs]
     exact KnQ.after (c1:=hgt tr+1) (c:=1) (q.le (by omega)) kb sub
theorem jo {σ:L2.St} {H:Hp} {t:TA} {x:Addr} {nm:Str} {L:List (Addr×Sp)} {Q:VK} {E:XK} (vs:List V) (ht:∀ R:List V→Hp→Prop,R vs H→t σ H R) (h:∃ a C dx fs sp,V.ref x=.ref a∧H a=some (.ins C dx fs)∧(C,sp)∈L∧fs.lookup nm=none∧sp (.ref x::vs) H Q E):
  ∃ a C dx fs sp,V.ref x=.ref a∧H a=some (.ins C dx fs)∧(C,sp)∈L∧fs.lookup nm=none∧t σ H fun ws H2=>sp (.ref x::ws) H2 Q E:=by
 obtain ⟨a,C,dx,fs,sp,e,o,m,l,q⟩:=h
 exact ⟨a,C,dx,fs,sp,e,o,m,l,ht _ q⟩
theorem BG (K:W.Frag) (A:Adr):Ln (jM K A) 3:=by rintro vs H Q E ⟨x,dx,f,b,g,n,v,d,rfl,_⟩;rfl
theorem vL {d:Dat} (h:fB d=true):∃ B:Nat,d=.int (B:Int)∧1≤B∧B≤60:=by
 cases d <;> first | cases h | skip
 rename_i i
 have h:1≤i∧i≤60:=of_decide_eq_true h
 obtain ⟨y,hy⟩:=Int.eq_ofNat_of_zero_le (a:=i) (by omega)
 exact ⟨y,by rw [hy],by omega,by omega⟩
theorem Ac {B:Nat} {d:Dat} (h:dw (B:Int) d=true):∃ k:Nat,d=.int (k:Int)∧k<2^B:=by
 cases d <;> first | cases h | skip
 rename_i i
 have h:0≤i∧i<2^(B:Int).toNat:=of_decide_eq_true h
 obtain ⟨y,hy⟩:=Int.eq_ofNat_of_zero_le (a:=i) h.1
 refine ⟨y,by rw [hy],?_⟩
 have h2:=h.2
 rw [hy,show (B:Int).toNat=B by omega,←dY] at h2
 omega
theorem zS {d:Dat} (ok:okD d=true) (h:cN d=true):∃ z,d=.str z∧fb z:=by
 cases d <;> first | cases h | skip
 rename_i z
 exact ⟨z,rfl,(Bool.and_eq_true_iff.mp ok).1,of_decide_eq_true h⟩
theorem aY.int_inv {H:Hp} {v:V} {i:Int} (h:aY H v (.int i)):v=.int i:=by cases h;rfl
theorem aY.str_inv {H:Hp} {v:V} {z:Str} (h:aY H v (.str z)):v=.str z:=by cases h;rfl
theorem HJ (T : Txt K mg A) : Rd (jM K A) (Kq K A) ["self", "stamper", "bits"] := by
  intro vs H Q E h
  obtain ⟨x, dx, f, b, g, n, v, d, rfl, hx, hd, s, hn, qE, q⟩ := h
  refine ⟨v, d, rfl, hd, ?_⟩
  cases hb : fB d with
  | false => exact Sel.yes rfl (qE hb)
  | true =>
    obtain ⟨B, rfl, B1, B60⟩ := vL hb
    cases hd.int_inv
    have q := q B rfl B1 B60
    refine Sel.no rfl ⟨x, A.c_Table, dx, [], rfl, hx, T.cl_Table, T.na_Table_stamper, by decide, ?_⟩
    refine ⟨x, A.c_Table, dx, _, rfl, aj, T.cl_Table, T.na_Table_bits, by show 1 < 1000; decide, ?_⟩
    rw [eW]
    have e2 : cw "bits" (.int (B : Int)) (cw "stamper" (.ref f) []) = ([("stamper", .ref f), ("bits", .int (B : Int))] : List (Str × V)) := rfl
    rw [e2]
    have hx1 : upd H x (.ins A.c_Table dx [("stamper", .ref f), ("bits", .int (B : Int))]) x = some (.ins A.c_Table dx [("stamper", .ref f), ("bits", .int (B : Int))]) := aj
    have s1 : Stp A (upd H x (.ins A.c_Table dx [("stamper", .ref f), ("bits", .int (B : Int))])) f b g n := s.put (Nat.le_refl _) hx fun v z => nomatch z
    intro y dy hy hdy ne
    refine ⟨y, dy, f, b, g, n, rfl, aj, s1.same (Nat.le_refl _) (dc hy hdy ne), hn, fun m g1 H1 k2 ky s2 sub => ⟨rfl, ?_⟩⟩
    have kb := mv hy hdy ne k2
    have hx2 := kb _ _ (s1.nb hx1 fun _ z => nomatch z) hx1
    refine ⟨x, A.c_Table, dx, _, rfl, hx2, T.cl_Table, T.na_Table_top, by show 2 < 1000; decide, ?_⟩
    have e3 : cw "top" (.ref y) ([("stamper", .ref f), ("bits", .int (B : Int))] : List (Str × V)) = ([("stamper", .ref f), ("bits", .int (B : Int)), ("top", .ref y)] : List (Str × V)) := rfl
    rw [e3]
    have ky' : ∀ z u, H1 z = some u → knO u → upd H1 x (.ins A.c_Table dx [("stamper", .ref f), ("bits", .int (B : Int)), ("top", .ref y)]) z = some u := fun z u ez hu => by
      rw [ap (fun q => by subst q; rw [hx2] at ez; cases ez; exact hu.tab)]; exact ez
    refine q m g1 _ (fun z o zb zx e => by rw [ap zx]; exact kb z o zb (by rw [ap zx]; exact e)) ⟨⟨dx, y, aj, ky.keep ky' Sub.rfl'⟩, B1, B60, .inl rfl⟩ (s2.put (Nat.le_refl _) hx2 fun v z => ?_) sub
    injection z with z; injection z with z; exact absurd z (by decide)
theorem Dq (K:W.Frag) (A:Adr):Ln (kY K A) 2:=by rintro vs H Q E ⟨x,f,g,B,t,m,v,d,rfl,_⟩;rfl
theorem ER (T : Txt K mg A) : Rd (kY K A) (Jz K A) ["self", "key"] := by
  intro vs H Q E h
  obtain ⟨x, f, g, B, t, m, v, d, rfl, ta, hd, qE, q⟩ := h
  obtain ⟨dx, y, o, ky⟩ := ta.ob
  have B60 := ta.B60
  refine ⟨x, _, dx, _, _, rfl, o, T.cl_Table, T.na_Table_bits, rfl, (B : Int), v, d, rfl, by omega, by omega, hd, ?_⟩
  cases hb : dw (B : Int) d with
  | false => exact Sel.yes rfl (qE hb)
  | true =>
    obtain ⟨key, rfl, hk⟩ := Ac hb
    cases hd.int_inv
    refine Sel.no rfl ⟨x, _, dx, _, _, rfl, o, T.cl_Table, T.na_Table_top, rfl, ?_⟩
    exact jo [.int (B : Int), .int (key : Int)] (fun R r => ⟨x, _, dx, _, _, rfl, o, T.cl_Table, T.na_Table_bits, rfl, r⟩) (ji ky ta.wf.dp.1 (by have := ta.wf.dp.2; omega) (q key rfl hk))
theorem Bl (K:W.Frag) (A:Adr):Ln (gK K A) 1:=by rintro vs H Q E ⟨x,f,g,B,t,m,rfl,_⟩;rfl
theorem Fg (T:Txt K mg A):Rd (gK K A) (Kp K A) ["self"]:=by
 intro vs H Q E h
 obtain ⟨x,f,g,B,t,m,rfl,ta,q⟩:=h
 obtain ⟨dx,y,o,ky⟩:=ta.ob
 obtain ⟨dy,p,fs,oy,_⟩:=ky.ob
 exact ⟨x,_,dx,_,_,rfl,o,T.cl_Table,T.na_Table_top,rfl,y,_,dy,_,_,rfl,oy,(cQ T t).1,(cQ T t).2.1,rfl,q⟩
theorem Cq (K:W.Frag) (A:Adr):Ln (oh K A) 3:=by rintro vs H Q E ⟨x,f,b,g,n,B,t,m,v,w,d,e,rfl,_⟩;rfl
theorem TbA.top {H H1:Hp} {g g1:gOp} {x f b y:Addr} {B n n1:Nat} {t':Kn Str} {m':Key} {dx:Addr} {y0:Addr} (o:H x=some (.ins A.c_Table dx [("stamper",.ref f),("bits",.int (B:Int)),("top",.ref y0)])) (s:Stp A H f b g n) (kb:aT b H H1) (ky:KnA A H1 g1 y t' m') (s1:Stp A H1 f b g1 n1) (B1:1≤B) (B60:B≤60) (wf:WFo B t'):
  H1 x=some (.ins A.c_Table dx [("stamper",.ref f),("bits",.int (B:Int)),("top",.ref y0)])∧gI b x H (upd H1 x (.ins A.c_Table dx [("stamper",.ref f),("bits",.int (B:Int)),("top",.ref y)]))∧TbA A (upd H1 x (.ins A.c_Table dx [("stamper",.ref f),("bits",.int (B:Int)),("top",.ref y)])) g1 x f B t' m'∧Stp A (upd H1 x (.ins A.c_Table dx [("stamper",.ref f),("bits",.int (B:Int)),("top",.ref y)])) f b g1 n1:=by
 have hx2:=kb _ _ (s.nb o fun _ z=>nomatch z) o
 have ky':∀ z u,H1 z=some u→knO u→upd H1 x (.ins A.c_Table dx [("stamper",.ref f),("bits",.int (B:Int)),("top",.ref y)]) z=some u:=fun z u ez hu=>by
  rw [ap (fun q=>by subst q;rw [hx2] at ez;cases ez;exact hu.tab)];exact ez
 refine ⟨hx2,fun z o zb zx e=>by rw [ap zx];exact kb z o zb e,⟨⟨dx,y,aj,ky.keep ky' Sub.rfl'⟩,B1,B60,wf⟩,s1.put (Nat.le_refl _) hx2 fun v z=>?_⟩
 injection z with z;injection z with z;exact absurd z (by decide)
theorem TbS.kn {H:Hp} {x f b:Addr} {g:gOp} {n B:Nat} {t:Kn Str} {m:Key} (h:TbS A H x f b g n B t m):∃ dx y,H x=some (.ins A.c_Table dx [("stamper",.ref f),("bits",.int (B:Int)),("top",.ref y)])∧KnS A H f b g n B y t m∧szN t≤70000∧hgt t≤60:=by
 obtain ⟨dx,y,o,ky⟩:=h.ta.ob
 have ln:=h.ln
 have sz:=h.ta.wf.szN
 have dp:=h.ta.wf.dp
 have B60:=h.ta.B60
 exact ⟨dx,y,o,⟨ky,h.s,B60,dp.1,by omega,by omega⟩,by omega,by omega⟩
theorem Hi (T : Txt K mg A) : Rd (oh K A) (KG K A) ["self", "key", "value", "before"] := by
  intro vs H Q E h
  obtain ⟨x, f, b, g, n, B, t, m, v, w, d, e, rfl, ts, hn, hd, he, ok, qE, q⟩ := h
  obtain ⟨dx, y, o, ks, sz, hg⟩ := ts.kn
  refine ⟨x, dx, _, rfl, o, rfl, x, f, g, B, t, m, v, d, rfl, ts.ta, hd, qE, fun key ed hk => ?_⟩
  obtain ⟨qV, qz⟩ := q key ed hk
  refine ⟨w, e, rfl, he, ok, ?_⟩
  cases hv : cN e with
  | false => exact Sel.yes rfl (qV hv)
  | true =>
    obtain ⟨z, rfl, hz⟩ := zS ok hv
    cases he.str_inv
    subst ed
    cases hd.int_inv
    refine Sel.no rfl ⟨x, _, dx, _, _, rfl, o, T.cl_Table, T.na_Table_top, rfl, ?_⟩
    refine jo [.ref f, .int (B : Int), .int (key : Int), .str z] (fun R r => ⟨x, _, dx, _, _, rfl, o, T.cl_Table, T.na_Table_stamper, rfl, x, _, dx, _, _, rfl, o, T.cl_Table, T.na_Table_bits, rfl, r⟩)
      (kh ks (by omega) ts.ta.wf.lt hk hz (by omega) sz fun y' m' g1 H1 kb ky s1 sub => ?_)
    obtain ⟨hx2, k2, ta2, s2⟩ := TbA.top o ts.s kb ky s1 ts.ta.B1 ts.ta.B60 (ts.ta.wf.with hk).1
    exact ⟨x, A.c_Table, dx, _, rfl, hx2, T.cl_Table, T.na_Table_top, by show 3 < 1000; decide, qz z rfl hz m' g1 _ k2 ta2 (s2.same (by omega) au.rfl') sub⟩
theorem DR (K:W.Frag) (A:Adr):Ln (nO K A) 2:=by rintro vs H Q E ⟨x,f,b,g,n,B,t,m,v,d,rfl,_⟩;rfl
theorem GV (T : Txt K mg A) : Rd (nO K A) (KQ K A) ["self", "key", "before"] := by
  intro vs H Q E h
  obtain ⟨x, f, b, g, n, B, t, m, v, d, rfl, ts, hn, hd, qE, q⟩ := h
  obtain ⟨dx, y, o, ks, sz, hg⟩ := ts.kn
  refine ⟨x, dx, _, rfl, o, rfl, x, f, g, B, t, m, v, d, rfl, ts.ta, hd, qE, fun key ed hk => ?_⟩
  obtain ⟨qM, qz⟩ := q key ed hk
  subst ed
  cases hd.int_inv
  cases hf : aD B key t with
  | none => exact Sel.yes rfl (qM hf)
  | some z =>
    refine Sel.no rfl ⟨x, _, dx, _, _, rfl, o, T.cl_Table, T.na_Table_top, rfl, ?_⟩
    refine jo [.ref f, .int (B : Int), .int (key : Int)] (fun R r => ⟨x, _, dx, _, _, rfl, o, T.cl_Table, T.na_Table_stamper, rfl, x, _, dx, _, _, rfl, o, T.cl_Table, T.na_Table_bits, rfl, r⟩)
      (gP ks (by omega) (by omega) fun y' m' g1 H1 kb ky s1 sub => ?_)
    obtain ⟨hx2, k2, ta2, s2⟩ := TbA.top o ts.s kb ky s1 ts.ta.B1 ts.ta.B60 ts.ta.wf.without.1
    exact ⟨x, A.c_Table, dx, _, rfl, hx2, T.cl_Table, T.na_Table_top, by show 3 < 1000; decide, qz z hf m' g1 _ k2 ta2 (s2.same (by omega) au.rfl') sub⟩
theorem TbS.ob {H:Hp} {x f b:Addr} {g:gOp} {n B:Nat} {t:Kn Str} {m:Key} (h:TbS A H x f b g n B t m):∃ dx y,H x=some (.ins A.c_Table dx [("stamper",.ref f),("bits",.int (B:Int)),("top",.ref y)]):=let ⟨dx,y,o,_⟩:=h.ta.ob;⟨dx,y,o⟩
theorem qy {B key:Nat} (h:key<2^B):dw (B:Int) (.int (key:Int))=true:=by
 refine decide_eq_true ⟨by omega,?_⟩
 rw [show (B:Int).toNat=B by omega,←dY];omega
theorem zO {z:Str} (h:fb z):cN (.str z)=true:=decide_eq_true h.2
theorem rc (kn:List (Nat×Str)):dOf kn=io (kn.map fun p=>((p.1:Int),V.str p.2)):=by
 unfold dOf io;rw [List.map_map];rfl
theorem ft {k : Nat} {z : Str} : ∀ {l : List (Nat × Str)}, (l.map (·.1)).Nodup → (look k l = some z ↔ (k, z) ∈ l)
  | [], _ => by constructor <;> intro h <;> cases h
  | (a, b) :: l, nd => by
    have nd' := List.nodup_cons.mp nd
    unfold look
    by_cases e : k = a
    · rw [if_pos e]
      constructor
      · intro h; cases h; rw [e]; exact List.mem_cons_self
      · intro h
        rcases List.mem_cons.mp h with h | h
        · cases h; rfl
        · exact absurd (List.mem_map.mpr ⟨_, h, rfl⟩) (by rw [e]; exact nd'.1)
    · rw [if_neg e, ft nd'.2]
      constructor
      · intro h; exact List.mem_cons_of_mem _ h
      · intro h
        rcases List.mem_cons.mp h with h | h
        · cases h; exact absurd rfl e
        · exact h
theorem Kno.sorted {B : Nat} {kn rs : List (Nat × Str)} {t : Kn Str} (h : Kno B kn t) (wf : WFo B t) (pm : rs.Perm kn) (up : fJ rs) : rs = aG t := by
  refine uw up wf.up.1 fun k => ?_
  rw [← wf.up.2, ← h.eq]
  have nd : (rs.map (·.1)).Nodup := (pm.map (·.1)).nodup_iff.mpr h.nd
  have key : ∀ z, look k rs = some z ↔ look k kn = some z := fun z => by rw [ft nd, ft h.nd, pm.mem_iff]
  cases e : look k kn with
  | none =>
    cases e2 : look k rs with
    | none => rfl
    | some z => rw [(key z).mp e2] at e; cases e
  | some z => exact (key z).mpr e
def fR (p:Nat×Str):Int×V:=((p.1:Int),V.str p.2)
theorem rY (a k:Nat):decide ((Sum.inl (a:Int):Key)=Sum.inl (k:Int))=decide (k=a):=by
 by_cases h:k=a
 · rw [h,decide_eq_true rfl,decide_eq_true rfl]
 · rw [decide_eq_false h,decide_eq_false fun z=>h (by have:=Sum.inl.inj z;omega)]
theorem rg (kn : List (Nat × Str)) (k : Nat) : bD (dOf kn) (.inl (k : Int)) = (look k kn).map V.str := by
  unfold bD dOf
  induction kn with
  | nil => rfl
  | cons p kn ih =>
    rw [List.map_cons, List.find?_cons, rY]
    unfold look
    by_cases h : k = p.1
    · rw [decide_eq_true h, if_pos h]; rfl
    · rw [decide_eq_false h, if_neg h]; exact ih
def gR (kn:List (Nat×Str)) (k:Nat) (z:Str):List (Nat×Str):=if (kn.any fun p=>decide (k=p.1))=true then kn.map (fun p=>if k=p.1 then (p.1,z) else p) else kn++[(k,z)]
theorem AQ (kn:List (Nat×Str)) (k:Nat) (z:Str):cC (dOf kn) (.inl (k:Int)) (.str z)=dOf (gR kn k z):=by
 unfold cC gR dOf
 have e1:((kn.map fun p=>((Sum.inl (p.1:Int):Key),V.str p.2)).any fun kv=>decide (kv.1=Sum.inl (k:Int)))=kn.any fun p=>decide (k=p.1):=by
   rw [List.any_map];congr 1;funext p;exact rY p.1 k
 rw [e1]
 by_cases h:(kn.any fun p=>decide (k=p.1))=true
 · rw [if_pos h,if_pos h,List.map_map,List.map_map]
   refine List.map_congr_left fun p _=>?_
   have d:=rY p.1 k
   show (if (Sum.inl (p.1:Int):Key)=Sum.inl (k:Int) then _ else _)=_
   by_cases hk:k=p.1
   · rw [if_pos (by rw [hk])];show _=((Sum.inl ((if k=p.1 then (p.1,z) else p).1:Int):Key),V.str (if k=p.1 then (p.1,z) else p).2);rw [if_pos hk]
   · rw [if_neg fun q=>hk (by have:=Sum.inl.inj q;omega)];show _=((Sum.inl ((if k=p.1 then (p.1,z) else p).1:Int):Key),V.str (if k=p.1 then (p.1,z) else p).2);rw [if_neg hk]
 · rw [if_neg h,if_neg h,List.map_append];rfl
theorem pd {k : Nat} {z : Str} : ∀ (kn : List (Nat × Str)) (k' : Nat), look k' (kn.map fun p => if k = p.1 then (p.1, z) else p) = if k' = k then (look k kn).map fun _ => z else look k' kn
  | [], k' => by show none = _; split <;> rfl
  | p :: kn, k' => by
    have ih := pd (k := k) (z := z) kn k'
    obtain ⟨a, y⟩ := p
    rw [List.map_cons]
    by_cases h : k = a
    · subst h
      rw [if_pos rfl]
      show (if k' = k then some z else look k' _) = _
      by_cases h2 : k' = k
      · rw [if_pos h2, if_pos h2]; show _ = Option.map _ (if k = k then some y else _); rw [if_pos rfl]; rfl
      · rw [if_neg h2, if_neg h2, ih, if_neg h2]; show _ = if k' = k then some y else _; rw [if_neg h2]
    · rw [if_neg h]
      show (if k' = a then some y else look k' _) = _
      by_cases h2 : k' = a
      · subst h2
        rw [if_pos rfl, if_neg (Ne.symm h)]; show _ = if k' = k' then some y else _; rw [if_pos rfl]
      · rw [if_neg h2, ih]
        show _ = if k' = k then Option.map _ (if k = a then some y else look k kn) else if k' = a then some y else look k' kn
        rw [if_neg h, if_neg h2]
theorem uF {k : Nat} {kn : List (Nat × Str)} : (kn.any fun p => decide (k = p.1)) = (look k kn).isSome := by
  induction kn with
  | nil => rfl
  | cons p kn ih =>
    rw [List.any_cons, ih]
    show _ = (if k = p.1 then some p.2 else look k kn).isSome
    by_cases h : k = p.1
    · rw [decide_eq_true h, if_pos h]; rfl
    · rw [decide_eq_false h, if_neg h, Bool.false_or]
theorem xN (kn:List (Nat×Str)) (k:Nat) (z:Str) (k':Nat):look k' (gR kn k z)=if k'=k then some z else look k' kn:=by
 unfold gR
 rw [uF]
 by_cases h:(look k kn).isSome=true
 · rw [if_pos h,pd]
   split
   · obtain ⟨y,hy⟩:=Option.isSome_iff_exists.mp h;rw [hy];rfl
   · rfl
 · rw [if_neg h,jW]
   by_cases h2:k'=k
   · rw [if_pos h2,h2]
     have:look k kn=none:=by cases e:look k kn <;> first | rfl | (rw [e] at h;exact absurd rfl h)
     rw [this];show (if k=k then some z else none)=_;rw [if_pos rfl]
   · rw [if_neg h2];show (look k' kn).or (if k'=k then some z else none)=_;rw [if_neg h2,Option.or_none]
theorem qC {kn:List (Nat×Str)} {k:Nat} {z:Str} (h:(kn.map (·.1)).Nodup):((gR kn k z).map (·.1)).Nodup∧(gR kn k z).length≤kn.length+1:=by
 unfold gR
 by_cases hk:(kn.any fun p=>decide (k=p.1))=true
 · rw [if_pos hk,List.map_map,List.length_map]
   have e:(kn.map ((fun p:Nat×Str=>p.1)∘fun p=>if k=p.1 then (p.1,z) else p))=kn.map (·.1):=List.map_congr_left fun p _=>by show (if k=p.1 then (p.1,z) else p).1=p.1;split <;> rfl
   rw [e];exact ⟨h,Nat.le_succ _⟩
 · rw [if_neg hk,List.map_append,List.length_append]
   refine ⟨List.nodup_append.mpr ⟨h,List.pairwise_singleton _ _,fun a ha b hb e=>?_⟩,Nat.le_refl _⟩
   have e:a=k:=by rw [List.mem_singleton.mp hb] at e;exact e
   obtain ⟨p,hp,e2⟩:=List.mem_map.mp ha
   exact hk (List.any_eq_true.mpr ⟨p,hp,decide_eq_true (by rw [← e];exact e2.symm)⟩)
theorem Kno.put {B:Nat} {kn:List (Nat×Str)} {t:Kn Str} {key:Nat} {z:Str} (h:Kno B kn t) (wf:WFo B t) (hk:key<2^B) (ln:kn.length<63):Kno B (gR kn key z) (bW B key z t):=by
 obtain ⟨a,b⟩:=qC (k:=key) (z:=z) h.nd
 exact ⟨a,by omega,fun k=>by rw [xN,(wf.with hk).2,h.eq]⟩
theorem Iw {z:Str} (h:fb z):okD (.str z)=true:=by
 show (bI z&&decide (z.length≤100000))=true
 rw [h.1,decide_eq_true (by have:=h.2;omega)];rfl
def lsO (o:HO):Prop:=(∃ xs,o=.lst xs)∨∃ ob u,o=.frz ob u
def KL (H H':Hp):Prop:=∀ z o,H z=some o→lsO o→H' z=some o
theorem TbS.dk {H:Hp} {x f b kd:Addr} {g:gOp} {n B:Nat} {t:Kn Str} {m:Key} {kvs kvs':List (Key×V)} (h:TbS A H x f b g n B t m) (e:H kd=some (.dK kvs)):TbS A (upd H kd (.dK kvs')) x f b g n B t m:=by
 have kx:∀ z o,H z=some o→(∀ kvs,o≠ .dK kvs)→upd H kd (.dK kvs') z=some o:=fun z o ez n=>by rw [ap (cf ez e (n _))];exact ez
 obtain ⟨dx,y,o,ky⟩:=h.ta.ob
 refine ⟨⟨⟨dx,y,kx _ _ o (fun _ z=>nomatch z),ky.keep (fun z u e hu=>kx z u e fun ps q=>by subst q;rcases hu with ⟨_,q⟩ | ⟨_,_,_,_,_,q⟩ <;> exact nomatch q) Sub.rfl'⟩,h.ta.B1,h.ta.B60,h.ta.wf⟩,h.s.keep (Nat.le_refl _) (fun z u e hu=>kx z u e fun ps q=>?_),h.ln⟩
 subst q
 rcases hu with ⟨_,q⟩ | ⟨_,_,q⟩ | ⟨_,_,_,q⟩ <;> cases q
theorem Kno.perm {B:Nat} {kn:List (Nat×Str)} {t:Kn Str} (h:Kno B kn t) (wf:WFo B t):(aG t).Perm kn:=by
 have pm:=List.mergeSort_perm kn (fun a b=>decide (a.1≤b.1))
 have so:=List.pairwise_mergeSort (le:=fun (a b:Nat×Str)=>decide (a.1≤b.1)) (fun a b c h1 h2=>by simp only [decide_eq_true_eq] at *;omega) (fun a b=>by simp only [Bool.or_eq_true,decide_eq_true_eq];omega) kn
 have nd:((kn.mergeSort (fun a b=>decide (a.1≤b.1))).map (·.1)).Nodup:=(pm.map (·.1)).nodup_iff.mpr h.nd
 have nd2:=List.pairwise_map.mp nd
 have up:fJ (kn.mergeSort (fun a b=>decide (a.1≤b.1))):=(so.and nd2).imp fun {a b} z=>by
  have z1:=of_decide_eq_true z.1
  have z2:=z.2
  omega
 rw [← h.sorted wf pm up];exact pm
theorem Kno.len {B:Nat} {kn:List (Nat×Str)} {t:Kn Str} (h:Kno B kn t) (wf:WFo B t):(aG t).length=kn.length:=(h.perm wf).length_eq
theorem Kno.keys {B:Nat} {kn:List (Nat×Str)} {t:Kn Str} (h:Kno B kn t) (wf:WFo B t):GM B kn:=fun p hp=>wf.lt p ((h.perm wf).mem_iff.mpr hp)
theorem xC {B:Nat} (h1:1≤B) (h2:B≤60):fB (.int (B:Int))=true:=decide_eq_true ⟨by omega,by omega⟩
theorem oZ {H:Hp} {x dx f b:Addr} {g:gOp} {n B:Nat} {Q:VK} {E:XK} (hx:H x=none) (hdx:H dx=none) (ne:dx≠x) (s:Stp A H f b g n) (hn:n≤45000) (B1:1≤B) (B60:B≤60) (q:∀ (m:Key) (g':gOp) (H':Hp),aT b H H'→TbA A H' g' x f B .bare m→Stp A H' f b g' (n+1)→Sub g g'→Q .non H'):
   jM K A [.ref x,.ref f,.int (B:Int)] (upd (upd H dx (.own x)) x (.ins A.c_Table dx [])) Q E:=by
 have S1:=dc (o:=.own x) (u:=.ins A.c_Table dx []) hx hdx ne
 refine ⟨x,dx,f,b,g,n,_,.int (B:Int),rfl,aj,.int _,s.same (Nat.le_refl _) S1,hn,fun h=>?_,fun B' eB _ _ m g2 H2 k2 ta2 s2 sub2=>?_⟩
 · rw [xC B1 B60] at h;cases h
 · have:B'=B:=by have:=Dat.int.inj eB;omega
   subst this
   exact q m g2 H2 (fun z o zb e=>k2 z o zb (az e hx) (S1 _ _ e)) ta2 s2 sub2
def iw (kn:List (Nat×Str)) (k:Nat):List (Nat×Str):=kn.filter fun p=>decide (k≠p.1)
theorem wI (kn:List (Nat×Str)) (k:Nat):iD (dOf kn) (.inl (k:Int))=dOf (iw kn k):=by
 unfold iD iw dOf
 rw [List.filter_map]
 congr 1
 refine List.filter_congr fun p _=>?_
 show decide ((Sum.inl (p.1:Int):Key)≠Sum.inl (k:Int))=_
 exact decide_eq_decide.mpr ⟨fun z w=>z (by rw [w]),fun z w=>z (by have:=Sum.inl.inj w;omega)⟩
theorem uC (kn : List (Nat × Str)) (k k' : Nat) : look k' (iw kn k) = if k' = k then none else look k' kn := by
  unfold iw
  induction kn with
  | nil => show none = _; split <;> rfl
  | cons p kn ih =>
    obtain ⟨a, z⟩ := p
    rw [List.filter_cons]
    by_cases h : k = a
    · subst h
      rw [if_neg (by simp), ih]
      by_cases h2 : k' = k
      · rw [if_pos h2, if_pos h2]
      · rw [if_neg h2, if_neg h2]; show _ = if k' = k then some z else _; rw [if_neg h2]
    · rw [if_pos (decide_eq_true h)]
      show (if k' = a then some z else look k' _) = if k' = k then none else if k' = a then some z else look k' kn
      rw [ih]
      by_cases h2 : k' = a
      · rw [if_pos h2, if_pos h2, if_neg (fun q => h (by rw [← q, h2]))]
      · rw [if_neg h2, if_neg h2]
theorem Kno.drop {B:Nat} {kn:List (Nat×Str)} {t:Kn Str} {key:Nat} (h:Kno B kn t) (wf:WFo B t):Kno B (iw kn key) (aL B key t)∧(iw kn key).length≤kn.length:=by
 have l:=List.length_filter_le (fun p:Nat×Str=>decide (key≠p.1)) kn
 refine ⟨⟨((List.filter_sublist (p:=fun p:Nat×Str=>decide (key≠p.1)) (l:=kn)).map Prod.fst).nodup h.nd,Nat.le_trans l h.ln,fun k=>?_⟩,l⟩
 rw [uC,wf.without.2,h.eq]
theorem TK.ts {H:Hp} {x f kd b:Addr} {g:gOp} {B n:Nat} {t:Kn Str} {m:Key} {kn:List (Nat×Str)} (h:TK A H x f kd g B t m kn) (s:Stp A H f b g n):TbS A H x f b g n B t m:=⟨h.ta,s,by rw [h.kno.len h.ta.wf];have:=h.kno.ln;omega⟩
theorem TK.dg {H:Hp} {x f kd:Addr} {g:gOp} {B:Nat} {t:Kn Str} {m:Key} {kn:List (Nat×Str)} (h:TK A H x f kd g B t m kn) (key:Nat):eJ H kd (.int (key:Int)) ((aD B key t).map V.str):=by
 rw [← h.kno.eq,←rg];exact eJ.k (k:=.inl (key:Int)) h.hk
theorem TK.ne {H:Hp} {x f kd b:Addr} {g g':gOp} {B n:Nat} {t:Kn Str} {m:Key} {kn:List (Nat×Str)} (h:TK A H x f kd g B t m kn) (s:Stp A H f b g' n):kd≠b∧kd≠x:=by
 obtain ⟨dx,y,o,_⟩:=h.ta.ob
 exact ⟨s.nb h.hk (fun _ z=>nomatch z),cf h.hk o (fun z=>nomatch z)⟩
theorem DL {H:Hp} {kd:Addr} {kvs:List (Key×V)} (h:H kd=some (.dK kvs)):tyV K "dict" (.ref kd) H:=.inr (.inr (.inl ⟨rfl,.inl ⟨_,h⟩⟩))
theorem TK.same {H H':Hp} {x f kd:Addr} {g:gOp} {B:Nat} {t:Kn Str} {m:Key} {kn:List (Nat×Str)} (h:TK A H x f kd g B t m kn) (S:au H H'):TK A H' x f kd g B t m kn:=by
 obtain ⟨dx,y,o,ky⟩:=h.ta.ob
 exact ⟨⟨⟨dx,y,S _ _ o,ky.same S⟩,h.ta.B1,h.ta.B60,h.ta.wf⟩,S _ _ h.hk,h.kno⟩
theorem ue {i:Nat} {σ:L2.St} {H:Hp} {Q:VK} {v:V} (h:σ[i]?=some (some v)) (q:Q v H):ac i σ H Q:=by
 unfold ac;rw [h];exact q
theorem TbA.same {H H':Hp} {g:gOp} {x f:Addr} {B:Nat} {t:Kn Str} {m:Key} (h:TbA A H g x f B t m) (S:au H H'):TbA A H' g x f B t m:=by
 obtain ⟨dx,y,o,ky⟩:=h.ob
 exact ⟨⟨dx,y,S _ _ o,ky.same S⟩,h.B1,h.B60,h.wf⟩
theorem TbA.keep {H H':Hp} {g g':gOp} {x f:Addr} {B:Nat} {t:Kn Str} {m:Key} (h:TbA A H g x f B t m) (kx:∀ o,H x=some o→H' x=some o) (k:∀ z o,H z=some o→knO o→H' z=some o) (sub:Sub g g'):TbA A H' g' x f B t m:=by
 obtain ⟨dx,y,o,ky⟩:=h.ob
 exact ⟨⟨dx,y,kx _ o,ky.keep k sub⟩,h.B1,h.B60,h.wf⟩
theorem TbA.kb {H H':Hp} {g g' g0:gOp} {x f b:Addr} {B n:Nat} {t:Kn Str} {m:Key} (h:TbA A H g x f B t m) (s:Stp A H f b g0 n) (kb:aT b H H') (sub:Sub g g'):TbA A H' g' x f B t m:=by
 obtain ⟨dx,y,o,ky⟩:=h.ob
 exact h.keep (fun u e=>kb _ _ (s.nb o fun _ z=>nomatch z) e) (fun z u e hu=>kb z u (s.nb e (fun _ q=>(by subst q;exact hu.dT)) fun _ q=>(by subst q;exact hu.ext)) e) sub
theorem Ew (K:W.Frag) (A:Adr):Ln (lf K A) 1:=by rintro vs H Q E ⟨x,f,b,g,n,B,t,m,rfl,_⟩;rfl
theorem Ha (T:Txt K mg A):Rd (lf K A) (JT K A) ["self", "other"]:=by
 intro vs H Q E h
 obtain ⟨x,f,b,g,n,B,t,m,rfl,ts,hn,q⟩:=h
 obtain ⟨dx,y0,o,k0⟩:=ts.ta.ob
 refine ⟨x,_,dx,_,_,rfl,o,T.cl_Table,T.na_Table_stamper,rfl,x,_,dx,_,_,rfl,o,T.cl_Table,T.na_Table_bits,rfl,fun y dy hy hdy ne=>?_⟩
 refine oZ hy hdy ne ts.s hn ts.ta.B1 ts.ta.B60 fun m2 g2 H2 kb ta2 s2 sub=>⟨rfl,?_⟩
 have hx2:=kb _ _ (ts.s.nb o fun _ z=>nomatch z) o
 have k2:KnA A H2 g2 y0 t m:=k0.kb ts.s kb sub
 obtain ⟨dy2,y2,oy,_⟩:=ta2.ob
 obtain ⟨_,k3,ta3,s3⟩:=TbA.top oy s2 aT.rfl' k2 s2 ts.ta.B1 ts.ta.B60 ts.ta.wf
 have xy:x≠y:=az o hy
 refine ⟨x,_,dx,_,_,rfl,hx2,T.cl_Table,T.na_Table_top,rfl,y,A.c_Table,dy2,_,rfl,oy,T.cl_Table,T.na_Table_top,by show 3<1000;decide,?_⟩
 have k3':KnA A _ g2 y0 t m:=k2.keep (fun z u e hu=>k3 z u (s2.nb e (fun _ q=>(by subst q;exact hu.dT)) fun _ q=>(by subst q;exact hu.ext)) (fun q=>by subst q;rw [oy] at e;cases e;exact hu.tab) e) Sub.rfl'
 refine q y g2 _ (fun z u zb e=>k3 z u zb (az e hy) (kb z u zb e)) hy ⟨⟨⟨dx,y0,k3 _ _ (s2.nb hx2 fun _ z=>nomatch z) xy hx2,k3'⟩,ts.ta.B1,ts.ta.B60,ts.ta.wf⟩,s3,ts.ln⟩ ta3 sub
theorem TK.kb {H H':Hp} {x f kd b:Addr} {g g':gOp} {B n:Nat} {t:Kn Str} {m:Key} {kn:List (Nat×Str)} (h:TK A H x f kd g B t m kn) (s:Stp A H f b g n) (kb:aT b H H') (sub:Sub g g'):TK A H' x f kd g' B t m kn:=⟨h.ta.kb s kb sub,kb _ _ (h.ne s).1 h.hk,h.kno⟩
theorem KnA.ext {H:Hp} {g:gOp} {x:Addr} {t:Kn Str} {m:Key} (k:KnA A H g x t m) {h:List Key→Key} (he:Ext g h):m=h (cZ h t):=by
 induction k with
 | bare o ht hm ok sz=>exact (he _ _ hm).symm
 | leaf o ht hm ok sz hz=>exact (he _ _ hm).symm
 | fork o hl hr ht hm ok sz ih1 ih2=>show _=h (fkT _ _ (h (cZ h _)) (h (cZ h _)));rw [← ih1,←ih2];exact (he _ _ hm).symm
def rF (h:List Key→Key):Kn Str→Prop
 | .bare=>True
 | .leaf _ z=>fb z
 | .fork _ _ l r=>(okP (h (cZ h l))=true∧szK (h (cZ h l))≤szN l)∧(okP (h (cZ h r))=true∧szK (h (cZ h r))≤szN r)∧rF h l∧rF h r
theorem KnA.mk {H : Hp} {g : List Key → Option Key} {x : Addr} {t : Kn Str} {m : Key} (k : KnA A H g x t m) {h : List Key → Key} (he : Ext g h) : rF h t := by
  induction k with
  | bare o ht hm ok sz => trivial
  | leaf o ht hm ok sz hz => exact hz
  | fork o hl hr ht hm ok sz ih1 ih2 =>
    have e1 := hl.ext he
    have e2 := hr.ext he
    exact ⟨by rw [← e1]; exact hl.ok, by rw [← e2]; exact hr.ok, ih1, ih2⟩
theorem Dh {H:Hp} {g:gOp} {x:Addr} {t:Kn Str} {m:Key} (T:Txt K mg A) (k:KnA A H g x t m):∃ C dx fs,H x=some (.ins C dx fs)∧Cls K C∧jU K C∧W.kitOne K (.ref C) (.ref A.c_Fork)=some (decide (kdK t=2)):=by
 obtain ⟨dx,p,fs,o,_⟩:=k.ob
 cases t with
 | bare=>exact ⟨_,dx,_,o,T.cl_Bare,T.oi_Bare,T.ko_Bare_Fork⟩
 | leaf _ _=>exact ⟨_,dx,_,o,T.cl_Leaf,T.oi_Leaf,T.ko_Leaf_Fork⟩
 | fork _ _ _ _=>exact ⟨_,dx,_,o,T.cl_Fork,T.oi_Fork,T.ko_Fork_Fork⟩
theorem KnA.term {H:Hp} {g:gOp} {x:Addr} {t:Kn Str} {m:Key} (k:KnA A H g x t m) {h:List Key→Key} (he:Ext g h):∃ dx p fs,H x=some (.ins (clK A t) dx ((("term" :Str),.ref p)::fs))∧H p=some (.tup ((cZ h t).map kV)):=by
 cases k with
 | bare o ht _ _ _=>exact ⟨_,_,_,o,ht⟩
 | leaf o ht _ _ _ _=>exact ⟨_,_,_,o,ht⟩
 | fork o hl hr ht _ _ _=>exact ⟨_,_,_,o,by rw [hl.ext he,hr.ext he] at ht;exact ht⟩
theorem qO {H:Hp} {p:Addr}:∀ {e:List Key},H p=some (.tup (e.map kV))→aY H (.ref p) (.tup (e.map dR)):=fun {e} hp=>by
 have:∀ e:List Key,DatWs H (e.map kV) (e.map dR):=fun e=>by
  induction e with
  | nil=>exact .nil
  | cons x r ih=>exact .cons (kP _ x) ih
 exact .tup hp (this e)
def tkN (kn:List (Nat×Str)):List (Key×Str):=kn.map fun p=>(.inl (p.1:Int),p.2)
theorem BZ (kn:List (Nat×Str)):dOf kn=txV (tkN kn):=by unfold dOf txV tkN;rw [List.map_map];rfl
theorem p2n {k:Int} {B:Nat} (h0:0≤k) (h:k<2^((B:Nat):Int).toNat):∃ j:Nat,k=(j:Int)∧j<2^B:=by
 obtain ⟨j,rfl⟩:=Int.eq_ofNat_of_zero_le h0
 refine ⟨j,rfl,?_⟩
 have h:((j:Nat):Int)<2^B:=by simpa using h
 rw [← dY] at h;omega
theorem Ds (K:W.Frag) (A:Adr):Ln (oF K A) 5:=by rintro vs H Q E ⟨x,f,b,kd,L,g,n,B,t,m,kn,ks,c,rfl,_⟩;rfl
theorem IJ (T:Txt K mg A):Rd (oF K A) (Kk K A) ["_law_table", "_law_bits_here", "_law_known", "_law_keys", "_law_cell", "_law_number_here", "_law_key_here", "_law_told"]:=by
 intro vs H Q E h
 obtain ⟨x,f,b,kd,L,g,n,B,t,m,kn,ks,c,rfl,tk,hl,s,hn,hL,lk,kk,q⟩:=h
 have B1:=tk.ta.B1
 have B60:=tk.ta.B60
 have put:∀ H1,au H H1→tT K A { nx:=fun _ H'=>Q .non H',rt:=Q } [some (.ref x),some (.int (B:Int)),some (.ref kd),some (.ref L),some (.int c),some (.int (c/4)),none,none] H1:=fun H1 S1=>by
  refine ⟨(B:Int),c/4,L,ks,rfl,by omega,by omega,S1 _ _ hL,lk,kk,fun k H2 S2 k0 k1=>?_⟩
  obtain ⟨key,rfl,hkey⟩:=p2n k0 k1
  refine ⟨lZ (by decide) (by decide),by decide,_,rfl,fun z H3 S3 zl za=>?_⟩
  have hz:fb z:=⟨za,zl⟩
  have S:=S1.trans (S2.trans S3)
  have tk2:=tk.same S
  have s2:=s.same (Nat.le_refl _) S
  obtain ⟨nkb,nkx⟩:=tk2.ne s2
  have ts2:=tk2.ts s2
  obtain ⟨dx,y,o⟩:=ts2.ob
  refine ⟨x,dx,_,rfl,o,rfl,x,f,b,g,n,B,t,m,_,_,.int (key:Int),.str z,rfl,ts2,hn,.int _,.str _,Iw hz,fun h=>(by rw [qy hkey] at h;cases h),fun key' ek hk'=>⟨fun h=>(by rw [zO hz] at h;cases h),fun z2 e2 _ m4 g4 H4 k4 ta4 s4 sub4=>?_⟩⟩
  cases e2
  have:key'=key:=by have:=Dat.int.inj ek;omega
  subst this
  have hk4:=k4 _ _ nkb nkx tk2.hk
  refine .inr ⟨kd,_,rfl,mz.k (k:=.inl (key':Int)) hk4 (fK (by unfold dOf;rw [List.length_map];omega)),?_⟩
  rw [AQ]
  have ln4:=ja (B:=B) (key:=key') (z:=z) t
  have ts4:TbS A H4 x f b g4 (n+65) B (bW B key' z t) m4:=⟨ta4,s4,by have:=tk.kno.len tk.ta.wf;omega⟩
  have ts5:=ts4.dk (kvs':=dOf (gR kn key' z)) hk4
  have kn4:=(qC (k:=key') (z:=z) tk.kno.nd).2
  exact q key' _ m4 (gR kn key' z) g4 _ (fun w u wb wx wd e=>by rw [ap wd];exact k4 w u wb wx (S _ _ e)) ⟨ts5.ta,aj,tk.kno.put tk.ta.wf hkey (by omega)⟩ kn4 ts5.s sub4 hkey
 refine ⟨⟨by decide,by decide⟩,by decide,Sel.dec (fun h=>?_) (fun h=>Sel.f (put H (.refl H)))⟩
 refine .inl fun p hp=>?_
 have S1:=au.upd (o:=.dK []) hp
 refine ⟨kd,p,tkN kn,[],rfl,rfl,by rw [← BZ];exact S1 _ _ tk.hk,aj,?_⟩
 cases hkn:kn with
 | nil=>exact Sel.no rfl (put _ S1)
 | cons p0 r0=>
 refine Sel.yes rfl ?_
 have tk1:=tk.same S1
 have s1:=s.same (Nat.le_refl n) S1
 generalize upd H p (.dK [])=H1 at S1 tk1 s1
 have kl:0<(kn.length:Int):=by rw [hkn];show 0<((r0.length+1:Nat):Int);omega
 refine ⟨kd,kn.map fR,rfl,by rw [tk1.hk,rc];rfl,by rw [List.length_map];omega,fun l ns hl pm _=>?_⟩
 have S2:=au.upd (o:=.lst (ns.map V.int)) hl
 have hl1:upd H1 l (.lst (ns.map V.int)) l=some (.lst (ns.map V.int)):=aj
 have tk2:=tk1.same S2
 have s2:=s1.same (Nat.le_refl n) S2
 have S12:=S1.trans S2
 generalize upd H1 l (.lst (ns.map V.int))=H2 at S2 hl1 tk2 s2 S12
 have nl:ns.length=kn.length:=by rw [pm.length_eq,List.length_map,List.length_map]
 refine .inl (.inr (.inr ⟨_,tk2.hk,?_⟩))
 have dl:(dOf kn).length=kn.length:=List.length_map _
 rw [dl]
 refine ⟨kl,vQ hl1 (Int.emod_nonneg _ (by omega)) (by rw [List.length_map,nl];exact Int.emod_lt_of_pos _ kl) fun v hv=>?_⟩
 obtain ⟨i,hi,rfl⟩:=List.mem_map.mp hv
 have mi:=pm.mem_iff.mp hi
 rw [List.map_map] at mi
 obtain ⟨pr,hpr,rfl⟩:=List.mem_map.mp mi
 have hkey:=tk.kno.keys tk.ta.wf pr hpr
 have hf:aD B pr.1 t=some pr.2:=by rw [← tk.kno.eq];exact (ft tk.kno.nd).mpr hpr
 have ts2:=tk2.ts s2
 obtain ⟨dx,y,o⟩:=ts2.ob
 obtain ⟨nkb,nkx⟩:=tk2.ne s2
 refine ⟨x,dx,_,rfl,o,rfl,x,f,b,g,n,B,t,m,_,.int (pr.1:Int),rfl,ts2,hn,.int _,fun h=>(by rw [qy hkey] at h;cases h),fun key' ek hk'=>?_⟩
 have:key'=pr.1:=by have:=Dat.int.inj ek;omega
 subst this
 refine ⟨fun hf'=>(by rw [hf] at hf';cases hf'),fun z hz m4 g4 H4 k4 ta4 s4 sub4=>?_⟩
 have hk4:=k4 _ _ nkb nkx tk2.hk
 refine ⟨DL hk4,kd,_,.inl (pr.1:Int),.str pr.2,rfl,rfl,hk4,by rw [rg,tk.kno.eq,hf];rfl,?_⟩
 rw [wI]
 obtain ⟨kno3,l3⟩:=tk.kno.drop (key:=pr.1) tk.ta.wf
 have ln3:=gq (B:=B) (key:=pr.1) t
 have ts4:TbS A H4 x f b g4 (n+65) B (aL B pr.1 t) m4:=⟨ta4,s4,by have:=ts2.ln;omega⟩
 have ts5:=ts4.dk (kvs':=dOf (iw kn pr.1)) hk4
 exact q pr.1 _ m4 _ g4 _ (fun w u wb wx wd e=>by rw [ap wd];exact k4 w u wb wx (S12 _ _ e)) ⟨ts5.ta,aj,kno3⟩ (by omega) ts5.s sub4 hkey
abbrev nV (ks:List Nat):List V:=ks.map fun k:Nat=>V.int (k:Int)
theorem BO (ks:List Nat):nV ks=(ks.map fun k:Nat=>(k:Int)).map V.int:=by unfold nV;rw [List.map_map];rfl
theorem fM {H:Hp} {L:Addr} {xs ys:List V} (hL:H L=some (.lst xs)):∀ z o,H z=some o→(∀ zs,o≠ .lst zs)→upd H L (.lst ys) z=some o:=fun z o e n=>by rw [ap (cf e hL (n _))];exact e
theorem Stp.ul {H:Hp} {f b L:Addr} {g:gOp} {n:Nat} {xs ys:List V} (s:Stp A H f b g n) (hL:H L=some (.lst xs)):Stp A (upd H L (.lst ys)) f b g n:=s.keep (Nat.le_refl _) fun z o e h=>fM hL z o e fun zs q=>by
 subst q;rcases h with ⟨_,q⟩ | ⟨_,_,q⟩ | ⟨_,_,_,q⟩ <;> cases q
theorem knO.lst {xs:List V} (h:knO (.lst xs)):False:=by rcases h with ⟨_,h⟩ | ⟨_,_,_,_,_,h⟩ <;> cases h
theorem knO.dK {kvs:List (Key×V)} (h:knO (.dK kvs)):False:=by rcases h with ⟨_,h⟩ | ⟨_,_,_,_,_,h⟩ <;> cases h
theorem TK.keep {H H':Hp} {x f kd:Addr} {g g':gOp} {B:Nat} {t:Kn Str} {m:Key} {kn:List (Nat×Str)} (h:TK A H x f kd g B t m kn) (kx:∀ o,H x=some o→H' x=some o) (k:∀ z o,H z=some o→knO o→H' z=some o) (kk:H kd=some (.dK (dOf kn))→H' kd=some (.dK (dOf kn))) (sub:Sub g g'):TK A H' x f kd g' B t m kn:=⟨h.ta.keep kx k sub,kk h.hk,h.kno⟩
theorem TK.ul {H:Hp} {x f kd L:Addr} {g:gOp} {B:Nat} {t:Kn Str} {m:Key} {kn:List (Nat×Str)} {xs ys:List V} (h:TK A H x f kd g B t m kn) (hL:H L=some (.lst xs)):TK A (upd H L (.lst ys)) x f kd g B t m kn:=by
 obtain ⟨dx,y,o,_⟩:=h.ta.ob
 exact h.keep (fun u e=>fM hL _ _ e fun zs q=>by subst q;rw [o] at e;cases e) (fun z u e hu=>fM hL _ _ e fun zs q=>by subst q;exact hu.lst) (fun e=>fM hL _ _ e fun _ q=>nomatch q) Sub.rfl'
theorem AY {xs:List V} {lo hi:Option Int} {v:V} (h:v∈dI xs lo hi):v∈xs:=by
 unfold dI at h
 exact List.mem_of_mem_drop (List.mem_of_mem_take h)
theorem CL {B:Nat} {ks:List Nat} (h:∀ k∈ks,k<2^B):∀ v∈nV ks,∃ k:Nat,v=.int (k:Int)∧k<2^B:=fun v hv=>by
 obtain ⟨k,hk,rfl⟩:=List.mem_map.mp hv
 exact ⟨k,rfl,h k hk⟩
theorem kQ.seq {H H':Hp} {a:Addr} {xs:List V} (e:kQ H H') (h:SqL K H a xs):SqL K H' a xs:=by
 rcases h with (h | ⟨o,h⟩) | h
 · exact .inl (.inl (e _ _ h (fun _ z=>nomatch z)))
 · exact .inl (.inr ⟨o,e _ _ h (fun _ z=>nomatch z)⟩)
 · exact .inr h
theorem Stp.seq {H H':Hp} {f b a:Addr} {g:gOp} {n:Nat} {xs:List V} (s:Stp A H f b g n) (k:aT b H H') (h:SqL K H a xs):SqL K H' a xs:=by
 rcases h with (h | ⟨o,h⟩) | h
 · exact .inl (.inl (s.lst k _ _ h))
 · exact .inl (.inr ⟨o,k _ _ (s.nb h fun _ z=>nomatch z) h⟩)
 · exact .inr h
theorem oH {d:Int} (h:d≤60):(2:Int)^d.toNat≤2^60:=by
 have:(2:Nat)^d.toNat≤2^60:=Nat.pow_le_pow_right (by decide) (by omega)
 exact_mod_cast this
theorem qb (p:bf):jk (bi p)=true:=by
 induction p with
 | cut m=>show (true&&(jk (dR m)&&true))=true;rw [Aw];rfl
 | bare=>rfl
 | leaf k z=>rfl
 | fork d b l r hl hr=>show (true&&(true&&(true&&(jk (bi l)&&(jk (bi r)&&true)))))=true;rw [hl,hr];rfl
theorem ig {H:Hp} {v:V} {m:Key} (h:aY H v (bi (.cut m))):∃ a,v=.ref a∧H a=some (.tup [.str "cut",kV m]):=sQ (e:=[.inr "cut",m]) h
theorem jB {H:Hp} {v:V} (h:aY H v (bi .bare)):∃ a,v=.ref a∧H a=some (.tup [.str "bare"]):=sQ (e:=[.inr "bare"]) h
theorem jC {H:Hp} {v:V} {k:Int} {z:Str} (h:aY H v (bi (.leaf k z))):∃ a,v=.ref a∧H a=some (.tup [.str "leaf",.int k,.str z]):=sQ (e:=[.inr "leaf",.inl k,.inr z]) h
theorem jF {H : Hp} {v : V} {d b : Int} {l r : bf} (h : aY H v (bi (.fork d b l r))) : ∃ a x y, v = .ref a ∧ H a = some (.tup [.str "fork", .int d, .int b, x, y]) ∧ aY H x (bi l) ∧ aY H y (bi r) := by
  cases h with
  | @tup a xs _ ea w =>
    cases w with
    | cons w0 w =>
    cases w with
    | cons w1 w =>
    cases w with
    | cons w2 w =>
    cases w with
    | cons w3 w =>
    cases w with
    | cons w4 w =>
    cases w
    cases w0
    cases w1
    cases w2
    exact ⟨a, _, _, rfl, ea, w3, w4⟩
theorem AC:okD (.str "cut")=true:=by decide +kernel
theorem pV {b lo hi d g : Int} {p : bf} (h : gr b lo hi d g p) (hd : d ≤ b) : okD (bi p) = true := by
  induction p generalizing d g with
  | cut m => show (okD (.str "cut") && (okD (dR m) && true)) = true; rw [AC, (rq h.2).1]; rfl
  | bare => decide +kernel
  | leaf k z =>
    show (okD (.str "leaf") && (true && (okD (.str z) && true))) = true
    rw [xm, IF h.2.2.2.2.1 (by have := h.2.2.2.1; omega)]; rfl
  | fork e x l r hl hr =>
    show (okD (.str "fork") && (true && (true && (okD (bi l) && (okD (bi r) && true))))) = true
    obtain ⟨_, _, he, _, _, _, h1, h2⟩ := h
    rw [ww, hl h1 (by omega), hr h2 (by omega)]; rfl
theorem nA (p : bf) : (cB (bi p)).depth ≤ cD p + 1 := by
  induction p with
  | cut m =>
    show max 0 (max (cB (dR m)).depth 0) + 1 ≤ 0 + 1
    rw [AU]; decide
  | bare => decide
  | leaf k z => show max 0 (max 0 (max 0 0)) + 1 ≤ 0 + 1; decide
  | fork d b l r hl hr =>
    show max 0 (max 0 (max 0 (max (cB (bi l)).depth (max (cB (bi r)).depth 0)))) + 1 ≤ max (cD l) (cD r) + 1 + 1
    omega
theorem xF {b lo hi d g:Int} {p:bf} (h:gr b lo hi d g p) (hd:d≤b) (ht:cD p≤60):jE (bi p):=.inl ⟨pV h hd,by have:=nA p;omega⟩
theorem mX {e x:Int} (e0:0≤e) (x0:0≤x) (x1:x<2^e.toNat):0≤2*x∧2*x<2^(e+1).toNat∧2*x+1<2^(e+1).toNat:=by
 have:(e+1).toNat=e.toNat+1:=by omega
 rw [this,Int.pow_succ]
 omega
theorem eZ.left {H:Hp} {v:V} {b lo hi d g e x:Int} {l r:bf} {y:V} (h:eZ H v b lo hi d g (.fork e x l r)) (w:aY H y (bi l)):eZ H y b lo hi (e+1) (2*x) l:=by
 obtain ⟨_,h1,he,x0,x1,_,hl,_⟩:=h.ok
 have d0:=h.d0
 obtain ⟨a,b',_⟩:=mX (by omega) x0 x1
 exact ⟨w,hl,by omega,by omega,a,b'⟩
theorem eZ.right {H:Hp} {v:V} {b lo hi d g e x:Int} {l r:bf} {y:V} (h:eZ H v b lo hi d g (.fork e x l r)) (w:aY H y (bi r)):eZ H y b lo hi (e+1) (2*x+1) r:=by
 obtain ⟨_,h1,he,x0,x1,_,_,hr⟩:=h.ok
 have d0:=h.d0
 obtain ⟨a,_,b'⟩:=mX (by omega) x0 x1
 exact ⟨w,hr,by omega,by omega,by omega,b'⟩
theorem Bj (K:W.Frag) (A:Adr):Ln (oo K A) 3:=by rintro vs H Q E ⟨_,_,_,rfl,_⟩;rfl
theorem HQ (T:Txt K mg A):Rd (oo K A) (Kf K A) ["bits", "depth", "begin", "rest"]:=by
 intro vs H Q E h
 obtain ⟨b,d,g,rfl,d0,d1,b60,g0,g1,q⟩:=h
 have:=oH (d:=d) (by omega)
 exact ⟨⟨by omega,by omega,by omega⟩,⟨by omega,by omega,by omega⟩,by show 2≤sizeLine;decide,fun p hp=>q p hp⟩
theorem Eb (K:W.Frag) (A:Adr):Ln (lw K A) 5:=by rintro vs H Q E ⟨_,_,_,_,_,rfl,_⟩;rfl
theorem Hv (T:Txt K mg A):Rd (lw K A) (JQ K A) ["bits", "low", "high", "depth", "begin", "ends"]:=by
 intro vs H Q E h
 obtain ⟨b,lo,hi,d,g,rfl,d0,d1,b60,g0,g1,q⟩:=h
 refine ⟨b,d,g,rfl,d0,d1,b60,g0,g1,fun p hp=>?_⟩
 refine ixT (j:=0) aj rfl rfl ?_
 have q:=q _ (au.upd (o:=.tup [.int (g*2^(b - d).toNat),.int ((g+1)*2^(b - d).toNat - 1)]) hp)
 unfold bj at q
 refine Sel.mk (fun e=>ixT (j:=1) aj rfl rfl ?_) (fun e=>?_)
 · rw [e,Bool.true_and] at q;exact q
 · rw [e,Bool.false_and] at q;exact q
theorem DU (K:W.Frag) (A:Adr):Ln (lr K A) 3:=by rintro vs H Q E ⟨_,_,_,rfl,_⟩;rfl
theorem Hc (T:Txt K mg A):Rd (lr K A) (JS K A) ["bits", "low", "high"]:=by
 intro vs H Q E h
 obtain ⟨b,lo,hi,rfl,e,q⟩:=h
 have k1:dw b (.int lo)=true:=decide_eq_true ⟨e.lo0,Int.lt_of_le_of_lt e.le e.hi1⟩
 have k2:dw b (.int hi)=true:=decide_eq_true ⟨Int.le_trans e.lo0 e.le,e.hi1⟩
 have b1:=e.b1
 have b60:=e.b60
 refine ⟨b,.int lo,.int lo,rfl,by omega,b60,.int lo,Sel.no (by rw [k1];rfl) ⟨b,.int hi,.int hi,rfl,by omega,b60,.int hi,Sel.no (by rw [k2];rfl) ?_⟩⟩
 exact Sel.no (decide_eq_false (by have:=e.le;omega)) q
theorem Cy (K:W.Frag) (A:Adr):Ln (oC K A) 1:=by rintro vs H Q E ⟨_,_,rfl,_⟩;rfl
theorem HR (T:Txt K mg A):Rd (oC K A) (Ja K A) ["thing"]:=by
 intro vs H Q E h
 obtain ⟨v,m,rfl,w,hm,q⟩:=h
 have ty:=w.ty
 obtain ⟨a,rfl,ha⟩:=ig w
 refine ⟨by decide,_,ty,Sel.yes rfl (.inl (.inr (.inl ⟨_,SqT.of ha,Sel.yes rfl ?_⟩)))⟩
 refine ixT (j:=0) ha rfl rfl (Sel.yes (decide_eq_true rfl) (ixT (j:=1) ha rfl rfl ⟨kV m,dR m,rfl,kP H m,?_⟩))
 rw [(rq hm).2];exact q
theorem AH {p:bf} (h:∀ (_:p=.bare),False):mD (bi p)=false:=by
 cases p with
 | bare=>exact (h rfl).elim
 | _=>rfl
theorem Dt (K:W.Frag) (A:Adr):Ln (oq K A) 6:=by rintro vs H Q E ⟨_,_,_,_,_,_,_,rfl,_⟩;rfl
theorem FD (T : Txt K mg A) : Rd (oq K A) (KF K A) ["bits", "low", "high", "depth", "begin", "thing"] := by
  intro vs H Q E h
  obtain ⟨b, lo, hi, d, g, v, p, rfl, e, w, ht, q⟩ := h
  have b1 := e.b1
  have b60 := e.b60
  refine ⟨b, lo, hi, d, g, rfl, w.d0, w.d1, b60, w.g0, w.g1, fun H2 s2 => ?_⟩
  have eo := xF w.ok w.d1 ht
  have bL : ∀ (hm : bj b lo hi d g = true) (hb : ¬ p = .bare) (r1 : fw b d g (bi p) = true ∨ (fw b d g (bi p) = false ∧ fv b d g (bi p) = true)), uD K A { nx := fun _ H' => Q .non H', rt := Q } [some (.int b), some (.int lo), some (.int hi), some (.int d), some (.int g), some v] H2 := by
    intro hm hb r1
    refine ⟨by show 1 ≤ sizeLine; decide, fun t hT => ?_⟩
    have s3 := s2.trans (au.upd (o := .tup [.str "bare"]) hT)
    refine qB (w.w.mono s3) eo aj ?_
    refine Sel.no (AH hb) ?_
    refine ⟨b, d, g, v, bi p, rfl, by omega, b60, w.d1, w.w.mono s3, eo, ?_⟩
    rcases r1 with h | ⟨h1, h2⟩
    · exact Sel.yes h (q _ s3)
    · refine Sel.no h1 ⟨b, d, g, v, bi p, rfl, w.d0, b60, w.d1, w.w.mono s3, eo, ?_⟩
      rw [h2]; exact q _ s3
  have hok := w.ok
  cases p with
  | cut m =>
    refine Sel.yes (by rw [hok.1]; rfl) ⟨v, m, rfl, w.w.mono s2, hok.2, q _ s2⟩
  | bare =>
    refine Sel.no (by rw [hok.1]; rfl) ⟨by show 1 ≤ sizeLine; decide, fun t hT => ?_⟩
    have s3 := s2.trans (au.upd (o := .tup [.str "bare"]) hT)
    refine qB (w.w.mono s3) eo aj (Sel.yes (by decide +kernel) ?_)
    show Q (.bl (decide (d = 0))) _
    rw [decide_eq_true hok.2]; exact q _ s3
  | leaf k z =>
    refine Sel.no (by rw [hok.1]; rfl) (bL hok.1 (by intro z; cases z) (.inl ?_))
    obtain ⟨_, k0, k1, hz, _, hs⟩ := hok
    show (cz "leaf" (.str "leaf") && decide (0 ≤ k ∧ k < 2 ^ b.toNat) && cN (.str z) && decide (fL b k d = g)) = true
    rw [decide_eq_true ⟨k0, k1⟩, decide_eq_true hs]
    show (decide (("leaf" : Str) = "leaf") && true && decide (z.length ≤ 60) && true) = true
    rw [decide_eq_true hz, decide_eq_true rfl]; rfl
  | fork e x l r =>
    refine Sel.no (by rw [hok.1]; rfl) (bL hok.1 (by intro z; cases z) (.inr ⟨rfl, ?_⟩))
    obtain ⟨_, h1, h2, x0, x1, hx, _⟩ := hok
    show (cz "fork" (.str "fork") && decide (d ≤ e ∧ e < b) && decide (0 ≤ x ∧ x < 2 ^ e.toNat) && decide (x / 2 ^ (e - d).toNat = g)) = true
    rw [decide_eq_true ⟨h1, h2⟩, decide_eq_true ⟨x0, x1⟩, decide_eq_true hx]
    show (decide (("fork" : Str) = "fork") && true && true && true) = true
    rw [decide_eq_true rfl]; rfl
theorem CU (K:W.Frag) (A:Adr) (n:Nat):Ln (ip K A n) 6:=by rintro vs H Q E ⟨_,_,_,_,_,_,_,rfl,_⟩;rfl
theorem yJ (K:W.Frag) (A:Adr):∀ vs H Q E,¬ ip K A 0 vs H Q E:=by
 rintro vs H Q E ⟨_,_,_,_,_,_,_,_,_,_,_,h,_⟩
 omega
theorem kc:decide (("cut" :Str)= "fork")=false∧decide (("bare" :Str)= "fork")=false∧decide (("leaf" :Str)= "fork")=false:=by decide +kernel
theorem Gm (T : Txt K mg A) (n : Nat) : Rd (ip K A (n + 1)) (Km K A n) ["bits", "low", "high", "depth", "begin", "part"] := by
  intro vs H Q E h
  obtain ⟨b, lo, hi, d, g, v, p, rfl, e, w, ht, hn, q⟩ := h
  refine ⟨b, lo, hi, d, g, v, p, rfl, e, w, ht, fun H2 s2 => Sel.no rfl ?_⟩
  have w2 := w.w.mono s2
  cases p with
  | cut m =>
    obtain ⟨a, rfl, ha⟩ := ig w2
    exact ixT (j := 0) ha rfl rfl (Sel.no kc.1 (q _ s2))
  | bare =>
    obtain ⟨a, rfl, ha⟩ := jB w2
    exact ixT (j := 0) ha rfl rfl (Sel.no kc.2.1 (q _ s2))
  | leaf k z =>
    obtain ⟨a, rfl, ha⟩ := jC w2
    exact ixT (j := 0) ha rfl rfl (Sel.no kc.2.2 (q _ s2))
  | fork e2 x l r =>
    obtain ⟨a, vl, vr, rfl, ha, wl, wr⟩ := jF w2
    have ht' : max (cD l) (cD r) + 1 ≤ 60 := ht
    have hn' : max (cD l) (cD r) + 1 < n + 1 := hn
    obtain ⟨_, h1, h2, x0, x1, _⟩ := w.ok
    have b60 := e.b60
    have := oH (d := e2) (by omega)
    have W : eZ H2 (.ref a) b lo hi d g (.fork e2 x l r) := ⟨w2, w.ok, w.d0, w.d1, w.g0, w.g1⟩
    refine ixT (j := 0) ha rfl rfl (Sel.yes (decide_eq_true rfl) ?_)
    refine ixT (j := 1) ha rfl rfl (ixT (j := 2) ha rfl rfl ⟨my (by decide) (by decide), ixT (j := 3) ha rfl rfl ?_⟩)
    refine ⟨b, lo, hi, e2 + 1, 2 * x, vl, l, rfl, e, W.left wl, by omega, by omega, fun H3 s3 => ?_⟩
    have ha3 := s3 _ _ ha
    refine ixT (j := 1) ha3 rfl rfl (ixT (j := 2) ha3 rfl rfl ⟨my (by decide) (by decide), ixT (j := 4) ha3 rfl rfl ?_⟩)
    have W3 : eZ H3 (.ref a) b lo hi d g (.fork e2 x l r) := ⟨w2.mono s3, w.ok, w.d0, w.d1, w.g0, w.g1⟩
    exact ⟨b, lo, hi, e2 + 1, 2 * x + 1, vr, r, rfl, e, W3.right (wr.mono s3), by omega, by omega, fun H4 s4 => q _ ((s2.trans s3).trans s4)⟩
theorem Ey (K:W.Frag) (A:Adr):Ln (nH K A) 4:=by rintro vs H Q E ⟨_,_,_,_,_,rfl,_⟩;rfl
theorem Gg (T:Txt K mg A):Rd (nH K A) (Ka K A) ["bits", "low", "high", "paper"]:=by
 intro vs H Q E h
 obtain ⟨b,lo,hi,v,p,rfl,w,q⟩:=h
 have t:=w.t
 exact ⟨b,lo,hi,rfl,w.e,b,lo,hi,0,0,v,p,rfl,w.e,w.w,t,by omega,fun H2 s2=>q _ s2⟩
theorem gf (h:List Key→Key) {p:bf} (hp:ib p=false):∃ pre,bz h p=pre++[kz h p]:=by
 cases p with
 | cut m=>cases hp
 | bare=>exact ⟨[],rfl⟩
 | leaf k z=>exact ⟨[],rfl⟩
 | fork d b l r=>exact ⟨bz h l++bz h r,rfl⟩
theorem oQ (h:List Key→Key) {p:bf} (hp:ib p=false):dn h p=h (kz h p):=by
 cases p with
 | cut m=>cases hp
 | _=>rfl
theorem md (p:bf):gS p≤2*bE p+1:=by
 induction p with
 | fork d b l r hl hr=>show gS l+gS r+1≤2*(bE l+bE r+1)+1;omega
 | cut m=>show 0≤_;omega
 | _=>exact Nat.le_refl _
theorem jp (h : List Key → Key) (p : bf) : (bz h p).length = gS p := by
  induction p with
  | fork d b l r hl hr =>
    show (bz h l ++ bz h r ++ [_]).length = gS l + gS r + 1
    rw [List.length_append, List.length_append, hl, hr]; rfl
  | _ => rfl
theorem p10 {b:Int} (h:b≤60):(2:Int)^b.toNat<10^60:=Int.lt_of_le_of_lt (oH h) (by decide +kernel)
theorem pb:okT [.inr "bare"]=true∧szT [.inr "bare"]=66:=by decide +kernel
theorem xW {k:Int} {z:Str} (k0:0≤k) (k1:k<10^60) (hz:z.length≤60) (ha:bI z=true):okT [.inr "leaf",.inl k,.inr z]=true∧szT [.inr "leaf",.inl k,.inr z]≤250:=by
 refine ⟨Jd qK.2.1 (yh k0 k1) ?_ rfl,?_⟩
 · show (bI z&&decide (z.length≤100000))=true
   rw [ha,decide_eq_true (by omega)];rfl
 · show szK (.inr "leaf")+(62+((z.length+62)+0))≤250
   rw [qH.2.1];omega
theorem tU {d x:Int} {m s:Key} (d0:0≤d) (d1:d<10^60) (x0:0≤x) (x1:x<10^60) (hm:okP m=true) (hs:okP s=true):okT [.inr "fork",.inl d,.inl x,m,s]=true∧szT [.inr "fork",.inl d,.inl x,m,s]=190+szK m+szK s:=by
 refine ⟨JY qK.1 (yh d0 d1) (yh x0 x1) hm hs rfl,?_⟩
 show szK (.inr "fork")+(62+(62+(szK m+(szK s+0))))=_
 rw [qH.1];omega
def AZ:bf→Bool
 | .fork _ _ _ _=>true
 | _=>false
def Ag:bf→Bool
 | .leaf _ _=>true
 | _=>false
theorem jx:(decide (("cut" :Str)= "cut")=true∧decide (("bare" :Str)= "cut")=false∧decide (("leaf" :Str)= "cut")=false∧decide (("fork" :Str)= "cut")=false)∧
 (decide (("cut" :Str)= "fork")=false∧decide (("bare" :Str)= "fork")=false∧decide (("leaf" :Str)= "fork")=false∧decide (("fork" :Str)= "fork")=true)∧
 (decide (("cut" :Str)= "leaf")=false∧decide (("bare" :Str)= "leaf")=false∧decide (("leaf" :Str)= "leaf")=true∧decide (("fork" :Str)= "leaf")=false):=by decide +kernel
theorem qG {H:Hp} {v:V} {p:bf} (h:aY H v (bi p)):∃ (a:Addr) (xs:List V) (w:Str),v=.ref a∧H a=some (.tup xs)∧xs[0]?=some (.str w)∧decide (w= "cut")=ib p∧decide (w= "fork")=AZ p∧decide (w= "leaf")=Ag p:=by
 obtain ⟨⟨c1,c2,c3,c4⟩,⟨f1,f2,f3,f4⟩,l1,l2,l3,l4⟩:=jx
 cases p with
 | cut m=>obtain ⟨a,rfl,ha⟩:=ig h;exact ⟨a,_,_,rfl,ha,rfl,c1,f1,l1⟩
 | bare=>obtain ⟨a,rfl,ha⟩:=jB h;exact ⟨a,_,_,rfl,ha,rfl,c2,f2,l2⟩
 | leaf k z=>obtain ⟨a,rfl,ha⟩:=jC h;exact ⟨a,_,_,rfl,ha,rfl,c3,f3,l3⟩
 | fork d b l r=>obtain ⟨a,x,y,rfl,ha,_⟩:=jF h;exact ⟨a,_,_,rfl,ha,rfl,c4,f4,l4⟩
theorem dX.keep {H H':Hp} {v:V} {p:bf} (h:dX H v p) (k:∀ b xs,H b=some (.tup xs)→H' b=some (.tup xs)):dX H' v p:=⟨h.w.keepT k (qb p),h.ok,h.f,h.z⟩
theorem dX.left {H:Hp} {v y:V} {e x:Int} {l r:bf} (h:dX H v (.fork e x l r)) (w:aY H y (bi l)):dX H y l:=by
 obtain ⟨b,lo,hi,d,g,en,d0,d1,_,h1,h2,_,_,_,hl,_⟩:=h.ok
 have:bE l+bE r+1≤60:=h.f
 have:252+szP l+szP r≤90000:=h.z
 exact ⟨w,⟨b,lo,hi,e+1,2*x,en,by omega,by omega,hl⟩,by omega,by omega⟩
theorem dX.right {H:Hp} {v y:V} {e x:Int} {l r:bf} (h:dX H v (.fork e x l r)) (w:aY H y (bi r)):dX H y r:=by
 obtain ⟨b,lo,hi,d,g,en,d0,d1,_,h1,h2,_,_,_,_,hr⟩:=h.ok
 have:bE l+bE r+1≤60:=h.f
 have:252+szP l+szP r≤90000:=h.z
 exact ⟨w,⟨b,lo,hi,e+1,2*x+1,en,by omega,by omega,hr⟩,by omega,by omega⟩
theorem dX.nums {H:Hp} {v:V} {e x:Int} {l r:bf} (h:dX H v (.fork e x l r)):0≤e∧e<10^60∧0≤x∧x<10^60:=by
 obtain ⟨b,lo,hi,d,g,en,d0,d1,_,h1,h2,x0,x1,_⟩:=h.ok
 have:=en.b60
 have:=p10 (b:=e) (by omega)
 have c:(60:Int)<10^60:=by decide +kernel
 exact ⟨by omega,by omega,x0,by omega⟩
theorem DT (K:W.Frag) (A:Adr):Ln (kN K A) 3:=by rintro vs H Q E ⟨_,_,_,_,_,_,_,_,_,rfl,_⟩;rfl
theorem Hu (T : Txt K mg A) : Rd (kN K A) (Jk K A) ["stamper", "part", "terms"] := by
  intro vs H Q E h
  obtain ⟨f, b, L, v, p, ps, ts, g, n, rfl, w, sp, hn, hL, pk, ht, lo, q⟩ := h
  cases hc : ib p with
  | true =>
    cases p with
    | cut m =>
      obtain ⟨a, rfl, ha⟩ := ig w.w
      obtain ⟨_, _, _, _, _, _, _, _, _, hm⟩ := w.ok
      exact ixT (j := 0) ha rfl rfl (Sel.yes jx.1.1 (ixT (j := 1) ha rfl rfl (q m g H aT.rfl' (sp.same (by omega) (.refl H)) Sub.rfl' (fun _ _ => rfl) hm (Nat.le_refl _))))
    | _ => cases hc
  | false =>
    obtain ⟨a, xs, wd, rfl, ha, hx, e1, _, _⟩ := qG w.w
    refine ixT (j := 0) ha rfl hx (Sel.no (e1.trans hc) ?_)
    obtain ⟨pre, e⟩ := gf (iz g) hc
    have ets := ht _ (bR g)
    rw [e] at ets
    subst ets
    obtain ⟨qs, pc, rfl, hpc, okc⟩ := qw pk
    have lk := lo (kz (iz g) p) (by simp)
    have sz := w.z
    have hf := w.f
    refine ⟨f, rfl, sp.clo, qA hL (lW sp (by omega) hpc okc fun x H2 g2 kt sp2 sub gv so => ?_)⟩
    obtain ⟨o1, o2⟩ := AE so (by omega)
    refine q x g2 H2 kt sp2 sub (fun h he => ?_) o1 (by omega)
    obtain ⟨pre', e'⟩ := gf h hc
    have e2 := (ht h (he.of sub)).trans e'
    have e3 := (List.append_inj' e2 rfl).2
    have e4 : kz (iz g) p = kz h p := List.cons.inj e3 |>.1
    rw [oQ h hc, ← e4]
    exact (he _ _ gv).symm
theorem DW (K:W.Frag) (A:Adr) (n:Nat):Ln (iJ K A n) 2:=by rintro vs H Q E ⟨_,_,_,_,_,_,rfl,_⟩;rfl
theorem yA (K:W.Frag) (A:Adr):∀ vs H Q E,¬ iJ K A 0 vs H Q E:=by
 rintro vs H Q E ⟨_,_,_,_,_,_,_,_,h,_⟩
 omega
theorem Ed {H:Hp} {ps qs:List Addr} {ts us:List (List Key)} (h:PK H ps ts) (h2:PK H qs us):PK H (ps++qs) (ts++us):=by
 induction h with
 | nil=>exact h2
 | cons r t ih=>exact .cons r ih
theorem IB (T : Txt K mg A) (n : Nat) : Rd (iJ K A (n + 1)) (Kz K A n) ["stamper", "part", "left", "right", "marks"] := by
  intro vs H Q E h
  obtain ⟨f, b, v, p, g, m, rfl, w, ht, sp, hm, q⟩ := h
  obtain ⟨⟨c1, c2, c3, c4⟩, ⟨f1, f2, f3, f4⟩, _⟩ := jx
  have hf := w.f
  have one : ∀ (a : Addr) (t : List Key), bE p = 0 → H a = some (.tup (t.map kV)) → okT t = true → (∀ h, bz h p = [t]) → szT t + 62 ≤ szP p → (aB (ff (ae (ac 1) (ai)))) { nx := fun _ H' => Q .non H', rt := Q } [some (.ref f), some (.ref a), none, none, none] H := fun a t h0 ha ok ht hs => by
    refine ⟨by show 1 ≤ sizeLine; decide, fun L hL => ?_⟩
    have S := au.upd (o := .lst [V.ref a]) hL
    refine q L [a] [t] g _ (aT.same S) (sp.same (by omega) S) Sub.rfl' aj (.cons ⟨S _ _ ha, ok⟩ .nil) (fun h _ => (ht h).symm) fun t' e => ?_
    have : t = t' := by simpa using e
    rw [← this]; exact hs
  cases p with
  | cut c =>
    obtain ⟨a, rfl, ha⟩ := ig w.w
    refine ixT (j := 0) ha rfl rfl (Sel.yes c1 ⟨by show 0 ≤ sizeLine; decide, fun L hL => ?_⟩)
    have S := au.upd (o := .lst []) hL
    exact q L [] [] g _ (aT.same S) (sp.same (by omega) S) Sub.rfl' aj .nil (fun h _ => rfl) fun t e => by cases e
  | bare =>
    obtain ⟨a, rfl, ha⟩ := jB w.w
    refine ixT (j := 0) ha rfl rfl (Sel.no c2 (ixT (j := 0) ha rfl rfl (Sel.yes (by rw [f2]; rfl) ?_)))
    exact one a [.inr "bare"] rfl ha pb.1 (fun _ => rfl) (by rw [pb.2]; exact Nat.le_refl _)
  | leaf k z =>
    obtain ⟨a, rfl, ha⟩ := jC w.w
    refine ixT (j := 0) ha rfl rfl (Sel.no c3 (ixT (j := 0) ha rfl rfl (Sel.yes (by rw [f3]; rfl) ?_)))
    obtain ⟨b', lo, hi, d, g', en, d0, d1, _, k0, k1, hz, has, _⟩ := w.ok
    have := p10 en.b60
    obtain ⟨o1, o2⟩ := xW (k := k) (z := z) k0 (by omega) hz has
    exact one a [.inr "leaf", .inl k, .inr z] rfl ha o1 (fun _ => rfl) (by show _ ≤ 312; omega)
  | fork d x l r =>
    obtain ⟨a, vl, vr, rfl, ha, wl, wr⟩ := jF w.w
    have ht' : max (cD l) (cD r) + 1 < n + 1 := ht
    have hm' : m + 2 * (bE l + bE r + 1) ≤ 42000 := hm
    obtain ⟨d0, d1, x0, x1⟩ := w.nums
    refine ixT (j := 0) ha rfl rfl (Sel.no c4 (ixT (j := 0) ha rfl rfl (Sel.no (by rw [f4]; rfl) ?_)))
    refine ixT (j := 3) ha rfl rfl ⟨f, b, vl, l, g, m, rfl, w.left wl, by omega, sp, by omega, fun L1 ps1 ts1 g1 H1 kt1 sp1 sub1 hL1 pk1 e1 lo1 => ?_⟩
    have ha1 := (sp.tup kt1) _ _ ha
    refine ixT (j := 4) ha1 rfl rfl ⟨f, b, vr, r, g1, m + 2 * bE l, rfl, (w.right wr).keep (sp.tup kt1), by omega, sp1, by omega, fun L2 ps2 ts2 g2 H2 kt2 sp2 sub2 hL2 pk2 e2 lo2 => ?_⟩
    have ha2 := (sp1.tup kt2) _ _ ha1
    have hL1b := sp1.lst kt2 _ _ hL1
    refine ixT (j := 3) ha2 rfl rfl ⟨f, b, L1, vl, l, ps1, ts1, g2, m + 2 * bE l + 2 * bE r, rfl, ((w.left wl).keep (sp.tup kt1)).keep (sp1.tup kt2), sp2, by omega, hL1b, gn (sp1.tup kt2) pk1, fun h he => e1 h (he.of sub2), lo1, fun y1 g3 H3 kt3 sp3 sub3 ey1 oy1 sy1 => ?_⟩
    have ha3 := (sp2.tup kt3) _ _ ha2
    have hL2c := sp2.lst kt3 _ _ hL2
    refine ixT (j := 4) ha3 rfl rfl ⟨f, b, L2, vr, r, ps2, ts2, g3, m + 2 * bE l + 2 * bE r + 1, rfl, (((w.right wr).keep (sp.tup kt1)).keep (sp1.tup kt2)).keep (sp2.tup kt3), sp3, by omega, hL2c, gn (sp2.tup kt3) pk2, fun h he => e2 h (he.of sub3), lo2, fun y2 g4 H4 kt4 sp4 sub4 ey2 oy2 sy2 => ?_⟩
    have ha4 := (sp3.tup kt4) _ _ ha3
    have hL1d := sp3.lst kt4 _ _ (sp2.lst kt3 _ _ hL1b)
    have hL2d := sp3.lst kt4 _ _ hL2c
    refine ⟨by show 2 ≤ sizeLine; decide, fun M hM => ?_⟩
    have S5 := au.upd (o := .tup [kV y1, kV y2]) hM
    have p1 : ps1.length = gS l := by rw [kT pk1, e1 _ (bR g1), jp]
    have p2 : ps2.length = gS r := by rw [kT pk2, e2 _ (bR g2), jp]
    have q1 := md l
    have q2 := md r
    have hf' : bE l + bE r + 1 ≤ 60 := hf
    refine .inl ⟨L1, L2, _, _, rfl, rfl, S5 _ _ hL1d, S5 _ _ hL2d, aW (by simp; omega), fun C hC => ?_⟩
    have S6 := S5.trans (au.upd (o := .lst (ps1.map V.ref ++ ps2.map V.ref)) hC)
    have hM6 := au.upd (o := .lst (ps1.map V.ref ++ ps2.map V.ref)) hC M _ (aj (o := .tup [kV y1, kV y2]))
    refine ixT (j := 1) (S6 _ _ ha4) rfl rfl (ixT (j := 2) (S6 _ _ ha4) rfl rfl (ixT (j := 0) hM6 rfl rfl (ixT (j := 1) hM6 rfl rfl ⟨by show 5 ≤ sizeLine; decide, fun t hT => ⟨by show 1 ≤ sizeLine; decide, fun D hD => ?_⟩⟩)))
    have hC7 := (au.upd (o := .tup [V.str "fork", .int d, .int x, kV y1, kV y2]) hT).trans (au.upd (o := .lst [V.ref t]) hD) C _ (aj (o := .lst (ps1.map V.ref ++ ps2.map V.ref)))
    refine .inl ⟨C, D, _, _, rfl, rfl, hC7, aj, aW (by simp; omega), fun L hL => ?_⟩
    have S8 : au H4 _ := ((S6.trans (au.upd (o := .tup [V.str "fork", .int d, .int x, kV y1, kV y2]) hT)).trans (au.upd (o := .lst [V.ref t]) hD)).trans (au.upd (o := .lst (ps1.map V.ref ++ ps2.map V.ref ++ [V.ref t])) hL)
    have ht8 := (au.upd (o := .lst [V.ref t]) hD).trans (au.upd (o := .lst (ps1.map V.ref ++ ps2.map V.ref ++ [V.ref t])) hL) t _ (aj (o := .tup [V.str "fork", .int d, .int x, kV y1, kV y2]))
    have kt8 := (((kt1.trans kt2).trans kt3).trans kt4).trans (aT.same S8)
    obtain ⟨ok, sz⟩ := tU (d := d) (x := x) d0 d1 x0 x1 oy1 oy2
    have kk := (sp2.tup ((kt3.trans kt4).trans (aT.same S8)))
    have ml : ps1.map V.ref ++ ps2.map V.ref ++ [V.ref t] = (ps1 ++ ps2 ++ [t]).map V.ref := by simp
    refine q L (ps1 ++ ps2 ++ [t]) (ts1 ++ ts2 ++ [[.inr "fork", .inl d, .inl x, y1, y2]]) g4 _ kt8 (sp4.same (by show _ ≤ m + 2 * (bE l + bE r + 1); omega) S8) (((sub1.trans sub2).trans sub3).trans sub4) (by rw [aj, ml]) (Ae (Ed (gn kk (gn (sp1.tup kt2) pk1)) (gn kk pk2)) ⟨ht8, ok⟩) (fun h he => ?_) fun t' e => ?_
    · have h3 := he.of sub4
      have h2 := h3.of sub3
      rw [e1 h (h2.of sub2), e2 h h2, ey1 h h3, ey2 h he]; rfl
    · have : ([Sum.inr "fork", Sum.inl d, Sum.inl x, y1, y2] : List Key) = t' := by simpa using e
      rw [← this, sz]
      show 190 + szK y1 + szK y2 + 62 ≤ 252 + szP l + szP r
      omega
theorem cV.s {H:Hp} {v:V} {b lo hi:Int} {p:bf} (w:cV H v b lo hi p):dX H v p:=⟨w.w.w,⟨b,lo,hi,0,0,w.e,by decide,by have:=w.e.b1;omega,w.w.ok⟩,w.f,w.z⟩
theorem cV.mono {H H':Hp} {v:V} {b lo hi:Int} {p:bf} (w:cV H v b lo hi p) (k:∀ b xs,H b=some (.tup xs)→H' b=some (.tup xs)):cV H' v b lo hi p:=⟨w.e,⟨w.w.w.keepT k (qb p),w.w.ok,w.w.d0,w.w.d1,w.w.g0,w.w.g1⟩,w.f,w.t,w.z⟩
theorem jz {b lo hi:Int} (e:dE b lo hi):bj b lo hi 0 0=true:=by
 unfold bj
 have h1:=e.hi1
 have h2:=e.lo0
 have h3:=e.le
 rw [Int.sub_zero,decide_eq_true (by omega),decide_eq_true (by omega)];rfl
theorem cV.nc {H:Hp} {v:V} {b lo hi:Int} {p:bf} (w:cV H v b lo hi p):ib p=false:=by
 have h:=w.w.ok
 have m:=jz w.e
 cases p with
 | cut c=>have:=h.1;rw [m] at this;cases this
 | _=>rfl
theorem Cg (K:W.Frag) (A:Adr):Ln (li K A) 5:=by rintro vs H Q E ⟨_,_,_,_,_,_,_,_,_,rfl,_⟩;rfl
theorem EL (T:Txt K mg A):Rd (li K A) (Ku K A) ["stamper", "bits", "low", "high", "paper"]:=by
 intro vs H Q E h
 obtain ⟨f,b,c,lo,hi,v,p,g,n,rfl,w,sp,hn,q⟩:=h
 have hf:=w.f
 have ht:=w.t
 refine ⟨c,lo,hi,v,p,rfl,w,fun H2 s2=>?_⟩
 refine ⟨f,b,v,p,g,n,rfl,w.s.keep (fun c xs e=>s2 c _ e),by omega,sp.same (Nat.le_refl _) s2,by omega,fun L ps ts g' H' kt sp' sub hL pk e lo'=>?_⟩
 exact q L ps ts g' H' ((aT.same s2).trans kt) (sp'.same (by omega) (.refl _)) sub hL pk e
theorem Bi (K:W.Frag) (A:Adr):Ln (oA K A) 5:=by rintro vs H Q E ⟨_,_,_,_,_,_,_,_,_,rfl,_⟩;rfl
theorem mP {H:Hp} {f b L:Addr} {p:bf} {ps:List Addr} {ts:List (List Key)} {g:gOp} {n:Nat} {R:VK} (sp:Stp A H f b g n) (hn:n≤45000) (hc:ib p=false) (hL:H L=some (.lst (ps.map V.ref))) (pk:PK H ps ts) (ht:∀ h,Ext g h→ts=bz h p)
  (q:∀ (x:Key) (g':gOp) (H':Hp),aT b H H'→Stp A H' f b g' (n+1)→Sub g g'→(∀ h,Ext g' h→x=dn h p)→R (kV x) H'):aQ K (.ref L) (.int (-1)) H (fun y H1=>rP (iB K A) f [y] H1 R E0):=by
 obtain ⟨pre,e⟩:=gf (iz g) hc
 have ets:=ht _ (bR g)
 rw [e] at ets
 subst ets
 obtain ⟨qs,pc,rfl,hpc,okc⟩:=qw pk
 refine qA hL (lW sp hn hpc okc fun x H2 g2 kt sp2 sub gv so=>?_)
 refine q x g2 H2 kt sp2 sub (fun h he=>?_)
 obtain ⟨pre',e'⟩:=gf h hc
 have e2:=(ht h (he.of sub)).trans e'
 have e3:=(List.append_inj' e2 rfl).2
 have e4:kz (iz g) p=kz h p:=List.cons.inj e3 |>.1
 rw [oQ h hc,←e4]
 exact (he _ _ gv).symm
theorem Fc (T:Txt K mg A):Rd (oA K A) (JR K A) ["stamper", "bits", "low", "high", "paper"]:=by
 intro vs H Q E h
 obtain ⟨f,b,c,lo,hi,v,p,g,n,rfl,w,sp,hn,q⟩:=h
 refine ⟨f,rfl,sp.clo,f,b,c,lo,hi,v,p,g,n,rfl,w,sp,hn,fun L ps ts g1 H1 kt sp1 sub hL pk e=>?_⟩
 exact mP sp1 (by omega) w.nc hL pk e fun x g2 H2 kt2 sp2 sub2 ex=>q x g2 H2 (kt.trans kt2) sp2 (sub.trans sub2) ex
def eR:List Key→Option (Int×Str)
 | [.inr w,.inl k,.inr z]=>if w= "leaf" then some (k,z) else none
 | _=>none
theorem pT (k:Int) (z:Str):eR [.inr "leaf",.inl k,.inr z]=some (k,z):=by
 show (if ("leaf" :Str)= "leaf" then some (k,z) else none)=some (k,z)
 rw [if_pos rfl]
theorem sm (h : List Key → Key) (p : bf) : (bz h p).filterMap eR = cA p := by
  induction p with
  | cut m => rfl
  | bare => rfl
  | leaf k z => show [_].filterMap eR = _; rw [List.filterMap_cons, pT]; rfl
  | fork d b l r hl hr =>
    show (bz h l ++ bz h r ++ [_]).filterMap eR = cA l ++ cA r
    rw [List.filterMap_append, List.filterMap_append, hl, hr]
    show cA l ++ cA r ++ [] = _
    rw [List.append_nil]
theorem sY {h : List Key → Key} {p : bf} {t : List Key} (ht : t ∈ bz h p) : t = [.inr "bare"] ∨ (∃ k z, t = [.inr "leaf", .inl k, .inr z]) ∨ ∃ d b x y, t = [.inr "fork", .inl d, .inl b, x, y] := by
  induction p with
  | cut m => cases ht
  | bare => exact .inl (List.mem_singleton.mp ht)
  | leaf k z => exact .inr (.inl ⟨k, z, List.mem_singleton.mp ht⟩)
  | fork d b l r hl hr =>
    have ht : t ∈ bz h l ++ bz h r ++ [_] := ht
    rcases List.mem_append.mp ht with ht | ht
    · rcases List.mem_append.mp ht with ht | ht
      · exact hl ht
      · exact hr ht
    · exact .inr (.inr ⟨_, _, _, _, List.mem_singleton.mp ht⟩)
theorem rA {H:Hp} {ps:List Addr} {ts:List (Int×Str)} {p:Addr} {t:Int×Str} (h:PR H ps ts) (e:H p=some (.tup ((wU t).map kV))):PR H (ps++[p]) (ts++[t]):=by
 induction h with
 | nil=>exact .cons e .nil
 | cons r t ih=>exact .cons r ih
theorem jQ {H H':Hp} {ps:List Addr} {ts:List (Int×Str)} (k:∀ b xs,H b=some (.tup xs)→H' b=some (.tup xs)) (h:PR H ps ts):PR H' ps ts:=L2.Paired.imp' (fun p x e=>k _ _ e) h
theorem xc {ps:List Addr} {i:Nat} {p:Addr} (h:ps[i]?=some p):(ps.map V.ref).getD i .non=.ref p:=by
 rw [List.getD_eq_getElem?_getD,List.getElem?_map,h];rfl
theorem jc {α:Type} {l:List α} {i:Nat} {x:α} (h:l[i]?=some x):l.take (i+1)=l.take i++[x]:=by rw [List.take_add_one,h];rfl
theorem CN (K:W.Frag) (A:Adr):Ln (nY K A) 3:=by rintro vs H Q E ⟨_,_,_,_,_,_,rfl,_⟩;rfl
theorem Fv (T:Txt K mg A):Rd (nY K A) (Kt K A) ["low", "high", "terms"]:=by
 intro vs H Q E h
 obtain ⟨L,lo,hi,ps,hh,p,rfl,hL,pk,hl,q⟩:=h
 obtain ⟨_,_,l1,l2,l3,l4⟩:=jx
 have pl:=kT pk
 refine ⟨L,rfl,.inl ⟨⟨_,SqL.of hL⟩,fun D hD=>?_⟩⟩
 have hLD:L≠D:=az hL hD
 refine hZ (eO.list (xs:=ps.map V.ref) .non) (fun i ys H2=>∃ rs:List Addr,ys=rs.map V.ref∧H2 D=some (.lst ys)∧au H H2∧rs.length≤i∧PR H2 rs ((((bz hh p).take i).filterMap eR).filter (inI lo hi)))
   (fun i ys H2 _ ⟨_,_,_,s2,_⟩=>SqL.of (s2 _ _ hL)) ⟨[],rfl,aj,au.upd hD,Nat.le_refl _,.nil⟩ ?_ ?_
 · rintro i ys H2 hi' ⟨rs,rfl,hd,s2,hrl,pr⟩
   rw [List.length_map] at hi'
   obtain ⟨t,ht⟩:∃ t,(bz hh p)[i]?=some t:=⟨_,List.getElem?_eq_getElem (by omega)⟩
   obtain ⟨a,ha,hat,_⟩:=uK pk ht
   have e0:=xc ha
   have hi2:i<(ps.map V.ref).length:=by rw [List.length_map];exact hi'
   have ha2:=s2 _ _ hat
   show (tOp (aQ K) (ac 0) (tC (.int 0))) [some ((ps.map V.ref).getD i .non),some (.int lo),some (.int hi)] H2 _
   have skip:eR t=none→CWd (ps.map V.ref).length (fun i ys H2=>∃ rs:List Addr,ys=rs.map V.ref∧H2 D=some (.lst ys)∧au H H2∧rs.length≤i∧PR H2 rs ((((bz hh p).take i).filterMap eR).filter (inI lo hi))) (i+1) ((ps.map V.ref).length - (i+1)) (rs.map V.ref) H2:=fun hr=>by
     refine ⟨hi2,rfl,rs,rfl,hd,s2,by omega,?_⟩
     rw [jc ht,List.filterMap_append]
     have:[t].filterMap eR=[]:=by rw [List.filterMap_cons,hr];rfl
     rw [this,List.append_nil];exact pr
   have go:∀ B,(aQ K (.ref a) (.int 0) H2 B)→(tOp (aQ K) (ac 0) (tC (.int 0))) [some ((ps.map V.ref).getD i .non),some (.int lo),some (.int hi)] H2 B:=fun B hB=>by
     show aQ K ((ps.map V.ref).getD i .non) (.int 0) H2 B
     rw [e0];exact hB
   refine go _ ?_
   rcases sY (List.mem_of_getElem? ht) with rfl | ⟨k,z,rfl⟩ | ⟨d,b,x,y,rfl⟩
   · exact ixT (j:=0) ha2 rfl rfl (Sel.no l2 (sy ⟨_,by omega,skip rfl⟩))
   · refine ixT (j:=0) ha2 rfl rfl (Sel.yes l3 ?_)
     show aQ K ((ps.map V.ref).getD i .non) (.int 1) H2 _
     rw [e0]
     refine ixT (j:=1) ha2 rfl rfl ?_
     have step:∀ b:Bool,inI lo hi (k,z)=b→((((bz hh p).take (i+1)).filterMap eR).filter (inI lo hi))=((((bz hh p).take i).filterMap eR).filter (inI lo hi))++(if b=true then [(k,z)] else []):=fun b hb=>by
       rw [jc ht,List.filterMap_append]
       have:[([Sum.inr "leaf",Sum.inl k,Sum.inr z]:List Key)].filterMap eR=[(k,z)]:=by rw [List.filterMap_cons,pT];rfl
       rw [this,List.filter_append]
       cases b with
       | true=>rw [List.filter_cons_of_pos hb];rfl
       | false=>rw [List.filter_cons_of_neg (by rw [hb];decide)];rfl
     have out:inI lo hi (k,z)=false→∃ m',m'<(ps.map V.ref).length - i∧CWd (ps.map V.ref).length (fun i ys H2=>∃ rs:List Addr,ys=rs.map V.ref∧H2 D=some (.lst ys)∧au H H2∧rs.length≤i∧PR H2 rs ((((bz hh p).take i).filterMap eR).filter (inI lo hi))) (i+1) m' (rs.map V.ref) H2:=fun hb=>by
       refine CWd.next hi2 ⟨rs,rfl,hd,s2,by omega,?_⟩
       rw [step false hb]
       show PR H2 rs (_++[])
       rw [List.append_nil];exact pr
     refine Sel.dec (fun h1=>?_) (fun h1=>sy (out (by unfold inI;rw [decide_eq_false h1];rfl)))
     show (if decide (k≤hi)=true then _ else _)
     by_cases h2:k≤hi
     · rw [if_pos (decide_eq_true h2)]
       refine ixT (j:=1) ha2 rfl rfl ?_
       refine ixT (j:=2) ha2 rfl rfl ⟨by show 2≤sizeLine;decide,fun t hT=>?_⟩
       have s3:=au.upd (o:=.tup [V.int k,V.str z]) hT
       have ne:D≠t:=az hd hT
       have ne2:t≠D:=fun z=>ne z.symm
       refine ⟨s3 _ _ hd,by rw [List.length_map];exact Nat.lt_of_le_of_lt (m:=1000) (by omega) (by decide),CWd.next hi2 ⟨rs++[t],by rw [List.map_append];rfl,aj,(s2.trans s3).put hD,by rw [List.length_append];show _+1≤_;omega,?_⟩⟩
       rw [step true (by unfold inI;rw [decide_eq_true h1,decide_eq_true h2];rfl)]
       refine rA (jQ (fun c xs e=>?_) pr) ?_
       · have hc:c≠D:=fun z=>by rw [z,hd] at e;cases e
         rw [ap hc];exact s3 _ _ e
       · rw [ap ne2];exact aj
     · rw [if_neg (by rw [decide_eq_false h2];decide)]
       exact out (by unfold inI;rw [decide_eq_false h2,Bool.and_false])
   · exact ixT (j:=0) ha2 rfl rfl (Sel.no l4 (sy ⟨_,by omega,skip rfl⟩))
 · rintro ys H2 ⟨rs,rfl,hd,s2,hrl,pr⟩
   rw [List.length_map,pl,List.take_length,sm] at pr
   exact q D rs H2 s2 hD hd pr
theorem BL (K:W.Frag) (A:Adr):Ln (lM K A) 6:=by rintro vs H Q E ⟨_,_,_,_,_,_,_,_,_,_,rfl,_⟩;rfl
theorem Gy (T:Txt K mg A):Rd (lM K A) (IT K A) ["stamper", "bits", "mark", "low", "high", "paper", "terms", "came"]:=by
 intro vs H Q E h
 obtain ⟨f,b,c,lo,hi,v,p,g,n,x,rfl,w,sp,hn,hx,q⟩:=h
 refine ⟨f,b,c,lo,hi,v,p,g,n,rfl,w,sp,hn,fun L ps ts g1 H1 kt sp1 sub hL pk e=>?_⟩
 refine ⟨f,rfl,sp1.clo,mP sp1 (by omega) w.nc hL pk e fun y g2 H2 kt2 sp2 sub2 ey=>?_⟩
 have e1:=hx _ ((bR g2).of (sub.trans sub2))
 have e2:=ey _ (bR g2)
 rw [← e2] at e1
 subst e1
 refine pj (Sel.no rfl ?_)
 have ets:=e _ (bR g1)
 subst ets
 have hm:=md p
 have hf:=w.f
 refine ⟨L,lo,hi,ps,iz g1,p,rfl,sp1.lst kt2 _ _ hL,gn (sp1.tup kt2) pk,by rw [jp];omega,fun M rs H3 s3 hM hM3 pr=>?_⟩
 exact q M rs g2 H3 ((kt.trans kt2).trans (aT.same s3)) (sp2.same (Nat.le_refl _) s3) (sub.trans sub2) hM3 pr
theorem CM (K:W.Frag) (A:Adr):Ln (og K A) 2:=by rintro vs H Q E ⟨x,rfl,_⟩;rfl
theorem EH (T : Txt K mg A) : Rd (og K A) (KR K A) ["_law_found", "_law_due_here"] := by
  intro vs H Q E h
  obtain ⟨x, rfl, q⟩ := h
  cases x with
  | inl i =>
    have e : decide (i = i) = true := decide_eq_true rfl
    rw [← e] at q
    exact ⟨by decide, "int", rfl, Sel.no rfl ⟨by decide, "int", rfl, Sel.yes rfl ⟨by decide, "int", rfl, Sel.yes rfl q⟩⟩⟩
  | inr z =>
    have e : decide (z = z) = true := decide_eq_true rfl
    rw [← e] at q
    exact ⟨by decide, "str", rfl, Sel.yes rfl ⟨by decide, "str", rfl, Sel.yes rfl q⟩⟩
theorem Bb (K:W.Frag) (A:Adr):Ln (nS K A) 2:=by rintro vs H Q E ⟨p,r,k,rfl,_⟩;rfl
theorem HP (T:Txt K mg A):Rd (nS K A) (KP K A) ["_law_found", "_law_due_here", "_law_k"]:=by
 intro vs H Q E h
 obtain ⟨p,r,k,rfl,hp,hr,hk,q⟩:=h
 have ty:tyN H (.ref p)=some "tuple" :=by unfold tyN;dsimp only;rw [hp]
 refine ⟨by decide, "tuple",ty,Sel.no rfl (.inl (.inr (.inl ⟨_,SqT.of hp,.inl (.inr (.inl ⟨_,SqT.of hr,?_⟩))⟩)))⟩
 refine Sel.no (by simp) (.inl (.inr (.inl ⟨_,SqT.of hr,_,rfl,by omega,by simp;omega,?_⟩)))
 have hn:(((k.map kV).length:Nat):Int).toNat=k.length:=by simp
 rw [hn]
 refine je (fun i σ H'=>H'=H∧∃ x2,σ=[some (.ref p),some (.ref r),x2]) ⟨rfl,none,rfl⟩ ?_ ?_
 · rintro i σ _ hi ⟨rfl,x2,rfl⟩
   obtain ⟨x,hx⟩:∃ x,k[i]?=some x:=⟨_,List.getElem?_eq_getElem hi⟩
   have hx2:(k.map kV)[i]?=some (kV x):=by rw [List.getElem?_map,hx];rfl
   refine ixT (j:=i) hp (by omega) hx2 (ixT (j:=i) hr (by omega) hx2 ⟨x,rfl,Sel.no rfl ⟨rfl,_,rfl⟩⟩)
 · rintro σ _ ⟨rfl,x2,rfl⟩
   exact q
theorem tW {H : Hp} {ps : List Addr} {ts : List (List Key)} (h : PT H ps ts) : ∀ {i : Nat} {t : List Key}, ts[i]? = some t → ∃ p, ps[i]? = some p ∧ H p = some (.tup (t.map kV)) ∧ t.length ≤ 8 := by
  induction h with
  | nil => intro i t e; cases e
  | cons a _ ih =>
    intro i t e
    cases i with
    | zero => cases e; exact ⟨_, rfl, a⟩
    | succ i => exact ih e
theorem tX {H:Hp} {ps:List Addr} {ts:List (List Key)} (h:PT H ps ts):ps.length=ts.length:=Paired.length h
theorem CF (K:W.Frag) (A:Adr):Ln (ly K A) 2:=by rintro vs H Q E ⟨_,_,_,_,_,rfl,_⟩;rfl
theorem HV (T:Txt K mg A):Rd (ly K A) (JW K A) ["_law_found", "_law_due_here", "_law_k"]:=by
 intro vs H Q E h
 obtain ⟨L,M,ps,rs,ts,rfl,hL,hM,w1,w2,hl,q⟩:=h
 have l1:=tX w1
 have l2:=tX w2
 have ty:tyN H (.ref L)=some "list" :=by unfold tyN;dsimp only;rw [hL]
 refine ⟨by decide, "list",ty,Sel.no rfl (.inl (.inl ⟨_,SqL.of hL,.inl (.inl ⟨_,SqL.of hM,?_⟩)⟩))⟩
 refine Sel.no (by simp;omega) (.inl (.inl ⟨_,SqL.of hM,_,rfl,by omega,by simp;omega,?_⟩))
 have hn:(((rs.map V.ref).length:Nat):Int).toNat=ts.length:=by simp;omega
 rw [hn]
 refine je (fun i σ H'=>H'=H∧∃ x2,σ=[some (.ref L),some (.ref M),x2]) ⟨rfl,none,rfl⟩ ?_ ?_
 · rintro i σ _ hi ⟨rfl,x2,rfl⟩
   obtain ⟨t,ht⟩:∃ t,ts[i]?=some t:=⟨_,List.getElem?_eq_getElem hi⟩
   obtain ⟨p,hp,hp2,ok⟩:=tW w1 ht
   obtain ⟨r,hr,hr2,_⟩:=tW w2 ht
   have e1:(ps.map V.ref)[i]?=some (.ref p):=by rw [List.getElem?_map,hp];rfl
   have e2:(rs.map V.ref)[i]?=some (.ref r):=by rw [List.getElem?_map,hr];rfl
   refine ixL (j:=i) hL (by omega) e1 (ixL (j:=i) hM (by omega) e2 ⟨p,r,t,rfl,hp2,hr2,ok,Sel.no rfl ⟨rfl,_,rfl⟩⟩)
 · rintro σ _ ⟨rfl,x2,rfl⟩
   exact q
theorem lu {H:Hp} {ps:List Addr} {ts:List (Int×Str)} (h:PR H ps ts):PT H ps (ts.map wU):=by
 induction h with
 | nil=>exact .nil
 | cons r t ih=>exact .cons ⟨r,by show 2≤8;decide⟩ ih
theorem Ct (K:W.Frag) (A:Adr):Ln (nU K A) 3:=by rintro vs H Q E ⟨_,_,_,rfl,_⟩;rfl
theorem EN (T:Txt K mg A):Rd (nU K A) (KS K A) ["_law_bits_here", "_law_one", "_law_other", "_law_low", "_law_high"]:=by
 intro vs H Q E h
 obtain ⟨b,c,e,rfl,b1,b60,q⟩:=h
 have W:=fu b.toNat
 have W2:=oH b60
 have last:∀ (lo hi:Int) (H2:Hp),au H H2→0≤lo→lo<2^b.toNat→0≤hi→hi<2^b.toNat→vm K A { nx:=fun _ H'=>Q .non H',rt:=Q } [some (.int b),some (.int c),some (.int e),some (.int lo),some (.int hi)] H2:=fun lo hi H2 s2 l0 l1 h0 h1=>by
   refine ⟨by decide,Sel.dec (fun _=>?_) (fun _=>?_)⟩
   · refine ⟨⟨by omega,by omega,by decide⟩,by show 2≤sizeLine;decide,fun t hT=>q t 0 (1*2^b.toNat - 1) _ (s2.trans (au.upd hT)) aj ⟨b1,b60,by decide,by rw [Int.one_mul];omega,by rw [Int.one_mul];omega⟩⟩
   · refine ⟨by show 2≤sizeLine;decide,fun t hT=>q t (if hi<lo then hi else lo) (if hi>lo then hi else lo) _ (s2.trans (au.upd hT)) aj ⟨b1,b60,?_,?_,?_⟩⟩
     · split <;> omega
     · split <;> split <;> omega
     · split <;> omega
 have mid:∀ (lo hi:Int) (H2:Hp),au H H2→0≤lo→lo<2^b.toNat→0≤hi→hi<2^b.toNat→tR K A { nx:=fun _ H'=>Q .non H',rt:=Q } [some (.int b),some (.int c),some (.int e),some (.int lo),some (.int hi)] H2:=fun lo hi H2 s2 l0 l1 h0 h1=>
   ⟨by decide,Sel.dec (fun _=>last lo lo H2 s2 l0 l1 l0 l1) (fun _=>last lo hi H2 s2 l0 l1 h0 h1)⟩
 refine ⟨by show 0≤sizeLine;decide,fun p hp=>⟨b,c,p,[],rfl,b1,b60,aj,by decide,(fun k hk=>by cases hk),fun lo H1 s1 l0 l1=>?_⟩⟩
 refine ⟨by show 1≤sizeLine;decide,fun p2 hp2=>⟨b,e,p2,[lo],rfl,b1,b60,aj,by show 1≤100;decide,(fun k hk=>by rw [List.mem_singleton.mp hk];exact ⟨l0,l1⟩),fun hi H2 s2 h0 h1=>?_⟩⟩
 have S:=((au.upd hp).trans s1).trans ((au.upd hp2).trans s2)
 refine ⟨by decide,Sel.dec (fun _=>?_) (fun _=>mid lo hi H2 S l0 l1 h0 h1)⟩
 refine ⟨⟨by decide,by decide⟩,by decide,⟨by omega,by omega,by decide⟩,?_⟩
 refine mid lo (if 1*2^b.toNat - 1<lo+e/7%40 then 1*2^b.toNat - 1 else lo+e/7%40) H2 S l0 l1 ?_ ?_
 · rw [Int.one_mul];split <;> omega
 · rw [Int.one_mul];split <;> omega
theorem p2z {k B:Nat} (h:k<2^B):(k:Int)<2^((B:Nat):Int).toNat:=by
 have:((k:Nat):Int)<((2^B:Nat):Int):=by omega
 rw [dY] at this;simpa using this
theorem cY {h:List Key→Key} {B lo hi d g:Int} {t:Kn Str} (hm:bj B lo hi d g=false):bp h B lo hi d g t=.cut (h (cZ h t)):=by
 cases t <;> (unfold bp;rw [if_neg (by rw [hm];decide)])
theorem dC {h:List Key→Key} {B lo hi d g:Int} (hm:bj B lo hi d g=true):bp h B lo hi d g .bare=.bare:=by unfold bp;rw [if_pos hm]
theorem eD {h:List Key→Key} {B lo hi d g:Int} {k:Nat} {z:Str} (hm:bj B lo hi d g=true):bp h B lo hi d g (.leaf k z)=.leaf k z:=by unfold bp;rw [if_pos hm]
theorem eA {h:List Key→Key} {B lo hi d g:Int} {e b:Nat} {l r:Kn Str} (hm:bj B lo hi d g=true):bp h B lo hi d g (.fork e b l r)=.fork e b (bp h B lo hi ((e:Int)+1) (2*(b:Int)) l) (bp h B lo hi ((e:Int)+1) (2*(b:Int)+1) r):=by
 rw [bp,if_pos hm]
theorem gQ {h : List Key → Key} {B lo hi : Int} : ∀ {t : Kn Str} {d g : Int}, dn h (bp h B lo hi d g t) = h (cZ h t)
  | .bare, d, g => by
    cases hm : bj B lo hi d g with
    | false => rw [cY hm]; rfl
    | true => rw [dC hm]; rfl
  | .leaf k z, d, g => by
    cases hm : bj B lo hi d g with
    | false => rw [cY hm]; rfl
    | true => rw [eD hm]; rfl
  | .fork e b l r, d, g => by
    cases hm : bj B lo hi d g with
    | false => rw [cY hm]; rfl
    | true =>
      rw [eA hm]
      show h [.inr "fork", .inl (e : Int), .inl (b : Int), dn h _, dn h _] = _
      rw [gQ, gQ]; rfl
theorem pO {B d k g:Nat} (hd:d≤B) (h:st B k d=g):(g:Int)*2^((B:Int) - (d:Int)).toNat≤(k:Int)∧(k:Int)≤((g:Int)+1)*2^((B:Int) - (d:Int)).toNat - 1:=by
 have e:((B:Int) - (d:Int)).toNat=B - d:=by omega
 rw [e]
 subst h
 unfold st
 have p:=Nat.two_pow_pos (B - d)
 have h1:=Nat.div_add_mod k (2^(B - d))
 have h2:=Nat.mod_lt k p
 rw [← dY]
 have h3:((k/2^(B - d):Nat):Int)*((2^(B - d):Nat):Int)=((2^(B - d)*(k/2^(B - d)):Nat):Int):=by rw [← Int.natCast_mul,Nat.mul_comm]
 rw [Int.add_mul,Int.one_mul,h3]
 omega
theorem far {B lo hi d g:Int} {k:Int} (hm:bj B lo hi d g=false) (h1:g*2^(B - d).toNat≤k) (h2:k≤(g+1)*2^(B - d).toNat - 1) (x:Int×Str) (hx:x.1=k):inI lo hi x=false:=by
 unfold bj at hm
 unfold inI
 rw [hx]
 by_cases c1:lo≤k
 · by_cases c2:k≤hi
   · rw [decide_eq_true (by omega),decide_eq_true (by omega)] at hm;cases hm
   · rw [decide_eq_false c2,Bool.and_false]
 · rw [decide_eq_false c1,Bool.false_and]
theorem iy {h : List Key → Key} {B : Nat} {lo hi : Int} : ∀ {t : Kn Str} {d0 b0 : Nat}, d0 ≤ B → b0 < 2 ^ d0 → WF B d0 b0 t → rF h t → okP (h (cZ h t)) = true → szK (h (cZ h t)) ≤ szN t →
    gr (B : Int) lo hi (d0 : Int) (b0 : Int) (bp h B lo hi d0 b0 t) ∧ bE (bp h B lo hi d0 b0 t) + 1 ≤ (aG t).length ∧ cD (bp h B lo hi d0 b0 t) ≤ hgt t ∧ szP (bp h B lo hi d0 b0 t) ≤ szN t ∧
      (cA (bp h B lo hi d0 b0 t)).filter (inI lo hi) = (eF t).filter (inI lo hi)
  | .bare, _, _, _, _, w, _, _, _ => w.elim
  | .leaf k z, d0, b0, h0, hb0, w, mk, ok, sz => by
    have sp := pO h0 w.2
    cases hm : bj (B : Int) lo hi d0 b0 with
    | false =>
      rw [cY hm]
      refine ⟨⟨hm, ok⟩, Nat.le_refl _, Nat.le_refl _, sz, ?_⟩
      show [] = ([((k : Int), z)] : List (Int × Str)).filter (inI lo hi)
      rw [List.filter_cons_of_neg (by rw [far hm sp.1 sp.2 _ rfl]; decide)]; rfl
    | true =>
      rw [eD hm]
      refine ⟨⟨hm, by omega, p2z w.1, mk.2, mk.1, ?_⟩, Nat.le_refl _, Nat.le_refl _, by show 312 ≤ 400; decide, rfl⟩
      rw [lU, w.2]
  | .fork e b l r, d0, b0, h0, hb0, w, mk, ok, sz => by
    have w0 := w
    obtain ⟨w1, w2, w3, wl, wr⟩ := w
    obtain ⟨dp, _⟩ := w0.dp hb0
    obtain ⟨_, hb, _, _⟩ := dp
    have rl : (aG (Kn.fork e b l r)).length = (aG l).length + (aG r).length := List.length_append
    have one : ∀ {u : Kn Str} {d1 b1 : Nat}, WF B d1 b1 u → 1 ≤ (aG u).length := fun {u d1 b1} wu => by
      obtain ⟨p, hp⟩ := WF.ne (B := B) (d0 := 0) (b0 := 0) wu
      exact List.length_pos_of_mem hp
    have ol := one wl
    have or' := one wr
    cases hm : bj (B : Int) lo hi d0 b0 with
    | false =>
      rw [cY hm]
      refine ⟨⟨hm, ok⟩, by show 0 + 1 ≤ _; omega, Nat.zero_le _, sz, ?_⟩
      show [] = _
      symm
      rw [List.filter_eq_nil_iff]
      intro x hx
      obtain ⟨p, hp, rfl⟩ := List.mem_map.mp hx
      have sp := pO h0 (w0.mem h0 p hp).2
      rw [far hm sp.1 sp.2 _ rfl]; decide
    | true =>
      rw [eA hm]
      have pw : 2 ^ (e + 1) = 2 * 2 ^ e := by rw [Nat.pow_succ, Nat.mul_comm]
      obtain ⟨l1, l2, l3, l4, l5⟩ := iy (lo := lo) (hi := hi) (show e + 1 ≤ B by omega) (show 2 * b < 2 ^ (e + 1) by omega) wl mk.2.2.1 mk.1.1 mk.1.2
      obtain ⟨r1, r2, r3, r4, r5⟩ := iy (lo := lo) (hi := hi) (show e + 1 ≤ B by omega) (show 2 * b + 1 < 2 ^ (e + 1) by omega) wr mk.2.2.2 mk.2.1.1 mk.2.1.2
      have c1 : ((e + 1 : Nat) : Int) = (e : Int) + 1 := by omega
      have c2 : ((2 * b : Nat) : Int) = 2 * (b : Int) := by omega
      have c3 : ((2 * b + 1 : Nat) : Int) = 2 * (b : Int) + 1 := by omega
      rw [c1, c2] at l1 l2 l3 l4 l5
      rw [c1, c3] at r1 r2 r3 r4 r5
      refine ⟨⟨hm, by omega, by omega, by omega, ?_, ?_, l1, r1⟩, ?_, ?_, ?_, ?_⟩
      · have := p2z hb; simpa using this
      · rw [show ((e : Int) - (d0 : Int)).toNat = e - d0 by omega, ← dY, ← Int.natCast_ediv, w3]
      · show bE _ + bE _ + 1 + 1 ≤ _; rw [rl]; omega
      · show max (cD _) (cD _) + 1 ≤ max (hgt l) (hgt r) + 1; omega
      · show 252 + szP _ + szP _ ≤ 300 + szN l + szN r; omega
      · show (cA _ ++ cA _).filter _ = ((aG l ++ aG r).map _).filter _
        rw [List.filter_append, l5, r5, List.map_append, List.filter_append]
theorem KnA.samePart {H : Hp} {g : List Key → Option Key} {x : Addr} {t : Kn Str} {m : Key} (k : KnA A H g x t m) {h h' : List Key → Key} (he : Ext g h) (he' : Ext g h') (B lo hi : Int) : ∀ {d0 g0 : Int}, bp h B lo hi d0 g0 t = bp h' B lo hi d0 g0 t := by
  have tm : ∀ {x : Addr} {t : Kn Str} {m : Key} {d0 g0 : Int}, KnA A H g x t m → bj B lo hi d0 g0 = false → bp h B lo hi d0 g0 t = bp h' B lo hi d0 g0 t := fun k hm => by rw [cY hm, cY hm, ← k.ext he, ← k.ext he']
  induction k with
  | bare o ht hm ok sz =>
    intro d0 g0
    cases c : bj B lo hi d0 g0 with
    | false => exact tm (.bare o ht hm ok sz) c
    | true => rw [dC c, dC c]
  | leaf o ht hm ok sz hz =>
    intro d0 g0
    cases c : bj B lo hi d0 g0 with
    | false => exact tm (.leaf o ht hm ok sz hz) c
    | true => rw [eD c, eD c]
  | fork o hl hr ht hm ok sz ih1 ih2 =>
    intro d0 g0
    cases c : bj B lo hi d0 g0 with
    | false => exact tm (.fork o hl hr ht hm ok sz) c
    | true => rw [eA c, eA c, ih1, ih2]
theorem CJ (K:W.Frag) (A:Adr) (n:Nat):Ln (ix K A n) 6:=by rintro vs H Q E ⟨_,_,_,_,_,_,_,_,_,rfl,_⟩;rfl
theorem yL (K:W.Frag) (A:Adr):∀ vs H Q E,¬ ix K A 0 vs H Q E:=by
 rintro vs H Q E ⟨_,_,_,_,_,_,_,_,_,_,_,_,_,_,_,_,_,h,_⟩
 omega
theorem FI (T : Txt K mg A) (n : Nat) : Rd (ix K A (n + 1)) (Ju K A n) ["bits", "low", "high", "depth", "begin", "knot", "left", "right"] := by
  intro vs H Q E h
  obtain ⟨B, lo, hi, d, gg, x, g, t, m, rfl, B60, d0, d1, g0, g1, k, dp, hh, q⟩ := h
  refine ⟨(B : Int), lo, hi, d, gg, rfl, d0, d1, by omega, g0, g1, fun H1 S1 => ?_⟩
  have k1 := k.same S1
  cases hm : bj (B : Int) lo hi d gg with
  | false =>
    obtain ⟨dx, p, fs, o, _⟩ := k1.ob
    refine Sel.yes rfl ⟨x, _, dx, _, _, rfl, o, (cQ T t).1, (cQ T t).2.1, rfl, aW (show 2 ≤ 1000000 by decide), fun r hr => q _ _ (S1.trans (au.upd hr)) ?_⟩
    rw [cY hm, ← k.ext (bR g)]
    exact .tup aj (.cons (.str _) (.cons (kP _ m) .nil))
  | true =>
    refine Sel.no rfl ?_
    obtain ⟨C, dz, fz, oz, c1, c2, c3⟩ := Dh T k1
    refine ⟨x, C, dz, fz, _, _, rfl, oz, c1, c2, c3, ?_⟩
    obtain ⟨dx, p, fs, o, hp⟩ := k1.term (bR g)
    cases t with
    | bare =>
      refine Sel.yes rfl ⟨x, _, dx, _, _, rfl, o, (cQ T .bare).1, (cQ T .bare).2.2, rfl, q _ _ S1 ?_⟩
      rw [dC hm]; exact qO (e := brT) hp
    | leaf kk z =>
      refine Sel.yes rfl ⟨x, _, dx, _, _, rfl, o, (cQ T (.leaf kk z)).1, (cQ T (.leaf kk z)).2.2, rfl, q _ _ S1 ?_⟩
      rw [eD hm]; exact qO (e := lfT kk z) hp
    | fork e b tl tr =>
      obtain ⟨l, r, ml, mr, fk, kl, kr⟩ := k1.fk
      obtain ⟨dy, tp, mm, oy⟩ := fk
      obtain ⟨p1, p2, p3, p4⟩ := dp
      have hh' : max (hgt tl) (hgt tr) + 1 < n + 1 := hh
      have pw : 2 ^ (e + 1) = 2 * 2 ^ e := by rw [Nat.pow_succ, Nat.mul_comm]
      have z1 : (2 * (b : Int)) < 2 ^ ((e : Int) + 1).toNat ∧ 2 * (b : Int) + 1 < 2 ^ ((e : Int) + 1).toNat := by
        rw [show ((e : Int) + 1).toNat = e + 1 by omega, ← dY]; omega
      refine Sel.no rfl ⟨x, _, dy, _, _, rfl, oy, T.cl_Fork, T.na_Fork_depth, rfl, ?_⟩
      refine ⟨x, _, dy, _, _, rfl, oy, T.cl_Fork, T.na_Fork_begin, rfl, my (by decide) (by decide), x, _, dy, _, _, rfl, oy, T.cl_Fork, T.na_Fork_left, rfl, ?_⟩
      refine ⟨B, lo, hi, (e : Int) + 1, 2 * (b : Int), l, g, tl, ml, rfl, B60, by omega, by omega, by omega, z1.1, kl, p3, by omega, fun v1 H2 S2 w1 => ?_⟩
      have oy2 := S2 _ _ oy
      refine ⟨x, _, dy, _, _, rfl, oy2, T.cl_Fork, T.na_Fork_depth, rfl, ?_⟩
      refine ⟨x, _, dy, _, _, rfl, oy2, T.cl_Fork, T.na_Fork_begin, rfl, my (by decide) (by decide), x, _, dy, _, _, rfl, oy2, T.cl_Fork, T.na_Fork_right, rfl, ?_⟩
      refine ⟨B, lo, hi, (e : Int) + 1, 2 * (b : Int) + 1, r, g, tr, mr, rfl, B60, by omega, by omega, by omega, z1.2, kr.same S2, p4, by omega, fun v2 H3 S3 w2 => ?_⟩
      have oy3 := S3 _ _ oy2
      refine ⟨x, _, dy, _, _, rfl, oy3, T.cl_Fork, T.na_Fork_depth, rfl, x, _, dy, _, _, rfl, oy3, T.cl_Fork, T.na_Fork_begin, rfl, aW (show 5 ≤ 1000000 by decide), fun u hu => ?_⟩
      have S4 := au.upd (o := .tup [.str "fork", .int (e : Int), .int (b : Int), v1, v2]) hu
      refine q _ _ (S1.trans (S2.trans (S3.trans S4))) ?_
      rw [eA hm]
      exact .tup aj (.cons (.str _) (.cons (.int _) (.cons (.int _) (.cons (w1.mono (S3.trans S4)) (.cons (w2.mono S4) .nil)))))
theorem Bn (K:W.Frag) (A:Adr):Ln (iV K A) 3:=by rintro vs H Q E ⟨_,_,_,_,_,_,_,_,rfl,_⟩;rfl
theorem TbA.paper {H H':Hp} {g:gOp} {x f:Addr} {B:Nat} {t:Kn Str} {m:Key} {lo hi:Int} {v:V} (ta:TbA A H g x f B t m) (ln:(aG t).length≤60) (en:dE (B:Int) lo hi) {h:List Key→Key} (he:Ext g h) (w:aY H' v (bi (bp h B lo hi 0 0 t))):cV H' v B lo hi (bp h B lo hi 0 0 t):=by
 obtain ⟨dx,y,o,ky⟩:=ta.ob
 have B60:=ta.B60
 have s:=ta.wf.szN
 have mt:=jz en
 have ok:=ky.ok
 rw [ky.ext he] at ok
 rcases ta.wf with rfl | wf
 · rw [dC mt] at w ⊢
   exact ⟨en,⟨w,⟨mt,rfl⟩,by decide,by omega,by decide,by decide⟩,by decide,by decide,by show 128≤90000;decide⟩
 · obtain ⟨p1,p2,p3,p4,_⟩:=iy (lo:=lo) (hi:=hi) (Nat.zero_le _) (by decide) wf (ky.mk he) ok.1 ok.2
   have hg:=(ta.wf.dp).2
   exact ⟨en,⟨w,p1,by decide,by omega,by decide,by decide⟩,by have:bE (bp h B lo hi 0 0 t)+1≤(aG t).length:=p2;omega,by have:cD (bp h B lo hi 0 0 t)≤hgt t:=p3;omega,by have:szP (bp h B lo hi 0 0 t)≤szN t:=p4;omega⟩
theorem EJ (T:Txt K mg A):Rd (iV K A) (JJ K A) ["table", "low", "high"]:=by
 intro vs H Q E h
 obtain ⟨x,f,g,B,t,m,lo,hi,rfl,ta,ln,en,q⟩:=h
 obtain ⟨dx,y,o,ky⟩:=ta.ob
 have B60:=ta.B60
 have hg:=(ta.wf.dp).2
 refine ⟨x,_,dx,_,_,rfl,o,T.cl_Table,T.na_Table_bits,rfl,(B:Int),lo,hi,rfl,en,?_⟩
 refine ⟨x,_,dx,_,_,rfl,o,T.cl_Table,T.na_Table_bits,rfl,x,_,dx,_,_,rfl,o,T.cl_Table,T.na_Table_top,rfl,?_⟩
 refine ⟨B,lo,hi,0,0,y,g,t,m,rfl,B60,by decide,by omega,by decide,by decide,ky,(ta.wf.dp).1,by omega,fun v H1 S1 w=>?_⟩
 exact q v _ H1 S1 (ta.paper ln en (bR g) w) fun h he=>ky.samePart (bR g) he _ _ _
theorem Bm (K:W.Frag) (A:Adr) (n:Nat):Ln (iC K A n) 1:=by rintro vs H Q E ⟨_,_,rfl,_⟩;rfl
theorem yK (K:W.Frag) (A:Adr):∀ vs H Q E,¬ iC K A 0 vs H Q E:=by
 rintro vs H Q E ⟨_,_,_,_,h,_⟩
 omega
theorem II (T : Txt K mg A) (n : Nat) : Rd (iC K A (n + 1)) (Ky K A n) ["_law_part"] := by
  intro vs H Q E h
  obtain ⟨v, p, rfl, w, ht, q⟩ := h
  obtain ⟨⟨c1, c2, c3, c4⟩, ⟨f1, f2, f3, f4⟩, _⟩ := jx
  cases p with
  | cut c =>
    obtain ⟨a, rfl, ha⟩ := ig w
    refine ixT (j := 0) ha rfl rfl (Sel.no f1 (ixT (j := 0) ha rfl rfl ?_))
    show Q (.int (if decide (("cut" : Str) = "cut") = true then 1 else 0)) H
    rw [c1]; exact q
  | bare =>
    obtain ⟨a, rfl, ha⟩ := jB w
    refine ixT (j := 0) ha rfl rfl (Sel.no f2 (ixT (j := 0) ha rfl rfl ?_))
    show Q (.int (if decide (("bare" : Str) = "cut") = true then 1 else 0)) H
    rw [c2]; exact q
  | leaf k z =>
    obtain ⟨a, rfl, ha⟩ := jC w
    refine ixT (j := 0) ha rfl rfl (Sel.no f3 (ixT (j := 0) ha rfl rfl ?_))
    show Q (.int (if decide (("leaf" : Str) = "cut") = true then 1 else 0)) H
    rw [c3]; exact q
  | fork d x l r =>
    obtain ⟨a, vl, vr, rfl, ha, wl, wr⟩ := jF w
    have ht' : max (cD l) (cD r) + 1 < n + 1 := ht
    refine ixT (j := 0) ha rfl rfl (Sel.yes f4 (ixT (j := 3) ha rfl rfl ⟨vl, l, rfl, wl, by omega, ixT (j := 4) ha rfl rfl ⟨vr, r, rfl, wr, by omega, ?_⟩⟩))
    have e : ((dm (.fork d x l r) : Nat) : Int) = (dm l : Int) + (dm r : Int) := by show ((dm l + dm r : Nat) : Int) = _; omega
    rw [e] at q; exact q
theorem jg {B lo hi d g:Int}:bj B lo hi d g=true↔g*2^(B - d).toNat≤hi∧lo≤(g+1)*2^(B - d).toNat - 1:=by
 unfold bj
 rw [Bool.and_eq_true,decide_eq_true_eq,decide_eq_true_eq]
theorem mG {h : List Key → Key} {B : Nat} {lo hi : Int} (le : lo ≤ hi) : ∀ {t : Kn Str} {d0 b0 : Nat}, d0 ≤ B → WF B d0 b0 t → bj (B : Int) lo hi d0 b0 = true →
    (dm (bp h B lo hi d0 b0 t) : Int) ≤ (if lo ≤ (b0 : Int) * 2 ^ ((B : Int) - (d0 : Int)).toNat then 0 else (B : Int) - d0) + (if ((b0 : Int) + 1) * 2 ^ ((B : Int) - (d0 : Int)).toNat - 1 ≤ hi then 0 else (B : Int) - d0)
  | .bare, _, _, _, w, _ => w.elim
  | .leaf k z, d0, b0, h0, w, hm => by
    rw [eD hm]
    show ((0 : Nat) : Int) ≤ _
    split <;> split <;> omega
  | .fork e b l r, d0, b0, h0, w, hm => by
    obtain ⟨w1, w2, w3, wl, wr⟩ := w
    rw [eA hm]
    have c1 : ((e + 1 : Nat) : Int) = (e : Int) + 1 := by omega
    have c2 : ((2 * b : Nat) : Int) = 2 * (b : Int) := by omega
    have c3 : ((2 * b + 1 : Nat) : Int) = 2 * (b : Int) + 1 := by omega
    have il := mG (h := h) (B := B) le (show e + 1 ≤ B by omega) wl
    have ir := mG (h := h) (B := B) le (show e + 1 ≤ B by omega) wr
    rw [c1, c2] at il
    rw [c1, c3] at ir
    have one : ∀ (g : Int) (u : Kn Str), bj (B : Int) lo hi ((e : Int) + 1) g = false → (dm (bp h B lo hi ((e : Int) + 1) g u) : Int) = 1 := fun g u hf => by rw [cY hf]; rfl
    have ol := one (2 * (b : Int)) l
    have or' := one (2 * (b : Int) + 1) r
    show ((dm (bp h B lo hi ((e : Int) + 1) (2 * (b : Int)) l) + dm (bp h B lo hi ((e : Int) + 1) (2 * (b : Int) + 1) r) : Nat) : Int) ≤ _
    rw [Int.natCast_add]
    have mm := jg.mp hm
    have ml := @jg (B : Int) lo hi ((e : Int) + 1) (2 * (b : Int))
    have mr := @jg (B : Int) lo hi ((e : Int) + 1) (2 * (b : Int) + 1)
    generalize hL : (dm (bp h B lo hi ((e : Int) + 1) (2 * (b : Int)) l) : Int) = L at il ol ⊢
    generalize hR : (dm (bp h B lo hi ((e : Int) + 1) (2 * (b : Int) + 1) r) : Int) = R at ir or' ⊢
    have e1 : ((B : Int) - ((e : Int) + 1)).toNat = B - (e + 1) := by omega
    have e0 : ((B : Int) - (d0 : Int)).toNat = (e - d0) + 1 + (B - (e + 1)) := by omega
    rw [e1] at il ir ml mr
    rw [e0] at mm ⊢
    have wp : (0 : Int) < 2 ^ (B - (e + 1)) := fu _
    have Vp : (0 : Int) < 2 ^ (e - d0) := fu _
    have pw : (2 : Int) ^ (e - d0 + 1 + (B - (e + 1))) = 2 ^ (e - d0) * (2 * 2 ^ (B - (e + 1))) := by rw [Int.pow_add, Int.pow_succ, Int.mul_assoc]
    rw [pw] at mm ⊢
    have d1 : (b0 : Int) * 2 ^ (e - d0) ≤ (b : Int) ∧ (b : Int) + 1 ≤ ((b0 : Int) + 1) * 2 ^ (e - d0) ∧ (e = d0 → (b0 : Int) * 2 ^ (e - d0) = (b : Int) ∧ ((b0 : Int) + 1) * 2 ^ (e - d0) = (b : Int) + 1) := by
      have q0 := Nat.two_pow_pos (e - d0)
      have q1 := Nat.div_add_mod b (2 ^ (e - d0))
      have q2 := Nat.mod_lt b q0
      rw [w3] at q1
      rw [← dY]
      have q3 : (b0 : Int) * ((2 ^ (e - d0) : Nat) : Int) = ((2 ^ (e - d0) * b0 : Nat) : Int) := by rw [← Int.natCast_mul, Nat.mul_comm]
      rw [Int.add_mul, Int.one_mul, q3]
      refine ⟨by omega, by omega, fun z => ?_⟩
      subst z
      rw [Nat.sub_self, Nat.pow_zero] at q1 q2 ⊢
      omega
    generalize (2 : Int) ^ (e - d0) = V at d1 mm ⊢ Vp
    generalize (2 : Int) ^ (B - (e + 1)) = W at wp il ir ml mr mm ⊢
    have s1 : (b0 : Int) * (V * (2 * W)) ≤ 2 * (b : Int) * W := by
      have := Int.mul_le_mul_of_nonneg_right d1.1 (show 0 ≤ 2 * W by omega)
      rw [Int.mul_assoc] at this
      rw [show 2 * (b : Int) * W = (b : Int) * (2 * W) by rw [Int.mul_comm 2 (b : Int), Int.mul_assoc]]; exact this
    have s2 : (2 * (b : Int) + 1 + 1) * W ≤ ((b0 : Int) + 1) * (V * (2 * W)) := by
      have := Int.mul_le_mul_of_nonneg_right d1.2.1 (show 0 ≤ 2 * W by omega)
      rw [Int.mul_assoc] at this
      rw [show (2 * (b : Int) + 1 + 1) * W = ((b : Int) + 1) * (2 * W) by rw [← Int.mul_assoc, Int.add_mul (b : Int) 1 2, Int.mul_comm (b : Int) 2]; congr 1]; exact this
    have s3 : e = d0 → (b0 : Int) * (V * (2 * W)) = 2 * (b : Int) * W ∧ ((b0 : Int) + 1) * (V * (2 * W)) = (2 * (b : Int) + 1 + 1) * W := fun z => by
      obtain ⟨z1, z2⟩ := d1.2.2 z
      constructor
      · rw [← Int.mul_assoc, z1, ← Int.mul_assoc, Int.mul_comm (b : Int) 2]
      · rw [← Int.mul_assoc, z2, ← Int.mul_assoc, Int.add_mul (b : Int) 1 2, Int.mul_comm (b : Int) 2]; congr 1
    have t1 : (2 * (b : Int) + 1) * W = 2 * (b : Int) * W + W := by rw [Int.add_mul, Int.one_mul]
    have t2 : (2 * (b : Int) + 1 + 1) * W = 2 * (b : Int) * W + W + W := by rw [Int.add_mul, Int.one_mul, t1]
    rw [t1] at ir mr il ml
    rw [t2] at ir mr s2 s3
    generalize 2 * (b : Int) * W = X at *
    generalize (b0 : Int) * (V * (2 * W)) = Y at *
    generalize ((b0 : Int) + 1) * (V * (2 * W)) = Z at *
    cases cl : bj (B : Int) lo hi ((e : Int) + 1) (2 * (b : Int)) with
    | true =>
      have ml := ml.mp cl
      have il := il cl
      cases cr : bj (B : Int) lo hi ((e : Int) + 1) (2 * (b : Int) + 1) with
      | true =>
        have mr := mr.mp cr
        have ir := ir cr
        split at il <;> split at il <;> split at ir <;> split at ir <;> split <;> split <;> omega
      | false =>
        have nr : ¬ (X + W ≤ hi ∧ lo ≤ X + W + W - 1) := fun z => by rw [mr.mpr z] at cr; cases cr
        have := or' cr
        split at il <;> split at il <;> split <;> split <;> omega
    | false =>
      have nl : ¬ (X ≤ hi ∧ lo ≤ X + W - 1) := fun z => by rw [ml.mpr z] at cl; cases cl
      have := ol cl
      cases cr : bj (B : Int) lo hi ((e : Int) + 1) (2 * (b : Int) + 1) with
      | true =>
        have mr := mr.mp cr
        have ir := ir cr
        split at ir <;> split at ir <;> split <;> split <;> omega
      | false =>
        have nr : ¬ (X + W ≤ hi ∧ lo ≤ X + W + W - 1) := fun z => by rw [mr.mpr z] at cr; cases cr
        have := or' cr
        by_cases ed : e = d0
        · have := s3 ed
          split <;> split <;> omega
        · split <;> split <;> omega
theorem Kno.keysI {B:Nat} {kn:List (Nat×Str)} {t:Kn Str} {ns:List Int} (h:Kno B kn t) (wf:WFo B t) (pm:ns.Perm (kn.map fun p=>(p.1:Int))) (so:ns.Pairwise (·≤·)):ns=(aG t).map fun p=>(p.1:Int):=by
 have fk:∀ p∈kn,((p.1:Int).toNat,(look (p.1:Int).toNat kn).getD Str.empty)=p:=fun p hp=>by
  rw [Int.toNat_natCast,(ft h.nd).mpr hp];rfl
 have pm2:(ns.map fun n=>(n.toNat,(look n.toNat kn).getD Str.empty)).Perm kn:=by
  have:=pm.map fun n=>(n.toNat,(look n.toNat kn).getD Str.empty)
  rw [List.map_map] at this
  refine this.trans ?_
  have e:kn.map ((fun n:Int=>(n.toNat,(look n.toNat kn).getD Str.empty))∘fun p=>(p.1:Int))=kn.map id:=List.map_congr_left fun p hp=>fk p hp
  rw [e,List.map_id]
 have pos:∀ n∈ns,0≤n:=fun n hn=>by
  obtain ⟨p,_,rfl⟩:=List.mem_map.mp (pm.mem_iff.mp hn)
  omega
 have nd:ns.Nodup:=pm.nodup_iff.mpr (by
  have:=h.nd
  rw [show (kn.map fun p=>(p.1:Int))=(kn.map (·.1)).map fun k:Nat=>(k:Int) by rw [List.map_map];rfl]
  exact List.Pairwise.map _ (fun a b hab z=>hab (by omega)) this)
 have up:fJ (ns.map fun n=>(n.toNat,(look n.toNat kn).getD Str.empty)):=by
  unfold fJ
  rw [List.pairwise_map]
  refine (so.and nd).imp_of_mem fun {a b} ha hb hab=>?_
  have:=pos a ha
  have:=pos b hb
  show a.toNat<b.toNat
  have:=hab.1
  have:=hab.2
  omega
 have eq:=h.sorted wf pm2 up
 rw [← eq,List.map_map]
 exact ((List.map_id ns).symm.trans (List.map_congr_left fun n hn=>by show n=((n.toNat:Nat):Int);have:=pos n hn;omega))
theorem El (K:W.Frag) (A:Adr):Ln (lE K A) 3:=by rintro vs H Q E ⟨_,_,_,_,_,_,_,_,_,_,rfl,_⟩;rfl
theorem Ih (T:Txt K mg A):Rd (lE K A) (Kx K A) ["_law_known", "_law_low", "_law_high"]:=by
 intro vs H Q E h
 obtain ⟨x,f,kd,g,B,t,m,kn,lo,hi,rfl,tk,q⟩:=h
 have wf:=tk.ta.wf
 have ln:=tk.kno.ln
 refine ⟨kd,kn.map fun p=>((p.1:Int),V.str p.2),rfl,by rw [← rc];exact tk.hk,by rw [List.length_map];omega,fun l ns hl pm so=>⟨l,rfl,.inl ⟨⟨_,SqL.of aj⟩,fun D hD=>?_⟩⟩⟩
 rw [List.map_map] at pm
 have en:=tk.kno.keysI wf pm so
 have rn:(aG t).length=kn.length:=tk.kno.len wf
 have nl:(ns.map V.int).length=(aG t).length:=by rw [List.length_map,en,List.length_map]
 have S1:=au.upd (o:=.lst (ns.map V.int)) hl
 have hl1:upd H l (.lst (ns.map V.int)) l=some (.lst (ns.map V.int)):=aj
 generalize upd H l (.lst (ns.map V.int))=H1 at S1 hl1 hD
 refine hZ (eO.list (xs:=ns.map V.int) .non) (fun i ys H2=>∃ rs:List Addr,ys=rs.map V.ref∧H2 D=some (.lst ys)∧au H1 H2∧rs.length≤i∧PR H2 rs (((eF t).take i).filter (inI lo hi)))
   (fun i ys H2 _ ⟨_,_,_,s2,_⟩=>SqL.of (s2 _ _ hl1)) ⟨[],rfl,aj,au.upd hD,Nat.le_refl _,.nil⟩ ?_ ?_
 · rintro i ys H2 hi' ⟨rs,rfl,hd,s2,hrl,pr⟩
   have hi2:i<(aG t).length:=by rw [← nl];exact hi'
   obtain ⟨⟨k,z⟩,hp⟩:∃ p,(aG t)[i]?=some p:=⟨_,List.getElem?_eq_getElem hi2⟩
   have hI:(eF t)[i]?=some ((k:Int),z):=by rw [List.getElem?_map,hp];rfl
   have e0:(ns.map V.int).getD i .non=.int (k:Int):=by
     rw [List.getD_eq_getElem?_getD,List.getElem?_map,en,List.getElem?_map,hp];rfl
   have fnd:aD B k t=some z:=by
     rw [wf.up.2,ft (by rw [List.nodup_iff_pairwise_ne,List.pairwise_map];exact wf.up.1.imp fun h=>Nat.ne_of_lt h)];exact List.mem_of_getElem? hp
   have step:∀ b:Bool,inI lo hi ((k:Int),z)=b→((eF t).take (i+1)).filter (inI lo hi)=((eF t).take i).filter (inI lo hi)++(if b=true then [((k:Int),z)] else []):=fun b hb=>by
     rw [jc hI,List.filter_append]
     cases b with
     | true=>rw [List.filter_cons_of_pos hb];rfl
     | false=>rw [List.filter_cons_of_neg (by rw [hb];decide)];rfl
   have out:inI lo hi ((k:Int),z)=false→∃ m',m'<(ns.map V.int).length - i∧CWd (ns.map V.int).length (fun i ys H2=>∃ rs:List Addr,ys=rs.map V.ref∧H2 D=some (.lst ys)∧au H1 H2∧rs.length≤i∧PR H2 rs (((eF t).take i).filter (inI lo hi))) (i+1) m' (rs.map V.ref) H2:=fun hb=>by
     refine CWd.next hi' ⟨rs,rfl,hd,s2,by omega,?_⟩
     rw [step false hb]
     show PR H2 rs (_++[])
     rw [List.append_nil];exact pr
   rw [e0]
   refine Sel.dec (fun h1=>?_) (fun h1=>sy (out (by unfold inI;rw [decide_eq_false h1];rfl)))
   show (if decide ((k:Int)≤hi)=true then _ else _)
   by_cases h2:(k:Int)≤hi
   · rw [if_pos (decide_eq_true h2)]
     have dg:=(tk.same (S1.trans s2)).dg k
     rw [fnd] at dg
     refine .inr ⟨kd,.str z,rfl,dg,aW (show 2≤1000000 by decide),fun u hu=>?_⟩
     have s3:=au.upd (o:=.tup [V.int (k:Int),V.str z]) hu
     have ne2:u≠D:=fun z=>by rw [z,hd] at hu;cases hu
     refine ⟨s3 _ _ hd,by rw [List.length_map];exact fK (by omega),CWd.next hi' ⟨rs++[u],by rw [List.map_append];rfl,aj,(s2.trans s3).put hD,by rw [List.length_append];show _+1≤_;omega,?_⟩⟩
     rw [step true (by unfold inI;rw [decide_eq_true h1,decide_eq_true h2];rfl)]
     refine rA (jQ (fun c xs e=>?_) pr) ?_
     · have hc:c≠D:=fun z=>by rw [z,hd] at e;cases e
       rw [ap hc];exact s3 _ _ e
     · rw [ap ne2];exact aj
   · rw [if_neg (by rw [decide_eq_false h2];decide)]
     exact out (by unfold inI;rw [decide_eq_false h2,Bool.and_false])
 · rintro ys H2 ⟨rs,rfl,hd,s2,hrl,pr⟩
   have tl:(eF t).take (ns.map V.int).length=eF t:=List.take_of_length_le (by rw [List.length_map,nl];exact Nat.le_refl _)
   rw [tl] at pr
   exact q D rs H2 (S1.trans s2) hd pr
theorem EE (K:W.Frag) (A:Adr):Ln (iq K A) 6:=by rintro vs H Q E ⟨_,_,_,_,_,_,_,_,_,_,_,_,_,rfl,_⟩;rfl
theorem TbA.paper2 {H:Hp} {g:gOp} {x f:Addr} {B:Nat} {t:Kn Str} {m:Key} {lo hi:Int} (ta:TbA A H g x f B t m) (en:dE (B:Int) lo hi) {h:List Key→Key} (he:Ext g h):(dm (bp h B lo hi 0 0 t):Int)≤2*(B:Int)∧(cA (bp h B lo hi 0 0 t)).filter (inI lo hi)=(eF t).filter (inI lo hi)∧dn h (bp h B lo hi 0 0 t)=m:=by
 obtain ⟨dx,y,o,ky⟩:=ta.ob
 have mt:=jz en
 have ok:=ky.ok
 refine ⟨?_,?_,by rw [gQ,←ky.ext he]⟩
 · rcases ta.wf with rfl | wf
   · rw [dC mt];show ((0:Nat):Int)≤_;omega
   · have:=mG (h:=h) en.le (Nat.zero_le _) wf mt
     refine Int.le_trans this ?_
     split <;> split <;> omega
 · rcases ta.wf with rfl | wf
   · rw [dC mt];rfl
   · rw [ky.ext he] at ok
     exact (iy (lo:=lo) (hi:=hi) (Nat.zero_le _) (by decide) wf (ky.mk he) ok.1 ok.2).2.2.2.2
theorem HE (T:Txt K mg A):Rd (iq K A) (Jn K A) ["_law_table", "_law_stamper_here", "_law_bits_here", "_law_root", "_law_known", "_law_ends", "_law_low", "_law_high", "_law_paper"]:=by
 intro vs H Q E h
 obtain ⟨x,f,b,kd,r,g,n,B,t,m,kn,lo,hi,rfl,tk,ln,s,hn,hr,en,q⟩:=h
 have wf:=tk.ta.wf
 have rn:(aG t).length=kn.length:=tk.kno.len wf
 refine ⟨r,_,rfl,.inl (.inl hr),rfl,_,_,rfl,_,_,rfl,rfl,?_⟩
 refine ⟨x,f,g,B,t,m,lo,hi,rfl,tk.ta,by omega,en,fun v p H1 S1 pw ep=>?_⟩
 have s1:=s.same (Nat.le_refl n) S1
 have tk1:=tk.same S1
 refine ⟨f,b,(B:Int),lo,hi,v,p,g,n,rfl,pw,s1,by omega,fun y g2 H2 kb2 s2 sub2 ey=>?_⟩
 have p2:∀ {g':gOp} {h:List Key→Key},Sub g g'→Ext g' h→(dm p:Int)≤2*(B:Int)∧(cA p).filter (inI lo hi)=(eF t).filter (inI lo hi)∧dn h p=m:=fun {g' h} sub he=>by
   have:=tk.ta.paper2 en (he.of sub)
   rw [← ep h (he.of sub)] at this;exact this
 have ym:y=m:=by rw [ey _ (bR g2),(p2 sub2 (bR g2)).2.2]
 subst ym
 have kt2:=s1.tup kb2
 have pw2:=pw.mono kt2
 have tk2:=tk1.kb s1 kb2 sub2
 obtain ⟨q1,q2,_⟩:=p2 sub2 (bR g2)
 refine ue rfl (pj (Sel.f ⟨v,p,rfl,pw2.w.w,by have:=pw2.t;omega,my (by decide) (by decide),Sel.no (decide_eq_false (by omega)) ?_⟩))
 refine ⟨f,b,(B:Int),lo,hi,v,p,g2,n+201,y,rfl,pw2,s2,by omega,fun h he=>((p2 sub2 he).2.2).symm,fun M rs g3 H3 kb3 s3 sub3 hM pr=>?_⟩
 have tk3:=tk2.kb s2 kb3 sub3
 refine ⟨x,f,kd,g3,B,t,y,kn,lo,hi,rfl,tk3,fun M2 rs2 H4 S4 hM2 pr2=>?_⟩
 rw [q2] at pr
 refine ⟨M,M2,rs,rs2,_,rfl,S4 _ _ hM,hM2,lu (jQ (fun c xs e=>S4 _ _ e) pr),lu pr2,?_,?_⟩
 · rw [List.length_map]
   have:=List.length_filter_le (inI lo hi) (eF t)
   rw [List.length_map] at this;omega
 · exact q g3 H4 ((aT.same S1).trans (kb2.trans (kb3.trans (aT.same S4)))) (s3.same (by omega) S4) (sub2.trans sub3)
theorem Dd (K:W.Frag) (A:Adr):Ln (lK K A) 3:=by rintro vs H Q E ⟨_,_,_,_,_,rfl,_⟩;rfl
theorem IN (T:Txt K mg A):Rd (lK K A) (Je K A) ["_law_script", "_law_bits_here", "_law_keys", "_law_one", "_law_other", "_law_some"]:=by
 intro vs H Q E h
 obtain ⟨a,L,ns,B,ks,rfl,hs,B1,B60,hL,kne,kk,q⟩:=h
 have l0:(0:Int)<((nV ks).length:Int):=by rw [List.length_map];have:=List.length_pos_iff.mpr kne;omega
 have key:∀ (c:Int) (H1:Hp) (Q:VK),au H H1→(∀ k:Nat,k<2^B→Q (.int (k:Int)) H1)→aQ K (.ref L) (.int (c%((nV ks).length:Int))) H1 Q:=fun c H1 Q S q=>vQ (S _ _ hL) (Int.emod_nonneg _ (by omega)) (Int.emod_lt_of_pos _ l0) fun v hv=>by
   obtain ⟨k,rfl,hk⟩:=CL kk v hv
   exact q k hk
 refine ⟨a,ns,2,rfl,hs,by decide,fun z1 H1 S1=> .inl (.inl ⟨_,SqL.of (S1 _ _ hL),l0,key z1 H1 _ S1 fun x hx=>?_⟩)⟩
 refine ⟨a,ns,3,rfl,S1.seq hs,by decide,fun z2 H2 S2=> .inl (.inl ⟨_,SqL.of (S2 _ _ (S1 _ _ hL)),l0,key z2 H2 _ (S1.trans S2) fun y hy=>?_⟩)⟩
 have S2:=S1.trans S2
 have ex:(x:Int)<2^((B:Nat):Int).toNat:=p2z hx
 have ey:(y:Int)<2^((B:Nat):Int).toNat:=p2z hy
 have b0:(1:Int)≤(B:Int)∧(B:Int)≤60:=by omega
 have en:∀ {lo hi:Int},0≤lo→lo≤hi→hi<2^((B:Nat):Int).toNat→dE (B:Int) lo hi:=fun h1 h2 h3=>⟨b0.1,b0.2,h1,h2,h3⟩
 refine ⟨a,ns,4,rfl,S2.seq hs,by decide,fun z3 H3 S3=>⟨a,ns,5,rfl,S3.seq (S2.seq hs),by decide,fun z4 H4 S4=>?_⟩⟩
 have S4:=(S2.trans S3).trans S4
 refine ⟨(B:Int),z3,z4,rfl,b0.1,b0.2,fun p1 lo hi H5 S5 h1 e1=>?_⟩
 have S5:=S4.trans S5
 refine ⟨aW (show 2≤1000000 by decide),fun p2 hp2=>?_⟩
 have U6:=au.upd (o:=.tup [.int (if (y:Int)<(x:Int) then (y:Int) else (x:Int)),.int (if (y:Int)>(x:Int) then (y:Int) else (x:Int))]) hp2
 have e2:dE (B:Int) (if (y:Int)<(x:Int) then (y:Int) else (x:Int)) (if (y:Int)>(x:Int) then (y:Int) else (x:Int)):=by
   refine en ?_ ?_ ?_ <;> (repeat' split) <;> omega
 refine ⟨aW (show 2≤1000000 by decide),fun L1 hL1=>?_⟩
 have U7:=au.upd (o:=.lst [.ref p1,.ref p2]) hL1
 have a1:cJ (upd (upd H5 p2 (.tup [.int (if (y:Int)<(x:Int) then (y:Int) else (x:Int)),.int (if (y:Int)>(x:Int) then (y:Int) else (x:Int))])) L1 (.lst [.ref p1,.ref p2])) B p1:=⟨lo,hi,U7 _ _ (U6 _ _ h1),e1⟩
 have a2:cJ (upd (upd H5 p2 (.tup [.int (if (y:Int)<(x:Int) then (y:Int) else (x:Int)),.int (if (y:Int)>(x:Int) then (y:Int) else (x:Int))])) L1 (.lst [.ref p1,.ref p2])) B p2:=⟨_,_,U7 _ _ aj,e2⟩
 have S7:=S5.trans (U6.trans U7)
 have h7:upd (upd H5 p2 (.tup [.int (if (y:Int)<(x:Int) then (y:Int) else (x:Int)),.int (if (y:Int)>(x:Int) then (y:Int) else (x:Int))])) L1 (.lst [.ref p1,.ref p2]) L1=some (.lst [.ref p1,.ref p2]):=aj
 show uu K A _ [some (.ref a),some (.int (B:Int)),some (.ref L),some (.int (x:Int)),some (.int (y:Int)),some (.ref L1)] _
 generalize upd (upd H5 p2 (.tup [.int (if (y:Int)<(x:Int) then (y:Int) else (x:Int)),.int (if (y:Int)>(x:Int) then (y:Int) else (x:Int))])) L1 (.lst [.ref p1,.ref p2])=H7 at a1 a2 S7 h7
 clear U6 U7 e1 e2 h1
 have same:∀ {H H':Hp} {p:Addr},au H H'→cJ H B p→cJ H' B p:=fun S ⟨lo,hi,h,e⟩=>⟨lo,hi,S _ _ h,e⟩
 have fl:=re (x:=(x:Int)) (m:=((B:Nat):Int).toNat) (j:=0) (by omega) (by omega) ex
 have f1:(1:Int)*2^0=1:=rfl
 rw [f1] at fl
 refine ⟨aW (show 2≤1000000 by decide),fun p3 hp3=>⟨⟨by omega,by omega,by decide⟩,aW (show 2≤1000000 by decide),fun p4 hp4=>⟨aW (show 2≤1000000 by decide),fun p5 hp5=>⟨aW (show 2≤1000000 by decide),fun p6 hp6=>⟨aW (show 4≤1000000 by decide),fun LL hL2=>?_⟩⟩⟩⟩⟩
 have V3:=au.upd hp3 (o:=.tup [.int 0,.int (x:Int)])
 have V4:=au.upd hp4 (o:=.tup [.int (y:Int),.int (1*2^((B:Nat):Int).toNat - 1)])
 have V5:=au.upd hp5 (o:=.tup [.int (x:Int),.int (x:Int)])
 have V6:=au.upd hp6 (o:=.tup [.int (if Builtin.bitXor (x:Int) 1<(x:Int) then Builtin.bitXor (x:Int) 1 else (x:Int)),.int (if Builtin.bitXor (x:Int) 1>(x:Int) then Builtin.bitXor (x:Int) 1 else (x:Int))])
 have V7:=au.upd hL2 (o:=.lst [.ref p3,.ref p4,.ref p5,.ref p6])
 have d3:=V7 _ _ (V6 _ _ (V5 _ _ (V4 _ _ (aj (H:=H7) (a:=p3) (o:=.tup [.int 0,.int (x:Int)])))))
 have d4:=V7 _ _ (V6 _ _ (V5 _ _ (aj (a:=p4) (o:=.tup [.int (y:Int),.int (1*2^((B:Nat):Int).toNat - 1)]))))
 have d5:=V7 _ _ (V6 _ _ (aj (a:=p5) (o:=.tup [.int (x:Int),.int (x:Int)])))
 have d6:=V7 _ _ (aj (a:=p6) (o:=.tup [.int (if Builtin.bitXor (x:Int) 1<(x:Int) then Builtin.bitXor (x:Int) 1 else (x:Int)),.int (if Builtin.bitXor (x:Int) 1>(x:Int) then Builtin.bitXor (x:Int) 1 else (x:Int))]))
 have VV:=V3.trans (V4.trans (V5.trans (V6.trans V7)))
 refine .inl ⟨L1,LL,_,_,rfl,rfl,VV _ _ h7,aj,aW (show 6≤1000000 by decide),fun L3 hL3=>?_⟩
 have nL:∀ z o,H z=some o→z≠L3:=fun z o e=>az ((S7.trans VV) _ _ e) hL3
 have V8:=au.upd hL3 (o:=.lst ([p1,p2,p3,p4,p5,p6].map V.ref))
 have S8:=S7.trans (VV.trans V8)
 have h8:=aj (a:=L3) (o:=.lst ([p1,p2,p3,p4,p5,p6].map V.ref)) (H:=upd (upd (upd (upd (upd H7 p3 (.tup [.int 0,.int (x:Int)])) p4 (.tup [.int (y:Int),.int (1*2^((B:Nat):Int).toNat - 1)])) p5 (.tup [.int (x:Int),.int (x:Int)])) p6 (.tup [.int (if Builtin.bitXor (x:Int) 1<(x:Int) then Builtin.bitXor (x:Int) 1 else (x:Int)),.int (if Builtin.bitXor (x:Int) 1>(x:Int) then Builtin.bitXor (x:Int) 1 else (x:Int))])) LL (.lst [.ref p3,.ref p4,.ref p5,.ref p6]))
 have all8:∀ p∈[p1,p2,p3,p4,p5,p6],cJ (upd (upd (upd (upd (upd (upd H7 p3 (.tup [.int 0,.int (x:Int)])) p4 (.tup [.int (y:Int),.int (1*2^((B:Nat):Int).toNat - 1)])) p5 (.tup [.int (x:Int),.int (x:Int)])) p6 (.tup [.int (if Builtin.bitXor (x:Int) 1<(x:Int) then Builtin.bitXor (x:Int) 1 else (x:Int)),.int (if Builtin.bitXor (x:Int) 1>(x:Int) then Builtin.bitXor (x:Int) 1 else (x:Int))])) LL (.lst [.ref p3,.ref p4,.ref p5,.ref p6])) L3 (.lst ([p1,p2,p3,p4,p5,p6].map V.ref))) B p:=fun p hp=>by
   simp only [List.mem_cons,List.not_mem_nil,or_false] at hp
   rcases hp with rfl | rfl | rfl | rfl | rfl | rfl
   · exact same (VV.trans V8) a1
   · exact same (VV.trans V8) a2
   · exact ⟨_,_,V8 _ _ d3,en (by decide) (by omega) ex⟩
   · exact ⟨_,_,V8 _ _ d4,en (by omega) (by omega) (by omega)⟩
   · exact ⟨_,_,V8 _ _ d5,en (by omega) (by omega) ex⟩
   · refine ⟨_,_,V8 _ _ d6,en ?_ ?_ ?_⟩ <;> (repeat' split) <;> omega
 show ui K A _ [some (.ref a),some (.int (B:Int)),some (.ref L),some (.int (x:Int)),some (.int (y:Int)),some (.ref L3)] (upd (upd (upd (upd (upd (upd H7 p3 (.tup [.int 0,.int (x:Int)])) p4 (.tup [.int (y:Int),.int (1*2^((B:Nat):Int).toNat - 1)])) p5 (.tup [.int (x:Int),.int (x:Int)])) p6 (.tup [.int (if Builtin.bitXor (x:Int) 1<(x:Int) then Builtin.bitXor (x:Int) 1 else (x:Int)),.int (if Builtin.bitXor (x:Int) 1>(x:Int) then Builtin.bitXor (x:Int) 1 else (x:Int))])) LL (.lst [.ref p3,.ref p4,.ref p5,.ref p6])) L3 (.lst ([p1,p2,p3,p4,p5,p6].map V.ref)))
 generalize upd (upd (upd (upd (upd (upd H7 p3 (.tup [.int 0,.int (x:Int)])) p4 (.tup [.int (y:Int),.int (1*2^((B:Nat):Int).toNat - 1)])) p5 (.tup [.int (x:Int),.int (x:Int)])) p6 (.tup [.int (if Builtin.bitXor (x:Int) 1<(x:Int) then Builtin.bitXor (x:Int) 1 else (x:Int)),.int (if Builtin.bitXor (x:Int) 1>(x:Int) then Builtin.bitXor (x:Int) 1 else (x:Int))])) LL (.lst [.ref p3,.ref p4,.ref p5,.ref p6])) L3 (.lst ([p1,p2,p3,p4,p5,p6].map V.ref))=H8 at S8 h8 all8
 refine Sel.dec (fun hc=>?_) (fun _=>q L3 [p1,p2,p3,p4,p5,p6] H8 S8 h8 (by show 6≤7;decide) all8)
 have hc:(1:Int)<(if (y:Int)>(x:Int) then (y:Int) else (x:Int)) - (if (y:Int)<(x:Int) then (y:Int) else (x:Int)):=hc
 refine ⟨.inl ⟨rfl,_,SqL.of h8⟩,aW (show 2≤1000000 by decide),fun p7 hp7=>?_⟩
 have V9:=au.upd hp7 (o:=.tup [.int ((if (y:Int)<(x:Int) then (y:Int) else (x:Int))+1),.int ((if (y:Int)>(x:Int) then (y:Int) else (x:Int)) - 1)])
 have h9:=V9 _ _ h8
 refine ⟨L3,_,.ref p7,rfl,rfl,h9,by show 6<sizeLine;decide,?_⟩
 refine q L3 [p1,p2,p3,p4,p5,p6,p7] _ (fun z o e=>by rw [ap (nL z o e)];exact V9 _ _ (S8 _ _ e)) aj (by show 7≤7;decide) fun p hp=>?_
 have kt:∀ {p:Addr},cJ (upd H8 p7 (.tup [.int ((if (y:Int)<(x:Int) then (y:Int) else (x:Int))+1),.int ((if (y:Int)>(x:Int) then (y:Int) else (x:Int)) - 1)])) B p→cJ (upd (upd H8 p7 (.tup [.int ((if (y:Int)<(x:Int) then (y:Int) else (x:Int))+1),.int ((if (y:Int)>(x:Int) then (y:Int) else (x:Int)) - 1)])) L3 (.lst ([p1,p2,p3,p4,p5,p6].map V.ref++[.ref p7]))) B p:=fun ⟨lo,hi,h,e⟩=>⟨lo,hi,fM h9 _ _ h (fun _ q=>nomatch q),e⟩
 rw [show [p1,p2,p3,p4,p5,p6,p7]=[p1,p2,p3,p4,p5,p6]++[p7] from rfl] at hp
 rcases List.mem_append.mp hp with z | z
 · exact kt (same V9 (all8 p z))
 · rw [List.mem_singleton.mp z]
   refine kt ⟨_,_,aj,en ?_ ?_ ?_⟩ <;> (split at hc <;> split at hc <;> (repeat' split) <;> omega)
theorem Dj (K:W.Frag) (A:Adr):Ln (nG K A) 1:=by rintro vs H Q E ⟨a,ns,rfl,_⟩;rfl
theorem xu (p:bf):(cB (bi p)).eqv (cB (bi p))=true:=by
 induction p with
 | cut m=>cases m <;> simp [bi,dR,cB,toPys,PyData.eqv,PyData.eqvAll]
 | bare=>simp [bi,cB,toPys,PyData.eqv,PyData.eqvAll]
 | leaf k z=>simp [bi,cB,toPys,PyData.eqv,PyData.eqvAll]
 | fork d b l r hl hr=>simp [bi,cB,toPys,PyData.eqv,PyData.eqvAll,hl,hr]
abbrev gU (B:Nat):Int:=1*2^((B:Nat):Int).toNat - 1
theorem pC {B:Nat} (B1:1≤B) (B60:B≤60):dE (B:Int) 0 (gU B):=by
 have p:=fu ((B:Nat):Int).toNat
 refine ⟨by omega,by omega,by decide,?_,?_⟩ <;> (unfold gU;omega)
structure eG (A:Adr) (H:Hp) (g:gOp) (f:Addr) (B:Nat) (x kd y kd':Addr) (v:V) (u:Kn Str) (mu:Key) (kn:List (Nat×Str)) (p:bf):Prop where
 nx:y≠x
 nk:kd'≠kd
 tk:TK A H y f kd' g B u mu kn
 pw:cV H v (B:Int) 0 (gU B) p
 ep:∀ h,Ext g h→p=bp h B 0 (gU B) 0 0 u
section
variable {Q:VK} {H H':Hp} {a f b x kd y kd' KL L:Addr} {B N i n:Nat} {g g' g0:gOp} {t u:Kn Str} {m mu:Key} {kn kn':List (Nat×Str)} {ks:List Nat} {ns:List Int} {v:V} {p:bf} {xs ys:List V}
theorem eG.keep (h:eG A H g f B x kd y kd' v u mu kn p) (k:∀ z o,H z=some o→knO o→H' z=some o) (kx:∀ z C dx v fs,z≠x→H z=some (.ins C dx ((("stamper" :Str),v)::fs))→H' z=some (.ins C dx ((("stamper" :Str),v)::fs))) (kk:∀ z kvs,z≠kd→H z=some (.dK kvs)→H' z=some (.dK kvs)) (sub:Sub g g'):eG A H' g' f B x kd y kd' v u mu kn p:=by
 obtain ⟨nx,nk,tk,pw,ep⟩:=h
 obtain ⟨dx,y0,o,_⟩:=tk.ta.ob
 exact ⟨nx,nk,tk.keep (fun u eu=>by rw [o] at eu;cases eu;exact kx _ _ _ _ _ nx o) k (fun e=>kk _ _ nk e) sub,pw.mono fun _ _ h=>k _ _ h (.inl ⟨_,rfl⟩),fun h he=>ep h (he.of sub)⟩
theorem eG.ul (h:eG A H g f B x kd y kd' v u mu kn p) (hL:H L=some (.lst xs)):eG A (upd H L (.lst ys)) g f B x kd y kd' v u mu kn p:=h.keep (fun z u e hu=>fM hL _ _ e fun zs q=>by subst q;exact hu.lst) (fun _ _ _ _ _ _ e=>fM hL _ _ e fun _ q=>nomatch q) (fun _ _ _ e=>fM hL _ _ e fun _ q=>nomatch q) Sub.rfl'
theorem eG.k3 (h:eG A H g f B x kd y kd' v u mu kn' p) (s:Stp A H f b g0 n) (tk:TK A H x f kd g B t m kn) (k3:lB b x kd H H') (sub:Sub g g'):eG A H' g' f B x kd y kd' v u mu kn' p:=by
 obtain ⟨dx,y0,o,_⟩:=tk.ta.ob
 refine h.keep (fun z u e hu=>k3 z u (s.nb e (fun _ q=>by subst q;exact hu.dT) fun _ q=>by subst q;exact hu.ext) (fun q=>by subst q;rw [o] at e;cases e;exact hu.tab) (fun q=>by subst q;rw [tk.hk] at e;cases e;exact hu.dK) e)
  (fun z C dz v fs nx e=>k3 _ _ (s.nb e fun _ q=>nomatch q) nx (cf e tk.hk fun q=>nomatch q) e) (fun z kvs nk e=>k3 _ _ (s.nb e fun _ q=>nomatch q) (cf e o fun q=>nomatch q) nk e) sub
theorem eG.kb (h:eG A H g f B x kd y kd' v u mu kn p) (s:Stp A H f b g0 n) (k:aT b H H') (sub:Sub g g'):eG A H' g' f B x kd y kd' v u mu kn p:=h.keep (fun z u e hu=>k z u (s.nb e (fun _ q=>by subst q;exact hu.dT) fun _ q=>by subst q;exact hu.ext) e)
 (fun z C dz v fs nx e=>k _ _ (s.nb e fun _ q=>nomatch q) e) (fun z kvs nk e=>k _ _ (s.nb e fun _ q=>nomatch q) e) sub
structure cR (K:W.Frag) (A:Adr) (H:Hp) (a f b x kd y kd' KL:Addr) (v:V) (B N:Nat) (g:gOp) (t u:Kn Str) (m mu:Key) (kn kn':List (Nat×Str)) (p:bf) (ks:List Nat) (ns:List Int) (i:Nat):Prop where
 tk:TK A H x f kd g B t m kn
 old:eG A H g f B x kd y kd' v u mu kn' p
 s:Stp A H f b g N
 hK:H KL=some (.lst (nV ks))
 kl:ks.length=i+1
 kk:∀ k∈ks,k<2^B
 ln:kn.length≤i
 lo:kn'.length≤i
 hs:SqL K H a (ns.map V.int)
theorem cR.kb (h:cR K A H a f b x kd y kd' KL v B N g t u m mu kn kn' p ks ns i) (k:aT b H H') (s:Stp A H' f b g' n) (sub:Sub g g'):cR K A H' a f b x kd y kd' KL v B n g' t u m mu kn kn' p ks ns i:=⟨h.tk.kb h.s k sub,h.old.kb h.s k sub,s,h.s.lst k _ _ h.hK,h.kl,h.kk,h.ln,h.lo,h.s.seq k h.hs⟩
theorem cR.same (h:cR K A H a f b x kd y kd' KL v B N g t u m mu kn kn' p ks ns i) (S:au H H'):cR K A H' a f b x kd y kd' KL v B N g t u m mu kn kn' p ks ns i:=h.kb (aT.same S) (h.s.same (Nat.le_refl _) S) Sub.rfl'
theorem IG (T:Txt K mg A) (E:cR K A H a f b x kd y kd' KL v B N g t u m mu kn kn' p ks ns i) (hi:i≤40) (hN:N≤30000) (q:∀ H',Q (.bl true) H') {x0 x3 x4 x5 x9 x10 x11:Option V}:
   qr K A { nx:=fun _ H'=>Q .non H',rt:=Q } [x0,some (.int (B:Int)),some (.ref f),x3,x4,x5,some (.ref y),some (.ref kd'),some v,x9,x10,x11,none] H:=by
 have B1:=E.tk.ta.B1
 have B60:=E.tk.ta.B60
 have en:=pC B1 B60
 have o:=E.old
 have wf:=o.tk.ta.wf
 have rn:(aG u).length=kn'.length:=o.tk.kno.len wf
 have lo:=E.lo
 have sh:(0:Int)≤(B:Int)∧(B:Int)≤1000000∧(1:Int).natAbs<2^64:=⟨by omega,by omega,by decide⟩
 refine ⟨sh,y,f,g,B,u,mu,0,gU B,rfl,o.tk.ta,by omega,en,fun w p1 H1 S1 pw1 ep1=>?_⟩
 have p1p:p1=p:=by rw [ep1 _ (bR g),←o.ep _ (bR g)]
 subst p1p
 have E1:=E.same S1
 refine ue rfl ?_
 obtain ⟨aw,rfl,haw⟩:∃ aw,w=.ref aw∧True:=by obtain ⟨aw,_,_,rfl,_⟩:=qG pw1.w.w;exact ⟨aw,rfl,trivial⟩
 have okd:=pV pw1.w.ok (by omega)
 refine ⟨cB (bi p1),cB (bi p1),pw1.w.w.toV okd,E1.old.pw.w.w.toV okd,gA okd,gA okd,by have:=nA p1;have:=pw1.t;omega,?_⟩
 rw [xu]
 refine Sel.no rfl ?_
 obtain ⟨dy,y0,ob,ky⟩:=E1.old.tk.ta.ob
 refine ⟨y,dy,_,rfl,ob,rfl,y,f,g,B,u,mu,rfl,E1.old.tk.ta,sh,?_⟩
 refine ⟨f,b,(B:Int),0,gU B,v,p1,g,N,mu,rfl,E1.old.pw,E1.s,by omega,fun h he=>?_,fun M rs g2 H2 kb2 s2 sub2 hM pr=>?_⟩
 · rw [E1.old.ep h he];exact (E1.old.tk.ta.paper2 en he).2.2.symm
 have E2:=E1.kb kb2 s2 sub2
 refine ⟨sh,y,f,kd',g2,B,u,mu,kn',0,gU B,rfl,E2.old.tk,fun M2 rs2 H3 S3 hM2 pr2=>?_⟩
 have pl:=(E1.old.tk.ta.paper2 en (bR g)).2.1
 rw [← E1.old.ep _ (bR g)] at pl
 rw [pl] at pr
 refine ⟨M,M2,rs,rs2,_,rfl,S3 _ _ hM,hM2,lu (jQ (fun c xs e=>S3 _ _ e) pr),lu pr2,?_,q _⟩
 rw [List.length_map]
 have:=List.length_filter_le (inI 0 (gU B)) (eF u)
 rw [List.length_map] at this;omega
theorem cJ.kt {r:Addr} (h:cJ H B r) (k:∀ z us,H z=some (.tup us)→H' z=some (.tup us)):cJ H' B r:=by
 obtain ⟨lo,hi,h,e⟩:=h
 exact ⟨lo,hi,k _ _ h,e⟩
theorem JF (T:Txt K mg A) {C:Addr} {qs:List Addr} {D:fN} {x0 x5 x8 x9 x10 x11:Option V} (E:cR K A H a f b x kd y kd' KL v B N g t u m mu kn kn' p ks ns i) (hi:i≤40) (hN:N≤25000) (hC:H C=some (.lst (qs.map V.ref))) (ql:qs.length≤7) (al:∀ r∈qs,cJ H B r)
   (done:∀ (g':gOp) (H':Hp) (x11:Option V),cR K A H' a f b x kd y kd' KL v B (N+3500) g' t u m mu kn kn' p ks ns i→D.nx [x0,some (.int (B:Int)),some (.ref f),some (.ref x),some (.ref kd),x5,some (.ref y),some (.ref kd'),x8,x9,x10,x11,none] H'):
   fD (fun _ H R=>R (Itl K C) H) (aA 11) (aZ (bS (bM K (aq (iq K A) (fun _=>E0) (ae (ac 3) (ae (ac 2) (ae (ac 1) (ae (bT A.c_Table "root" (gK K A) (fun _=>E0) (ac 3) ai) (ae (ac 4) (ae (ac 11) (ai)))))))))) (aB (tC (.bl false))) (aJ)) D [x0,some (.int (B:Int)),some (.ref f),some (.ref x),some (.ref kd),x5,some (.ref y),some (.ref kd'),x8,x9,x10,x11,none] H:=by
 have B60:=E.tk.ta.B60
 refine kI (xs:=qs.map V.ref) (fun k σ H'=>∃ (g':gOp) (x11:Option V),σ=[x0,some (.int (B:Int)),some (.ref f),some (.ref x),some (.ref kd),x5,some (.ref y),some (.ref kd'),x8,x9,x10,x11,none]∧cR K A H' a f b x kd y kd' KL v B (N+500*k) g' t u m mu kn kn' p ks ns i∧H' C=some (.lst (qs.map V.ref))∧∀ r∈qs,cJ H' B r) ⟨g,x11,rfl,E,hC,al⟩ ?_ ?_ ?_
 · rintro k σ H' _ ⟨_,_,_,_,e,_⟩;exact SqL.of e
 · rintro k w σ H2 hw ⟨g2,x11,rfl,E2,hC2,al2⟩
   have hk:k<(qs.map V.ref).length:=(List.getElem?_eq_some_iff.mp hw).1
   rw [List.length_map] at hk
   obtain ⟨r,hr,rfl⟩:=List.mem_map.mp (List.mem_of_getElem? hw)
   obtain ⟨lo,hi',hrr,en⟩:=al2 r hr
   obtain ⟨dx,y0,ob,ky⟩:=E2.tk.ta.ob
   have:=E2.ln
   have:=E2.lo
   refine ⟨x,dx,_,rfl,ob,rfl,x,f,g2,B,t,m,rfl,E2.tk.ta,?_⟩
   refine ⟨x,f,b,kd,r,g2,_,B,t,m,kn,lo,hi',rfl,E2.tk,by omega,E2.s,by omega,hrr,en,fun g3 H3 kb3 s3 sub3=>Sel.no rfl ?_⟩
   exact ⟨g3,_,rfl,E2.kb kb3 (s3.same (by omega) (.refl _)) sub3,E2.s.lst kb3 _ _ hC2,fun r hr=>(al2 r hr).kt (E2.s.tup kb3)⟩
 · rintro σ H2 ⟨g2,x11,rfl,E2,_,_⟩
   rw [List.length_map] at E2
   exact done g2 H2 x11 (E2.kb aT.rfl' (E2.s.same (by omega) (.refl _)) Sub.rfl')
theorem GX (T:Txt K mg A) {C:Addr} {qs:List Addr} {D:fN} {x0 x5 x8 x9 x10 x11:Option V} (E:cR K A H a f b x kd y kd' KL v B N g t u m mu kn kn' p ks ns i) (hi:i≤40) (hN:N≤25000) (hC:H C=some (.lst (qs.map V.ref))) (ql:qs.length≤7) (al:∀ r∈qs,cJ H B r)
   (done:∀ (g':gOp) (H':Hp) (x11:Option V),cR K A H' a f b x kd y kd' KL v B (N+3500) g' t u m mu kn kn' p ks ns i→D.nx [x0,some (.int (B:Int)),some (.ref f),some (.ref x),some (.ref kd),x5,some (.ref y),some (.ref kd'),x8,x9,x10,x11,none] H'):
   fD (fun _ H R=>R (Itl K C) H) (aA 11) (aZ (bS (bM K (aq (iq K A) (fun _=>E0) (ae (ac 6) (ae (ac 2) (ae (ac 1) (ae (bT A.c_Table "root" (gK K A) (fun _=>E0) (ac 6) ai) (ae (ac 7) (ae (ac 11) (ai)))))))))) (aB (tC (.bl false))) (aJ)) D [x0,some (.int (B:Int)),some (.ref f),some (.ref x),some (.ref kd),x5,some (.ref y),some (.ref kd'),x8,x9,x10,x11,none] H:=by
 have B60:=E.tk.ta.B60
 refine kI (xs:=qs.map V.ref) (fun k σ H'=>∃ (g':gOp) (x11:Option V),σ=[x0,some (.int (B:Int)),some (.ref f),some (.ref x),some (.ref kd),x5,some (.ref y),some (.ref kd'),x8,x9,x10,x11,none]∧cR K A H' a f b x kd y kd' KL v B (N+500*k) g' t u m mu kn kn' p ks ns i∧H' C=some (.lst (qs.map V.ref))∧∀ r∈qs,cJ H' B r) ⟨g,x11,rfl,E,hC,al⟩ ?_ ?_ ?_
 · rintro k σ H' _ ⟨_,_,_,_,e,_⟩;exact SqL.of e
 · rintro k w σ H2 hw ⟨g2,x11,rfl,E2,hC2,al2⟩
   have hk:k<(qs.map V.ref).length:=(List.getElem?_eq_some_iff.mp hw).1
   rw [List.length_map] at hk
   obtain ⟨r,hr,rfl⟩:=List.mem_map.mp (List.mem_of_getElem? hw)
   obtain ⟨lo,hi',hrr,en⟩:=al2 r hr
   obtain ⟨dx,y0,ob,ky⟩:=E2.old.tk.ta.ob
   have:=E2.ln
   have:=E2.lo
   refine ⟨y,dx,_,rfl,ob,rfl,y,f,g2,B,u,mu,rfl,E2.old.tk.ta,?_⟩
   refine ⟨y,f,b,kd',r,g2,_,B,u,mu,kn',lo,hi',rfl,E2.old.tk,by omega,E2.s,by omega,hrr,en,fun g3 H3 kb3 s3 sub3=>Sel.no rfl ?_⟩
   exact ⟨g3,_,rfl,E2.kb kb3 (s3.same (by omega) (.refl _)) sub3,E2.s.lst kb3 _ _ hC2,fun r hr=>(al2 r hr).kt (E2.s.tup kb3)⟩
 · rintro σ H2 ⟨g2,x11,rfl,E2,_,_⟩
   rw [List.length_map] at E2
   exact done g2 H2 x11 (E2.kb aT.rfl' (E2.s.same (by omega) (.refl _)) Sub.rfl')
theorem JN (T:Txt K mg A) (E:cR K A H a f b x kd y kd' KL v B N g t u m mu kn kn' p ks ns i) (hi:i≤40) (hN:N≤15000) (q:∀ H',Q (.bl true) H') {x9 x10:Option V}:
  uV K A { nx:=fun _ H'=>Q .non H',rt:=Q } [some (.ref a),some (.int (B:Int)),some (.ref f),some (.ref x),some (.ref kd),some (.ref KL),some (.ref y),some (.ref kd'),some v,x9,x10,none,none] H:=by
 have B1:=E.tk.ta.B1
 have B60:=E.tk.ta.B60
 have kne:ks≠[]:=fun z=>by have:=E.kl;rw [z] at this;cases this
 refine ⟨a,KL,ns,B,ks,rfl,E.hs,B1,B60,E.hK,kne,E.kk,fun M qs H1 S1 hM ql al=>⟨M,rfl,.inl ⟨⟨_,SqL.of hM⟩,?_⟩⟩⟩
 refine JF T (E.same S1) hi (by omega) hM ql al fun g2 H2 x11 E2=>?_
 refine ⟨a,KL,ns,B,ks,rfl,E2.hs,B1,B60,E2.hK,kne,E2.kk,fun M qs H3 S3 hM ql al=>⟨2,rfl,.inl (.inl ⟨M,_,rfl,SqL.of hM,fun C hC=>⟨C,rfl,.inl ⟨⟨_,SqL.of aj⟩,?_⟩⟩⟩)⟩⟩
 have S4:=au.upd (o:=.lst (dI (qs.map V.ref) none (some 2))) hC
 have c2:dI (qs.map V.ref) none (some 2)=(qs.take 2).map V.ref:=by
  unfold dI
  rw [show HT.sIx (qs.map V.ref).length 0 none=0 from rfl,show HT.sIx (qs.map V.ref).length (qs.map V.ref).length (some 2)=min 2 (qs.map V.ref).length from HT.mK _ _ 2,List.drop_zero,Nat.sub_zero,List.map_take]
  rcases Nat.le_total 2 (qs.map V.ref).length with z | z
  · rw [Nat.min_eq_left z]
  · rw [Nat.min_eq_right z,List.take_of_length_le (Nat.le_refl _),List.take_of_length_le z]
 refine GX T ((E2.same S3).same S4) hi (by omega) (by rw [aj,c2]) (by rw [List.length_take];omega) (fun r hr=>(al r (List.mem_of_mem_take hr)).kt fun _ _ e=>S4 _ _ e) fun g5 H5 x11 E5=>?_
 exact IG T E5 hi (by omega) q
end
theorem AK {H:Hp} {L a:Addr} {xs:List V} (hL:H L=none) (h:SqL K H a xs):∀ (H':Hp) (o:HO),SqL K H' a xs→SqL K (upd H' L o) a xs:=by
 have off:a≠L→∀ (H':Hp) (o:HO),SqL K H' a xs→SqL K (upd H' L o) a xs:=fun n H' o h=>by
   rcases h with (h | ⟨w,h⟩) | h
   · exact .inl (.inl (by rw [ap n];exact h))
   · exact .inl (.inr ⟨w,by rw [ap n];exact h⟩)
   · exact .inr h
 rcases h with (h | ⟨w,h⟩) | h
 · exact off (az h hL)
 · exact off (az h hL)
 · exact fun _ _ _=> .inr h
theorem lB.seq {H H':Hp} {f b x kd a:Addr} {g g0:gOp} {n B:Nat} {t:Kn Str} {m:Key} {kn:List (Nat×Str)} {xs:List V} (s:Stp A H f b g0 n) (tk:TK A H x f kd g B t m kn) (k:lB b x kd H H'):(∀ L ys,H L=some (.lst ys)→H' L=some (.lst ys))∧(SqL K H a xs→SqL K H' a xs):=by
 obtain ⟨dx,y,o,_⟩:=tk.ta.ob
 have l:∀ L ys,H L=some (.lst ys)→H' L=some (.lst ys):=fun L ys e=>k _ _ (s.nb e fun _ z=>nomatch z) (cf e o fun z=>nomatch z) (cf e tk.hk fun z=>nomatch z) e
 refine ⟨l,fun h=>?_⟩
 rcases h with (h | ⟨w,h⟩) | h
 · exact .inl (.inl (l _ _ h))
 · exact .inl (.inr ⟨w,k _ _ (s.nb h fun _ z=>nomatch z) (cf h o fun z=>nomatch z) (cf h tk.hk fun z=>nomatch z) h⟩)
 · exact .inr h
theorem Hz (T:Txt K mg A):Rd (nG K A) (Ke K A) ["_law_script", "_law_bits_here", "_law_stamper_here", "_law_table", "_law_known", "_law_keys", "_law_twin_then", "_law_known_then", "_law_kept", "_law_k", "_law_cell", "_law_ends", "_law_found"]:=by
 intro vs H Q E h
 obtain ⟨a,ns,rfl,hs,hlen,tabs,q⟩:=h
 refine ⟨a,ns,0,rfl,hs,by decide,fun z0 H0 S0=>⟨z0,rfl,fun b0 H1 S1 b1 b60=>?_⟩⟩
 obtain ⟨B,rfl⟩:∃ B:Nat,b0=(B:Int):=⟨b0.toNat,by omega⟩
 have S1:=S0.trans S1
 show uR K A _ [some (.ref a),some (.int (B:Int)),none,none,none,none,none,none,none,none,none,none,none] H1
 refine ⟨a,ns,1,rfl,S1.seq hs,by decide,fun z1 H2 S2=>?_⟩
 have S2:=S1.trans S2
 have tabs2:ot A H2:=by
   unfold ot at tabs ⊢
   exact ⟨S2 _ _ tabs.1,S2 _ _ tabs.2.1,S2 _ _ tabs.2.2.1,S2 _ _ tabs.2.2.2.1,S2 _ _ tabs.2.2.2.2.1,tabs.2.2.2.2.2⟩
 refine ⟨z1,rfl,tabs2,fun f b g H3 k3 s3 _=>?_⟩
 have hs3:=k3.seq (S2.seq hs)
 show vh K A _ [some (.ref a),some (.int (B:Int)),some (.ref f),none,none,none,none,none,none,none,none,none,none] H3
 clear S1 S2 S0 tabs tabs2 k3 hs
 intro x dx hx hdx ne
 refine oZ hx hdx ne s3 (by omega) (by omega) (by omega) fun m0 g4 H4 kb4 ta4 s4 sub4=>⟨rfl,?_⟩
 have hs4:=s3.seq kb4 hs3
 have en:=pC ta4.B1 ta4.B60
 have sh:(0:Int)≤(B:Int)∧(B:Int)≤1000000∧(1:Int).natAbs<2^64:=⟨by omega,by omega,by decide⟩
 show uc K A _ [some (.ref a),some (.int (B:Int)),some (.ref f),some (.ref x),none,none,none,none,none,none,none,none,none] H4
 refine .inl fun kd hkd=>?_
 have S5:=au.upd (o:=.dK []) hkd
 have tk5:TK A (upd H4 kd (.dK [])) x f kd g4 B .bare m0 []:=⟨ta4.same S5,aj,.nil,by decide,fun k=>rfl⟩
 have s5:=s4.same (Nat.le_refl _) S5
 have hs5:=S5.seq hs4
 show tM K A _ [some (.ref a),some (.int (B:Int)),some (.ref f),some (.ref x),some (.ref kd),none,none,none,none,none,none,none,none] _
 generalize upd H4 kd (.dK [])=H5 at tk5 s5 hs5
 clear S5 s4 ta4 hs4 hkd kb4 hs3 s3
 refine ⟨a,ns,6,rfl,hs5,by decide,fun z2 H6 S6=>⟨aW (n:=0) (by decide),fun o ho=>⟨(B:Int),z2,o,[],rfl,by omega,by omega,aj,by decide,(fun _ z=>nomatch z),fun k0 H7 S7 k00 k01=>⟨aW (n:=1) (by decide),fun KL hKL=>?_⟩⟩⟩⟩
 obtain ⟨key0,rfl,hk0⟩:=p2n k00 k01
 have S7':=S6.trans ((au.upd ho).trans S7)
 have hoff:=AK hKL (S7'.seq hs5)
 have S8:=S7'.trans (au.upd (o:=.lst [.int (key0:Int)]) hKL)
 have hK8:upd H7 KL (.lst [.int (key0:Int)]) KL=some (.lst (nV [key0])):=aj
 have tk8:=tk5.same S8
 have s8:=s5.same (Nat.le_refl _) S8
 have hs8:=S8.seq hs5
 show ut K A _ [some (.ref a),some (.int (B:Int)),some (.ref f),some (.ref x),some (.ref kd),some (.ref KL),none,none,none,none,none,none,none] _
 generalize upd H7 KL (.lst [.int (key0:Int)])=H8 at hK8 tk8 s8 hs8
 clear S8 S7' S6 S7 hKL tk5 s5 hs5 ho
 obtain ⟨dx8,y8,o8,_⟩:=tk8.ta.ob
 refine ⟨x,dx8,_,rfl,o8,rfl,x,f,b,g4,_,B,.bare,m0,rfl,tk8.ts s8,by omega,fun y9 g9 H9 kb9 hy9 ts9 tb9 sub9=> .inl fun kd9 hkd9=>?_⟩
 have tk9:=tk8.kb s8 kb9 sub9
 have S10:=au.upd (o:=.dK []) hkd9
 have nk9:kd9≠kd:=Ne.symm (az tk9.hk hkd9)
 have ny9:y9≠x:=Ne.symm (az o8 hy9)
 have tk10:=tk9.same S10
 have tb10:TK A (upd H9 kd9 (.dK [])) y9 f kd9 g9 B .bare m0 []:=⟨tb9.same S10,aj,.nil,by decide,fun k=>rfl⟩
 have s10:=ts9.s.same (Nat.le_refl _) S10
 have hK10:=S10 _ _ (s8.lst kb9 _ _ hK8)
 have hs10:=S10.seq (s8.seq kb9 hs8)
 show vg K A _ [some (.ref a),some (.int (B:Int)),some (.ref f),some (.ref x),some (.ref kd),some (.ref KL),some (.ref y9),some (.ref kd9),none,none,none,none,none] _
 generalize upd H9 kd9 (.dK [])=H10 at tk10 tb10 s10 hK10 hs10
 clear S10 hkd9 kb9 hy9 ts9 tb9 tk9 tk8 s8 hK8 hs8
 refine ⟨sh,x,f,g9,B,.bare,m0,0,gU B,rfl,tk10.ta,by decide,en,fun v p H11 S11 pw ep=>?_⟩
 have E11:cR K A H11 a f b x kd y9 kd9 KL v B (0+1+1) g9 .bare .bare m0 m0 [] [] p [key0] ns 0:=⟨tk10.same S11,⟨ny9,nk9,tb10.same S11,pw,ep⟩,s10.same (Nat.le_refl _) S11,S11 _ _ hK10,rfl,(fun k hk=>by rw [List.mem_singleton.mp hk];exact hk0),Nat.le_refl _,Nat.le_refl _,S11.seq hs10⟩
 clear S11 tk10 tb10 s10 hK10 hs10 pw ep
 show vj K A _ [some (.ref a),some (.int (B:Int)),some (.ref f),some (.ref x),some (.ref kd),some (.ref KL),some (.ref y9),some (.ref kd9),some v,none,none,none,none] H11
 refine ⟨7,rfl,37,rfl,.inl (.inl ⟨a,_,rfl,E11.hs,fun W hW=>⟨W,_,rfl,SqL.of aj,?_⟩⟩)⟩
 have S12:=au.upd (o:=.lst (dI (ns.map V.int) (some 7) (some 37))) hW
 have nKW:KL≠W:=az E11.hK hW
 have c30:(dI (ns.map V.int) (some 7) (some 37)).length≤30:=by
   unfold dI;rw [List.length_take]
   have e2:HT.sIx (ns.map V.int).length (ns.map V.int).length (some 37)=min 37 (ns.map V.int).length:=HT.mK _ _ 37
   have e3:HT.sIx (ns.map V.int).length 0 (some 7)=min 7 (ns.map V.int).length:=HT.mK _ _ 7
   rw [e2,e3];omega
 have itz:∀ v∈dI (ns.map V.int) (some 7) (some 37),∃ i,v=.int i:=fun v hv=>by
   obtain ⟨i,_,rfl⟩:=List.mem_map.mp (AY hv)
   exact ⟨i,rfl⟩
 have hW0:upd H11 W (.lst (dI (ns.map V.int) (some 7) (some 37))) W=some (.lst (dI (ns.map V.int) (some 7) (some 37))):=aj
 have E12:=E11.same S12
 generalize upd H11 W (.lst (dI (ns.map V.int) (some 7) (some 37)))=H12 at hW0 E12
 generalize dI (ns.map V.int) (some 7) (some 37)=cs at hW0 c30 itz
 clear S12 hW E11
 refine wV (xs:=cs) (fun i σ H'=>∃ (y kd':Addr) (v:V) (g':gOp) (t u:Kn Str) (m mu:Key) (kn kn':List (Nat×Str)) (p:bf) (ks:List Nat) (x9 x10:Option V),σ=[some (.ref a),some (.int (B:Int)),some (.ref f),some (.ref x),some (.ref kd),some (.ref KL),some (.ref y),some (.ref kd'),some v,x9,x10,none,none]∧cR K A H' a f b x kd y kd' KL v B (2+70*i) g' t u m mu kn kn' p ks ns i∧H' W=some (.lst cs))
   ⟨y9,kd9,v,g9,_,_,m0,m0,[],[],p,[key0],none,none,rfl,E12,hW0⟩ ?_ ?_ ?_
 · rintro i σ H' _ ⟨_,_,_,_,_,_,_,_,_,_,_,_,_,_,_,_,e⟩;exact SqL.of e
 · rintro i w σ H0 pq hv ⟨y,kd',v,g',t,u,m,mu,kn,kn',p,ks,x9,x10,rfl,E0',hW'⟩ hpq
   have hi:i<cs.length:=(List.getElem?_eq_some_iff.mp hv).1
   obtain ⟨c,rfl⟩:=itz w (List.mem_of_getElem? hv)
   have U:=au.upd (o:=.tup [.int (i:Int),.int c]) hpq
   have E:=E0'.same U
   have hW1:=U _ _ hW'
   refine ⟨pq,_,rfl,.inl (.inl aj),rfl,_,_,rfl,_,_,rfl,rfl,?_⟩
   generalize upd H0 pq (.tup [.int (i:Int),.int c])=H' at E hW1
   have kl:=E.kl
   have ln:=E.ln
   have lo:=E.lo
   refine ⟨.inl ⟨rfl,_,SqL.of E.hK⟩,x,f,b,kd,KL,g',_,B,t,m,kn,ks.map fun k:Nat=>(k:Int),c,rfl,E.tk,by omega,E.s,by omega,by rw [← BO];exact E.hK,by rw [List.length_map];omega,fun k hk=>?_,fun key t' m' kn2 g1 H1 k3 tk1 l1 s1 sub1 hkey=>?_⟩
   · obtain ⟨j,hj,rfl⟩:=List.mem_map.mp hk
     exact ⟨by omega,p2z (E.kk j hj)⟩
   obtain ⟨kl3,sq3⟩:=lB.seq (K:=K) (a:=a) (xs:=ns.map V.int) E.s E.tk k3
   have hK1:=kl3 _ _ E.hK
   have old1:=E.old.k3 E.s E.tk k3 sub1
   refine ⟨KL,_,.int (key:Int),rfl,rfl,hK1,by rw [List.length_map];exact fK (by omega),?_⟩
   have e2:nV ks++[.int (key:Int)]=nV (ks++[key]):=by unfold nV;rw [List.map_append];rfl
   rw [e2]
   have E2:cR K A (upd H1 KL (.lst (nV (ks++[key])))) a f b x kd y kd' KL v B (2+70*i+65) g1 t' u m' mu kn2 kn' p (ks++[key]) ns (i+1):=⟨tk1.ul hK1,old1.ul hK1,s1.ul hK1,aj,by rw [List.length_append,kl];rfl,(fun k hk=>by
     rcases List.mem_append.mp hk with z | z
     · exact E.kk k z
     · rw [List.mem_singleton.mp z];exact hkey),by omega,by omega,hoff _ _ (sq3 E.hs)⟩
   have hW2:upd H1 KL (.lst (nV (ks++[key]))) W=some (.lst cs):=by rw [ap (Ne.symm nKW)];exact kl3 _ _ hW1
   generalize upd H1 KL (.lst (nV (ks++[key])))=H2 at E2 hW2
   refine ⟨a,ns,6,rfl,E2.hs,by decide,fun z3 H3 S3=>⟨by decide,Sel.dec (fun _=>?_) (fun _=>?_)⟩⟩
   · have E3:=E2.same S3
     have hW3:=S3 _ _ hW2
     obtain ⟨dx3,y3,o3,_⟩:=E3.tk.ta.ob
     refine ⟨x,dx3,_,rfl,o3,rfl,x,f,b,g1,_,B,t',m',rfl,E3.tk.ts E3.s,by omega,fun y4 g4 H4 kb4 hy4 ts4 tb4 sub4=>?_⟩
     have E4:=E3.kb kb4 ts4.s sub4
     have hW4:=E3.s.lst kb4 _ _ hW3
     refine ⟨kd,_,rfl,E4.tk.hk,fun kd5 hkd5=>?_⟩
     have S5:=au.upd (o:=.dK (dOf kn2)) hkd5
     have E5:=E4.same S5
     have nk5:kd5≠kd:=Ne.symm (az E4.tk.hk hkd5)
     have ny4:y4≠x:=Ne.symm (az o3 hy4)
     have tk5:TK A (upd H4 kd5 (.dK (dOf kn2))) y4 f kd5 g4 B t' m' kn2:=⟨tb4.same S5,aj,E4.tk.kno⟩
     refine ⟨sh,x,f,g4,B,t',m',0,gU B,rfl,E5.tk.ta,?_,en,fun v6 p6 H6 S6 pw6 ep6=>?_⟩
     · rw [E5.tk.kno.len E5.tk.ta.wf];omega
     have E6:=E5.same S6
     exact ⟨y4,kd5,v6,g4,t',t',m',m',kn2,kn2,p6,ks++[key],_,_,rfl,⟨E6.tk,⟨ny4,nk5,tk5.same S6,pw6,ep6⟩,E6.s.same (by omega) (.refl _),E6.hK,E6.kl,E6.kk,E6.ln,E6.ln,E6.hs⟩,S6 _ _ (S5 _ _ hW4)⟩
   · have E3:=E2.same S3
     exact ⟨y,kd',v,g1,t',u,m',mu,kn2,kn',p,ks++[key],_,_,rfl,E3.kb aT.rfl' (E3.s.same (by omega) (.refl _)) Sub.rfl',S3 _ _ hW2⟩
 · rintro σ H' ⟨y,kd',v,g',t,u,m,mu,kn,kn',p,ks,x9,x10,rfl,E,hW'⟩
   exact JN T E (by omega) (by omega) q
section
structure TP (P:Program) (w:World) (K:W.Frag) (mg:Str→Option Value) (base:Heap) (A:Adr):Prop extends Txt K mg A where
 B:BM mg base
 C_76:W.CodeHd base A.k_76 A.t_76
 C_49:W.CodeHd base A.k_49 A.t_49
 C_43:W.CodeHd base A.k_43 A.t_43
 C_37:W.CodeHd base A.k_37 A.t_37
 C_41:W.CodeHd base A.k_41 A.t_41
variable {P:Program} {w:World} {K:W.Frag} {mg:Str→Option Value} {base:Heap} {A:Adr} (T:TP P w K mg base A)
include T
theorem jL:aF P w K mg base (CX1 P w) 1 A.a_60 A.d_60 ["thing"] (fS K A):=
 T.f_60.f.okS Fb (CG K A) (Fy T.1) fun _ _ _ _ _ _ hr=>
 ao (ay (eT (aC eI T.z_isinstance boot_isinstance (ab (aa 0) (ab (eN T.z_int boot_int) (af)))) (fG (zH (aC eI T.z_isinstance boot_isinstance (ab (aa 0) (ab (eN T.z_bool boot_bool) (af))))))))
theorem yO:aF P w K mg base (CX1 P w) 2 A.a_57 A.d_57 ["thing"] (lh K A):=
 T.f_57.f.okS ES (CY K A) (Im T.1) fun _ _ _ _ _ _ hr=>
 am (aN (br (aE (jL T) hr.le T.f_60 (ab (aa 0) (af)))) (ao (ay (mf oLe oLt (ak) (aa 0) (ax IR (ak) (ak))))) (aI)) (ao (ay (aC eI T.z_isinstance boot_isinstance (ab (aa 0) (ab (eN T.z_str boot_str) (af))))))
theorem yR:aF P w K mg base (CX1 P w) 3 A.a_58 A.d_58 ["thing"] (lP K A):=
 T.f_58.f.okS Gh (Cm K A) (GC T.1) fun _ _ _ _ _ _ hr=>
 am (aN (bv (br (aC eI T.z_isinstance boot_isinstance (ab (aa 0) (ab (eN T.z_tuple boot_tuple) (af)))))) (ao (ay (ej))) (aI)) (am (aN (bv (gE oLe oLe (ak) (aC ck T.z_len PySem.boot_len (ab (aa 0) (af))) (xq T.c_MOST_PARTS))) (ao (ay (ej))) (aI)) (ao (ay (eT (aC eI T.z_isinstance boot_isinstance (ab (bd (aH hr.units1) (aa 0) (ak) (fun _ _=>rfl)) (ab (eN T.z_str boot_str) (af)))) (fG (aC (JH rfl) T.z_all L2.Dm (ab (lF (ys:=[]) (by exact ⟨rfl,by decide +kernel,by decide +kernel,rfl,by decide +kernel,by decide +kernel⟩) (by exact .nil) (fj (aa 0)) (fun C s H fp=>oU) (fun C s H fp=>(aE (yO T) hr.le T.f_57 (ab (aa 0) (af))))) (af))))))))
theorem HU:aF P w K mg base (CX1 P w) 2 A.a_64 A.d_64 ["part"] (oj K A):=
 T.f_64.f.okS yW (BW K A) (FH T.1) fun _ _ _ _ _ _ hr=>
 am (aN (br (aE (jL T) hr.le T.f_60 (ab (aa 0) (af)))) (ao (ay (vc (.cons (rO (aa 0)) (.cons (cb) (.nil)))))) (aI)) (am (aK 1 yW.nd (aC ck T.z_len PySem.boot_len (ab (aa 0) (af)))) (ao (ay (vc (.cons (rO (aa 1)) (.cons (cb) (.cons (rO (aa 0)) (.nil))))))))
theorem Io:aF P w K mg base (CX1 P w) 4 A.a_78 A.d_78 ["term"] (lL K A):=
 T.f_78.f.okS Fj (Co K A) (HI T.1) fun _ _ _ _ _ _ hr=>
 am (aN (bv (br (aE (yR T) hr.le T.f_58 (ab (aa 0) (af))))) (ao (dN)) (aI)) (ao (ay (mO PySem.F.plainAttrs_str PySem.F.slot_str_join PySem.F.type_str_join Ad (cb) (ab (lF (ys:=[]) (by exact ⟨rfl,by decide +kernel,by decide +kernel,rfl,by decide +kernel,by decide +kernel⟩) (by exact .nil) (fj (aa 0)) (fun C s H fp=>oU) (fun C s H fp=>(aE (HU T) hr.le T.f_64 (ab (aa 0) (af))))) (af)))))
theorem HK (f c:Addr) (cl:List (Str×Addr)) (Ar:Around) (outer:List Env) (s:Shared) (H:Hp) (E:XK)
  (hr:bg 4 (Ar.deeper (W.envX fH.qual fH.scope s.heap.objs.size f (.ref c) cl))):PE (gb P w K mg base ["term"] fH.qual fH.scope f c cl Ar outer s H E).nox (jD wz) (DV K A):=QE.out (
 aE (Io T) hr.le T.f_78 (ab (aa 0) (af)))
theorem FZ:fh P w K mg base 5 fH (rD K A):=
 qT rfl GJ (fun f c cl Ar outer s H vs cvs Q E hr hl hc h=>by
  obtain ⟨a0,rfl⟩:=L2.dH hl
  obtain rfl:=L2.sV hc
  exact ⟨_,(HK T f c cl Ar outer s H E hr).nox,Ib T.1 a0 H Q E h⟩)
theorem GO:aF P w K mg base (CX1 P w) 4 A.a_18 A.d_18 ["self", "term"] (nW K A):=
 T.f_18.okS Fh (DJ K A) (HM T.1) fun _ _ _ _ _ _ hr=>
 am (aN (bv (br (aE (yR T) hr.le T.f_58 (ab (aa 1) (af))))) (ao (dN)) (aI)) (am (aN (aU (Av hr.units150) (aa 1) (aO (aa 0))) (ao (pJ hr.units1 (aO (aa 0)) (aa 1) (aC ck T.z_len PySem.boot_len (ab (aO (aa 0)) (af))))) (aI)) (ao (ay (bd (aH hr.units1) (aO (aa 0)) (aa 1) (fun _ _=>rfl)))))
theorem FN (f c:Addr) (cl:List (Str×Addr)) (Ar:Around) (outer:List Env) (s:Shared) (H:Hp) (E:XK)
  (hr:bg 4 (Ar.deeper (W.envX fV.qual fV.scope s.heap.objs.size f (.ref c) cl))):PE (gb P w K mg base ["term", "numbers"] fV.qual fV.scope f c cl Ar outer s H E).nox (jD wB) (BD K A):=QE.out (
 cO (aa 1) T.cl_Numbers T.me_Numbers_number_of (GO T) hr.le T.b_18 aP (ab (aa 0) (af)))
theorem FO:fh P w K mg base 5 fV (rB K A):=
 qT rfl FK (fun f c cl Ar outer s H vs cvs Q E hr hl hc h=>by
  obtain ⟨a0,rfl⟩:=L2.dH hl
  obtain ⟨b0,rfl⟩:=L2.dH hc
  exact ⟨_,(FN T f c cl Ar outer s H E hr).nox,IK T.1 a0 b0 H Q E h⟩)
theorem GH (f c:Addr) (cl:List (Str×Addr)) (Ar:Around) (outer:List Env) (s:Shared) (H:Hp) (E:XK)
  (hr:bg 0 (Ar.deeper (W.envX fY.qual fY.scope s.heap.objs.size f (.ref c) cl))):PSs (gb P w K mg base ["_law_term", "_law_known", "_law_first"] fY.qual fY.scope f c cl Ar outer s H E).nox (aS vF) (Do K A):=QSs.out (
 ao (ay (mO PySem.F.plainAttrs_dict PySem.F.slot_dict_setdefault PySem.F.type_dict_setdefault (mZ hr.units1) (aa 1) (ab (aa 0) (ab (ax bQ (ax eM (ak) (aC ck T.z_len PySem.boot_len (ab (aa 1) (af)))) (aa 2)) (af))))))
theorem Gi:fh P w K mg base 1 fY (rJ K A):=
 oX rfl IE (fun f c cl Ar outer s H vs cvs Q E hr hl hc h=>by
  obtain ⟨a0,rfl⟩:=L2.dH hl
  obtain ⟨b0,b1,rfl⟩:=L2.sg hc
  exact ⟨_,(GH T f c cl Ar outer s H E hr).nox,HS T.1 a0 b0 b1 H Q E h⟩)
theorem FQ (f c:Addr) (cl:List (Str×Addr)) (Ar:Around) (outer:List Env) (s:Shared) (H:Hp) (E:XK)
  (hr:bg 0 (Ar.deeper (W.envX gh.qual gh.scope s.heap.objs.size f (.ref c) cl))):PSs (gb P w K mg base ["_law_term", "_law_known"] gh.qual gh.scope f c cl Ar outer s H E).nox (aS vw) (CP K A):=QSs.out (
 ao (ay (mO PySem.F.plainAttrs_dict PySem.F.slot_dict_setdefault PySem.F.type_dict_setdefault (mZ hr.units1) (aa 1) (ab (aa 0) (ab (ax bQ (cb) (kg Jf T.z_str boot_str (ab (aC ck T.z_len PySem.boot_len (ab (aa 1) (af))) (af)))) (af))))))
theorem FM:fh P w K mg base 1 gh (sW K A):=
 oX rfl Hm (fun f c cl Ar outer s H vs cvs Q E hr hl hc h=>by
  obtain ⟨a0,rfl⟩:=L2.dH hl
  obtain ⟨b0,rfl⟩:=L2.dH hc
  exact ⟨_,(FQ T f c cl Ar outer s H E hr).nox,Ft T.1 a0 b0 H Q E h⟩)
theorem Ie (f c:Addr) (cl:List (Str×Addr)) (Ar:Around) (outer:List Env) (s:Shared) (H:Hp) (E:XK)
  (hr:bg 0 (Ar.deeper (W.envX fU.qual fU.scope s.heap.objs.size f (.ref c) cl))):PSs (gb P w K mg base ["_law_term", "_law_total", "_law_part", "_law_signs", "_law_many"] fU.qual fU.scope f c cl Ar outer s H E).nox (aS xD) (CI K A):=QSs.out (
 am (aK 1 jP.nd (ak)) (am (iP 2 jP.nd (fj (aa 0)) (ao (aN (br (aC eI T.z_isinstance boot_isinstance (ab (aa 2) (ab (eN T.z_str boot_str) (af))))) (am (uY (ys:=[]) 3 jP.nd (by exact ⟨rfl,by decide +kernel,by decide +kernel,rfl,by decide +kernel,by decide +kernel⟩) (by exact .nil) (fj (jS jA (aa 2) (ma) (ij (ak)))) (fun C s H fp=>oU) (fun C s H fp=>(aC IV T.z_ord boot_ord (ab (aa 0) (af))))) (ao (aK 1 jP.nd (ax bQ (ax bQ (ax eM (aa 1) (ak)) (aC ck T.z_len PySem.boot_len (ab (aa 2) (af)))) (ax eM (ak) (aC (Kr rfl) T.z_sum boot_sum (ab (aa 3) (af)))))))) (ao (aK 1 jP.nd (ax bQ (ax eM (aa 1) (ak)) (aa 2)))))) PassesOwn.never) (ao (ay (ax bO (aa 1) (aa 4))))))
theorem GP:fh P w K mg base 1 fU (sU K A):=
 oX rfl jP (fun f c cl Ar outer s H vs cvs Q E hr hl hc h=>by
  obtain ⟨a0,rfl⟩:=L2.dH hl
  obtain ⟨b0,rfl⟩:=L2.dH hc
  exact ⟨_,(Ie T f c cl Ar outer s H E hr).nox,Gj T.1 a0 b0 H Q E h⟩)
theorem FV:aF P w K mg base (CX1 P w) 1 A.a_27 A.d_27 ["_law_cell"] (oE K A):=
 T.f_27.f.okS Hs (Ek K A) (Hx T.1) fun _ _ _ _ _ _ hr=>
 ao (ay (ax bQ (ak) (ax bO (ax em (aa 0) (ak)) (bd (aH hr.units1) (fi (ab (ak) (ab (ak) (ab (ak) (af))))) (ax bO (aa 0) (ak)) (fun _ _=>rfl)))))
theorem gL:aF P w K mg base (CX1 P w) 1 A.a_26 A.d_26 ["_law_script", "_law_k"] (fm K A):=
 T.f_26.f.okS lH (EA K A) (Ik T.1) fun _ _ _ _ _ _ hr=>
 am (aN (aU oLt (aa 1) (aC ck T.z_len PySem.boot_len (ab (aa 0) (af)))) (ao (ay (bd (aH hr.units1) (aa 0) (aa 1) (fun _ _=>rfl)))) (aI)) (am (aK 2 lH.nd (ax bQ (ak) (aC ck T.z_len PySem.boot_len (ab (aa 0) (af))))) (am (iP 3 lH.nd (fj (jS jA (aa 0) (ma) (ij (ak)))) (ao (aK 2 lH.nd (ax bO (ax bQ (ax eM (aa 2) (ak)) (aa 3)) (ak)))) PassesOwn.never) (am (aK 2 lH.nd (ax bO (ax bQ (aa 2) (ax eM (ak) (aa 1))) (ak))) (ao (ay (ax bO (ax eM (aa 2) (aa 2)) (ak)))))))
theorem FJ (B:BM mg base) (C:W.CodeHd base A.k_76 A.t_76) (Ar:Around) (outer:List Env) (s:Shared) (H:Hp) (E:XK)
  (hr:bg 0 (Ar.deeper (envOfC "writing" (ag kH) s.heap.objs.size A.a_76 (.ref A.k_76)))):QMs (eU (CX1 P w) P w K mg base [] "writing" (ag kH) A.a_76 (.ref A.k_76) Ar outer s H E).nox (aS kH) (DH K A):=(
 lC (lg (yG B C rfl (by rfl) (by simp <;> omega) rfl rfl rfl rfl (fun _ _ _ _ us hl=>by obtain ⟨_,rfl⟩:=L2.dH hl;rfl))))
theorem Iq:aF P w K mg base (CX1 P w) 1 A.a_76 A.d_76 [] (oi K A):=
 T.f_76.f.okM (caps:=fun L=>[]) T.kc_76 Fq (De K A) (fun L p hp=>nomatch hp) (fun L=>by simp) (fun Ar outer s H vs Q E hr h=>⟨_,QMs.nox (FJ T T.B T.C_76 Ar outer s H E hr),Ig T.1 (by simp) vs H Q E h⟩)
theorem Ga:aF P w K mg base (CX1 P w) 1 A.a_17 A.d_17 ["self"] (ox K A):=
 T.f_17.okS Hn (Bf K A) (ID T.1) fun _ _ _ _ _ _ hr=>
 ao (bY (aa 0) (gk))
theorem HG (B:BM mg base) (C:W.CodeHd base A.k_49 A.t_49) (Ar:Around) (outer:List Env) (s:Shared) (H:Hp) (E:XK)
  (hr:bg 2 (Ar.deeper (envOfC "counting" (ag kE) s.heap.objs.size A.a_49 (.ref A.k_49)))):QMs (eU (CX1 P w) P w K mg base ["numbers"] "counting" (ag kE) A.a_49 (.ref A.k_49) Ar outer s H E).nox (aS kE) (DM K A (s.heap.objs.size+1)):=(
 ii (hV (aK 0 zM.nd (xH T.mk_Numbers (Ga T) hr.le T.mc_Numbers T.b_17 aP))) (lC (lg (yG B C rfl (by rfl) (by simp <;> omega) rfl rfl rfl rfl (fun _ _ _ _ us hl=>by obtain ⟨_,rfl⟩:=L2.dH hl;rfl)))))
theorem GU:aF P w K mg base (CX1 P w) 3 A.a_49 A.d_49 [] (ow K A):=
 T.f_49.f.okM (caps:=fun L=>[(0,L+1)]) T.kc_49 zM (BB K A) (fun L p hp=>by simp only [List.mem_cons,List.not_mem_nil,or_false] at hp;rcases hp with rfl <;> exact ⟨_,rfl,rfl,rfl⟩) (fun L=>by simp) (fun Ar outer s H vs Q E hr h=>⟨_,QMs.nox (HG T T.B T.C_49 Ar outer s H E hr),Gr T.1 (s.heap.objs.size+1) (by simp) vs H Q E h⟩)
theorem Iu (B:BM mg base) (C:W.CodeHd base A.k_43 A.t_43) (Ar:Around) (outer:List Env) (s:Shared) (H:Hp) (E:XK)
  (hr:bg 0 (Ar.deeper (envOfC "_law_worded" (ag ko) s.heap.objs.size A.a_43 (.ref A.k_43)))):QMs (eU (CX1 P w) P w K mg base ["_law_known", "_law_word"] "_law_worded" (ag ko) A.a_43 (.ref A.k_43) Ar outer s H E).nox (aS ko) (Eo K A (s.heap.objs.size+1)):=(
 ii (hV (aK 0 sA.nd (gk))) (ii (hV (sT 1 sA.nd B C rfl (by rfl) (by simp <;> omega) rfl rfl rfl rfl (fun _ _ _ _ _ us hl=>by obtain ⟨_,rfl⟩:=L2.dH hl;rfl))) (lC (lg (aa 1)))))
theorem EX:aF P w K mg base (CX1 P w) 1 A.a_43 A.d_43 [] (nJ K A):=
 T.f_43.f.okM (caps:=fun L=>[(0,L+1)]) T.kc_43 sA (Em K A) (fun L p hp=>by simp only [List.mem_cons,List.not_mem_nil,or_false] at hp;rcases hp with rfl <;> exact ⟨_,rfl,rfl,rfl⟩) (fun L=>by simp) (fun Ar outer s H vs Q E hr h=>⟨_,QMs.nox (Iu T T.B T.C_43 Ar outer s H E hr),HC T.1 (s.heap.objs.size+1) (by simp) vs H Q E h⟩)
theorem Fo (B:BM mg base) (C:W.CodeHd base A.k_37 A.t_37) (Ar:Around) (outer:List Env) (s:Shared) (H:Hp) (E:XK)
  (hr:bg 0 (Ar.deeper (envOfC "_law_sure" (ag kq) s.heap.objs.size A.a_37 (.ref A.k_37)))):QMs (eU (CX1 P w) P w K mg base ["_law_first", "_law_known", "_law_number"] "_law_sure" (ag kq) A.a_37 (.ref A.k_37) Ar outer s H E).nox (aS kq) (BR K A (s.heap.objs.size+1) (s.heap.objs.size+1+1)):=(
 ii (hV (aK 1 su.nd (gk))) (ii (hV (sT 2 su.nd B C rfl (by rfl) (by simp <;> omega) rfl rfl rfl rfl (fun _ _ _ _ _ us hl=>by obtain ⟨_,rfl⟩:=L2.dH hl;rfl))) (lC (lg (aa 2)))))
theorem Hy:aF P w K mg base (CX1 P w) 1 A.a_37 A.d_37 ["_law_first"] (nR K A):=
 T.f_37.f.okM (caps:=fun L=>[(0,L+1),(1,L+1+1)]) T.kc_37 su (EC K A) (fun L p hp=>by simp only [List.mem_cons,List.not_mem_nil,or_false] at hp;rcases hp with rfl | rfl <;> exact ⟨_,rfl,rfl,rfl⟩) (fun L=>by simp) (fun Ar outer s H vs Q E hr h=>⟨_,QMs.nox (Fo T T.B T.C_37 Ar outer s H E hr),Gc T.1 (s.heap.objs.size+1) (s.heap.objs.size+1+1) (by simp) vs H Q E h⟩)
theorem Hk (B:BM mg base) (C:W.CodeHd base A.k_41 A.t_41) (Ar:Around) (outer:List Env) (s:Shared) (H:Hp) (E:XK)
  (hr:bg 0 (Ar.deeper (envOfC "_law_weak" (ag kB) s.heap.objs.size A.a_41 (.ref A.k_41)))):QMs (eU (CX1 P w) P w K mg base ["_law_many", "_law_short"] "_law_weak" (ag kB) A.a_41 (.ref A.k_41) Ar outer s H E).nox (aS kB) (CT K A (s.heap.objs.size+1)):=(
 ii (hV (sT 1 zm.nd B C rfl (by rfl) (by simp <;> omega) rfl rfl rfl rfl (fun _ _ _ _ _ us hl=>by obtain ⟨_,rfl⟩:=L2.dH hl;rfl))) (lC (lg (aa 1))))
theorem Gd:aF P w K mg base (CX1 P w) 1 A.a_41 A.d_41 ["_law_many"] (nN K A):=
 T.f_41.f.okM (caps:=fun L=>[(0,L+1)]) T.kc_41 zm (Dn K A) (fun L p hp=>by simp only [List.mem_cons,List.not_mem_nil,or_false] at hp;rcases hp with rfl <;> exact ⟨_,rfl,rfl,rfl⟩) (fun L=>by simp) (fun Ar outer s H vs Q E hr h=>⟨_,QMs.nox (Hk T T.B T.C_41 Ar outer s H E hr),FU T.1 (s.heap.objs.size+1) (by simp) vs H Q E h⟩)
theorem GB:aF P w K mg base (CX1 P w) 4 A.a_35 A.d_35 ["_law_cell"] (nX K A):=
 T.f_35.f.okS zp (DP K A) (EM T.1) fun _ _ _ _ _ _ hr=>
 am (aK 1 zp.nd (ax bO (aa 0) (ak))) (am (aN (aU (bH hr.units150) (aa 1) (ak)) (ao (ay (ke (Iq T) hr.le T.f_76.m T.f_76.f.kp T.f_76.b aP))) (aI)) (am (aN (aU (bH hr.units150) (aa 1) (ak)) (ao (ay (ke (GU T) hr.le T.f_49.m T.f_49.f.kp T.f_49.b aP))) (aI)) (am (aN (aU (bH hr.units150) (aa 1) (ak)) (ao (ay (ke (EX T) hr.le T.f_43.m T.f_43.f.kp T.f_43.b aP))) (aI)) (am (aN (aU (bH hr.units150) (aa 1) (ak)) (ao (ay (aE (Hy T) hr.le T.f_37 (ab (ax bO (ax em (aa 0) (ak)) (ak)) (af))))) (aI)) (ao (ay (aE (Gd T) hr.le T.f_41 (ab (ax bQ (ak) (ax bO (ax em (aa 0) (ak)) (ak))) (af)))))))))
theorem FB:aF P w K mg base (CX1 P w) 2 A.a_51 A.d_51 ["thing"] (nK K A):=
 T.f_51.f.okS EU (Ca K A) (Gx T.1) fun _ _ _ _ _ _ hr=>
 ao (ay (eT (aE (jL T) hr.le T.f_60 (ab (aa 0) (af))) (fG (mf oLe oLe (ak) (aa 0) (xq T.c_MOST_BITS)))))
theorem lx:rh P w K mg base 5 (iB K A):=fun ts hts=>by
 simp only [iB,List.mem_cons,List.not_mem_nil,or_false] at hts
 rcases hts with rfl | rfl | rfl | rfl | rfl
 · exact (FZ T).mono (by decide)
 · exact (FO T).mono (by decide)
 · exact (Gi T).mono (by decide)
 · exact (FM T).mono (by decide)
 · exact (GP T).mono (by decide)
theorem rZ:aF P w K mg base (CX1 P w) 6 A.a_12 A.d_12 ["self", "stamper", "term"] (jJ K A):=
 T.f_12.okS EQ (Bs K A) (EI T.1) fun _ _ _ _ _ _ hr=>
 am (bY (aa 0) (aa 2)) (ao (bY (aa 0) (lj (lx T) hr.le aP (aa 1) (ab (aa 2) (af)))))
theorem Ez:aF P w K mg base (CX1 P w) 7 A.a_0 A.d_0 ["self", "stamper"] (lX K A):=
 T.f_0.okS Kc (GK K A) (Jh T.1) fun _ _ _ _ _ _ hr=>
 ao (cU (pI T.mc_Knot T.cf_Knot (rZ T) hr.le T.b_12 aP (ab (aa 0) (ab (aa 1) (ab (cH (ab (cb) (af))) (af))))))
theorem yH:aF P w K mg base (CX1 P w) 9 A.a_19 A.d_19 ["self", "stamper", "bits"] (jM K A):=
 T.f_19.okS Gz (BG K A) (HJ T.1) fun _ _ _ _ _ _ hr=>
 am (aN (bv (br (aE (FB T) hr.le T.f_51 (ab (aa 2) (af))))) (ao (dN)) (aI)) (am (bY (aa 0) (aa 1)) (am (bY (aa 0) (aa 2)) (ao (bY (aa 0) (dB T.mk_Bare (Ez T) hr.le T.mc_Bare T.b_0 aP (ab (aa 1) (af)))))))
theorem oK:aF P w K mg base (CX1 P w) 1 A.a_31 A.d_31 ["_law_bits_here", "_law_cell", "_law_others"] (iE K A):=
 T.f_31.f.okS oG (Eh K A) (HD T.1) fun _ _ _ _ _ _ hr=>
 am (aK 3 oG.nd (ax eY (ak) (aa 0))) (am (aK 4 oG.nd (ax em (aa 1) (ak))) (am (aN (aU (bH hr.units150) (ax bO (aa 1) (ak)) (ak)) (ao (ay (ax bO (aa 4) (aa 3)))) (aI)) (am (aN (aU (bH hr.units150) (ax bO (aa 1) (ak)) (ak)) (ao (ay (ax dF (ax dF (aa 3) (ak)) (ax bO (aa 4) (aa 3))))) (aI)) (am (aN (x_w (pN (aU (bH hr.units150) (ax bO (aa 1) (ak)) (ak)) (mI (aU (gy hr.units150) (aa 2) (fi (af)))))) (am (aK 5 oG.nd (ax bO (ax bO (ax eM (aa 4) (ak)) (ak)) (aa 0))) (ao (ay (ax sP (bd (aH hr.units1) (aa 2) (ax bO (aa 4) (aC ck T.z_len PySem.boot_len (ab (aa 2) (af)))) (fun _ _=>rfl)) (ax eY (ak) (aa 5)))))) (aI)) (ao (ay (ax bO (ax eM (aa 4) (ak)) (aa 3))))))))
theorem zA:aF P w K mg base (CX1 P w) 11 A.a_23 A.d_23 ["self"] (lf K A):=
 T.f_23.okS zB (Ew K A) (Ha T.1) fun _ _ _ _ _ _ hr=>
 am (aK 1 zB.nd (dB T.mk_Table (yH T) hr.le T.mc_Table T.b_19 aP (ab (aO (aa 0)) (ab (aO (aa 0)) (af))))) (am (bY (aa 1) (aO (aa 0))) (ao (ay (aa 1))))
theorem ou:aF P w K mg base (CX1 P w) 2 A.a_54 A.d_54 ["bits", "thing"] (iU K A):=
 T.f_54.f.okS EK (BU K A) (Hf T.1) fun _ _ _ _ _ _ hr=>
 ao (ay (eT (aE (jL T) hr.le T.f_60 (ab (aa 1) (af))) (fG (mf oLe oLt (ak) (aa 1) (ax eY (ak) (aa 0))))))
theorem zq:aF P w K mg base (CX1 P w) 3 A.a_48 A.d_48 ["bits", "low", "high"] (lr K A):=
 T.f_48.f.okS HZ (DU K A) (Hc T.1) fun _ _ _ _ _ _ hr=>
 am (aN (x_w (fg (bv (br (aE (ou T) hr.le T.f_54 (ab (aa 0) (ab (aa 1) (af)))))) (fc (bv (br (aE (ou T) hr.le T.f_54 (ab (aa 0) (ab (aa 2) (af))))))))) (ao (dN)) (aI)) (ao (aN (aU oGt (aa 1) (aa 2)) (ao (dN)) (aI)))
theorem FT:aF P w K mg base (CX1 P w) 1 A.a_70 A.d_70 ["bits", "depth", "begin"] (oo K A):=
 T.f_70.f.okS yN (Bj K A) (HQ T.1) fun _ _ _ _ _ _ hr=>
 am (aK 3 yN.nd (ax dF (aa 0) (aa 1))) (ao (ay (cH (ab (ax eY (aa 2) (aa 3)) (ab (ax dF (ax eY (ax bQ (aa 2) (ak)) (aa 3)) (ak)) (af))))))
theorem yF:aF P w K mg base (CX1 P w) 2 A.a_63 A.d_63 ["bits", "low", "high", "depth", "begin"] (lw K A):=
 T.f_63.f.okS yZ (Eb K A) (Hv T.1) fun _ _ _ _ _ _ hr=>
 am (aK 5 yZ.nd (aE (FT T) hr.le T.f_70 (ab (aa 0) (ab (aa 3) (ab (aa 4) (af)))))) (ao (ay (eT (eQ oLe (bd (aH hr.units1) (aa 5) (ak) (fun _ _=>rfl)) (aa 2)) (fG (eQ oLe (aa 1) (bd (aH hr.units1) (aa 5) (ak) (fun _ _=>rfl)))))))
theorem sC:∀ n:Nat,aF P w K mg base (CX1 P w) (2+n) A.a_66 A.d_66 ["bits", "low", "high", "depth", "begin", "knot"] (ix K A n)
 | 0=>⟨fun vs H Q E h=>(yL K A vs H Q E h).elim,fun _ _ _ H _ _ vs Q E _ _ _ _ h=>(yL K A vs H Q E h).elim⟩
 | n+1=>T.f_66.f.okS rS (CJ K A (n+1)) (FI T.1 n) fun _ _ _ _ _ _ (hr:bg (2+n) _)=>
 am (aN (bv (br (aE (yF T) hr.le T.f_63 (ab (aa 0) (ab (aa 1) (ab (aa 2) (ab (aa 3) (ab (aa 4) (af))))))))) (ao (ay (cH (ab (cb) (ab (aO (aa 5)) (af)))))) (aI)) (am (aN (bv (br (aC yX T.z_isinstance boot_isinstance (ab (aa 5) (ab (BY T.mc_Fork) (af)))))) (ao (ay (aO (aa 5)))) (aI)) (am (aK 6 rS.nd (aE (sC n) hr.le T.f_66 (ab (aa 0) (ab (aa 1) (ab (aa 2) (ab (ax bQ (aO (aa 5)) (ak)) (ab (ax eM (ak) (aO (aa 5))) (ab (aO (aa 5)) (af))))))))) (am (aK 7 rS.nd (aE (sC n) hr.le T.f_66 (ab (aa 0) (ab (aa 1) (ab (aa 2) (ab (ax bQ (aO (aa 5)) (ak)) (ab (ax bQ (ax eM (ak) (aO (aa 5))) (ak)) (ab (aO (aa 5)) (af))))))))) (ao (ay (cH (ab (cb) (ab (aO (aa 5)) (ab (aO (aa 5)) (ab (aa 6) (ab (aa 7) (af))))))))))))
theorem nQ:aF P w K mg base (CX1 P w) 73 A.a_74 A.d_74 ["table", "low", "high"] (iV K A):=
 T.f_74.f.okS Ho (Bn K A) (EJ T.1) fun _ _ _ _ _ _ hr=>
 am (cU (aE (zq T) hr.le T.f_48 (ab (aO (aa 0)) (ab (aa 1) (ab (aa 2) (af)))))) (ao (ay (aE (sC T 70) hr.le T.f_66 (ab (aO (aa 0)) (ab (aa 1) (ab (aa 2) (ab (ak) (ab (ak) (ab (aO (aa 0)) (af))))))))))
theorem CK:aF P w K mg base (CX1 P w) 1 A.a_1 A.d_1 ["self", "bits", "key"] (me K A):=
 T.f_1.okS Jx (Gn K A) (JP T.1) fun _ _ _ _ _ _ hr=>
 ao (ay (rT))
theorem zN:aF P w K mg base (CX1 P w) 1 A.a_14 A.d_14 ["self", "bits", "key"] (jK K A):=
 T.f_14.okS Fi (Cr K A) (EZ T.1) fun _ _ _ _ _ _ hr=>
 ao (ay (oP (aU (bH hr.units150) (aa 2) (aO (aa 0))) (aO (aa 0)) (rT)))
theorem om:aF P w K mg base (CX1 P w) 1 A.a_69 A.d_69 ["bits", "key", "depth"] (iO K A):=
 T.f_69.f.okS Ia (Bk K A) (HH T.1) fun _ _ _ _ _ _ hr=>
 ao (ay (ax EV (ax vW (aa 1) (ax dF (ax dF (aa 0) (aa 2)) (ak))) (ak)))
theorem vo:aF P w K mg base (CX1 P w) 2 A.a_9 A.d_9 ["self", "bits", "key"] (mj K A):=
 T.f_9.okS KH (FG K A) (Jr T.1) fun _ _ _ _ _ _ hr=>
 ao (ay (oP (aU (bH hr.units150) (aE (om T) hr.le T.f_69 (ab (aa 1) (ab (aa 2) (ab (aO (aa 0)) (af))))) (ak)) (aO (aa 0)) (aO (aa 0))))
theorem Ce:∀ n:Nat,aF P w K mg base (CX1 P w) (2+n) A.a_7 A.d_7 ["self", "bits", "key"] (kK K A n)
 | 0=>⟨fun vs H Q E h=>(CO K A vs H Q E h).elim,fun _ _ _ H _ _ vs Q E _ _ _ _ h=>(CO K A vs H Q E h).elim⟩
 | n+1=>T.f_7.okS KC (FS K A (n+1)) (JL T.1 n) fun _ _ _ _ _ _ (hr:bg (2+n) _)=>
 ao (ay (gl (cO (aa 0) T.cl_Fork T.me_Fork_toward (vo T) hr.le T.b_9 aP (ab (aa 1) (ab (aa 2) (af)))) (mdc T.cl_Bare T.me_Bare_found (CK T) hr.le T.b_1 aP (mdc T.cl_Leaf T.me_Leaf_found (zN T) hr.le T.b_14 aP (mdc T.cl_Fork T.me_Fork_found (Ce n) hr.le T.b_7 aP (mdn rfl)))) (ab (aa 1) (ab (aa 2) (af)))))
theorem zC:aF P w K mg base (CX1 P w) 73 A.a_24 A.d_24 ["self", "key"] (kY K A):=
 T.f_24.okS Fz (Dq K A) (ER T.1) fun _ _ _ _ _ _ hr=>
 am (aN (bv (br (aE (ou T) hr.le T.f_54 (ab (aO (aa 0)) (ab (aa 1) (af)))))) (ao (dN)) (aI)) (ao (ay (gl (aO (aa 0)) (mdc T.cl_Bare T.me_Bare_found (CK T) hr.le T.b_1 aP (mdc T.cl_Leaf T.me_Leaf_found (zN T) hr.le T.b_14 aP (mdc T.cl_Fork T.me_Fork_found (Ce T 70) hr.le T.b_7 aP (mdn rfl)))) (ab (aO (aa 0)) (ab (aa 1) (af))))))
theorem Cj:aF P w K mg base (CX1 P w) 1 A.a_3 A.d_3 ["self", "stamper", "bits", "key"] (mB K A):=
 T.f_3.okS KO (Ic K A) (JK T.1) fun _ _ _ _ _ _ hr=>
 ao (ay (aa 0))
theorem zn:aF P w K mg base (CX1 P w) 9 A.a_16 A.d_16 ["self", "stamper", "bits", "key"] (jO K A):=
 T.f_16.okS HA (Dk K A) (IM T.1) fun _ _ _ _ _ _ hr=>
 ao (ay (oP (aU (bH hr.units150) (aa 3) (aO (aa 0))) (dB T.mk_Bare (Ez T) hr.le T.mc_Bare T.b_0 aP (ab (aa 1) (af))) (aa 0)))
theorem Jq:aF P w K mg base (CX1 P w) 2 A.a_5 A.d_5 ["self", "bits", "key"] (tB K A):=
 T.f_5.okS Kw (Fx K A) (Jj T.1) fun _ _ _ _ _ _ hr=>
 ao (ay (oP (aU (bH hr.units150) (aE (om T) hr.le T.f_69 (ab (aa 1) (ab (aa 2) (ab (aO (aa 0)) (af))))) (ak)) (aO (aa 0)) (aO (aa 0))))
theorem rL:aF P w K mg base (CX1 P w) 7 A.a_4 A.d_4 ["self", "stamper", "depth", "begin", "left", "right"] (ju K A):=
 T.f_4.okS Kj (FF K A) (Jv T.1) fun _ _ _ _ _ _ hr=>
 am (cU (pI T.mc_Knot T.cf_Knot (rZ T) hr.le T.b_12 aP (ab (aa 0) (ab (aa 1) (ab (cH (ab (cb) (ab (aa 2) (ab (aa 3) (ab (aO (aa 4)) (ab (aO (aa 5)) (af))))))) (af)))))) (am (bY (aa 0) (aa 2)) (am (bY (aa 0) (aa 3)) (am (bY (aa 0) (aa 4)) (ao (bY (aa 0) (aa 5))))))
theorem DS:aF P w K mg base (CX1 P w) 9 A.a_6 A.d_6 ["self", "stamper", "bits", "key", "knot"] (qf K A):=
 T.f_6.okS IQ (ET K A) (KU T.1) fun _ _ _ _ _ _ hr=>
 am (aN (aU (bH hr.units150) (aE (om T) hr.le T.f_69 (ab (aa 2) (ab (aa 3) (ab (aO (aa 0)) (af))))) (ak)) (ao (ay (dB T.mk_Fork (rL T) hr.le T.mc_Fork T.b_4 aP (ab (aa 1) (ab (aO (aa 0)) (ab (aO (aa 0)) (ab (aa 4) (ab (aO (aa 0)) (af))))))))) (aI)) (ao (ay (dB T.mk_Fork (rL T) hr.le T.mc_Fork T.b_4 aP (ab (aa 1) (ab (aO (aa 0)) (ab (aO (aa 0)) (ab (aO (aa 0)) (ab (aa 4) (af)))))))))
theorem zw:∀ n:Nat,aF P w K mg base (CX1 P w) (9+n) A.a_11 A.d_11 ["self", "stamper", "bits", "key"] (iI K A n)
 | 0=>⟨fun vs H Q E h=>(yy K A vs H Q E h).elim,fun _ _ _ H _ _ vs Q E _ _ _ _ h=>(yy K A vs H Q E h).elim⟩
 | n+1=>T.f_11.okS zy (Ep K A (n+1)) (Hb T.1 n) fun _ _ _ _ _ _ (hr:bg (9+n) _)=>
 am (aK 4 zy.nd (gl (cO (aa 0) T.cl_Fork T.me_Fork_toward (vo T) hr.le T.b_9 aP (ab (aa 2) (ab (aa 3) (af)))) (mdc T.cl_Bare T.me_Bare_without (Cj T) hr.le T.b_3 aP (mdc T.cl_Leaf T.me_Leaf_without (zn T) hr.le T.b_16 aP (mdc T.cl_Fork T.me_Fork_without (zw n) hr.le T.b_11 aP (mdn rfl)))) (ab (aa 1) (ab (aa 2) (ab (aa 3) (af)))))) (am (aN (br (aC yX T.z_isinstance boot_isinstance (ab (aa 4) (ab (BY T.mc_Bare) (af))))) (ao (ay (cO (aa 0) T.cl_Fork T.me_Fork_aside (Jq T) hr.le T.b_5 aP (ab (aa 2) (ab (aa 3) (af)))))) (aI)) (ao (ay (cO (aa 0) T.cl_Fork T.me_Fork_changed (DS T) hr.le T.b_6 aP (ab (aa 1) (ab (aa 2) (ab (aa 3) (ab (aa 4) (af)))))))))
theorem FL:aF P w K mg base (CX1 P w) 80 A.a_22 A.d_22 ["self", "key"] (nO K A):=
 T.f_22.okS yB (DR K A) (GV T.1) fun _ _ _ _ _ _ hr=>
 am (aK 2 yB.nd (cO (aa 0) T.cl_Table T.me_Table_value_of (zC T) hr.le T.b_24 aP (ab (aa 1) (af)))) (am (aN (aU JU (aa 2) (rT)) (ao (dN)) (aI)) (am (bY (aa 0) (gl (aO (aa 0)) (mdc T.cl_Bare T.me_Bare_without (Cj T) hr.le T.b_3 aP (mdc T.cl_Leaf T.me_Leaf_without (zn T) hr.le T.b_16 aP (mdc T.cl_Fork T.me_Fork_without (zw T 70) hr.le T.b_11 aP (mdn rfl)))) (ab (aO (aa 0)) (ab (aO (aa 0)) (ab (aa 1) (af)))))) (ao (ay (aa 2)))))
theorem Ip:aF P w K mg base (CX1 P w) 1 A.a_40 A.d_40 ["_law_cell"] (nP K A):=
 T.f_40.f.okS fW (DD K A) (GN T.1) fun _ _ _ _ _ _ hr=>
 am (aK 1 fW.nd (cb)) (am (aK 1 fW.nd (ax bQ (aa 1) (cb))) (am (aK 2 fW.nd (ax bO (aa 0) (ak))) (am (aN (aU (bH hr.units150) (ax bO (ax em (aa 0) (ak)) (ak)) (ak)) (ao (aK 2 fW.nd (ak))) (aI)) (am (aN (aU (bH hr.units150) (ax bO (ax em (aa 0) (ak)) (ak)) (ak)) (ao (aK 2 fW.nd (ax bO (ax em (aa 0) (ak)) (ak)))) (aI)) (am (aK 3 fW.nd (cb)) (am (iP 4 fW.nd (kj T.z_range (ab (aa 2) (af))) (ao (aK 3 fW.nd (ax bQ (aa 3) (bd (aH hr.units1) (aa 1) (ax bO (ax bQ (ax em (aa 0) (ak)) (ax eM (aa 4) (ax bO (ax em (aa 0) (ak)) (ak)))) (aC ck T.z_len PySem.boot_len (ab (aa 1) (af)))) (fun _ _=>rfl))))) PassesOwn.never) (ao (ay (aa 3)))))))))
theorem yz:aF P w K mg base (CX1 P w) 1 A.a_59 A.d_59 ["thing"] (lR K A):=
 T.f_59.f.okS Ir (BX K A) (Hj T.1) fun _ _ _ _ _ _ hr=>
 ao (ay (eT (aC eI T.z_isinstance boot_isinstance (ab (aa 0) (ab (eN T.z_str boot_str) (af)))) (fG (eQ oLe (aC ck T.z_len PySem.boot_len (ab (aa 0) (af))) (xq T.c_MOST_SIGNS)))))
theorem sx:aF P w K mg base (CX1 P w) 7 A.a_13 A.d_13 ["self", "stamper", "key", "value"] (iG K A):=
 T.f_13.okS GA (Dz K A) (Fl T.1) fun _ _ _ _ _ _ hr=>
 am (cU (pI T.mc_Knot T.cf_Knot (rZ T) hr.le T.b_12 aP (ab (aa 0) (ab (aa 1) (ab (cH (ab (cb) (ab (aa 2) (ab (aa 3) (af))))) (af)))))) (am (bY (aa 0) (aa 2)) (ao (bY (aa 0) (aa 3))))
theorem EB:aF P w K mg base (CX1 P w) 9 A.a_2 A.d_2 ["self", "stamper", "bits", "key", "value"] (mL K A):=
 T.f_2.okS IU (GF K A) (JZ T.1) fun _ _ _ _ _ _ hr=>
 ao (ay (dB T.mk_Leaf (sx T) hr.le T.mc_Leaf T.b_13 aP (ab (aa 1) (ab (aa 3) (ab (aa 4) (af))))))
theorem oJ:aF P w K mg base (CX1 P w) 1 A.a_71 A.d_71 ["bits", "key", "depth"] (iM K A):=
 T.f_71.f.okS GD (Cf K A) (GR T.1) fun _ _ _ _ _ _ hr=>
 ao (ay (ax vW (aa 1) (ax dF (aa 0) (aa 2))))
theorem yD:aF P w K mg base (CX1 P w) 9 A.a_61 A.d_61 ["stamper", "bits", "depth", "leaf", "knot"] (lq K A):=
 T.f_61.f.okS zG (Dg K A) (Fk T.1) fun _ _ _ _ _ _ hr=>
 am (aK 5 zG.nd (aE (oJ T) hr.le T.f_71 (ab (aa 1) (ab (aO (aa 3)) (ab (aa 2) (af)))))) (am (aN (aU (bH hr.units150) (aE (om T) hr.le T.f_69 (ab (aa 1) (ab (aO (aa 3)) (ab (aa 2) (af))))) (ak)) (ao (ay (dB T.mk_Fork (rL T) hr.le T.mc_Fork T.b_4 aP (ab (aa 0) (ab (aa 2) (ab (aa 5) (ab (aa 3) (ab (aa 4) (af))))))))) (aI)) (ao (ay (dB T.mk_Fork (rL T) hr.le T.mc_Fork T.b_4 aP (ab (aa 0) (ab (aa 2) (ab (aa 5) (ab (aa 4) (ab (aa 3) (af))))))))))
theorem ze:aF P w K mg base (CX1 P w) 1 A.a_45 A.d_45 ["bits", "one", "other"] (kZ K A):=
 T.f_45.f.okS GG (Cw K A) (EO T.1) fun _ _ _ _ _ _ hr=>
 ao (ay (ax dF (aa 0) (Fs PySem.F.plainAttrs_int PySem.F.slot_int_bit_length PySem.F.type_int_bit_length AJ (ax sP (aa 1) (aa 2)))))
theorem zg:aF P w K mg base (CX1 P w) 10 A.a_15 A.d_15 ["self", "stamper", "bits", "key", "value"] (jH K A):=
 T.f_15.okS zd (Eg K A) (Hd T.1) fun _ _ _ _ _ _ hr=>
 am (aK 5 zd.nd (dB T.mk_Leaf (sx T) hr.le T.mc_Leaf T.b_13 aP (ab (aa 1) (ab (aa 3) (ab (aa 4) (af)))))) (am (aN (aU (bH hr.units150) (aa 3) (aO (aa 0))) (ao (ay (aa 5))) (aI)) (ao (ay (aE (yD T) hr.le T.f_61 (ab (aa 1) (ab (aa 2) (ab (aE (ze T) hr.le T.f_45 (ab (aa 2) (ab (aa 3) (ab (aO (aa 0)) (af))))) (ab (aa 5) (ab (aa 0) (af))))))))))
theorem Jw:aF P w K mg base (CX1 P w) 2 A.a_8 A.d_8 ["self", "bits", "key"] (sM K A):=
 T.f_8.okS Kb (EY K A) (IY T.1) fun _ _ _ _ _ _ hr=>
 ao (ay (eQ (bH hr.units150) (aE (oJ T) hr.le T.f_71 (ab (aa 1) (ab (aa 2) (ab (aO (aa 0)) (af))))) (aO (aa 0))))
theorem zI:∀ n:Nat,aF P w K mg base (CX1 P w) (10+n) A.a_10 A.d_10 ["self", "stamper", "bits", "key", "value"] (iA K A n)
 | 0=>⟨fun vs H Q E h=>(yS K A vs H Q E h).elim,fun _ _ _ H _ _ vs Q E _ _ _ _ h=>(yS K A vs H Q E h).elim⟩
 | n+1=>T.f_10.okS yP (Dy K A (n+1)) (Fd T.1 n) fun _ _ _ _ _ _ (hr:bg (10+n) _)=>
 am (aN (bv (br (cO (aa 0) T.cl_Fork T.me_Fork_leads (Jw T) hr.le T.b_8 aP (ab (aa 2) (ab (aa 3) (af)))))) (am (aK 5 yP.nd (aE (ze T) hr.le T.f_45 (ab (aO (aa 0)) (ab (aO (aa 0)) (ab (aE (oJ T) hr.le T.f_71 (ab (aa 2) (ab (aa 3) (ab (aO (aa 0)) (af))))) (af)))))) (ao (ay (aE (yD T) hr.le T.f_61 (ab (aa 1) (ab (aa 2) (ab (aa 5) (ab (dB T.mk_Leaf (sx T) hr.le T.mc_Leaf T.b_13 aP (ab (aa 1) (ab (aa 3) (ab (aa 4) (af))))) (ab (aa 0) (af)))))))))) (aI)) (ao (ay (cO (aa 0) T.cl_Fork T.me_Fork_changed (DS T) hr.le T.b_6 aP (ab (aa 1) (ab (aa 2) (ab (aa 3) (ab (gl (cO (aa 0) T.cl_Fork T.me_Fork_toward (vo T) hr.le T.b_9 aP (ab (aa 2) (ab (aa 3) (af)))) (mdc T.cl_Bare T.me_Bare_with_key (EB T) hr.le T.b_2 aP (mdc T.cl_Leaf T.me_Leaf_with_key (zg T) hr.le T.b_15 aP (mdc T.cl_Fork T.me_Fork_with_key (zI n) hr.le T.b_10 aP (mdn rfl)))) (ab (aa 1) (ab (aa 2) (ab (aa 3) (ab (aa 4) (af)))))) (af))))))))
theorem FC:aF P w K mg base (CX1 P w) 81 A.a_20 A.d_20 ["self", "key", "value"] (oh K A):=
 T.f_20.okS yI (Cq K A) (Hi T.1) fun _ _ _ _ _ _ hr=>
 am (aK 3 yI.nd (cO (aa 0) T.cl_Table T.me_Table_value_of (zC T) hr.le T.b_24 aP (ab (aa 1) (af)))) (am (aN (bv (br (aE (yz T) hr.le T.f_59 (ab (aa 2) (af))))) (ao (dN)) (aI)) (am (bY (aa 0) (gl (aO (aa 0)) (mdc T.cl_Bare T.me_Bare_with_key (EB T) hr.le T.b_2 aP (mdc T.cl_Leaf T.me_Leaf_with_key (zg T) hr.le T.b_15 aP (mdc T.cl_Fork T.me_Fork_with_key (zI T 70) hr.le T.b_10 aP (mdn rfl)))) (ab (aO (aa 0)) (ab (aO (aa 0)) (ab (aa 1) (ab (aa 2) (af))))))) (ao (ay (aa 3)))))
theorem HB:aF P w K mg base (CX1 P w) 82 A.a_29 A.d_29 ["_law_table", "_law_bits_here", "_law_known", "_law_keys", "_law_cell"] (oF K A):=
 T.f_29.f.okS lD (Ds K A) (IJ T.1) fun _ _ _ _ _ _ hr=>
 am (aK 5 lD.nd (ax em (aa 4) (ak))) (am (aN (x_w (pN (aU (bH hr.units150) (ax bO (aa 4) (ak)) (ak)) (mI (aU (AL (Nat.lt_of_le_of_lt (Nat.le_add_right _ 150) hr.units150)) (aa 2) (gk))))) (am (aK 6 lD.nd (bd (aH hr.units1) (aC (tL rfl) T.z_sorted boot_sorted (ab (aa 2) (af))) (ax bO (aa 5) (aC ck T.z_len PySem.boot_len (ab (aa 2) (af)))) (fun _ _=>rfl))) (am (cU (cO (aa 0) T.cl_Table T.me_Table_take (FL T) hr.le T.b_22 aP (ab (aa 6) (af)))) (am (cU (mO PySem.F.plainAttrs_dict PySem.F.slot_dict_pop PySem.F.type_dict_pop AR (aa 2) (ab (aa 6) (af)))) (ao (ay (aa 6)))))) (aI)) (am (aK 6 lD.nd (aE (oK T) hr.le T.f_31 (ab (aa 1) (ab (aa 5) (ab (aa 3) (af)))))) (am (aK 7 lD.nd (aE (Ip T) hr.le T.f_40 (ab (ax bO (ax eM (aa 4) (ak)) (ak)) (af)))) (am (cU (cO (aa 0) T.cl_Table T.me_Table_put (FC T) hr.le T.b_20 aP (ab (aa 6) (ab (aa 7) (af))))) (am (pJ hr.units1 (aa 2) (aa 6) (aa 7)) (ao (ay (aa 6))))))))
theorem Gv:aF P w K mg base (CX1 P w) 2 A.a_36 A.d_36 ["_law_bits_here", "_law_one", "_law_other"] (nU K A):=
 T.f_36.f.okS ls (Ct K A) (EN T.1) fun _ _ _ _ _ _ hr=>
 am (aK 3 ls.nd (aE (oK T) hr.le T.f_31 (ab (aa 0) (ab (aa 1) (ab (fi (af)) (af)))))) (am (aK 4 ls.nd (aE (oK T) hr.le T.f_31 (ab (aa 0) (ab (aa 2) (ab (fi (ab (aa 3) (af))) (af)))))) (am (aN (aU (bH hr.units150) (ax bO (aa 2) (ak)) (ak)) (ao (aK 4 ls.nd (aC (lV rfl) T.z_min boot_min (ab (ax bQ (aa 3) (ax bO (ax em (aa 2) (ak)) (ak))) (ab (ax dF (ax eY (ak) (aa 0)) (ak)) (af)))))) (aI)) (am (aN (aU (bH hr.units150) (ax bO (aa 1) (ak)) (ak)) (ao (aK 4 ls.nd (aa 3))) (aI)) (am (aN (aU (bH hr.units150) (ax bO (aa 2) (ak)) (ak)) (ao (ay (cH (ab (ak) (ab (ax dF (ax eY (ak) (aa 0)) (ak)) (af)))))) (aI)) (ao (ay (cH (ab (aC (lV rfl) T.z_min boot_min (ab (aa 3) (ab (aa 4) (af)))) (ab (aC (pA rfl) T.z_max boot_max (ab (aa 3) (ab (aa 4) (af)))) (af))))))))))
theorem zv:aF P w K mg base (CX1 P w) 3 A.a_25 A.d_25 ["_law_script", "_law_bits_here", "_law_keys"] (lK K A):=
 T.f_25.f.okS lI (Dd K A) (IN T.1) fun _ _ _ _ _ _ hr=>
 am (aK 3 lI.nd (bd (aH hr.units1) (aa 2) (ax bO (aE (gL T) hr.le T.f_26 (ab (aa 0) (ab (ak) (af)))) (aC ck T.z_len PySem.boot_len (ab (aa 2) (af)))) (fun _ _=>rfl))) (am (aK 4 lI.nd (bd (aH hr.units1) (aa 2) (ax bO (aE (gL T) hr.le T.f_26 (ab (aa 0) (ab (ak) (af)))) (aC ck T.z_len PySem.boot_len (ab (aa 2) (af)))) (fun _ _=>rfl))) (am (aK 5 lI.nd (fi (ab (aE (Gv T) hr.le T.f_36 (ab (aa 1) (ab (aE (gL T) hr.le T.f_26 (ab (aa 0) (ab (ak) (af)))) (ab (aE (gL T) hr.le T.f_26 (ab (aa 0) (ab (ak) (af)))) (af))))) (ab (cH (ab (aC (lV rfl) T.z_min boot_min (ab (aa 3) (ab (aa 4) (af)))) (ab (aC (pA rfl) T.z_max boot_max (ab (aa 3) (ab (aa 4) (af)))) (af)))) (af))))) (am (aK 5 lI.nd (ax bQ (aa 5) (fi (ab (cH (ab (ak) (ab (aa 3) (af)))) (ab (cH (ab (aa 4) (ab (ax dF (ax eY (ak) (aa 1)) (ak)) (af)))) (ab (cH (ab (aa 3) (ab (aa 3) (af)))) (ab (cH (ab (aC (lV rfl) T.z_min boot_min (ab (aa 3) (ab (ax sP (aa 3) (ak)) (af)))) (ab (aC (pA rfl) T.z_max boot_max (ab (aa 3) (ab (ax sP (aa 3) (ak)) (af)))) (af)))) (af)))))))) (am (aN (aU oGt (ax dF (aC (pA rfl) T.z_max boot_max (ab (aa 3) (ab (aa 4) (af)))) (aC (lV rfl) T.z_min boot_min (ab (aa 3) (ab (aa 4) (af))))) (ak)) (ao (cU (mO PySem.F.plainAttrs_list PySem.F.slot_list_append PySem.F.type_list_append jn (aa 5) (ab (cH (ab (ax bQ (aC (lV rfl) T.z_min boot_min (ab (aa 3) (ab (aa 4) (af)))) (ak)) (ab (ax dF (aC (pA rfl) T.z_max boot_max (ab (aa 3) (ab (aa 4) (af)))) (ak)) (af)))) (af))))) (aI)) (ao (ay (aa 5)))))))
theorem Ij:aF P w K mg base (CX1 P w) 3 A.a_52 A.d_52 ["thing"] (oC K A):=
 T.f_52.f.okS FW (Cy K A) (HR T.1) fun _ _ _ _ _ _ hr=>
 ao (ay (eT (aC eI T.z_isinstance boot_isinstance (ab (aa 0) (ab (eN T.z_tuple boot_tuple) (af)))) (eT (eQ (bH hr.units150) (aC ck T.z_len PySem.boot_len (ab (aa 0) (af))) (ak)) (eT (eQ (bH hr.units150) (bd (aH hr.units1) (aa 0) (ak) (fun _ _=>rfl)) (cb)) (fG (aE (yO T) hr.le T.f_57 (ab (bd (aH hr.units1) (aa 0) (ak) (fun _ _=>rfl)) (af))))))))
theorem Hh:aF P w K mg base (CX1 P w) 3 A.a_55 A.d_55 ["bits", "depth", "begin", "thing"] (nI K A):=
 T.f_55.f.okS GI (Dp K A) (IC T.1) fun _ _ _ _ _ _ hr=>
 am (aN (x_w (fg (bv (br (aC eI T.z_isinstance boot_isinstance (ab (aa 3) (ab (eN T.z_tuple boot_tuple) (af)))))) (fg (aU (gy hr.units150) (aC ck T.z_len PySem.boot_len (ab (aa 3) (af))) (ak)) (fc (aU (gy hr.units150) (bd (aH hr.units1) (aa 3) (ak) (fun _ _=>rfl)) (cb)))))) (ao (ay (ej))) (aI)) (am (aN (x_w (fg (bv (br (aE (ou T) hr.le T.f_54 (ab (aa 0) (ab (bd (aH hr.units1) (aa 3) (ak) (fun _ _=>rfl)) (af)))))) (fc (bv (br (aE (yz T) hr.le T.f_59 (ab (bd (aH hr.units1) (aa 3) (ak) (fun _ _=>rfl)) (af)))))))) (ao (ay (ej))) (aI)) (ao (ay (eQ (bH hr.units150) (aE (oJ T) hr.le T.f_71 (ab (aa 0) (ab (bd (aH hr.units1) (aa 3) (ak) (fun _ _=>rfl)) (ab (aa 1) (af))))) (aa 2)))))
theorem Hr:aF P w K mg base (CX1 P w) 2 A.a_53 A.d_53 ["bits", "depth", "begin", "thing"] (oa K A):=
 T.f_53.f.okS Gq (CH K A) (HX T.1) fun _ _ _ _ _ _ hr=>
 am (aN (x_w (fg (bv (br (aC eI T.z_isinstance boot_isinstance (ab (aa 3) (ab (eN T.z_tuple boot_tuple) (af)))))) (fg (aU (gy hr.units150) (aC ck T.z_len PySem.boot_len (ab (aa 3) (af))) (ak)) (fc (aU (gy hr.units150) (bd (aH hr.units1) (aa 3) (ak) (fun _ _=>rfl)) (cb)))))) (ao (ay (ej))) (aI)) (am (aN (x_w (fg (bv (br (aE (jL T) hr.le T.f_60 (ab (bd (aH hr.units1) (aa 3) (ak) (fun _ _=>rfl)) (af))))) (fc (bv (gE oLe oLt (aa 1) (bd (aH hr.units1) (aa 3) (ak) (fun _ _=>rfl)) (aa 0)))))) (ao (ay (ej))) (aI)) (am (aN (x_w (fg (bv (br (aE (jL T) hr.le T.f_60 (ab (bd (aH hr.units1) (aa 3) (ak) (fun _ _=>rfl)) (af))))) (fc (bv (gE oLe oLt (ak) (bd (aH hr.units1) (aa 3) (ak) (fun _ _=>rfl)) (ax eY (ak) (bd (aH hr.units1) (aa 3) (ak) (fun _ _=>rfl)))))))) (ao (ay (ej))) (aI)) (ao (ay (eQ (bH hr.units150) (ax vW (bd (aH hr.units1) (aa 3) (ak) (fun _ _=>rfl)) (ax dF (bd (aH hr.units1) (aa 3) (ak) (fun _ _=>rfl)) (aa 1))) (aa 2))))))
theorem Hq:aF P w K mg base (CX1 P w) 4 A.a_56 A.d_56 ["bits", "low", "high", "depth", "begin", "thing"] (oq K A):=
 T.f_56.f.okS GY (Dt K A) (FD T.1) fun _ _ _ _ _ _ hr=>
 am (aN (bv (br (aE (yF T) hr.le T.f_63 (ab (aa 0) (ab (aa 1) (ab (aa 2) (ab (aa 3) (ab (aa 4) (af))))))))) (ao (ay (aE (Ij T) hr.le T.f_52 (ab (aa 5) (af))))) (aI)) (am (aN (aU (bH hr.units150) (aa 5) (cH (ab (cb) (af)))) (ao (ay (eQ (bH hr.units150) (aa 3) (ak)))) (aI)) (ao (ay (Ko (aE (Hh T) hr.le T.f_55 (ab (aa 0) (ab (aa 3) (ab (aa 4) (ab (aa 5) (af)))))) (fG (aE (Hr T) hr.le T.f_53 (ab (aa 0) (ab (aa 3) (ab (aa 4) (ab (aa 5) (af)))))))))))
theorem rC:∀ n:Nat,aF P w K mg base (CX1 P w) (4+n) A.a_47 A.d_47 ["bits", "low", "high", "depth", "begin", "part"] (ip K A n)
 | 0=>⟨fun vs H Q E h=>(yJ K A vs H Q E h).elim,fun _ _ _ H _ _ vs Q E _ _ _ _ h=>(yJ K A vs H Q E h).elim⟩
 | n+1=>T.f_47.f.okS Ge (CU K A (n+1)) (Gm T.1 n) fun _ _ _ _ _ _ (hr:bg (4+n) _)=>
 am (aN (bv (br (aE (Hq T) hr.le T.f_56 (ab (aa 0) (ab (aa 1) (ab (aa 2) (ab (aa 3) (ab (aa 4) (ab (aa 5) (af)))))))))) (ao (dN)) (aI)) (ao (aN (aU (bH hr.units150) (bd (aH hr.units1) (aa 5) (ak) (fun _ _=>rfl)) (cb)) (am (cU (aE (rC n) hr.le T.f_47 (ab (aa 0) (ab (aa 1) (ab (aa 2) (ab (ax bQ (bd (aH hr.units1) (aa 5) (ak) (fun _ _=>rfl)) (ak)) (ab (ax eM (ak) (bd (aH hr.units1) (aa 5) (ak) (fun _ _=>rfl))) (ab (bd (aH hr.units1) (aa 5) (ak) (fun _ _=>rfl)) (af))))))))) (ao (cU (aE (rC n) hr.le T.f_47 (ab (aa 0) (ab (aa 1) (ab (aa 2) (ab (ax bQ (bd (aH hr.units1) (aa 5) (ak) (fun _ _=>rfl)) (ak)) (ab (ax bQ (ax eM (ak) (bd (aH hr.units1) (aa 5) (ak) (fun _ _=>rfl))) (ak)) (ab (bd (aH hr.units1) (aa 5) (ak) (fun _ _=>rfl)) (af))))))))))) (aI)))
theorem Fu:aF P w K mg base (CX1 P w) 75 A.a_46 A.d_46 ["bits", "low", "high", "paper"] (nH K A):=
 T.f_46.f.okS GL (Ey K A) (Gg T.1) fun _ _ _ _ _ _ hr=>
 am (cU (aE (zq T) hr.le T.f_48 (ab (aa 0) (ab (aa 1) (ab (aa 2) (af)))))) (ao (cU (aE (rC T 70) hr.le T.f_47 (ab (aa 0) (ab (aa 1) (ab (aa 2) (ab (ak) (ab (ak) (ab (aa 3) (af))))))))))
theorem yC:aF P w K mg base (CX1 P w) 6 A.a_65 A.d_65 ["stamper", "part", "terms"] (kN K A):=
 T.f_65.f.okS Gk (DT K A) (Hu T.1) fun _ _ _ _ _ _ hr=>
 ao (ay (oP (aU (bH hr.units150) (bd (aH hr.units1) (aa 1) (ak) (fun _ _=>rfl)) (cb)) (bd (aH hr.units1) (aa 1) (ak) (fun _ _=>rfl)) (lj (lx T) hr.le aP (aa 0) (ab (bd (aH hr.units1) (aa 2) (rX (ak)) (fun _ _=>rfl)) (af)))))
theorem tu:∀ n:Nat,aF P w K mg base (CX1 P w) (6+n) A.a_67 A.d_67 ["stamper", "part"] (iJ K A n)
 | 0=>⟨fun vs H Q E h=>(yA K A vs H Q E h).elim,fun _ _ _ H _ _ vs Q E _ _ _ _ h=>(yA K A vs H Q E h).elim⟩
 | n+1=>T.f_67.f.okS oB (DW K A (n+1)) (IB T.1 n) fun _ _ _ _ _ _ (hr:bg (6+n) _)=>
 am (aN (aU (bH hr.units150) (bd (aH hr.units1) (aa 1) (ak) (fun _ _=>rfl)) (cb)) (ao (ay (fi (af)))) (aI)) (am (aN (aU (gy hr.units150) (bd (aH hr.units1) (aa 1) (ak) (fun _ _=>rfl)) (cb)) (ao (ay (fi (ab (aa 1) (af))))) (aI)) (am (aK 2 oB.nd (aE (tu n) hr.le T.f_67 (ab (aa 0) (ab (bd (aH hr.units1) (aa 1) (ak) (fun _ _=>rfl)) (af))))) (am (aK 3 oB.nd (aE (tu n) hr.le T.f_67 (ab (aa 0) (ab (bd (aH hr.units1) (aa 1) (ak) (fun _ _=>rfl)) (af))))) (am (aK 4 oB.nd (cH (ab (aE (yC T) hr.le T.f_65 (ab (aa 0) (ab (bd (aH hr.units1) (aa 1) (ak) (fun _ _=>rfl)) (ab (aa 2) (af))))) (ab (aE (yC T) hr.le T.f_65 (ab (aa 0) (ab (bd (aH hr.units1) (aa 1) (ak) (fun _ _=>rfl)) (ab (aa 3) (af))))) (af))))) (ao (ay (ax bQ (ax bQ (aa 2) (aa 3)) (fi (ab (cH (ab (cb) (ab (bd (aH hr.units1) (aa 1) (ak) (fun _ _=>rfl)) (ab (bd (aH hr.units1) (aa 1) (ak) (fun _ _=>rfl)) (ab (bd (aH hr.units1) (aa 4) (ak) (fun _ _=>rfl)) (ab (bd (aH hr.units1) (aa 4) (ak) (fun _ _=>rfl)) (af))))))) (af))))))))))
theorem yV:aF P w K mg base (CX1 P w) 77 A.a_75 A.d_75 ["stamper", "bits", "low", "high", "paper"] (li K A):=
 T.f_75.f.okS GS (Cg K A) (EL T.1) fun _ _ _ _ _ _ hr=>
 am (cU (aE (Fu T) hr.le T.f_46 (ab (aa 1) (ab (aa 2) (ab (aa 3) (ab (aa 4) (af))))))) (ao (ay (aE (tu T 70) hr.le T.f_67 (ab (aa 0) (ab (aa 4) (af))))))
theorem Hg:aF P w K mg base (CX1 P w) 78 A.a_73 A.d_73 ["stamper", "bits", "low", "high", "paper"] (oA K A):=
 T.f_73.f.okS FA (Bi K A) (Fc T.1) fun _ _ _ _ _ _ hr=>
 ao (ay (lj (lx T) hr.le aP (aa 0) (ab (bd (aH hr.units1) (aE (yV T) hr.le T.f_75 (ab (aa 0) (ab (aa 1) (ab (aa 2) (ab (aa 3) (ab (aa 4) (af))))))) (rX (ak)) (fun _ _=>rfl)) (af))))
theorem tw:∀ n:Nat,aF P w K mg base (CX1 P w) (0+n) A.a_28 A.d_28 ["_law_part"] (iC K A n)
 | 0=>⟨fun vs H Q E h=>(yK K A vs H Q E h).elim,fun _ _ _ H _ _ vs Q E _ _ _ _ h=>(yK K A vs H Q E h).elim⟩
 | n+1=>T.f_28.f.okS GE (Bm K A (n+1)) (II T.1 n) fun _ _ _ _ _ _ (hr:bg (0+n) _)=>
 am (aN (aU (bH hr.units150) (bd (aH hr.units1) (aa 0) (ak) (fun _ _=>rfl)) (cb)) (ao (ay (ax bQ (aE (tw n) hr.le T.f_28 (ab (bd (aH hr.units1) (aa 0) (ak) (fun _ _=>rfl)) (af))) (aE (tw n) hr.le T.f_28 (ab (bd (aH hr.units1) (aa 0) (ak) (fun _ _=>rfl)) (af)))))) (aI)) (ao (ay (kg IW T.z_int L2.Bo (ab (eQ (bH hr.units150) (bd (aH hr.units1) (aa 0) (ak) (fun _ _=>rfl)) (cb)) (af)))))
theorem Iz:aF P w K mg base (CX1 P w) 1 A.a_32 A.d_32 ["_law_found", "_law_due_here"] (og K A):=
 T.f_32.f.okS Hl (CM K A) (EH T.1) fun _ _ _ _ _ _ hr=>
 am (aN (br (aC eI T.z_isinstance boot_isinstance (ab (aa 1) (ab (eN T.z_str boot_str) (af))))) (ao (ay (eT (aC eI T.z_isinstance boot_isinstance (ab (aa 0) (ab (eN T.z_str boot_str) (af)))) (fG (eQ (bH hr.units150) (aa 0) (aa 1)))))) (aI)) (ao (ay (eT (aC eI T.z_isinstance boot_isinstance (ab (aa 0) (ab (eN T.z_int boot_int) (af)))) (eT (zH (aC eI T.z_isinstance boot_isinstance (ab (aa 0) (ab (eN T.z_bool boot_bool) (af))))) (fG (eQ (bH hr.units150) (aa 0) (aa 1)))))))
theorem FR:aF P w K mg base (CX1 P w) 2 A.a_39 A.d_39 ["_law_found", "_law_due_here"] (nS K A):=
 T.f_39.f.okS yU (Bb K A) (HP T.1) fun _ _ _ _ _ _ hr=>
 am (aN (x_w (fg (bv (br (aC eI T.z_isinstance boot_isinstance (ab (aa 0) (ab (eN T.z_tuple boot_tuple) (af)))))) (fc (aU (gy hr.units150) (aC ck T.z_len PySem.boot_len (ab (aa 0) (af))) (aC ck T.z_len PySem.boot_len (ab (aa 1) (af))))))) (ao (ay (ej))) (aI)) (am (iP 2 yU.nd (kj T.z_range (ab (aC ck T.z_len PySem.boot_len (ab (aa 1) (af))) (af))) (ao (aN (bv (br (aE (Iz T) hr.le T.f_32 (ab (bd (aH hr.units1) (aa 0) (aa 2) (fun _ _=>rfl)) (ab (bd (aH hr.units1) (aa 1) (aa 2) (fun _ _=>rfl)) (af)))))) (ao (ay (ej))) (aI))) PassesOwn.never) (ao (ay (ej))))
theorem zJ:aF P w K mg base (CX1 P w) 3 A.a_34 A.d_34 ["_law_found", "_law_due_here"] (ly K A):=
 T.f_34.f.okS zi (CF K A) (HV T.1) fun _ _ _ _ _ _ hr=>
 am (aN (x_w (fg (bv (br (aC eI T.z_isinstance boot_isinstance (ab (aa 0) (ab (eN T.z_list boot_list) (af)))))) (fc (aU (gy hr.units150) (aC ck T.z_len PySem.boot_len (ab (aa 0) (af))) (aC ck T.z_len PySem.boot_len (ab (aa 1) (af))))))) (ao (ay (ej))) (aI)) (am (iP 2 zi.nd (kj T.z_range (ab (aC ck T.z_len PySem.boot_len (ab (aa 1) (af))) (af))) (ao (aN (bv (br (aE (FR T) hr.le T.f_39 (ab (bd (aH hr.units1) (aa 0) (aa 2) (fun _ _=>rfl)) (ab (bd (aH hr.units1) (aa 1) (aa 2) (fun _ _=>rfl)) (af)))))) (ao (ay (ej))) (aI))) PassesOwn.never) (ao (ay (ej))))
theorem Gp:aF P w K mg base (CX1 P w) 1 A.a_68 A.d_68 ["low", "high", "terms"] (nY K A):=
 T.f_68.f.okS FY (CN K A) (Fv T.1) fun _ _ _ _ _ _ hr=>
 ao (ay (lF (ys:=["low", "high"]) (by exact ⟨rfl,by decide +kernel,by decide +kernel,rfl,by decide +kernel,by decide +kernel⟩) (by exact .cons rfl (by first | exact .inl rfl | exact .inr rfl) rfl (.cons rfl (by first | exact .inl rfl | exact .inr rfl) rfl (.nil))) (fj (aa 2)) (fun C s H fp=>qD (x_w (pN (aU (bH hr.units150) (bd (aH hr.units1) (aa 0) (ak) (fun _ _=>rfl)) (cb)) (mI (gE oLe oLe (aa 1) (bd (aH hr.units1) (aa 0) (ak) (fun _ _=>rfl)) (aa 2)))))) (fun C s H fp=>(cH (ab (bd (aH hr.units1) (aa 0) (ak) (fun _ _=>rfl)) (ab (bd (aH hr.units1) (aa 0) (ak) (fun _ _=>rfl)) (af)))))))
theorem zc:aF P w K mg base (CX1 P w) 78 A.a_72 A.d_72 ["stamper", "bits", "mark", "low", "high", "paper"] (lM K A):=
 T.f_72.f.okS sO (BL K A) (Gy T.1) fun _ _ _ _ _ _ hr=>
 am (aK 6 sO.nd (aE (yV T) hr.le T.f_75 (ab (aa 0) (ab (aa 1) (ab (aa 3) (ab (aa 4) (ab (aa 5) (af)))))))) (am (aK 7 sO.nd (lj (lx T) hr.le aP (aa 0) (ab (bd (aH hr.units1) (aa 6) (rX (ak)) (fun _ _=>rfl)) (af)))) (am (aN (aU (gy hr.units150) (aa 7) (aa 2)) (ao (dN)) (aI)) (ao (ay (aE (Gp T) hr.le T.f_68 (ab (aa 3) (ab (aa 4) (ab (aa 6) (af)))))))))
theorem yT:aF P w K mg base (CX1 P w) 1 A.a_30 A.d_30 ["_law_known", "_law_low", "_law_high"] (lE K A):=
 T.f_30.f.okS HF (El K A) (Ih T.1) fun _ _ _ _ _ _ hr=>
 ao (ay (lF (ys:=["_law_known", "_law_low", "_law_high"]) (by exact ⟨rfl,by decide +kernel,by decide +kernel,rfl,by decide +kernel,by decide +kernel⟩) (by exact .cons rfl (by first | exact .inl rfl | exact .inr rfl) rfl (.cons rfl (by first | exact .inl rfl | exact .inr rfl) rfl (.cons rfl (by first | exact .inl rfl | exact .inr rfl) rfl (.nil)))) (fj (aC (tL rfl) T.z_sorted boot_sorted (ab (aa 0) (af)))) (fun C s H fp=>qD (gE oLe oLe (aa 2) (aa 0) (aa 3))) (fun C s H fp=>(cH (ab (aa 0) (ab (bd (aH hr.units1) (aa 1) (aa 0) (fun _ _=>rfl)) (af)))))))
theorem zf:aF P w K mg base (CX1 P w) 79 A.a_33 A.d_33 ["_law_table", "_law_stamper_here", "_law_bits_here", "_law_root", "_law_known", "_law_ends"] (iq K A):=
 T.f_33.f.okS sI (EE K A) (HE T.1) fun _ _ _ _ _ _ hr=>
 am (Ec 6 7 sI.nd rfl (aa 5)) (am (aK 8 sI.nd (aE (nQ T) hr.le T.f_74 (ab (aa 0) (ab (aa 6) (ab (aa 7) (af)))))) (am (aN (x_w (fg (aU (gy hr.units150) (aE (Hg T) hr.le T.f_73 (ab (aa 1) (ab (aa 2) (ab (aa 6) (ab (aa 7) (ab (aa 8) (af))))))) (aa 3)) (fc (aU oGt (aE (tw T 70) hr.le T.f_28 (ab (aa 8) (af))) (ax eM (ak) (aa 2)))))) (ao (ay (ej))) (aI)) (ao (ay (aE (zJ T) hr.le T.f_34 (ab (aE (zc T) hr.le T.f_72 (ab (aa 1) (ab (aa 2) (ab (aa 3) (ab (aa 6) (ab (aa 7) (ab (aa 8) (af)))))))) (ab (aE (yT T) hr.le T.f_30 (ab (aa 4) (ab (aa 6) (ab (aa 7) (af))))) (af))))))))
theorem sH:aF P w K mg base (CX1 P w) 1 A.a_21 A.d_21 ["self"] (gK K A):=
 T.f_21.okS Iy (Bl K A) (Fg T.1) fun _ _ _ _ _ _ hr=>
 ao (ay (aO (aO (aa 0))))
theorem Ht:aF P w K mg base (CX1 P w) 83 A.a_62 A.d_62 ["_law_script"] (nG K A):=
 T.f_62.f.okS dq (Dj K A) (Hz T.1) fun _ _ _ _ _ _ hr=>
 am (aK 1 dq.nd (aE (FV T) hr.le T.f_27 (ab (aE (gL T) hr.le T.f_26 (ab (aa 0) (ab (ak) (af)))) (af)))) (am (aK 2 dq.nd (aE (GB T) hr.le T.f_35 (ab (aE (gL T) hr.le T.f_26 (ab (aa 0) (ab (ak) (af)))) (af)))) (am (aK 3 dq.nd (dB T.mk_Table (yH T) hr.le T.mc_Table T.b_19 aP (ab (aa 2) (ab (aa 1) (af))))) (am (aK 4 dq.nd (gk)) (am (aK 5 dq.nd (fi (ab (aE (oK T) hr.le T.f_31 (ab (aa 1) (ab (aE (gL T) hr.le T.f_26 (ab (aa 0) (ab (ak) (af)))) (ab (fi (af)) (af))))) (af)))) (am (aK 6 dq.nd (gB (aa 3) T.cl_Table T.me_Table_twin (zA T) hr.le T.b_23 aP)) (am (aK 7 dq.nd (gk)) (am (aK 8 dq.nd (aE (nQ T) hr.le T.f_74 (ab (aa 3) (ab (ak) (ab (ax dF (ax eY (ak) (aa 1)) (ak)) (af)))))) (am (Ba 9 10 dq.nd (CA T.z_enumerate (ab (jS jA (aa 0) (ij (ak)) (ij (ak))) (af))) (am (cU (mO PySem.F.plainAttrs_list PySem.F.slot_list_append PySem.F.type_list_append jn (aa 5) (ab (aE (HB T) hr.le T.f_29 (ab (aa 3) (ab (aa 1) (ab (aa 4) (ab (aa 5) (ab (aa 10) (af))))))) (af)))) (ao (aN (aU (bH hr.units150) (aa 9) (ax bO (aE (gL T) hr.le T.f_26 (ab (aa 0) (ab (ak) (af)))) (ak))) (am (aK 6 dq.nd (gB (aa 3) T.cl_Table T.me_Table_twin (zA T) hr.le T.b_23 aP)) (am (aK 7 dq.nd (kg GW T.z_dict boot_dict (ab (aa 4) (af)))) (ao (aK 8 dq.nd (aE (nQ T) hr.le T.f_74 (ab (aa 3) (ab (ak) (ab (ax dF (ax eY (ak) (aa 1)) (ak)) (af))))))))) (aI)))) PassesOwn.never) (am (iP 11 dq.nd (fj (aE (zv T) hr.le T.f_25 (ab (aa 0) (ab (aa 1) (ab (aa 5) (af)))))) (ao (aN (bv (br (aE (zf T) hr.le T.f_33 (ab (aa 3) (ab (aa 2) (ab (aa 1) (ab (gB (aa 3) T.cl_Table T.me_Table_root (sH T) hr.le T.b_21 aP) (ab (aa 4) (ab (aa 11) (af)))))))))) (ao (ay (ej))) (aI))) PassesOwn.never) (am (iP 11 dq.nd (fj (jS jA (aE (zv T) hr.le T.f_25 (ab (aa 0) (ab (aa 1) (ab (aa 5) (af))))) (ma) (ij (ak)))) (ao (aN (bv (br (aE (zf T) hr.le T.f_33 (ab (aa 6) (ab (aa 2) (ab (aa 1) (ab (gB (aa 6) T.cl_Table T.me_Table_root (sH T) hr.le T.b_21 aP) (ab (aa 7) (ab (aa 11) (af)))))))))) (ao (ay (ej))) (aI))) PassesOwn.never) (am (aN (aU (gy hr.units150) (aE (nQ T) hr.le T.f_74 (ab (aa 6) (ab (ak) (ab (ax dF (ax eY (ak) (aa 1)) (ak)) (af))))) (aa 8)) (ao (ay (ej))) (aI)) (am (aK 12 dq.nd (aE (zc T) hr.le T.f_72 (ab (aa 2) (ab (aa 1) (ab (gB (aa 6) T.cl_Table T.me_Table_root (sH T) hr.le T.b_21 aP) (ab (ak) (ab (ax dF (ax eY (ak) (aa 1)) (ak)) (ab (aa 8) (af))))))))) (ao (ay (aE (zJ T) hr.le T.f_34 (ab (aa 12) (ab (aE (yT T) hr.le T.f_30 (ab (aa 7) (ab (ak) (ab (ax dF (ax eY (ak) (aa 1)) (ak)) (af))))) (af))))))))))))))))))
omit T
def tz (P:Program) (w:World) (K:W.Frag) (mg:Str→Option Value) (fa:Addr):Prop:=∃ (fd:FuncData) (tabs:List (Addr×Addr)) (sp:Sp),(∀ (s:Shared) (v:Value),BindsTo s fd ⟨[v],[]⟩ [("_law_script",v)])∧W.noTabs K=true∧(∀ t∈tabs,∃ y∈(["writing", "counting", "_law_worded", "_law_sure", "_law_weak"]:List Str),W.tabIn K y=some t)∧(∀ base:Heap,K.In base→base.Ns mainGlobals mg→BM mg base→(∀ t∈tabs,W.CodeHd base t.1 t.2)→aF P w K mg base (CX1 P w) 83 fa fd ["_law_script"] sp)∧∀ (H:Hp) (a:Addr) (ns:List Int),ns.length≤63→(∀ t∈tabs,H t.2=some (.tbl #[]))→SqL K H a (ns.map V.int)→sp [.ref a] H (fun v _=>v=.bl true) fun _ _ _=>False
theorem CC (T:Txt K mg A) (nt:W.noTabs K=true) (tb_76:W.tabIn K "writing" =some (A.k_76,A.t_76)) (tb_49:W.tabIn K "counting" =some (A.k_49,A.t_49)) (tb_43:W.tabIn K "_law_worded" =some (A.k_43,A.t_43)) (tb_37:W.tabIn K "_law_sure" =some (A.k_37,A.t_37)) (tb_41:W.tabIn K "_law_weak" =some (A.k_41,A.t_41)) (tdn:([A.t_76,A.t_49,A.t_43,A.t_37,A.t_41]:List Addr).Nodup):tz P w K mg A.a_62:=by
 refine ⟨A.d_62,[(A.k_76,A.t_76),(A.k_49,A.t_49),(A.k_43,A.t_43),(A.k_37,A.t_37),(A.k_41,A.t_41)],nG K A,T.f_62.f.bt,nt,?_,fun base _ _ B C=>?_,fun H a ns hl hO hS=>⟨a,ns,rfl,hS,hl,⟨hO (A.k_76,A.t_76) (by simp),hO (A.k_49,A.t_49) (by simp),hO (A.k_43,A.t_43) (by simp),hO (A.k_37,A.t_37) (by simp),hO (A.k_41,A.t_41) (by simp),tdn⟩,fun _=>rfl⟩⟩
 · intro t ht
   simp only [List.mem_cons,List.not_mem_nil,or_false] at ht
   rcases ht with rfl | rfl | rfl | rfl | rfl
   · exact ⟨"writing",by simp,tb_76⟩
   · exact ⟨"counting",by simp,tb_49⟩
   · exact ⟨"_law_worded",by simp,tb_43⟩
   · exact ⟨"_law_sure",by simp,tb_37⟩
   · exact ⟨"_law_weak",by simp,tb_41⟩
 · exact Ht ⟨T,B,C (A.k_76,A.t_76) (by simp),C (A.k_49,A.t_49) (by simp),C (A.k_43,A.t_43) (by simp),C (A.k_37,A.t_37) (by simp),C (A.k_41,A.t_41) (by simp)⟩
theorem Ef {h:Heap} {fa:Addr} (X:K.In h) (G:h.Ns mainGlobals mg) (hfa:mg "law" =some (.ref fa)) {x_60 x_57 x_58 x_64 x_78 x_18 x_27 x_26 x_76 x_17 x_49 x_43 x_37 x_41 x_35 x_51 x_12 x_0 x_19 x_31 x_23 x_54 x_48 x_70 x_63 x_66 x_74 x_1 x_14 x_69 x_9 x_7 x_24 x_3 x_16 x_5 x_4 x_6 x_11 x_22 x_40 x_59 x_13 x_2 x_71 x_61 x_45 x_15 x_8 x_10 x_20 x_29 x_36 x_25 x_52 x_55 x_53 x_56 x_47 x_46 x_65 x_67 x_75 x_73 x_28 x_32 x_39 x_34 x_68 x_72 x_30 x_33 x_21 x_62 y_Numbers y_Knot y_Bare y_Table y_Fork y_Leaf:Addr} {d0 d1 d2 d3 d4 d5 d6 d7 d8 d9 d10 d11 d12 d13 d14 d15 d16 d17 d18 d19 d20 d21 d22 d23 d24 d25 d26 d27 d28 d29 d30 d31 d32 d33 d34 d35 d36 d37 d38 d39 d40 d41 d42 d43 d44 d45 d46 d47 d48 d49 d50 d51 d52 d53 d54 d55 d56 d57 d58 d59 d60 d61 d62 d63 d64 d65 d66 d67 d68 d69 d70 d71 d72 d73:FuncData} {tc0 tc1 tc2:Tok}
  (bo_Numbers:W.nsIn K mainGlobals "Numbers" =some (some (.ref y_Numbers))) (bo_Knot:W.nsIn K mainGlobals "Knot" =some (some (.ref y_Knot))) (bo_Bare:W.nsIn K mainGlobals "Bare" =some (some (.ref y_Bare))) (bo_Table:W.nsIn K mainGlobals "Table" =some (some (.ref y_Table))) (bo_Fork:W.nsIn K mainGlobals "Fork" =some (some (.ref y_Fork))) (bo_Leaf:W.nsIn K mainGlobals "Leaf" =some (some (.ref y_Leaf))) (h0:Fa K "is_whole" "is_whole" wA x_60 d0) (h1:Fa K "is_stamp" "is_stamp" xZ x_57 d1) (h2:Fa K "is_term" "is_term" vR x_58 d2) (h3:Fa K "part_form" "part_form" xG x_64 d3) (h4:Fa K "written" "written" wX x_78 d4) (a5:W.findIn K (.ref y_Numbers) "number_of" =some (some (.ref x_18))) (h5:Fun K "number_of" "Numbers.number_of" xh x_18 d5) (fn5:W.isFn K (.ref x_18)=true) (h6:Fa K "_law_bits" "_law_bits" wg x_27 d6) (h7:Fa K "_law_at" "_law_at" vx x_26 d7) (h8:Fa K "writing" "writing" kH x_76 d8) (tb_76:(W.tabIn K "writing").isSome=true) (a9:W.findIn K (.ref y_Numbers) "__init__" =some (some (.ref x_17))) (h9:Fun K "__init__" "Numbers.__init__" wj x_17 d9) (fn9:W.isFn K (.ref x_17)=true) (h10:Fa K "counting" "counting" kE x_49 d10) (tb_49:(W.tabIn K "counting").isSome=true) (h11:Fa K "_law_worded" "_law_worded" ko x_43 d11) (tb_43:(W.tabIn K "_law_worded").isSome=true) (h12:Fa K "_law_sure" "_law_sure" kq x_37 d12) (tb_37:(W.tabIn K "_law_sure").isSome=true) (h13:Fa K "_law_weak" "_law_weak" kB x_41 d13) (tb_41:(W.tabIn K "_law_weak").isSome=true) (h14:Fa K "_law_stamper" "_law_stamper" ya x_35 d14) (h15:Fa K "is_bits" "is_bits" wQ x_51 d15) (a16:W.findIn K (.ref y_Knot) "__init__" =some (some (.ref x_12))) (h16:Fun K "__init__" "Knot.__init__" vC x_12 d16) (fn16:W.isFn K (.ref x_12)=true) (a17:W.findIn K (.ref y_Bare) "__init__" =some (some (.ref x_0))) (h17:Fun K "__init__" "Bare.__init__" s_0 x_0 d17) (fn17:W.isFn K (.ref x_0)=true) (a18:W.findIn K (.ref y_Table) "__init__" =some (some (.ref x_19))) (h18:Fun K "__init__" "Table.__init__" vS x_19 d18) (fn18:W.isFn K (.ref x_19)=true) (h19:Fa K "_law_key" "_law_key" vO x_31 d19) (a20:W.findIn K (.ref y_Table) "twin" =some (some (.ref x_23))) (h20:Fun K "twin" "Table.twin" vz x_23 d20) (fn20:W.isFn K (.ref x_23)=true) (h21:Fa K "is_key" "is_key" wn x_54 d21) (h22:Fa K "check_stretch" "check_stretch" xa x_48 d22) (h23:Fa K "span" "span" xt x_70 d23) (h24:Fa K "meets" "meets" xU x_63 d24) (h25:Fa K "part_of" "part_of" vK x_66 d25) (h26:Fa K "stretch_of" "stretch_of" vn x_74 d26) (a27:W.findIn K (.ref y_Bare) "found" =some (some (.ref x_1))) (h27:Fun K "found" "Bare.found" s_1 x_1 d27) (fn27:W.isFn K (.ref x_1)=true) (a28:W.findIn K (.ref y_Leaf) "found" =some (some (.ref x_14))) (h28:Fun K "found" "Leaf.found" xX x_14 d28) (fn28:W.isFn K (.ref x_14)=true) (h29:Fa K "side" "side" yd x_69 d29) (a30:W.findIn K (.ref y_Fork) "toward" =some (some (.ref x_9))) (h30:Fun K "toward" "Fork.toward" s_9 x_9 d30) (fn30:W.isFn K (.ref x_9)=true) (a31:W.findIn K (.ref y_Fork) "found" =some (some (.ref x_7))) (h31:Fun K "found" "Fork.found" s_7 x_7 d31) (fn31:W.isFn K (.ref x_7)=true) (a32:W.findIn K (.ref y_Table) "value_of" =some (some (.ref x_24))) (h32:Fun K "value_of" "Table.value_of" xi x_24 d32) (fn32:W.isFn K (.ref x_24)=true) (a33:W.findIn K (.ref y_Bare) "without" =some (some (.ref x_3))) (h33:Fun K "without" "Bare.without" s_3 x_3 d33) (fn33:W.isFn K (.ref x_3)=true) (a34:W.findIn K (.ref y_Leaf) "without" =some (some (.ref x_16))) (h34:Fun K "without" "Leaf.without" wM x_16 d34) (fn34:W.isFn K (.ref x_16)=true) (a35:W.findIn K (.ref y_Fork) "aside" =some (some (.ref x_5))) (h35:Fun K "aside" "Fork.aside" s_5 x_5 d35) (fn35:W.isFn K (.ref x_5)=true) (a36:W.findIn K (.ref y_Fork) "__init__" =some (some (.ref x_4))) (h36:Fun K "__init__" "Fork.__init__" s_4 x_4 d36) (fn36:W.isFn K (.ref x_4)=true) (a37:W.findIn K (.ref y_Fork) "changed" =some (some (.ref x_6))) (h37:Fun K "changed" "Fork.changed" s_6 x_6 d37) (fn37:W.isFn K (.ref x_6)=true) (a38:W.findIn K (.ref y_Fork) "without" =some (some (.ref x_11))) (h38:Fun K "without" "Fork.without" vA x_11 d38) (fn38:W.isFn K (.ref x_11)=true) (a39:W.findIn K (.ref y_Table) "take" =some (some (.ref x_22))) (h39:Fun K "take" "Table.take" vH x_22 d39) (fn39:W.isFn K (.ref x_22)=true) (h40:Fa K "_law_text" "_law_text" wy x_40 d40) (h41:Fa K "is_value" "is_value" vB x_59 d41) (a42:W.findIn K (.ref y_Leaf) "__init__" =some (some (.ref x_13))) (h42:Fun K "__init__" "Leaf.__init__" xI x_13 d42) (fn42:W.isFn K (.ref x_13)=true) (a43:W.findIn K (.ref y_Bare) "with_key" =some (some (.ref x_2))) (h43:Fun K "with_key" "Bare.with_key" s_2 x_2 d43) (fn43:W.isFn K (.ref x_2)=true) (h44:Fa K "start" "start" xQ x_71 d44) (h45:Fa K "joined" "joined" xf x_61 d45) (h46:Fa K "alike" "alike" yk x_45 d46) (a47:W.findIn K (.ref y_Leaf) "with_key" =some (some (.ref x_15))) (h47:Fun K "with_key" "Leaf.with_key" xb x_15 d47) (fn47:W.isFn K (.ref x_15)=true) (a48:W.findIn K (.ref y_Fork) "leads" =some (some (.ref x_8))) (h48:Fun K "leads" "Fork.leads" s_8 x_8 d48) (fn48:W.isFn K (.ref x_8)=true) (a49:W.findIn K (.ref y_Fork) "with_key" =some (some (.ref x_10))) (h49:Fun K "with_key" "Fork.with_key" xl x_10 d49) (fn49:W.isFn K (.ref x_10)=true) (a50:W.findIn K (.ref y_Table) "put" =some (some (.ref x_20))) (h50:Fun K "put" "Table.put" xB x_20 d50) (fn50:W.isFn K (.ref x_20)=true) (h51:Fa K "_law_deed" "_law_deed" ye x_29 d51) (h52:Fa K "_law_stretch" "_law_stretch" vZ x_36 d52) (h53:Fa K "_law_asked" "_law_asked" xM x_25 d53) (h54:Fa K "is_cut" "is_cut" wZ x_52 d54) (h55:Fa K "is_leaf" "is_leaf" vJ x_55 d55) (h56:Fa K "is_fork" "is_fork" yj x_53 d56) (h57:Fa K "is_part" "is_part" xK x_56 d57) (h58:Fa K "check_part" "check_part" vN x_47 d58) (h59:Fa K "check_paper" "check_paper" xg x_46 d59) (h60:Fa K "part_mark" "part_mark" we x_65 d60) (h61:Fa K "part_terms" "part_terms" vE x_67 d61) (h62:Fa K "stretch_terms" "stretch_terms" vP x_75 d62) (h63:Fa K "stretch_mark" "stretch_mark" vY x_73 d63) (h64:Fa K "_law_cuts" "_law_cuts" vI x_28 d64) (h65:Fa K "_law_part_alike" "_law_part_alike" yp x_32 d65) (h66:Fa K "_law_term_alike" "_law_term_alike" vt x_39 d66) (h67:Fa K "_law_rows_alike" "_law_rows_alike" xw x_34 d67) (h68:Fa K "rows_within" "rows_within" xR x_68 d68) (h69:Fa K "stretch_answer" "stretch_answer" wN x_72 d69) (h70:Fa K "_law_due" "_law_due" vD x_30 d70) (h71:Fa K "_law_right" "_law_right" wc x_33 d71) (a72:W.findIn K (.ref y_Table) "root" =some (some (.ref x_21))) (h72:Fun K "root" "Table.root" wO x_21 d72) (fn72:W.isFn K (.ref x_21)=true) (h73:Fa K "law" "law" xj x_62 d73) (pg_Numbers:W.plainGet K y_Numbers Str.empty=true) (hd_Numbers:W.hasDictIn K y_Numbers=true) (po_Numbers:W.plainOver K y_Numbers=true) (sa_Numbers:W.findIn K (.ref y_Numbers) "__setattr__" =some (some (.builtin "object.__setattr__"))) (na_Numbers_given:W.findIn K (.ref y_Numbers) "given" =some none) (pg_Knot:W.plainGet K y_Knot Str.empty=true) (hd_Knot:W.hasDictIn K y_Knot=true) (po_Knot:W.plainOver K y_Knot=true) (sa_Knot:W.findIn K (.ref y_Knot) "__setattr__" =some (some (.builtin "object.__setattr__"))) (na_Knot_term:W.findIn K (.ref y_Knot) "term" =some none) (na_Knot_mark:W.findIn K (.ref y_Knot) "mark" =some none) (pg_Bare:W.plainGet K y_Bare Str.empty=true) (hd_Bare:W.hasDictIn K y_Bare=true) (po_Bare:W.plainOver K y_Bare=true) (sa_Bare:W.findIn K (.ref y_Bare) "__setattr__" =some (some (.builtin "object.__setattr__"))) (na_Bare_term:W.findIn K (.ref y_Bare) "term" =some none) (na_Bare_mark:W.findIn K (.ref y_Bare) "mark" =some none) (pg_Table:W.plainGet K y_Table Str.empty=true) (hd_Table:W.hasDictIn K y_Table=true) (po_Table:W.plainOver K y_Table=true) (sa_Table:W.findIn K (.ref y_Table) "__setattr__" =some (some (.builtin "object.__setattr__"))) (na_Table_stamper:W.findIn K (.ref y_Table) "stamper" =some none) (na_Table_bits:W.findIn K (.ref y_Table) "bits" =some none) (na_Table_top:W.findIn K (.ref y_Table) "top" =some none) (pg_Fork:W.plainGet K y_Fork Str.empty=true) (hd_Fork:W.hasDictIn K y_Fork=true) (po_Fork:W.plainOver K y_Fork=true) (sa_Fork:W.findIn K (.ref y_Fork) "__setattr__" =some (some (.builtin "object.__setattr__"))) (na_Fork_depth:W.findIn K (.ref y_Fork) "depth" =some none) (na_Fork_begin:W.findIn K (.ref y_Fork) "begin" =some none) (na_Fork_left:W.findIn K (.ref y_Fork) "left" =some none) (na_Fork_right:W.findIn K (.ref y_Fork) "right" =some none) (na_Fork_term:W.findIn K (.ref y_Fork) "term" =some none) (na_Fork_mark:W.findIn K (.ref y_Fork) "mark" =some none) (pg_Leaf:W.plainGet K y_Leaf Str.empty=true) (hd_Leaf:W.hasDictIn K y_Leaf=true) (po_Leaf:W.plainOver K y_Leaf=true) (sa_Leaf:W.findIn K (.ref y_Leaf) "__setattr__" =some (some (.builtin "object.__setattr__"))) (na_Leaf_key:W.findIn K (.ref y_Leaf) "key" =some none) (na_Leaf_text:W.findIn K (.ref y_Leaf) "text" =some none) (na_Leaf_term:W.findIn K (.ref y_Leaf) "term" =some none) (na_Leaf_mark:W.findIn K (.ref y_Leaf) "mark" =some none) (cg_Knot:W.specialIn K (.ref y_Knot) "__getattribute__" =some (some (.builtin "type.__getattribute__"))) (cr_Knot:W.readsIn K y_Knot (.type "type")=true) (cv_Knot:W.findCls K (.ref y_Knot) (.type "type") "__init__" =some (.val (.ref x_12))) (cw_Knot:W.handedIn (.ref x_12)=true) (oig:W.specialIn K (.builtin "object.__class__") "__get__" =some (some (.builtin "getset_descriptor.__get__"))) (oit:W.takesIn K (.builtin "object.__class__")=some true) (oic_Bare:W.findIn K (.ref y_Bare) "__class__" =some (some (.builtin "object.__class__"))) (oim_Bare:W.mroIn K y_Bare (.type "object")=some true) (oic_Fork:W.findIn K (.ref y_Fork) "__class__" =some (some (.builtin "object.__class__"))) (oim_Fork:W.mroIn K y_Fork (.type "object")=some true) (oic_Leaf:W.findIn K (.ref y_Leaf) "__class__" =some (some (.builtin "object.__class__"))) (oim_Leaf:W.mroIn K y_Leaf (.type "object")=some true) (ko_Bare_Fork:W.kitOne K (.ref y_Bare) (.ref y_Fork)=some false) (ko_Bare_Bare:W.kitOne K (.ref y_Bare) (.ref y_Bare)=some true) (ko_Fork_Fork:W.kitOne K (.ref y_Fork) (.ref y_Fork)=some true) (ko_Fork_Bare:W.kitOne K (.ref y_Fork) (.ref y_Bare)=some false) (ko_Leaf_Fork:W.kitOne K (.ref y_Leaf) (.ref y_Fork)=some false) (ko_Leaf_Bare:W.kitOne K (.ref y_Leaf) (.ref y_Bare)=some false) (mk_Numbers:W.makesIn K y_Numbers=true) (kc_Numbers:W.keepIn K (.ref y_Numbers)=true) (mk_Bare:W.makesIn K y_Bare=true) (kc_Bare:W.keepIn K (.ref y_Bare)=true) (mk_Table:W.makesIn K y_Table=true) (kc_Table:W.keepIn K (.ref y_Table)=true) (mk_Fork:W.makesIn K y_Fork=true) (kc_Fork:W.keepIn K (.ref y_Fork)=true) (mk_Leaf:W.makesIn K y_Leaf=true) (kc_Leaf:W.keepIn K (.ref y_Leaf)=true) (z_all:W.nsIn K mainGlobals "all" =some none) (z_bool:W.nsIn K mainGlobals "bool" =some none) (z_dict:W.nsIn K mainGlobals "dict" =some none) (z_enumerate:W.nsIn K mainGlobals "enumerate" =some none) (z_int:W.nsIn K mainGlobals "int" =some none) (z_isinstance:W.nsIn K mainGlobals "isinstance" =some none) (z_len:W.nsIn K mainGlobals "len" =some none) (z_list:W.nsIn K mainGlobals "list" =some none) (z_max:W.nsIn K mainGlobals "max" =some none) (z_min:W.nsIn K mainGlobals "min" =some none) (z_ord:W.nsIn K mainGlobals "ord" =some none) (z_range:W.nsIn K mainGlobals "range" =some none) (z_sorted:W.nsIn K mainGlobals "sorted" =some none) (z_str:W.nsIn K mainGlobals "str" =some none) (z_sum:W.nsIn K mainGlobals "sum" =some none) (z_tuple:W.nsIn K mainGlobals "tuple" =some none) (c_MOST_BITS:W.nsIn K mainGlobals "MOST_BITS" =some (some (.int 60 tc0))) (c_MOST_PARTS:W.nsIn K mainGlobals "MOST_PARTS" =some (some (.int 8 tc1))) (c_MOST_SIGNS:W.nsIn K mainGlobals "MOST_SIGNS" =some (some (.int 60 tc2))) (nt:W.noTabs K=true) (td:mQ K ["writing", "counting", "_law_worded", "_law_sure", "_law_weak"]=true):tz P w K mg fa:=by
 cases hfa.symm.trans (W.mg_of X G h73.m)
 obtain ⟨⟨z_76,t_76⟩,tb_76⟩:=Option.isSome_iff_exists.mp tb_76
 obtain ⟨⟨z_49,t_49⟩,tb_49⟩:=Option.isSome_iff_exists.mp tb_49
 obtain ⟨⟨z_43,t_43⟩,tb_43⟩:=Option.isSome_iff_exists.mp tb_43
 obtain ⟨⟨z_37,t_37⟩,tb_37⟩:=Option.isSome_iff_exists.mp tb_37
 obtain ⟨⟨z_41,t_41⟩,tb_41⟩:=Option.isSome_iff_exists.mp tb_41
 have tdn:([t_76,t_49,t_43,t_37,t_41]:List Addr).Nodup:=wK (by unfold mQ at td;simp only [List.map_cons,List.map_nil,tb_76,tb_49,tb_43,tb_37,tb_41,Option.map_some] at td;exact of_decide_eq_true td)
 exact CC (A:=⟨x_60,d0,x_57,d1,x_58,d2,x_64,d3,x_78,d4,x_18,d5,x_27,d6,x_26,d7,x_76,d8,x_17,d9,x_49,d10,x_43,d11,x_37,d12,x_41,d13,x_35,d14,x_51,d15,x_12,d16,x_0,d17,x_19,d18,x_31,d19,x_23,d20,x_54,d21,x_48,d22,x_70,d23,x_63,d24,x_66,d25,x_74,d26,x_1,d27,x_14,d28,x_69,d29,x_9,d30,x_7,d31,x_24,d32,x_3,d33,x_16,d34,x_5,d35,x_4,d36,x_6,d37,x_11,d38,x_22,d39,x_40,d40,x_59,d41,x_13,d42,x_2,d43,x_71,d44,x_61,d45,x_45,d46,x_15,d47,x_8,d48,x_10,d49,x_20,d50,x_29,d51,x_36,d52,x_25,d53,x_52,d54,x_55,d55,x_53,d56,x_56,d57,x_47,d58,x_46,d59,x_65,d60,x_67,d61,x_75,d62,x_73,d63,x_28,d64,x_32,d65,x_39,d66,x_34,d67,x_68,d68,x_72,d69,x_30,d70,x_33,d71,x_21,d72,fa,d73,z_76,t_76,z_49,t_49,z_43,t_43,z_37,t_37,z_41,t_41,y_Numbers,y_Knot,y_Bare,y_Table,y_Fork,y_Leaf⟩) ⟨h0.fm1 X G,h1.fm1 X G,h2.fm1 X G,h3.fm1 X G,h4.fm1 X G,h5,h5.b2,h6.fm1 X G,h7.fm2 X G,h8.fm0 X G,h9,h9.b1,h10.fm0 X G,h11.fm0 X G,h12.fm1 X G,h13.fm1 X G,h14.fm1 X G,h15.fm1 X G,h16,h16.b3,h17,h17.b2,h18,h18.b3,h19.fm3 X G,h20,h20.b1,h21.fm2 X G,h22.fm3 X G,h23.fm3 X G,h24.fm5 X G,h25.fm6 X G,h26.fm3 X G,h27,h27.b3,h28,h28.b3,h29.fm3 X G,h30,h30.b3,h31,h31.b3,h32,h32.b2,h33,h33.b4,h34,h34.b4,h35,h35.b3,h36,h36.b6,h37,h37.b5,h38,h38.b4,h39,h39.b2,h40.fm1 X G,h41.fm1 X G,h42,h42.b4,h43,h43.b5,h44.fm3 X G,h45.fm5 X G,h46.fm3 X G,h47,h47.b5,h48,h48.b3,h49,h49.b5,h50,h50.b3,h51.fm5 X G,h52.fm3 X G,h53.fm3 X G,h54.fm1 X G,h55.fm4 X G,h56.fm4 X G,h57.fm6 X G,h58.fm6 X G,h59.fm4 X G,h60.fm3 X G,h61.fm2 X G,h62.fm5 X G,h63.fm5 X G,h64.fm1 X G,h65.fm2 X G,h66.fm2 X G,h67.fm2 X G,h68.fm3 X G,h69.fm6 X G,h70.fm3 X G,h71.fm6 X G,h72,h72.b1,h73.fm1 X G,W.mg_none_of X G z_all,W.mg_none_of X G z_bool,W.mg_none_of X G z_dict,W.mg_none_of X G z_enumerate,W.mg_none_of X G z_int,W.mg_none_of X G z_isinstance,W.mg_none_of X G z_len,W.mg_none_of X G z_list,W.mg_none_of X G z_max,W.mg_none_of X G z_min,W.mg_none_of X G z_ord,W.mg_none_of X G z_range,W.mg_none_of X G z_sorted,W.mg_none_of X G z_str,W.mg_none_of X G z_sum,W.mg_none_of X G z_tuple,⟨_,W.mg_of X G c_MOST_BITS⟩,⟨_,W.mg_of X G c_MOST_PARTS⟩,⟨_,W.mg_of X G c_MOST_SIGNS⟩,h8.code X G tb_76,h10.code X G tb_49,h11.code X G tb_43,h12.code X G tb_37,h13.code X G tb_41,W.mg_of X G bo_Numbers,⟨pg_Numbers,hd_Numbers,po_Numbers,sa_Numbers⟩,na_Numbers_given,W.mg_of X G bo_Knot,⟨pg_Knot,hd_Knot,po_Knot,sa_Knot⟩,na_Knot_term,na_Knot_mark,W.mg_of X G bo_Bare,⟨pg_Bare,hd_Bare,po_Bare,sa_Bare⟩,na_Bare_term,na_Bare_mark,W.mg_of X G bo_Table,⟨pg_Table,hd_Table,po_Table,sa_Table⟩,na_Table_stamper,na_Table_bits,na_Table_top,W.mg_of X G bo_Fork,⟨pg_Fork,hd_Fork,po_Fork,sa_Fork⟩,na_Fork_depth,na_Fork_begin,na_Fork_left,na_Fork_right,na_Fork_term,na_Fork_mark,W.mg_of X G bo_Leaf,⟨pg_Leaf,hd_Leaf,po_Leaf,sa_Leaf⟩,na_Leaf_key,na_Leaf_text,na_Leaf_term,na_Leaf_mark,⟨a30,fn30,h30.kp⟩,⟨a27,fn27,h27.kp⟩,⟨a28,fn28,h28.kp⟩,⟨a31,fn31,h31.kp⟩,⟨a37,fn37,h37.kp⟩,⟨a35,fn35,h35.kp⟩,⟨a33,fn33,h33.kp⟩,⟨a34,fn34,h34.kp⟩,⟨a38,fn38,h38.kp⟩,⟨a32,fn32,h32.kp⟩,⟨a43,fn43,h43.kp⟩,⟨a47,fn47,h47.kp⟩,⟨a49,fn49,h49.kp⟩,⟨a48,fn48,h48.kp⟩,⟨a50,fn50,h50.kp⟩,⟨a39,fn39,h39.kp⟩,⟨a72,fn72,h72.kp⟩,⟨a20,fn20,h20.kp⟩,⟨a5,fn5,h5.kp⟩,⟨mk_Numbers,a9,fn9,kc_Numbers⟩,⟨mk_Bare,a17,fn17,kc_Bare⟩,⟨mk_Table,a18,fn18,kc_Table⟩,⟨mk_Fork,a36,fn36,kc_Fork⟩,⟨mk_Leaf,a42,fn42,kc_Leaf⟩,⟨cg_Knot,cr_Knot,cv_Knot,cw_Knot,h16.kp⟩,⟨oic_Bare,oig,oit,oim_Bare⟩,⟨oic_Fork,oig,oit,oim_Fork⟩,⟨oic_Leaf,oig,oit,oim_Leaf⟩,ko_Bare_Fork,ko_Bare_Bare,ko_Fork_Fork,ko_Fork_Bare,ko_Leaf_Fork,ko_Leaf_Bare⟩ nt tb_76 tb_49 tb_43 tb_37 tb_41 tdn
theorem JO {l:W.OpenLaw} {q:Program} {loose:List Str} {XP:(Str→Option Value)→Heap→Prop} {YP:World→Heap→Prop} {d:DefRec} {K:Params→W.Frag} (hn:l.most=some 63) (hdf:d.params.defaults=[])
  (hY:∀ (w:World) (h:Heap),YP w h→(K w.params).In h) (hq:∀ y∈(["writing", "counting", "_law_worded", "_law_sure", "_law_weak"]:List Str),((PyProof.Rows.recsOf q).find? fun e=>e.name==y).isSome=true)
  (F:∀ (w:World) (mg:Str→Option Value) (fa:Addr) (h:Heap),(K w.params).In h→h.Ns mainGlobals mg→mg d.name=some (.ref fa)→tz l.prog w (K w.params) mg fa):
  W.WalkO q loose XP YP l.row.toRowW d [] (fun f vs=>PySem.call f vs):=
 L2.yq (n:=63) (k:=83) (x:= "_law_script") (CX:=fun w=>CX1 l.prog w) hn (by decide) hdf ⟨rfl,by decide,by decide⟩ hY hq F fun _ _ _ _ _ ⟨_,_,_,_,_,_,z⟩=>z
end
end Rs
def PySem.W.Fast.tw16262688780952847697:Unit:=()
def PySem.W.Fast.tw1974236059254880904:Unit:=()
def PySem.W.Fast.tw902293094546046741:Unit:=()
def PySem.W.Fast.tw2213083822472022412:Unit:=()
def PySem.W.Fast.tw3175285838912425527:Unit:=()
def PySem.W.Fast.tw9434792141503359667:Unit:=()
def PySem.W.Fast.tw4761819282200197774:Unit:=()
def PySem.W.Fast.tw16325858654834911362:Unit:=()
def PySem.W.Fast.tw6593194379737029040:Unit:=()
def PySem.W.Fast.tw7820671677584664886:Unit:=()
def PySem.W.Fast.tw6240143511182352478:Unit:=()
def PySem.W.Fast.tw16907290777933114882:Unit:=()
def PySem.W.Fast.tw7566986567959990442:Unit:=()
def PySem.W.Fast.tw8009474987348034770:Unit:=()
def PySem.W.Fast.tw5018317289180361328:Unit:=()
def PySem.W.Fast.tw3942959677013219542:Unit:=()
def PySem.W.Fast.tw7809224671389203044:Unit:=()
def PySem.W.Fast.tw671600044120434357:Unit:=()
def PySem.W.Fast.tw14612692863598559573:Unit:=()
def PySem.W.Fast.tw16643603767033742998:Unit:=()
def PySem.W.Fast.tw6155349846267296440:Unit:=()
def PySem.W.Fast.tw4915299794791331445:Unit:=()
def PySem.W.Fast.tw11403422223677939579:Unit:=()
def PySem.W.Fast.tw3406586216860595813:Unit:=()
def PySem.W.Fast.tw14317193530437860285:Unit:=()
def PySem.W.Fast.tw1102117588947209356:Unit:=()
def PySem.W.Fast.tw2768795753488834262:Unit:=()
def PySem.W.Fast.tw8635189663751317926:Unit:=()
def PySem.W.Fast.tw17606640713167270470:Unit:=()
def PySem.W.Fast.tw17502628055422643417:Unit:=()
def PySem.W.Fast.tw14454329115126999736:Unit:=()
def PySem.W.Fast.tw15130506371974040265:Unit:=()
def PySem.W.Fast.tw13251309327533325565:Unit:=()
def PySem.W.Fast.tw6368456928811006869:Unit:=()
def PySem.W.Fast.tw10513642648928375407:Unit:=()
def PySem.W.Fast.tw4202984376257440019:Unit:=()
def PySem.W.Fast.tw1616500327736250446:Unit:=()
def PySem.W.Fast.tw15569991196621032069:Unit:=()
def PySem.W.Fast.tw18416335925800720630:Unit:=()
def PySem.W.Fast.tw13020571844255667023:Unit:=()
def PySem.W.Fast.tw13599522747390057687:Unit:=()
def PySem.W.Fast.tw13851092394403002125:Unit:=()
def PySem.W.Fast.tw15738605666244346922:Unit:=()
def PySem.W.Fast.tw10939377743969907362:Unit:=()
def PySem.W.Fast.tw12503085791753476708:Unit:=()
def PySem.W.Fast.tw4544974908273188996:Unit:=()
def PySem.W.Fast.tw6807108777545775040:Unit:=()
def PySem.W.Fast.tw550936420817504836:Unit:=()
def PySem.W.Fast.tw15035807023217241468:Unit:=()
def PySem.W.Fast.tw5785045196129275740:Unit:=()
def PySem.W.Fast.tw5852448186214826137:Unit:=()
def PySem.W.Fast.tw8652309295876917575:Unit:=()
def PySem.W.Fast.tw5902626056133335717:Unit:=()
def PySem.W.Fast.tw10272011229186513691:Unit:=()
def PySem.W.Fast.tw3860092687133452285:Unit:=()
def PySem.W.Fast.tw1846141183436363823:Unit:=()
def PySem.W.Fast.tw13651417486535149518:Unit:=()
def PySem.W.Fast.tw16520047212178887374:Unit:=()
def PySem.W.Fast.tw5853171754640561104:Unit:=()
def PySem.W.Fast.tw8748260971408824766:Unit:=()
def PySem.W.Fast.tw8058710719126720806:Unit:=()
def PySem.W.Fast.tw7320240924637250082:Unit:=()
def PySem.W.Fast.tw4445801035554160529:Unit:=()
def PySem.W.Fast.tw6681503800673472810:Unit:=()
def PySem.W.Fast.tw12466573428922347630:Unit:=()
def PySem.W.Fast.tw17254719774319007675:Unit:=()
def PySem.W.Fast.tw1437528307336745319:Unit:=()
def PySem.W.Fast.tw16828712609158336162:Unit:=()
def PySem.W.Fast.tw674927378838320928:Unit:=()
def PySem.W.Fast.tw7284784044473587713:Unit:=()
def PySem.W.Fast.tw11086442390827771808:Unit:=()
def PySem.W.Fast.tw11338073231548926953:Unit:=()
def PySem.W.Fast.tw15392697234032903255:Unit:=()
def PySem.W.Fast.tw7726588200396140655:Unit:=()
def PySem.W.Fast.tw2526114844528556996:Unit:=()
def PySem.W.Fast.tw4027958532343329006:Unit:=()
def PySem.W.Fast.tw8768945486615158514:Unit:=()
def PySem.W.Fast.tw12569893796693411773:Unit:=()
def PySem.W.Fast.tw1651180067070566910:Unit:=()
def PySem.W.Fast.tw793647547140274520:Unit:=()
def PySem.W.Fast.tw7589608942421404245:Unit:=()
def PySem.W.Fast.tw6990810437888201188:Unit:=()
def PySem.W.Fast.tw5804110159404057552:Unit:=()
def PySem.W.Fast.tw9674454400909713748:Unit:=()
def PySem.W.Fast.tw2504570145546638329:Unit:=()
def PySem.W.Fast.tw16227781945545715714:Unit:=()
def PySem.W.Fast.tw8629918981310352692:Unit:=()
def PySem.W.Fast.tw3450982332833621526:Unit:=()
def PySem.W.Fast.tw6188826471029469900:Unit:=()
def PySem.W.Fast.tw9722803937888321230:Unit:=()
def PySem.W.Fast.tw12376313983140658735:Unit:=()
def PySem.W.Fast.tw16571885426186190254:Unit:=()
def PySem.W.Fast.tw12276834774009648299:Unit:=()
def PySem.W.Fast.tw819966987189033780:Unit:=()
def PySem.W.Fast.tw17881007737032032336:Unit:=()
def PySem.W.Fast.tw14720464967227956215:Unit:=()
def PySem.W.Fast.tw8294461890969409545:Unit:=()
def PySem.W.Fast.tw16059943417080737064:Unit:=()
def PySem.W.Fast.tw9159591654513661597:Unit:=()
def PySem.W.Fast.tw16312749005936010812:Unit:=()
def PySem.W.Fast.tw2180167037391688521:Unit:=()
def PySem.W.Fast.tw9871086385831183901:Unit:=()
def PySem.W.Fast.tw9455912261971002317:Unit:=()
def PySem.W.Fast.tw11434525907729284229:Unit:=()
def PySem.W.Fast.tw12748838092249758626:Unit:=()
def PySem.W.Fast.tw16707390666284908970:Unit:=()
def PySem.W.Fast.tw17442784964767661083:Unit:=()
def PySem.W.Fast.tw23246794553245471:Unit:=()
def PySem.W.Fast.tw1241943856022885413:Unit:=()
def PySem.W.Fast.tw3631257016378181886:Unit:=()
def PySem.W.Fast.tw1317155072396556430:Unit:=()
def PySem.W.Fast.tw10363870038325837131:Unit:=()
def PySem.W.Fast.tw2376414173950525482:Unit:=()
def PySem.W.Fast.tw1558448311031060956:Unit:=()
def PySem.W.Fast.tw10890594630467412185:Unit:=()
def PySem.W.Fast.tw15889902502380150075:Unit:=()
def PySem.W.Fast.tw8873406210793230755:Unit:=()
def PySem.W.Fast.tw905676266711175257:Unit:=()
def PySem.W.Fast.tw4203552222776928364:Unit:=()
def PySem.W.Fast.tw15941735470859759217:Unit:=()
def PySem.W.Fast.tw2656922212544931879:Unit:=()
def PySem.W.Fast.tw7707903618916654050:Unit:=()
def PySem.W.Fast.tw4991960995504659118:Unit:=()
def PySem.W.Fast.tw676319249297798198:Unit:=()
def PySem.W.Fast.tw5016856314759234038:Unit:=()
def PySem.W.Fast.tw14620943949819336614:Unit:=()
def PySem.W.Fast.tw13282049537907182301:Unit:=()
def PySem.W.Fast.tw5725699284797562364:Unit:=()
def PySem.W.Fast.tw15047743481264297533:Unit:=()
def PySem.W.Fast.tw15288290635039899192:Unit:=()
def PySem.W.Fast.tw12881391383451241109:Unit:=()
def PySem.W.Fast.tw16286423461611311017:Unit:=()
def PySem.W.Fast.tw4553996187586019206:Unit:=()
def PySem.W.Fast.tw4772177631743094813:Unit:=()
def PySem.W.Fast.tw5143012303411393379:Unit:=()
def PySem.W.Fast.tw697996350137150823:Unit:=()
def PySem.W.Fast.tw10051718855746765890:Unit:=()
def PySem.W.Fast.tw7692628661420624566:Unit:=()
def PySem.W.Fast.tw12283010107417509551:Unit:=()
def PySem.W.Fast.tw8205831452073688677:Unit:=()
def PySem.W.Fast.tw3871643761854482609:Unit:=()
def PySem.W.Fast.tw9998523668365706119:Unit:=()
def PySem.W.Fast.tw17773511856409837835:Unit:=()
def PySem.W.Fast.tw14138095351341199103:Unit:=()
def PySem.W.Fast.tw14087742030315764779:Unit:=()
def PySem.W.Fast.tw7106557901778533675:Unit:=()
def PySem.W.Fast.tw12523446809917777570:Unit:=()
def PySem.W.Fast.tw7237808198352227387:Unit:=()
def PySem.W.Fast.tw2283813789362285272:Unit:=()
def PySem.W.Fast.tw1512927027634128933:Unit:=()
def PySem.W.Fast.tw12945168758170341834:Unit:=()
def PySem.W.Fast.tw11643725966563686710:Unit:=()
def PySem.W.Fast.tw15164252397810946055:Unit:=()
def PySem.W.Fast.tw5545431196319321895:Unit:=()
def PySem.W.Fast.tw6446110210638868960:Unit:=()
def PySem.W.Fast.tw9851935048049429105:Unit:=()
def PySem.W.Fast.tw5221436512607263971:Unit:=()
def PySem.W.Fast.tw1661973827638326026:Unit:=()
def PySem.W.Fast.tw11852474165033173079:Unit:=()
def PySem.W.Fast.tw15776137063839834642:Unit:=()
def PySem.W.Fast.tw13002882496654283776:Unit:=()
def PySem.W.Fast.tw13186272823107600137:Unit:=()
def PySem.W.Fast.tw3835748046558005172:Unit:=()
def PySem.W.Fast.tw8573606500960733455:Unit:=()
def PySem.W.Fast.tw14111889798666070715:Unit:=()
def PySem.W.Fast.tw17571095038203993761:Unit:=()
def PySem.W.Fast.tw14859419746042719255:Unit:=()
def PySem.W.Fast.tw11111954762949049014:Unit:=()
def PySem.W.Fast.tw14114642840298781330:Unit:=()
def PySem.W.Fast.tw2045440831666460594:Unit:=()
def PySem.W.Fast.tw10663732550489139986:Unit:=()
def PySem.W.Fast.tw11356423694901230131:Unit:=()
def PySem.W.Fast.tw11196925070180802530:Unit:=()
def PySem.W.Fast.tw17986537492437299731:Unit:=()
def PySem.W.Fast.tw7578926674502829053:Unit:=()
def PySem.W.Fast.tw4212917748886595412:Unit:=()
def PySem.W.Fast.tw13049303549200937805:Unit:=()
def PySem.W.Fast.tw1721170300566188882:Unit:=()
def PySem.W.Fast.tw11638829157143558318:Unit:=()
def PySem.W.Fast.tw8229357944183105035:Unit:=()
def PySem.W.Fast.tw7957659405550106738:Unit:=()
def PySem.W.Fast.tw4124969518318062372:Unit:=()
def PySem.W.Fast.tw14079135821387033713:Unit:=()
def PySem.W.Fast.tw14779252888274873624:Unit:=()
def PySem.W.Fast.tw2877011859666504716:Unit:=()
def PySem.W.Fast.tw14439614377462618188:Unit:=()
def PySem.W.Fast.tw13867576114920326699:Unit:=()
def PySem.W.Fast.tw13810602828993192012:Unit:=()
def PySem.W.Fast.tw18096569880978775815:Unit:=()
def PySem.W.Fast.tw11119598918789727573:Unit:=()
def PySem.W.Fast.tw4080815316895964402:Unit:=()
def PySem.W.Fast.tw5288631355593236358:Unit:=()
def PySem.W.Fast.tw1357502247793232329:Unit:=()
def PySem.W.Fast.tw1985465064920255601:Unit:=()
def PySem.W.Fast.tw18412667474055299032:Unit:=()
def PySem.W.Fast.tw21421488182757370:Unit:=()
def PySem.W.Fast.tw1807412984941188500:Unit:=()
def PySem.W.Fast.tw13243788759011334849:Unit:=()
def PySem.W.Fast.tw6936922106859376205:Unit:=()
def PySem.W.Fast.tw3680991951680531338:Unit:=()
def PySem.W.Fast.tw17336417570992135755:Unit:=()
def PySem.W.Fast.tw18367441042171544299:Unit:=()
def PySem.W.Fast.tw1427594773216116563:Unit:=()
def PySem.W.Fast.tw4064655860256230946:Unit:=()
def PySem.W.Fast.tw2306446902873627672:Unit:=()
def PySem.W.Fast.tw13033275573350130790:Unit:=()
def PySem.W.Fast.tw13789096703578137659:Unit:=()
def PySem.W.Fast.tw2775997167232591662:Unit:=()
def PySem.W.Fast.tw14792029330635348851:Unit:=()
def PySem.W.Fast.tw15756478106742623533:Unit:=()
open PySem PySem.W PyProof.Rows
set_option maxRecDepth 100000 in
set_option maxHeartbeats 0 in
theorem PySem.Challenge.cw_rootstamp_k33_whole_stretches_of_a_table_holds : PySem.Challenge.rw_rootstamp_k33_whole_stretches_of_a_table.Holds := by
 w_on; o_law; k_head; (case hw => w_witness2)
 k_fill
 refine Rs.JO (l := PySem.Challenge.rw_rootstamp_k33_whole_stretches_of_a_table) rfl rfl (fun w h Y => by first | exact PySem.W.kIn_of Y | exact PySem.W.km_in_of Y) (by decide +kernel) ?F
 case F =>
  intro w mg fa h KX G hmg
  refine' Rs.Ef KX G hmg ?bo_Numbers ?bo_Knot ?bo_Bare ?bo_Table ?bo_Fork ?bo_Leaf (L2.ba ?a0 ?l0 ?c0 ?k0) (L2.ba ?a1 ?l1 ?c1 ?k1) (L2.ba ?a2 ?l2 ?c2 ?k2) (L2.ba ?a3 ?l3 ?c3 ?k3) (L2.ba ?a4 ?l4 ?c4 ?k4) ?a5 (L2.bA ?l5 ?c5 ?k5) ?fn5 (L2.ba ?a6 ?l6 ?c6 ?k6) (L2.ba ?a7 ?l7 ?c7 ?k7) (L2.ba ?a8 ?l8 ?c8 ?k8) ?tb_76 ?a9 (L2.bA ?l9 ?c9 ?k9) ?fn9 (L2.ba ?a10 ?l10 ?c10 ?k10) ?tb_49 (L2.ba ?a11 ?l11 ?c11 ?k11) ?tb_43 (L2.ba ?a12 ?l12 ?c12 ?k12) ?tb_37 (L2.ba ?a13 ?l13 ?c13 ?k13) ?tb_41 (L2.ba ?a14 ?l14 ?c14 ?k14) (L2.ba ?a15 ?l15 ?c15 ?k15) ?a16 (L2.bA ?l16 ?c16 ?k16) ?fn16 ?a17 (L2.bA ?l17 ?c17 ?k17) ?fn17 ?a18 (L2.bA ?l18 ?c18 ?k18) ?fn18 (L2.ba ?a19 ?l19 ?c19 ?k19) ?a20 (L2.bA ?l20 ?c20 ?k20) ?fn20 (L2.ba ?a21 ?l21 ?c21 ?k21) (L2.ba ?a22 ?l22 ?c22 ?k22) (L2.ba ?a23 ?l23 ?c23 ?k23) (L2.ba ?a24 ?l24 ?c24 ?k24) (L2.ba ?a25 ?l25 ?c25 ?k25) (L2.ba ?a26 ?l26 ?c26 ?k26) ?a27 (L2.bA ?l27 ?c27 ?k27) ?fn27 ?a28 (L2.bA ?l28 ?c28 ?k28) ?fn28 (L2.ba ?a29 ?l29 ?c29 ?k29) ?a30 (L2.bA ?l30 ?c30 ?k30) ?fn30 ?a31 (L2.bA ?l31 ?c31 ?k31) ?fn31 ?a32 (L2.bA ?l32 ?c32 ?k32) ?fn32 ?a33 (L2.bA ?l33 ?c33 ?k33) ?fn33 ?a34 (L2.bA ?l34 ?c34 ?k34) ?fn34 ?a35 (L2.bA ?l35 ?c35 ?k35) ?fn35 ?a36 (L2.bA ?l36 ?c36 ?k36) ?fn36 ?a37 (L2.bA ?l37 ?c37 ?k37) ?fn37 ?a38 (L2.bA ?l38 ?c38 ?k38) ?fn38 ?a39 (L2.bA ?l39 ?c39 ?k39) ?fn39 (L2.ba ?a40 ?l40 ?c40 ?k40) (L2.ba ?a41 ?l41 ?c41 ?k41) ?a42 (L2.bA ?l42 ?c42 ?k42) ?fn42 ?a43 (L2.bA ?l43 ?c43 ?k43) ?fn43 (L2.ba ?a44 ?l44 ?c44 ?k44) (L2.ba ?a45 ?l45 ?c45 ?k45) (L2.ba ?a46 ?l46 ?c46 ?k46) ?a47 (L2.bA ?l47 ?c47 ?k47) ?fn47 ?a48 (L2.bA ?l48 ?c48 ?k48) ?fn48 ?a49 (L2.bA ?l49 ?c49 ?k49) ?fn49 ?a50 (L2.bA ?l50 ?c50 ?k50) ?fn50 (L2.ba ?a51 ?l51 ?c51 ?k51) (L2.ba ?a52 ?l52 ?c52 ?k52) (L2.ba ?a53 ?l53 ?c53 ?k53) (L2.ba ?a54 ?l54 ?c54 ?k54) (L2.ba ?a55 ?l55 ?c55 ?k55) (L2.ba ?a56 ?l56 ?c56 ?k56) (L2.ba ?a57 ?l57 ?c57 ?k57) (L2.ba ?a58 ?l58 ?c58 ?k58) (L2.ba ?a59 ?l59 ?c59 ?k59) (L2.ba ?a60 ?l60 ?c60 ?k60) (L2.ba ?a61 ?l61 ?c61 ?k61) (L2.ba ?a62 ?l62 ?c62 ?k62) (L2.ba ?a63 ?l63 ?c63 ?k63) (L2.ba ?a64 ?l64 ?c64 ?k64) (L2.ba ?a65 ?l65 ?c65 ?k65) (L2.ba ?a66 ?l66 ?c66 ?k66) (L2.ba ?a67 ?l67 ?c67 ?k67) (L2.ba ?a68 ?l68 ?c68 ?k68) (L2.ba ?a69 ?l69 ?c69 ?k69) (L2.ba ?a70 ?l70 ?c70 ?k70) (L2.ba ?a71 ?l71 ?c71 ?k71) ?a72 (L2.bA ?l72 ?c72 ?k72) ?fn72 (L2.ba ?a73 ?l73 ?c73 ?k73) ?pg_Numbers ?hd_Numbers ?po_Numbers ?sa_Numbers ?na_Numbers_given ?pg_Knot ?hd_Knot ?po_Knot ?sa_Knot ?na_Knot_term ?na_Knot_mark ?pg_Bare ?hd_Bare ?po_Bare ?sa_Bare ?na_Bare_term ?na_Bare_mark ?pg_Table ?hd_Table ?po_Table ?sa_Table ?na_Table_stamper ?na_Table_bits ?na_Table_top ?pg_Fork ?hd_Fork ?po_Fork ?sa_Fork ?na_Fork_depth ?na_Fork_begin ?na_Fork_left ?na_Fork_right ?na_Fork_term ?na_Fork_mark ?pg_Leaf ?hd_Leaf ?po_Leaf ?sa_Leaf ?na_Leaf_key ?na_Leaf_text ?na_Leaf_term ?na_Leaf_mark ?cg_Knot ?cr_Knot ?cv_Knot ?cw_Knot ?oig ?oit ?oic_Bare ?oim_Bare ?oic_Fork ?oim_Fork ?oic_Leaf ?oim_Leaf ?ko_Bare_Fork ?ko_Bare_Bare ?ko_Fork_Fork ?ko_Fork_Bare ?ko_Leaf_Fork ?ko_Leaf_Bare ?mk_Numbers ?kc_Numbers ?mk_Bare ?kc_Bare ?mk_Table ?kc_Table ?mk_Fork ?kc_Fork ?mk_Leaf ?kc_Leaf ?z_all ?z_bool ?z_dict ?z_enumerate ?z_int ?z_isinstance ?z_len ?z_list ?z_max ?z_min ?z_ord ?z_range ?z_sorted ?z_str ?z_sum ?z_tuple ?c_MOST_BITS ?c_MOST_PARTS ?c_MOST_SIGNS ?nt ?td
  case bo_Numbers | bo_Knot | bo_Bare | bo_Table | bo_Fork | bo_Leaf | a0 | l0 | c0 | k0 | a1 | l1 | c1 | k1 | a2 | l2 | c2 | k2 | a3 | l3 | c3 | k3 | a4 | l4 | c4 | k4 | a5 | l5 | c5 | k5 | fn5 | a6 | l6 | c6 | k6 | a7 | l7 | c7 | k7 | a8 | l8 | c8 | k8 => k_is
  case tb_76 => kernel_rfl
  case a9 | l9 | c9 | k9 | fn9 | a10 | l10 | c10 | k10 => k_is
  case tb_49 => kernel_rfl
  case a11 | l11 | c11 | k11 => k_is
  case tb_43 => kernel_rfl
  case a12 | l12 | c12 | k12 => k_is
  case tb_37 => kernel_rfl
  case a13 | l13 | c13 | k13 => k_is
  case tb_41 => kernel_rfl
  case a14 | l14 | c14 | k14 | a15 | l15 | c15 | k15 | a16 | l16 | c16 | k16 | fn16 | a17 | l17 | c17 | k17 | fn17 | a18 | l18 | c18 | k18 | fn18 | a19 | l19 | c19 | k19 | a20 | l20 | c20 | k20 | fn20 | a21 | l21 | c21 | k21 | a22 | l22 | c22 | k22 | a23 | l23 | c23 | k23 | a24 | l24 | c24 | k24 | a25 | l25 | c25 | k25 | a26 | l26 | c26 | k26 | a27 | l27 | c27 | k27 | fn27 | a28 | l28 | c28 | k28 | fn28 | a29 | l29 | c29 | k29 | a30 | l30 | c30 | k30 | fn30 | a31 | l31 | c31 | k31 | fn31 | a32 | l32 | c32 | k32 | fn32 | a33 | l33 | c33 | k33 | fn33 | a34 | l34 | c34 | k34 | fn34 | a35 | l35 | c35 | k35 | fn35 | a36 | l36 | c36 | k36 | fn36 | a37 | l37 | c37 | k37 | fn37 | a38 | l38 | c38 | k38 | fn38 | a39 | l39 | c39 | k39 | fn39 | a40 | l40 | c40 | k40 | a41 | l41 | c41 | k41 | a42 | l42 | c42 | k42 | fn42 | a43 | l43 | c43 | k43 | fn43 | a44 | l44 | c44 | k44 | a45 | l45 | c45 | k45 | a46 | l46 | c46 | k46 | a47 | l47 | c47 | k47 | fn47 | a48 | l48 | c48 | k48 | fn48 | a49 | l49 | c49 | k49 | fn49 | a50 | l50 | c50 | k50 | fn50 | a51 | l51 | c51 | k51 | a52 | l52 | c52 | k52 | a53 | l53 | c53 | k53 | a54 | l54 | c54 | k54 | a55 | l55 | c55 | k55 | a56 | l56 | c56 | k56 | a57 | l57 | c57 | k57 | a58 | l58 | c58 | k58 | a59 | l59 | c59 | k59 | a60 | l60 | c60 | k60 | a61 | l61 | c61 | k61 | a62 | l62 | c62 | k62 | a63 | l63 | c63 | k63 | a64 | l64 | c64 | k64 | a65 | l65 | c65 | k65 | a66 | l66 | c66 | k66 | a67 | l67 | c67 | k67 | a68 | l68 | c68 | k68 | a69 | l69 | c69 | k69 | a70 | l70 | c70 | k70 | a71 | l71 | c71 | k71 | a72 | l72 | c72 | k72 | fn72 | a73 | l73 | c73 | k73 | pg_Numbers | hd_Numbers | po_Numbers | sa_Numbers | na_Numbers_given | pg_Knot | hd_Knot | po_Knot | sa_Knot | na_Knot_term | na_Knot_mark | pg_Bare | hd_Bare | po_Bare | sa_Bare | na_Bare_term | na_Bare_mark | pg_Table | hd_Table | po_Table | sa_Table | na_Table_stamper | na_Table_bits | na_Table_top | pg_Fork | hd_Fork | po_Fork | sa_Fork | na_Fork_depth | na_Fork_begin | na_Fork_left | na_Fork_right | na_Fork_term | na_Fork_mark | pg_Leaf | hd_Leaf | po_Leaf | sa_Leaf | na_Leaf_key | na_Leaf_text | na_Leaf_term | na_Leaf_mark => k_is
  case cg_Knot | cr_Knot | cv_Knot | cw_Knot | oig | oit | oic_Bare | oim_Bare | oic_Fork | oim_Fork | oic_Leaf | oim_Leaf => first | k_is | kernel_rfl
  case ko_Bare_Fork | ko_Bare_Bare | ko_Fork_Fork | ko_Fork_Bare | ko_Leaf_Fork | ko_Leaf_Bare => kit_is
  case mk_Numbers | kc_Numbers | mk_Bare | kc_Bare | mk_Table | kc_Table | mk_Fork | kc_Fork | mk_Leaf | kc_Leaf | z_all | z_bool | z_dict | z_enumerate | z_int | z_isinstance | z_len | z_list | z_max | z_min | z_ord | z_range | z_sorted | z_str | z_sum | z_tuple | c_MOST_BITS | c_MOST_PARTS | c_MOST_SIGNS => k_is
  case nt | td => kernel_rfl

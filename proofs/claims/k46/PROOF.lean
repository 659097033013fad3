import PyProof.Rows.All
import Wide.All
import OpenK.AllK
import Wide.FinOn
import Lean
import PyProof.EqAt
import PyProof.EqKinds
import PyProof.TupleCall
import PyProof.P3In
import KE.KDictLaws
import KE.KTabLook
import KE.KRevIter
import KE.KItemsList
import PyProof.TupleOfGen
import KE.KSortTup
import KE.KDictSum
import KE.KEqDict
import PyProof.EnumMake
import PyProof.EnumFor
import PyProof.EnumStmt
import PyProof.AttrMissHeap
import KE.KDictOf
import PyProof.Rows.SortShell
import PySem.Challenge.RW_rootstamp_k46_refusals_of_places
set_option Elab.async false
set_option linter.all false
set_option maxRecDepth 100000
set_option maxHeartbeats 4000000
namespace L2
open PySem PySem.Spec PyProof.Rows
abbrev Key:=Sum Int Str
def jS:Key→Value→Bool
 | .inl k,v=>Value.isInt k v
 | .inr x,v=>Value.isStrOf x v
def Iv (w:World):Key→Int
 | .inl k=>hashInt k
 | .inr x=>hashStr w x
theorem cu : ∀ {k : Key} {v : Value}, jS k v = true → (∃ i t, k = Sum.inl i ∧ v = Value.int i t) ∨ (∃ x t, k = Sum.inr x ∧ v = Value.str x t)
  | .inl i, v, h => by
    obtain ⟨t, e⟩ := Value.isInt_shape (k := i) (v := v) h
    exact .inl ⟨i, t, rfl, e⟩
  | .inr x, v, h => by
    obtain ⟨t, e⟩ := Value.isStrOf_shape (x := x) (v := v) h
    exact .inr ⟨x, t, rfl, e⟩
theorem vt (i:Int) (t:Tok):jS (.inl i) (.int i t)=true:=by simp [jS,Value.isInt]
theorem vp (x:Str) (t:Tok):jS (.inr x) (.str x t)=true:=by simp [jS,Value.isStrOf]
theorem Cy (a b:Int):decide ((Sum.inl a:Key)=Sum.inl b)=(a==b):=by
 by_cases e:a=b
 · subst e;simp
 · have h:¬ (Sum.inl a:Key)=Sum.inl b:=fun q=>e (Sum.inl.inj q)
   rw [decide_eq_false h]
   exact (beq_eq_false_iff_ne.mpr e).symm
theorem Dg (a b:Str):decide ((Sum.inr a:Key)=Sum.inr b)=decide (a=b):=by
 by_cases e:a=b
 · subst e;simp
 · have h:¬ (Sum.inr a:Key)=Sum.inr b:=fun q=>e (Sum.inr.inj q)
   rw [decide_eq_false h,decide_eq_false e]
theorem Df (a:Int) (b:Str):decide ((Sum.inl a:Key)=Sum.inr b)=false:=decide_eq_false (fun q=>nomatch q)
theorem BZ (a:Str) (b:Int):decide ((Sum.inr a:Key)=Sum.inl b)=false:=decide_eq_false (fun q=>nomatch q)
def cf (prog:Program) (w:World):PySem.KeyKind prog w Key where
 is:=jS
 hash:=Iv w
 inj:=fun v a b ha hb=>by
  rcases cu ha with ⟨i,t,rfl,rfl⟩ | ⟨x,t,rfl,rfl⟩
  · rcases cu hb with ⟨j,u,rfl,e⟩ | ⟨y,u,rfl,e⟩
    · injection e with e1 _;rw [e1]
    · exact nomatch e
  · rcases cu hb with ⟨j,u,rfl,e⟩ | ⟨y,u,rfl,e⟩
    · exact nomatch e
    · injection e with e1 _;rw [e1]
 byValue:=fun k v h=>by
  rcases cu h with ⟨i,t,rfl,rfl⟩ | ⟨x,t,rfl,rfl⟩ <;> rfl
 pyHash:=fun hv h=>by
  rcases cu hv with ⟨i,t,rfl,rfl⟩ | ⟨x,t,rfl,rfl⟩
  · exact wpAny_pyHash_int h
  · exact wpAny_pyHash_str h
 eqBool:=fun hu hv h=>by
  rcases cu hu with ⟨i,t,rfl,rfl⟩ | ⟨x,t,rfl,rfl⟩
  · rcases cu hv with ⟨j,u,rfl,rfl⟩ | ⟨y,u,rfl,rfl⟩
    · rw [Cy] at h;exact wpAny_eqBool_int h
    · rw [Df] at h;exact SeqAt.EqAt.int_str i t y u _ _ _ _ h
  · rcases cu hv with ⟨j,u,rfl,rfl⟩ | ⟨y,u,rfl,rfl⟩
    · rw [BZ] at h;exact SeqAt.EqAt.str_int x t j u _ _ _ _ h
    · rw [Dg] at h;exact wpAny_eqBool_str h
 «strs»:=fun k x t v h=>by
  rcases cu h with ⟨i,u,rfl,e⟩ | ⟨y,u,rfl,e⟩
  · exact nomatch e
  · injection e with e1 _
    subst e1
    cases v <;> rfl
theorem qC (prog:Program) (w:World) (i:Int) (t:Tok):(cf prog w).is (.inl i) (.int i t)=true:=vt i t
theorem qH (prog:Program) (w:World) (x:Str) (t:Tok):(cf prog w).is (.inr x) (.str x t)=true:=vp x t
inductive V where
 | non | bl (b:Bool) | int (i:Int) | str (x:Str) | byt (b:Array UInt8) | flt (b:UInt64) | ref (a:Addr) | ty (n:String)
 deriving DecidableEq
def aS:V→Value→Prop
 | .non,u=>u=Value.none
 | .bl b,u=>u=Value.bool b
 | .int i,u=>∃ t,u=Value.int i t
 | .str x,u=>∃ t,u=Value.str x t
 | .byt b,u=>∃ t,u=Value.bytes b t
 | .flt b,u=>∃ t,u=Value.float b t
 | .ref a,u=>u=Value.ref a
 | .ty n,u=>u=Value.type n
abbrev aR:List V→List Value→Prop:=Paired aS
theorem aR.length {xs:List V} {us:List Value} (r:aR xs us):xs.length=us.length:=Paired.length r
theorem aR.get : ∀ {xs : List V} {us : List Value} {i : Nat} {x : V}, aR xs us → xs[i]? = some x → ∃ u, us[i]? = some u ∧ aS x u
  | _, _, _, _, .nil, e => by simp at e
  | _, _, 0, _, .cons r _, e => by simp at e; subst e; exact ⟨_, rfl, r⟩
  | _, _, i + 1, x, .cons _ t, e => by
    obtain ⟨u, h1, h2⟩ := aR.get (i := i) (x := x) t (by simpa using e)
    exact ⟨u, by simpa using h1, h2⟩
theorem aR.set {x:V} {u:Value} (r:aS x u):∀ {xs:List V} {us:List Value} (i:Nat),aR xs us→aR (xs.set i x) (us.set i u)
 | _,_,_,.nil=> .nil
 | _,_,0,.cons _ t=> .cons r t
 | _,_,i+1,.cons q t=> .cons q (aR.set r i t)
theorem aR.append:∀ {xs ys:List V} {us ws:List Value},aR xs us→aR ys ws→aR (xs++ys) (us++ws)
 | _,_,_,_,.nil,s=>s
 | _,_,_,_,.cons r t,s=> .cons r (aR.append t s)
theorem aR.take:∀ {xs:List V} {us:List Value} (n:Nat),aR xs us→aR (xs.take n) (us.take n)
 | _,_,0,_=> .nil
 | _,_,_+1,.nil=> .nil
 | _,_,n+1,.cons r t=> .cons r (aR.take n t)
theorem aR.drop:∀ {xs:List V} {us:List Value} (n:Nat),aR xs us→aR (xs.drop n) (us.drop n)
 | _,_,0,r=>r
 | _,_,_+1,.nil=> .nil
 | _,_,n+1,.cons _ t=>aR.drop n t
def cC:Option V→Option Value→Prop
 | some v,some u=>aS v u
 | none,none=>True
 | _,_=>False
def KV {κ:Type}:List (κ×V)→List (κ×Value)→Prop:=Paired fun (p:κ×V) (q:κ×Value)=>p.1=q.1∧aS p.2 q.2
def kV:Key→V
 | .inl i=> .int i
 | .inr x=> .str x
inductive HO where
 | lst (xs:List V)
 | tup (xs:List V)
 | dK (kvs:List (Key×V)) | dT (kvs:List (List Key×V))
 | set (S:Int→Bool) (n:Nat)
 | ins (C dx:Addr) (fs:List (Str×V))
 | own (x:Addr)
 | xd (fs:List (Str×V))
 | met (f x:Addr)
 | rng (lo hi:Int)
 | frz (o:Obj) (u:HO)
 | tbl (ps:Array Value)
 | ext (φ:Heap→Prop)
abbrev Hp:=Addr→Option HO
def upd (H:Hp) (a:Addr) (o:HO):Hp:=fun b=>if b=a then some o else H b
theorem ai {H:Hp} {a:Addr} {o:HO}:upd H a o a=some o:=by unfold upd;rw [if_pos rfl]
theorem ao {H:Hp} {a b:Addr} {o:HO} (h:b≠a):upd H a o b=H b:=by unfold upd;rw [if_neg h]
theorem cU {H:Hp} {a:Addr} {o u:HO}:upd (upd H a o) a u=upd H a u:=by
 funext b;unfold upd;split <;> rfl
theorem bG {H:Hp} {a b:Addr} {o u:HO} (h:H a=some o) (h':H b=some u) (d:o≠u):a≠b:=by
 intro e;subst e;rw [h] at h';exact d (Option.some.inj h')
theorem aw {H:Hp} {a b:Addr} {o:HO} (h:H a=some o) (h':H b=none):a≠b:=by
 intro e;subst e;rw [h] at h';cases h'
section
variable (P:Program) (w:World)
def aU (H:Hp) (h:Heap) (a:Addr):HO→Prop
 | .lst xs=>xs.length≤sizeLine∧∃ (its:List Value) (n:Nat),aR xs its∧h.get? a=some { cls:=.type "list",data:=.seq its.toArray n }
 | .tup xs=>xs.length≤sizeLine∧∃ its:List Value,aR xs its∧IsTup h a its.toArray
 | .dK kvs=>kvs.length≤sizeLine∧(a==sysModules)=false∧∃ vs,KV kvs vs∧h.DictOf (cf P w) a vs
 | .dT kvs=>kvs.length≤sizeLine∧(a==sysModules)=false∧∃ xs:List (List Key×Addr×Value),
  Paired (fun (p:List Key×V) (q:List Key×Addr×Value)=>p.1=q.1∧H q.2.1=some (.tup (p.1.map kV))∧aS p.2 q.2.2) kvs xs∧
  ∃ o es ep,h.get? a=some o∧o.ExactDict∧o.data=.dict es ep∧es.toList=xs.map (entryOfKey (tupleKind (cf P w)))∧(xs.map (·.1)).Nodup
 | .set S n=>h.SetOf (intKind P w) a S n
 | .ins C dx fs=>H dx=some (.own a)∧fs.length≤1000∧dx≠a∧h.get? a=some (W.instObj C dx)∧
  ∃ mA,h.Ns1 dx mA∧(∀ f,cC (fs.lookup f) (mA f))∧PySem.Within mA (fs.map (·.1))
 | .own _=>∃ o,h.get? a=some o
 | .xd fs=>∃ mA,h.Ns1 a mA∧∀ f,cC (fs.lookup f) (mA f)
 | .rng lo hi=>∃ t u v,h.get? a=some { cls:=.type "range",data:=.fields #[.int lo t,.int hi u,.int 1 v] }
 | .frz o u=>h.get? a=some o∧aU H h a u
 | .tbl ps=>h.get? a=some { cls:=.none,data:=.fields ps }
 | .met f x=>h.get? a=some (W.methodObj (.ref f) (.ref x))
 | .ext φ=>φ h∧(∃ o,h.get? a=some o)∧∀ h1 h2:Heap,φ h1→(∀ o,h1.get? a=some o→h2.get? a=some o)→φ h2
def HOk (H:Hp) (h:Heap):Prop:=∀ a o,H a=some o→aU P w H h a o
end
section
variable {P:Program} {w:World} {H H':Hp} {h h':Heap} {a:Addr} {o:HO}
theorem aU.lt (x:aU P w H h a o):a<h.objs.size:=by
 cases o with
 | lst xs=>obtain ⟨_,_,_,_,e⟩:=x;exact Heap.lt_size e
 | tup xs=>obtain ⟨_,_,_,p⟩:=x;exact p.lt
 | dK kvs=>obtain ⟨_,_,_,_,o,_,_,e,_⟩:=x;exact Heap.lt_size e
 | dT kvs=>obtain ⟨_,_,_,_,o,_,_,e,_⟩:=x;exact Heap.lt_size e
 | set S n=>obtain ⟨o,_,_,_,e,_⟩:=x;exact Heap.lt_size e
 | ins C dx fs=>obtain ⟨_,_,_,e,_⟩:=x;exact Heap.lt_size e
 | own y=>obtain ⟨_,e⟩:=x;exact Heap.lt_size e
 | xd fs=>obtain ⟨_,⟨_,_,_,e,_⟩,_⟩:=x;exact Heap.lt_size e
 | rng lo hi=>obtain ⟨_,_,_,e⟩:=x;exact Heap.lt_size e
 | frz ob u=>obtain ⟨e,_⟩:=x;exact Heap.lt_size e
 | tbl ps=>exact Heap.lt_size (show h.get? a=some _ from x)
 | met f y=>exact Heap.lt_size (show h.get? a=some _ from x)
 | ext φ=>obtain ⟨_,⟨_,e⟩,_⟩:=x;exact Heap.lt_size e
theorem Paired.mapP {α β:Type} {F G:α→β→Prop}:∀ {l₁:List α} {l₂:List β},Paired F l₁ l₂→(∀ a b,F a b→G a b)→Paired G l₁ l₂
 | _,_,.nil,_=> .nil
 | _,_,.cons r t,f=> .cons (f _ _ r) (Paired.mapP t f)
theorem aU.stay (x : aU P w H h a o) (k : ∀ b u, (b = a ∨ H b = some (.own a)) → h.get? b = some u → h'.get? b = some u)
    (ho : ∀ b, H b = some (.own a) → H' b = some (.own a)) (ht : ∀ b xs, H b = some (.tup xs) → H' b = some (.tup xs)) : aU P w H' h' a o := by
  induction o with
  | lst xs => obtain ⟨z, its, n, r, e⟩ := x; exact ⟨z, its, n, r, k _ _ (.inl rfl) e⟩
  | tup xs => obtain ⟨z, its, r, ob, e, c⟩ := x; exact ⟨z, its, r, ob, k _ _ (.inl rfl) e, c⟩
  | dK kvs => obtain ⟨z, y, vs, r, ob, es, ep, e, c⟩ := x; exact ⟨z, y, vs, r, ob, es, ep, k _ _ (.inl rfl) e, c⟩
  | dT kvs =>
    obtain ⟨z, y, xs, r, ob, es, ep, e, c⟩ := x
    exact ⟨z, y, xs, Paired.mapP r fun p q z => ⟨z.1, ht _ _ z.2.1, z.2.2⟩, ob, es, ep, k _ _ (.inl rfl) e, c⟩
  | set S n => obtain ⟨ob, es, ep, t, e, c⟩ := x; exact ⟨ob, es, ep, t, k _ _ (.inl rfl) e, c⟩
  | ins C dx fs =>
    obtain ⟨d, z, ne, e, mA, ⟨od, es, ep, e2, c⟩, r⟩ := x
    exact ⟨ho _ d, z, ne, k _ _ (.inl rfl) e, mA, ⟨od, es, ep, k _ _ (.inr d) e2, c⟩, r⟩
  | own y => obtain ⟨ob, e⟩ := x; exact ⟨ob, k _ _ (.inl rfl) e⟩
  | xd fs => obtain ⟨mA, ⟨od, es, ep, e, c⟩, r⟩ := x; exact ⟨mA, ⟨od, es, ep, k _ _ (.inl rfl) e, c⟩, r⟩
  | rng lo hi => obtain ⟨t, u, v, e⟩ := x; exact ⟨t, u, v, k _ _ (.inl rfl) e⟩
  | frz ob u ih => obtain ⟨e, q⟩ := x; exact ⟨k _ _ (.inl rfl) e, ih q⟩
  | tbl ps =>
    have e : h.get? a = some { cls := .none, data := .fields ps } := x
    show h'.get? a = some { cls := .none, data := .fields ps }
    exact k a _ (.inl rfl) e
  | met f y =>
    have e : h.get? a = some (W.methodObj (.ref f) (.ref y)) := x
    show h'.get? a = some (W.methodObj (.ref f) (.ref y))
    exact k a _ (.inl rfl) e
  | ext φ => obtain ⟨p, ⟨o, e⟩, st⟩ := x; exact ⟨st _ _ p fun o q => k _ _ (.inl rfl) q, ⟨o, k _ _ (.inl rfl) e⟩, st⟩
theorem HOk.lt (x:HOk P w H h) (e:H a=some o):a<h.objs.size:=(x a o e).lt
theorem HOk.fresh (x:HOk P w H h) (e:h.objs.size≤a):H a=none:=by
 cases q:H a with
 | none=>rfl
 | some u=>exact absurd (Nat.lt_of_lt_of_le (x.lt q) e) (Nat.lt_irrefl _)
theorem HOk.kept (x:HOk P w H h) (k:∀ b u,h.get? b=some u→h'.get? b=some u):HOk P w H h':=fun a o e=>
 (x a o e).stay (fun b u _ q=>k b u q) (fun _ q=>q) fun _ _ q=>q
theorem HOk.laid (x:HOk P w H h) (k:∀ b u,h.get? b=some u→h'.get? b=some u) (hp:h.objs.size≤a) (new:aU P w (upd H a o) h' a o):HOk P w (upd H a o) h':=fun b u e=>by
 have hn:=x.fresh hp
 by_cases hb:b=a
 · subst hb;rw [ai] at e;cases e;exact new
 · rw [ao hb] at e
   exact (x b u e).stay (fun c v _ q=>k c v q) (fun c q=>by rw [ao (aw q hn)];exact q) fun c xs q=>by rw [ao (aw q hn)];exact q
end
def Rd (H:Hp) (a:Addr) (u:HO):Prop:=H a=some u∨∃ o,H a=some (.frz o u)
theorem Rd.ok {P:Program} {w:World} {H:Hp} {h:Heap} {a:Addr} {u:HO} (r:Rd H a u) (x:HOk P w H h):aU P w H h a u:=by
 rcases r with r | ⟨o,r⟩
 · exact x a u r
 · obtain ⟨_,q⟩:=x a _ r
   exact q
def Mut:Option HO→Prop
 | some (.lst _)=>True
 | some (.dK _)=>True
 | some (.dT _)=>True
 | some (.set _ _)=>True
 | some (.ins _ _ _)=>True
 | some (.ext _)=>True
 | _=>False
section
variable {P:Program} {w:World} {H:Hp} {h h':Heap} {x e:Addr} {o':HO}
theorem HOk.write (ok:HOk P w H h) (mu:Mut (H x)) (he:e=x∨H e=some (.own x)) (k:∀ b u,b≠e→h.get? b=some u→h'.get? b=some u) (heo:∃ u,h'.get? e=some u)
   (new:aU P w (upd H x o') h' x o'):HOk P w (upd H x o') h':=fun b u q=>by
 have nown:∀ c y,H c=some (.own y)→c≠x:=fun c y r z=>by subst z;rw [r] at mu;exact mu
 have ntup:∀ c xs,H c=some (.tup xs)→c≠x:=fun c xs r z=>by subst z;rw [r] at mu;exact mu
 by_cases hb:b=x
 · subst hb;rw [ai] at q;cases q;exact new
 · rw [ao hb] at q
   by_cases hbe:b=e
   · have q':H b=some (.own x):=by
       rcases he with z | z
       · exact absurd (hbe.trans z) hb
       · rw [hbe];exact z
     rw [q] at q';cases q'
     obtain ⟨v,hv⟩:=heo
     exact ⟨v,by rw [hbe];exact hv⟩
   · refine (ok b u q).stay (fun c v hc r=>k c v ?_ r) (fun c r=>by rw [ao (nown c b r)];exact r) fun c xs r=>by rw [ao (ntup c xs r)];exact r
     rcases hc with rfl | hc
     · exact hbe
     · rintro rfl
       rcases he with z | z
       · exact nown c b hc z
       · rw [hc] at z;cases z;exact hb rfl
end
structure Un (fs ex:List Addr) (H H':Hp) (h h':Heap):Prop where
 keep:∀ b o,h.get? b=some o→H b=none→b∉fs→b∉ex→h'.get? b=some o
 slot:∀ b o,h.get? b=some o→H b=none→b∈fs→b∉ex→∃ sl,h'.get? b=some { o with slots:=sl }
 free:∀ b o,h.get? b=some o→H b=none→b∉ex→H' b=none
 there:∀ b o,h.get? b=some o→b∉ex→∃ o',h'.get? b=some o'
 tups:∀ b xs,H b=some (.tup xs)→H' b=some (.tup xs)
 frzs:∀ b o u,H b=some (.frz o u)→H' b=some (.frz o u)
 tbls:∀ b ps,H b=some (.tbl ps)→∃ more,H' b=some (.tbl (ps++more))
section
variable {fs fs' ex ex':List Addr} {H H1 H2:Hp} {h h1 h2 h':Heap} {a x e:Addr} {o:HO}
theorem Un.any (u:Un fs ex H H1 h h1) {b:Addr} {ob:Obj} (q:h.get? b=some ob) (n:H b=none) (hx:b∉ex):∃ sl,h1.get? b=some { ob with slots:=sl }:=by
 by_cases hb:b∈fs
 · exact u.slot b ob q n hb hx
 · exact ⟨ob.slots,u.keep b ob q n hb hx⟩
theorem Un.trans (a:Un fs ex H H1 h h1) (b:Un fs ex H1 H2 h1 h2):Un fs ex H H2 h h2 where
 keep:=fun c ob q n hc hx=>b.keep c ob (a.keep c ob q n hc hx) (a.free c ob q n hx) hc hx
 slot:=fun c ob q n hc hx=>by
  obtain ⟨sl,e1⟩:=a.slot c ob q n hc hx
  obtain ⟨sl',e2⟩:=b.slot c _ e1 (a.free c ob q n hx) hc hx
  exact ⟨sl',e2⟩
 free:=fun c ob q n hx=>by
  obtain ⟨o',e1⟩:=a.there c ob q hx
  exact b.free c o' e1 (a.free c ob q n hx) hx
 there:=fun c ob q hx=>by
  obtain ⟨o',e1⟩:=a.there c ob q hx
  exact b.there c o' e1 hx
 tups:=fun c xs q=>b.tups c xs (a.tups c xs q)
 frzs:=fun c ob xs q=>b.frzs c ob xs (a.frzs c ob xs q)
 tbls:=fun c ps q=>by
  obtain ⟨m1,e1⟩:=a.tbls c ps q
  obtain ⟨m2,e2⟩:=b.tbls c _ e1
  exact ⟨m1++m2,by rw [e2,Array.append_assoc]⟩
theorem Un.kept (k:∀ b u,h.get? b=some u→h'.get? b=some u):Un fs ex H H h h':=
 ⟨fun b ob q _ _ _=>k b ob q,fun b ob q _ _ _=>⟨ob.slots,k b ob q⟩,fun _ _ _ n _=>n,fun b ob q _=>⟨ob,k b ob q⟩,fun _ _ q=>q,fun _ _ _ q=>q,fun _ ps q=>⟨#[],by rw [q];simp⟩⟩
theorem Un.refl:Un fs ex H H h h:=Un.kept fun _ _ q=>q
theorem Un.laid (k:∀ b u,h.get? b=some u→h'.get? b=some u) (hp:h.objs.size≤a) (hn:H a=none):Un fs ex H (upd H a o) h h' where
 keep:=fun b u q _ _ _=>k b u q
 slot:=fun b u q _ _ _=>⟨u.slots,k b u q⟩
 free:=fun b u q n _=>by rw [ao (Nat.ne_of_lt (Nat.lt_of_lt_of_le (Heap.lt_size q) hp))];exact n
 there:=fun b u q _=>⟨u,k b u q⟩
 tups:=fun b xs q=>by rw [ao (aw q hn)];exact q
 frzs:=fun b u xs q=>by rw [ao (aw q hn)];exact q
 tbls:=fun b ps q=>⟨#[],by rw [ao (aw q hn),q];simp⟩
theorem Un.write (mu:Mut (H x)) (he:e=x∨H e=some (.own x)) (k:∀ b u,b≠e→h.get? b=some u→h'.get? b=some u) (heo:∃ u,h'.get? e=some u):Un fs ex H (upd H x o) h h':=by
 have hx:∀ b,H b=none→b≠x:=fun b n z=>by subst z;rw [n] at mu;exact mu
 have hb:∀ b,H b=none→b≠e:=fun b n z=>by
   subst z
   rcases he with r | r
   · exact hx b n r
   · rw [n] at r;cases r
 have hm:∀ b u,H b=some u→¬ Mut (some u)→b≠x:=fun b u q nm z=>by subst z;rw [q] at mu;exact nm mu
 refine ⟨fun b u q n _ _=>k b u (hb b n) q,fun b u q n _ _=>⟨u.slots,k b u (hb b n) q⟩,fun b u q n _=>by rw [ao (hx b n)];exact n,fun b u q _=>?_,
   fun b xs q=>by rw [ao (hm b _ q fun z=>z)];exact q,fun b u xs q=>by rw [ao (hm b _ q fun z=>z)];exact q,fun b ps q=>⟨#[],by rw [ao (hm b _ q fun z=>z),q];simp⟩⟩
 by_cases hbe:b=e
 · subst hbe;exact heo
 · exact ⟨u,k b u hbe q⟩
end
def trk (h:Heap) (H:Hp):List Addr:=(List.range h.objs.size).filter fun a=>(H a).isSome
def gl (h:Heap) (H:Hp):Heap:=W.hideAll h (trk h H)
theorem uU (h:Heap) (H:Hp):(gl h H).objs.size=h.objs.size:=W.hideAll_size _ _
theorem xc {h:Heap} {H:Hp} {b:Addr} {o:Obj} (e:h.get? b=some o) (n:H b=none):(gl h H).get? b=some o:=
 W.hideAll_get _ e fun hm=>by
  have q:(H b).isSome=true:=(List.mem_filter.mp hm).2
  rw [n] at q;simp at q
theorem zn {h : Heap} {H : Hp} {b : Addr} {o : Obj} (e : (gl h H).get? b = some o) : h.get? b = some o ∧ H b = none := by
  have e' : h.get? b = some o := W.of_hideAll (trk h H) e
  refine ⟨e', ?_⟩
  cases q : H b with
  | none => rfl
  | some x =>
    have hm : b ∈ trk h H := List.mem_filter.mpr ⟨List.mem_range.mpr (Heap.lt_size e'), by simp [q]⟩
    have z : (gl h H).get? b = none := W.hideAll_none (trk h H) hm
    rw [z] at e; cases e
def zK (g h:Heap) (L:Addr):List (Addr×Obj):=(List.range h.objs.size).filterMap fun a=>if a=L∨(g.get? a).isSome=true then none else (h.get? a).map fun o=>(a,o)
def bK (g h:Heap) (L d:Addr):List (Addr×Obj):=(zK g h L).filter fun p=>decide (p.1≠d)
structure Mod (K:W.Frag) (mg:Str→Option Value) (base:Heap):Prop where
 kin:K.In base
 glob:base.Ns mainGlobals mg
 blt:∃ mb,base.Ns builtinsNs mb∧∀ x:Str,x≠ "__name__" →mb x=bootBuiltins x
 nolimit:base.NoLimit
set_option genInjectivity false in
set_option genSizeOf false in
structure Cx where
 prog:Program
 w:World
 K:W.Frag
 mg:Str→Option Value
 base:Heap
 A:Around
 N:List Str
 s₀:Shared
 H₀:Hp
 env:Env
 outer:List Env
 stack:List Env
 ex:List Addr
 fn:Str→Bool
 calm:Bool
 pn:List (Addr×Obj)
 xe:Value→Shared→Prop
def frs (l:List Env):List Addr:=l.filterMap (·.frame)
abbrev Cx.fs (X:Cx):List Addr:=frs X.outer
def Vis (sc:Scope) (x:Str):Prop:=sc.names.lookup x=some .local∨sc.names.lookup x=some .cell∨sc.names.lookup x=some .free
def Loc (sc:Scope) (x:Str):Prop:=sc.names.lookup x=some .local∨sc.names.lookup x=some .cell
def BX (env:Env) (h:Heap) (m:Str→Option Value) (x:Str) (u:Value):Prop:=
 (env.kindOf x=some .local∧m x=some u)∨((env.kindOf x=some .cell∨env.kindOf x=some .free)∧∃ c,env.cells.lookup x=some c∧h.IsCell c (some u))
set_option genInjectivity false in
set_option genSizeOf false in
structure Cx.Ok (X:Cx):Prop where
 mod:Mod X.K X.mg X.base
 kind:X.env.scope.kind=.function
 glob:X.env.globals=mainGlobals
 blt:X.env.builtins=builtinsNs
 above:X.s₀.heap.objs.size≤X.env.locals
 inj:∀ x y c,X.env.cells.lookup x=some c→X.env.cells.lookup y=some c→x=y
 has:∀ x,(X.env.kindOf x=some .cell∨X.env.kindOf x=some .free)→∃ c,X.env.cells.lookup x=some c
 cab:∀ x c,X.fn x=true→X.env.cells.lookup x=some c→X.s₀.heap.objs.size≤c
 hd:X.calm=true→X.A.handled=none
 frames:X.A.frames=some X.stack
 stk:X.stack=X.outer∨(X.stack=X.env::X.outer∧X.env.frame=some X.env.locals)
 exf:∀ b∈X.ex,b≠X.env.locals∧∀ x c,X.env.cells.lookup x=some c→c≠b
 bs:∀ b o,X.base.get? b=some o→X.s₀.heap.get? b=some o∧X.H₀ b=none
 bsz:X.base.objs.size≤X.s₀.heap.objs.size
 noex:∀ b o,X.base.get? b=some o→b∉X.ex
 exfs:∀ b∈X.ex,b∉X.fs
 funs:X.s₀.heap.FunFrames X.base X.outer
 frf:∀ b∈X.fs,X.H₀ b=none
structure Inv (X:Cx) (pins:List (Addr×Obj)) (σ:List (Option V)) (H:Hp) (s:Shared):Prop where
 ok:X.Ok
 os:s.os=X.s₀.os
 bare:AllBare s.gens
 base:Un X.fs X.ex X.H₀ H X.s₀.heap s.heap
 loc:∃ m,s.heap.Ns X.env.locals m∧∀ (i:Nat) (x:Str) (v:V),X.N[i]?=some x→σ[i]?=some (some v)→Vis X.env.scope x→∃ u,aS v u∧BX X.env s.heap m x u
 cell:∀ x c,X.env.cells.lookup x=some c→∃ v,s.heap.IsCell c v
 free:H X.env.locals=none
 freeC:∀ x c,X.env.cells.lookup x=some c→H c=none
 pin:∀ p∈X.pn++pins,s.heap.get? p.1=some p.2∧H p.1=none∧p.1≠X.env.locals∧p.1∉X.fs∧∀ v,p.2.data≠ .cell v
 hok:HOk X.prog X.w H s.heap
 len:σ.length=X.N.length
section
variable {X:Cx} {pins:List (Addr×Obj)} {σ:List (Option V)} {H H':Hp} {s:Shared} {h':Heap}
theorem Cx.Ok.nofr (ok:X.Ok) {b:Addr} {o:Obj} (e:X.base.get? b=some o):b∉X.fs:=fun hb=>by
 have:=(ok.funs.mem hb).1
 rw [e] at this;cases this
theorem Inv.bs (I:Inv X pins σ H s):∀ b o,X.base.get? b=some o→s.heap.get? b=some o∧H b=none:=fun b o e=>
 ⟨I.base.keep b o (I.ok.bs b o e).1 (I.ok.bs b o e).2 (I.ok.nofr e) (I.ok.noex b o e),I.base.free b o (I.ok.bs b o e).1 (I.ok.bs b o e).2 (I.ok.noex b o e)⟩
theorem Inv.bk (I:Inv X pins σ H s):∀ b o,X.base.get? b=some o→s.heap.get? b=some o:=fun b o e=>(I.bs b o e).1
theorem Inv.mod (I:Inv X pins σ H s):Mod X.K X.mg X.base:=I.ok.mod
theorem Inv.kIn (I:Inv X pins σ H s):X.K.In s.heap:=I.ok.mod.kin.keeps I.bk
theorem Inv.lt (I:Inv X pins σ H s):X.env.locals<s.heap.objs.size:=let ⟨_,hn,_⟩:=I.loc;hn.lt
theorem Inv.sz (I:Inv X pins σ H s):X.s₀.heap.objs.size≤s.heap.objs.size:=Nat.le_trans I.ok.above (Nat.le_of_lt I.lt)
theorem Inv.nofs (I:Inv X pins σ H s) {a:Addr} (h:s.heap.objs.size≤a):a∉X.fs:=fun hb=>by
 obtain ⟨_,o,ho,_⟩:=I.ok.funs.mem hb
 exact absurd (Nat.lt_of_lt_of_le (Heap.lt_size ho) (Nat.le_trans I.sz h)) (Nat.lt_irrefl _)
theorem Inv.cne (I:Inv X pins σ H s):∀ x c,X.env.cells.lookup x=some c→c≠X.env.locals:=fun x c e z=>by
 obtain ⟨v,o,ho,hd⟩:=I.cell x c e
 obtain ⟨m,⟨o',es,ep,ho',hd',_⟩,_⟩:=I.loc
 rw [z,ho'] at ho;cases ho;rw [hd'] at hd;cases hd
theorem Inv.funs (I : Inv X pins σ H s) : s.heap.FunFrames X.base X.outer := by
  have all : ∀ (l : List Env), (∀ b ∈ frs l, b ∈ X.fs) → X.s₀.heap.FunFrames X.base l → s.heap.FunFrames X.base l := by
    intro l
    induction l with
    | nil => intro _ _; trivial
    | cons env r ih =>
      intro hs hl
      obtain ⟨hk, ⟨L, o, hf, hn, ho, hd⟩, hr⟩ := hl
      have hL : L ∈ X.fs := hs L (by unfold frs; rw [List.filterMap_cons, hf]; exact List.mem_cons_self)
      obtain ⟨sl, e⟩ := I.base.slot L o ho (I.ok.frf L hL) hL fun z => I.ok.exfs L z hL
      exact ⟨hk, ⟨L, _, hf, hn, e, hd⟩, ih (fun b hb => hs b (by unfold frs; rw [List.filterMap_cons, hf]; exact List.mem_cons_of_mem _ hb)) hr⟩
  exact all X.outer (fun _ hb => hb) I.ok.funs
theorem Inv.stack (I:Inv X pins σ H s):s.heap.FunFrames X.base X.stack:=by
 rcases I.ok.stk with e | ⟨e,hf⟩
 · rw [e];exact I.funs
 · rw [e]
   obtain ⟨m,hn,_⟩:=I.loc
   refine .cons (by rw [I.ok.kind];decide) hf hn ?_ I.funs
   exact Heap.get?_none_of_le (Nat.le_trans I.ok.bsz I.ok.above)
theorem Inv.stkSub (I:Inv X pins σ H s):∀ b∈frs X.stack,b∈X.env.locals::X.fs:=fun b hb=>by
 rcases I.ok.stk with e | ⟨e,hf⟩
 · rw [e] at hb;exact List.mem_cons_of_mem _ hb
 · rw [e] at hb
   unfold frs at hb
   rw [List.filterMap_cons,hf] at hb
   exact hb
theorem Inv.stkFree (I:Inv X pins σ H s):∀ b∈frs X.stack,H b=none:=fun b hb=>by
 rcases List.mem_cons.mp (I.stkSub b hb) with e | hb
 · rw [e];exact I.free
 · obtain ⟨_,o,ho,_⟩:=I.ok.funs.mem hb
   exact I.base.free b o ho (I.ok.frf b hb) fun z=>I.ok.exfs b z hb
theorem Inv.step {g':Array GenState} {t':Nat} {d':Drawn} {ch:List Addr} (I:Inv X pins σ H s)
   (hch:∀ b∈ch,(b∈X.ex∨X.s₀.heap.objs.size≤b)∧b≠X.env.locals∧(∀ x c,X.env.cells.lookup x=some c→c≠b)∧∀ p∈X.pn++pins,p.1≠b)
   (keep:∀ b o,b≠X.env.locals→b∉X.fs→b∉ch→s.heap.get? b=some o→H b=none→h'.get? b=some o)
   (slot:∀ b o,b≠X.env.locals→b∈X.fs→b∉ch→s.heap.get? b=some o→H b=none→∃ sl,h'.get? b=some { o with slots:=sl }) (free:∀ b o,b∉ch→s.heap.get? b=some o→H b=none→H' b=none)
   (there:∀ b o,b∉ch→s.heap.get? b=some o→∃ o',h'.get? b=some o')
   (tups:∀ b xs,H b=some (.tup xs)→H' b=some (.tup xs)) (frzs:∀ b o u,H b=some (.frz o u)→H' b=some (.frz o u)) (tbls:∀ b ps,H b=some (.tbl ps)→∃ more,H' b=some (.tbl (ps++more)))
   (ns:∀ m,s.heap.Ns X.env.locals m→h'.Ns X.env.locals m) (hok:HOk X.prog X.w H' h') (hg:AllBare g'):
   Inv X pins σ H' { s with heap:=h',gens:=g',drawn:=d',toks:=t' }:=by
 have neL:∀ b o,X.s₀.heap.get? b=some o→b≠X.env.locals:=fun b o e=>Nat.ne_of_lt (Nat.lt_of_lt_of_le (Heap.lt_size e) I.ok.above)
 have neC:∀ b o,X.s₀.heap.get? b=some o→b∉X.ex→b∉ch:=fun b o e hx hb=>by
   rcases (hch b hb).1 with z | z
   · exact hx z
   · exact absurd (Nat.lt_of_lt_of_le (Heap.lt_size e) z) (Nat.lt_irrefl _)
 have cellK:∀ x c,X.env.cells.lookup x=some c→∀ v,s.heap.IsCell c v→h'.IsCell c v:=fun x c e v ⟨o,ho,hd⟩=>by
   have nch:c∉ch:=fun z=>(hch c z).2.2.1 x c e rfl
   by_cases hc:c∈X.fs
   · obtain ⟨sl,q⟩:=slot c o (I.cne x c e) hc nch ho (I.freeC x c e)
     exact ⟨_,q,hd⟩
   · exact ⟨o,keep c o (I.cne x c e) hc nch ho (I.freeC x c e),hd⟩
 refine ⟨I.ok,I.os,hg,⟨fun b o e n hb hx=>?_,fun b o e n hb hx=>?_,fun b o e n hx=>?_,fun b o e hx=>?_,fun b xs e=>tups b xs (I.base.tups b xs e),fun b o xs e=>frzs b o xs (I.base.frzs b o xs e),fun b ps e=>?_⟩,?_,fun x c e=>?_,?_,fun x c e=>?_,fun p hp=>?_,hok,I.len⟩
 · exact keep b o (neL b o e) hb (neC b o e hx) (I.base.keep b o e n hb hx) (I.base.free b o e n hx)
 · obtain ⟨sl,e1⟩:=I.base.slot b o e n hb hx
   obtain ⟨sl',e2⟩:=slot b _ (neL b o e) hb (neC b o e hx) e1 (I.base.free b o e n hx)
   exact ⟨sl',e2⟩
 · obtain ⟨o',e1⟩:=I.base.there b o e hx
   exact free b o' (neC b o e hx) e1 (I.base.free b o e n hx)
 · obtain ⟨o',e1⟩:=I.base.there b o e hx
   exact there b o' (neC b o e hx) e1
 · obtain ⟨m1,e1⟩:=I.base.tbls b ps e
   obtain ⟨m2,e2⟩:=tbls b _ e1
   exact ⟨m1++m2,by rw [e2,Array.append_assoc]⟩
 · obtain ⟨m,hn,hl⟩:=I.loc
   refine ⟨m,ns m hn,fun i x v e1 e2 e3=>?_⟩
   obtain ⟨u,r,l⟩:=hl i x v e1 e2 e3
   refine ⟨u,r,?_⟩
   rcases l with l | ⟨k,c,e,z⟩
   · exact .inl l
   · exact .inr ⟨k,c,e,cellK x c e _ z⟩
 · obtain ⟨v,z⟩:=I.cell x c e
   exact ⟨v,cellK x c e v z⟩
 · obtain ⟨m,⟨o,_,_,ho,_⟩,_⟩:=I.loc
   exact free _ o (fun z=>(hch _ z).2.1 rfl) ho I.free
 · obtain ⟨v,o,ho,hd⟩:=I.cell x c e
   exact free c o (fun z=>(hch c z).2.2.1 x c e rfl) ho (I.freeC x c e)
 · obtain ⟨e,n,ne,nf,d⟩:=I.pin p hp
   have nch:p.1∉ch:=fun z=>(hch p.1 z).2.2.2 p hp rfl
   exact ⟨keep p.1 p.2 ne nf nch e n,free p.1 p.2 nch e n,ne,nf,d⟩
theorem Inv.un {t':Nat} (I:Inv X pins σ H s) (u:Un X.fs [] H H' s.heap h') (hok:HOk X.prog X.w H' h'):Inv X pins σ H' { s with heap:=h',toks:=t' }:=by
 obtain ⟨m,⟨o,es,ep,ho,r⟩,_⟩:=id I.loc
 obtain ⟨sl,hL⟩:=u.any ho I.free (by simp)
 exact I.step (g':=s.gens) (d':=s.drawn) (ch:=[]) (fun _ z=>nomatch z) (fun b o _ hb _ e n=>u.keep b o e n hb (by simp)) (fun b o _ hb _ e n=>u.slot b o e n hb (by simp)) (fun b o _ e n=>u.free b o e n (by simp)) (fun b o _ e=>u.there b o e (by simp)) u.tups u.frzs u.tbls (fun m' hm=>by
  obtain ⟨o',es',ep',ho',r'⟩:=hm
  rw [ho] at ho';cases ho'
  exact ⟨_,es',ep',hL,r'⟩) hok I.bare
theorem Inv.call {g':Array GenState} {t':Nat} {d':Drawn} {ch:List Addr} (I:Inv X pins σ H s) (u:Un (frs X.stack) ch H H' s.heap h') (hok:HOk X.prog X.w H' h') (hg:AllBare g')
  (hch:∀ b∈ch,(b∈X.ex∨X.s₀.heap.objs.size≤b)∧b≠X.env.locals∧(∀ x c,X.env.cells.lookup x=some c→c≠b)∧∀ p∈X.pn++pins,p.1≠b):
  Inv X pins σ H' { s with heap:=h',gens:=g',drawn:=d',toks:=t' }:=by
 obtain ⟨m,⟨o,es,ep,ho,r⟩,_⟩:=id I.loc
 obtain ⟨sl,hL⟩:=u.any ho I.free fun z=>(hch _ z).2.1 rfl
 exact I.step (ch:=ch) hch (fun b o hL hb hc e n=>u.keep b o e n (fun z=>(List.mem_cons.mp (I.stkSub b z)).elim hL hb) hc) (fun b o _ _ hc e n=>u.any e n hc) (fun b o hc e n=>u.free b o e n hc) (fun b o hc e=>u.there b o e hc) u.tups u.frzs u.tbls (fun m' hm=>by
  obtain ⟨o',es',ep',ho',r'⟩:=hm
  rw [ho] at ho';cases ho'
  exact ⟨_,es',ep',hL,r'⟩) hok hg
theorem Inv.turned {t':Nat} {it:Addr} (I:Inv X pins σ H s) (k:∀ b o,b≠it→s.heap.get? b=some o→h'.get? b=some o) (hn:H it=none) (hL:it≠X.env.locals)
   (h1:it∈X.ex∨X.s₀.heap.objs.size≤it) (h2:∀ x c,X.env.cells.lookup x=some c→c≠it) (h3:∀ p∈X.pn++pins,p.1≠it):Inv X pins σ H { s with heap:=h',toks:=t' }:=by
 have nit:∀ b u,H b=some u→b≠it:=fun b u e z=>by rw [z,hn] at e;cases e
 refine I.step (g':=s.gens) (d':=s.drawn) (ch:=[it]) (fun b hb=>?_) (fun b o _ _ hc e _=>k b o (fun z=>hc (by simp [z])) e) (fun b o _ _ hc e _=>⟨o.slots,k b o (fun z=>hc (by simp [z])) e⟩) (fun _ _ _ _ n=>n)
   (fun b o hc e=>⟨o,k b o (fun z=>hc (by simp [z])) e⟩) (fun _ _ e=>e) (fun _ _ _ e=>e) (fun b ps e=>⟨#[],by rw [e];simp⟩) (fun m hm=>?_) (fun b u e=>?_) I.bare
 · have e:b=it:=by simpa using hb
   subst e
   exact ⟨h1,hL,h2,h3⟩
 · obtain ⟨o,es,ep,ho,r⟩:=hm
   exact ⟨o,es,ep,k _ o (Ne.symm hL) ho,r⟩
 · refine (I.hok b u e).stay (fun c v hc q=>k c v ?_ q) (fun _ q=>q) fun _ _ q=>q
   rcases hc with z | z
   · rw [z];exact nit b u e
   · exact nit c _ z
theorem Inv.tok (I:Inv X pins σ H s) (t:Nat):Inv X pins σ H { s with toks:=t }:=I.un (h':=s.heap) (t':=t) Un.refl I.hok
theorem Inv.kept {t':Nat} (I:Inv X pins σ H s) (k:∀ b u,s.heap.get? b=some u→h'.get? b=some u):Inv X pins σ H { s with heap:=h',toks:=t' }:=I.un (Un.kept k) (I.hok.kept k)
theorem Inv.laid {a:Addr} {o:HO} {t':Nat} (I:Inv X pins σ H s) (k:∀ b u,s.heap.get? b=some u→h'.get? b=some u) (hp:s.heap.objs.size≤a) (new:aU X.prog X.w (upd H a o) h' a o):
 Inv X pins σ (upd H a o) { s with heap:=h',toks:=t' }:=I.un (Un.laid k hp (I.hok.fresh hp)) (I.hok.laid k hp new)
theorem Inv.write {x e:Addr} {o:HO} {t':Nat} (I:Inv X pins σ H s) (mu:Mut (H x)) (he:e=x∨H e=some (.own x)) (k:∀ b u,b≠e→s.heap.get? b=some u→h'.get? b=some u) (heo:∃ u,h'.get? e=some u)
 (new:aU X.prog X.w (upd H x o) h' x o):Inv X pins σ (upd H x o) { s with heap:=h',toks:=t' }:=I.un (Un.write mu he k heo) (I.hok.write mu he k heo new)
theorem Inv.pins_of {pins':List (Addr×Obj)} (I:Inv X pins σ H s) (h:∀ p∈pins',s.heap.get? p.1=some p.2∧H p.1=none∧p.1≠X.env.locals∧p.1∉X.fs∧∀ v,p.2.data≠ .cell v):Inv X pins' σ H s:=
 ⟨I.ok,I.os,I.bare,I.base,I.loc,I.cell,I.free,I.freeC,fun p hp=>(List.mem_append.mp hp).elim (fun z=>I.pin p (List.mem_append_left _ z)) (h p),I.hok,I.len⟩
theorem ky {N:List Str} (hN:N.Nodup) {i j:Nat} {x:Str} (a:N[i]?=some x) (b:N[j]?=some x):i=j:=by
 obtain ⟨h1,e1⟩:=List.getElem?_eq_some_iff.mp a
 obtain ⟨h2,e2⟩:=List.getElem?_eq_some_iff.mp b
 exact (List.getElem_inj hN).mp (e1.trans e2.symm)
theorem mV {M:Model} {A:Around} {E:Value→Shared→Prop} {i:Nat} {x:Str} {v:V} {u:Value} {Q:Unit→Shared→Prop} (I:Inv X pins σ H s) (hN:X.N.Nodup) (hi:X.N[i]?=some x) (hx:Loc X.env.scope x) (r:aS v u)
   (h:∀ s',Inv X pins (σ.set i (some v)) H s'→(∃ a,Heap.SameBut a s.heap s'.heap∧(a=X.env.locals∨X.env.cells.lookup x=some a))→Q () s') (hf:X.fn x=true∨X.env.scope.names.lookup x=some .local:=by first | exact .inl rfl | exact .inr rfl | assumption):wpAny M A (storeName X.env x u) Q E s:=by
 obtain ⟨m,hn,hl⟩:=id I.loc
 have hcls:(X.env.scope.kind==.class||(X.env.scope.kind==.module&&X.env.locals !=X.env.globals))=false:=by rw [I.ok.kind];rfl
 have hiσ:i<σ.length:=by rw [I.len];exact (List.getElem?_eq_some_iff.mp hi).1
 have cne:=I.cne
 have tracked:∀ {a:Addr} {h':Heap},(∃ o,s.heap.get? a=some o∧H a=none)→Heap.SameBut a s.heap h'→HOk X.prog X.w H h':=fun {a h'} ha hs b ob e=>by
   obtain ⟨_,_,hfree⟩:=ha
   refine (I.hok b ob e).stay (fun c w' hc q=>(hs.2 c ?_).trans q) (fun _ q=>q) fun _ _ q=>q
   rintro rfl
   rcases hc with rfl | hc
   · rw [hfree] at e;cases e
   · rw [hfree] at hc;cases hc
 rcases hx with hk | hk
 · refine wpAny_storeName_local hk hn (fun h' hn' hs=>?_) hcls
   obtain ⟨oL,_,_,hoL,_⟩:=id hn
   refine h _ ⟨I.ok,I.os,I.bare,⟨fun b o e n hb hx=>?_,fun b o e n hb hx=>?_,I.base.free,fun b o e hx=>?_,I.base.tups,I.base.frzs,I.base.tbls⟩,⟨_,hn',fun j y v' e1 e2 e3=>?_⟩,fun y c e=>?_,I.free,I.freeC,fun p hp=>?_,tracked ⟨oL,hoL,I.free⟩ hs,by simpa using I.len⟩ ⟨_,hs,.inl rfl⟩
   · exact (hs.2 b (Nat.ne_of_lt (Nat.lt_of_lt_of_le (Heap.lt_size e) I.ok.above))).trans (I.base.keep b o e n hb hx)
   · obtain ⟨sl,e1⟩:=I.base.slot b o e n hb hx
     exact ⟨sl,(hs.2 b (Nat.ne_of_lt (Nat.lt_of_lt_of_le (Heap.lt_size e) I.ok.above))).trans e1⟩
   · obtain ⟨o',e1⟩:=I.base.there b o e hx
     exact ⟨o',(hs.2 b (Nat.ne_of_lt (Nat.lt_of_lt_of_le (Heap.lt_size e) I.ok.above))).trans e1⟩
   · by_cases hj:j=i
     · subst hj
       rw [hi] at e1;cases e1
       rw [List.getElem?_set_self hiσ] at e2
       cases e2
       exact ⟨u,r,.inl ⟨hk,by simp⟩⟩
     · rw [List.getElem?_set_ne (Ne.symm hj)] at e2
       obtain ⟨u',r',q⟩:=hl j y v' e1 e2 e3
       refine ⟨u',r',?_⟩
       rcases q with ⟨k,e⟩ | ⟨k,c,e,z⟩
       · refine .inl ⟨k,?_⟩
         have:y≠x:=fun e=>hj (ky hN e1 (e▸hi))
         simp [this,e]
       · exact .inr ⟨k,c,e,z.sameBut hs (cne y c e)⟩
   · obtain ⟨w',z⟩:=I.cell y c e
     exact ⟨w',z.sameBut hs (cne y c e)⟩
   · obtain ⟨e,n,ne,nf,d⟩:=I.pin p hp
     exact ⟨(hs.2 p.1 ne).trans e,n,ne,nf,d⟩
 · have hfn:X.fn x=true:=by
     rcases hf with z | z
     · exact z
     · rw [z] at hk;cases hk
   obtain ⟨c,hc⟩:=I.ok.has x (.inl hk)
   obtain ⟨w',z⟩:=I.cell x c hc
   refine wpAny_storeName_cell I.ok.kind hk hc z (fun h' hc' hs=>?_)
   obtain ⟨oc,hoc,hocd⟩:=id z
   refine h { s with heap:=h' } ⟨I.ok,I.os,I.bare,⟨fun b o e n hb hx=>?_,fun b o e n hb hx=>?_,I.base.free,fun b o e hx=>?_,I.base.tups,I.base.frzs,I.base.tbls⟩,⟨m,hn.sameBut hs (Ne.symm (cne x c hc)),fun j y v' e1 e2 e3=>?_⟩,fun y c' e=>?_,I.free,I.freeC,fun p hp=>?_,tracked ⟨oc,hoc,I.freeC x c hc⟩ hs,by simpa using I.len⟩ ⟨c,hs,.inr hc⟩
   · exact (hs.2 b (Nat.ne_of_lt (Nat.lt_of_lt_of_le (Heap.lt_size e) (I.ok.cab x c hfn hc)))).trans (I.base.keep b o e n hb hx)
   · obtain ⟨sl,e1⟩:=I.base.slot b o e n hb hx
     exact ⟨sl,(hs.2 b (Nat.ne_of_lt (Nat.lt_of_lt_of_le (Heap.lt_size e) (I.ok.cab x c hfn hc)))).trans e1⟩
   · obtain ⟨o',e1⟩:=I.base.there b o e hx
     exact ⟨o',(hs.2 b (Nat.ne_of_lt (Nat.lt_of_lt_of_le (Heap.lt_size e) (I.ok.cab x c hfn hc)))).trans e1⟩
   · by_cases hj:j=i
     · subst hj
       rw [hi] at e1;cases e1
       rw [List.getElem?_set_self hiσ] at e2
       cases e2
       exact ⟨u,r,.inr ⟨.inl hk,c,hc,hc'⟩⟩
     · rw [List.getElem?_set_ne (Ne.symm hj)] at e2
       obtain ⟨u',r',q⟩:=hl j y v' e1 e2 e3
       refine ⟨u',r',?_⟩
       rcases q with q | ⟨k,c',e,z'⟩
       · exact .inl q
       · refine .inr ⟨k,c',e,z'.sameBut hs ?_⟩
         rintro rfl
         exact hj (ky hN e1 (I.ok.inj _ _ _ e hc▸hi))
   · by_cases hcc:c'=c
     · subst hcc;exact ⟨_,hc'⟩
     · obtain ⟨w2,z2⟩:=I.cell y c' e
       exact ⟨w2,z2.sameBut hs hcc⟩
   · obtain ⟨e,n,ne,nf,d⟩:=I.pin p hp
     refine ⟨(hs.2 p.1 ?_).trans e,n,ne,nf,d⟩
     intro q
     rw [q,hoc] at e
     have q':oc=p.2:=Option.some.inj e
     exact d w' (by rw [← q'];exact hocd)
theorem eZ {M:Model} {A:Around} {E:Value→Shared→Prop} {i:Nat} {x:Str} {v:V} {u:Value} {Q:Unit→Shared→Prop} (I:Inv X pins σ H s) (hN:X.N.Nodup) (hi:X.N[i]?=some x) (hx:Loc X.env.scope x) (r:aS v u)
  (h:∀ s',Inv X pins (σ.set i (some v)) H s'→Q () s') (hf:X.fn x=true∨X.env.scope.names.lookup x=some .local:=by first | exact .inl rfl | exact .inr rfl | assumption):wpAny M A (storeName X.env x u) Q E s:=
 mV I hN hi hx r (fun s' I' _=>h s' I') hf
theorem Inv.call' {s':Shared} {ch:List Addr} (I:Inv X pins σ H s) (ho:s'.os=s.os) (u:Un (frs X.stack) ch H H' s.heap s'.heap) (hok:HOk X.prog X.w H' s'.heap) (hg:AllBare s'.gens)
  (hch:∀ b∈ch,(b∈X.ex∨X.s₀.heap.objs.size≤b)∧b≠X.env.locals∧(∀ x c,X.env.cells.lookup x=some c→c≠b)∧∀ p∈X.pn++pins,p.1≠b):Inv X pins σ H' s':=by
 obtain ⟨h',g',d',t',o'⟩:=s'
 have e:o'=s.os:=ho
 subst e
 exact I.call (g':=g') (t':=t') (d':=d') u hok hg hch
end
abbrev XK:=Value→Option Addr→Hp→Prop
abbrev St:=List (Option V)
abbrev VK:=V→Hp→Prop
abbrev TE:=St→Hp→VK→Prop
abbrev TT:=St→Hp→(Bool→Hp→Prop)→Prop
abbrev TA:=St→Hp→(List V→Hp→Prop)→Prop
structure dU where
 nx:St→Hp→Prop
 rt:VK
 bk:St→Hp→Prop:=fun _ _=>False
 ct:St→Hp→Prop:=fun _ _=>False
abbrev TS:=dU→St→Hp→Prop
def EP (X:Cx) (pins:List (Addr×Obj)) (σ:St) (Q:VK) (u:Value) (s':Shared):Prop:=∃ v H',Inv X pins σ H' s'∧aS v u∧Q v H'
def TP (X:Cx) (pins:List (Addr×Obj)) (σ:St) (Q:Bool→Hp→Prop) (b:Bool) (s':Shared):Prop:=∃ H',Inv X pins σ H' s'∧Q b H'
def AP (X:Cx) (pins:List (Addr×Obj)) (σ:St) (Q:List V→Hp→Prop) (us:List Value) (s':Shared):Prop:=∃ vs H',Inv X pins σ H' s'∧aR vs us∧Q vs H'
def SP (X:Cx) (pins:List (Addr×Obj)) (D:dU) (f:Flow) (s':Shared):Prop:=
 match f with
 | .next=>∃ σ' H',Inv X pins σ' H' s'∧D.nx σ' H'
 | .brk=>∃ σ' H',Inv X pins σ' H' s'∧D.bk σ' H'
 | .cont=>∃ σ' H',Inv X pins σ' H' s'∧D.ct σ' H'
 | .ret u=>∃ v σ' H',Inv X pins σ' H' s'∧aS v u∧D.rt v H'
def PE (X:Cx) (e:Expr) (t:TE):Prop:=
 ∀ (pins:List (Addr×Obj)) (s:Shared) (σ:St) (H:Hp) (Q:VK),Inv X pins σ H s→t σ H Q→wpAny (model X.prog X.w) X.A (eval e X.env) (EP X pins σ Q) X.xe s
def PT (X:Cx) (e:Expr) (t:TT):Prop:=
 ∀ (pins:List (Addr×Obj)) (s:Shared) (σ:St) (H:Hp) (Q:Bool→Hp→Prop),Inv X pins σ H s→t σ H Q→wpAny (model X.prog X.w) X.A (isTrue e X.env (eval e X.env)) (TP X pins σ Q) X.xe s
def PW (X:Cx) (e:Expr) (t:TT):Prop:=
 ∀ (whole:Sem Value) (pins:List (Addr×Obj)) (s:Shared) (σ:St) (H:Hp) (Q:Bool→Hp→Prop),Inv X pins σ H s→t σ H Q→wpAny (model X.prog X.w) X.A (isTrue e X.env whole) (TP X pins σ Q) X.xe s
theorem PW.pt {X:Cx} {e:Expr} {t:TT} (h:PW X e t):PT X e t:=h _
def PA (X:Cx) (es:List Expr) (t:TA):Prop:=
 ∀ (pos:Pos) (pins:List (Addr×Obj)) (s:Shared) (σ:St) (H:Hp) (Q:List V→Hp→Prop),Inv X pins σ H s→t σ H Q→wpAny (model X.prog X.w) X.A (spliced (backTo pos (starEach es X.env))) (AP X pins σ Q) X.xe s
def PS (X:Cx) (st:Stmt) (t:TS):Prop:=
 ∀ (pins:List (Addr×Obj)) (s:Shared) (σ:St) (H:Hp) (D:dU),Inv X pins σ H s→t D σ H→wpAny (model X.prog X.w) X.A (exec st X.env) (SP X pins D) X.xe s
def PSs (X:Cx) (st:List Stmt) (t:TS):Prop:=
 ∀ (pins:List (Addr×Obj)) (s:Shared) (σ:St) (H:Hp) (D:dU),Inv X pins σ H s→t D σ H→wpAny (model X.prog X.w) X.A (execs st X.env) (SP X pins D) X.xe s
theorem thn {α:Type} {t:Sem α} {Q Q':α→Shared→Prop} {M:Model} {A:Around} {E:Value→Shared→Prop} {s:Shared} (h:wpAny M A t Q E s) (hQ:∀ a s,Q a s→Q' a s):wpAny M A t Q' E s:=wpAny_mono h hQ fun _ _ x=>x
section
variable {X:Cx}
def Hj (i:Nat):TE:=fun σ H Q=>∃ v,σ[i]?=some (some v)∧Q v H
def tC (v:V):TE:=fun _ H Q=>Q v H
theorem CS {i:Nat} {x:Str} {pos:Pos} (hN:X.N[i]?=some x) (hv:Vis X.env.scope x) (hd:(x==("__debug__" :Str))=false:=by decide) (hcd:(x==("__classdict__" :Str))=false:=by decide):PE X (.Name x pos) (Hj i):=by
 intro pins s σ H Q I h
 obtain ⟨v,e,h⟩:=h
 obtain ⟨m,hn,hl⟩:=I.loc
 obtain ⟨u,r,l⟩:=hl i x v hN e hv
 have fin:EP X pins σ Q u s:=⟨v,H,I,r,h⟩
 rcases l with ⟨hk,hm⟩ | ⟨hk,c,hc,hcell⟩
 · exact wpAny_Name (wpAny_loadName_local I.ok.kind hk hn hm fin) hd
 · rcases hk with hk | hk
   · exact wpAny_Name (wpAny_loadName_cell I.ok.kind hk hc hcell fin) hd
   · exact wpAny_Name (wpAny_loadName_free I.ok.kind hk hc hcell fin hcd) hd
theorem Dr {i j pos}:PE X (.Constant (.int i) j pos) (tC (.int i)):=fun _ _ _ H _ I h=>wpAny_Constant_int ⟨.int i,H,I.tok _,⟨_,rfl⟩,h⟩
theorem DR {b j pos}:PE X (.Constant (.bool b) j pos) (tC (.bl b)):=fun _ _ _ H _ I h=>Constant_bool ⟨.bl b,H,I,rfl,h⟩
theorem Ds {j pos}:PE X (.Constant .none j pos) (tC .non):=fun _ _ _ H _ I h=>Constant_none ⟨.non,H,I,rfl,h⟩
theorem AQ {x j pos}:PE X (.Constant (.str x) j pos) (tC (.str x)):=fun _ _ _ H _ I h=>Calls.Constant_str ⟨.str x,H,I.tok _,⟨_,rfl⟩,h⟩
def Gl (X:Cx) (x:Str):Prop:=X.env.kindOf x=some .globalImplicit
theorem fw {E:Value→Shared→Prop} {pins:List (Addr×Obj)} {s:Shared} {σ:St} {H:Hp} {x:Str} {u:Value} {pos:Pos} {Q:Value→Shared→Prop} (I:Inv X pins σ H s) (hg:Gl X x) (hm:X.mg x=some u) (h:Q u s)
  (hd:(x==("__debug__" :Str))=false:=by decide):wpAny (model X.prog X.w) X.A (eval (.Name x pos) X.env) Q E s:=
 Calls.Name_function_global I.ok.kind hg (Calls.loadGlobal_global (by rw [I.ok.glob];exact I.mod.glob.keeps I.bk) hm h) hd
theorem dG {E:Value→Shared→Prop} {pins:List (Addr×Obj)} {s:Shared} {σ:St} {H:Hp} {x:Str} {u:Value} {pos:Pos} {Q:Value→Shared→Prop} (I:Inv X pins σ H s) (hg:Gl X x) (hm:X.mg x=none) (hv:bootBuiltins x=some u) (h:Q u s)
  (hn:x≠ "__name__" :=by decide) (hd:(x==("__debug__" :Str))=false:=by decide):wpAny (model X.prog X.w) X.A (eval (.Name x pos) X.env) Q E s:=by
 obtain ⟨mb,h1,h2⟩:=I.mod.blt
 exact Calls.Name_function_global I.ok.kind hg (Calls.loadGlobal_builtin (by rw [I.ok.glob];exact I.mod.glob.keeps I.bk) hm (by rw [I.ok.blt];exact h1.keeps I.bk) ((h2 x hn).trans hv) h) hd
theorem rn {x:Str} {v:V} {u:Value} {pos:Pos} (hg:Gl X x) (hm:X.mg x=some u) (r:aS v u) (hd:(x==("__debug__" :Str))=false:=by decide):PE X (.Name x pos) (tC v):=
 fun _ _ _ H _ I h=>fw I hg hm ⟨v,H,I,r,h⟩ hd
theorem zS {x:Str} {v:V} {u:Value} {pos:Pos} (hg:Gl X x) (hm:X.mg x=none) (hv:bootBuiltins x=some u) (r:aS v u) (hn:x≠ "__name__" :=by decide) (hd:(x==("__debug__" :Str))=false:=by decide):PE X (.Name x pos) (tC v):=
 fun _ _ _ H _ I h=>dG I hg hm hv ⟨v,H,I,r,h⟩ hn hd
variable {a b:Expr} {ta tb:TE} {pos:Pos}
variable {tA tB':TT} {bK:List Expr}
def cI (t:TT):TT:=fun σ H Q=>t σ H fun c H1=>Q (!c) H1
theorem Ai (ha:PT X a tA):PW X (.BoolOp .And [a] pos) tA:=by
 intro wh pins s σ H Q I h
 refine isTrue_and (thn (ha pins s σ H Q I h) fun c s1 e=>?_)
 cases c with
 | true=>exact isTrue_and_nil e
 | false=>exact e
theorem BN (ha:PT X a tA):PW X (.BoolOp .Or [a] pos) tA:=by
 intro wh pins s σ H Q I h
 refine isTrue_or (thn (ha pins s σ H Q I h) fun c s1 e=>?_)
 cases c with
 | false=>exact isTrue_or_nil e
 | true=>exact e
theorem CQ (ha:PT X a tA):PT X (.UnaryOp .Not a pos) (cI tA):=by
 intro pins s σ H Q I h
 exact isTrue_not (ha pins s σ H (fun c H1=>Q (!c) H1) I h)
theorem AM {op} {t:TE} (h:PE X a t):PE X (.BoolOp op [a] pos) t:=fun pins s σ H Q I hw=>BoolOp_one (h pins s σ H Q I hw)
end
def SqL (K:W.Frag) (H:Hp) (a:Addr) (xs:List V):Prop:=
 Rd H a (.lst xs)∨
  ∃ (o:Obj) (its:Array Value) (n:Nat),K.lookup a=some o∧o.cls=.type "list" ∧o.dict=none∧o.data=.seq its n∧its.size≤sizeLine∧aR xs its.toList
def SqT (K:W.Frag) (H:Hp) (a:Addr) (xs:List V):Prop:=
 Rd H a (.tup xs)∨
  ∃ (o:Obj) (its:Array Value) (n:Nat),K.lookup a=some o∧o.cls=.type "tuple" ∧o.data=.seq its n∧its.size≤sizeLine∧aR xs its.toList
def IF:Value→Option V
 | .none=>some .non
 | .bool b=>some (.bl b)
 | .int i _=>some (.int i)
 | .str x _=>some (.str x)
 | .bytes b _=>some (.byt b)
 | .float b _=>some (.flt b)
 | .ref a=>some (.ref a)
 | .type n=>some (.ty n)
 | _=>none
theorem aS.abs {x:V} {u:Value} (r:aS x u):IF u=some x:=by
 cases x with
 | non=>cases r;rfl
 | bl _=>cases r;rfl
 | int _=>obtain ⟨t,rfl⟩:=r;rfl
 | str _=>obtain ⟨t,rfl⟩:=r;rfl
 | byt _=>obtain ⟨t,rfl⟩:=r;rfl
 | flt _=>obtain ⟨t,rfl⟩:=r;rfl
 | ref _=>cases r;rfl
 | ty _=>cases r;rfl
theorem aS.inj {x y:V} {u:Value} (r:aS x u) (q:aS y u):x=y:=Option.some.inj (r.abs.symm.trans q.abs)
theorem aR.inj:∀ {xs ys:List V} {us:List Value},aR xs us→aR ys us→xs=ys
 | _,_,_,.nil,.nil=>rfl
 | _,_,_,.cons r t,.cons r' t'=>by rw [r.inj r',aR.inj t t']
section
variable {X:Cx} {pins:List (Addr×Obj)} {σ:St} {H:Hp} {s:Shared} {a:Addr} {xs ys:List V}
theorem SqL.of {K:W.Frag} (h:H a=some (.lst xs)):SqL K H a xs:=.inl (.inl h)
theorem SqT.of {K:W.Frag} (h:H a=some (.tup xs)):SqT K H a xs:=.inl (.inl h)
theorem Inv.list (I:Inv X pins σ H s) (h:SqL X.K H a xs):∃ its:List Value,aR xs its∧PlainL s.heap a its.toArray∧xs.length≤sizeLine:=by
 rcases h with h | ⟨o,its,n,hk,hc,hd,hs,hz,r⟩
 · obtain ⟨z,its,n,r,e⟩:=h.ok I.hok
   exact ⟨its,r,⟨_,n,e,rfl,rfl,rfl⟩,z⟩
 · refine ⟨its.toList,r,⟨o,n,I.kIn a o hk,hc,hd,by simpa using hs⟩,?_⟩
   have e:=r.length
   simp only [Array.length_toList] at e
   omega
theorem Inv.tuple (I:Inv X pins σ H s) (h:SqT X.K H a xs):∃ its:List Value,aR xs its∧IsTup s.heap a its.toArray∧xs.length≤sizeLine:=by
 rcases h with h | ⟨o,its,n,hk,hc,hs,hz,r⟩
 · obtain ⟨z,its,r,p⟩:=h.ok I.hok
   exact ⟨its,r,p,z⟩
 · refine ⟨its.toList,r,⟨o,I.kIn a o hk,hc,n,by simpa using hs⟩,?_⟩
   have e:=r.length
   simp only [Array.length_toList] at e
   omega
theorem Inv.list_inj (I:Inv X pins σ H s) (h:SqL X.K H a xs) (h':SqL X.K H a ys):xs=ys:=by
 obtain ⟨its,r,⟨o,n,e,_,_,d⟩,_⟩:=I.list h
 obtain ⟨its',r',⟨o',n',e',_,_,d'⟩,_⟩:=I.list h'
 rw [e] at e';cases e'
 rw [d] at d'
 injection d' with d1 _
 have:its=its':=by simpa using congrArg Array.toList d1
 subst this
 exact r.inj r'
theorem Inv.tuple_inj (I:Inv X pins σ H s) (h:SqT X.K H a xs) (h':SqT X.K H a ys):xs=ys:=by
 obtain ⟨its,r,⟨o,e,_,n,d⟩,_⟩:=I.tuple h
 obtain ⟨its',r',⟨o',e',_,n',d'⟩,_⟩:=I.tuple h'
 rw [e] at e';cases e'
 rw [d] at d'
 injection d' with d1 _
 have:its=its':=by simpa using congrArg Array.toList d1
 subst this
 exact r.inj r'
end
abbrev Cx.wish (X:Cx) (E:Value→Shared→Prop):Cx:={ X with xe:=E }
abbrev Cx.nox (X:Cx):Cx:=X.wish fun _ _=>False
theorem Cx.Ok.wish {X:Cx} (ok:X.Ok) (E:Value→Shared→Prop):(X.wish E).Ok:=
 ⟨ok.mod,ok.kind,ok.glob,ok.blt,ok.above,ok.inj,ok.has,ok.cab,ok.hd,ok.frames,ok.stk,ok.exf,ok.bs,ok.bsz,ok.noex,ok.exfs,ok.funs,ok.frf⟩
theorem Cx.Ok.unwish {X:Cx} {E:Value→Shared→Prop} (ok:(X.wish E).Ok):X.Ok:=
 ⟨ok.mod,ok.kind,ok.glob,ok.blt,ok.above,ok.inj,ok.has,ok.cab,ok.hd,ok.frames,ok.stk,ok.exf,ok.bs,ok.bsz,ok.noex,ok.exfs,ok.funs,ok.frf⟩
section
variable {X:Cx} {pins:List (Addr×Obj)} {σ:St} {H:Hp} {s:Shared} {E:Value→Shared→Prop}
theorem Inv.wish (I:Inv X pins σ H s) (E:Value→Shared→Prop):Inv (X.wish E) pins σ H s:=⟨I.ok.wish E,I.os,I.bare,I.base,I.loc,I.cell,I.free,I.freeC,I.pin,I.hok,I.len⟩
theorem Inv.unwish (I:Inv (X.wish E) pins σ H s):Inv X pins σ H s:=⟨I.ok.unwish,I.os,I.bare,I.base,I.loc,I.cell,I.free,I.freeC,I.pin,I.hok,I.len⟩
theorem SP.unwish {D:dU} {f:Flow} {s':Shared} (h:SP (X.wish E) pins D f s'):SP X pins D f s':=by
 cases f with
 | next=>obtain ⟨σ',H',I,q⟩:=h;exact ⟨σ',H',I.unwish,q⟩
 | brk=>obtain ⟨σ',H',I,q⟩:=h;exact ⟨σ',H',I.unwish,q⟩
 | cont=>obtain ⟨σ',H',I,q⟩:=h;exact ⟨σ',H',I.unwish,q⟩
 | ret u=>obtain ⟨v,σ',H',I,r,q⟩:=h;exact ⟨v,σ',H',I.unwish,r,q⟩
theorem PE.nox {e:Expr} {t:TE} (h:PE X.nox e t):PE X e t:=fun pins s σ H Q I hw=>
 wpAny_mono (h pins s σ H Q (I.wish _) hw) (fun _ _ ⟨v,H',I',r,q⟩=>⟨v,H',I'.unwish,r,q⟩) fun _ _ z=>False.elim z
theorem PSs.nox {st:List Stmt} {t:TS} (h:PSs X.nox st t):PSs X st t:=fun pins s σ H D I hw=>
 wpAny_mono (h pins s σ H D (I.wish _) hw) (fun _ _ q=>q.unwish) fun _ _ z=>False.elim z
end
section
variable {X:Cx} {st:Stmt} {bK:List Stmt} {t u:TS} {e:Expr} {te:TE} {pos:Pos}
def aT:TS:=fun D σ H=>D.nx σ H
def ax (t u:TS):TS:=fun D σ H=>t { D with nx:=u D } σ H
theorem zO:PSs X [] aT:=fun _ _ σ H _ I h=>wpAny_execs_nil ⟨σ,H,I,h⟩
theorem wY (h1 : PS X st t) (h2 : PSs X bK u) : PSs X (st :: bK) (ax t u) := by
  intro pins s σ H D I h
  refine wpAny_execs_cons (thn (h1 pins s σ H { D with nx := u D } I h) fun f s1 q => ?_)
  cases f with
  | next =>
    obtain ⟨σ', H', I', q⟩ := q
    exact h2 pins s1 σ' H' D I' q
  | ret v => exact q
  | brk => exact q
  | cont => exact q
theorem zC (h1:PS X st t):PSs X [st] t:=by
 intro pins s σ H D I h
 refine wpAny_execs_cons (thn (h1 pins s σ H D I h) fun f s1 q=>?_)
 cases f with
 | next=>exact wpAny_execs_nil q
 | ret v=>exact q
 | brk=>exact q
 | cont=>exact q
theorem Inv.quiet {pins:List (Addr×Obj)} {σ:St} {H:Hp} {s:Shared} (I:Inv X pins σ H s):interactive X.env=false:=by simp [interactive,I.ok.kind]
def cx (te:TE):TS:=fun D σ H=>te σ H fun _ H1=>D.nx σ H1
theorem zN (he:PE X e te) (hs:swapsWith e none pos.line X.env=pure false:=by rfl):PS X (.Expr e pos) (cx te):=by
 intro pins s σ H D I h
 exact wpAny_Expr_any (thn (he pins s σ H _ I h) fun v s1 ⟨x,H1,I1,r1,q1⟩=>⟨σ,H1,I1,q1⟩) I.quiet hs
def aG (te:TE):TS:=fun D σ H=>te σ H D.rt
theorem CY (he:PE X e te):PS X (.Return (some e) pos) (aG te):=by
 intro pins s σ H D I h
 exact wpAny_Return_some (thn (he pins s σ H _ I h) fun v s1 ⟨x,H1,I1,r1,q1⟩=>⟨x,σ,H1,I1,r1,q1⟩)
def lT:TS:=fun _ _ _=>False
theorem wN:PS X st lT:=fun _ _ _ _ _ _ h=>h.elim
end
abbrev TG:=V→St→Hp→(St→Hp→Prop)→Prop
abbrev TGs:=List V→St→Hp→(St→Hp→Prop)→Prop
def PG (X:Cx) (target:Expr) (t:TG):Prop:=
 ∀ (pins:List (Addr×Obj)) (s:Shared) (σ:St) (H:Hp) (v:V) (u:Value) (Q:St→Hp→Prop),Inv X pins σ H s→aS v u→t v σ H Q→
  wpAny (model X.prog X.w) X.A (assign target X.env u) (fun _ s'=>∃ σ' H',Inv X pins σ' H' s'∧Q σ' H') X.xe s
def PGs (X:Cx) (ts:List Expr) (t:TGs):Prop:=
 ∀ (pins:List (Addr×Obj)) (s:Shared) (σ:St) (H:Hp) (vs:List V) (us:List Value) (Q:St→Hp→Prop),Inv X pins σ H s→aR vs us→t vs σ H Q→
  wpAny (model X.prog X.w) X.A (assignInOrder ((assignEach ts X.env).map (·.2)) us) (fun _ s'=>∃ σ' H',Inv X pins σ' H' s'∧Q σ' H') X.xe s
abbrev wC:=V→V→V→Hp→(Hp→Prop)→Prop
def sF (X:Cx) (t:wC):Prop:=
 ∀ (pins:List (Addr×Obj)) (s:Shared) (σ:St) (H:Hp) (o i v:V) (ov iv u:Value) (Q:Hp→Prop),Inv X pins σ H s→aS o ov→aS i iv→aS v u→t o i v H Q→
  wpAny (model X.prog X.w) X.A (setItem ov iv u) (fun _ s'=>∃ H',Inv X pins σ H' s'∧Q H') X.xe s
section
variable {X:Cx} {pos:Pos}
def au (i:Nat):TG:=fun v σ H Q=>Q (σ.set i (some v)) H
theorem ij {i:Nat} {x:Str} (hN:X.N.Nodup) (hi:X.N[i]?=some x) (hx:Loc X.env.scope x) (hf:X.fn x=true∨X.env.scope.names.lookup x=some .local:=by first | exact .inl rfl | exact .inr rfl | assumption):PG X (.Name x pos) (au i):=by
 intro pins s σ H v u Q I r h
 exact wpAny_assign_Name (eZ I hN hi hx r (fun s' I'=>⟨_,H,I',h⟩) hf)
def mz:TGs:=fun vs σ H Q=>vs=[]∧Q σ H
def eK (t:TG) (u:TGs):TGs:=fun vs σ H Q=>∃ v r,vs=v::r∧t v σ H fun σ' H'=>u r σ' H' Q
theorem qX:PGs X [] mz:=by
 intro pins s σ H vs us Q I r h
 obtain ⟨e,h⟩:=h
 subst e
 cases r
 exact assignInOrder_nil ⟨σ,H,I,h⟩
theorem iK {e : Expr} {es : List Expr} {t : TG} {u : TGs} (h1 : PG X e t) (h2 : PGs X es u)
    (hs : (assignEach (e :: es) X.env).map (·.2) = assign e X.env :: (assignEach es X.env).map (·.2) := by rfl) : PGs X (e :: es) (eK t u) := by
  intro pins s σ H vs us Q I r h
  obtain ⟨v, vr, e1, h⟩ := h
  subst e1
  cases r with
  | cons r rr =>
    rw [hs]
    refine assignInOrder_cons (thn (h1 pins s σ H _ _ _ I r h) fun _ s1 ⟨σ1, H1, I1, q1⟩ => ?_)
    exact h2 pins s1 σ1 H1 _ _ Q I1 rr q1
def mK (K:W.Frag) (n:Nat) (t:TGs):TG:=fun v σ H Q=>∃ a xs,v=.ref a∧SqT K H a xs∧xs.length=n∧t xs σ H Q
theorem uf {es:List Expr} {k:Nat} {t:TGs} {n:Nat} (hc:X.calm=true) (h:PGs X es t)
  (hn:(assignEach es X.env).length=n:=by rfl) (hst:(assignEach es X.env).findIdx? (·.1)=none:=by rfl):PG X (.Tuple es k pos) (mK X.K n t):=by
 intro pins s σ H v u Q I r hw
 obtain ⟨a,xs,e1,hq,hl,hw⟩:=hw
 subst e1
 cases r
 obtain ⟨its,rv,ht,hz⟩:=I.tuple hq
 refine assign_Tuple_tuple (I.ok.hd hc) ht (by simp [hn,←hl,rv.length]) hst fun h' hx=>?_
 have I1:Inv X pins σ H { s with heap:=h' }:=I.kept (t':=s.toks) fun b o e=>hx b o (Nat.ne_of_lt (Heap.lt_size e)) e
 exact h pins _ σ H xs _ Q I1 (by simpa using rv) hw
def sC (to ti:TE) (t:wC):TG:=fun v σ H Q=>to σ H fun o H1=>ti σ H1 fun i H2=>t o i v H2 fun H3=>Q σ H3
theorem Cg {o i : Expr} {to ti : TE} {t : wC} (ho : PE X o to) (hi : PE X i ti) (hs : sF X t)
  (ha : ∀ v, assign (.Subscript o i pos) X.env v = (do
   let ov ← holding [v] (eval o X.env)
   let iv ← holding [v, ov] (eval i X.env)
   standAt pos
   holding [v, ov, iv] (setItem ov iv v)
   release [v, ov, iv] []) := by intro _; rfl) : PG X (.Subscript o i pos) (sC to ti t) := by
 intro pins s σ H v u Q I r h
 rw [ha]
 refine wpAny_bind (wpAny_holding (thn (ho pins s σ H _ I h) fun ov s1 ⟨x, H1, I1, r1, q1⟩ => ?_))
 refine wpAny_bind (wpAny_holding (thn (hi pins s1 σ H1 _ I1 q1) fun iv s2 ⟨y, H2, I2, r2, q2⟩ => ?_))
 refine wpAny_bind (wpAny_standAt (wpAny_bind (wpAny_holding (thn (hs pins s2 σ H2 x y v ov iv u _ I2 r1 r2 r q2) fun _ s3 ⟨H3, I3, q3⟩ => ?_))))
 exact wpAny_release ⟨σ, H3, I3, q3⟩
def aC (te:TE) (g:TG):TS:=fun D σ H=>te σ H fun x H1=>g x σ H1 D.nx
theorem uN {tg e:Expr} {te:TE} {g:TG} (he:PE X e te) (hg:PG X tg g) (hs:swapsWithSole [tg] e pos.line X.env=pure false:=by rfl) (hw:swappedStores [tg] e X.env=pure none:=by rfl)
  (h1:(assignEach [tg] X.env).map (·.2)=[assign tg X.env]:=by rfl):PS X (.Assign [tg] e pos) (aC te g):=by
 intro pins s σ H D I h
 refine wpAny_Assign_stores (thn (he pins s σ H _ I h) fun v s1 ⟨x,H1,I1,r1,q1⟩=>?_) hs hw
 rw [h1]
 exact thn (hg pins s1 σ H1 x v _ I1 r1 q1) fun _ s2 q=>q
theorem Bw {i:Nat} {x:Str} {e:Expr} {te:TE} {pos':Pos} (hN:X.N.Nodup) (hi:X.N[i]?=some x) (hx:Loc X.env.scope x) (he:PE X e te) (hs:swapsWith e (some (.Name x pos')) pos.line X.env=pure false:=by rfl) (hf:X.fn x=true∨X.env.scope.names.lookup x=some .local:=by first | exact .inl rfl | exact .inr rfl | assumption):
  PS X (.Assign [.Name x pos'] e pos) (aC te (au i)):=by
 intro pins s σ H D I h
 refine wpAny_Assign_Name (thn (he pins s σ H _ I h) fun v s1 ⟨y,H1,I1,r1,q1⟩=>?_) hs
 exact eZ I1 hN hi hx r1 (fun s2 I2=>⟨_,H1,I2,q1⟩) hf
end
section
variable {X:Cx} {pos:Pos}
def jq (c:TT) (tb:TS):TS:=fun D σ H=>∃ W:Nat→St→Hp→Prop,(∃ m,W m σ H)∧∀ m σ H,W m σ H→
 c σ H fun b H1=>if b=true then ∃ N:St→Hp→Prop,(∀ σ' H',N σ' H'→∃ m',m'<m∧W m' σ' H')∧tb { D with nx:=N,ct:=N,bk:=D.nx } σ H1 else D.nx σ H1
theorem vY {c : Expr} {body : List Stmt} {tc : TT} {tb : TS} (hp : PassesOwn (model X.prog X.w) X.A X.env X.xe) (hc : PT X c tc) (hb : PSs X body tb) : PS X (.While c body [] pos) (jq tc tb) := by
  intro pins s σ H D I h
  obtain ⟨W, ⟨m0, w0⟩, turn⟩ := h
  refine wpAny_While (codeAny_whileLoop (fun n s' => ∃ σ' H', Inv X pins σ' H' s' ∧ W n σ' H') ?_ m0 ⟨σ, H, I, w0⟩)
  rintro n s1 ⟨σ1, H1, I1, w1⟩
  refine wpAny_passesOwn hp (thn (hc pins s1 σ1 H1 _ I1 (turn n σ1 H1 w1)) fun b s2 ⟨H2, I2, q2⟩ => ?_)
  cases b with
  | true =>
    obtain ⟨N, hN, q2⟩ := q2
    rw [if_pos rfl]
    refine wpAny_passesOwn hp (thn (hb pins s2 σ1 H2 _ I2 q2) fun f s3 q3 => ?_)
    cases f with
    | next =>
      obtain ⟨σ3, H3, I3, n3⟩ := q3
      obtain ⟨m', hm, w3⟩ := hN σ3 H3 n3
      exact ⟨m', hm, σ3, H3, I3, w3⟩
    | cont =>
      obtain ⟨σ3, H3, I3, n3⟩ := q3
      obtain ⟨m', hm, w3⟩ := hN σ3 H3 n3
      exact ⟨m', hm, σ3, H3, I3, w3⟩
    | brk => exact q3
    | ret v => exact q3
  | false =>
    rw [if_neg Bool.false_ne_true]
    exact wpAny_execs_nil ⟨σ1, H2, I2, q2⟩
end
structure It where
 go:Nat→Hp→Prop
 yld:Nat→Hp→V→Hp→Prop
 stop:Nat→Hp→Prop
def gc (X:Cx) (pins:List (Addr×Obj)) (H:Hp) (b:Addr):Prop:=
 H b=none∧b≠X.env.locals∧b∉X.fs∧(b∈X.ex∨X.s₀.heap.objs.size≤b)∧(∀ x c,X.env.cells.lookup x=some c→c≠b)∧∀ p∈X.pn++pins,p.1≠b
theorem Inv.fpOk {X:Cx} {pins:List (Addr×Obj)} {σ:St} {H H':Hp} {s:Shared} {b:Addr} (I:Inv X pins σ H s) (hb:s.heap.objs.size≤b) (hn:H' b=none):gc X pins H' b:=by
 refine ⟨hn,Nat.ne_of_gt (Nat.lt_of_lt_of_le I.lt hb),I.nofs hb,.inr (Nat.le_trans I.sz hb),fun x c e z=>?_,fun p hp z=>?_⟩
 · obtain ⟨v,q⟩:=I.cell x c e
   exact absurd (Nat.lt_of_lt_of_le q.lt (by rw [z];exact hb)) (Nat.lt_irrefl _)
 · exact absurd (Nat.lt_of_lt_of_le (Heap.lt_size (I.pin p hp).1) (by rw [z];exact hb)) (Nat.lt_irrefl _)
structure iO (P:Program) (w:World) (K:W.Frag) (tg:Expr) (J:It) (fp:List Addr) (it:Addr) (tn:Nat→Heap→Prop):Prop where
 mem:it∈fp
 obj:∀ i h,tn i h→∀ b∈fp,∃ o,h.get? b=some o∧∀ v,o.data≠ .cell v
 keep:∀ i h h',tn i h→(∀ b∈fp,∀ o,h.get? b=some o→h'.get? b=some o)→tn i h'
 item:∀ (X:Cx),X.prog=P→X.w=w→X.K=K→X.calm=true→∀ (i:Nat) (pins:List (Addr×Obj)) (s:Shared) (σ:St) (H:Hp) (E:Value→Shared→Prop),Inv X pins σ H s→(∀ b∈fp,gc X pins H b)→tn i s.heap→J.go i H→
  wpAny (model P w) X.A (pyNext (.ref it)) (fun r s1=>∃ u,r=some u∧
   wpAny (model P w) X.A (letOwnedTupleGo tg (.ref it) u) (fun _ s2=>∃ x H',Inv X pins σ H' s2∧aS x u∧J.yld i H x H'∧tn (i+1) s2.heap∧∀ b∈fp,H' b=none) E s1) E s
 done:∀ (X:Cx),X.prog=P→X.w=w→X.K=K→X.calm=true→∀ (i:Nat) (pins:List (Addr×Obj)) (s:Shared) (σ:St) (H:Hp) (E:Value→Shared→Prop),Inv X pins σ H s→(∀ b∈fp,gc X pins H b)→tn i s.heap→J.stop i H→
  wpAny (model P w) X.A (pyNext (.ref it)) (fun r s1=>r=none∧Inv X pins σ H s1) E s
 self:∀ (A:Around) (i:Nat) (s:Shared) (Q:Value→Shared→Prop) (E:Value→Shared→Prop),tn i s.heap→Q (.ref it) s→wpAny (model P w) A (pyIter (.ref it)) Q E s
abbrev TI:=St→Hp→(It→Hp→Prop)→Prop
def PIE (X:Cx) (pins:List (Addr×Obj)) (σ:St) (tg:Expr) (R:It→Hp→Prop) (itv:Value) (s2:Shared):Prop:=
 ∃ (it:Addr) (fp:List Addr) (tn:Nat→Heap→Prop) (J:It) (H':Hp),itv=.ref it∧Inv X pins σ H' s2∧iO X.prog X.w X.K tg J fp it tn∧tn 0 s2.heap∧(∀ b∈fp,gc X pins H' b)∧R J H'
def PI (X:Cx) (tg iter:Expr) (wi:TI):Prop:=
 ∀ (pins:List (Addr×Obj)) (s:Shared) (σ:St) (H:Hp) (R:It→Hp→Prop),Inv X pins σ H s→wi σ H R→
  wpAny (model X.prog X.w) X.A (eval iter X.env) (fun v s1=>wpAny (model X.prog X.w) X.A (pyIter v) (PIE X pins σ tg R) X.xe s1) X.xe s
theorem jJ {M : Model} {A : Around} {E : Value → Shared → Prop} {s : Shared} {tg : Expr} {it : Addr} {u : Value} {o : Obj} {n : String} {vs : Array Value} {Q : Unit → Shared → Prop} (ho : s.heap.get? it = some o) (hc : o.cls = .type n) (hd : o.data = .fields vs)
    (hn : ["enumerate", "zip", "dict_itemiterator", "dict_reverseitemiterator", "odict_iterator", "itertools.zip_longest", "itertools.pairwise"].contains n = false) (hQ : Q () s) : wpAny M A (letOwnedTupleGo tg (.ref it) u) Q E s := by
  unfold letOwnedTupleGo
  cases tg <;> first
    | exact wpAny_pure hQ
    | (cases u <;> first
        | exact wpAny_pure hQ
        | (refine wpAny_bind (wpAny_load ho ?_)
           rw [hc, hd]
           show wpAny M A (if (["enumerate", "zip", "dict_itemiterator", "dict_reverseitemiterator", "odict_iterator", "itertools.zip_longest", "itertools.pairwise"].contains n && vs[0]? == some (rawInt _)) = true then _ else _) Q E s
           rw [if_neg (by intro h; rw [hn, Bool.false_and] at h; cases h)]
           exact wpAny_pure hQ))
def Itl (K:W.Frag) (a:Addr):It:=
 ⟨fun i H=>∃ xs x,SqL K H a xs∧xs[i]?=some x,fun i H x H'=>H'=H∧∀ xs,SqL K H a xs→xs[i]?=some x,fun i H=>∃ xs,SqL K H a xs∧xs.length≤i⟩
def Itt (K:W.Frag) (a:Addr):It:=
 ⟨fun i H=>∃ xs x,SqT K H a xs∧xs[i]?=some x,fun i H x H'=>H'=H∧∀ xs,SqT K H a xs→xs[i]?=some x,fun i H=>∃ xs,SqT K H a xs∧xs.length≤i⟩
def Itr (lo:Int) (n:Nat):It:=⟨fun i _=>i<n,fun i H x H'=>H'=H∧x=.int (lo+i),fun i _=>n≤i⟩
theorem uq {P:Program} {w:World} {K:W.Frag} {tg:Expr} (a it:Addr):iO P w K tg (Itl K a) [it] it (fun i h=>h.IsListIter it a i) where
 mem:=by simp
 obj:=fun i h st b hb=>by
  have e:b=it:=by simpa using hb
  subst e
  obtain ⟨o,e,c,d⟩:=st
  exact ⟨o,e,fun v z=>by rw [d] at z;cases z⟩
 keep:=fun i h h' st k=>st.at fun o e=>k it (by simp) o e
 item:=by
  intro X hP hw hK hc i pins s σ H E I hf st hg
  subst hP hw hK
  obtain ⟨xs,x,hq,hx⟩:=hg
  obtain ⟨its,rv,p,hz⟩:=I.list hq
  obtain ⟨u,hu,ru⟩:=rv.get hx
  obtain ⟨f0,f1,f2,f3,f4,f5⟩:=hf it (by simp)
  refine wpAny_pyNext_list_item st p.isList (x:=u) (by simpa using hu) fun h' st' sb=>?_
  have I1:Inv X pins σ H { s with heap:=h' }:=I.turned (t':=s.toks) (fun b o hb e=>(sb.2 b hb).trans e) f0 f1 f3 f4 f5
  obtain ⟨o,e,c,d⟩:=id st'
  exact ⟨u,rfl,jJ (s:={ s with heap:=h' }) e c d (by decide) ⟨x,H,I1,ru,⟨rfl,fun ys hy=>by rw [I.list_inj hy hq];exact hx⟩,st',fun b hb=>(hf b hb).1⟩⟩
 done:=by
  intro X hP hw hK hc i pins s σ H E I hf st hg
  subst hP hw hK
  obtain ⟨xs,hq,hx⟩:=hg
  obtain ⟨its,rv,p,hz⟩:=I.list hq
  obtain ⟨f0,f1,f2,f3,f4,f5⟩:=hf it (by simp)
  have hl:=rv.length
  exact wpAny_pyNext_list_end (I.ok.hd hc) st p.isList (by simp;omega) fun h' eb=>⟨rfl,I.turned (t':=s.toks) (fun b o hb e=>eb b o hb e) f0 f1 f3 f4 f5⟩
 self:=fun _ _ _ _ _ st h=>wpAny_pyIter_listiter st h
theorem sg {P:Program} {w:World} {K:W.Frag} {tg:Expr} (a it:Addr):iO P w K tg (Itt K a) [it] it (fun i h=>h.IsTupleIter it a i) where
 mem:=by simp
 obj:=fun i h st b hb=>by
  have e:b=it:=by simpa using hb
  subst e
  obtain ⟨o,e,c,d⟩:=st
  exact ⟨o,e,fun v z=>by rw [d] at z;cases z⟩
 keep:=fun i h h' st k=>st.at fun o e=>k it (by simp) o e
 item:=by
  intro X hP hw hK hc i pins s σ H E I hf st hg
  subst hP hw hK
  obtain ⟨xs,x,hq,hx⟩:=hg
  obtain ⟨its,rv,p,hz⟩:=I.tuple hq
  obtain ⟨u,hu,ru⟩:=rv.get hx
  obtain ⟨f0,f1,f2,f3,f4,f5⟩:=hf it (by simp)
  refine wpAny_pyNext_tuple_item st (show s.heap.IsTuple a its.toArray from p) (x:=u) (by simpa using hu) fun h' st' sb=>?_
  have I1:Inv X pins σ H { s with heap:=h' }:=I.turned (t':=s.toks) (fun b o hb e=>(sb.2 b hb).trans e) f0 f1 f3 f4 f5
  obtain ⟨o,e,c,d⟩:=id st'
  exact ⟨u,rfl,jJ (s:={ s with heap:=h' }) e c d (by decide) ⟨x,H,I1,ru,⟨rfl,fun ys hy=>by rw [I.tuple_inj hy hq];exact hx⟩,st',fun b hb=>(hf b hb).1⟩⟩
 done:=by
  intro X hP hw hK hc i pins s σ H E I hf st hg
  subst hP hw hK
  obtain ⟨xs,hq,hx⟩:=hg
  obtain ⟨its,rv,p,hz⟩:=I.tuple hq
  obtain ⟨f0,f1,f2,f3,f4,f5⟩:=hf it (by simp)
  have hl:=rv.length
  exact wpAny_pyNext_tuple_end (I.ok.hd hc) st (show s.heap.IsTuple a its.toArray from p) (by simp;omega) fun h' eb=>⟨rfl,I.turned (t':=s.toks) (fun b o hb e=>eb b o hb e) f0 f1 f3 f4 f5⟩
 self:=fun _ _ _ _ _ st h=>wpAny_pyIter_tupleiter st h
theorem tN {P:Program} {w:World} {K:W.Frag} {tg:Expr} (it:Addr) (lo:Int) (n:Nat):iO P w K tg (Itr lo n) [it] it (fun i h=>IsRangeIter h it (lo+(i:Nat)*1) ((n:Int) - (i:Nat)) 1) where
 mem:=by simp
 obj:=fun i h st b hb=>by
  have e:b=it:=by simpa using hb
  subst e
  exact ⟨_,st,fun v z=>by
   have z':Data.fields _=Data.cell v:=z
   cases z'⟩
 keep:=fun i h h' st k=>k it (by simp) _ st
 item:=by
  intro X hP hw hK hc i pins s σ H E I hf st hg
  subst hP hw hK
  obtain ⟨f0,f1,f2,f3,f4,f5⟩:=hf it (by simp)
  have W:=Walks.range (prog:=X.prog) (w:=X.w) (I.ok.hd hc) it lo 1 n
  refine W.item i s _ _ hg st fun v h' tk hv st' kk=>?_
  obtain ⟨t,rfl⟩:=hv
  have I1:Inv X pins σ H { s with heap:=h',toks:=tk }:=I.turned (fun b o hb e=>kk b o (by simpa using hb) e) f0 f1 f3 f4 f5
  refine ⟨_,rfl,jJ (s:={ s with heap:=h',toks:=tk }) (n:= "range_iterator") st' rfl rfl (by decide) ⟨.int (lo+i),H,I1,⟨t,?_⟩,⟨rfl,rfl⟩,st',fun b hb=>(hf b hb).1⟩⟩
  rw [Int.mul_one]
 done:=by
  intro X hP hw hK hc i pins s σ H E I hf st hg
  subst hP hw hK
  obtain ⟨f0,f1,f2,f3,f4,f5⟩:=hf it (by simp)
  exact wpAny_pyNext_range_end (I.ok.hd hc) st (by have:n≤i:=hg;omega) fun h' eb=>⟨rfl,I.turned (t':=s.toks) (fun b o hb e=>eb b o hb e) f0 f1 f3 f4 f5⟩
 self:=fun _ _ _ _ _ st h=>wpAny_pyIter_rangeiter st h
section
variable {X:Cx} {tg:Expr}
theorem qd {pins:List (Addr×Obj)} {σ:St} {H:Hp} {s:Shared} {R:It→Hp→Prop} {E:Value→Shared→Prop} {lo hi:Int} {t u v:Tok} {tk:Nat} (I:Inv X pins σ H s) (h1: -(2^62)≤lo) (h2:lo<2^62) (h3: -(2^62)≤hi) (h4:hi<2^62)
   (q:R (Itr lo (hi - lo).toNat) H):wpAny (model X.prog X.w) X.A (pyIter (.ref s.heap.objs.size)) (PIE X pins σ tg R) E { s with heap:=s.heap.push { cls:=.type "range",data:=.fields #[.int lo t,.int hi u,.int 1 v] },toks:=tk }:=by
 refine wpAny_pyIter_range (IsRange.new ..) (small_one h1 h2 h3 h4) ?_
 have I1:Inv X pins σ H { s with heap:=s.heap.push { cls:=.type "range",data:=.fields #[.int lo t,.int hi u,.int 1 v] },toks:=tk }:=I.kept fun b o e=>Heap.get?_push_of_some _ e
 refine ⟨(s.heap.push { cls:=.type "range",data:=.fields #[.int lo t,.int hi u,.int 1 v] }).objs.size,[(s.heap.push { cls:=.type "range",data:=.fields #[.int lo t,.int hi u,.int 1 v] }).objs.size],_,_,H,rfl,
   I1.kept (t':=tk) fun b o e=>Heap.get?_push_of_some _ e,tN _ lo (hi - lo).toNat,?_,fun b hb=>?_,q⟩
 · have e1:lo+((0:Nat):Int)*1=lo:=by simp
   have e2:(((hi - lo).toNat:Nat):Int) - ((0:Nat):Int)=Builtin.Range.rangeSize lo hi 1:=by rw [rangeSize_one];split <;> omega
   show IsRangeIter _ _ (lo+((0:Nat):Int)*1) ((((hi - lo).toNat:Nat):Int) - ((0:Nat):Int)) 1
   rw [e1,e2]
   exact Heap.get?_push_size _ rfl
 · have e:b=(s.heap.push { cls:=.type "range",data:=.fields #[.int lo t,.int hi u,.int 1 v] }).objs.size:=by simpa using hb
   subst e
   exact I1.fpOk (Nat.le_refl _) (I1.hok.fresh (Nat.le_refl _))
def gp (ta:TA):TI:=fun σ H R=>ta σ H fun vs H1=>∃ j:Int,vs=[.int j]∧ -(2^62)≤j∧j<2^62∧R (Itr 0 j.toNat) H1
def jU (ta:TA):TI:=fun σ H R=>ta σ H fun vs H1=>∃ i j:Int,vs=[.int i,.int j]∧(-(2^62)≤i∧i<2^62∧ -(2^62)≤j∧j<2^62)∧R (Itr i (j - i).toNat) H1
theorem um {a : Expr} {ta : TA} {p pos : Pos} (hg : Gl X "range") (hm : X.mg "range" = none) (ha : PA X [a] ta) (hs : starEach [a] X.env = [(false, eval a X.env)] := by rfl) : PI X tg (.Call (.Name "range" p) [a] [] pos) (gp ta) := by
  intro pins s σ H R I h
  refine Call_ (dG I hg hm boot_range (PyProof.Rows.callWith_type1 (thn (ha pos pins s σ H _ I h) fun us s1 ⟨vs, H1, I1, r1, q1⟩ => ?_) hs rfl))
  obtain ⟨j, e, q1, q2, q⟩ := q1
  subst e
  cases r1 with
  | cons r rr =>
    cases rr
    obtain ⟨t, rfl⟩ := r
    exact call_range_1 (qd I1 (by omega) (by omega) q1 q2 (by simpa using q))
theorem uV {a b : Expr} {ta : TA} {p pos : Pos} (hg : Gl X "range") (hm : X.mg "range" = none) (ha : PA X [a, b] ta) (hs : starEach [a, b] X.env = [(false, eval a X.env), (false, eval b X.env)] := by rfl) (hs2 : starEach [b] X.env = [(false, eval b X.env)] := by rfl) :
    PI X tg (.Call (.Name "range" p) [a, b] [] pos) (jU ta) := by
  intro pins s σ H R I h
  refine Call_ (dG I hg hm boot_range (PyProof.Rows.callWith_type1 (thn (ha pos pins s σ H _ I h) fun us s1 ⟨vs, H1, I1, r1, q1⟩ => ?_) (by rw [hs, hs2]) (by rw [hs2]; rfl)))
  obtain ⟨i, j, e, ⟨q1, q2, q3, q4⟩, q⟩ := q1
  subst e
  cases r1 with
  | cons r rr =>
    cases rr with
    | cons r' rr =>
      cases rr
      obtain ⟨t, rfl⟩ := r
      obtain ⟨t', rfl⟩ := r'
      exact call_range_2 (qd I1 q1 q2 q3 q4 q)
def fJ (wi:TI) (g:TG) (tb:TS):TS:=fun D σ H=>wi σ H fun J H1=>∃ W:Nat→Nat→St→Hp→Prop,(∃ m,W 0 m σ H1)∧∀ i m σ H,W i m σ H→
 (J.stop i H∧D.nx σ H)∨(J.go i H∧∃ N:St→Hp→Prop,(∀ σ' H',N σ' H'→∃ m',m'<m∧W (i+1) m' σ' H')∧∀ x H',J.yld i H x H'→g x σ H' fun σ2 H2=>tb { D with nx:=N,ct:=N,bk:=D.nx } σ2 H2)
def jp (fp:List Addr) (h:Heap):List (Addr×Obj):=fp.filterMap fun b=>(h.get? b).map fun o=>(b,o)
theorem eQ {fp:List Addr} {h:Heap} {b:Addr} {o:Obj} (hb:b∈fp) (e:h.get? b=some o):(b,o)∈jp fp h:=List.mem_filterMap.mpr ⟨b,hb,by rw [e];rfl⟩
theorem vx {fp : List Addr} {h : Heap} {p : Addr × Obj} (hp : p ∈ jp fp h) : p.1 ∈ fp ∧ h.get? p.1 = some p.2 := by
  obtain ⟨b, hb, e⟩ := List.mem_filterMap.mp hp
  cases q : h.get? b with
  | none => rw [q] at e; cases e
  | some o =>
    rw [q] at e
    have e' : (b, o) = p := Option.some.inj e
    subst e'
    exact ⟨hb, q⟩
theorem Inv.pinned {pins:List (Addr×Obj)} {σ:St} {H:Hp} {s:Shared} {fp:List Addr} (I:Inv X pins σ H s) (hf:∀ b∈fp,gc X pins H b) (ho:∀ b∈fp,∃ o,s.heap.get? b=some o∧∀ v,o.data≠ .cell v):Inv X (pins++jp fp s.heap) σ H s:=
 I.pins_of fun p hp=>(List.mem_append.mp hp).elim (fun z=>I.pin p (List.mem_append_right _ z)) fun z=>by
  obtain ⟨hb,e⟩:=vx z
  obtain ⟨f0,f1,f2,_⟩:=hf p.1 hb
  obtain ⟨o,e',d⟩:=ho p.1 hb
  rw [e] at e';cases e'
  exact ⟨e,f0,f1,f2,d⟩
theorem Inv.unpinned {pins pl:List (Addr×Obj)} {σ:St} {H:Hp} {s:Shared} (I:Inv X (pins++pl) σ H s):Inv X pins σ H s:=I.pins_of fun p hp=>I.pin p (List.mem_append_right _ (List.mem_append_left _ hp))
theorem vb {iter:Expr} {body:List Stmt} {wi:TI} {g:TG} {tb:TS} {pos:Pos} (hp:PassesOwn (model X.prog X.w) X.A X.env X.xe) (hc:X.calm=true) (hi:PI X tg iter wi) (hg:PG X tg g) (hb:PSs X body tb)
   (hs:∀ x,foldedSetIterable iter X.env x=pure x:=by intro _;rfl):PS X (.For tg iter body [] pos) (fJ wi g tb):=by
 intro pins s σ H D I h
 refine wpAny_For (thn (hi pins s σ H _ I h) fun v s1 h1=>thn h1 fun itv s2 h2=>?_) hs
 obtain ⟨it,fp,tn,J,H2,e,I2,T,st2,f2,W,⟨m0,w0⟩,turn⟩:=h2
 subst e
 have stat:∀ {H':Hp},(∀ b∈fp,H' b=none)→∀ b∈fp,gc X pins H' b:=fun hn b hb=>⟨hn b hb,(f2 b hb).2⟩
 refine codeAny_forLoop_any (fun n s'=>∃ i σ' H',Inv X pins σ' H' s'∧tn i s'.heap∧(∀ b∈fp,H' b=none)∧W i n σ' H') ?_ m0 ⟨0,σ,H2,I2,st2,fun b hb=>(f2 b hb).1,w0⟩
 rintro n s3 ⟨i,σ3,H3,I3,st3,fr3,w3⟩
 rcases turn i n σ3 H3 w3 with ⟨stop,qn⟩ | ⟨go,N,hN,step⟩
 · refine wpAny_passesOwn hp (thn (T.done X rfl rfl rfl hc i pins s3 σ3 H3 X.xe I3 (stat fr3) st3 stop) fun r s4 ⟨hr,I4⟩=>?_)
   subst hr
   exact wpAny_execs_nil ⟨σ3,H3,I4,qn⟩
 · refine wpAny_passesOwn hp (thn (T.item X rfl rfl rfl hc i pins s3 σ3 H3 X.xe I3 (stat fr3) st3 go) fun r s4 ⟨u,hr,h4⟩=>?_)
   subst hr
   refine wpAny_passesOwn hp (thn h4 fun _ s5 ⟨x,H5,I5,r5,y5,st5,fr5⟩=>?_)
   have I5':=I5.pinned (stat fr5) (T.obj _ _ st5)
   refine wpAny_passesOwn hp (thn (hg _ s5 σ3 H5 x u _ I5' r5 (step x H5 y5)) fun _ s6 ⟨σ6,H6,I6,q6⟩=>?_)
   refine wpAny_passesOwn hp (thn (hb _ s6 σ6 H6 _ I6 q6) fun f s7 q7=>?_)
   have again:∀ {σ7:St} {H7:Hp},Inv X (pins++jp fp s5.heap) σ7 H7 s7→N σ7 H7→∃ m,m<n∧∃ i σ' H',Inv X pins σ' H' s7∧tn i s7.heap∧(∀ b∈fp,H' b=none)∧W i m σ' H':=fun {σ7 H7} I7 n7=>by
    obtain ⟨m',hm,w7⟩:=hN σ7 H7 n7
    refine ⟨m',hm,i+1,σ7,H7,I7.unpinned,T.keep _ _ _ st5 fun b hb o e=>(I7.pin (b,o) (List.mem_append_right _ (List.mem_append_right _ (eQ hb e)))).1,fun b hb=>?_,w7⟩
    obtain ⟨o,e,d⟩:=T.obj _ _ st5 b hb
    exact (I7.pin (b,o) (List.mem_append_right _ (List.mem_append_right _ (eQ hb e)))).2.1
   cases f with
   | next=>obtain ⟨σ7,H7,I7,n7⟩:=q7;exact again I7 n7
   | cont=>obtain ⟨σ7,H7,I7,n7⟩:=q7;exact again I7 n7
   | brk=>obtain ⟨σ7,H7,I7,q7⟩:=q7;exact ⟨σ7,H7,I7.unpinned,q7⟩
   | ret v=>obtain ⟨x7,σ7,H7,I7,r7,q7⟩:=q7;exact ⟨x7,σ7,H7,I7.unpinned,r7,q7⟩
end
theorem pS {K:W.Frag} {a:Addr} {xs:List V} {g:TG} {tb:TS} {D:dU} {σ:St} {H:Hp} (Pv:Nat→St→Hp→Prop) (h0:Pv 0 σ H) (hl:∀ i σ H,i≤xs.length→Pv i σ H→SqL K H a xs)
   (hs:∀ i x σ H,xs[i]?=some x→Pv i σ H→g x σ H fun σ2 H2=>tb { D with nx:=Pv (i+1),ct:=Pv (i+1),bk:=D.nx } σ2 H2) (hd:∀ σ H,Pv xs.length σ H→D.nx σ H):
   ∃ W:Nat→Nat→St→Hp→Prop,(∃ m,W 0 m σ H)∧∀ i m σ H,W i m σ H→
    ((Itl K a).stop i H∧D.nx σ H)∨((Itl K a).go i H∧∃ N:St→Hp→Prop,(∀ σ' H',N σ' H'→∃ m',m'<m∧W (i+1) m' σ' H')∧∀ x H',(Itl K a).yld i H x H'→g x σ H' fun σ2 H2=>tb { D with nx:=N,ct:=N,bk:=D.nx } σ2 H2):=by
 refine ⟨fun i m σ H=>m=xs.length - i∧i≤xs.length∧Pv i σ H,⟨xs.length,by simp,Nat.zero_le _,h0⟩,?_⟩
 rintro i m σ H ⟨rfl,hi,p⟩
 have q:=hl i σ H hi p
 by_cases hlt:i<xs.length
 · refine .inr ⟨⟨xs,xs[i],q,by simp [hlt]⟩,Pv (i+1),fun σ' H' p'=>⟨xs.length - (i+1),by omega,rfl,hlt,p'⟩,fun x H' y=>?_⟩
   obtain ⟨e,y⟩:=y
   subst e
   exact hs i x σ _ (y xs q) p
 · have e:i=xs.length:=by omega
   subst e
   exact .inl ⟨⟨xs,q,Nat.le_refl _⟩,hd σ H p⟩
theorem zi {K:W.Frag} {a:Addr} {xs:List V} {g:TG} {tb:TS} {D:dU} {σ:St} {H:Hp} (Pv:Nat→St→Hp→Prop) (h0:Pv 0 σ H) (hl:∀ i σ H,i≤xs.length→Pv i σ H→SqT K H a xs)
   (hs:∀ i x σ H,xs[i]?=some x→Pv i σ H→g x σ H fun σ2 H2=>tb { D with nx:=Pv (i+1),ct:=Pv (i+1),bk:=D.nx } σ2 H2) (hd:∀ σ H,Pv xs.length σ H→D.nx σ H):
   ∃ W:Nat→Nat→St→Hp→Prop,(∃ m,W 0 m σ H)∧∀ i m σ H,W i m σ H→
    ((Itt K a).stop i H∧D.nx σ H)∨((Itt K a).go i H∧∃ N:St→Hp→Prop,(∀ σ' H',N σ' H'→∃ m',m'<m∧W (i+1) m' σ' H')∧∀ x H',(Itt K a).yld i H x H'→g x σ H' fun σ2 H2=>tb { D with nx:=N,ct:=N,bk:=D.nx } σ2 H2):=by
 refine ⟨fun i m σ H=>m=xs.length - i∧i≤xs.length∧Pv i σ H,⟨xs.length,by simp,Nat.zero_le _,h0⟩,?_⟩
 rintro i m σ H ⟨rfl,hi,p⟩
 have q:=hl i σ H hi p
 by_cases hlt:i<xs.length
 · refine .inr ⟨⟨xs,xs[i],q,by simp [hlt]⟩,Pv (i+1),fun σ' H' p'=>⟨xs.length - (i+1),by omega,rfl,hlt,p'⟩,fun x H' y=>?_⟩
   obtain ⟨e,y⟩:=y
   subst e
   exact hs i x σ _ (y xs q) p
 · have e:i=xs.length:=by omega
   subst e
   exact .inl ⟨⟨xs,q,Nat.le_refl _⟩,hd σ H p⟩
theorem gF {lo:Int} {n:Nat} {g:TG} {tb:TS} {D:dU} {σ:St} {H:Hp} (Pv:Nat→St→Hp→Prop) (h0:Pv 0 σ H)
   (hs:∀ i σ H,i<n→Pv i σ H→g (.int (lo+i)) σ H fun σ2 H2=>tb { D with nx:=Pv (i+1),ct:=Pv (i+1),bk:=D.nx } σ2 H2) (hd:∀ σ H,Pv n σ H→D.nx σ H):
   ∃ W:Nat→Nat→St→Hp→Prop,(∃ m,W 0 m σ H)∧∀ i m σ H,W i m σ H→
    ((Itr lo n).stop i H∧D.nx σ H)∨((Itr lo n).go i H∧∃ N:St→Hp→Prop,(∀ σ' H',N σ' H'→∃ m',m'<m∧W (i+1) m' σ' H')∧∀ x H',(Itr lo n).yld i H x H'→g x σ H' fun σ2 H2=>tb { D with nx:=N,ct:=N,bk:=D.nx } σ2 H2):=by
 refine ⟨fun i m σ H=>m=n - i∧i≤n∧Pv i σ H,⟨n,by simp,Nat.zero_le _,h0⟩,?_⟩
 rintro i m σ H ⟨rfl,hi,p⟩
 by_cases hlt:i<n
 · refine .inr ⟨hlt,Pv (i+1),fun σ' H' p'=>⟨n - (i+1),by omega,rfl,hlt,p'⟩,fun x H' y=>?_⟩
   obtain ⟨e,y⟩:=y
   subst e y
   exact hs i σ _ hlt p
 · have e:i=n:=by omega
   subst e
   exact .inl ⟨Nat.le_refl _,hd σ H p⟩
abbrev R2:=V→V→Hp→VK→Prop
def OpR (X:Cx) (f:Value→Value→Sem Value) (r:R2):Prop:=
 ∀ (pins:List (Addr×Obj)) (s:Shared) (σ:St) (H:Hp) (x y:V) (v u:Value) (Q:VK),Inv X pins σ H s→aS x v→aS y u→r x y H Q→
  wpAny (model X.prog X.w) X.A (f v u) (EP X pins σ Q) X.xe s
def UnR (X:Cx) (f:Value→Sem Value) (r:V→Hp→VK→Prop):Prop:=
 ∀ (pins:List (Addr×Obj)) (s:Shared) (σ:St) (H:Hp) (x:V) (v:Value) (Q:VK),Inv X pins σ H s→aS x v→r x H Q→
  wpAny (model X.prog X.w) X.A (f v) (EP X pins σ Q) X.xe s
def bv (X:Cx) (f:Value) (r:List V→Hp→VK→Prop):Prop:=
 ∀ (pins:List (Addr×Obj)) (s:Shared) (σ:St) (H:Hp) (xs:List V) (us:List Value) (Q:VK),Inv X pins σ H s→aR xs us→r xs H Q→
  wpAny (model X.prog X.w) X.A (call f us) (EP X pins σ Q) X.xe s
def Hn (X:Cx) (r:V→Hp→(Bool→Hp→Prop)→Prop):Prop:=
 ∀ (pins:List (Addr×Obj)) (s:Shared) (σ:St) (H:Hp) (x:V) (v:Value) (Q:Bool→Hp→Prop),Inv X pins σ H s→aS x v→r x H Q→
  wpAny (model X.prog X.w) X.A (truthy v) (TP X pins σ Q) X.xe s
def tOp (r:R2) (ta tb:TE):TE:=fun σ H Q=>ta σ H fun x H1=>tb σ H1 fun y H2=>r x y H2 Q
def tUn (r:V→Hp→VK→Prop) (ta:TE):TE:=fun σ H Q=>ta σ H fun x H1=>r x H1 Q
def rI (C:Int→Int→Prop) (g:Int→Int→V):R2:=fun x y H Q=>∃ i j,x=.int i∧y=.int j∧C i j∧Q (g i j) H
def rI0 (g:Int→Int→V):R2:=fun x y H Q=>∃ i j,x=.int i∧y=.int j∧Q (g i j) H
def rU (g:Int→V):V→Hp→VK→Prop:=fun x H Q=>∃ i,x=.int i∧Q (g i) H
section
variable {X:Cx} {a b c:Expr} {ta tb tc:TE} {pos:Pos}
theorem xm (ha:PE X a ta) (hb:PE X b tb) {pins:List (Addr×Obj)} {s:Shared} {σ:St} {H:Hp} {R:V→V→Hp→Prop} (I:Inv X pins σ H s)
  (h:ta σ H fun x H1=>tb σ H1 fun y H2=>R x y H2) {Q:Value→Shared→Prop} {f:Value→Value→Sem Value}
  (hf:∀ v u s2 x y H2,Inv X pins σ H2 s2→aS x v→aS y u→R x y H2→wpAny (model X.prog X.w) X.A (f v u) Q X.xe s2):
  wpAny (model X.prog X.w) X.A (eval a X.env) (fun v s₁=>wpAny (model X.prog X.w) X.A (eval b X.env) (fun u s₂=>wpAny (model X.prog X.w) X.A (f v u) Q X.xe s₂) X.xe s₁) X.xe s:=by
 refine thn (ha pins s σ H _ I h) fun v s1 ⟨x,H1,I1,r1,q1⟩=>?_
 refine thn (hb pins s1 σ H1 _ I1 q1) fun u s2 ⟨y,H2,I2,r2,q2⟩=>?_
 exact hf v u s2 x y H2 I2 r1 r2 q2
theorem Fk {op:Operator} {r:R2} (ho:OpR X (binaryOp op) r) (ha:PE X a ta) (hb:PE X b tb):PE X (.BinOp a op b pos) (tOp r ta tb):=by
 intro pins s σ H Q I h
 exact wpAny_BinOp (xm ha hb I h fun v u s2 x y H2 I2 rx ry q=>ho pins s2 σ H2 x y v u Q I2 rx ry q)
theorem Ff {op:UnaryOp} {r:V→Hp→VK→Prop} (ho:UnR X (unaryOp op) r) (ha:PE X a ta):PE X (.UnaryOp op a pos) (tUn r ta):=by
 intro pins s σ H Q I h
 exact UnaryOp_ (thn (ha pins s σ H _ I h) fun v s1 ⟨x,H1,I1,r1,q1⟩=>ho pins s1 σ H1 x v Q I1 r1 q1)
theorem opI {f:Value→Value→Sem Value} {C:Int→Int→Prop} {g:Int→Int→Int}
  (rule:∀ (i j:Int) (t u:Tok) (s:Shared) (Q:Value→Shared→Prop) (E:Value→Shared→Prop),C i j→Q (.int (g i j) s.toks) { s with toks:=s.toks+1 }→wpAny (model X.prog X.w) X.A (f (.int i t) (.int j u)) Q E s):
  OpR X f (rI C fun i j=> .int (g i j)):=by
 intro pins s σ H x y v u Q I rx ry h
 obtain ⟨i,j,rfl,rfl,hc,q⟩:=h
 obtain ⟨t,rfl⟩:=rx
 obtain ⟨t',rfl⟩:=ry
 exact rule i j t t' s _ _ hc ⟨.int (g i j),H,I.tok _,⟨_,rfl⟩,q⟩
theorem Bx {f:Value→Value→Sem Value} {g:Int→Int→Int}
  (rule:∀ (i j:Int) (t u:Tok) (s:Shared) (Q:Value→Shared→Prop) (E:Value→Shared→Prop),Q (.int (g i j) s.toks) { s with toks:=s.toks+1 }→wpAny (model X.prog X.w) X.A (f (.int i t) (.int j u)) Q E s):
  OpR X f (rI0 fun i j=> .int (g i j)):=by
 intro pins s σ H x y v u Q I rx ry h
 obtain ⟨i,j,rfl,rfl,q⟩:=h
 obtain ⟨t,rfl⟩:=rx
 obtain ⟨t',rfl⟩:=ry
 exact rule i j t t' s _ _ ⟨.int (g i j),H,I.tok _,⟨_,rfl⟩,q⟩
theorem sD {f:Value→Value→Sem Value} {g:Int→Int→Bool}
  (rule:∀ (i j:Int) (t u:Tok) (s:Shared) (Q:Value→Shared→Prop) (E:Value→Shared→Prop),Q (.bool (g i j)) s→wpAny (model X.prog X.w) X.A (f (.int i t) (.int j u)) Q E s):
  OpR X f (rI0 fun i j=> .bl (g i j)):=by
 intro pins s σ H x y v u Q I rx ry h
 obtain ⟨i,j,rfl,rfl,q⟩:=h
 obtain ⟨t,rfl⟩:=rx
 obtain ⟨t',rfl⟩:=ry
 exact rule i j t t' s _ _ ⟨.bl (g i j),H,I,rfl,q⟩
def Bn (i j:Int):Prop:=0≤j∧j≤1000000∧i.natAbs<2^64
theorem Bc:OpR X (binaryOp .Add) (rI0 fun i j=> .int (i+j)):=Bx fun _ _ _ _ _ _ _ q=>add_int q
theorem Co:OpR X (binaryOp .Sub) (rI0 fun i j=> .int (i - j)):=Bx fun _ _ _ _ _ _ _ q=>sub_int q
theorem Ba:OpR X (binaryOp .Mod) (rI (fun _ j=>0<j) fun i j=> .int (i%j)):=opI fun i j _ _ _ _ _ hc q=>by
 have h1:(0:Int)<j:=hc
 exact mod_int' (by omega) (by rw [Int.fmod_eq_emod_of_nonneg i (by omega)];exact q)
theorem Cq:OpR X (binaryOp .Pow) (rI Bn fun i j=> .int (i^j.toNat)):=opI fun _ _ _ _ _ _ _ hc q=>pow_int_small hc.1 hc.2.1 hc.2.2 q
theorem AO:OpR X (binaryOp .LShift) (rI Bn fun i j=> .int (i*2^j.toNat)):=opI fun _ _ _ _ _ _ _ hc q=>lshift_int_small hc.1 hc.2.1 hc.2.2 q
theorem unI {f:Value→Sem Value} {g:Int→Int}
  (rule:∀ (i:Int) (t:Tok) (s:Shared) (Q:Value→Shared→Prop) (E:Value→Shared→Prop),Q (.int (g i) s.toks) { s with toks:=s.toks+1 }→wpAny (model X.prog X.w) X.A (f (.int i t)) Q E s):
  UnR X f (rU fun i=> .int (g i)):=by
 intro pins s σ H x v Q I rx h
 obtain ⟨i,rfl,q⟩:=h
 obtain ⟨t,rfl⟩:=rx
 exact rule i t s _ _ ⟨.int (g i),H,I.tok _,⟨_,rfl⟩,q⟩
theorem Au:UnR X (unaryOp .USub) (rU fun i=> .int (-i)):=unI fun _ _ _ _ _ q=>neg_int q
end
def BU:V→V→Bool
 | .non,.non=>true | .non,.int _=>true | .int _,.non=>true | .non,.bl _=>true | .bl _,.non=>true | .non,.str _=>true | .str _,.non=>true
 | .int _,.int _=>true | .bl _,.bl _=>true | .str _,.str _=>true | .byt _,.byt _=>true
 | .int _,.str _=>true | .str _,.int _=>true | .bl _,.str _=>true | .str _,.bl _=>true
 | _,_=>false
def rEq:R2:=fun x y H Q=>BU x y=true∧Q (.bl (decide (x=y))) H
def rNe:R2:=fun x y H Q=>BU x y=true∧Q (.bl (!decide (x=y))) H
theorem rQ {i j:Int}:decide (V.int i=V.int j)=(i==j):=by
 rw [Bool.eq_iff_iff]
 simp
theorem uR {i j:Bool}:decide (V.bl i=V.bl j)=(i==j):=by
 rw [Bool.eq_iff_iff]
 simp
theorem rj {i j:Str}:decide (V.str i=V.str j)=(i==j):=by
 rw [Bool.eq_iff_iff]
 simp
theorem rg {i j:Array UInt8}:decide (V.byt i=V.byt j)=(i.toList==j.toList):=by
 rw [Bool.eq_iff_iff]
 cases i
 cases j
 simp
section
variable {X:Cx} {a b c:Expr} {ta tb tc:TE} {pos:Pos}
theorem bi {pins:List (Addr×Obj)} {σ:St} {H:Hp} {s:Shared} {Q:VK} {k k':Bool} (I:Inv X pins σ H s) (q:Q (.bl k) H) (e:k=k'):EP X pins σ Q (.bool k') s:=by
 subst e
 exact ⟨.bl k,H,I,rfl,q⟩
theorem ET : OpR X (compareOp .Eq) rEq := by
  intro pins s σ H x y v u Q I rx ry h
  obtain ⟨hs, q⟩ := h
  cases x with
  | non =>
    cases rx
    cases y with
    | non => cases ry; exact PySem.EqNone.eq_none_none (bi I q (by simp))
    | bl j => cases ry; exact PySem.EqNone.eq_none_bool (bi I q (by simp))
    | int j => obtain ⟨t', rfl⟩ := ry; exact PySem.EqNone.eq_none_int (bi I q (by simp))
    | str j => obtain ⟨t', rfl⟩ := ry; exact PySem.EqNone.eq_none_str (bi I q (by simp))
    | _ => exact absurd (show false = true from hs) Bool.false_ne_true
  | bl i =>
    cases rx
    cases y with
    | non => cases ry; exact PySem.EqNone.eq_bool_none (bi I q (by simp))
    | bl j => cases ry; exact eq_bool (bi I q uR)
    | str j => obtain ⟨t', rfl⟩ := ry; exact PySem.EqMixed.eq_bool_str (bi I q (by simp))
    | _ => exact absurd (show false = true from hs) Bool.false_ne_true
  | int i =>
    obtain ⟨t, rfl⟩ := rx
    cases y with
    | non => cases ry; exact PySem.EqNone.eq_int_none (bi I q (by simp))
    | int j => obtain ⟨t', rfl⟩ := ry; exact eq_int (bi I q rQ)
    | str j => obtain ⟨t', rfl⟩ := ry; exact PySem.EqMixed.eq_int_str (bi I q (by simp))
    | _ => exact absurd (show false = true from hs) Bool.false_ne_true
  | str i =>
    obtain ⟨t, rfl⟩ := rx
    cases y with
    | non => cases ry; exact PySem.EqNone.eq_str_none (bi I q (by simp))
    | bl j => cases ry; exact PySem.EqMixed.eq_str_bool (bi I q (by simp))
    | int j => obtain ⟨t', rfl⟩ := ry; exact PySem.EqMixed.eq_str_int (bi I q (by simp))
    | str j => obtain ⟨t', rfl⟩ := ry; exact eq_str (bi I q rj)
    | _ => exact absurd (show false = true from hs) Bool.false_ne_true
  | byt i =>
    obtain ⟨t, rfl⟩ := rx
    cases y with
    | byt j => obtain ⟨t', rfl⟩ := ry; exact W.eq_bytes (bi I q rg)
    | _ => exact absurd (show false = true from hs) Bool.false_ne_true
  | _ => cases y <;> exact absurd (show false = true from hs) Bool.false_ne_true
theorem Fj : OpR X (compareOp .NotEq) rNe := by
  intro pins s σ H x y v u Q I rx ry h
  obtain ⟨hs, q⟩ := h
  cases x with
  | non =>
    cases rx
    cases y with
    | non => cases ry; exact PySem.EqNone.ne_none_none (bi I q (by simp))
    | bl j => cases ry; exact PySem.EqNone.ne_none_bool (bi I q (by simp))
    | int j => obtain ⟨t', rfl⟩ := ry; exact PySem.EqNone.ne_none_int (bi I q (by simp))
    | str j => obtain ⟨t', rfl⟩ := ry; exact PySem.EqNone.ne_none_str (bi I q (by simp))
    | _ => exact absurd (show false = true from hs) Bool.false_ne_true
  | bl i =>
    cases rx
    cases y with
    | non => cases ry; exact PySem.EqNone.ne_bool_none (bi I q (by simp))
    | bl j => cases ry; exact ne_bool (bi I q (congrArg not uR))
    | str j => obtain ⟨t', rfl⟩ := ry; exact PySem.EqMixed.ne_bool_str (bi I q (by simp))
    | _ => exact absurd (show false = true from hs) Bool.false_ne_true
  | int i =>
    obtain ⟨t, rfl⟩ := rx
    cases y with
    | non => cases ry; exact PySem.EqNone.ne_int_none (bi I q (by simp))
    | int j => obtain ⟨t', rfl⟩ := ry; exact ne_int (bi I q (congrArg not rQ))
    | str j => obtain ⟨t', rfl⟩ := ry; exact PySem.EqMixed.ne_int_str (bi I q (by simp))
    | _ => exact absurd (show false = true from hs) Bool.false_ne_true
  | str i =>
    obtain ⟨t, rfl⟩ := rx
    cases y with
    | non => cases ry; exact PySem.EqNone.ne_str_none (bi I q (by simp))
    | bl j => cases ry; exact PySem.EqMixed.ne_str_bool (bi I q (by simp))
    | int j => obtain ⟨t', rfl⟩ := ry; exact PySem.EqMixed.ne_str_int (bi I q (by simp))
    | str j => obtain ⟨t', rfl⟩ := ry; exact ne_str (bi I q (congrArg not rj))
    | _ => exact absurd (show false = true from hs) Bool.false_ne_true
  | byt i =>
    obtain ⟨t, rfl⟩ := rx
    cases y with
    | byt j => obtain ⟨t', rfl⟩ := ry; exact W.ne_bytes (bi I q (congrArg not rg))
    | _ => exact absurd (show false = true from hs) Bool.false_ne_true
  | _ => cases y <;> exact absurd (show false = true from hs) Bool.false_ne_true
theorem DX:OpR X (compareOp .Lt) (rI0 fun i j=> .bl (decide (i<j))):=sD fun _ _ _ _ _ _ _ q=>lt_int q
theorem EG:OpR X (compareOp .LtE) (rI0 fun i j=> .bl (decide (i≤j))):=sD fun _ _ _ _ _ _ _ q=>le_int q
theorem El:OpR X (compareOp .Gt) (rI0 fun i j=> .bl (decide (j<i))):=sD fun _ _ _ _ _ _ _ q=>gt_int q
theorem EM:OpR X (compareOp .GtE) (rI0 fun i j=> .bl (decide (j≤i))):=sD fun _ _ _ _ _ _ _ q=>ge_int q
theorem Ao:OpR X (compareOp .Is) (fun x y H Q=>y=.non∧Q (.bl (decide (x=.non))) H):=by
 intro pins s σ H x y v u Q I rx ry h
 obtain ⟨rfl,q⟩:=h
 cases ry
 refine is_none_gen (bi I q ?_)
 cases x <;> first
  | (cases rx;rfl)
  | (obtain ⟨t,rfl⟩:=rx;rfl)
theorem OpR.or {f:Value→Value→Sem Value} {r r':R2} (h:OpR X f r) (h':OpR X f r'):OpR X f (fun x y H Q=>r x y H Q∨r' x y H Q):=by
 intro pins s σ H x y v u Q I rx ry q
 rcases q with q | q
 · exact h pins s σ H x y v u Q I rx ry q
 · exact h' pins s σ H x y v u Q I rx ry q
theorem kZ (b:Expr) {op:CmpOp} (h:op≠ .In:=by decide) (h2:op≠ .NotIn:=by decide):behindInMarks op b=false:=by
 have e1:(op==CmpOp.In)=false:=by cases op <;> first | rfl | exact absurd rfl h
 have e2:(op==CmpOp.NotIn)=false:=by cases op <;> first | rfl | exact absurd rfl h2
 cases b <;> simp [behindInMarks,e1,e2]
theorem zy {op:CmpOp} {r:R2} (ho:OpR X (compareOp op) r) (ha:PE X a ta) (hb:PE X b tb) (hm:behindInMarks op b=false):PE X (.Compare a [op] [b] pos) (tOp r ta tb):=by
 intro pins s σ H Q I h
 exact wpAny_Compare1 (xm ha hb I h fun v u s2 x y H2 I2 rx ry q=>ho pins s2 σ H2 x y v u Q I2 rx ry q) hm
def BF (K:W.Frag) (x:V) (H:Hp) (k:Bool):Prop:=
 match x with
 | .non=>k=false
 | .bl b=>k=b
 | .int i=>k=(i !=0)
 | .str y=>y.length≤sizeLine∧k=((y.length:Int) !=0)
 | .byt y=>y.size≤sizeLine∧k=((y.size:Int) !=0)
 | .ref p=>(∃ xs,SqL K H p xs∧k= !xs.isEmpty)∨(∃ xs,SqT K H p xs∧k= !xs.isEmpty)∨∃ kvs,H p=some (.dK kvs)∧k= !kvs.isEmpty
 | _=>False
theorem sG {κ:Type} {kvs:List (κ×V)} {vs:List (κ×Value)} (r:KV kvs vs):(!vs.isEmpty)= !kvs.isEmpty:=by
 cases r <;> rfl
theorem ls {xs:List V} {its:List Value} (r:aR xs its):(!its.toArray.isEmpty)= !xs.isEmpty:=by
 cases r <;> simp
theorem gP:(sizeLine:Nat)<2^63:=by rw [sizeLine_eq];decide
theorem DH : Hn X (fun x H Q => ∃ k, BF X.K x H k ∧ Q k H) := by
  intro pins s σ H x v Q I rx h
  obtain ⟨k, e, q⟩ := h
  have hl := gP
  have hs : sizeLine = 16777216 := sizeLine_eq
  cases x with
  | non =>
    cases rx
    have e' : k = false := e
    subst e'
    exact truthy_none ⟨H, I, q⟩
  | bl b =>
    cases rx
    have e' : k = b := e
    subst e'
    exact wpAny_truthy_bool ⟨H, I, q⟩
  | int i =>
    obtain ⟨t, rfl⟩ := rx
    have e' : k = (i != 0) := e
    subst e'
    exact PySem.P.truthy_int ⟨H, I, q⟩
  | str y =>
    obtain ⟨t, rfl⟩ := rx
    obtain ⟨hy, e'⟩ : y.length ≤ sizeLine ∧ k = ((y.length : Int) != 0) := e
    subst e'
    exact PySem.P.truthy_str (by omega) ⟨H, I.tok _, q⟩
  | byt y =>
    obtain ⟨t, rfl⟩ := rx
    obtain ⟨hy, e'⟩ : y.size ≤ sizeLine ∧ k = ((y.size : Int) != 0) := e
    subst e'
    exact W.truthy_bytes (by omega) ⟨H, I.tok _, q⟩
  | ref p =>
    cases rx
    have e' : (∃ xs, SqL X.K H p xs ∧ k = !xs.isEmpty) ∨ (∃ xs, SqT X.K H p xs ∧ k = !xs.isEmpty) ∨ ∃ kvs, H p = some (.dK kvs) ∧ k = !kvs.isEmpty := e
    rcases e' with ⟨xs, hx, e'⟩ | ⟨xs, hx, e'⟩ | ⟨kvs, hx, e'⟩
    · subst e'
      obtain ⟨its, r, pl, hz⟩ := I.list hx
      have hlen := r.length
      exact wpAny_truthy_list pl.isList (by simp only [List.size_toArray]; omega) ⟨H, I.tok _, by rw [ls r]; exact q⟩
    · subst e'
      obtain ⟨its, r, pl, hz⟩ := I.tuple hx
      have hlen := r.length
      exact truthy_tuple pl (by simp only [List.size_toArray]; omega) ⟨H, I.tok _, by rw [ls r]; exact q⟩
    · subst e'
      obtain ⟨hz, hS, vs, r, m⟩ : kvs.length ≤ sizeLine ∧ (p == sysModules) = false ∧ ∃ vs, KV kvs vs ∧ s.heap.DictOf (cf X.prog X.w) p vs := I.hok p _ hx
      have hlen : kvs.length = vs.length := Paired.length r
      exact wpAny_truthy_dict hS m (by omega) ⟨H, I.tok _, by rw [sG r]; exact q⟩
  | _ => exact (show False from e).elim
theorem sK:OpR X (binaryOp .Add) (fun x y H Q=>∃ i j,x=.str i∧y=.str j∧i.length+j.length≤sizeLine∧Q (.str (i++j)) H):=by
 intro pins s σ H x y v u Q I rx ry h
 obtain ⟨i,j,rfl,rfl,hz,q⟩:=h
 obtain ⟨t,rfl⟩:=rx
 obtain ⟨t',rfl⟩:=ry
 exact add_str (fun t' tk=>⟨.str (i++j),H,I.tok _,⟨_,rfl⟩,q⟩) hz
theorem dZ {x:V} {us:List Value} (r:aR [x] us):∃ u,us=[u]∧aS x u:=by
 cases r with
 | cons r1 r2=>cases r2;exact ⟨_,rfl,r1⟩
theorem jY {x y : V} {us : List Value} (r : aR [x, y] us) : ∃ u w', us = [u, w'] ∧ aS x u ∧ aS y w' := by
  cases r with
  | cons r1 r2 =>
    cases r2 with
    | cons r3 r4 => cases r4; exact ⟨_, _, rfl, r1, r3⟩
theorem uX (hc:X.calm=true):bv X (.builtin "max") (fun xs H Q=>∃ i j,xs=[.int i,.int j]∧Q (.int (if j>i then j else i)) H):=by
 intro pins s σ H xs us Q I r h
 obtain ⟨i,j,rfl,q⟩:=h
 obtain ⟨u,w',rfl,⟨t,rfl⟩,⟨t',rfl⟩⟩:=jY r
 refine max_two_ints (I.ok.hd hc) fun h' tk k=>⟨_,H,I.kept k,?_,q⟩
 by_cases hj:j>i
 · rw [if_pos hj,if_pos hj];exact ⟨_,rfl⟩
 · rw [if_neg hj,if_neg hj];exact ⟨_,rfl⟩
theorem va (hc:X.calm=true):bv X (.builtin "min") (fun xs H Q=>∃ i j,xs=[.int i,.int j]∧Q (.int (if j<i then j else i)) H):=by
 intro pins s σ H xs us Q I r h
 obtain ⟨i,j,rfl,q⟩:=h
 obtain ⟨u,w',rfl,⟨t,rfl⟩,⟨t',rfl⟩⟩:=jY r
 refine min_two_ints (I.ok.hd hc) fun h' tk k=>⟨_,H,I.kept k,?_,q⟩
 by_cases hj:j<i
 · rw [if_pos hj,if_pos hj];exact ⟨_,rfl⟩
 · rw [if_neg hj,if_neg hj];exact ⟨_,rfl⟩
theorem pZ:bv X (.type "str") (fun xs H Q=>∃ i,xs=[.int i]∧i.natAbs.log2<1920∧Q (.str (toString i)) H):=by
 intro pins s σ H xs us Q I r h
 obtain ⟨i,rfl,hz,q⟩:=h
 obtain ⟨u,rfl,t,rfl⟩:=dZ r
 exact PySem.P.str_of_int hz ⟨.str _,H,I.tok _,⟨_,rfl⟩,q⟩
def GX (K:W.Frag) (x:V) (H:Hp) (n:Nat):Prop:=
 match x with
 | .str y=>y.length≤sizeLine∧n=y.length
 | .byt y=>y.size≤sizeLine∧n=y.size
 | .ref p=>(∃ xs,SqL K H p xs∧n=xs.length)∨∃ xs,SqT K H p xs∧n=xs.length
 | _=>False
theorem kO : bv X (.builtin "len") (fun xs H Q => ∃ x n, xs = [x] ∧ GX X.K x H n ∧ Q (.int n) H) := by
  intro pins s σ H xs us Q I r h
  obtain ⟨x, n, rfl, e, q⟩ := h
  obtain ⟨u, rfl, rx⟩ := dZ r
  have hl := gP
  have hs : sizeLine = 16777216 := sizeLine_eq
  cases x with
  | str y =>
    obtain ⟨t, rfl⟩ := rx
    obtain ⟨hy, e'⟩ : y.length ≤ sizeLine ∧ n = y.length := e
    subst e'
    exact len_str (by omega) ⟨.int _, H, I.tok _, ⟨_, rfl⟩, q⟩
  | byt y =>
    obtain ⟨t, rfl⟩ := rx
    obtain ⟨hy, e'⟩ : y.size ≤ sizeLine ∧ n = y.size := e
    subst e'
    exact W.len_bytes (by omega) ⟨.int _, H, I.tok _, ⟨_, rfl⟩, q⟩
  | ref p =>
    cases rx
    have e' : (∃ xs, SqL X.K H p xs ∧ n = xs.length) ∨ ∃ xs, SqT X.K H p xs ∧ n = xs.length := e
    rcases e' with ⟨xs, hx, e'⟩ | ⟨xs, hx, e'⟩
    · subst e'
      obtain ⟨its, r', pl, hz⟩ := I.list hx
      have hlen := r'.length
      exact Calls.call_len_list pl.isList (by simp only [List.size_toArray]; omega) ⟨.int xs.length, H, I.tok _, ⟨_, by simp only [List.size_toArray]; rw [hlen]⟩, q⟩
    · subst e'
      obtain ⟨its, r', pl, hz⟩ := I.tuple hx
      have hlen := r'.length
      exact len_tuple pl (by simp only [List.size_toArray]; omega) ⟨.int xs.length, H, I.tok _, ⟨_, by simp only [List.size_toArray]; rw [hlen]⟩, q⟩
  | _ => exact (show False from e).elim
end
structure kC (h:Heap) (x dx C:Addr) (mA:Str→Option Value):Prop where
 obj:h.get? x=some (W.instObj C dx)
 ns:h.Ns1 dx mA
 ne:dx≠x
theorem uD {h:Heap} {dx:Addr} {mA:Str→Option Value} (n:h.Ns1 dx mA):∃ od,h.get? dx=some od∧∀ name,W.lookIn name od=some (mA name):=by
 obtain ⟨o,es,ep,ho,hd,hk,_,hm⟩:=n
 refine ⟨o,ho,fun name=>?_⟩
 have e:=hm name
 unfold nsFind findBy at e
 rw [← Array.find?_toList] at e
 unfold W.lookIn
 rw [hd]
 dsimp only
 split
 · rename_i y q
   rw [q] at e
   exact congrArg some e
 · rename_i q
   rw [q] at e
   have a:es.toList.any (·.refKey)=false:=by
    rw [List.any_eq_false]
    intro y hy
    obtain ⟨z,t,hkey⟩:=hk y (Array.mem_toList_iff.mp hy)
    simp [DictEntry.refKey,hkey]
   have a':¬ es.toList.any (·.refKey)=true:=by rw [a];exact Bool.false_ne_true
   rw [if_neg a']
   exact congrArg some e
theorem kC.look {h:Heap} {x dx C:Addr} {mA:Str→Option Value} (I:kC h x dx C mA):∃ od,W.InstAt h x (W.instObj C dx) C (some od)∧∀ name,W.lookIn name od=some (mA name):=
 let ⟨od,ho,hl⟩:=uD I.ns
 ⟨od,⟨I.obj,rfl,rfl,ho⟩,hl⟩
section
variable {prog:Program} {w:World} {A:Around} {E:Value→Shared→Prop} {s:Shared} {K:W.Frag} {x dx C f:Addr} {mA:Str→Option Value} {name:Str} {v:Value}
theorem zq {expr:Bool} {Q:Value→Shared→Prop} (X:K.In s.heap) (I:kC s.heap x dx C mA) (hg:W.plainGet K C name=true) (hh:W.hasDictIn K C=true)
  (ha:W.findIn K (.ref C) name=some none) (hv:mA name=some v) (hv':W.handedIn v=true) (h:Q v { s with toks:=s.toks+1 }):
  wpAny (model prog w) A (getAttr (.ref x) name expr) Q E s:=by
 obtain ⟨od,J,hl⟩:=I.look
 exact W.get_value X J (W.plainGet_of hg).1 (W.findObj_own hh ha rfl (by rw [hl,hv])) hv' h
theorem yj {pl:Sem Bool} {Q:Value×List Value→Shared→Prop} (X:K.In s.heap) (I:kC s.heap x dx C mA) (hg:W.plainGet K C name=true)
  (hf:W.findIn K (.ref C) name=some (some (.ref f))) (ht:W.isFn K (.ref f)=true) (hv:mA name=none) (h:Q (.ref f,[.ref x]) s):
  wpAny (model prog w) A (getMethod (.ref x) name pl) Q E s:=by
 obtain ⟨od,J,hl⟩:=I.look
 exact W.method_fn X J (W.plainGet_of hg).1 (W.plainGet_of hg).2 hf (beq_iff_eq.mp ht) (by show (W.lookIn name od).map (·.isSome)=some false;rw [hl,hv];rfl) h
theorem Aj {ns:List Str} {Q:Unit→Shared→Prop} (X:K.In s.heap) (I:kC s.heap x dx C mA)
  (hs:W.findIn K (.ref C) "__setattr__" =some (some (.builtin "object.__setattr__"))) (hp:W.plainOver K C=true) (ht:W.takerIn K C name=some none) (hh:W.hasDictIn K C=true)
  (hw:PySem.Within mA ns) (hsz:ns.length≤sizeLine)
  (h:∀ h',kC h' x dx C (fun y=>if y=name then some v else mA y)→Heap.SameBut dx s.heap h'→Q () { s with heap:=h',toks:=s.toks+2 }):
  wpAny (model prog w) A (setAttr (.ref x) name v) Q E s:=by
 obtain ⟨od,J,hl⟩:=I.look
 refine W.set_plain X J hs (W.osa_open (s:={ s with toks:=s.toks+1 }) (r:=none) X J hp ht fun b=>?_)
 obtain ⟨cd,hc,hd'⟩:=W.any_some hh
 have hx:s.heap.get? x=some ⟨.ref C,some dx,.plain,#[]⟩:=I.obj
 refine wpAny_bind (wpAny_pure (wpAny_bind (wpAny_bind (wpAny_loadPart hx (wpAny_bind (W.Looks.here (s:={ s with toks:=s.toks+1 }) (W.looks_clsIn X hc) ?_))))))
 rw [hd']
 refine wpAny_pure (a:=some dx) (wpAny_bind (wpAny_pure (wpAny_bind ?_)))
 refine wpAny_nsSet1 (s:={ s with toks:=s.toks+1 }) I.ns fun h' hn2 hs2=>?_
 obtain ⟨oD,esD,epD,hoD,hdD,hcD⟩:=hn2.count (PySem.Within.cons name v hw)
 refine wpAny_bind (wpAny_lookBehind hoD (by rw [hdD];exact pastItsLine_dict (Nat.le_trans hcD (by rw [List.length_cons];omega))) ?_)
 exact wpAny_pure (h _ ⟨(hs2.2 _ (Ne.symm I.ne)).trans I.obj,hn2,I.ne⟩ hs2)
theorem vQ {R : Result → Shared → Prop} {vs : List Value} {kw : List (Str × Value)} (X : K.In s.heap) (hm : W.makesIn K C = true)
  (hi : W.findIn K (.ref C) "__init__" = some (some (.ref f))) (hf : W.typeIn K (.ref f) = some (.type "function"))
  (h : codeAny (model prog w) (A.under (.builtin "type.__call__" ⟨.ref C :: vs, kw⟩)) (.call (.ref f) ⟨.ref (s.heap.objs.size + 1) :: vs, kw⟩) (W.InitBack (s.heap.objs.size + 1) R)
   { s with heap := (s.heap.push W.emptyDict).push (W.instObj C s.heap.objs.size) }) :
  codeAny (model prog w) A (.call (.ref C) ⟨vs, kw⟩) R s := by
 obtain ⟨hh, g, d, t, os⟩ := s
 exact W.make_core (W.makes_of X hm) (W.looks_findIn X hi) (fun self => W.bind_fn X self hf) (.inl rfl) h
end
def dz (f:Str) (v:V):List (Str×V)→List (Str×V)
 | []=>[(f,v)]
 | (g,x)::r=>if g=f then (g,v)::r else (g,x)::dz f v r
theorem gL (f g : Str) (v : V) : ∀ fs : List (Str × V), (dz f v fs).lookup g = if g = f then some v else fs.lookup g
  | [] => by
    show List.lookup g [(f, v)] = _
    by_cases h : g = f
    · have hb : (g == f) = true := beq_iff_eq.mpr h
      simp only [List.lookup, hb, if_pos h]
    · have hb : (g == f) = false := beq_eq_false_iff_ne.mpr h
      simp only [List.lookup, hb, if_neg h]
  | (k, x) :: r => by
    have ih := gL f g v r
    rw [show dz f v ((k, x) :: r) = (if k = f then (k, v) :: r else (k, x) :: dz f v r) from rfl]
    by_cases hk : k = f
    · rw [if_pos hk]
      by_cases h : g = k
      · have hb : (g == k) = true := beq_iff_eq.mpr h
        simp only [List.lookup, hb, if_pos (h.trans hk)]
      · have hb : (g == k) = false := beq_eq_false_iff_ne.mpr h
        simp only [List.lookup, hb, if_neg (fun e : g = f => h (e.trans hk.symm))]
    · rw [if_neg hk]
      by_cases h : g = k
      · have hb : (g == k) = true := beq_iff_eq.mpr h
        simp only [List.lookup, hb, if_neg (fun e : g = f => hk (h.symm.trans e))]
      · have hb : (g == k) = false := beq_eq_false_iff_ne.mpr h
        simp only [List.lookup, hb]
        exact ih
theorem je (f : Str) (v : V) : ∀ fs : List (Str × V), f ∈ (dz f v fs).map (·.1) ∧ ∀ g, g ∈ fs.map (·.1) → g ∈ (dz f v fs).map (·.1)
  | [] => ⟨by simp [dz], fun g h => by simp at h⟩
  | (k, x) :: r => by
    obtain ⟨i1, i2⟩ := je f v r
    rw [show dz f v ((k, x) :: r) = (if k = f then (k, v) :: r else (k, x) :: dz f v r) from rfl]
    by_cases hk : k = f
    · rw [if_pos hk]
      subst hk
      exact ⟨by simp, fun g h => by simpa using h⟩
    · rw [if_neg hk]
      refine ⟨?_, fun g h => ?_⟩
      · rw [List.map_cons]
        exact List.mem_cons_of_mem _ i1
      · rw [List.map_cons] at h ⊢
        rcases List.mem_cons.mp h with e | e
        · exact List.mem_cons.mpr (.inl e)
        · exact List.mem_cons_of_mem _ (i2 g e)
theorem ki (f : Str) (v : V) : ∀ fs : List (Str × V), (dz f v fs).length ≤ fs.length + 1
  | [] => by simp [dz]
  | (k, x) :: r => by
    have ih := ki f v r
    rw [show dz f v ((k, x) :: r) = (if k = f then (k, v) :: r else (k, x) :: dz f v r) from rfl]
    by_cases hk : k = f
    · rw [if_pos hk, List.length_cons, List.length_cons]; omega
    · rw [if_neg hk, List.length_cons, List.length_cons]; omega
theorem cC.some_of {v:V} {o:Option Value} (r:cC (some v) o):∃ u,o=some u∧aS v u:=by
 cases o with
 | none=>exact (show False from r).elim
 | some u=>exact ⟨u,rfl,r⟩
theorem cC.none_of {o:Option Value} (r:cC none o):o=none:=by
 cases o with
 | none=>rfl
 | some u=>exact (show False from r).elim
theorem vq {v:V} {u:Value} (r:aS v u):W.handedIn u=true:=by
 cases v with
 | non=>cases (show u=Value.none from r);rfl
 | bl b=>cases (show u=Value.bool b from r);rfl
 | int i=>obtain ⟨t,e⟩:=(show ∃ t,u=Value.int i t from r);cases e;rfl
 | str x=>obtain ⟨t,e⟩:=(show ∃ t,u=Value.str x t from r);cases e;rfl
 | byt b=>obtain ⟨t,e⟩:=(show ∃ t,u=Value.bytes b t from r);cases e;rfl
 | flt b=>obtain ⟨t,e⟩:=(show ∃ t,u=Value.float b t from r);cases e;rfl
 | ref a=>cases (show u=Value.ref a from r);rfl
 | ty n=>cases (show u=Value.type n from r);rfl
section
variable {P:Program} {w:World} {H H':Hp} {h h':Heap} {a C dx:Addr} {fs fs':List (Str×V)}
theorem gW (hok:HOk P w H h) (e:H a=some (.ins C dx fs)):∃ mA,kC h a dx C mA∧(∀ f,cC (fs.lookup f) (mA f))∧PySem.Within mA (fs.map (·.1))∧fs.length≤1000∧H dx=some (.own a):=by
 obtain ⟨d,z,ne,ob,mA,n,r,q⟩:=(show aU P w H h a (.ins C dx fs) from hok a _ e)
 exact ⟨mA,⟨ob,n,ne⟩,r,q,z,d⟩
end
structure Cls (K:W.Frag) (C:Addr):Prop where
 pg:W.plainGet K C Str.empty=true
 hd:W.hasDictIn K C=true
 po:W.plainOver K C=true
 sa:W.findIn K (.ref C) "__setattr__" =some (some (.builtin "object.__setattr__"))
theorem Cls.get {K:W.Frag} {C:Addr} (c:Cls K C) (f:Str):W.plainGet K C f=true:=c.pg
def du (K:W.Frag) (C:Addr) (f:Str):Prop:=W.findIn K (.ref C) f=some none
theorem du.taker {K:W.Frag} {C:Addr} {f:Str} (n:du K C f):W.takerIn K C f=some none:=by
 unfold W.takerIn
 rw [show W.findIn K (.ref C) f=some none from n]
 rfl
structure gf (K:W.Frag) (C:Addr) (m:Str) (f:Addr):Prop where
 at_:W.findIn K (.ref C) m=some (some (.ref f))
 fn:W.isFn K (.ref f)=true
 kp:W.keepIn K (.ref f)=true
section
variable {X:Cx} {pins:List (Addr×Obj)} {σ:St} {H:Hp} {s:Shared} {a C dx:Addr} {fs:List (Str×V)} {f:Str} {v:V} {A:Around} {E:Value→Shared→Prop}
theorem lS {b:Bool} {Q:Value→Shared→Prop} (I:Inv X pins σ H s) (e:H a=some (.ins C dx fs)) (c:Cls X.K C) (n:du X.K C f) (l:fs.lookup f=some v)
  (h:∀ u s',Inv X pins σ H s'→aS v u→Q u s'):wpAny (model X.prog X.w) A (getAttr (.ref a) f b) Q E s:=by
 obtain ⟨mA,O,r,_,_,_⟩:=gW I.hok e
 obtain ⟨u,hu,ru⟩:=cC.some_of (v:=v) (o:=mA f) (by rw [← l];exact r f)
 exact zq I.kIn O (c.get f) c.hd n hu (vq ru) (h u _ (I.tok _) ru)
theorem kX {m:Str} {g:Addr} {pl:Sem Bool} {Q:Value×List Value→Shared→Prop} (I:Inv X pins σ H s) (e:H a=some (.ins C dx fs)) (c:Cls X.K C) (k:gf X.K C m g) (l:fs.lookup m=none)
  (h:Q (.ref g,[.ref a]) s):wpAny (model X.prog X.w) A (getMethod (.ref a) m pl) Q E s:=by
 obtain ⟨mA,O,r,_,_,_⟩:=gW I.hok e
 have hn:mA m=none:=cC.none_of (by rw [← l];exact r m)
 exact yj I.kIn O (c.get m) k.at_ k.fn hn h
theorem tO {y:V} {u:Value} {Q:Unit→Shared→Prop} (I:Inv X pins σ H s) (e:H a=some (.ins C dx fs)) (c:Cls X.K C) (n:du X.K C f) (hl:fs.length<1000) (ry:aS y u)
   (h:∀ s',Inv X pins σ (upd H a (.ins C dx (dz f y fs))) s'→Q () s'):wpAny (model X.prog X.w) A (setAttr (.ref a) f u) Q E s:=by
 obtain ⟨mA,O,r,wi,_,ho⟩:=gW I.hok e
 have hz:(fs.map (·.1)).length≤sizeLine:=by rw [List.length_map,sizeLine_eq];omega
 refine Aj I.kIn O c.sa c.po n.taker c.hd wi hz fun h' O' sb=>h _ ?_
 have hd:∃ o,h'.get? dx=some o:=let ⟨o,_,_,e',_⟩:=O'.ns;⟨o,e'⟩
 refine I.write (x:=a) (e:=dx) (by rw [e];exact True.intro) (.inr ho) (fun b q hb z=>(sb.2 b hb).trans z) hd ?_
 refine ⟨by rw [ao O.ne];exact ho,?_,O.ne,O'.obj,_,O'.ns,fun g=>?_,fun g hg=>?_⟩
 · have:=ki f y fs;omega
 · show cC ((dz f y fs).lookup g) (if g=f then some u else mA g)
   rw [gL]
   by_cases q:g=f
   · rw [if_pos q,if_pos q];exact ry
   · rw [if_neg q,if_neg q];exact r g
 · by_cases q:g=f
   · rw [q];exact (je f y fs).1
   · refine (je f y fs).2 g (wi g fun z=>hg ?_)
     show (if g=f then some u else mA g)=none
     rw [if_neg q];exact z
theorem Inv.made (I:Inv X pins σ H s):Inv X pins σ (upd (upd H s.heap.objs.size (.own (s.heap.objs.size+1))) (s.heap.objs.size+1) (.ins C s.heap.objs.size []))
  { s with heap:=(s.heap.push W.emptyDict).push (W.instObj C s.heap.objs.size) }:=by
 have e1:(s.heap.push W.emptyDict).get? s.heap.objs.size=some W.emptyDict:=Heap.get?_push_size s.heap rfl
 have e2:((s.heap.push W.emptyDict).push (W.instObj C s.heap.objs.size)).get? (s.heap.objs.size+1)=some (W.instObj C s.heap.objs.size):=by
  have:=Heap.get?_push_size (s.heap.push W.emptyDict) (o:=W.instObj C s.heap.objs.size) rfl
  rwa [Heap.size_push] at this
 have e3:(s.heap.push W.emptyDict).Ns s.heap.objs.size (fun _=>none):=⟨W.emptyDict,#[],_,e1,rfl,(fun e he=>absurd he (by simp)),fun _=>rfl⟩
 have I1:=I.laid (a:=s.heap.objs.size) (o:=.own (s.heap.objs.size+1)) (h':=s.heap.push W.emptyDict) (t':=s.toks) (fun b u q=>Heap.get?_push_of_some _ q) (Nat.le_refl _) ⟨_,e1⟩
 refine I1.laid (a:=s.heap.objs.size+1) (o:=.ins C s.heap.objs.size []) (t':=s.toks) (fun b u q=>Heap.get?_push_of_some _ q) (Nat.le_of_eq (Heap.size_push _ _)) ?_
 have ne:s.heap.objs.size≠s.heap.objs.size+1:=Nat.ne_of_lt (Nat.lt_succ_self _)
 refine ⟨by rw [ao ne,ai],Nat.zero_le _,ne,e2,fun _=>none,(Heap.Ns1.of_empty e3).at fun o q=>Heap.get?_push_of_some _ q,fun _=>True.intro,fun y hy=>absurd rfl hy⟩
theorem Ae {prog:Program} {w:World} {env:Env} {e:Expr} {f:Str} {pos:Pos} {s:Shared} {Q:Value→Shared→Prop} (hb:attributeBase e f env (eval e env)=eval e env)
  (h:wpAny (model prog w) A (eval e env) (fun o s₁=>wpAny (model prog w) A (getAttr o f true) Q E s₁) E s):wpAny (model prog w) A (eval (.Attribute e f pos) env) Q E s:=
 Attribute_any_ h (by rw [arm_eval_Attribute,hb])
end
def eF (K:W.Frag) (ta:TE) (f:Str):TE:=fun σ H Q=>ta σ H fun x H1=>∃ a C dx fs v,x=.ref a∧H1 a=some (.ins C dx fs)∧Cls K C∧du K C f∧fs.lookup f=some v∧Q v H1
def ma (K:W.Frag) (ta tv:TE) (f:Str):TS:=fun D σ H=>tv σ H fun y H1=>ta σ H1 fun x H2=>∃ a C dx fs,x=.ref a∧H2 a=some (.ins C dx fs)∧Cls K C∧du K C f∧fs.length<1000∧
 D.nx σ (upd H2 a (.ins C dx (dz f y fs)))
section
variable {X:Cx} {o e value:Expr} {f:Str} {pos pos' tpos:Pos} {ta tv:TE}
theorem BS (he:PE X e ta) (hb:attributeBase e f X.env (eval e X.env)=eval e X.env):PE X (.Attribute e f pos) (eF X.K ta f):=by
 intro pins s σ H Q I h
 refine Ae hb (thn (he pins s σ H _ I h) fun u s1 ⟨x,H1,I1,rx,a,C,dx,fs,v,ex,ea,c,n,l,q⟩=>?_)
 subst ex
 obtain rfl:u=Value.ref a:=rx
 exact lS I1 ea c n l fun u' s2 I2 ru=>⟨v,H1,I2,ru,q⟩
theorem Ci (ha:PE X o ta) (hv:PE X value tv) (hs:swapsWith value (some (.Attribute o f pos')) pos.line X.env=pure false):PS X (.Assign [.Attribute o f pos'] value pos) (ma X.K ta tv f):=by
 intro pins s σ H D I h
 refine plainObj_wpAny_Assign_Attribute (thn (hv pins s σ H _ I h) fun u s1 ⟨y,H1,I1,ry,q⟩=>thn (ha pins s1 σ H1 _ I1 q) fun ov s2 ⟨x,H2,I2,rx,a,C,dx,fs,ex,ea,c,n,l,q2⟩=>?_) hs
 subst ex
 obtain rfl:ov=Value.ref a:=rx
 exact tO I2 ea c n l ry fun s3 I3=>⟨σ,_,I3,q2⟩
end
section
variable {X:Cx} {pins:List (Addr×Obj)} {σ:St} {H:Hp} {s:Shared} {A:Around} {E:Value→Shared→Prop} {Q:Value→Shared→Prop} {c:Value} {b:Bool}
inductive fj (K:W.Frag) (H:Hp):V→Value→Prop where
 | non:fj K H .non (.type "NoneType")
 | bl (x:Bool):fj K H (.bl x) (.type "bool")
 | int (i:Int):fj K H (.int i) (.type "int")
 | str (x:Str):fj K H (.str x) (.type "str")
 | flt (x:UInt64):fj K H (.flt x) (.type "float")
 | lst {a:Addr} {xs:List V} (e:H a=some (.lst xs)):fj K H (.ref a) (.type "list")
 | frz {a:Addr} {o:Obj} {xs:List V} (e:H a=some (.frz o (.lst xs))):fj K H (.ref a) (.type "list")
 | tup {a:Addr} {xs:List V} (e:H a=some (.tup xs)):fj K H (.ref a) (.type "tuple")
 | dK {a:Addr} {kvs:List (Key×V)} (e:H a=some (.dK kvs)):fj K H (.ref a) (.type "dict")
 | dT {a:Addr} {kvs:List (List Key×V)} (e:H a=some (.dT kvs)):fj K H (.ref a) (.type "dict")
 | ins {a C dx:Addr} {fs:List (Str×V)} (e:H a=some (.ins C dx fs)) (cl:Cls K C) (ha:W.findIn K (.ref C) "__class__" =some (some (.builtin "object.__class__")))
  (hn:W.specialIn K (.builtin "object.__class__") "__get__" =some (some (.builtin "getset_descriptor.__get__"))) (htk:W.takesIn K (.builtin "object.__class__")=some true)
  (hm:W.mroIn K C (.type "object")=some true):fj K H (.ref a) (.ref C)
theorem vo {x : V} {u t : Value} (I : Inv X pins σ H s) (rx : aS x u) (ty : fj X.K H x t) (e : W.kitOne X.K t c = some b) (h : ∀ tk, Q (.bool b) { s with toks := tk }) :
    wpAny (model X.prog X.w) A (call (.builtin "isinstance") [u, c]) Q E s := by
  cases ty with
  | non => cases (show u = Value.none from rx); exact W.kia_one W.kitx_none I.kIn True.intro e (fun z => nomatch z) h
  | bl y => cases (show u = Value.bool y from rx); exact W.kia_one W.kitx_bool I.kIn True.intro e (fun z => nomatch z) h
  | int i => obtain ⟨t, q⟩ := (show ∃ t, u = Value.int i t from rx); cases q; exact W.kia_one W.kitx_int I.kIn True.intro e (fun z => nomatch z) h
  | str y => obtain ⟨t, q⟩ := (show ∃ t, u = Value.str y t from rx); cases q; exact W.kia_one W.kitx_str I.kIn True.intro e (fun z => nomatch z) h
  | flt y => obtain ⟨t, q⟩ := (show ∃ t, u = Value.float y t from rx); cases q; exact W.kia_one W.kitx_float I.kIn True.intro e (fun z => nomatch z) h
  | @lst a xs ea =>
    cases (show u = Value.ref a from rx)
    obtain ⟨_, _, n, _, h1⟩ := (show aU X.prog X.w H s.heap a (.lst xs) from I.hok a _ ea)
    exact W.kia_one W.kitx_list I.kIn ⟨_, h1, rfl⟩ e (fun z => nomatch z) h
  | @frz a ob xs ea =>
    cases (show u = Value.ref a from rx)
    obtain ⟨_, _, _, n, _, h1⟩ := (show aU X.prog X.w H s.heap a (.frz ob (.lst xs)) from I.hok a _ ea)
    exact W.kia_one W.kitx_list I.kIn ⟨_, h1, rfl⟩ e (fun z => nomatch z) h
  | @tup a xs ea =>
    cases (show u = Value.ref a from rx)
    obtain ⟨_, _, _, p⟩ := (show aU X.prog X.w H s.heap a (.tup xs) from I.hok a _ ea)
    obtain ⟨o, h1, h2, _⟩ := p
    exact W.kia_one W.kitx_tuple I.kIn ⟨o, h1, h2⟩ e (fun z => nomatch z) h
  | @dK a kvs ea =>
    cases (show u = Value.ref a from rx)
    obtain ⟨_, _, vs, _, p⟩ := (show aU X.prog X.w H s.heap a (.dK kvs) from I.hok a _ ea)
    obtain ⟨o, es, ep, h1, h2, _⟩ := p
    exact W.kia_one W.kitx_dict I.kIn ⟨o, h1, h2.1⟩ e (fun z => nomatch z) h
  | @dT a kvs ea =>
    cases (show u = Value.ref a from rx)
    obtain ⟨_, _, xs, _, o, es, ep, h1, h2, _⟩ := (show aU X.prog X.w H s.heap a (.dT kvs) from I.hok a _ ea)
    exact W.kia_one W.kitx_dict I.kIn ⟨o, h1, h2.1⟩ e (fun z => nomatch z) h
  | @ins a C dx fs ea cl ha hn htk hm =>
    cases (show u = Value.ref a from rx)
    obtain ⟨mA, O, _⟩ := gW I.hok ea
    obtain ⟨od, J, _⟩ := O.look
    exact W.kia_one (W.kitx_own (cl.get _) cl.hd ha hn htk hm) I.kIn J e (fun z => nomatch z) h
end
structure aY (k:Nat) (A:Around):Prop where
 hd:A.handled=none
 dp:A.depth+3*k+5<recursionLimit
 un:A.units+16*k+200<cLine
theorem aY.mono {j k:Nat} {A:Around} (r:aY k A) (h:j≤k):aY j A:=⟨r.hd,by have:=r.dp;omega,by have:=r.un;omega⟩
theorem aY.deeper {k:Nat} {A:Around} (r:aY (k+1) A) (env:Env):aY k (A.deeper env):=
 ⟨r.hd,by have:=r.dp;show A.depth+1+3*k+5<_;omega,by have:=r.un;show A.units+3+16*k+200<_;omega⟩
theorem rZ {A:Around} {C:Addr} {us:List Value} {kw:List (Str×Value)}:(A.under (.builtin "type.__call__" ⟨.ref C::us,kw⟩)).depth=A.depth+1:=by
 first | rfl | simp [Around.under,Code.weight,Code.isCreation,Code.isGuard,Code.isCaller,Code.frames,Code.isFrame,guardIds]
theorem sP {A:Around} {C:Addr} {us:List Value} {kw:List (Str×Value)}:(A.under (.builtin "type.__call__" ⟨.ref C::us,kw⟩)).units=A.units+1:=by
 first | rfl | simp [Around.under,Code.cUnits,Code.frames,Code.isFrame]
theorem aY.make {k:Nat} {A:Around} (r:aY (k+1) A) (C:Addr) (us:List Value) (kw:List (Str×Value)):aY k (A.under (.builtin "type.__call__" ⟨.ref C::us,kw⟩)):=
 ⟨r.hd,by have:=r.dp;rw [rZ];omega,by have:=r.un;rw [sP];omega⟩
theorem aY.depth {k:Nat} {A:Around} (r:aY k A):A.depth<recursionLimit:=by have:=r.dp;omega
def aj:TA:=fun _ H Q=>Q [] H
def ae (ta:TE) (tr:TA):TA:=fun σ H Q=>ta σ H fun x H1=>tr σ H1 fun xs H2=>Q (x::xs) H2
section
variable {X:Cx} {e:Expr} {es:List Expr} {te:TE} {t:TA} {pos:Pos}
theorem AI:PA X [] aj:=fun _ _ _ _ H Q I h=>Calls.spliced_nil ⟨[],H,I,.nil,h⟩
theorem zA (ha:PE X e te) (hr:PA X es t) (hs:starEach (e::es) X.env=(false,eval e X.env)::starEach es X.env:=by rfl):PA X (e::es) (ae te t):=by
 intro pos pins s σ H Q I h
 rw [hs]
 show wpAny _ _ (spliced ((false,eval e X.env)::backTo pos (starEach es X.env))) _ _ s
 refine Calls.spliced_cons (thn (ha pins s σ H _ I h) fun u s1 ⟨x,H1,I1,r1,q1⟩=>?_)
 exact thn (hr pos pins s1 σ H1 _ I1 q1) fun us s2 ⟨xs,H2,I2,r2,q2⟩=>⟨x::xs,H2,I2,.cons r1 r2,q2⟩
def bn (t:TA):TE:=fun σ H Q=>t σ H fun xs H1=>xs.length≤sizeLine∧∀ p,H1 p=none→Q (.ref p) (upd H1 p (.tup xs))
def cF (t:TA):TE:=fun σ H Q=>t σ H fun xs H1=>xs.length≤sizeLine∧∀ p,H1 p=none→Q (.ref p) (upd H1 p (.lst xs))
theorem By {x1} (h:PA X es t):PE X (.Tuple es x1 pos) (bn t):=by
 intro pins s σ H Q I hq
 refine wpAny_Tuple_spliced (thn (h pos pins s σ H _ I hq) fun us s1 ⟨xs,H1,I1,r,z,q⟩=>⟨by rw [← r.length];exact z,?_⟩)
 have hf:H1 s1.heap.objs.size=none:=I1.hok.fresh (Nat.le_refl _)
 refine ⟨.ref s1.heap.objs.size,upd H1 s1.heap.objs.size (.tup xs),I1.laid (t':=s1.toks) (fun b u e=>Heap.get?_push_of_some _ e) (Nat.le_refl _) ?_,rfl,q _ hf⟩
 exact ⟨z,us,r,⟨_,Heap.get?_push_size _ rfl,rfl,_,rfl⟩⟩
theorem Dv (h:PA X es t):PE X (.List es pos) (cF t):=by
 intro pins s σ H Q I hq
 refine wpAny_List_spliced (thn (h pos pins s σ H _ I hq) fun us s1 ⟨xs,H1,I1,r,z,q⟩=>⟨by rw [← r.length];exact z,?_⟩)
 have hf:H1 s1.heap.objs.size=none:=I1.hok.fresh (Nat.le_refl _)
 refine ⟨.ref s1.heap.objs.size,upd H1 s1.heap.objs.size (.lst xs),I1.laid (t':=s1.toks) (fun b u e=>Heap.get?_push_of_some _ e) (Nat.le_refl _) ?_,rfl,q _ hf⟩
 exact ⟨z,us,0,r,Heap.get?_push_size _ rfl⟩
end
abbrev Sp:=List V→Hp→VK→XK→Prop
abbrev CXT:=List Env→Hp→Shared→XK→Value→Shared→Prop
structure ip (P:Program) (w:World) (K:W.Frag) (mg:Str→Option Value) (base:Heap) (A:Around) (outer:List Env) (s:Shared) (H:Hp):Prop where
 frames:A.frames=some outer
 mod:Mod K mg base
 bs:∀ b o,base.get? b=some o→s.heap.get? b=some o∧H b=none
 bsz:base.objs.size≤s.heap.objs.size
 funs:s.heap.FunFrames base outer
 frf:∀ b∈frs outer,H b=none
 hok:HOk P w H s.heap
 bare:AllBare s.gens
def CE (outer:List Env) (P:Program) (w:World) (H:Hp) (s:Shared) (Q:VK) (u:Value) (s':Shared):Prop:=
 ∃ v H',s'.os=s.os∧AllBare s'.gens∧Un (frs outer) [] H H' s.heap s'.heap∧HOk P w H' s'.heap∧aS v u∧Q v H'
def CR (CX:CXT) (outer:List Env) (P:Program) (w:World) (H:Hp) (s:Shared) (Q:VK) (E:XK) (r:Result) (s':Shared):Prop:=
 match r with
 | .ok (.ret u)=>CE outer P w H s Q u s'
 | .ok _=>False
 | .error e=>CX outer H s E e s'
structure aM (P:Program) (w:World) (K:W.Frag) (mg:Str→Option Value) (base:Heap) (CX:CXT) (k:Nat) (f:Addr) (fd:FuncData) (ps:List Str) (sp:Sp):Prop where
 len:∀ vs H Q E,sp vs H Q E→vs.length=ps.length
 run:∀ (A:Around) (outer:List Env) (s:Shared) (H:Hp) (args:Args) (us:List Value) (vs:List V) (Q:VK) (E:XK),aY k A→ip P w K mg base A outer s H→BindsTo s fd args (ps.zip us)→aR vs us→sp vs H Q E→
  codeAny (model P w) A (.call (.ref f) args) (CR CX outer P w H s Q E) s
theorem ip.make {P:Program} {w:World} {K:W.Frag} {mg:Str→Option Value} {base:Heap} {A:Around} {outer:List Env} {s:Shared} {H:Hp} (e:ip P w K mg base A outer s H) (C:Addr) (us:List Value) (kw:List (Str×Value)):
 ip P w K mg base (A.under (.builtin "type.__call__" ⟨.ref C::us,kw⟩)) outer s H:=⟨by first | exact e.frames | (simpa [Around.under,Code.envs,Code.isFrame,pushEnvs] using e.frames),e.mod,e.bs,e.bsz,e.funs,e.frf,e.hok,e.bare⟩
section
variable {X:Cx} {pins:List (Addr×Obj)} {σ:St} {H:Hp} {s s':Shared}
theorem Inv.env0 (I:Inv X pins σ H s):ip X.prog X.w X.K X.mg X.base X.A X.stack s H:=
 ⟨I.ok.frames,I.ok.mod,I.bs,Nat.le_trans I.ok.bsz I.sz,I.stack,I.stkFree,I.hok,I.bare⟩
theorem Inv.after {Q:VK} {u:Value} (I:Inv X pins σ H s) (h:CE X.stack X.prog X.w H s Q u s'):EP X pins σ Q u s':=by
 obtain ⟨v,H',os,bare,un,hok,r,q⟩:=h
 obtain ⟨hh,g,d,t,os'⟩:=s'
 obtain rfl:os'=s.os:=os
 exact ⟨v,H',I.call (h':=hh) (g':=g) (d':=d) (t':=t) (ch:=[]) un hok bare (fun b z=>absurd z (by simp)),r,q⟩
end
def bA (K:W.Frag) (fd:FuncData) (ps:List Str) (ds:List Value):Prop:=
 ∀ (s:Shared) (us:List Value),K.In s.heap→(us++ds).length=ps.length→BindsTo s fd ⟨us,[]⟩ (ps.zip (us++ds))
theorem bA.all {K:W.Frag} {fd:FuncData} {ps:List Str} (h:∀ us:List Value,us.length=ps.length→bindArgs fd ⟨us,[]⟩=pure (ps.zip us)):bA K fd ps []:=fun s us _ hl=>by
 rw [List.append_nil] at hl ⊢
 exact .of_eq (h us hl)
section
variable {X:Cx} {CX:CXT} {k:Nat} {f C:Addr} {fd:FuncData} {ps:List Str} {sp:Sp} {dvs:List V} {ds:List Value} {E:XK} {x m:Str} {p pos apos:Pos} {e o:Expr} {es:List Expr} {ta:TE} {t:TA}
structure Mk (K:W.Frag) (C f:Addr):Prop where
 makes:W.makesIn K C=true
 init:W.findIn K (.ref C) "__init__" =some (some (.ref f))
 fn:W.isFn K (.ref f)=true
 kp:W.keepIn K (.ref C)=true
end
def PK (X:Cx) (kws:List Keyword) (t:TA):Prop:=
 ∀ (pos:Pos) (pins:List (Addr×Obj)) (s:Shared) (σ:St) (H:Hp) (Q:List V→Hp→Prop),Inv X pins σ H s→t σ H Q→wpAny (model X.prog X.w) X.A (evalAll ((backToKw pos (keywordEach kws X.env)).map (·.2))) (AP X pins σ Q) X.xe s
structure az (N P:List Str) (sc:Scope):Prop where
 kind:sc.kind=.function
 co:sc.isCoroutine=false
 gen:sc.isGenerator=false
 nd:N.Nodup
 pre:N.take P.length=P
 par:∀ x∈P,sc.names.lookup x=some .local∨sc.names.lookup x=some .cell
 nofree:∀ y∈sc.names,y.2≠ .free
theorem mU {kindOf : Str → Option NameKind} {x : Str} : ∀ {binds : List (Str × Value)} {m : Str → Option Value}, (∀ v, (x, v) ∉ binds) → bindL kindOf binds m x = m x
  | [], _, _ => rfl
  | (n, v) :: r, m, h => by
    unfold bindL
    rw [mU fun w hw => h w (List.mem_cons_of_mem _ hw)]
    split
    · have : x ≠ n := by rintro rfl; exact h v List.mem_cons_self
      simp [this]
    · rfl
theorem mY {kindOf : Str → Option NameKind} {x : Str} : ∀ {binds : List (Str × Value)} {m : Str → Option Value}, (∀ v, (x, v) ∉ binds) → bindC kindOf binds m x = m x
  | [], _, _ => rfl
  | (n, v) :: r, m, h => by
    unfold bindC
    rw [mY fun w hw => h w (List.mem_cons_of_mem _ hw)]
    split
    · rfl
    · have : x ≠ n := by rintro rfl; exact h v List.mem_cons_self
      simp [this]
theorem mO {kindOf : Str → Option NameKind} {x : Str} {v : Value} : ∀ {P : List Str} {vs : List Value} {i : Nat} {m : Str → Option Value}, P.Nodup → P[i]? = some x → vs[i]? = some v → kindOf x = some .local →
    bindL kindOf (P.zip vs) m x = some v
  | [], _, _, _, _, h, _, _ => by simp at h
  | _ :: _, [], _, _, _, _, h, _ => by simp at h
  | p :: P, w :: vs, 0, m, nd, h1, h2, hk => by
    simp at h1 h2; subst h1; subst h2
    show bindL kindOf ((p, w) :: P.zip vs) m p = _
    unfold bindL
    rw [mU fun v hv => (List.nodup_cons.mp nd).1 (List.of_mem_zip hv).1, if_pos hk]
    simp
  | p :: P, w :: vs, i + 1, m, nd, h1, h2, hk => by
    show bindL kindOf ((p, w) :: P.zip vs) m x = _
    unfold bindL
    exact mO (i := i) (List.nodup_cons.mp nd).2 (by simpa using h1) (by simpa using h2) hk
theorem mT {kindOf : Str → Option NameKind} {x : Str} {v : Value} : ∀ {P : List Str} {vs : List Value} {i : Nat} {m : Str → Option Value}, P.Nodup → P[i]? = some x → vs[i]? = some v → kindOf x ≠ some .local →
    bindC kindOf (P.zip vs) m x = some v
  | [], _, _, _, _, h, _, _ => by simp at h
  | _ :: _, [], _, _, _, _, h, _ => by simp at h
  | p :: P, w :: vs, 0, m, nd, h1, h2, hk => by
    simp at h1 h2; subst h1; subst h2
    show bindC kindOf ((p, w) :: P.zip vs) m p = _
    unfold bindC
    rw [mY fun v hv => (List.nodup_cons.mp nd).1 (List.of_mem_zip hv).1, if_neg hk]
    simp
  | p :: P, w :: vs, i + 1, m, nd, h1, h2, hk => by
    show bindC kindOf ((p, w) :: P.zip vs) m x = _
    unfold bindC
    exact mT (i := i) (List.nodup_cons.mp nd).2 (by simpa using h1) (by simpa using h2) hk
def start (N:List Str) (vs:List V):St:=vs.map some++List.replicate (N.length - vs.length) none
def cy (CX:CXT) (P:Program) (w:World) (K:W.Frag) (mg:Str→Option Value) (base:Heap) (N:List Str) (qual:Str) (scope:Scope) (f:Addr) (cd:Value) (A:Around) (outer:List Env) (s:Shared) (H:Hp) (E:XK):Cx where
 prog:=P
 w:=w
 K:=K
 mg:=mg
 base:=base
 A:=A.deeper (envOfC qual scope s.heap.objs.size f cd)
 N:=N
 s₀:=s
 H₀:=H
 env:=envOfC qual scope s.heap.objs.size f cd
 outer:=outer
 stack:=envOfC qual scope s.heap.objs.size f cd::outer
 ex:=[]
 calm:=true
 fn:=fun _=>true
 pn:=[]
 xe:=fun e s'=>wpAny (model P w) (A.deeper (envOfC qual scope s.heap.objs.size f cd)) (leaving (envOfC qual scope s.heap.objs.size f cd) e) (fun _ s''=>CX outer H s E e s'') (fun e' s''=>CX outer H s E e' s'') s'
theorem pK {sc:Scope} {n:Nat} {x:Str} (h:sc.names.lookup x=some .cell):∃ c,(cellsFrom n sc.names []).lookup x=some c:=by
 have q:=W.cellsFrom_some sc.names n [] (.inl h)
 exact Option.isSome_iff_exists.mp q
theorem mZ {CX:CXT} {P:Program} {w:World} {K:W.Frag} {mg:Str→Option Value} {base:Heap} {N ps:List Str} {qual:Str} {scope:Scope} {f:Addr} {cd:Value} {A:Around} {outer:List Env} {s s1:Shared} {H:Hp} {E:XK} {us:List Value} {vs:List V}
   (S:az N ps scope) (hd:A.handled=none) (e0:ip P w K mg base A outer s H) (hl:vs.length=ps.length) (r:aR vs us)
   (x:InCallC s s.heap.objs.size (bindL (envOfC qual scope s.heap.objs.size f cd).kindOf (ps.zip us) fun _=>none) (cellsFrom (s.heap.objs.size+1) scope.names []) (bindC (envOfC qual scope s.heap.objs.size f cd).kindOf (ps.zip us) fun _=>none) s1):
   Inv (cy CX P w K mg base N qual scope f cd A outer s H E) [] (start N vs) H s1:=by
 have hpl:ps.length≤N.length:=by have:=congrArg List.length S.pre;rw [List.length_take] at this;omega
 obtain ⟨h1,tk,rfl,hk⟩:=x.done
 have noA:∀ b:Addr,b∉(cy CX P w K mg base N qual scope f cd A outer s H E).ex:=fun b z=>absurd (show b∈([]:List Addr) from z) (by simp)
 refine ⟨⟨e0.mod,S.kind,rfl,rfl,Nat.le_refl _,fun y z c h1 h2=>?_,fun y hy=>?_,fun y c _ h=>?_,fun _=>hd,Around.frames_deeper e0.frames,.inr ⟨rfl,rfl⟩,fun b z=>absurd z (noA b),e0.bs,e0.bsz,fun b _ _=>noA b,fun b z=>absurd z (noA b),e0.funs,e0.frf⟩,
   rfl,e0.bare,Un.kept hk,⟨_,x.toInCall.ns,fun i y v h1 h2 h3=>?_⟩,fun y c h=>⟨_,x.cell y c h⟩,e0.hok.fresh (Nat.le_refl _),fun y c h=>?_,fun p hp=>absurd (show p∈([]:List (Addr×Obj)) from hp) (by simp),e0.hok.kept hk,?_⟩
 · exact name_of_addr x.apart (PySem.mem_of_lookup h1) (PySem.mem_of_lookup h2)
 · have hy:scope.names.lookup y=some .cell∨scope.names.lookup y=some .free:=hy
   rcases hy with hy | hy
   · exact pK hy
   · exact absurd rfl (S.nofree _ (PySem.mem_of_lookup hy))
 · exact Nat.le_of_lt (x.above y c (PySem.mem_of_lookup h))
 · have hi:i<vs.length:=by
     unfold start at h2
     by_cases hi:i<vs.length
     · exact hi
     · rw [List.getElem?_append_right (by simpa using hi)] at h2
       rw [List.getElem?_replicate] at h2
       split at h2 <;> cases h2
   have ha:vs[i]?=some v:=by
     unfold start at h2
     rw [List.getElem?_append_left (by simpa using hi),List.getElem?_map] at h2
     cases e:vs[i]? with
     | none=>rw [e] at h2;cases h2
     | some a=>rw [e] at h2;cases h2;rfl
   obtain ⟨u,hu,rv⟩:=r.get ha
   have hp:ps[i]?=some y:=by
     rw [← S.pre,List.getElem?_take_of_lt (by omega)];exact h1
   have ndP:ps.Nodup:=by rw [← S.pre];exact S.nd.sublist (List.take_sublist _ _)
   refine ⟨u,rv,?_⟩
   rcases S.par y (List.mem_of_getElem? hp) with k | k
   · exact .inl ⟨k,mO ndP hp hu k⟩
   · obtain ⟨c,e⟩:=pK (n:=s.heap.objs.size+1) k
     refine .inr ⟨.inl k,c,e,?_⟩
     have q:=x.cell y c e
     rw [mT ndP hp hu (by show scope.names.lookup y≠_;rw [k];decide)] at q
     exact q
 · exact e0.hok.fresh (Nat.le_of_lt (x.above y c (PySem.mem_of_lookup h)))
 · unfold start
   show _=N.length
   rw [List.length_append,List.length_map,List.length_replicate]
   omega
theorem yG {CX : CXT} {P : Program} {w : World} {K : W.Frag} {mg : Str → Option Value} {base : Heap} {k : Nat} {f : Addr} {name qual : Str} {params : Arguments} {body : List Stmt} {scope : Scope} {dV kV doc pm cdv ct oc : Value} {an od : Option Addr}
    {osl : Array (Option Value)} {N ps : List Str} {sp : Sp} (lk : K.lookup f = some ⟨oc, od, .func (W.fnOf name qual params body scope dV kV doc pm an cdv ct), osl⟩) (hcd : W.codeIn K cdv qual = true) (S : az N ps scope)
    (len : ∀ vs H Q E, sp vs H Q E → vs.length = ps.length)
    (hbody : ∀ (A : Around) (outer : List Env) (s : Shared) (H : Hp) (vs : List V) (Q : VK) (E : XK), aY k (A.deeper (envOfC qual scope s.heap.objs.size f cdv)) → sp vs H Q E →
      ∃ t, PSs (cy CX P w K mg base N qual scope f cdv A outer s H E) body t ∧ t { nx := fun _ H' => Q .non H', rt := Q } (start N vs) H) :
    aM P w K mg base CX (k + 1) f (W.fnOf name qual params body scope dV kV doc pm an cdv ct) ps sp := by
  refine ⟨len, fun A outer s H args us vs Q E hr e0 hb r hsp => ?_⟩
  have hl := len _ _ _ _ hsp
  have KX : K.In s.heap := e0.mod.kin.keeps fun b o e => (e0.bs b o e).1
  have lim : s.heap.NoLimit := e0.mod.nolimit.keeps fun b o e => (e0.bs b o e).1
  have hkind : ∀ y ∈ ps.zip us, scope.names.lookup y.1 = some .local ∨ (scope.names.lookup y.1 = some .cell ∧ ((cellsFrom (s.heap.objs.size + 1) scope.names []).lookup y.1).isSome = true) := fun ⟨n, v⟩ hy => by
    rcases S.par n (List.of_mem_zip hy).1 with q | q
    · exact .inl q
    · exact .inr ⟨q, W.cellsFrom_some _ _ _ (.inl q)⟩
  refine codeAny_call_function hr.depth (KX _ _ lk) rfl S.co S.gen rfl (W.codeRec_of KX hcd) (hb _ _ _ _ ?_)
  refine wpAny_newFunctionEnv_cells S.kind hkind fun env he s1 x => ?_
  subst he
  refine ⟨lim.keeps x.toInCall.keep, codeAny_func ?_⟩
  obtain ⟨t, ht, hq⟩ := hbody A outer s H vs Q E (hr.deeper _) hsp
  have I : Inv (cy CX P w K mg base N qual scope f cdv A outer s H E) [] (start N vs) H s1 := mZ S hr.hd e0 hl r x
  refine wpAny_mono (ht [] s1 (start N vs) H _ I hq) (fun fl s' hs => ?_) fun e s' hs => hs
  have fin : ∀ {σ' : St} {H' : Hp} {v : V} {u : Value}, Inv (cy CX P w K mg base N qual scope f cdv A outer s H E) [] σ' H' s' → aS v u → Q v H' → CE outer P w H s Q u s' :=
    fun {σ' H' v u} J rv q => ⟨v, H', J.os, J.bare, J.base, J.hok, rv, q⟩
  cases fl with
  | ret u =>
    obtain ⟨v, σ', H', J, rv, q⟩ := hs
    exact fin J rv q
  | next =>
    obtain ⟨σ', H', J, q⟩ := hs
    exact fin (v := V.non) (u := Value.none) J rfl q
  | brk =>
    obtain ⟨_, _, _, q⟩ := hs
    exact False.elim q
  | cont =>
    obtain ⟨_, _, _, q⟩ := hs
    exact False.elim q
section
variable {X:Cx} {x:Str} {p pos:Pos} {e:Expr} {es:List Expr} {t:TA} {id T:String} {r:List V→Hp→VK→Prop}
def tCB (r:List V→Hp→VK→Prop) (t:TA):TE:=fun σ H Q=>t σ H fun vs H1=>r vs H1 Q
theorem wn (hc:bv X (.builtin id) r) (hg:Gl X x) (hm:X.mg x=none) (hv:bootBuiltins x=some (.builtin id)) (ha:PA X (e::es) t) (hn:x≠ "__name__" :=by decide) (hdb:(x==("__debug__" :Str))=false:=by decide)
  (he:starEach (e::es) X.env=(false,eval e X.env)::starEach es X.env:=by rfl) (hpl:(backTo pos (starEach es X.env)).any (·.1)=false:=by rfl):PE X (.Call (.Name x p) (e::es) [] pos) (tCB r t):=by
 intro pins s σ H Q I h
 refine wpAny_Call_Name_kw (dG I hg hm hv ?_ hn hdb)
 exact PyProof.Rows.callWith_builtin1 (thn (ha pos pins s σ H _ I h) fun us s1 ⟨vs,H1,I1,r1,q1⟩=>hc pins s1 σ H1 vs us Q I1 r1 q1) he hpl
theorem uM (hc:bv X (.type T) r) (hg:Gl X x) (hm:X.mg x=none) (hv:bootBuiltins x=some (.type T)) (ha:PA X (e::es) t) (hn:x≠ "__name__" :=by decide) (hdb:(x==("__debug__" :Str))=false:=by decide)
  (he:starEach (e::es) X.env=(false,eval e X.env)::starEach es X.env:=by rfl) (hpl:(backTo pos (starEach es X.env)).any (·.1)=false:=by rfl):PE X (.Call (.Name x p) (e::es) [] pos) (tCB r t):=by
 intro pins s σ H Q I h
 refine wpAny_Call_Name_kw (dG I hg hm hv ?_ hn hdb)
 exact PyProof.Rows.callWith_type1 (thn (ha pos pins s σ H _ I h) fun us s1 ⟨vs,H1,I1,r1,q1⟩=>hc pins s1 σ H1 vs us Q I1 r1 q1) he hpl
end
end L2
namespace HT
open PySem PyProof.Rows
section
open PySem.SeqAt
open PySem.AutoSeq1 (wpAny_loadPart')
open PySem.MeetsSeq PySem.MeetsSeq2 PySem.MeetsSeq3
end
section
variable {prog:Program} {w:World} {A:Around} {E:Value→Shared→Prop} {s:Shared}
theorem zQ {t b:Addr} {vs ws:List Value} {Q:Value→Shared→Prop} (ht:IsTup s.heap t vs.toArray) (hb:IsTup s.heap b ws.toArray) (hv:vs≠[])
   (h1:ws=[]→Q (.ref t) s) (h2:ws≠[]→Q (.ref s.heap.objs.size) { s with heap:=s.heap.push { cls:=.type "tuple",data:=.seq (vs++ws).toArray } })
   (hsz:vs.length+ws.length≤sizeLine):wpAny (model prog w) A (binaryOp .Add (.ref t) (.ref b)) Q E s:=by
 obtain ⟨⟨cls,dd,data,sl⟩,ho,hc,n,hd⟩:=id ht
 obtain ⟨⟨cls2,dd2,data2,sl2⟩,ho2,hc2,n2,hd2⟩:=id hb
 simp only at hc hd hc2 hd2
 subst hc hd hc2 hd2
 have e:vs.toArray++ws.toArray=(vs++ws).toArray:=by simp
 by_cases hw:ws=[]
 · exact concat_meets ⟨_,ho,rfl⟩ ⟨_,ho2,rfl⟩ noFill_tuple_add seq_tuple_add PySem.F.slot_tuple_add PySem.F.entry_tuple_add (PySem.F.args_tuple_add_2 _ _)
    (tuple_addW1 t b vs.toArray ws.toArray n n2 dd dd2 sl sl2 (by simpa using hv) (by simp [hw])) ⟨ho,ho2,h1 hw⟩
 · refine concat_meets ⟨_,ho,rfl⟩ ⟨_,ho2,rfl⟩ noFill_tuple_add seq_tuple_add PySem.F.slot_tuple_add PySem.F.entry_tuple_add (PySem.F.args_tuple_add_2 _ _)
    (tuple_addW2 t b vs.toArray ws.toArray n n2 dd dd2 sl sl2 (by simpa using hv) (by simpa using hw) (by rw [List.size_toArray,List.size_toArray];exact hsz)) ⟨ho,ho2,?_⟩
   rw [e]
   exact h2 hw
def sIx (n d:Nat):Option Int→Nat
 | none=>d
 | some v=>if v<0 then (v+(n:Int)).toNat else min v.toNat n
theorem pJ (n d:Nat):sIx n d none=d:=rfl
theorem rK (n d k:Nat):sIx n d (some (k:Int))=min k n:=by
 show (if (k:Int)<0 then ((k:Int)+(n:Int)).toNat else min (k:Int).toNat n)=min k n
 rw [if_neg (by omega),Int.toNat_natCast]
theorem Bu (n d : Nat) (hd : d ≤ n) (o : Option Int) : sIx n d o ≤ n := by
  cases o with
  | none => exact hd
  | some v =>
    show (if v < 0 then (v + (n : Int)).toNat else min v.toNat n) ≤ n
    by_cases hv : v < 0
    · rw [if_pos hv]; omega
    · rw [if_neg hv]; exact Nat.min_le_right _ _
theorem qV (v:Int) (n d:Nat):(if v<0 then max (v+(n:Int)) 0 else min v (n:Int))=((sIx n d (some v):Nat):Int):=by
 show (if v<0 then max (v+(n:Int)) 0 else min v (n:Int))=(((if v<0 then (v+(n:Int)).toNat else min v.toNat n):Nat):Int)
 by_cases hv:v<0
 · simp only [if_pos hv];omega
 · simp only [if_neg hv];omega
theorem sy (lo hi:Option Int) (n:Nat):Builtin.Slice.sliceAdjust lo hi 1 (n:Int)=(((sIx n 0 lo:Nat):Int),((sIx n n hi:Nat):Int)):=by
 have h1:¬ ((1:Int)<0):=by omega
 unfold Builtin.Slice.sliceAdjust
 simp only [h1,if_false]
 refine Prod.ext ?_ ?_
 · cases lo with
   | none=>rfl
   | some v=>exact qV v n 0
 · cases hi with
   | none=>rfl
   | some v=>exact qV v n n
theorem sE (i j:Nat):Builtin.Slice.slicePlaces (i:Int) (j:Int) 1=j - i:=by
 unfold Builtin.Slice.slicePlaces
 have h1:(1:Int)>0:=by omega
 simp only [h1,if_true,Int.ediv_one]
 split <;> omega
theorem kU {v:Value} {o:Option Int} {Q:Option Int→Shared→Prop} (p:IsPart v o) (h:Q o s):wpAny (model prog w) A (Builtin.Slice.slicePartIndex v) Q E s:=by
 cases p with
 | none=>exact slicePart_none h
 | int i t=>exact slicePart_int h
theorem gk {sl:Addr} {vl vu:Value} {lo hi:Option Int} {n:Nat} {Q:Int×Int×Nat→Shared→Prop} (hs:s.heap.IsSliceOf sl vl vu .none) (pl:IsPart vl lo) (pu:IsPart vu hi)
  (h:Q (((sIx n 0 lo:Nat):Int),1,sIx n n hi - sIx n 0 lo) s):wpAny (model prog w) A (Builtin.Slice.sliceApplied (.ref sl) (pure (n:Int))) Q E s:=by
 obtain ⟨os,hos,hcs,hds⟩:=id hs
 unfold Builtin.Slice.sliceApplied Builtin.Slice.sliceFields
 refine wpAny_bind (wpAny_bind (wpAny_field hos hds (x:=vl) rfl (wpAny_bind (wpAny_field hos hds (x:=vu) rfl (wpAny_bind (wpAny_field hos hds (x:=.none) rfl (wpAny_pure ?_)))))))
 refine wpAny_bind (slicePart_none ?_)
 show wpAny _ _ (if ((1:Int)==0)=true then _ else _) _ _ s
 rw [if_neg (by decide)]
 refine wpAny_bind (kU pl (wpAny_bind (kU pu (wpAny_bind (wpAny_pure ?_)))))
 show wpAny _ _ (match Builtin.Slice.sliceAdjust lo hi 1 (n:Int) with | (lo,hi)=>pure (lo,(1:Int),Builtin.Slice.slicePlaces lo hi 1)) _ _ s
 rw [sy lo hi n]
 show wpAny _ _ (pure (((sIx n 0 lo:Nat):Int),(1:Int),Builtin.Slice.slicePlaces ((sIx n 0 lo:Nat):Int) ((sIx n n hi:Nat):Int) 1)) _ _ s
 rw [sE]
 exact wpAny_pure h
theorem yb (xs:Array Value) (i k:Nat):((List.range k).filterMap fun (m:Nat)=>xs[((i:Int)+(m:Int)*1).toNat]?).toArray=((xs.toList.drop i).take k).toArray:=by
 have e:(fun (m:Nat)=>xs[((i:Int)+(m:Int)*1).toNat]?)=fun m=>xs[i+m]?:=by
  funext m
  have:((i:Int)+(m:Int)*1).toNat=i+m:=by omega
  rw [this]
 rw [e]
 have:=pick_run xs i k
 rw [List.filterMap_map] at this
 have e2:((fun x=>xs[x]?)∘fun x=>i+x)=fun m=>xs[i+m]?:=rfl
 rw [e2] at this
 rw [this]
theorem kh {t sl:Addr} {items:Array Value} {vl vu:Value} {lo hi:Option Int} {Q:Value→Shared→Prop} (ht:IsTup s.heap t items) (hs:s.heap.IsSliceOf sl vl vu .none) (pl:IsPart vl lo) (pu:IsPart vu hi)
  (hw:¬ (sIx items.size 0 lo=0∧sIx items.size items.size hi=items.size))
  (h:Q (.ref s.heap.objs.size) { s with heap:=s.heap.push { cls:=.type "tuple",data:=.seq ((items.toList.drop (sIx items.size 0 lo)).take (sIx items.size items.size hi - sIx items.size 0 lo)).toArray } })
  (hsz:items.size≤sizeLine):wpAny (model prog w) A (getItem (.ref t) (.ref sl)) Q E s:=by
 have htake:sizeOk (.seq ((items.toList.drop (sIx items.size 0 lo)).take (sIx items.size items.size hi - sIx items.size 0 lo)).toArray):=by
  show ((items.toList.drop (sIx items.size 0 lo)).take (sIx items.size items.size hi - sIx items.size 0 lo)).toArray.size≤sizeLine
  rw [List.size_toArray,List.length_take,List.length_drop,Array.length_toList]
  omega
 have hj:sIx items.size items.size hi≤items.size:=Bu _ _ (Nat.le_refl _) hi
 obtain ⟨os,hos,hcs,hds⟩:=id hs
 have hTs:s.TypeIs (.ref sl) "slice" :=⟨os,hos,hcs⟩
 unfold getItem
 try with_reducible refine wpAny_holding ?_
 first | refine wpAny_bind (wpAny_pure ?_) | skip
 refine wpAny_bind (wpAny_sequenceKey ht.typeIs (by decide) ?_)
 refine wpAny_bind (wpAny_callSpecial?_slot (name:=Str.ofString "__getitem__") ht.typeIs PyProof.Rows.slot_tuple_getitem
  (wpAny_call_entry PyProof.Rows.slot_tuple_getitem ht.typeIs entry_tuple_getitem ?_ (args_tuple_getitem _ _)))
 show wpAny _ _ (Builtin.Tuple.tupleItemsOf (.ref t)>>=_) _ _ s
 refine wpAny_bind (tupleItemsOf_ ht ?_)
 refine wpAny_bind (wpAny_typeOf hTs ?_)
 rw [if_pos (by decide)]
 refine wpAny_bind (gk hs pl pu ?_)
 have hno:¬ ((((sIx items.size 0 lo:Nat):Int)==0&&(1:Int)==1&&(sIx items.size items.size hi - sIx items.size 0 lo)==items.size)=true):=by
  intro q
  rw [Bool.and_eq_true,Bool.and_eq_true] at q
  have q1:((sIx items.size 0 lo:Nat):Int)=0:=eq_of_beq q.1.1
  have q2:sIx items.size items.size hi - sIx items.size 0 lo=items.size:=eq_of_beq q.2
  exact hw ⟨by omega,by omega⟩
 show wpAny _ _ (if (((sIx items.size 0 lo:Nat):Int)==0&&(1:Int)==1&&(sIx items.size items.size hi - sIx items.size 0 lo)==items.size)=true then _ else _) _ _ s
 rw [if_neg hno,yb]
 first
  | exact wpAny_bind (m:=Builtin.Tuple.tupleExact _) (wpAny_newObj_type (wpAny_pure ⟨_,rfl,wpAny_pure h⟩) htake)
  | exact wpAny_bind (m:=Builtin.Tuple.tupleExact _) (wpAny_newObj_type (wpAny_bind (wpAny_pure (wpAny_pure ⟨_,rfl,wpAny_pure h⟩))) htake)
  | exact wpAny_bind (wpAny_bind (m:=Builtin.Tuple.tupleExact _) (wpAny_newObj_type (wpAny_pure (wpAny_pure ⟨_,rfl,wpAny_pure h⟩)) htake))
  | exact wpAny_bind (wpAny_bind (m:=Builtin.Tuple.tupleExact _) (wpAny_newObj_type (wpAny_pure ⟨_,rfl,wpAny_pure h⟩) htake))
end
end HT
namespace L2
open PySem PySem.Spec PyProof.Rows
abbrev TO:=St→Hp→(Option Int→Hp→Prop)→Prop
def PO (X:Cx) (e:Option Expr) (t:TO):Prop:=
 ∀ (pins:List (Addr×Obj)) (s:Shared) (σ:St) (H:Hp) (Q:Option Int→Hp→Prop),Inv X pins σ H s→t σ H Q→
  wpAny (model X.prog X.w) X.A (evalPart e X.env) (fun u s'=>∃ o H',Inv X pins σ H' s'∧IsPart u o∧Q o H') X.xe s
def fS:TO:=fun _ H Q=>Q none H
def jZ (t:TE):TO:=fun σ H Q=>t σ H fun x H1=>∃ i,x=.int i∧Q (some i) H1
section
variable {X:Cx} {e:Expr} {te:TE} {lo hi:Option Expr} {tl th:TO} {pos p2:Pos}
theorem zF:PO X none fS:=by
 intro pins s σ H Q I h
 rw [evalPart_none]
 exact wpAny_pure ⟨none,H,I,.none,h⟩
theorem zr (h:PE X e te):PO X (some e) (jZ te):=by
 intro pins s σ H Q I hw
 rw [evalPart_some]
 refine thn (h pins s σ H _ I hw) fun u s1 ⟨x,H1,I1,r1,q1⟩=>?_
 obtain ⟨i,rfl,q⟩:=q1
 obtain ⟨t,rfl⟩:=r1
 exact ⟨some i,H1,I1,.int i t,q⟩
def SlR (X:Cx) (r:V→Option Int→Option Int→Hp→VK→Prop):Prop:=
 ∀ (pins:List (Addr×Obj)) (s:Shared) (σ:St) (H:Hp) (x:V) (v vl vu:Value) (lo hi:Option Int) (sl:Addr) (Q:VK),Inv X pins σ H s→aS x v→s.heap.IsSliceOf sl vl vu .none→IsPart vl lo→IsPart vu hi→r x lo hi H Q→
  ∃ T id,typeLookup (.type T) "__getitem__" =pure (some (.builtin id))∧s.TypeIs v T∧wpAny (model X.prog X.w) X.A (getItem v (.ref sl)) (EP X pins σ Q) X.xe s
theorem SlR.or {r r':V→Option Int→Option Int→Hp→VK→Prop} (h:SlR X r) (h':SlR X r'):SlR X (fun x lo hi H Q=>r x lo hi H Q∨r' x lo hi H Q):=by
 intro pins s σ H x v vl vu lo hi sl Q I rx hs pl pu q
 rcases q with q | q
 · exact h pins s σ H x v vl vu lo hi sl Q I rx hs pl pu q
 · exact h' pins s σ H x v vl vu lo hi sl Q I rx hs pl pu q
def tSl (r:V→Option Int→Option Int→Hp→VK→Prop) (te:TE) (tl th:TO):TE:=fun σ H Q=>te σ H fun x H1=>tl σ H1 fun l H2=>th σ H2 fun u H3=>r x l u H3 Q
theorem wl {r:V→Option Int→Option Int→Hp→VK→Prop} (hr:SlR X r) (he:PE X e te) (hl:PO X lo tl) (hu:PO X hi th):PE X (.Subscript e (.Slice lo hi none p2) pos) (tSl r te tl th):=by
 intro pins s σ H Q I h
 refine Subscript_ (thn (he pins s σ H _ I h) fun v s1 ⟨x,H1,I1,r1,q1⟩=>?_)
 refine wpAny_Slice (thn (hl pins s1 σ H1 _ I1 q1) fun vl s2 ⟨l,H2,I2,pl,q2⟩=>thn (hu pins s2 σ H2 _ I2 q2) fun vu s3 ⟨u,H3,I3,pu,q3⟩=>?_)
 rw [evalPart_none]
 refine wpAny_pure ?_
 have I4:Inv X pins σ H3 { s3 with heap:=s3.heap.push { cls:=.type "slice",data:=.fields #[vl,vu,.none] } }:=I3.kept (t':=s3.toks) fun b ob q=>Heap.get?_push_of_some _ q
 obtain ⟨T,id,hT,ht,hg⟩:=hr pins { s3 with heap:=s3.heap.push { cls:=.type "slice",data:=.fields #[vl,vu,.none] } } σ H3 x v vl vu l u s3.heap.objs.size Q I4 r1 (Heap.IsSliceOf.new ..) pl pu q3
 show wpAny (model X.prog X.w) X.A (subscriptTail e (.Slice lo hi none p2) v (.ref s3.heap.objs.size)) (EP X pins σ Q) X.xe { s3 with heap:=s3.heap.push { cls:=.type "slice",data:=.fields #[vl,vu,.none] } }
 exact tail_any (ops:=[.ref s3.heap.objs.size,v]) ht hT hg (by with_unfolding_all rfl)
def fh (xs:List V) (lo hi:Option Int):List V:=(xs.drop (HT.sIx xs.length 0 lo)).take (HT.sIx xs.length xs.length hi - HT.sIx xs.length 0 lo)
theorem km (xs:List V) (lo hi:Option Int):(fh xs lo hi).length≤xs.length:=by
 unfold fh
 rw [List.length_take,List.length_drop]
 omega
def HU (K:W.Frag):V→Option Int→Option Int→Hp→VK→Prop:=fun x lo hi H Q=>∃ a xs,x=.ref a∧SqT K H a xs∧
 ¬ (HT.sIx xs.length 0 lo=0∧HT.sIx xs.length xs.length hi=xs.length)∧∀ p,H p=none→Q (.ref p) (upd H p (.tup (fh xs lo hi)))
theorem Cp:SlR X (HU X.K):=by
 intro pins s σ H x v vl vu lo hi sl Q I rx hs pl pu h
 obtain ⟨a,xs,rfl,hx,hw,q⟩:=h
 cases rx
 obtain ⟨its,r,ht,hz⟩:=I.tuple hx
 have hlen:its.toArray.size=xs.length:=by rw [List.size_toArray];exact r.length.symm
 refine ⟨"tuple",_,PyProof.Rows.slot_tuple_getitem.lookup,ht.typeIs,?_⟩
 refine HT.kh ht hs pl pu (by rw [hlen];exact hw) ?_ (by rw [hlen];exact hz)
 rw [hlen]
 refine ⟨.ref s.heap.objs.size,_,I.laid (t':=s.toks) (o:=.tup (fh xs lo hi)) (fun b ob q=>Heap.get?_push_of_some _ q) (Nat.le_refl _) ?_,rfl,q _ (I.hok.fresh (Nat.le_refl _))⟩
 exact ⟨Nat.le_trans (km xs lo hi) hz,_,(r.drop (HT.sIx xs.length 0 lo)).take (HT.sIx xs.length xs.length hi - HT.sIx xs.length 0 lo),IsTup.new _ _⟩
def FT (K:W.Frag):R2:=fun x y H Q=>∃ a b xs ys,x=.ref a∧y=.ref b∧SqT K H a xs∧SqT K H b ys∧xs≠[]∧xs.length+ys.length≤sizeLine∧
 (ys=[]→Q (.ref a) H)∧(ys≠[]→∀ p,H p=none→Q (.ref p) (upd H p (.tup (xs++ys))))
theorem aR.nil_iff {xs:List V} {us:List Value} (r:aR xs us):us=[]↔xs=[]:=by
 cases r with
 | nil=>simp
 | cons _ _=>simp
theorem zX:OpR X (binaryOp .Add) (FT X.K):=by
 intro pins s σ H x y v u Q I rx ry h
 obtain ⟨a,b,xs,ys,rfl,rfl,ha,hb,hx,hz,q1,q2⟩:=h
 cases rx
 cases ry
 obtain ⟨its,r1,p1,_⟩:=I.tuple ha
 obtain ⟨its2,r2,p2,_⟩:=I.tuple hb
 refine HT.zQ p1 p2 (fun z=>hx (r1.nil_iff.mp z)) (fun z=>⟨.ref a,H,I,rfl,q1 (r2.nil_iff.mp z)⟩) (fun z=>?_) (by rw [← r1.length,←r2.length];exact hz)
 refine ⟨.ref s.heap.objs.size,_,I.laid (t':=s.toks) (o:=.tup (xs++ys)) (fun b ob q=>Heap.get?_push_of_some _ q) (Nat.le_refl _) ?_,rfl,q2 (fun w=>z (r2.nil_iff.mpr w)) _ (I.hok.fresh (Nat.le_refl _))⟩
 exact ⟨by rw [List.length_append];exact hz,_,r1.append r2,IsTup.new _ _⟩
end
def ixN (n:Nat) (i:Int):Option Nat:=if 0≤i then (if i<n then some i.toNat else none) else if -(n:Int)≤i then some (i+n).toNat else none
def atI {α:Type} (xs:List α) (i:Int):Option α:=(ixN xs.length i).bind fun j=>xs[j]?
theorem rC {n:Nat} {i:Int} {j:Nat} (h:ixN n i=some j):seqIndex? i n=some j∧j<n∧ -(n:Int)≤i∧i<n:=by
 unfold ixN at h
 by_cases h0:0≤i
 · rw [if_pos h0] at h
   by_cases h1:i<n
   · rw [if_pos h1] at h
     have e:i.toNat=j:=Option.some.inj h
     exact ⟨by rw [seqIndex_of h0 h1,e],by omega,by omega,h1⟩
   · rw [if_neg h1] at h;cases h
 · rw [if_neg h0] at h
   by_cases h1: -(n:Int)≤i
   · rw [if_pos h1] at h
     have e:(i+n).toNat=j:=Option.some.inj h
     exact ⟨by rw [seqIndex_neg (by omega) h1,e],by omega,h1,by omega⟩
   · rw [if_neg h1] at h;cases h
theorem ib {α : Type} {xs : List α} {i : Int} {v : α} (h : atI xs i = some v) : ∃ j, seqIndex? i xs.length = some j ∧ xs[j]? = some v ∧ j < xs.length ∧ -(xs.length : Int) ≤ i ∧ i < xs.length := by
  unfold atI at h
  cases e : ixN xs.length i with
  | none => rw [e] at h; cases h
  | some j =>
    rw [e] at h
    obtain ⟨h1, h2, h3, h4⟩ := rC e
    exact ⟨j, h1, h, h2, h3, h4⟩
theorem wZ {α:Type} (xs:List α) (v:α):atI (xs++[v]) (-1)=some v:=by
 have hl:(xs++[v]).length=xs.length+1:=by simp
 have e:ixN (xs++[v]).length (-1)=some xs.length:=by
  unfold ixN
  rw [hl,if_neg (by decide),if_pos (by omega)]
  congr 1
  omega
 unfold atI
 rw [e]
 show (xs++[v])[xs.length]?=some v
 simp
def rG (b:Expr):Prop:=∀ o i,subscripted b false o i=operate [o,i] (getItem o i)
def IxR (X:Cx) (r:R2):Prop:=
 ∀ (value slice:Expr) (pins:List (Addr×Obj)) (s:Shared) (σ:St) (H:Hp) (x y:V) (v u:Value) (Q:VK),Inv X pins σ H s→aS x v→aS y u→r x y H Q→
  subscripted slice false v u=operate [v,u] (getItem v u)→wpAny (model X.prog X.w) X.A (subscriptTail value slice v u) (EP X pins σ Q) X.xe s
def MtR (X:Cx) (id:String) (r:V→List V→Hp→VK→Prop):Prop:=
 ∀ (pins:List (Addr×Obj)) (s:Shared) (σ:St) (H:Hp) (x:V) (xs:List V) (v:Value) (us:List Value) (Q:VK),Inv X pins σ H s→aS x v→aR xs us→r x xs H Q→
  wpAny (model X.prog X.w) X.A (call (.builtin id) (v::us)) (EP X pins σ Q) X.xe s
section
variable {X:Cx} {a b:Expr} {ta tb:TE} {pos:Pos}
theorem IxR.or {r r':R2} (h:IxR X r) (h':IxR X r'):IxR X (fun x y H Q=>r x y H Q∨r' x y H Q):=by
 intro value slice pins s σ H x y v u Q I rx ry q hs
 rcases q with q | q
 · exact h value slice pins s σ H x y v u Q I rx ry q hs
 · exact h' value slice pins s σ H x y v u Q I rx ry q hs
theorem Ft {r:R2} (hr:IxR X r) (ha:PE X a ta) (hb:PE X b tb) (hs:rG b):PE X (.Subscript a b pos) (tOp r ta tb):=by
 intro pins s σ H Q I h
 exact Subscript_ (xm ha hb I h fun v u s2 x y H2 I2 rx ry q=>hr a b pins s2 σ H2 x y v u Q I2 rx ry q (hs _ _))
def CI (K:W.Frag):R2:=fun x y H Q=>∃ p xs i v,x=.ref p∧y=.int i∧SqL K H p xs∧atI xs i=some v∧Q v H
def Bg (K:W.Frag):R2:=fun x y H Q=>∃ p xs i v,x=.ref p∧y=.int i∧SqT K H p xs∧atI xs i=some v∧Q v H
def CC:R2:=fun x y H Q=>∃ z i c,x=.str z∧y=.int i∧z.length≤sizeLine∧atI z.cps.toList i=some c∧Q (.str ⟨#[c]⟩) H
theorem zW:IxR X (CI X.K):=by
 intro value slice pins s σ H x y v u Q I rx ry h hs
 obtain ⟨p,xs,i,z,rfl,rfl,hq,he,q⟩:=h
 cases rx
 obtain ⟨t,rfl⟩:=ry
 obtain ⟨its,r,pl,hz⟩:=I.list hq
 obtain ⟨j,h1,h2,h3,h4,h5⟩:=ib he
 obtain ⟨w,ew,rw'⟩:=r.get h2
 have hl:=r.length
 have hn:=gP
 have fin:EP X pins σ Q w s:=⟨z,H,I,rw',q⟩
 by_cases h0:0≤i
 · have hj:i.toNat=j:=by
    rw [seqIndex_of h0 h5] at h1
    exact Option.some.inj h1
   exact item_listR pl.isList h0 (by omega) (by rw [hj];simpa using ew) fin hs
 · have hj:(i+(its.toArray.size:Int)).toNat=j:=by
    rw [seqIndex_neg (by omega) h4] at h1
    rw [List.size_toArray,←hl]
    exact Option.some.inj h1
   exact subscriptTail_builtinR (x:=w) pl.isList.typeIs slot_list_getitem.lookup
    (wpAny_getItem_list_neg (Q:=fun r s'=>r=w∧EP X pins σ Q r s') pl.isList (by omega) (by rw [List.size_toArray] <;> omega) (by omega) (by rw [hj];simpa using ew) ⟨rfl,fin⟩) hs
theorem Ce:IxR X (Bg X.K):=by
 intro value slice pins s σ H x y v u Q I rx ry h hs
 obtain ⟨p,xs,i,z,rfl,rfl,hq,he,q⟩:=h
 cases rx
 obtain ⟨t,rfl⟩:=ry
 obtain ⟨its,r,pl,hz⟩:=I.tuple hq
 obtain ⟨j,h1,h2,h3,h4,h5⟩:=ib he
 obtain ⟨w,ew,rw'⟩:=r.get h2
 have hl:=r.length
 have hn:=gP
 have fin:EP X pins σ Q w s:=⟨z,H,I,rw',q⟩
 exact subscriptTail_builtinR (x:=w) pl.typeIs slot_tuple_getitem.lookup
  (getItem_tuple (j:=j) (Q:=fun r s'=>r=w∧EP X pins σ Q r s') pl (by omega) (by omega) (by rw [List.size_toArray,←hl];exact h1) (by simpa using ew) ⟨rfl,fin⟩) hs
theorem Cu:IxR X CC:=by
 intro value slice pins s σ H x y v u Q I rx ry h hs
 obtain ⟨z,i,c,rfl,rfl,hz,he,q⟩:=h
 obtain ⟨t,rfl⟩:=rx
 obtain ⟨t',rfl⟩:=ry
 obtain ⟨j,h1,h2,h3,h4,h5⟩:=ib he
 have hl:z.cps.toList.length=z.length:=by simp [Str.length]
 rw [hl] at h1 h4 h5
 have hn:=gP
 exact tail_any (typeIs_str s z t) slot_str_getitem.lookup (getItem_str (c:=c) (by
  have e1:decide (i< -(2^63:Int))=false:=decide_eq_false (by omega)
  have e2:decide (i≥2^63)=false:=decide_eq_false (by omega)
  rw [e1,e2,Bool.or_false]) (by rw [h1];simpa using h2) ⟨.str ⟨#[c]⟩,H,I.tok _,⟨_,rfl⟩,q⟩) hs
def rIx (K:W.Frag):R2:=fun x y H Q=>CI K x y H Q∨Bg K x y H Q∨CC x y H Q
theorem CB:IxR X (rIx X.K):=zW.or (Ce.or Cu)
theorem tB (its:List Value) (n j:Nat) (u:Value):Obj.mapSeq (·.setIfInBounds j u) { cls:=.type "list",data:=.seq its.toArray n }={ cls:=.type "list",data:=.seq (its.set j u).toArray n }:=by
 simp [Obj.mapSeq]
theorem Inv.lst {pins:List (Addr×Obj)} {σ:St} {H:Hp} {s:Shared} {p:Addr} {xs:List V} (I:Inv X pins σ H s) (h:H p=some (.lst xs)):
  ∃ (its:List Value) (n:Nat),aR xs its∧s.heap.get? p=some { cls:=.type "list",data:=.seq its.toArray n }∧xs.length≤sizeLine:=by
 obtain ⟨z,its,n,r,e⟩:=I.hok p _ h
 exact ⟨its,n,r,e,z⟩
theorem Inv.lstUpd {pins:List (Addr×Obj)} {σ:St} {H:Hp} {s:Shared} {p:Addr} {xs ys:List V} {its its':List Value} {n n':Nat} {f:Obj→Obj} (I:Inv X pins σ H s) (h:H p=some (.lst xs))
  (ho:s.heap.get? p=some { cls:=.type "list",data:=.seq its.toArray n }) (hf:f { cls:=.type "list",data:=.seq its.toArray n }={ cls:=.type "list",data:=.seq its'.toArray n' }) (r:aR ys its') (hz:ys.length≤sizeLine) (t:Nat):
  Inv X pins σ (upd H p (.lst ys)) { s with heap:=s.heap.update p f,toks:=t }:=by
 have e:(s.heap.update p f).get? p=some { cls:=.type "list",data:=.seq its'.toArray n' }:=by
  rw [Heap.get?_update_self f ho (by rw [hf] <;> rfl),hf]
 refine I.write (x:=p) (e:=p) (by rw [h];trivial) (.inl rfl) (fun b u hb q=>(Heap.get?_update_other _ _ (Ne.symm hb)).trans q) ⟨_,e⟩ ?_
 exact ⟨hz,its',n',r,e⟩
def yN:V→V→V→Hp→(Hp→Prop)→Prop:=fun o i v H Q=>∃ p xs k j,o=.ref p∧i=.int k∧H p=some (.lst xs)∧ixN xs.length k=some j∧Q (upd H p (.lst (xs.set j v)))
theorem yd:sF X yN:=by
 intro pins s σ H o i v ov iv u Q I ro ri rv h
 obtain ⟨p,xs,k,j,rfl,rfl,hp,hj,q⟩:=h
 cases ro
 obtain ⟨t,rfl⟩:=ri
 obtain ⟨its,n,r,ho,hz⟩:=I.lst hp
 obtain ⟨h1,h2,h3,h4⟩:=rC hj
 have hl:=r.length
 have hn:=gP
 have I':Inv X pins σ (upd H p (.lst (xs.set j v))) { s with heap:=s.heap.update p (Obj.mapSeq (·.setIfInBounds j u)) }:=
   I.lstUpd hp ho (tB its n j u) (r.set rv j) (by rw [List.length_set];exact hz) s.toks
 by_cases h0:0≤k
 · have hk:k.toNat=j:=by
    rw [seqIndex_of h0 h4] at h1
    exact Option.some.inj h1
   exact W.ki_setAt ho h0 (by omega) (by rw [List.size_toArray,←hl];exact h4) (by rw [hk];exact ⟨_,I',q⟩)
 · have hk:(k+(its.toArray.size:Int)).toNat=j:=by
    rw [seqIndex_neg (by omega) h3] at h1
    rw [List.size_toArray,←hl]
    exact Option.some.inj h1
   exact W.ki_setBack ho (by omega) (by rw [List.size_toArray,←hl];exact h3) (by omega) (by rw [hk];exact ⟨_,I',q⟩)
theorem qj (lo hi : Option Int) (n : Nat) : (sliceBounds lo hi none n).1 = ((HT.sIx n 0 lo : Nat) : Int) ∧ (sliceBounds lo hi none n).2.1 = ((HT.sIx n n hi : Nat) : Int) ∧ (sliceBounds lo hi none n).2.2 = 1 := by
  refine ⟨?_, ?_, rfl⟩
  · cases lo with
    | none => simp [sliceBounds, HT.sIx]
    | some i =>
      simp only [sliceBounds, HT.sIx, Option.getD_none, show (1 : Int) > 0 by decide, if_true]
      by_cases h : i < 0
      · simp only [h, if_true] <;> omega
      · simp only [h, if_false] <;> omega
  · cases hi with
    | none => simp [sliceBounds, HT.sIx]
    | some i =>
      simp only [sliceBounds, HT.sIx, Option.getD_none, show (1 : Int) > 0 by decide, if_true]
      by_cases h : i < 0
      · simp only [h, if_true] <;> omega
      · simp only [h, if_false] <;> omega
theorem nV (its:List Value) (lo hi:Option Int):slicePick its.toArray lo hi none=((its.drop (HT.sIx its.length 0 lo)).take (HT.sIx its.length its.length hi - HT.sIx its.length 0 lo)).toArray:=by
 obtain ⟨h1,h2,h3⟩:=qj lo hi its.toArray.size
 unfold slicePick
 rw [h1,h2,h3]
 simp only [sliceRange_one,pick_run,List.size_toArray] <;> rfl
def Dy (K:W.Frag):V→Option Int→Option Int→Hp→VK→Prop:=fun x lo hi H Q=>∃ a xs,x=.ref a∧SqL K H a xs∧∀ p,H p=none→Q (.ref p) (upd H p (.lst (fh xs lo hi)))
theorem zY:SlR X (Dy X.K):=by
 intro pins s σ H x v vl vu lo hi sl Q I rx hs pl pu h
 obtain ⟨a,xs,rfl,hx,q⟩:=h
 cases rx
 obtain ⟨its,r,ht,hz⟩:=I.list hx
 have hlen:=r.length
 refine ⟨"list",_,slot_list_getitem.lookup,ht.isList.typeIs,?_⟩
 refine wpAny_getItem_list_slice ht.isList hs pl pu .none (by simp) ?_ (by rw [List.size_toArray] <;> omega)
 rw [nV,←hlen]
 refine ⟨.ref s.heap.objs.size,_,I.laid (t':=s.toks) (o:=.lst (fh xs lo hi)) (fun b ob q=>Heap.get?_push_of_some _ q) (Nat.le_refl _) ?_,rfl,q _ (I.hok.fresh (Nat.le_refl _))⟩
 exact ⟨Nat.le_trans (km xs lo hi) hz,_,0,(r.drop (HT.sIx xs.length 0 lo)).take (HT.sIx xs.length xs.length hi - HT.sIx xs.length 0 lo),Heap.get?_push_size _ rfl⟩
theorem bv.or {f:Value} {r r':List V→Hp→VK→Prop} (h:bv X f r) (h':bv X f r'):bv X f (fun xs H Q=>r xs H Q∨r' xs H Q):=by
 intro pins s σ H xs us Q I rs q
 rcases q with q | q
 · exact h pins s σ H xs us Q I rs q
 · exact h' pins s σ H xs us Q I rs q
theorem qp:bv X (.type "list") (fun xs H Q=>∃ p ys,xs=[.ref p]∧(SqL X.K H p ys∨SqT X.K H p ys)∧∀ l,H l=none→Q (.ref l) (upd H l (.lst ys))):=by
 intro pins s σ H xs us Q I r h
 obtain ⟨p,ys,rfl,hq,q⟩:=h
 obtain ⟨u,rfl,rx⟩:=dZ r
 cases rx
 have fin:∀ (its:List Value),aR ys its→ys.length≤sizeLine→∀ (h':Heap) (c':Nat),(∀ b o',s.heap.get? b=some o'→h'.get? b=some o')→
    h'.get? s.heap.objs.size=some { cls:=.type "list",dict:=none,data:=.seq its.toArray c',slots:=#[] }→EP X pins σ Q (.ref s.heap.objs.size) { s with heap:=h' }:=fun its r' hz h' c' kp e=>
   ⟨.ref s.heap.objs.size,_,I.laid (t':=s.toks) kp (Nat.le_refl _) (show aU X.prog X.w _ h' _ (.lst ys) from ⟨hz,its,c',r',e⟩),rfl,q _ (I.hok.fresh (Nat.le_refl _))⟩
 rcases hq with hq | hq
 · obtain ⟨its,r',pl,hz⟩:=I.list hq
   have hlen:=r'.length
   obtain ⟨o,ho,hc,n,hd⟩:=pl.isList
   exact call_list_seq p (.inl rfl) ho hc hd (fun h' c' kp e=>fin its r' hz h' c' kp e) (by simp only [List.size_toArray] <;> omega)
 · obtain ⟨its,r',pl,hz⟩:=I.tuple hq
   have hlen:=r'.length
   obtain ⟨o,ho,hc,n,hd⟩:=pl
   exact call_list_seq p (.inr rfl) ho hc hd (fun h' c' kp e=>fin its r' hz h' c' kp e) (by simp only [List.size_toArray] <;> omega)
theorem nN:bv X (.type "tuple") (fun xs H Q=>∃ p ys,xs=[.ref p]∧((SqL X.K H p ys∧∀ l,H l=none→Q (.ref l) (upd H l (.tup ys)))∨(SqT X.K H p ys∧Q (.ref p) H))):=by
 intro pins s σ H xs us Q I r h
 obtain ⟨p,ys,rfl,h⟩:=h
 obtain ⟨u,rfl,rx⟩:=dZ r
 cases rx
 rcases h with ⟨hq,q⟩ | ⟨hq,q⟩
 · obtain ⟨its,r',pl,hz⟩:=I.list hq
   have hlen:=r'.length
   refine call_tuple_list pl.isList (fun h' kp=>?_) (by simp only [List.size_toArray] <;> omega)
   have I1:Inv X pins σ H { s with heap:=h' }:=I.kept (t':=s.toks) kp
   have I2:Inv X pins σ (upd H h'.objs.size (.tup ys)) { s with heap:=h'.push { cls:=.type "tuple",data:=.seq its.toArray } }:=
    I1.laid (t':=s.toks) (fun b o e=>Heap.get?_push_of_some _ e) (Nat.le_refl _) (show aU X.prog X.w _ _ _ (.tup ys) from ⟨hz,its,r',IsTup.new _ _⟩)
   exact ⟨.ref h'.objs.size,_,I2,rfl,q _ (I1.hok.fresh (Nat.le_refl _))⟩
 · obtain ⟨its,r',pl,hz⟩:=I.tuple hq
   exact call_tuple_same pl ⟨.ref p,H,I,rfl,q⟩
def tyV (K:W.Frag) (T:String) (x:V) (H:Hp):Prop:=match x with
 | .str _=>T= "str"
 | .int _=>T= "int"
 | .ref p=>(T= "list" ∧∃ xs,SqL K H p xs)∨(T= "tuple" ∧∃ o,K.lookup p=some o∧o.cls=.type "tuple" ∧o.dict=none)∨
  (T= "dict" ∧((∃ kvs,H p=some (.dK kvs))∨∃ kvs,H p=some (.dT kvs)))∨(T= "set" ∧∃ S n,H p=some (.set S n))
 | _=>False
theorem tY {pins : List (Addr × Obj)} {σ : St} {H : Hp} {s : Shared} {T : String} {x : V} {v : Value} (I : Inv X pins σ H s) (r : aS x v) (ty : tyV X.K T x H) :
    s.TypeIs v T ∧ ∀ a, v = .ref a → ∃ ob, s.heap.get? a = some ob ∧ ob.dict = none := by
  cases x with
  | str z =>
    obtain ⟨t, rfl⟩ := r
    cases (show T = "str" from ty)
    exact ⟨typeIs_str s z t, fun _ e => nomatch e⟩
  | int i =>
    obtain ⟨t, rfl⟩ := r
    cases (show T = "int" from ty)
    exact ⟨typeIs_int s i t, fun _ e => nomatch e⟩
  | ref p =>
    cases r
    rcases ty with ⟨rfl, xs, hq⟩ | ⟨rfl, o, hk, hc, hd⟩ | ⟨rfl, hk⟩ | ⟨rfl, S, n, hk⟩
    · obtain ⟨its, _, pl, _⟩ := I.list hq
      refine ⟨pl.isList.typeIs, fun a e => ?_⟩
      cases e
      obtain ⟨o, n, e, c, hd, _⟩ := pl
      exact ⟨o, e, hd⟩
    · refine ⟨⟨o, I.kIn p o hk, hc⟩, fun a e => ?_⟩
      cases e
      exact ⟨o, I.kIn _ o hk, hd⟩
    · have z : ∃ o, s.heap.get? p = some o ∧ o.ExactDict := by
        rcases hk with ⟨kvs, hk⟩ | ⟨kvs, hk⟩
        · obtain ⟨_, _, _, _, o, _, _, e, ex, _⟩ := I.hok p _ hk
          exact ⟨o, e, ex⟩
        · obtain ⟨_, _, _, _, o, _, _, e, ex, _⟩ := I.hok p _ hk
          exact ⟨o, e, ex⟩
      obtain ⟨o, e, ex⟩ := z
      refine ⟨⟨o, e, ex.1⟩, fun a e2 => ?_⟩
      cases e2
      exact ⟨o, e, ex.2.1⟩
    · obtain ⟨o, _, _, _, e, ex, _⟩ := I.hok p _ hk
      refine ⟨⟨o, e, ex.1⟩, fun a e2 => ?_⟩
      cases e2
      exact ⟨o, e, ex.2.1⟩
  | _ => exact False.elim ty
def wU (K:W.Frag) (T:String) (r:V→List V→Hp→VK→Prop) (to:TE):TE:=fun σ H Q=>to σ H fun x H1=>tyV K T x H1∧r x [] H1 Q
def tBM (K:W.Frag) (T:String) (r:V→List V→Hp→VK→Prop) (to:TE) (t:TA):TE:=fun σ H Q=>to σ H fun x H1=>tyV K T x H1∧t σ H1 fun xs H2=>r x xs H2 Q
variable {o e:Expr} {es:List Expr} {to:TE} {t:TA} {name:Str} {apos cpos:Pos} {T id:String} {r:V→List V→Hp→VK→Prop}
theorem Dd (pa:PlainAttrs T) (slot:Slot T name id) (hty:typeOf (.builtin id)=pure (.type "method_descriptor")) (hm:MtR X id r) (ho:PE X o to)
  (hbase:attributeBase o name X.env (eval o X.env)=eval o X.env:=by rfl) (hline:(apos.endLine==cpos.line)=true:=by rfl):PE X (.Call (.Attribute o name apos) [] [] cpos) (wU X.K T r to):=by
 intro pins s σ H Q I h
 refine wpAny_Call_method0_late hbase hline (thn (ho pins s σ H _ I h) fun v s1 ⟨x,H1,I1,r1,ty,q1⟩=>?_)
 obtain ⟨h1,h2⟩:=tY I1 r1 ty
 exact ⟨T,id,pa,slot,hty,h1,h2,Calls.callWith_builtin rfl (PySem.evalArgs_none (hm pins s1 σ H1 x [] v [] Q I1 r1 .nil q1))⟩
theorem GJ (pa : PlainAttrs T) (slot : Slot T name id) (hty : typeOf (.builtin id) = pure (.type "method_descriptor")) (hm : MtR X id r) (ho : PE X o to) (ha : PA X (e :: es) t)
  (hbase : attributeBase o name X.env (eval o X.env) = eval o X.env := by rfl)
  (hfew : ((backTo cpos (starEach (e :: es) X.env)).all (fun x => !x.1) && (backToKw cpos (keywordEach [] X.env)).all (fun x => x.1.isSome)
   && decide ((e :: es).length + ([] : List Keyword).length + (if ([] : List Keyword).isEmpty then 0 else 1) < 30)) = true := by rfl)
  (hline : (apos.endLine == cpos.line) = true := by rfl) (hs : starEach (e :: es) X.env = (false, eval e X.env) :: starEach es X.env := by rfl) (hplain : (backTo cpos (starEach es X.env)).any (·.1) = false := by rfl) :
  PE X (.Call (.Attribute o name apos) (e :: es) [] cpos) (tBM X.K T r to t) := by
 intro pins s σ H Q I h
 refine wpAny_Call_method_late hbase hfew hline rfl (thn (ho pins s σ H _ I h) fun v s1 ⟨x, H1, I1, r1, ty, q1⟩ => ?_)
 obtain ⟨h1, h2⟩ := tY I1 r1 ty
 refine ⟨T, id, pa, slot, hty, h1, h2, ?_⟩
 have hA := ha cpos pins s1 σ H1 _ I1 q1
 rw [hs] at hA ⊢
 refine Calls.callWith_builtin (by show (false || (backTo cpos (starEach es X.env)).any (·.1)) = false; rw [hplain] <;> rfl) (Calls.evalArgs_plain ?_)
 exact thn hA fun us s2 ⟨vs, H2, I2, r2, q2⟩ => hm pins s2 σ H2 x vs v us Q I2 r1 r2 q2
end
def MtM (X:Cx) (id:String) (r:V→List V→Hp→VK→Prop):Prop:=
 ∀ (pins:List (Addr×Obj)) (s:Shared) (σ:St) (H:Hp) (x:V) (xs:List V) (v:Value) (us:List Value) (Q:VK),Inv X pins σ H s→aS x v→aR xs us→r x xs H Q→
  wpAny (model X.prog X.w) X.A (call (.builtin id) (v::us)) (EP X pins σ Q) X.xe s
theorem aR.one:∀ {x:V} {us:List Value},aR [x] us→∃ u,us=[u]∧aS x u
 | _,_,.cons r .nil=>⟨_,rfl,r⟩
theorem aR.rep {xs : List V} {us : List Value} (h : aR xs us) : ∀ k : Nat, aR (List.replicate k xs).flatten (List.replicate k us).flatten
  | 0 => .nil
  | k + 1 => by
    rw [List.replicate_succ, List.replicate_succ, List.flatten_cons, List.flatten_cons]
    exact aR.append h (aR.rep h k)
theorem nC (its : List Value) : ∀ (k : Nat) (acc : List Value),
    List.foldl (fun x1 x2 => x1 ++ x2) acc.toArray (List.replicate k its.toArray) = (acc ++ (List.replicate k its).flatten).toArray
  | 0, acc => by simp
  | k + 1, acc => by
    have e : acc.toArray ++ its.toArray = (acc ++ its).toArray := by simp
    have e2 : (acc ++ its) ++ (List.replicate k its).flatten = acc ++ (List.replicate (k + 1) its).flatten := by
      rw [List.replicate_succ, List.flatten_cons, List.append_assoc]
    rw [← e2, ← nC its k (acc ++ its), ← e, List.replicate_succ, List.foldl_cons]
section
variable {X:Cx} {pins:List (Addr×Obj)} {σ:St} {H:Hp} {s:Shared} {l b:Addr} {xs ys zs:List V}
theorem Inv.lset {its its':List Value} {n:Nat} {f:Array Value→Array Value} {t':Nat} (I:Inv X pins σ H s) (hH:H l=some (.lst xs))
  (e:s.heap.get? l=some { cls:=.type "list",data:=.seq its.toArray n }) (hf:f its.toArray=its'.toArray) (hv:aR ys its') (hz:ys.length≤sizeLine):
  Inv X pins σ (upd H l (.lst ys)) { s with heap:=s.heap.update l (Obj.mapSeq f),toks:=t' }:=by
 have q:=PySem.IsL.update e f
 rw [hf] at q
 refine I.write (x:=l) (e:=l) (by rw [hH];exact trivial) (.inl rfl) (fun b' u hb hu=>(Heap.get?_update_other s.heap (Obj.mapSeq f) (Ne.symm hb)).trans hu) ⟨_,q⟩ ?_
 exact ⟨hz,its',_,hv,q⟩
theorem Inv.lnew {its:List Value} {t':Nat} (I:Inv X pins σ H s) (hv:aR ys its) (hz:ys.length≤sizeLine):
  Inv X pins σ (upd H s.heap.objs.size (.lst ys)) { s with heap:=s.heap.push { cls:=.type "list",data:=.seq its.toArray },toks:=t' }:=
 I.laid (fun _ _ q=>Heap.get?_push_of_some _ q) (Nat.le_refl _) ⟨hz,its,0,hv,Heap.get?_push_size _ rfl⟩
theorem Inv.fresh (I:Inv X pins σ H s):H s.heap.objs.size=none:=I.hok.fresh (Nat.le_refl _)
theorem Inv.lstM (I:Inv X pins σ H s) (hH:H l=some (.lst xs)):xs.length≤sizeLine∧∃ (its:List Value) (n:Nat),aR xs its∧xs.length=its.length∧s.heap.get? l=some { cls:=.type "list",data:=.seq its.toArray n }:=by
 obtain ⟨z,its,n,r,e⟩:=I.hok l _ hH
 exact ⟨z,its,n,r,r.length,e⟩
end
section
variable {X:Cx}
def cV:V→List V→Hp→VK→Prop:=fun x vs H Q=>∃ l xs y,x=.ref l∧vs=[y]∧H l=some (.lst xs)∧xs.length<sizeLine∧Q .non (upd H l (.lst (xs++[y])))
theorem cz:MtM X "list.append" cV:=by
 intro pins s σ H x vs v us Q I rx rv h
 obtain ⟨l,xs,y,rfl,rfl,hH,hz,q⟩:=h
 cases rx
 obtain ⟨u,rfl,ru⟩:=rv.one
 obtain ⟨z,its,n,r,hl,e⟩:=I.lstM hH
 refine call_meets F.slot_list_append ⟨_,e,rfl⟩ F.entry_list_append (F.args_list_append_2 _ _) (PySem.list_append l its.toArray n u (by rw [List.size_toArray];omega)) ⟨e,?_⟩
 refine ⟨.non,_,I.lset (its':=its++[u]) hH e (by simp) (r.append (.cons ru .nil)) ?_,rfl,q⟩
 rw [List.length_append,List.length_singleton]
 omega
def Dn:R2:=fun x y H Q=>∃ l b xs zs,x=.ref l∧y=.ref b∧H l=some (.lst xs)∧H b=some (.lst zs)∧xs.length+zs.length≤sizeLine∧∀ p,H p=none→Q (.ref p) (upd H p (.lst (xs++zs)))
theorem Dk:OpR X (binaryOp .Add) Dn:=by
 intro pins s σ H x y v u Q I rx ry h
 obtain ⟨l,b,xs,zs,rfl,rfl,hH,hB,hz,q⟩:=h
 cases rx
 cases ry
 obtain ⟨z,its,n,r,hl,e⟩:=I.lstM hH
 obtain ⟨z2,its2,n2,r2,hl2,e2⟩:=I.lstM hB
 refine PySem.P.add_list e e2 ?_ (by rw [List.size_toArray,List.size_toArray];omega)
 have ea:its.toArray++its2.toArray=(its++its2).toArray:=by simp
 rw [ea]
 exact ⟨.ref _,_,I.lnew (t':=s.toks) (r.append r2) (by rw [List.length_append];omega),rfl,q _ I.fresh⟩
theorem rp {α:Type} (xs:List α) (k:Nat):(List.replicate k xs).flatten.length=k*xs.length:=by
 induction k with
 | zero=>simp
 | succ k ih=>rw [List.replicate_succ,List.flatten_cons,List.length_append,ih,Nat.succ_mul,Nat.add_comm]
end
section
variable {prog:Program} {w:World} {A:Around} {E:Value→Shared→Prop} {s:Shared}
set_option maxRecDepth 100000 in
end

section
variable {κ:Type} [DecidableEq κ]
def bW (kvs:List (κ×V)) (k:κ):Option V:=(kvs.find? fun kv=>decide (kv.1=k)).map (·.2)
def bT (kvs:List (κ×V)) (k:κ) (v:V):List (κ×V):=
 if (kvs.any fun kv=>decide (kv.1=k))=true then kvs.map (fun kv=>if kv.1=k then (kv.1,v) else kv) else kvs++[(k,v)]
theorem cR {p:κ×V} {r:List (κ×V)} {k:κ} (e:p.1=k):bW (p::r) k=some p.2:=by simp [bW,List.find?_cons,e]
theorem cQ {p:κ×V} {r:List (κ×V)} {k:κ} (e:¬ p.1=k):bW (p::r) k=bW r k:=by simp [bW,List.find?_cons,e]
theorem gi (k : κ) : ∀ kvs : List (κ × V), (kvs.any fun kv => decide (kv.1 = k)) = (bW kvs k).isSome
  | [] => rfl
  | p :: r => by
    rw [List.any_cons]
    by_cases e : p.1 = k
    · simp only [cR e, decide_eq_true e, Bool.true_or, Option.isSome_some]
    · rw [cQ e, decide_eq_false e, Bool.false_or]; exact gi k r
theorem qa (k j : κ) (y : V) : ∀ kvs : List (κ × V), bW (kvs.map fun kv => if kv.1 = k then (kv.1, y) else kv) j = (bW kvs j).map fun x => if j = k then y else x
  | [] => rfl
  | p :: r => by
    have ih := qa k j y r
    rw [List.map_cons]
    by_cases h : p.1 = k
    · rw [if_pos h]
      by_cases e : p.1 = j
      · rw [cR (p := (p.1, y)) e, cR e, Option.map_some, if_pos (e.symm.trans h)]
      · rw [cQ (p := (p.1, y)) e, cQ e, ih]
    · rw [if_neg h]
      by_cases e : p.1 = j
      · rw [cR (p := p) e, cR e, Option.map_some, if_neg (fun z => h (e.trans z))]
      · rw [cQ (p := p) e, cQ e, ih]
theorem mP (k j : κ) (y : V) : ∀ kvs : List (κ × V), bW kvs k = none → bW (kvs ++ [(k, y)]) j = if j = k then some y else bW kvs j
  | [], _ => by
    by_cases e : k = j
    · rw [if_pos e.symm]; exact cR (p := (k, y)) e
    · rw [if_neg (fun z => e z.symm)]; exact cQ (p := (k, y)) e
  | p :: r, hn => by
    rw [List.cons_append]
    have hk : ¬ p.1 = k := fun z => by rw [cR z] at hn; cases hn
    rw [cQ hk] at hn
    have ih := mP k j y r hn
    by_cases e : p.1 = j
    · rw [cR e, cR e, if_neg (fun z => hk (e.trans z))]
    · rw [cQ e, cQ e, ih]
theorem kF (kvs:List (κ×V)) (k j:κ) (y:V):bW (bT kvs k y) j=if j=k then some y else bW kvs j:=by
 unfold bT
 by_cases a:(kvs.any fun kv=>decide (kv.1=k))=true
 · rw [if_pos a,qa]
   rw [gi] at a
   by_cases e:j=k
   · obtain ⟨x,hx⟩:=Option.isSome_iff_exists.mp a
     rw [if_pos e,e,hx,Option.map_some,if_pos rfl]
   · rw [if_neg e]
     cases bW kvs j with
     | none=>rfl
     | some x=>rw [Option.map_some,if_neg e]
 · rw [if_neg a]
   refine mP k j y kvs ?_
   rw [gi] at a
   cases q:bW kvs k with
   | none=>rfl
   | some x=>rw [q] at a;exact (a rfl).elim
theorem fB (kvs:List (κ×V)) (k:κ) (v:V):(bT kvs k v).length≤kvs.length+1:=by
 unfold bT
 split
 · rw [List.length_map];omega
 · rw [List.length_append,List.length_cons,List.length_nil];omega
theorem wc {kvs:List (κ×V)} {k:κ} (v:V) (h:bW kvs k=none):bT kvs k v=kvs++[(k,v)]:=by
 unfold bT
 rw [gi,h]
 exact if_neg (by decide)
theorem cC.isSome_eq {o : Option V} {u : Option Value} (r : cC o u) : o.isSome = u.isSome := by
  cases o with
  | none => cases u with
    | none => rfl
    | some _ => exact (show False from r).elim
  | some _ => cases u with
    | none => exact (show False from r).elim
    | some _ => rfl
theorem KV.val {kvs : List (κ × V)} {vs : List (κ × Value)} (r : KV kvs vs) (k : κ) : cC (bW kvs k) (valueAt vs k) := by
  unfold KV at r
  induction r with
  | nil => exact True.intro
  | @cons p q ps qs h t ih =>
    obtain ⟨h1, h2⟩ := h
    by_cases e : p.1 = k
    · have e' : q.1 = k := h1.symm.trans e
      have b : valueAt (q :: qs) k = some q.2 := by simp [valueAt, List.find?_cons, e']
      rw [cR e, b]; exact h2
    · have e' : ¬ q.1 = k := fun z => e (h1.trans z)
      have b : valueAt (q :: qs) k = valueAt qs k := by simp [valueAt, List.find?_cons, e']
      rw [cQ e, b]; exact ih
theorem KV.any {kvs:List (κ×V)} {vs:List (κ×Value)} (r:KV kvs vs) (k:κ):(kvs.any fun kv=>decide (kv.1=k))=vs.any fun kv=>decide (kv.1=k):=by
 unfold KV at r
 induction r with
 | nil=>rfl
 | cons h t ih=>rw [List.any_cons,List.any_cons,ih,h.1]
theorem KV.repl {kvs : List (κ × V)} {vs : List (κ × Value)} (r : KV kvs vs) (k : κ) {y : V} {u : Value} (ry : aS y u) :
    KV (kvs.map fun kv => if kv.1 = k then (kv.1, y) else kv) (vs.map fun kv => if kv.1 = k then (kv.1, u) else kv) := by
  unfold KV at r ⊢
  induction r with
  | nil => exact .nil
  | @cons p q ps qs h t ih =>
    rw [List.map_cons, List.map_cons]
    refine .cons ?_ ih
    obtain ⟨h1, h2⟩ := h
    by_cases e : p.1 = k
    · rw [if_pos e, if_pos (h1.symm.trans e)]; exact ⟨h1, ry⟩
    · rw [if_neg e, if_neg (fun z => e (h1.trans z))]; exact ⟨h1, h2⟩
theorem KV.put {kvs:List (κ×V)} {vs:List (κ×Value)} (r:KV kvs vs) (k:κ) {y:V} {u:Value} (ry:aS y u):KV (bT kvs k y) (stored vs k u):=by
 unfold bT stored
 rw [r.any k]
 by_cases e:(vs.any fun kv=>decide (kv.1=k))=true
 · rw [if_pos e,if_pos e];exact r.repl k ry
 · rw [if_neg e,if_neg e];exact Paired.snoc r ⟨rfl,ry⟩
theorem KV.length {kvs:List (κ×V)} {vs:List (κ×Value)} (r:KV kvs vs):kvs.length=vs.length:=Paired.length r
end
theorem kc {P:Program} {w:World} {k:Key} {u:Value} (r:aS (kV k) u):(cf P w).is k u=true:=by
 cases k with
 | inl i=>obtain ⟨t,e⟩:=(show ∃ t,u=Value.int i t from r);subst e;exact qC P w i t
 | inr x=>obtain ⟨t,e⟩:=(show ∃ t,u=Value.str x t from r);subst e;exact qH P w x t
theorem lq {a b : Key} (e : kV a = kV b) : a = b := by
  cases a with
  | inl i => cases b with
    | inl j => have e' : V.int i = V.int j := e; injection e' with e'; rw [e']
    | inr y => exact nomatch (show V.int i = V.str y from e)
  | inr x => cases b with
    | inl j => exact nomatch (show V.str x = V.int j from e)
    | inr y => have e' : V.str x = V.str y := e; injection e' with e'; rw [e']
theorem rL : ∀ {a b : List Key}, a.map kV = b.map kV → a = b
  | [], [], _ => rfl
  | [], _ :: _, e => by simp at e
  | _ :: _, [], e => by simp at e
  | x :: xs, y :: ys, e => by
    rw [List.map_cons, List.map_cons] at e
    injection e with e1 e2
    rw [lq e1, rL e2]
theorem nK {P : Program} {w : World} : ∀ {ks : List Key} {us : List Value}, aR (ks.map kV) us → ItemsAre (cf P w) ks us
  | [], _, r => by rw [List.map_nil] at r; cases r; exact .nil
  | k :: ks, _, r => by
    rw [List.map_cons] at r
    cases r with
    | cons h t => exact .cons (kc h) (nK t)
abbrev KT (H:Hp):List (List Key×V)→List (List Key×Addr×Value)→Prop:=Paired fun p q=>p.1=q.1∧H q.2.1=some (.tup (p.1.map kV))∧aS p.2 q.2.2
theorem KT.val {H : Hp} {kvs : List (List Key × V)} {xs : List (List Key × Addr × Value)} (r : KT H kvs xs) (k : List Key) : cC (bW kvs k) ((atKey xs k).map (·.2)) := by
  induction r with
  | nil => exact True.intro
  | @cons p q ps qs h t ih =>
    obtain ⟨h1, _, h2⟩ := h
    by_cases e : p.1 = k
    · have e' : q.1 = k := h1.symm.trans e
      have b : atKey (q :: qs) k = some q.2 := by simp [atKey, List.find?_cons, e']
      rw [cR e, b]; exact h2
    · have e' : ¬ q.1 = k := fun z => e (h1.trans z)
      have b : atKey (q :: qs) k = atKey qs k := by simp [atKey, List.find?_cons, e']
      rw [cQ e, b]; exact ih
theorem KT.repl {H : Hp} {kvs : List (List Key × V)} {xs : List (List Key × Addr × Value)} (r : KT H kvs xs) (k : List Key) {y : V} {u : Value} (ry : aS y u) :
    KT H (kvs.map fun kv => if kv.1 = k then (kv.1, y) else kv) (xs.map (putAt k u)) := by
  induction r with
  | nil => exact .nil
  | @cons p q ps qs h t ih =>
    rw [List.map_cons, List.map_cons]
    refine .cons ?_ ih
    obtain ⟨h1, h2, h3⟩ := h
    unfold putAt
    by_cases e : p.1 = k
    · rw [if_pos e, if_pos (h1.symm.trans e)]; exact ⟨h1, h2, ry⟩
    · rw [if_neg e, if_neg (fun z => e (h1.trans z))]; exact ⟨h1, h2, h3⟩
theorem KT.put {H:Hp} {kvs:List (List Key×V)} {xs:List (List Key×Addr×Value)} (r:KT H kvs xs) (k:List Key) {b:Addr} {y:V} {u:Value} (hb:H b=some (.tup (k.map kV))) (ry:aS y u):
   KT H (bT kvs k y) (storedH xs k b u):=by
 have e:(kvs.any fun kv=>decide (kv.1=k))=(atKey xs k).isSome:=by
   rw [gi,(r.val k).isSome_eq,Option.isSome_map]
 unfold bT storedH
 rw [e]
 by_cases q:(atKey xs k).isSome=true
 · rw [if_pos q,if_pos q];exact r.repl k ry
 · rw [if_neg q,if_neg q];exact Paired.snoc r ⟨rfl,hb,ry⟩
theorem KT.keeps {H H':Hp} {kvs:List (List Key×V)} {xs:List (List Key×Addr×Value)} (r:KT H kvs xs) (ht:∀ b ys,H b=some (.tup ys)→H' b=some (.tup ys)):KT H' kvs xs:=
 Paired.mapP r fun _ _ z=>⟨z.1,ht _ _ z.2.1,z.2.2⟩
section
variable {P:Program} {w:World} {H:Hp} {h:Heap} {a:Addr}
theorem yR {u:HO} (ok:HOk P w H h) (e:Rd H a u):aU P w H h a u:=e.ok ok
theorem jI {kvs:List (Key×V)} (ok:HOk P w H h) (e:Rd H a (.dK kvs)):kvs.length≤sizeLine∧(a==sysModules)=false∧∃ vs,KV kvs vs∧h.DictOf (cf P w) a vs:=
 show aU P w H h a (.dK kvs) from yR ok e
theorem yz {kvs:List (Key×V)} (ok:HOk P w H h) (e:H a=some (.dK kvs)):kvs.length≤sizeLine∧(a==sysModules)=false∧∃ vs,KV kvs vs∧h.DictOf (cf P w) a vs:=jI ok (.inl e)
theorem ig {ks:List Key} (ok:HOk P w H h) (e:H a=some (.tup (ks.map kV))):(tupleKind (cf P w)).is h ks a:=by
 obtain ⟨_,its,r,o,h1,h2,n,h3⟩:=(show aU P w H h a (.tup (ks.map kV)) from ok a _ e)
 exact ⟨o,its.toArray,n,h1,h2,h3,by simpa using nK r⟩
theorem lm {kvs : List (List Key × V)} (ok : HOk P w H h) (e : Rd H a (.dT kvs)) : kvs.length ≤ sizeLine ∧ (a == sysModules) = false ∧
    ∃ xs, KT H kvs xs ∧ h.DictOfH (tupleKind (cf P w)) a xs := by
  obtain ⟨z, y, xs, r, o, es, ep, h1, h2, h3, h4, h5⟩ := (show aU P w H h a (.dT kvs) from yR ok e)
  refine ⟨z, y, xs, r, o, es, ep, h1, h2, h3, h4, fun x hx => ?_, h5⟩
  have all : ∀ {l : List (List Key × V)} {m : List (List Key × Addr × Value)}, KT H l m → ∀ x ∈ m, (tupleKind (cf P w)).is h x.1 x.2.1 := by
    intro l m q
    induction q with
    | nil => intro x hx; exact nomatch hx
    | @cons p q ps qs hq t ih =>
      intro x hx
      rcases List.mem_cons.mp hx with e | hx
      · subst e
        exact ig ok (by rw [← hq.1]; exact hq.2.1)
      · exact ih x hx
  exact all r x hx
theorem sN {kvs:List (List Key×V)} (ok:HOk P w H h) (e:H a=some (.dT kvs)):kvs.length≤sizeLine∧(a==sysModules)=false∧
 ∃ xs,KT H kvs xs∧h.DictOfH (tupleKind (cf P w)) a xs:=lm ok (.inl e)
end
def eN (H:Hp) (a:Addr) (y:V) (r:Option V):Prop:=
 (∃ kvs k,Rd H a (.dK kvs)∧y=kV k∧r=bW kvs k)∨∃ kvs k b,Rd H a (.dT kvs)∧y=.ref b∧H b=some (.tup (k.map kV))∧r=bW kvs k
def yh (H:Hp) (a:Addr) (y v:V) (H':Hp):Prop:=
 (∃ kvs k,H a=some (.dK kvs)∧y=kV k∧kvs.length<sizeLine∧H'=upd H a (.dK (bT kvs k v)))∨
 ∃ kvs k b,H a=some (.dT kvs)∧y=.ref b∧H b=some (.tup (k.map kV))∧kvs.length<sizeLine∧H'=upd H a (.dT (bT kvs k v))
theorem eN.t {H:Hp} {a b:Addr} {kvs:List (List Key×V)} {k:List Key} (e:H a=some (.dT kvs)) (eb:H b=some (.tup (k.map kV))):eN H a (.ref b) (bW kvs k):=.inr ⟨kvs,k,b,.inl e,rfl,eb,rfl⟩
section
variable {X:Cx} {pins:List (Addr×Obj)} {σ:St} {H:Hp} {s:Shared} {a:Addr} {y v:V} {u r:Value} {o:Option V} {A:Around} {E:Value→Shared→Prop}
theorem Inv.big (I:Inv X pins σ H s):sysModules<s.heap.objs.size:=by
 have h:mainGlobals<s.heap.objs.size:=(I.mod.glob.keeps I.bk).lt
 exact Nat.lt_trans (by decide) h
theorem tW {Q:Value→Shared→Prop} (hu:A.units+1<cLine) (I:Inv X pins σ H s) (g:eN H a y (some v)) (ry:aS y u) (h:∀ w' s',Inv X pins σ H s'→aS v w'→Q w' s'):
   wpAny (model X.prog X.w) A (getItem (.ref a) u) Q E s:=by
 rcases g with ⟨kvs,k,e,ey,l⟩ | ⟨kvs,k,b,e,ey,eb,l⟩
 · subst ey
   obtain ⟨z,hd,vs,rel,dd⟩:=jI I.hok e
   obtain ⟨w',hw,rw'⟩:=cC.some_of (v:=v) (o:=valueAt vs k) (by rw [l];exact rel.val k)
   exact wpAny_getItem_of (kc ry) dd.mapOf hw (h w' _ (I.tok _) rw')
 · subst ey
   cases (show u=Value.ref b from ry)
   obtain ⟨z,hd,xs,rel,dd⟩:=lm I.hok e
   obtain ⟨w',hw,rw'⟩:=cC.some_of (v:=v) (o:=(atKey xs k).map (·.2)) (by rw [l];exact rel.val k)
   obtain ⟨p,hp,hp2⟩:=Option.map_eq_some_iff.mp hw
   refine wpAny_getItem_heap (tupleKind_room_in1 hu) (ig I.hok eb) dd hp ?_
   rw [hp2]
   exact h w' _ (I.tok _) rw'
theorem zP {Q:Value→Shared→Prop} (hu:A.units+1<cLine) (I:Inv X pins σ H s) (g:eN H a y o) (ry:aS y u) (h:∀ s',Inv X pins σ H s'→Q (.bool (!o.isSome)) s'):
   wpAny (model X.prog X.w) A (compareOp .NotIn u (.ref a)) Q E s:=by
 rcases g with ⟨kvs,k,e,ey,l⟩ | ⟨kvs,k,b,e,ey,eb,l⟩
 · subst ey
   obtain ⟨z,hd,vs,rel,dd⟩:=jI I.hok e
   refine wpAny_notIn_of (kc ry) hd dd.mapOf ?_
   rw [← (rel.val k).isSome_eq,←l]
   exact h _ (I.tok _)
 · subst ey
   cases (show u=Value.ref b from ry)
   obtain ⟨z,hd,xs,rel,dd⟩:=lm I.hok e
   refine wpAny_notIn_heap (tupleKind_room_in1 hu) (ig I.hok eb) hd dd ?_
   have q:=(rel.val k).isSome_eq
   rw [Option.isSome_map] at q
   rw [← q,←l]
   exact h _ (I.tok _)
theorem jV {h':Heap} {t':Nat} {ob:HO} (I:Inv X pins σ H s) (mu:Mut (H a)) (hs:Heap.SameBut a s.heap h') (he:∃ q,h'.get? a=some q) (new:aU X.prog X.w (upd H a ob) h' a ob):
  Inv X pins σ (upd H a ob) { s with heap:=h',toks:=t' }:=
 I.write (x:=a) (e:=a) mu (.inl rfl) (fun b q hb z=>(hs.2 b hb).trans z) he new
theorem uF {P:Program} {w:World} {H':Hp} {h':Heap} {kvs:List (Key×V)} {vs:List (Key×Value)} (z:kvs.length≤sizeLine) (hd:(a==sysModules)=false) (rel:KV kvs vs) (dd:h'.DictOf (cf P w) a vs):
 aU P w H' h' a (.dK kvs):=⟨z,hd,vs,rel,dd⟩
theorem uK {H':Hp} {Q:Unit→Shared→Prop} (hu:A.units+1<cLine) (I:Inv X pins σ H s) (g:yh H a y v H') (ry:aS y u) (rv:aS v r) (h:∀ s',Inv X pins σ H' s'→Q () s'):
   wpAny (model X.prog X.w) A (setItem (.ref a) u r) Q E s:=by
 rcases g with ⟨kvs,k,e,ey,l,eH⟩ | ⟨kvs,k,b,e,ey,eb,l,eH⟩
 · subst ey eH
   obtain ⟨z,hd,vs,rel,dd⟩:=yz I.hok e
   have hz:vs.length≤sizeLine:=by rw [← rel.length];exact z
   have hl:(bT kvs k v).length≤sizeLine:=by have:=fB kvs k v;omega
   refine wpAny_setItem_pairs (hsz:=hz) (kc ry) dd fun h' dd' hs=>h _ ?_
   have he:∃ q,h'.get? a=some q:=let ⟨q,_,_,hq,_⟩:=dd';⟨q,hq⟩
   exact jV I (by rw [e];exact True.intro) hs he (uF hl hd (rel.put k rv) dd')
 · subst ey eH
   cases (show u=Value.ref b from ry)
   obtain ⟨z,hd,xs,rel,dd⟩:=sN I.hok e
   have hz:xs.length≤sizeLine:=by rw [← Paired.length rel];exact z
   have hl:(bT kvs k v).length≤sizeLine:=by have:=fB kvs k v;omega
   refine wpAny_setItem_heap (hsz:=hz) (tupleKind_room_in1 hu) (ig I.hok eb) dd fun h' dd' hs=>h _ ?_
   obtain ⟨q,es,ep,hq,h2,h3,h4,_,h5⟩:=dd'
   refine jV I (by rw [e];exact True.intro) hs ⟨q,hq⟩ ⟨hl,hd,_,(rel.put k eb rv).keeps fun c ys ec=>?_,q,es,ep,hq,h2,h3,h4,h5⟩
   rw [ao (bG ec e (fun z=>nomatch z))]
   exact ec
end
section
variable {X:Cx} {pins:List (Addr×Obj)} {σ:St} {H:Hp} {s:Shared} {a:Addr} {kvs:List (Key×V)} {k:Key} {u:Value} {A:Around} {E:Value→Shared→Prop}
theorem GO {Q:Value→Shared→Prop} (I:Inv X pins σ H s) (e:Rd H a (.dK kvs)) (h:∀ t s',Inv X pins σ H s'→Q (.int kvs.length t) s'):wpAny (model X.prog X.w) A (call (.builtin "len") [.ref a]) Q E s:=by
 obtain ⟨z,hd,vs,rel,dd⟩:=jI I.hok e
 refine call_len_dict hd dd (by rw [← rel.length];rw [sizeLine_eq] at z;omega) ?_
 rw [← rel.length]
 exact h _ _ (I.tok _)
end
theorem qO {X:Cx} {pins:List (Addr×Obj)} {σ:St} {H:Hp} {s:Shared} {a:Addr} {y:V} {o:Option V} (I:Inv X pins σ H s) (g:eN H a y o):s.TypeIs (.ref a) "dict" :=by
 rcases g with ⟨kvs,k,e,_,_⟩ | ⟨kvs,k,b,e,_,_,_⟩
 · obtain ⟨_,_,vs,_,dd⟩:=jI I.hok e
   exact dd.typeIs
 · obtain ⟨_,_,xs,_,dd⟩:=lm I.hok e
   exact dd.typeIs
theorem wt {P:Program} {w:World} {H:Hp} (h:Heap) (hb:sysModules<h.objs.size):aU P w H (h.push { cls:=.type "dict",data:=.dict #[] }) h.objs.size (.dK []):=
 ⟨Nat.zero_le _,beq_eq_false_iff_ne.mpr (Ne.symm (Nat.ne_of_lt hb)),[],.nil,Heap.DictOf.new h⟩
theorem vM {P:Program} {w:World} {H:Hp} (h:Heap) (hb:sysModules<h.objs.size):aU P w H (h.push { cls:=.type "dict",data:=.dict #[] }) h.objs.size (.dT []):=
 ⟨Nat.zero_le _,beq_eq_false_iff_ne.mpr (Ne.symm (Nat.ne_of_lt hb)),[],.nil,_,#[],0,Heap.get?_push_size _ rfl,⟨rfl,rfl,rfl⟩,rfl,rfl,List.nodup_nil⟩
def uo:TE:=fun _ H Q=>∀ p,H p=none→Q (.ref p) (upd H p (.dK []))
def uQ:TE:=fun _ H Q=>∀ p,H p=none→Q (.ref p) (upd H p (.dT []))
section
variable {X:Cx} {pos:Pos}
theorem xW:PE X (.Dict [] [] pos) uo:=fun pins s σ H Q I h=>
 wpAny_Dict_empty ⟨.ref s.heap.objs.size,_,I.laid (a:=s.heap.objs.size) (o:=.dK []) (t':=s.toks) (fun _ _ q=>Heap.get?_push_of_some _ q) (Nat.le_refl _) (wt s.heap I.big),rfl,h _ (I.hok.fresh (Nat.le_refl _))⟩
theorem wj:PE X (.Dict [] [] pos) uQ:=fun pins s σ H Q I h=>
 wpAny_Dict_empty ⟨.ref s.heap.objs.size,_,I.laid (a:=s.heap.objs.size) (o:=.dT []) (t':=s.toks) (fun _ _ q=>Heap.get?_push_of_some _ q) (Nat.le_refl _) (vM s.heap I.big),rfl,h _ (I.hok.fresh (Nat.le_refl _))⟩
end

end L2
namespace Att
open PySem PySem.W PySem.Calls PyProof.Rows
theorem ints_of_wellAll {P : Params} {h : Heap} : ∀ (ns : List Int) (vs : List Value), WellAll P h vs (ns.map WData.int) → IntsAre vs ns := by
  intro ns
  induction ns with
  | nil =>
    intro vs w
    rw [List.map_nil] at w
    cases w
    exact .nil
  | cons n ns ih =>
    intro vs w
    rw [List.map_cons] at w
    cases w with
    | cons a b =>
      cases a
      exact .cons _ _ (ih _ b)
theorem script_of {l : OpenLaw} {n : Nat} (hn : l.most = some n) {P : Params} {h : Heap} {args : List WData} {vals : List Value}
    (hpre : l.row.toRowW.claim.pre args = true) (hwl : WellAll P h vals args) :
    ∃ a vs ns, vals = [Value.ref a] ∧ args = [WData.list (ns.map WData.int)] ∧ h.get? a = some { cls := .type "list", data := .seq vs.toArray } ∧ IntsAre vs ns ∧ ns.length ≤ n := by
  have hsh : WShape.hasAll [] args [.list .int] = true := (pre_splitW hpre).1
  have hc : l.pre.holds [] { args := args } = true := (pre_splitW hpre).2
  obtain ⟨d, r, rfl, h1, h2⟩ := hasAllW_cons hsh
  obtain rfl := hasAllW_nil h2
  obtain ⟨xs, rfl, h3⟩ := hasW_list h1
  obtain ⟨ns, rfl⟩ := items_int h3
  have hlen : ns.length ≤ n := by
    unfold OpenLaw.pre at hc
    have h4 : (WTm.not (.lt (.lit (.int (n : Int))) (.len (.arg 0)))).holds [] { args := [.list (ns.map .int)] } = true := by
      have h4 := (holds_andW hc).1
      rw [hn] at h4
      exact h4
    have h5 := condW_of h4 (w_not (w_lt w_lit (w_len_list (w_arg rfl))))
    rw [List.length_map] at h5
    refine Nat.le_of_not_lt fun q => ?_
    have q' : (n : Int) < ((ns.length : Nat) : Int) := by omega
    first
      | (rw [decide_eq_true q'] at h5; exact absurd h5 (by decide))
      | (simp at h5; omega)
  cases hwl with
  | cons w1 w2 =>
    cases w2
    cases w1 with
    | list ho hall => exact ⟨_, _, ns, rfl, rfl, ho, ints_of_wellAll ns _ hall, hlen⟩
theorem post_true (l:OpenLaw) (args:List WData):l.row.toRowW.claim.post args (.bool true) args=true:=
 postW_of (r:=l.row.toRowW) (X:=(true==true))
  (show WShape.has [] (.bool true) .bool=true by first | rfl | decide | simp [WShape.has,WShape.arms,WShape.armsAll])
  (show (WTm.eq .res (.lit (.bool true))).value [] { args:=args,res:=some (.bool true),after:=args }=some (.bool (true==true)) from w_eq_bool (w_res rfl) w_lit) rfl
theorem attach_call {l : OpenLaw} {n : Nat} {q : Program} {loose : List Str} {XP : (Str → Option Value) → Heap → Prop} {YP : World → Heap → Prop} {d : DefRec}
  (hn : l.most = some n) (hdf : d.params.defaults = [])
  (call : ∀ (w : World) (s₀ s₁ : Shared) (mg mb : Str → Option Value) (fa : Addr) (o : Obj) (pm cd doc : Value) (a : Addr) (vs : List Value) (ns : List Int),
   Ground q loose [] XP w s₀ mg mb s₁.heap → YP w s₁.heap →
   s₁.heap.get? fa = some o → o.data = .func (docDef d.name d.params d.body d.scope pm cd doc) → s₁.heap.CodeRec cd d.name → mg d.name = some (.ref fa) →
   s₁.heap.get? a = some { cls := .type "list", data := .seq vs.toArray } → IntsAre vs ns → ns.length ≤ n → s₁.gens = #[] →
   codeAny (model l.prog w) callerA (.call (.ref fa) ⟨[.ref a], []⟩) (fun r s' => r = .ok (.ret (.bool true)) ∧ OldK s₁.heap s'.heap ∧ s'.os = s₁.os ∧ AllBare s'.gens) s₁) :
  WalkO q loose XP YP l.row.toRowW d [] (fun f vs => PySem.call f vs) := by
 intro w s₀ s₁ mg mb G Y fa o pm cd doc dV kV ho hd hcd hD hmg hg args vals as hpre hlay hrd hwl hlo
 obtain rfl : dV = .none := Dflts.none hD hdf
 obtain rfl : kV = .none := Dflts.noKw hD
 obtain ⟨a, vs, ns, rfl, rfl, hobj, hints, hlen⟩ := script_of hn hpre hwl
 refine enter_call (codeAny_mono (call w s₀ s₁ mg mb fa o pm cd doc a vs ns G Y ho (fd_plain hd) hcd hmg hobj hints hlen hg) fun r s' hq => ?_)
 obtain ⟨rfl, h2, h3, h4⟩ := hq
 exact ⟨.inl ⟨.bool true, .bool true, [], rfl, fun _ => rfl, .bool true, post_true l _, fun _ => ⟨List.Pairwise.nil, fun _ hm => (nomatch hm)⟩⟩, h2, h3, h4⟩

end Att
namespace L2
open PySem PySem.Spec PyProof.Rows
theorem nw:∀ {vs:List Value} {ns:List Int},IntsAre vs ns→aR (ns.map V.int) vs
 | _,_,.nil=> .nil
 | _,_,.cons n t h=> .cons ⟨t,rfl⟩ (nw h)
def bC (s:Stmt):Arguments:=match s with
 | .FunctionDef _ a _ _ _ _ _ _ _ _=>a
 | _=>{ posonlyargs:=[],args:=[],vararg:=none,kwonlyargs:=[],kw_defaults:=[],kwarg:=none,defaults:=[] }
def aJ (s:Stmt):List Stmt:=match s with
 | .FunctionDef _ _ b _ _ _ _ _ _ _=>b
 | _=>[]
def al (s:Stmt):Scope:=match s with
 | .FunctionDef _ _ _ _ _ _ sc _ _ _=>sc
 | _=>{ kind:=.function,names:=[],isGenerator:=false,isCoroutine:=false }
abbrev E0:XK:=fun _ _ _=>False
structure Fun (K:W.Frag) (x qual:Str) (st:Stmt) (f:Addr) (fd:FuncData):Prop where
 ex:∃ (oc:Value) (od:Option Addr) (kV doc pm:Value) (an:Option Addr) (cdv ct:Value) (osl:Array (Option Value)),
  fd=W.fnOf x qual (bC st) (aJ st) (al st) .none kV doc pm an cdv ct∧K.lookup f=some ⟨oc,od,.func fd,osl⟩∧W.codeIn K cdv qual=true
 kp:W.keepIn K (.ref f)=true
section
variable {P:Program} {w:World} {K:W.Frag} {mg:Str→Option Value} {base:Heap}
theorem Fun.binds {x qual:Str} {st:Stmt} {f:Addr} {fd:FuncData} {ps:List Str} (F:Fun K x qual st f fd)
  (h:∀ (kV doc pm:Value) (an:Option Addr) (cdv ct:Value) (us:List Value),us.length=ps.length→bindArgs (W.fnOf x qual (bC st) (aJ st) (al st) .none kV doc pm an cdv ct) ⟨us,[]⟩=pure (ps.zip us)):bA K fd ps []:=by
 obtain ⟨oc,od,kV,doc,pm,an,cdv,ct,osl,rfl,lk,hcd⟩:=F.ex
 exact .all (h kV doc pm an cdv ct)
theorem dw {x qual:Str} {st:Stmt} {f:Addr} {oc:Value} {od an:Option Addr} {osl:Array (Option Value)} {kV doc pm cdv ct:Value} (l:K.lookup f=some ⟨oc,od,.func (W.fnOf x qual (bC st) (aJ st) (al st) .none kV doc pm an cdv ct),osl⟩)
 (c:W.codeIn K cdv qual=true) (k:W.keepIn K (.ref f)=true):Fun K x qual st f (W.fnOf x qual (bC st) (aJ st) (al st) .none kV doc pm an cdv ct):=⟨⟨oc,od,kV,doc,pm,an,cdv,ct,osl,rfl,l,c⟩,k⟩
end
theorem bx {n:Nat} (h:n≤1000):n<sizeLine:=Nat.lt_of_le_of_lt h (by decide)
section
variable {X:Cx}
theorem tZ:bv X (.builtin "len") (fun xs H Q=>∃ a kvs,xs=[V.ref a]∧H a=some (.dK kvs)∧Q (.int kvs.length) H):=by
 intro pins s σ H xs us Q I r h
 obtain ⟨a,kvs,rfl,ha,q⟩:=h
 obtain ⟨u,rfl,ru⟩:=dZ r
 cases ru
 exact GO I (.inl ha) fun t s' I'=>⟨.int kvs.length,H,I',⟨t,rfl⟩,q⟩
end
theorem gH {A B:Prop} (h:A):if true=true then A else B:=by
 rw [if_pos rfl]
 exact h
def aq (H H':Hp):Prop:=∀ b o,H b=some o→H' b=some o
theorem aq.refl (H:Hp):aq H H:=fun _ _ h=>h
theorem aq.trans {H H1 H2:Hp} (a:aq H H1) (b:aq H1 H2):aq H H2:=fun c o h=>b c o (a c o h)
theorem aq.free {H H' : Hp} (e : aq H H') {l : Addr} (h : H' l = Option.none) : H l = Option.none := by
  cases q : H l with
  | none => rfl
  | some o =>
    rw [e l o q] at h
    cases h
theorem aq.seq {K:W.Frag} {H H':Hp} {a:Addr} {xs:List V} (e:aq H H') (h:SqL K H a xs):SqL K H' a xs:=by
 rcases h with (h | ⟨o,h⟩) | h
 · exact .inl (.inl (e _ _ h))
 · exact .inl (.inr ⟨o,e _ _ h⟩)
 · exact .inr h

def dk:List (Str×NameKind)→List (Str×Addr)→List (Str×Addr)→List (Str×Addr)
 | [],_,cs=>cs
 | (n,k)::r,cells,cs=>dk r cells (if k==.free then (match cells.lookup n with | some a=>(n,a)::cs | none=>cs) else cs)
theorem qu {scope : Scope} {env : Env} (h : ∀ y ∈ scope.names, y.2 = .free → (env.cells.lookup y.1).isSome = true) : closureFor scope env = pure (dk scope.names env.cells []) := by
  have key : ∀ (l : List (Str × NameKind)) (cs : List (Str × Addr)), (∀ y ∈ l, y.2 = .free → (env.cells.lookup y.1).isSome = true) →
      (forIn l cs (fun (x : Str × NameKind) (cs : List (Str × Addr)) => (if (x.2 == NameKind.free) = true then (do let a ← cellOf env x.1; pure (ForInStep.yield ((x.1, a) :: cs))) else (pure (ForInStep.yield cs) : Sem _))) : Sem (List (Str × Addr))) = pure (dk l env.cells cs) := by
    intro l
    induction l with
    | nil => intro cs _; rfl
    | cons y r ih =>
      intro cs hy
      obtain ⟨n, k⟩ := y
      rw [List.forIn_cons]
      by_cases hk : k = .free
      · subst hk
        have hs := hy (n, .free) List.mem_cons_self rfl
        cases e : env.cells.lookup n with
        | none => rw [e] at hs; cases hs
        | some a =>
          have := ih ((n, a) :: cs) (fun z hz => hy z (List.mem_cons_of_mem _ hz))
          simp only [dk, beq_self_eq_true, if_true, e, cellOf, pure_bind]
          exact this
      · have hb : (k == NameKind.free) = false := by simpa using hk
        have := ih cs (fun z hz => hy z (List.mem_cons_of_mem _ hz))
        simp only [dk, hb, Bool.false_eq_true, if_false, pure_bind]
        exact this
  have := key scope.names [] h
  unfold closureFor
  simpa using this
theorem ni : ∀ {l : List (Str × NameKind)} {cells cs : List (Str × Addr)} {x : Str} {c : Addr}, (∀ x c, cs.lookup x = some c → cells.lookup x = some c) → (dk l cells cs).lookup x = some c → cells.lookup x = some c
  | [], _, _, _, _, h, e => h _ _ e
  | (n, k) :: r, cells, cs, x, c, h, e => by
    refine ni (l := r) (fun y d hy => ?_) e
    split at hy
    · split at hy
      · rename_i a ha
        by_cases hyn : y = n
        · subst hyn
          rw [List.lookup_cons_self] at hy
          rw [← hy]; exact ha
        · rw [List.lookup_cons] at hy
          have : (y == n) = false := by simpa using hyn
          rw [this] at hy
          exact h _ _ hy
      · exact h _ _ hy
    · exact h _ _ hy
theorem lI : ∀ {l : List (Str × NameKind)} {cells cs : List (Str × Addr)} {x : Str}, (cs.lookup x).isSome = true → ((dk l cells cs).lookup x).isSome = true
  | [], _, _, _, h => h
  | (n, k) :: r, cells, cs, x, h => by
    refine lI (l := r) ?_
    split
    · split
      · rw [List.lookup_cons]
        split
        · rfl
        · exact h
      · exact h
    · exact h
theorem jb : ∀ {l : List (Str × NameKind)} {cells cs : List (Str × Addr)} {x : Str}, (x, NameKind.free) ∈ l → (cells.lookup x).isSome = true → ((dk l cells cs).lookup x).isSome = true
  | [], _, _, _, h, _ => by cases h
  | (n, k) :: r, cells, cs, x, h, hs => by
    rcases List.mem_cons.mp h with e | h
    · cases e
      refine lI (l := r) ?_
      simp only [beq_self_eq_true, if_true]
      cases e : cells.lookup n with
      | none => rw [e] at hs; cases hs
      | some a => simp only [List.lookup_cons_self]; rfl
    · exact jb (l := r) h hs
theorem lK {x:Str} {k:NameKind}:∀ {l:List (Str×NameKind)},l.lookup x=some k→(x,k)∈l:=fun h=>PySem.mem_of_lookup h
inductive fI (X:Cx) (scope:Scope):List Str→List Nat→Prop where
 | nil:fI X scope [] []
 | cons {y:Str} {i:Nat} {ys:List Str} {is:List Nat} (h1:X.N[i]?=some y) (h2:X.env.kindOf y=some .cell∨X.env.kindOf y=some .free) (h3:scope.names.lookup y=some .free) (h:fI X scope ys is):fI X scope (y::ys) (i::is)
structure eI (scope:Scope) (x:Str) (ys:List Str):Prop where
 kind:scope.kind=.function
 nocell:∀ y∈scope.names,y.2≠ .cell
 names:∀ y∈scope.names,y.2=.local→scope.names.lookup y.1=some .local
 own:scope.names.lookup x=some .local
 all:∀ y∈scope.names,y.2=.free→y.1∈ys
 nd:(x::ys).Nodup
def bq (X:Cx) (scope:Scope) (C:Addr) (N:List Str) (s:Shared) (H:Hp) (fp:List Addr):Cx:=
 { X with N:=N,s₀:=s,H₀:=H,env:=compEnvC scope (dk scope.names X.env.cells []) C X.env,outer:=X.stack,ex:=fp,fn:=fun _=>false,pn:=[],xe:=fun _ _=>False }
def bE (σ:St) (is:List Nat):St:=is.map fun i=>(σ[i]?).getD none
theorem gX {f : Str × NameKind → Str × NameKind} (hf : ∀ p, (f p).1 = p.1) {x : Str} : ∀ (l : List (Str × NameKind)), (l.map f).lookup x = (l.lookup x).map fun k => (f (x, k)).2
  | [] => rfl
  | (n, k) :: r => by
    have ih := gX hf (x := x) r
    have e : f (n, k) = (n, (f (n, k)).2) := Prod.ext (hf (n, k)) rfl
    rw [List.map_cons, e, List.lookup_cons, List.lookup_cons]
    cases hx : x == n with
    | true =>
      have e' : x = n := by simpa using hx
      subst e'; rfl
    | false => exact ih
theorem iB (scope:Scope) (env:Env) (x:Str):(relabel scope env).names.lookup x=(scope.names.lookup x).map fun k=>if (k==NameKind.free&&env.scope.kind==.function&&env.kindOf x==some .cell) then NameKind.cell else k:=by
 have hf:∀ p:Str×NameKind,((fun (n,k)=>if (k==NameKind.free&&env.scope.kind==.function&&env.kindOf n==some .cell) then (n,NameKind.cell) else (n,k)) p:Str×NameKind).1=p.1:=by
  intro p
  obtain ⟨n,k⟩:=p
  show (if _ then (n,NameKind.cell) else (n,k)).1=n
  split <;> rfl
 have:=gX hf (x:=x) scope.names
 show List.lookup x (List.map _ scope.names)=_
 rw [this]
 congr 1
 funext k
 show (if _ then (x,NameKind.cell) else (x,k)).2=_
 split <;> rfl
theorem hU {scope : Scope} {env : Env} {x : Str} {k : NameKind} (nc : ∀ y ∈ scope.names, y.2 ≠ .cell) (h : (relabel scope env).names.lookup x = some k) (hk : k = .cell ∨ k = .free) : (x, NameKind.free) ∈ scope.names := by
  rw [iB] at h
  cases q : scope.names.lookup x with
  | none => rw [q] at h; cases h
  | some k' =>
    have hm := lK q
    rw [q] at h
    have h : (if (k' == NameKind.free && env.scope.kind == .function && env.kindOf x == some .cell) then NameKind.cell else k') = k := Option.some.inj h
    by_cases hc : k' = .free
    · subst hc; exact hm
    · have hb : (k' == NameKind.free) = false := by simpa using hc
      rw [hb] at h
      have h : k' = k := h
      subst h
      rcases hk with z | z
      · exact absurd z (nc _ hm)
      · exact absurd z hc
theorem ql {scope:Scope} {env:Env} {x:Str} (h:scope.names.lookup x=some .free):(relabel scope env).names.lookup x=some .cell∨(relabel scope env).names.lookup x=some .free:=by
 rw [iB,h]
 show some (if _ then _ else _)=_∨some (if _ then _ else _)=_
 split
 · exact .inl rfl
 · exact .inr rfl
theorem nU {scope:Scope} {env:Env} {x:Str} (h:scope.names.lookup x=some .local):(relabel scope env).names.lookup x=some .local:=by
 rw [iB,h];rfl
theorem ut {X : Cx} {scope : Scope} {ys : List Str} {is : List Nat} {m : Str → Option Value} {h : Heap} {σ : St} (hc : fI X scope ys is)
    (hl : ∀ (i : Nat) (x : Str) (v : V), X.N[i]? = some x → σ[i]? = some (some v) → Vis X.env.scope x → ∃ u, aS v u ∧ BX X.env h m x u) (nd : True) :
    ∀ (j : Nat) (y : Str) (v : V), ys[j]? = some y → (bE σ is)[j]? = some (some v) → ∃ u, aS v u ∧ scope.names.lookup y = some .free ∧ ∃ c, X.env.cells.lookup y = some c ∧ h.IsCell c (some u) := by
  induction hc with
  | nil => intro j y v e; simp at e
  | @cons z i zs js h1 h2 h3 hr ih =>
    intro j y v e1 e2
    cases j with
    | zero =>
      simp at e1; subst e1
      have e2 : (σ[i]?).getD none = some v := by simpa [bE] using e2
      have e3 : σ[i]? = some (some v) := by
        cases q : σ[i]? with
        | none => rw [q] at e2; simp at e2
        | some o => rw [q] at e2; simp at e2; rw [e2]
      have hv : Vis X.env.scope z := by
        rcases h2 with q | q
        · exact .inr (.inl q)
        · exact .inr (.inr q)
      obtain ⟨u, r, l⟩ := hl i z v h1 e3 hv
      refine ⟨u, r, h3, ?_⟩
      rcases l with ⟨k, _⟩ | ⟨_, c, e, ic⟩
      · rcases h2 with q | q
        · rw [q] at k; cases k
        · rw [q] at k; cases k
      · exact ⟨c, e, ic⟩
    | succ j =>
      exact ih j y v (by simpa using e1) (by simpa [bE] using e2)
def yp (is:List Nat) (tc:TT) (te:TE) (σ:St) (D:Addr) (J:It) (H1:Hp) (Q:VK):Prop:=∃ W:Nat→Nat→List V→Hp→Prop,(∃ m,W 0 m [] (upd H1 D (.lst [])))∧
 ∀ i m ys H2,W i m ys H2→(J.stop i H2∧Q (.ref D) H2)∨(J.go i H2∧∀ x H3,J.yld i H2 x H3→tc (some x::bE σ is) H3 fun b H4=>if b=true then
  te (some x::bE σ is) H4 fun y H5=>H5 D=some (.lst ys)∧ys.length<sizeLine∧∃ m',m'<m∧W (i+1) m' (ys++[y]) (upd H5 D (.lst (ys++[y])))
  else ∃ m',m'<m∧W (i+1) m' ys H4)
def dJ (is:List Nat) (wi:TI) (tc:TT) (te:TE):TE:=fun σ H Q=>wi σ H fun J H1=>∀ D,H1 D=none→yp is tc te σ D J H1 Q
theorem qI (elt target iter c : Expr) (scope : Scope) (pos : Pos) (it acc : Value) (env : Env) :
    compTurn (.ListComp elt [⟨target, iter, [c], 0⟩] scope pos) 0 it acc env = (standAt iter.pos >>= fun _ => pyNext it >>= fun r => match r with
      | none => pure (.done .next)
      | some v => letOwnedTupleGo target it v >>= fun _ => assign target env v >>= fun _ => isTrue c env (eval c env) >>= fun ok =>
        (if ok = true then (eval elt env >>= fun x => call (.builtin "list.append") [acc, x] >>= fun _ => pure ()) else pure ()) >>= fun _ =>
          again (.compLoop (.ListComp elt [⟨target, iter, [c], 0⟩] scope pos) 0 it acc env)) := by
  unfold compTurn
  simp only [List.forIn_cons, List.forIn_nil, List.getElem?_cons_zero, List.getElem?_cons_succ, List.getElem?_nil, bind_assoc, pure_bind, bne_self_eq_false, Bool.false_eq_true, if_false, if_true]
  congr 1
  funext _
  congr 1
  funext r
  cases r with
  | none => rfl
  | some v =>
    simp only [bind_assoc, pure_bind, if_true]
    congr 1; funext _
    congr 1; funext _
    congr 1; funext b
    cases b <;> simp
section
variable {prog:Program} {w:World} {A:Around} {R:Result→Shared→Prop} {s:Shared}
theorem iT {elt target iter c : Expr} {scope : Scope} {pos : Pos} {it acc : Value} {env : Env} (I : Nat → Shared → Prop)
    (turn : ∀ n s, I n s → wpAny (model prog w) A (pyNext it) (fun r s₁ => match r with
      | none => R (.ok .next) s₁
      | some v => wpAny (model prog w) A (letOwnedTupleGo target it v) (fun _ s₁ => wpAny (model prog w) A (assign target env v) (fun _ s₂ => wpAny (model prog w) A (isTrue c env (eval c env)) (fun ok s₂ => if ok = true then wpAny (model prog w) A (eval elt env) (fun x s₃ =>
          wpAny (model prog w) A (call (.builtin "list.append") [acc, x]) (fun _ s₄ => ∃ m, m < n ∧ I m s₄) (notedBy (model prog w) A env fun e s' => R (.error e) s') s₃)
          (notedBy (model prog w) A env fun e s' => R (.error e) s') s₂ else ∃ m, m < n ∧ I m s₂) (notedBy (model prog w) A env fun e s' => R (.error e) s') s₂) (notedBy (model prog w) A env fun e s' => R (.error e) s') s₁) (notedBy (model prog w) A env fun e s' => R (.error e) s') s₁) (notedBy (model prog w) A env fun e s' => R (.error e) s') s)
    (n : Nat) (h : I n s) :
    codeAny (model prog w) A (.compLoop (.ListComp elt [⟨target, iter, [c], 0⟩] scope pos) 0 it acc env) R s := by
  refine codeAny_loop rfl I (fun n s hI => ?_) n h
  show wpAny _ _ ((compTurn (.ListComp elt [⟨target, iter, [c], 0⟩] scope pos) 0 it acc env).onRaise (fun x => do noteFrame x env; theTreesLotGoes x)) _ _ s
  refine wpAny_noted ?_
  rw [qI]
  refine wpAny_bind (wpAny_standAt (wpAny_bind (wpAny_mono (turn n s hI) (fun r s₁ h₁ => ?_) fun _ _ h' => h')))
  cases r with
  | none => exact wpAny_pure h₁
  | some v =>
    refine wpAny_bind (wpAny_mono h₁ (fun _ s₁ h₁ => wpAny_bind (wpAny_mono h₁ (fun _ s₂ h₂ => wpAny_bind (wpAny_mono h₂ (fun ok s₃ h₃ => ?_) fun _ _ h' => h')) fun _ _ h' => h')) fun _ _ h' => h')
    cases ok with
    | true =>
      rw [if_pos rfl] at h₃
      simp only [if_true]
      exact wpAny_bind (wpAny_bind (wpAny_mono h₃ (fun x s₃ h₃ => wpAny_bind (wpAny_mono h₃ (fun _ s₄ h₄ => wpAny_pure (wpAny_pure ⟨rfl, h₄⟩)) fun _ _ h' => h')) fun _ _ h' => h'))
    | false =>
      rw [if_neg Bool.false_ne_true] at h₃
      simp only [Bool.false_eq_true, if_false]
      exact wpAny_bind (wpAny_pure (wpAny_pure ⟨rfl, h₃⟩))
theorem iR {elt target iter : Expr} {scope : Scope} {pos : Pos} {it acc : Value} {env : Env} (I : Nat → Shared → Prop)
    (turn : ∀ n s, I n s → wpAny (model prog w) A (pyNext it) (fun r s₁ => match r with
      | none => R (.ok .next) s₁
      | some v => wpAny (model prog w) A (letOwnedTupleGo target it v) (fun _ s₁ => wpAny (model prog w) A (assign target env v) (fun _ s₂ => wpAny (model prog w) A (eval elt env) (fun x s₃ =>
          wpAny (model prog w) A (call (.builtin "list.append") [acc, x]) (fun _ s₄ => ∃ m, m < n ∧ I m s₄) (notedBy (model prog w) A env fun e s' => R (.error e) s') s₃)
          (notedBy (model prog w) A env fun e s' => R (.error e) s') s₂) (notedBy (model prog w) A env fun e s' => R (.error e) s') s₁) (notedBy (model prog w) A env fun e s' => R (.error e) s') s₁) (notedBy (model prog w) A env fun e s' => R (.error e) s') s)
    (n : Nat) (h : I n s) :
    codeAny (model prog w) A (.compLoop (.ListComp elt [⟨target, iter, [], 0⟩] scope pos) 0 it acc env) R s := by
  refine codeAny_loop rfl I (fun n s hI => ?_) n h
  show wpAny _ _ ((compTurn (.ListComp elt [⟨target, iter, [], 0⟩] scope pos) 0 it acc env).onRaise (fun x => do noteFrame x env; theTreesLotGoes x)) _ _ s
  refine wpAny_noted ?_
  rw [compTurn_list1]
  refine wpAny_bind (wpAny_standAt (wpAny_bind (wpAny_mono (turn n s hI) (fun r s₁ h₁ => ?_) fun _ _ h' => h')))
  cases r with
  | none => exact wpAny_pure h₁
  | some v =>
    exact wpAny_bind (wpAny_mono h₁ (fun _ s₁ h₁ => wpAny_bind (wpAny_mono h₁ (fun _ s₂ h₂ => wpAny_bind (wpAny_bind (wpAny_mono h₂ (fun x s₃ h₃ => wpAny_bind (wpAny_mono h₃
      (fun _ s₄ h₄ => wpAny_pure (wpAny_pure ⟨rfl, h₄⟩)) fun _ _ h' => h')) fun _ _ h' => h'))) fun _ _ h' => h')) fun _ _ h' => h')
end
def tD (X:Cx) (ifs:List Expr) (tc:TT):Prop:=match ifs with
 | []=>tc=fun _ H Q=>Q true H
 | [c]=>PT X c tc
 | _=>False
section
variable {X:Cx}
theorem yc {scope:Scope} {ys:List Str} {is:List Nat} (h:fI X scope ys is):is.length=ys.length:=by
 induction h with
 | nil=>rfl
 | cons _ _ _ _ ih=>simp [ih]
theorem ng {scope : Scope} {ys : List Str} {is : List Nat} (h : fI X scope ys is) {y : Str} (hy : y ∈ ys) : X.env.kindOf y = some .cell ∨ X.env.kindOf y = some .free := by
  induction h with
  | nil => cases hy
  | cons _ h2 _ _ ih =>
    rcases List.mem_cons.mp hy with e | e
    · rw [e]; exact h2
    · exact ih e
theorem nA {elt iter : Expr} {ifs : List Expr} {x : Str} {px pos : Pos} {scope : Scope} {ys : List Str} {is : List Nat} {tc : TT} {te : TE} {pins : List (Addr × Obj)} {σ : St} {H2 : Hp} {s2 : Shared} {it : Addr} {fp : List Addr} {tn : Nat → Heap → Prop} {J : It} {E : Value → Shared → Prop} {Q : VK} {RR : Value → Addr → Result → Shared → Prop}
    (hc : X.calm = true) (S : eI scope x ys) (hcap : fI X scope ys is)
    (hif : ∀ C s H fp, tD (bq X scope C (x :: ys) s H fp) ifs tc) (he : ∀ C s H fp, PE (bq X scope C (x :: ys) s H fp) elt te)
    (I2 : Inv X pins σ H2 s2) (T : iO X.prog X.w X.K (.Name x px) J fp it tn) (st2 : tn 0 s2.heap) (f2 : ∀ b ∈ fp, gc X pins H2 b)
    (hW : ∀ D, H2 D = none → ∃ W : Nat → Nat → List V → Hp → Prop, (∃ m, W 0 m [] (upd H2 D (.lst []))) ∧
      ∀ i m ys H2, W i m ys H2 → (J.stop i H2 ∧ Q (.ref D) H2) ∨ (J.go i H2 ∧ ∀ x H3, J.yld i H2 x H3 → tc (some x :: bE σ is) H3 fun b H4 => if b = true then
        te (some x :: bE σ is) H4 fun y H5 => H5 D = some (.lst ys) ∧ ys.length < sizeLine ∧ ∃ m', m' < m ∧ W (i + 1) m' (ys ++ [y]) (upd H5 D (.lst (ys ++ [y])))
        else ∃ m', m' < m ∧ W (i + 1) m' ys H4))
    (hRR : ∀ D C H' s', (X.s₀.heap.objs.size ≤ C ∧ ∀ p ∈ X.pn ++ pins, p.1 ≠ C) → (∃ m, s'.heap.Ns C m) → C ≠ X.env.locals → H' C = none → Inv X pins σ H' s' → (∀ h', Heap.SameBut C s'.heap h' → Inv X pins σ H' { s' with heap := h' }) → Q (.ref D) H' → RR (.ref D) C (.ok .next) s') :
    wpAny (model X.prog X.w) X.A (newList []) (fun acc s₃ => wpAny (model X.prog X.w) X.A (newFunctionEnv scope X.env.globals (dk scope.names X.env.cells []) [] X.env.qual none .none (some X.env)) (fun cenv s₄ =>
      codeAny (model X.prog X.w) X.A (.compStart (.ListComp elt [⟨.Name x px, iter, ifs, 0⟩] scope pos) 0 (.ref it) acc { cenv with scope := relabel scope X.env }) (RR acc cenv.locals) s₄) E s₃) E s2 := by
  have hf2 : H2 s2.heap.objs.size = none := I2.fresh
  refine wpAny_newObj_type (wpAny_newFunctionEnv S.nocell (by intro y hy; simp at hy) (fun h₁ hns₁ hsb₁ => ?_) S.kind)
  dsimp only at hns₁ hsb₁ ⊢
  have I3 : Inv X pins σ (upd H2 s2.heap.objs.size (.lst [])) { s2 with heap := s2.heap.push { cls := .type "list", data := .seq ([] : List Value).toArray } } := I2.lnew (t' := s2.toks) (ys := []) .nil (Nat.zero_le _)
  obtain ⟨W, ⟨m0, w0⟩, turn⟩ := hW _ hf2
  generalize hD : s2.heap.objs.size = D at I3 w0 turn hf2 ⊢
  generalize hs3 : ({ s2 with heap := s2.heap.push { cls := .type "list", data := .seq ([] : List Value).toArray } } : Shared) = s3 at I3
  have hp3 : s2.heap.push { cls := .type "list", dict := none, data := .seq ([] : List Value).toArray } = s3.heap := by rw [← hs3]
  rw [hp3] at hns₁ hsb₁ ⊢
  have tk3 : s2.toks = s3.toks := by rw [← hs3]
  generalize hH3 : upd H2 D (.lst []) = H3 at I3 w0
  generalize hC : s3.heap.objs.size = C at hns₁ hsb₁ ⊢
  have keep2 : ∀ b o, s2.heap.get? b = some o → s3.heap.get? b = some o := fun b o e => by rw [← hp3]; exact Heap.get?_push_of_some _ e
  have keep3 : ∀ b o, s3.heap.get? b = some o → h₁.get? b = some o := fun b o e => hsb₁.extBut b o (by rw [← hC]; exact Nat.ne_of_lt (Heap.lt_size e)) (Heap.get?_push_of_some _ e)
  have st3 : tn 0 s3.heap := T.keep _ _ _ st2 fun b _ o e => keep2 b o e
  have st4 : tn 0 h₁ := T.keep _ _ _ st3 fun b _ o e => keep3 b o e
  have fp3 : ∀ b ∈ fp, H3 b = none ∧ b < C := fun b hb => by
    obtain ⟨o, e, _⟩ := T.obj _ _ st2 b hb
    refine ⟨?_, by rw [← hC]; exact Heap.lt_size (keep2 b o e)⟩
    rw [← hH3, ao (by rw [← hD]; exact Nat.ne_of_lt (Heap.lt_size e))]
    exact (f2 b hb).1
  have hcells : ∀ {z : Str} {c : Addr}, (dk scope.names X.env.cells []).lookup z = some c → X.env.cells.lookup z = some c := fun h => ni (fun _ _ q => by cases q) h
  have hX : (bq X scope C (x :: ys) s3 H3 fp).Ok := by
    refine ⟨I3.ok.mod, S.kind, I3.ok.glob, I3.ok.blt, Nat.le_of_eq hC, fun y z c h1 h2 => I3.ok.inj y z c (hcells h1) (hcells h2), fun y hy => ?_, fun y c h _ => absurd (show false = true from h) Bool.false_ne_true, I3.ok.hd, I3.ok.frames, .inl rfl, fun b hb => ⟨Nat.ne_of_lt (fp3 b hb).2, fun y c h => (f2 b hb).2.2.2.2.1 y c (hcells h)⟩, fun b o e => I3.bs b o e, Nat.le_trans I3.ok.bsz I3.sz, fun b o e hb => ?_, fun b hb z => ?_, I3.stack, I3.stkFree⟩
    · have hy : (relabel scope X.env).names.lookup y = some .cell ∨ (relabel scope X.env).names.lookup y = some .free := hy
      have hm : (y, NameKind.free) ∈ scope.names := by
        rcases hy with q | q
        · exact hU S.nocell q (.inl rfl)
        · exact hU S.nocell q (.inr rfl)
      have hs : ∃ c, X.env.cells.lookup y = some c := by
        by_cases hk : X.env.kindOf y = some .cell ∨ X.env.kindOf y = some .free
        · exact I3.ok.has y hk
        · exact absurd (ng hcap (S.all _ hm rfl)) hk
      exact Option.isSome_iff_exists.mp (jb hm (Option.isSome_iff_exists.mpr hs))
    · rcases (f2 b hb).2.2.2.1 with z | z
      · exact I3.ok.noex b o e z
      · exact absurd (Nat.lt_of_lt_of_le (Heap.lt_size e) (Nat.le_trans I3.ok.bsz z)) (Nat.lt_irrefl _)
    · rcases List.mem_cons.mp (I3.stkSub b z) with q | q
      · exact (f2 b hb).2.1 q
      · exact (f2 b hb).2.2.1 q
  have I4 : Inv (bq X scope C (x :: ys) s3 H3 fp) [] (none :: bE σ is) H3 { s2 with heap := h₁, toks := s2.toks + ([] : List (Str × Value)).length } := by
    obtain ⟨m3, hm3, hl3⟩ := id I3.loc
    refine ⟨hX, ?_, ?_, Un.kept keep3, ⟨_, hns₁, fun i y v e1 e2 e3 => ?_⟩, fun y c e => ?_, ?_, fun y c e => I3.freeC y c (hcells e), fun p hp => absurd (show p ∈ ([] : List (Addr × Obj)) from hp) (by simp), I3.hok.kept keep3, ?_⟩
    · show s2.os = s3.os
      rw [← hs3]
    · have := I2.bare; exact this
    · cases i with
      | zero => simp at e2
      | succ j =>
        obtain ⟨u, r, hfr, c, ec, ic⟩ := ut hcap hl3 trivial j y v (by have e1' : (x :: ys)[j + 1]? = some y := e1; simpa using e1') (by simpa using e2)
        have hk := ql (env := X.env) hfr
        obtain ⟨c', ec'⟩ := Option.isSome_iff_exists.mp (jb (cs := []) (lK hfr) (by rw [ec]; rfl) (cells := X.env.cells))
        have : c' = c := by have := hcells ec'; rw [ec] at this; exact (Option.some.inj this).symm
        subst this
        obtain ⟨o, ho, hd⟩ := ic
        exact ⟨u, r, .inr ⟨hk, c', ec', o, keep3 _ _ ho, hd⟩⟩
    · obtain ⟨v, o, ho, hd⟩ := I3.cell y c (hcells e)
      exact ⟨v, o, keep3 _ _ ho, hd⟩
    · have := I3.hok.fresh (a := C) (Nat.le_of_eq hC)
      exact this
    · have := yc hcap
      show (none :: bE σ is).length = (x :: ys).length
      simp [bE, this]
  have lenσ : ∀ v : Option V, (v :: bE σ is).set 0 = fun w => w :: bE σ is := fun v => rfl
  have hown : (relabel scope X.env).names.lookup x = some .local := nU S.own
  have loop : codeAny (model X.prog X.w) X.A (.compLoop (.ListComp elt [⟨.Name x px, iter, ifs, 0⟩] scope pos) 0 (.ref it) (.ref D) (compEnvC scope (dk scope.names X.env.cells []) C X.env)) (RR (.ref D) C)
      { s2 with heap := h₁, toks := s2.toks + ([] : List (Str × Value)).length } := by
    have fin : ∀ {H' : Hp} {v : Option V} {s' : Shared}, Inv (bq X scope C (x :: ys) s3 H3 fp) [] (v :: bE σ is) H' s' → Q (.ref D) H' → RR (.ref D) C (.ok .next) s' := fun {H' v s'} J q => by
      obtain ⟨m', hm', _⟩ := J.loc
      have hCL : C ≠ X.env.locals := Ne.symm (by rw [← hC]; exact Nat.ne_of_lt I3.lt)
      have back : ∀ h', Heap.SameBut C s'.heap h' → Inv X pins σ H' { s' with heap := h' } := fun h' hs' => by
        have os' : s'.os = s3.os := J.os
        refine I3.call' (s' := { s' with heap := h' }) (ch := fp) os' ⟨fun b o e n hb hx => ?_, fun b o e n hb hx => ?_, fun b o e n hx => J.base.free b o e n hx, fun b o e hx => ?_, J.base.tups, J.base.frzs, J.base.tbls⟩ (fun b o e => ?_) J.bare fun b hb => ?_
        · exact hs'.extBut b o (by rw [← hC]; exact Nat.ne_of_lt (Heap.lt_size e)) (J.base.keep b o e n hb hx)
        · obtain ⟨sl, e1⟩ := J.base.slot b o e n hb hx
          exact ⟨sl, hs'.extBut b _ (by rw [← hC]; exact Nat.ne_of_lt (Heap.lt_size e)) e1⟩
        · obtain ⟨o', e1⟩ := J.base.there b o e hx
          exact ⟨o', hs'.extBut b _ (by rw [← hC]; exact Nat.ne_of_lt (Heap.lt_size e)) e1⟩
        · refine (J.hok b o e).stay (fun c w' hc q => (hs'.2 c ?_).trans q) (fun _ q => q) fun _ _ q => q
          have fC : H' C = none := J.free
          rintro rfl
          rcases hc with rfl | hc
          · rw [fC] at e; cases e
          · rw [fC] at hc; cases hc
        · obtain ⟨_, a1, _, a2, a3, a4⟩ := f2 b hb
          exact ⟨a2, a1, a3, a4⟩
      refine hRR D C H' s' ⟨by rw [← hC]; exact I3.sz, fun p hp => by rw [← hC]; exact Nat.ne_of_lt (Heap.lt_size (I3.pin p hp).1)⟩ ⟨m', hm'⟩ hCL J.free ?_ back q
      have := back s'.heap (.refl ..)
      exact this
    have stat : ∀ {H' : Hp}, (∀ b ∈ fp, H' b = none) → ∀ b ∈ fp, gc (bq X scope C (x :: ys) s3 H3 fp) [] H' b := fun hn b hb => by
      obtain ⟨_, a1, a5, a2, a3, a4⟩ := f2 b hb
      refine ⟨hn b hb, Nat.ne_of_lt (fp3 b hb).2, fun z => ?_, .inl hb, fun y c e => a3 y c (hcells e), fun p hp => absurd (show p ∈ ([] : List (Addr × Obj)) from hp) (by simp)⟩
      rcases List.mem_cons.mp (I3.stkSub b z) with q | q
      · exact a1 q
      · exact a5 q
    have turnAt : ∀ n s, (∃ i v ys' H', Inv (bq X scope C (x :: ys) s3 H3 fp) [] (v :: bE σ is) H' s ∧ tn i s.heap ∧ (∀ b ∈ fp, H' b = none) ∧ W i n ys' H') →
        wpAny (model X.prog X.w) X.A (pyNext (.ref it)) (fun r s₁ => match r with
          | none => RR (.ref D) C (.ok .next) s₁
          | some u => wpAny (model X.prog X.w) X.A (letOwnedTupleGo (.Name x px) (.ref it) u) (fun _ s₁ => wpAny (model X.prog X.w) X.A (assign (.Name x px) (compEnvC scope (dk scope.names X.env.cells []) C X.env) u) (fun _ s₂ =>
            ∃ (xx : V) (i : Nat) (ys' : List V) (H3' H6 : Hp) (pl : List (Addr × Obj)), Inv (bq X scope C (x :: ys) s3 H3 fp) ([] ++ pl) (some xx :: bE σ is) H6 s₂ ∧
              (∀ s7 v7 H7, Inv (bq X scope C (x :: ys) s3 H3 fp) ([] ++ pl) (v7 :: bE σ is) H7 s7 → Inv (bq X scope C (x :: ys) s3 H3 fp) [] (v7 :: bE σ is) H7 s7 ∧ tn (i + 1) s7.heap ∧ ∀ b ∈ fp, H7 b = none) ∧
              (tc (some xx :: bE σ is) H6 fun b H4 => if b = true then te (some xx :: bE σ is) H4 fun y H5 => H5 D = some (.lst ys') ∧ ys'.length < sizeLine ∧ ∃ m', m' < n ∧ W (i + 1) m' (ys' ++ [y]) (upd H5 D (.lst (ys' ++ [y])))
                else ∃ m', m' < n ∧ W (i + 1) m' ys' H4)) (fun _ _ => False) s₁) (fun _ _ => False) s₁) (fun _ _ => False) s := by
      rintro n s ⟨i, v, ys', H', J, st, fr, w'⟩
      rcases turn i n ys' H' w' with ⟨stop, qn⟩ | ⟨go, step⟩
      · refine thn (T.done (bq X scope C (x :: ys) s3 H3 fp) rfl rfl rfl hc i [] s _ H' (fun _ _ => False) J (stat fr) st stop) fun r s4 ⟨hr, J4⟩ => ?_
        subst hr
        exact fin J4 qn
      · refine thn (T.item (bq X scope C (x :: ys) s3 H3 fp) rfl rfl rfl hc i [] s _ H' (fun _ _ => False) J (stat fr) st go) fun r s4 ⟨u, hr, h4⟩ => ?_
        subst hr
        refine thn h4 fun _ s5 ⟨xx, H5, J5, r5, y5, st5, fr5⟩ => ?_
        have J5' := J5.pinned (stat fr5) (T.obj _ _ st5)
        refine wpAny_assign_Name (eZ (i := 0) J5' S.nd rfl (.inl hown) r5 (fun s6 J6 => ?_) (.inr hown))
        refine ⟨xx, i, ys', H5, H5, jp fp s5.heap, J6, fun s7 v7 H7 J7 => ⟨J7.unpinned, T.keep _ _ _ st5 fun b hb o e => (J7.pin (b, o) (List.mem_append_right _ (List.mem_append_right _ (eQ hb e)))).1, fun b hb => ?_⟩, step xx H5 y5⟩
        obtain ⟨o, e, d⟩ := T.obj _ _ st5 b hb
        exact (J7.pin (b, o) (List.mem_append_right _ (List.mem_append_right _ (eQ hb e)))).2.1
    have start0 : ∃ i v ys' H', Inv (bq X scope C (x :: ys) s3 H3 fp) [] (v :: bE σ is) H' { s2 with heap := h₁, toks := s2.toks + ([] : List (Str × Value)).length } ∧ tn i h₁ ∧ (∀ b ∈ fp, H' b = none) ∧ W i m0 ys' H' :=
      ⟨0, none, [], H3, I4, st4, fun b hb => (fp3 b hb).1, w0⟩
    have emit : ∀ (n : Nat) (xx : V) (i : Nat) (ys' : List V) (H4 : Hp) (pl : List (Addr × Obj)) (s₂ : Shared), Inv (bq X scope C (x :: ys) s3 H3 fp) ([] ++ pl) (some xx :: bE σ is) H4 s₂ →
        (∀ s7 v7 H7, Inv (bq X scope C (x :: ys) s3 H3 fp) ([] ++ pl) (v7 :: bE σ is) H7 s7 → Inv (bq X scope C (x :: ys) s3 H3 fp) [] (v7 :: bE σ is) H7 s7 ∧ tn (i + 1) s7.heap ∧ ∀ b ∈ fp, H7 b = none) →
        (te (some xx :: bE σ is) H4 fun y H5 => H5 D = some (.lst ys') ∧ ys'.length < sizeLine ∧ ∃ m', m' < n ∧ W (i + 1) m' (ys' ++ [y]) (upd H5 D (.lst (ys' ++ [y])))) →
        wpAny (model X.prog X.w) X.A (eval elt (compEnvC scope (dk scope.names X.env.cells []) C X.env)) (fun y s₃ => wpAny (model X.prog X.w) X.A (call (.builtin "list.append") [.ref D, y]) (fun _ s₄ =>
          ∃ m, m < n ∧ ∃ i v ys' H', Inv (bq X scope C (x :: ys) s3 H3 fp) [] (v :: bE σ is) H' s₄ ∧ tn i s₄.heap ∧ (∀ b ∈ fp, H' b = none) ∧ W i m ys' H') (fun _ _ => False) s₃) (fun _ _ => False) s₂ := by
      intro n xx i ys' H4 pl s₂ J2 back q
      refine thn (he C s3 H3 fp ([] ++ pl) s₂ _ H4 _ J2 q) fun y s₃ ⟨yv, H5, J3, r3, q1, q2, q3⟩ => ?_
      refine thn (cz (X := bq X scope C (x :: ys) s3 H3 fp) ([] ++ pl) s₃ _ H5 (.ref D) [yv] (.ref D) [y] (fun v H7 => v = .non ∧ H7 = upd H5 D (.lst (ys' ++ [yv]))) J3 rfl (.cons r3 .nil) ⟨D, ys', yv, rfl, rfl, q1, q2, rfl, rfl⟩) fun _ s₄ ⟨_, H7, J4, _, _, e7⟩ => ?_
      subst e7
      obtain ⟨m', hm', w'⟩ := q3
      obtain ⟨b1, b2, b3⟩ := back s₄ _ _ J4
      exact ⟨m', hm', i + 1, some xx, ys' ++ [yv], _, b1, b2, b3, w'⟩
    have ex0 : ∀ {α : Type} {t : Sem α} {Q' : α → Shared → Prop} {E' : Value → Shared → Prop} {s : Shared}, wpAny (model X.prog X.w) X.A t Q' (fun _ _ => False) s → wpAny (model X.prog X.w) X.A t Q' E' s := fun h => wpAny_mono h (fun _ _ q => q) fun _ _ q => q.elim
    cases ifs with
    | nil =>
      have htc : tc = fun _ H Q => Q true H := hif C s3 H3 fp
      subst htc
      refine iR (fun n s => ∃ i v ys' H', Inv (bq X scope C (x :: ys) s3 H3 fp) [] (v :: bE σ is) H' s ∧ tn i s.heap ∧ (∀ b ∈ fp, H' b = none) ∧ W i n ys' H') (fun n s hI => ?_) m0 start0
      refine wpAny_mono (turnAt n s hI) (fun r s₁ h₁ => ?_) fun _ _ q => q.elim
      cases r with
      | none => exact h₁
      | some u =>
        refine wpAny_mono h₁ (fun _ s₁ h₁ => wpAny_mono h₁ (fun _ s₂ h₂ => ?_) fun _ _ q => q.elim) fun _ _ q => q.elim
        obtain ⟨xx, i, ys', _, H6, pl, J2, back, q⟩ := h₂
        dsimp only at q
        rw [if_pos rfl] at q
        exact wpAny_mono (emit n xx i ys' H6 pl s₂ J2 back q) (fun y s₃ h₃ => ex0 h₃) fun _ _ q => q.elim
    | cons c r0 =>
      cases r0 with
      | cons _ _ => exact (hif C s3 H3 fp).elim
      | nil =>
        have hpt : PT (bq X scope C (x :: ys) s3 H3 fp) c tc := hif C s3 H3 fp
        refine iT (fun n s => ∃ i v ys' H', Inv (bq X scope C (x :: ys) s3 H3 fp) [] (v :: bE σ is) H' s ∧ tn i s.heap ∧ (∀ b ∈ fp, H' b = none) ∧ W i n ys' H') (fun n s hI => ?_) m0 start0
        refine wpAny_mono (turnAt n s hI) (fun r s₁ h₁ => ?_) fun _ _ q => q.elim
        cases r with
        | none => exact h₁
        | some u =>
          refine wpAny_mono h₁ (fun _ s₁ h₁ => wpAny_mono h₁ (fun _ s₂ h₂ => ?_) fun _ _ q => q.elim) fun _ _ q => q.elim
          obtain ⟨xx, i, ys', _, H6, pl, J2, back, q⟩ := h₂
          refine wpAny_mono (hpt ([] ++ pl) s₂ _ H6 _ J2 q) (fun b s₃ h₃ => ?_) fun _ _ q => q.elim
          obtain ⟨H4, J4, q4⟩ := h₃
          cases b with
          | true =>
            rw [if_pos rfl] at q4 ⊢
            exact wpAny_mono (emit n xx i ys' H4 pl s₃ J4 back q4) (fun y s₃ h₃ => ex0 h₃) fun _ _ q => q.elim
          | false =>
            rw [if_neg Bool.false_ne_true] at q4 ⊢
            obtain ⟨m', hm', w'⟩ := q4
            obtain ⟨b1, b2, b3⟩ := back s₃ _ _ J4
            exact ⟨m', hm', i + 1, some xx, ys', _, b1, b2, b3, w'⟩
  exact codeAny_compStart_list loop (T.self X.A 0 _ _ _ st4 loop)
end
section
variable {X:Cx}
theorem rJ {scope:Scope} {x:Str} {ys:List Str} {is:List Nat} (ok:X.Ok) (S:eI scope x ys) (hcap:fI X scope ys is):closureFor scope X.env=pure (dk scope.names X.env.cells []):=
 qu fun y hy hk=>by
  obtain ⟨c,e⟩:=ok.has y.1 (ng hcap (S.all y hy hk))
  rw [e];rfl
theorem Ac {elt iter:Expr} {ifs:List Expr} {x:Str} {px pos:Pos} {scope:Scope} {ys:List Str} {is:List Nat} {wi:TI} {tc:TT} {te:TE}
  (hc:X.calm=true) (S:eI scope x ys) (hcap:fI X scope ys is) (hi:PI X (.Name x px) iter wi)
  (hif:∀ C s H fp,tD (bq X scope C (x::ys) s H fp) ifs tc) (he:∀ C s H fp,PE (bq X scope C (x::ys) s H fp) elt te)
  (hs:∀ x,foldedSetIterable iter X.env x=pure x:=by intro _;rfl):PE X (.ListComp elt [⟨.Name x px,iter,ifs,0⟩] scope pos) (dJ is wi tc te):=by
 intro pins s σ H Q I h
 rw [eval_ListComp]
 refine wpAny_comprehension_free (use:=none) rfl hs (rJ I.ok S hcap) S.kind S.names (thn (hi pins s σ H _ I h) fun v s1 h1=>thn h1 fun itv s2 h2=>?_)
 obtain ⟨it,fp,tn,J,H2,rfl,I2,T,st2,f2,hW⟩:=h2
 refine nA (RR:=fun acc C=>compPost (model X.prog X.w) X.A X.xe none (EP X pins σ Q) acc C) hc S hcap hif he I2 T st2 f2 hW ?_
 intro D C H' s' hlt hns hne hfr I' back q
 obtain ⟨m,hm⟩:=hns
 exact ⟨m,hm,fun h' hs'=>⟨.ref D,H',back h' hs',rfl,q⟩⟩
theorem sw {elt iter:Expr} {ifs:List Expr} {x y:Str} {px py pos spos:Pos} {scope:Scope} {ys:List Str} {is:List Nat} {wi:TI} {tc:TT} {te:TE} {j:Nat}
  (hN:X.N.Nodup) (hj:X.N[j]?=some y) (hy:Loc X.env.scope y)
  (hc:X.calm=true) (S:eI scope x ys) (hcap:fI X scope ys is) (hi:PI X (.Name x px) iter wi)
  (hif:∀ C s H fp,tD (bq X scope C (x::ys) s H fp) ifs tc) (he:∀ C s H fp,PE (bq X scope C (x::ys) s H fp) elt te)
  (hsw:swapsWith (.ListComp elt [⟨.Name x px,iter,ifs,0⟩] scope pos) (some (.Name y py)) spos.line X.env=pure true:=by rfl)
  (hf:X.fn y=true∨X.env.scope.names.lookup y=some .local:=by first | exact .inl rfl | exact .inr rfl | assumption)
  (hs:∀ x,foldedSetIterable iter X.env x=pure x:=by intro _;rfl):PS X (.Assign [.Name y py] (.ListComp elt [⟨.Name x px,iter,ifs,0⟩] scope pos) spos) (aC (dJ is wi tc te) (au j)):=by
 intro pins s σ H D I h
 rw [exec_Assign_Name_used _ _ _ _ hsw]
 refine wpAny_bind (wpAny_standAt (wpAny_bind ?_))
 show wpAny _ X.A (do let _←comprehension (.ListComp elt [⟨.Name x px,iter,ifs,0⟩] scope pos) scope X.env _ (newList []) false (eval iter X.env) (some (assign (.Name y py) X.env))) _ _ s
 refine wpAny_bind (wpAny_mono (wpAny_comprehension_free (use:=some (assign (.Name y py) X.env)) (Q:=fun _ s'=>SP X pins D .next s') rfl hs (rJ I.ok S hcap) S.kind S.names
  (thn (hi pins s σ H _ I h) fun v s1 h1=>thn h1 fun itv s2 h2=>?_)) (fun _ s' hq=>wpAny_pure (wpAny_pure hq)) fun _ _ e=>e)
 obtain ⟨it,fp,tn,J,H2,rfl,I2,T,st2,f2,hW⟩:=h2
 refine nA (Q:=fun x H1=>au j x σ H1 D.nx) (RR:=fun acc C=>compPost (model X.prog X.w) X.A X.xe (some (assign (.Name y py) X.env)) (fun _ s'=>SP X pins D .next s') acc C) hc S hcap hif he I2 T st2 f2 hW ?_
 intro Da C H' s' hlt hns hne hfr I' back q
 show wpAny _ X.A (assign (.Name y py) X.env (.ref Da)) _ _ _
 obtain ⟨m,hm⟩:=hns
 refine wpAny_assign_Name (mV I' hN hj hy (v:=.ref Da) rfl (fun s2 I2' ⟨a,hsb,ha⟩=>?_) hf)
 have hCa:C≠a:=by
  rcases ha with e | e
  · rw [e];exact hne
  · rintro rfl
    obtain ⟨v,o,ho,hd⟩:=I'.cell y C e
    obtain ⟨o2,es,ep,ho2,hd2,_⟩:=hm
    rw [ho] at ho2;cases ho2;rw [hd] at hd2;cases hd2
 refine ⟨m,hm.sameBut hsb hCa,fun h' hs'=>?_⟩
 have hCn:∀ y c,X.env.cells.lookup y=some c→c≠C:=fun z c e q=>by
  subst q
  obtain ⟨v,o,ho,hd⟩:=I'.cell z c e
  obtain ⟨o2,es,ep,ho2,hd2,_⟩:=hm
  rw [ho] at ho2;cases ho2;rw [hd] at hd2;cases hd2
 have I3:Inv X pins (σ.set j (some (.ref Da))) H' { s2 with heap:=h' }:=by
  refine I2'.step (g':=s2.gens) (d':=s2.drawn) (t':=s2.toks) (ch:=[C]) (fun b hb=>?_) (fun b o _ _ hb e _=>(hs'.2 b (fun z=>hb (by simp [z]))).trans e) (fun b o _ _ hb e _=>⟨o.slots,(hs'.2 b (fun z=>hb (by simp [z]))).trans e⟩) (fun _ _ _ _ n=>n) (fun b o hb e=>⟨o,(hs'.2 b (fun z=>hb (by simp [z]))).trans e⟩)
    (fun _ _ e=>e) (fun _ _ _ e=>e) (fun b ps e=>⟨#[],by rw [e];simp⟩) (fun m' hm'=>hm'.sameBut hs' (Ne.symm hne)) (fun b o e=>?_) I2'.bare
  · have e:b=C:=by simpa using hb
    subst e
    exact ⟨.inr hlt.1,hne,fun z c e=>hCn z c e,hlt.2⟩
  · refine (I2'.hok b o e).stay (fun c w' hc q=>(hs'.2 c ?_).trans q) (fun _ q=>q) fun _ _ q=>q
    rintro rfl
    rcases hc with rfl | hc
    · rw [hfr] at e;cases e
    · rw [hfr] at hc;cases hc
 exact ⟨_,H',I3,q⟩
end
def tyN (H : Hp) : V → Option String
  | .non => some "NoneType"
  | .bl _ => some "bool"
  | .int _ => some "int"
  | .str _ => some "str"
  | .ref a => match H a with
    | some (.lst _) => some "list"
    | some (.frz _ (.lst _)) => some "list"
    | some (.tup _) => some "tuple"
    | some (.dK _) => some "dict"
    | some (.dT _) => some "dict"
    | _ => none
  | _ => none
theorem CZ {K : W.Frag} {H : Hp} {x : V} {t : String} (h : tyN H x = some t) : fj K H x (.type t) := by
  cases x with
  | non => cases h; exact .non
  | bl b => cases h; exact .bl b
  | int i => cases h; exact .int i
  | str x => cases h; exact .str x
  | byt _ => cases h
  | flt _ => cases h
  | ty _ => cases h
  | ref a =>
    unfold tyN at h
    dsimp only at h
    split at h
    · rename_i e; cases h; exact .lst e
    · rename_i e; cases h; exact .frz e
    · rename_i e; cases h; exact .tup e
    · rename_i e; cases h; exact .dK e
    · rename_i e; cases h; exact .dT e
    · cases h
def tyL:List String:=["NoneType", "bool", "int", "str", "list", "tuple", "dict"]
theorem Dp {H : Hp} {x : V} {t : String} (h : tyN H x = some t) : t ∈ tyL := by
  cases x with
  | non => cases h; decide
  | bl b => cases h; decide
  | int i => cases h; decide
  | str x => cases h; decide
  | byt _ => cases h
  | flt _ => cases h
  | ty _ => cases h
  | ref a =>
    unfold tyN at h
    dsimp only at h
    split at h <;> first | (cases h; decide) | cases h
def isI (t T:String):Bool:=t==T||(T== "int" &&t== "bool")
theorem AE (K:W.Frag):∀ t∈tyL,∀ T∈["int", "bool", "str", "tuple", "list", "dict"],W.kitOne K (.type t) (.type T)=some (isI t T):=by
 intro t ht T hT
 simp only [tyL,List.mem_cons,List.not_mem_nil,or_false] at ht hT
 rcases ht with rfl | rfl | rfl | rfl | rfl | rfl | rfl <;> rcases hT with rfl | rfl | rfl | rfl | rfl | rfl <;> (unfold W.kitOne;first | rfl | decide +kernel | (simp only [W.kitCls];rfl))
section
variable {X:Cx}
theorem vH:bv X (.builtin "isinstance") (fun xs H Q=>∃ x T t,xs=[x,.ty T]∧T∈["int", "bool", "str", "tuple", "list", "dict"]∧tyN H x=some t∧Q (.bl (isI t T)) H):=by
 intro pins s σ H xs us Q I r h
 obtain ⟨x,T,t,rfl,hT,ht,q⟩:=h
 obtain ⟨u,w',rfl,r1,r2⟩:=jY r
 cases r2
 exact vo I r1 (CZ ht) (AE X.K t (Dp ht) T hT) fun tk=>⟨.bl _,H,I.tok tk,rfl,q⟩
end
section
variable {X:Cx}
theorem rl : ∀ {bs : List Bool} {us : List Value}, aR (bs.map V.bl) us → us = bs.map Value.bool
  | [], _, .nil => rfl
  | b :: bs, _, .cons r t => by
    have e : _ = Value.bool b := r
    rw [rl t, List.map_cons, e]
theorem vj (bs:List Bool):(List.range bs.length).all (fun i=>bs.getD i false)=bs.all id:=by
 rw [Bool.eq_iff_iff,List.all_eq_true,List.all_eq_true]
 constructor
 · intro h b hb
   obtain ⟨i,hi,e⟩:=List.mem_iff_getElem.mp hb
   have:=h i (List.mem_range.mpr hi)
   simp only [List.getD_eq_getElem?_getD,List.getElem?_eq_getElem hi,Option.getD_some] at this
   rw [← e];exact this
 · intro h i hi
   have hi:=List.mem_range.mp hi
   simp only [List.getD_eq_getElem?_getD,List.getElem?_eq_getElem hi,Option.getD_some]
   exact h _ (List.getElem_mem hi)
theorem qN {prog : Program} {w : World} {A : Around} {bs : List Bool} : TruthOf prog w A (fun i v => (bs.map Value.bool).toArray[i]? = some v) (fun i => bs.getD i false) := by
  intro i v s Q E hP hQ
  have hP : (bs.map Value.bool)[i]? = some v := by simpa using hP
  rw [List.getElem?_map] at hP
  cases e : bs[i]? with
  | none => rw [e] at hP; cases hP
  | some b =>
    rw [e] at hP
    cases hP
    have hQ' : Q b s := by
      have e2 : bs.getD i false = b := by rw [List.getD_eq_getElem?_getD, e]; rfl
      have hQ2 : Q (bs.getD i false) s := hQ
      rw [e2] at hQ2; exact hQ2
    exact wpAny_of_eq (a := b) rfl hQ'
theorem vE (hc:X.calm=true):bv X (.builtin "all") (fun xs H Q=>∃ (a:Addr) (bs:List Bool),xs=[.ref a]∧H a=some (.lst (bs.map V.bl))∧Q (.bl (bs.all id)) H):=by
 intro pins s σ H xs us Q I r h
 obtain ⟨a,bs,rfl,hH,q⟩:=h
 obtain ⟨u,rfl,ru⟩:=dZ r
 cases ru
 obtain ⟨z,its,n,rv,e⟩:=I.hok a _ hH
 have ei:=rl rv
 subst ei
 have hl:s.heap.IsList a (bs.map Value.bool).toArray:=⟨_,e,rfl,_,rfl⟩
 refine call_all_walk (wpAny_pyIter_list hl ?_)
 have hne:a≠s.heap.objs.size:=Nat.ne_of_lt (Heap.lt_size e)
 refine ⟨s.heap.objs.size,_,_,_,_,_,_,rfl,Walks.list (by show X.A.handled=none;exact I.ok.hd hc) _ a hne (bs.map Value.bool).toArray,⟨⟨_,Heap.get?_push_size _ rfl,rfl,rfl⟩,⟨_,Heap.get?_push_of_some _ e,rfl,_,rfl⟩⟩,qN,fun h' tk hk=>?_⟩
 have e2:((bs.map Value.bool).toArray).size=bs.length:=by simp
 rw [e2,vj]
 refine ⟨.bl _,H,I.kept (t':=tk) fun b o hb=>hk b o ?_ (Heap.get?_push_of_some _ hb),rfl,q⟩
 intro z
 have:b=s.heap.objs.size:=by simpa using z
 rw [this] at hb
 exact absurd (Heap.lt_size hb) (Nat.lt_irrefl _)
theorem qS : ∀ {xs : List Str} {us : List Value}, aR (xs.map V.str) us → StrsAre us xs
  | [], _, .nil => .nil
  | x :: xs, _, .cons r t => by
    obtain ⟨tk, e⟩ := (show ∃ t, _ = Value.str x t from r)
    rw [e]
    exact .cons _ _ (qS t)
def tI:V→List V→Hp→VK→Prop:=fun x vs H Q=>∃ (z:Str) (a:Addr) (xs:List Str),x=.str z∧vs=[.ref a]∧H a=some (.lst (xs.map V.str))∧(xs.map (·.length)).sum+xs.length*z.length≤16777216∧Q (.str (Txt.join z xs)) H
theorem rE:MtM X "str.join" tI:=by
 intro pins s σ H x vs v us Q I rx rv h
 obtain ⟨z,a,xs,rfl,rfl,hH,hz,q⟩:=h
 obtain ⟨t,rfl⟩:=(show ∃ t,v=Value.str z t from rx)
 obtain ⟨u,rfl,ru⟩:=rv.one
 cases ru
 obtain ⟨_,its,n,rv,e⟩:=I.hok a _ hH
 refine join_list (items:=its.toArray) ⟨_,e,rfl,_,rfl⟩ (by simpa using qS rv) hz fun t' k=>⟨.str _,H,I.tok k,⟨_,rfl⟩,q⟩
end
@[irreducible] def Sel (b:Bool) (A B:Prop):Prop:=if b=true then A else B
theorem Sel.mk {b:Bool} {A B:Prop} (h1:b=true→A) (h2:b=false→B):Sel b A B:=by
 unfold Sel
 cases b with
 | true=>exact h1 rfl
 | false=>exact h2 rfl
theorem Sel.t {A B:Prop} (h:A):Sel true A B:=.mk (fun _=>h) fun e=>by cases e
theorem Sel.f {A B:Prop} (h:B):Sel false A B:=.mk (fun e=>by cases e) fun _=>h
theorem Sel.dec {p A B:Prop} [Decidable p] (h1:p→A) (h2:¬ p→B):Sel (decide p) A B:=.mk (fun e=>h1 (of_decide_eq_true e)) fun e=>h2 (of_decide_eq_false e)
theorem Sel.ndec {p A B:Prop} [Decidable p] (h1:¬ p→A) (h2:p→B):Sel (!decide p) A B:=.mk (fun e=>h1 (by simpa using e)) fun e=>h2 (by simpa using e)
theorem Sel.yes {b:Bool} {A B:Prop} (e:b=true) (h:A):Sel b A B:=by rw [e];exact .t h
theorem Sel.no {b:Bool} {A B:Prop} (e:b=false) (h:B):Sel b A B:=by rw [e];exact .f h
theorem dN {b:Bool} {A B:Prop} (h:Sel b A B):if b=true then A else B:=by unfold Sel at h;exact h
def af (i:Nat):TE:=fun σ H Q=>match σ[i]? with | some (some v)=>Q v H | _=>False
section
variable {X:Cx}
theorem PE.imp {e:Expr} {t t':TE} (h:PE X e t) (i:∀ σ H Q,t' σ H Q→t σ H Q):PE X e t':=fun pins s σ H Q I q=>h pins s σ H Q I (i _ _ _ q)
theorem OpR.imp {f:Value→Value→Sem Value} {r r':R2} (h:OpR X f r) (i:∀ x y H Q,r' x y H Q→r x y H Q):OpR X f r':=fun pins s σ H x y v u Q I rx ry q=>h pins s σ H x y v u Q I rx ry (i _ _ _ _ q)
theorem qv (i:Nat) {x:Str} {pos:Pos} (hN:X.N[i]?=some x:=by rfl) (hv:Vis X.env.scope x:=by first | exact Or.inl rfl | exact Or.inr (Or.inl rfl) | exact Or.inr (Or.inr rfl)) (hd:(x==("__debug__" :Str))=false:=by decide)
   (hcd:(x==("__classdict__" :Str))=false:=by decide):PE X (.Name x pos) (af i):=(CS hN hv hd hcd).imp fun σ H Q q=>by
 unfold af at q
 split at q
 · rename_i v e;exact ⟨v,e,q⟩
 · exact q.elim
theorem qgi {x:Str} {i:Int} {pos:Pos} (hm:∃ t,X.mg x=some (.int i t)) (hg:Gl X x:=by rfl) (hd:(x==("__debug__" :Str))=false:=by decide):PE X (.Name x pos) (tC (.int i)):=by
 obtain ⟨t,e⟩:=hm
 exact rn hg e ⟨t,rfl⟩ hd
def dB:R2:=fun x y H Q=>match x,y with | .int i,.int j=>Q (.int (i - j)) H | _,_=>False
theorem dR:OpR X (binaryOp .Sub) dB:=Co.imp fun x y H Q q=>by
 unfold dB at q
 split at q
 · exact ⟨_,_,rfl,rfl,q⟩
 · exact q.elim
theorem zM:OpR X (binaryOp .Mult) (rI IntMulOk fun i j=> .int (i*j)):=opI fun _ _ _ _ _ _ _ hc q=>mul_int q hc
def wz:R2:=fun x y H Q=>match x,y with
 | .int i,.int j=>IntMulOk i j∧Q (.int (i*j)) H
 | _,_=>False
theorem IS:OpR X (binaryOp .Mult) wz:=zM.imp fun x y H Q q=>by
 unfold wz at q
 split at q
 · exact ⟨_,_,rfl,rfl,q.1,q.2⟩
 · exact q.elim
def bo:R2:=fun x y H Q=>match x,y with | .int i,.int j=>0<j∧Q (.int (i%j)) H | _,_=>False
theorem br:OpR X (binaryOp .Mod) bo:=Ba.imp fun x y H Q q=>by
 unfold bo at q
 split at q
 · exact ⟨_,_,rfl,rfl,q.1,q.2⟩
 · exact q.elim
def jf:R2:=fun x y H Q=>match x,y with | .int i,.int j=>(0≤j∧j≤1000000∧i.natAbs<2^64)∧Q (.int (i^j.toNat)) H | _,_=>False
theorem ml:OpR X (binaryOp .Pow) jf:=Cq.imp fun x y H Q q=>by
 unfold jf at q
 split at q
 · exact ⟨_,_,rfl,rfl,q.1,q.2⟩
 · exact q.elim
def gJ:R2:=fun x y H Q=>match x,y with | .int i,.int j=>(0≤j∧j≤1000000∧i.natAbs<2^64)∧Q (.int (i*2^j.toNat)) H | _,_=>False
theorem jj:OpR X (binaryOp .LShift) gJ:=AO.imp fun x y H Q q=>by
 unfold gJ at q
 split at q
 · exact ⟨_,_,rfl,rfl,q.1,q.2⟩
 · exact q.elim
def mLt:R2:=fun x y H Q=>match x,y with | .int i,.int j=>Q (.bl (decide (i<j))) H | _,_=>False
theorem oLt:OpR X (compareOp .Lt) mLt:=DX.imp fun x y H Q q=>by
 unfold mLt at q
 split at q
 · exact ⟨_,_,rfl,rfl,q⟩
 · exact q.elim
def mLe:R2:=fun x y H Q=>match x,y with | .int i,.int j=>Q (.bl (decide (i≤j))) H | _,_=>False
theorem oLe:OpR X (compareOp .LtE) mLe:=EG.imp fun x y H Q q=>by
 unfold mLe at q
 split at q
 · exact ⟨_,_,rfl,rfl,q⟩
 · exact q.elim
def mGt:R2:=fun x y H Q=>match x,y with | .int i,.int j=>Q (.bl (decide (j<i))) H | _,_=>False
theorem oGt:OpR X (compareOp .Gt) mGt:=El.imp fun x y H Q q=>by
 unfold mGt at q
 split at q
 · exact ⟨_,_,rfl,rfl,q⟩
 · exact q.elim
def mGe:R2:=fun x y H Q=>match x,y with | .int i,.int j=>Q (.bl (decide (j≤i))) H | _,_=>False
theorem oGe:OpR X (compareOp .GtE) mGe:=EM.imp fun x y H Q q=>by
 unfold mGe at q
 split at q
 · exact ⟨_,_,rfl,rfl,q⟩
 · exact q.elim
def mEq:R2:=fun x y H Q=>match x,y with
 | .int i,.int j=>Q (.bl (decide (i=j))) H
 | .str i,.str j=>Q (.bl (decide (i=j))) H
 | .bl i,.bl j=>Q (.bl (decide (i=j))) H
 | .non,.non=>Q (.bl true) H
 | .non,.int _=>Q (.bl false) H | .int _,.non=>Q (.bl false) H | .non,.bl _=>Q (.bl false) H | .bl _,.non=>Q (.bl false) H | .non,.str _=>Q (.bl false) H | .str _,.non=>Q (.bl false) H
 | .int _,.str _=>Q (.bl false) H | .str _,.int _=>Q (.bl false) H | .bl _,.str _=>Q (.bl false) H | .str _,.bl _=>Q (.bl false) H
 | _,_=>False
theorem iW {α:Type} [DecidableEq α] {f:α→V} (hf:∀ a b,f a=f b→a=b) (a b:α):decide (f a=f b)=decide (a=b):=by
 by_cases h:a=b
 · subst h;simp
 · rw [decide_eq_false h,decide_eq_false fun e=>h (hf a b e)]
theorem oEq:OpR X (compareOp .Eq) mEq:=ET.imp fun x y H Q q=>by
 unfold mEq at q
 split at q
 · exact ⟨rfl,by rw [iW (f:=V.int) fun _ _ e=>V.int.inj e];exact q⟩
 · exact ⟨rfl,by rw [iW (f:=V.str) fun _ _ e=>V.str.inj e];exact q⟩
 · exact ⟨rfl,by rw [iW (f:=V.bl) fun _ _ e=>V.bl.inj e];exact q⟩
 · exact ⟨rfl,by simpa using q⟩
 all_goals first | exact q.elim | exact ⟨rfl,q⟩
def mNe:R2:=fun x y H Q=>match x,y with
 | .int i,.int j=>Q (.bl (!decide (i=j))) H
 | .str i,.str j=>Q (.bl (!decide (i=j))) H
 | .bl i,.bl j=>Q (.bl (!decide (i=j))) H
 | .non,.non=>Q (.bl false) H
 | .non,.int _=>Q (.bl true) H | .int _,.non=>Q (.bl true) H | .non,.bl _=>Q (.bl true) H | .bl _,.non=>Q (.bl true) H | .non,.str _=>Q (.bl true) H | .str _,.non=>Q (.bl true) H
 | .int _,.str _=>Q (.bl true) H | .str _,.int _=>Q (.bl true) H | .bl _,.str _=>Q (.bl true) H | .str _,.bl _=>Q (.bl true) H
 | _,_=>False
theorem oNe:OpR X (compareOp .NotEq) mNe:=Fj.imp fun x y H Q q=>by
 unfold mNe at q
 split at q
 · exact ⟨rfl,by rw [iW (f:=V.int) fun _ _ e=>V.int.inj e];exact q⟩
 · exact ⟨rfl,by rw [iW (f:=V.str) fun _ _ e=>V.str.inj e];exact q⟩
 · exact ⟨rfl,by rw [iW (f:=V.bl) fun _ _ e=>V.bl.inj e];exact q⟩
 · exact ⟨rfl,by simpa using q⟩
 all_goals first | exact q.elim | exact ⟨rfl,q⟩
def xS:R2:=fun x y H Q=>match y with | .non=>Q (.bl (match x with | .non=>true | _=>false)) H | _=>False
theorem oIs:OpR X (compareOp .Is) xS:=Ao.imp fun x y H Q q=>by
 unfold xS at q
 split at q
 · refine ⟨rfl,?_⟩
   cases x <;> simpa using q
 · exact q.elim
def aZ (t:TE):TT:=fun σ H Q=>t σ H fun x H'=>match x with | .bl k=>Q k H' | _=>False
theorem qtc {op:CmpOp} {r:R2} {a b:Expr} {ta tb:TE} {pos:Pos} (ho:OpR X (compareOp op) r) (ha:PE X a ta) (hb:PE X b tb) (hm:behindInMarks op b=false:=by first | exact kZ _ | rfl):PT X (.Compare a [op] [b] pos) (aZ (tOp r ta tb)):=by
 intro pins s σ H Q I h
 refine wpAny_isTrue_Compare1 (thn (ha pins s σ H _ I h) fun v s1 ⟨x,H1,I1,r1,q1⟩=>thn (hb pins s1 σ H1 _ I1 q1) fun u s2 ⟨y,H2,I2,r2,q2⟩=>
  thn (ho pins s2 σ H2 x y v u _ I2 r1 r2 q2) fun c s3 ⟨z,H3,I3,r3,q3⟩=>?_) hm
 cases z <;> first | exact q3.elim | (cases r3;exact wpAny_truthy_bool ⟨H3,I3,q3⟩)
theorem qc {op:CmpOp} {r:R2} {a b:Expr} {ta tb:TE} {pos:Pos} (ho:OpR X (compareOp op) r) (ha:PE X a ta) (hb:PE X b tb) (hm:behindInMarks op b=false:=by first | exact kZ _ | rfl):PE X (.Compare a [op] [b] pos) (tOp r ta tb):=zy ho ha hb hm
def eT (r r':R2) (ta tb tc:TE):TE:=fun σ H Q=>ta σ H fun x H1=>tb σ H1 fun y H2=>r x y H2 fun z H3=>match z with
 | .bl k=>Sel k (tc σ H3 fun w' H4=>r' y w' H4 Q) (Q (.bl false) H3)
 | _=>False
theorem qch {op op':CmpOp} {r r':R2} {a b c:Expr} {ta tb tc:TE} {pos:Pos} (ho:OpR X (compareOp op) r) (ho':OpR X (compareOp op') r') (ha:PE X a ta) (hb:PE X b tb) (hc:PE X c tc)
  (hm:lastMarks [op,op'] [b,c]=false:=by with_unfolding_all rfl):PE X (.Compare a [op,op'] [b,c] pos) (eT r r' ta tb tc):=by
 intro pins s σ H Q I h
 refine Compare_chain (thn (ha pins s σ H _ I h) fun v s1 ⟨x,H1,I1,r1,q1⟩=>chain_link (thn (hb pins s1 σ H1 _ I1 q1) fun u s2 ⟨y,H2,I2,r2,q2⟩=>
  thn (ho pins s2 σ H2 x y v u _ I2 r1 r2 q2) fun d s3 ⟨z,H3,I3,r3,q3⟩=>?_)) hm
 cases z <;> first | exact q3.elim | skip
 rename_i k
 cases r3
 refine wpAny_truthy_bool ?_
 have q3:=dN q3
 cases k with
 | false=>exact ite_ff ⟨.bl false,H3,I3,rfl,q3⟩
 | true=>exact ite_tt (chain_last (thn (hc pins s3 σ H3 _ I3 q3) fun w' s4 ⟨z',H4,I4,r4,q4⟩=>ho' pins s4 σ H4 y z' u w' Q I4 r2 r4 q4))
theorem Ir {op op' : CmpOp} {r r' : R2} {a b c : Expr} {ta tb tc : TE} {pos : Pos} (ho : OpR X (compareOp op) r) (ho' : OpR X (compareOp op') r') (ha : PE X a ta) (hb : PE X b tb) (hc : PE X c tc)
    (hm : lastMarks [op, op'] [b, c] = false := by with_unfolding_all rfl) : PT X (.Compare a [op, op'] [b, c] pos) (aZ (eT r r' ta tb tc)) := by
  intro pins s σ H Q I h
  refine isTrue_chain (thn (ha pins s σ H _ I h) fun v s1 ⟨x, H1, I1, r1, q1⟩ => test_link (thn (hb pins s1 σ H1 _ I1 q1) fun u s2 ⟨y, H2, I2, r2, q2⟩ =>
    thn (ho pins s2 σ H2 x y v u _ I2 r1 r2 q2) fun d s3 ⟨z, H3, I3, r3, q3⟩ => ?_)) hm
  cases z <;> first | exact q3.elim | skip
  rename_i k
  cases r3
  refine wpAny_truthy_bool ?_
  have q3 := dN q3
  cases k with
  | false => exact ite_ff ⟨H3, I3, q3⟩
  | true =>
    refine ite_tt (test_last (thn (hc pins s3 σ H3 _ I3 q3) fun w' s4 ⟨z', H4, I4, r4, q4⟩ => thn (ho' pins s4 σ H4 y z' u w' _ I4 r2 r4 q4) fun d' s5 ⟨z2, H5, I5, r5, q5⟩ => ?_))
    cases z2 <;> first | exact q5.elim | (cases r5; exact wpAny_truthy_bool ⟨H5, I5, q5⟩)
def bM (K:W.Frag) (t:TE):TT:=fun σ H Q=>t σ H fun x H'=>match x with
 | .bl k=>Q k H'
 | .non=>Q false H'
 | .int i=>Q (i !=0) H'
 | x=>∃ k,BF K x H' k∧Q k H'
theorem qtb {e:Expr} {t:TE} (h:PE X e t) (he:∀ whole,isTrue e X.env whole=(do let v←whole;standAt e.pos;holding [v] (truthy v)):=by intro _;rfl):PT X e (bM X.K t):=by
 intro pins s σ H Q I q
 refine isTrue_plain (thn (h pins s σ H _ I q) fun v s1 ⟨x,H1,I1,r1,q1⟩=>DH pins s1 σ H1 x v Q I1 r1 ?_) (he _)
 cases x <;> first | exact ⟨_,rfl,q1⟩ | exact q1
def jz (t u:TT):TT:=fun σ H Q=>t σ H fun c H1=>Sel c (u σ H1 Q) (Q false H1)
def mOr (t u:TT):TT:=fun σ H Q=>t σ H fun c H1=>Sel c (Q true H1) (u σ H1 Q)
variable {a b c:Expr} {ta tb:TE} {tA tB':TT} {bK:List Expr} {pos:Pos}
theorem zV (ha:PT X a tA):PW X (.BoolOp .And [a] pos) tA:=Ai ha
theorem Ca (ha:PT X a tA):PW X (.BoolOp .Or [a] pos) tA:=BN ha
theorem AD (ha:PT X a tA) (hb:PW X (.BoolOp .And (b::bK) pos) tB'):PW X (.BoolOp .And (a::b::bK) pos) (jz tA tB'):=by
 intro wh pins s σ H Q I h
 refine isTrue_and (thn (ha pins s σ H _ I h) fun c s1 ⟨H1,I1,q1⟩=>?_)
 have q1:=dN q1
 cases c with
 | true=>exact hb wh pins s1 σ H1 Q I1 q1
 | false=>exact ⟨H1,I1,q1⟩
theorem DS (ha:PT X a tA) (hb:PW X (.BoolOp .Or (b::bK) pos) tB'):PW X (.BoolOp .Or (a::b::bK) pos) (mOr tA tB'):=by
 intro wh pins s σ H Q I h
 refine isTrue_or (thn (ha pins s σ H _ I h) fun c s1 ⟨H1,I1,q1⟩=>?_)
 have q1:=dN q1
 cases c with
 | true=>exact ⟨H1,I1,q1⟩
 | false=>exact hb wh pins s1 σ H1 Q I1 q1
def cY (ta tb:TE):TE:=fun σ H Q=>ta σ H fun x H1=>match x with | .bl c=>Sel c (tb σ H1 Q) (Q (.bl false) H1) | _=>False
def tw (ta tb:TE):TE:=fun σ H Q=>ta σ H fun x H1=>match x with | .bl c=>Sel c (Q (.bl true) H1) (tb σ H1 Q) | _=>False
def lL (ta:TE):TE:=fun σ H Q=>ta σ H fun x H1=>match x with | .bl c=>Q (.bl (!c)) H1 | _=>False
theorem IH (ha:PE X a ta) (hb:PE X (.BoolOp .And (b::bK) pos) tb):PE X (.BoolOp .And (a::b::bK) pos) (cY ta tb):=by
 intro pins s σ H Q I h
 refine BoolOp_and (thn (ha pins s σ H _ I h) fun v s1 ⟨x,H1,I1,r1,q1⟩=>?_)
 cases x <;> first | exact q1.elim | skip
 rename_i c
 cases r1
 refine wpAny_truthy_bool ?_
 have q1:=dN q1
 cases c with
 | true=>exact hb pins s1 σ H1 Q I1 q1
 | false=>exact ⟨.bl false,H1,I1,rfl,q1⟩
theorem qor (ha:PE X a ta) (hb:PE X (.BoolOp .Or (b::bK) pos) tb):PE X (.BoolOp .Or (a::b::bK) pos) (tw ta tb):=by
 intro pins s σ H Q I h
 refine BoolOp_or (thn (ha pins s σ H _ I h) fun v s1 ⟨x,H1,I1,r1,q1⟩=>?_)
 cases x <;> first | exact q1.elim | skip
 rename_i c
 cases r1
 refine wpAny_truthy_bool ?_
 have q1:=dN q1
 cases c with
 | false=>exact hb pins s1 σ H1 Q I1 q1
 | true=>exact ⟨.bl true,H1,I1,rfl,q1⟩
theorem ED (ha:PE X a ta):PE X (.UnaryOp .Not a pos) (lL ta):=by
 intro pins s σ H Q I h
 refine UnaryOp_ (thn (ha pins s σ H _ I h) fun v s1 ⟨x,H1,I1,r1,q1⟩=>?_)
 cases x <;> first | exact q1.elim | skip
 rename_i c
 cases r1
 exact not_of (wpAny_truthy_bool ⟨.bl (!c),H1,I1,rfl,q1⟩)
def mIf (t:TT) (ta tb:TE):TE:=fun σ H Q=>t σ H fun c H1=>Sel c (ta σ H1 Q) (tb σ H1 Q)
theorem Hu {c:Expr} (hc:PT X c tA) (ha:PE X a ta) (hb:PE X b tb):PE X (.IfExp c a b pos) (mIf tA ta tb):=by
 intro pins s σ H Q I h
 refine wpAny_IfExp (thn (hc pins s σ H _ I h) fun d s1 ⟨H1,I1,q1⟩=>?_)
 have q1:=dN q1
 cases d with
 | true=>exact ha pins s1 σ H1 Q I1 q1
 | false=>exact hb pins s1 σ H1 Q I1 q1
def aV (c:TT) (t u:TS):TS:=fun D σ H=>c σ H fun b H1=>Sel b (t D σ H1) (u D σ H1)
theorem qif {c:Expr} {l m:List Stmt} {tc:TT} {t u:TS} (hc:PT X c tc) (ha:PSs X l t) (hb:PSs X m u):PS X (.If c l m pos) (aV tc t u):=by
 intro pins s σ H D I h
 refine wpAny_If (thn (hc pins s σ H _ I h) fun d s1 ⟨H1,I1,q1⟩=>?_)
 have q1:=dN q1
 cases d with
 | true=>exact ha pins s1 σ H1 D I1 q1
 | false=>exact hb pins s1 σ H1 D I1 q1
theorem Hz:bv X (.builtin "len") (fun xs H Q=>match xs with
   | [.str y]=>y.length≤sizeLine∧Q (.int y.length) H
   | [.ref p]=>(∃ xs,SqL X.K H p xs∧Q (.int xs.length) H)∨(∃ xs,SqT X.K H p xs∧Q (.int xs.length) H)∨∃ kvs,H p=some (.dK kvs)∧Q (.int kvs.length) H
   | _=>False):=by
 intro pins s σ H xs us Q I r h
 split at h
 · rename_i y
   exact kO pins s σ H _ us Q I r ⟨_,_,rfl,⟨h.1,rfl⟩,h.2⟩
 · rename_i p
   rcases h with ⟨ys,h1,h2⟩ | ⟨ys,h1,h2⟩ | ⟨kvs,h1,h2⟩
   · exact kO pins s σ H _ us Q I r ⟨_,_,rfl,.inl ⟨ys,h1,rfl⟩,h2⟩
   · exact kO pins s σ H _ us Q I r ⟨_,_,rfl,.inr ⟨ys,h1,rfl⟩,h2⟩
   · exact tZ pins s σ H _ us Q I r ⟨p,kvs,rfl,h1,h2⟩
 · exact h.elim
end
section
variable {X:Cx} {tg:Expr}
def fg:V→Hp→VK→Prop:=fun x H Q=>match x with | .int i=>Q (.int (-i)) H | _=>False
theorem HX:UnR X (unaryOp .USub) fg:=fun pins s σ H x v Q I rx q=>Au pins s σ H x v Q I rx (by
 unfold fg at q
 split at q
 · exact ⟨_,rfl,q⟩
 · exact q.elim)
def BA (K:W.Frag):List V→Hp→VK→Prop:=fun xs H Q=>match xs with
 | [.str y]=>y.length≤sizeLine∧Q (.int y.length) H
 | [.ref p]=>(∃ xs,SqL K H p xs∧Q (.int xs.length) H)∨(∃ xs,SqT K H p xs∧Q (.int xs.length) H)∨∃ kvs,H p=some (.dK kvs)∧Q (.int kvs.length) H
 | _=>False
theorem Io:bv X (.builtin "len") (BA X.K):=Hz
def dS:List V→Hp→VK→Prop:=fun xs H Q=>match xs with
 | [x,.ty T]=>T∈["int", "bool", "str", "tuple", "list", "dict"]∧∃ t,tyN H x=some t∧Q (.bl (isI t T)) H
 | _=>False
theorem eP:bv X (.builtin "isinstance") dS:=fun pins s σ H xs us Q I r h=>by
 unfold dS at h
 split at h
 · obtain ⟨h1,t,h2,h3⟩:=h
   exact vH pins s σ H _ us Q I r ⟨_,_,t,rfl,h1,h2,h3⟩
 · exact h.elim
def wD:List V→Hp→VK→Prop:=fun xs H Q=>∃ (a:Addr) (bs:List Bool),xs=[.ref a]∧H a=some (.lst (bs.map V.bl))∧Q (.bl (bs.all id)) H
theorem Bo (hc:X.calm=true):bv X (.builtin "all") wD:=vE hc
def yA (K:W.Frag):List V→Hp→VK→Prop:=fun xs H Q=>∃ p ys,xs=[.ref p]∧(SqL K H p ys∨SqT K H p ys)∧∀ l,H l=none→Q (.ref l) (upd H l (.lst ys))
theorem Es:bv X (.type "list") (yA X.K):=qp
def qr (K:W.Frag):List V→Hp→VK→Prop:=fun xs H Q=>∃ p ys,xs=[.ref p]∧((SqL K H p ys∧∀ l,H l=none→Q (.ref l) (upd H l (.tup ys)))∨(SqT K H p ys∧Q (.ref p) H))
theorem uI:bv X (.type "tuple") (qr X.K):=nN
def mI:List V→Hp→VK→Prop:=fun xs H Q=>match xs with
 | [.int i]=>i.natAbs.log2<1920∧Q (.str (toString i)) H
 | _=>False
theorem tM:bv X (.type "str") mI:=fun pins s σ H xs us Q I r h=>by
 unfold mI at h
 split at h
 · exact pZ pins s σ H _ us Q I r ⟨_,rfl,h.1,h.2⟩
 · exact h.elim
end
theorem uY:bootBuiltins "all" =some (.builtin "all"):=by decide +kernel
structure cS (J:It) (n:Nat) (it:Nat→V) (Pv:Hp→Prop):Prop where
 go:∀ i H,i<n→Pv H→J.go i H
 yld:∀ i H x H',i<n→Pv H→J.yld i H x H'→H'=H∧x=it i
 stop:∀ H,Pv H→J.stop n H
theorem cS.tuple {K:W.Frag} {a:Addr} {xs:List V} (d:V):cS (Itt K a) xs.length (fun i=>xs.getD i d) (fun H=>SqT K H a xs) where
 go:=fun i H hi h=>⟨xs,xs[i],h,by simp [hi]⟩
 yld:=fun i H x H' hi h y=>⟨y.1,by have:=y.2 xs h;rw [List.getD_eq_getElem?_getD,this];rfl⟩
 stop:=fun H h=>⟨xs,h,Nat.le_refl _⟩
theorem cS.range {lo:Int} {n:Nat}:cS (Itr lo n) n (fun i=> .int (lo+i)) (fun _=>True) where
 go:=fun i H hi _=>hi
 yld:=fun i H x H' hi _ y=>y
 stop:=fun H _=>Nat.le_refl _
def CWd (n:Nat) (Pv:Nat→List V→Hp→Prop):Nat→Nat→List V→Hp→Prop:=fun i m ys H=>i≤n∧m=n - i∧Pv i ys H
theorem CWd.next {n i:Nat} {Pv:Nat→List V→Hp→Prop} {ys:List V} {H:Hp} (hi:i<n) (h:Pv (i+1) ys H):∃ m',m'<n - i∧CWd n Pv (i+1) m' ys H:=⟨n - (i+1),by omega,hi,rfl,h⟩
theorem dQ {J : It} {n : Nat} {it : Nat → V} {Pk : Hp → Prop} {σ : St} {is : List Nat} {tc : TT} {te : TE} {Q : VK} {H1 : Hp} {D : Addr} (T : cS J n it Pk) (Pv : Nat → List V → Hp → Prop)
   (hk : ∀ i ys H, i ≤ n → Pv i ys H → Pk H) (h0 : Pv 0 [] (upd H1 D (.lst [])))
   (hs : ∀ i ys H2, i < n → Pv i ys H2 → tc (some (it i) :: bE σ is) H2 fun b H4 => if b = true then
    te (some (it i) :: bE σ is) H4 fun y H5 => H5 D = some (.lst ys) ∧ ys.length < sizeLine ∧ ∃ m', m' < n - i ∧ CWd n Pv (i + 1) m' (ys ++ [y]) (upd H5 D (.lst (ys ++ [y])))
    else ∃ m', m' < n - i ∧ CWd n Pv (i + 1) m' ys H4)
   (hd : ∀ ys H, Pv n ys H → Q (.ref D) H) : yp is tc te σ D J H1 Q := by
 refine ⟨CWd n Pv, ⟨n, Nat.zero_le _, rfl, h0⟩, ?_⟩
 rintro i m ys H2 ⟨hi, rfl, p⟩
 by_cases hlt : i < n
 · refine .inr ⟨T.go i H2 hlt (hk i ys H2 hi p), fun x H3 y => ?_⟩
   obtain ⟨rfl, rfl⟩ := T.yld i H2 x H3 hlt (hk i ys H2 hi p) y
   exact hs i ys _ hlt p
 · have e : i = n := by omega
   subst e
   exact .inl ⟨T.stop H2 (hk _ ys H2 hi p), hd ys H2 p⟩
theorem aq.upd {H:Hp} {p:Addr} {o:HO} (h:H p=none):aq H (upd H p o):=fun b u e=>by rw [ao (aw e h)];exact e
theorem qx {xs:List V} {i:Int} (h0:0≤i) (h1:i<xs.length):atI xs i=some (xs.getD i.toNat .non):=by
 unfold atI ixN
 rw [if_pos h0,if_pos h1]
 show xs[i.toNat]?=_
 rw [List.getD_eq_getElem?_getD]
 have:i.toNat<xs.length:=by omega
 rw [List.getElem?_eq_getElem this];rfl
def bz:Expr→Bool
 | .Starred _ _=>false
 | _=>true
theorem aP {e:Expr} (h:bz e=true) (bK:List Expr) (env:Env):starEach (e::bK) env=(false,eval e env)::starEach bK env:=by
 cases e <;> first | rfl | cases h
def aX:List Expr→Bool
 | []=>true
 | e::r=>bz e&&aX r
theorem bI : ∀ {es : List Expr} {env : Env} {pos : Pos}, aX es = true → (backTo pos (starEach es env)).any (·.1) = false
  | [], _, _, _ => rfl
  | e :: r, env, pos, h => by
    have h : (bz e && aX r) = true := h
    rw [Bool.and_eq_true] at h
    rw [aP h.1]
    show (false || (backTo pos (starEach r env)).any (·.1)) = false
    rw [bI h.2]; rfl
section
variable {X:Cx} {e:Expr} {es:List Expr} {te:TE} {t:TA} {pos:Pos}
theorem zu (ha:PE X e te) (hr:PA X es t) (hs:bz e=true:=by rfl):PA X (e::es) (ae te t):=zA ha hr (aP hs es X.env)
variable {x:Str} {p apos cpos:Pos} {id T:String} {r:List V→Hp→VK→Prop}
theorem zk (hc:bv X (.builtin id) r) (hg:Gl X x) (hm:X.mg x=none) (hv:bootBuiltins x=some (.builtin id)) (ha:PA X (e::es) t) (hn:x≠ "__name__" :=by decide) (hdb:(x==("__debug__" :Str))=false:=by decide)
  (hs:aX (e::es)=true:=by rfl):PE X (.Call (.Name x p) (e::es) [] pos) (tCB r t):=
 have h:(bz e&&aX es)=true:=hs
 wn hc hg hm hv ha hn hdb (aP (Bool.and_eq_true_iff.mp h).1 es X.env) (bI (Bool.and_eq_true_iff.mp h).2)
theorem xU (hc:bv X (.type T) r) (hg:Gl X x) (hm:X.mg x=none) (hv:bootBuiltins x=some (.type T)) (ha:PA X (e::es) t) (hn:x≠ "__name__" :=by decide) (hdb:(x==("__debug__" :Str))=false:=by decide)
  (hs:aX (e::es)=true:=by rfl):PE X (.Call (.Name x p) (e::es) [] pos) (tCB r t):=
 have h:(bz e&&aX es)=true:=hs
 uM hc hg hm hv ha hn hdb (aP (Bool.and_eq_true_iff.mp h).1 es X.env) (bI (Bool.and_eq_true_iff.mp h).2)
variable {CX:CXT} {k:Nat} {f C:Addr} {fd:FuncData} {ps:List Str} {sp:Sp} {dvs:List V} {ds:List Value} {E:XK} {m:Str} {o:Expr} {ta:TE}
theorem kj : ∀ {es : List Expr} {env : Env} {pos : Pos}, aX es = true → (backTo pos (starEach es env)).all (fun x => !x.1) = true
  | [], _, _, _ => rfl
  | e :: r, env, pos, h => by
    have h : (bz e && aX r) = true := h
    rw [Bool.and_eq_true] at h
    rw [aP h.1]
    show (true && (backTo pos (starEach r env)).all (fun x => !x.1)) = true
    rw [kj h.2]; rfl
variable {to:TE} {name:Str} {rm:V→List V→Hp→VK→Prop}
theorem Hw (pa:PlainAttrs T) (slot:Slot T name id) (hty:typeOf (.builtin id)=pure (.type "method_descriptor")) (hm:MtR X id rm) (ho:PE X o to) (ha:PA X (e::es) t)
  (hbase:attributeBase o name X.env (eval o X.env)=eval o X.env:=by rfl) (hfew:decide ((e::es).length<30)=true:=by rfl)
  (hline:(apos.endLine==cpos.line)=true:=by rfl) (hs:aX (e::es)=true:=by rfl):PE X (.Call (.Attribute o name apos) (e::es) [] cpos) (tBM X.K T rm to t):=
 have h:(bz e&&aX es)=true:=hs
 GJ pa slot hty hm ho ha hbase (by rw [kj hs];exact hfew) hline (aP (Bool.and_eq_true_iff.mp h).1 es X.env) (bI (Bool.and_eq_true_iff.mp h).2)
end
structure QE (X:Cx) (e:Expr) (t:TE):Prop where
 out:PE X e t
structure QT (X:Cx) (e:Expr) (t:TT):Prop where
 out:PT X e t
structure QW (X:Cx) (e:Expr) (t:TT):Prop where
 out:PW X e t
structure QA (X:Cx) (e:List Expr) (t:TA):Prop where
 out:PA X e t
structure QS (X:Cx) (e:Stmt) (t:TS):Prop where
 out:PS X e t
structure QSs (X:Cx) (e:List Stmt) (t:TS):Prop where
 out:PSs X e t
structure QI (X:Cx) (tg iter:Expr) (t:TI):Prop where
 out:PI X tg iter t
structure QO (X:Cx) (e:Option Expr) (t:TO):Prop where
 out:PO X e t
structure xl (X:Cx) (e:List Expr) (t:TT):Prop where
 out:tD X e t
section
variable {X:Cx} {a b c e o:Expr} {es bK:List Expr} {ta tb tc te to tv:TE} {tA tB':TT} {t:TA} {pos apos cpos p:Pos} {x y:Str}
theorem ac (i:Nat) (hN:X.N[i]?=some x:=by rfl) (hv:Vis X.env.scope x:=by first | exact Or.inl rfl | exact Or.inr (Or.inl rfl) | exact Or.inr (Or.inr rfl)) (hd:(x==("__debug__" :Str))=false:=by decide)
 (hcd:(x==("__classdict__" :Str))=false:=by decide):QE X (.Name x pos) (af i):=⟨qv i hN hv hd hcd⟩
theorem HB {i:Int} (hm:∃ t,X.mg x=some (.int i t)) (hg:Gl X x:=by rfl) (hd:(x==("__debug__" :Str))=false:=by decide):QE X (.Name x pos) (tC (.int i)):=⟨qgi hm hg hd⟩
theorem eD {T:String} (hm:X.mg x=none) (hv:bootBuiltins x=some (.type T)) (hg:Gl X x:=by rfl) (hn:x≠ "__name__" :=by decide) (hd:(x==("__debug__" :Str))=false:=by decide):QE X (.Name x pos) (tC (.ty T)):=⟨zS hg hm hv rfl hn hd⟩
theorem ak {i:Int} {j}:QE X (.Constant (.int i) j pos) (tC (.int i)):=⟨Dr⟩
theorem dm {b:Bool} {j}:QE X (.Constant (.bool b) j pos) (tC (.bl b)):=⟨DR⟩
theorem iG {j}:QE X (.Constant .none j pos) (tC .non):=⟨Ds⟩
theorem cB {z:Str} {j}:QE X (.Constant (.str z) j pos) (tC (.str z)):=⟨AQ⟩
theorem fD (ha:QE X a ta):QE X (.UnaryOp .USub a pos) (tUn fg ta):=⟨Ff HX ha.out⟩
theorem sS (ha:QE X a ta):QE X (.UnaryOp .Not a pos) (lL ta):=⟨ED ha.out⟩
theorem ar {op:Operator} {r:R2} (ho:OpR X (binaryOp op) r) (ha:QE X a ta) (hb:QE X b tb):QE X (.BinOp a op b pos) (tOp r ta tb):=⟨Fk ho ha.out hb.out⟩
theorem er {op:CmpOp} {r:R2} (ho:OpR X (compareOp op) r) (ha:QE X a ta) (hb:QE X b tb) (hm:behindInMarks op b=false:=by first | exact kZ _ | rfl):QE X (.Compare a [op] [b] pos) (tOp r ta tb):=⟨qc ho ha.out hb.out hm⟩
theorem kg {op op':CmpOp} {r r':R2} (ho:OpR X (compareOp op) r) (ho':OpR X (compareOp op') r') (ha:QE X a ta) (hb:QE X b tb) (hc:QE X c tc) (hm:lastMarks [op,op'] [b,c]=false:=by with_unfolding_all rfl):
 QE X (.Compare a [op,op'] [b,c] pos) (eT r r' ta tb tc):=⟨qch ho ho' ha.out hb.out hc.out hm⟩
theorem dM {op} (h:QE X a ta):QE X (.BoolOp op [a] pos) ta:=⟨AM h.out⟩
theorem dh (ha:QE X a ta) (hb:QE X (.BoolOp .And (b::bK) pos) tb):QE X (.BoolOp .And (a::b::bK) pos) (cY ta tb):=⟨IH ha.out hb.out⟩
theorem Cz (ha:QE X a ta) (hb:QE X (.BoolOp .Or (b::bK) pos) tb):QE X (.BoolOp .Or (a::b::bK) pos) (tw ta tb):=⟨qor ha.out hb.out⟩
theorem HZ (hc:QT X c tA) (ha:QE X a ta) (hb:QE X b tb):QE X (.IfExp c a b pos) (mIf tA ta tb):=⟨Hu hc.out ha.out hb.out⟩
theorem ag:QA X [] aj:=⟨AI⟩
theorem aa (ha:QE X e te) (hr:QA X es t) (hs:bz e=true:=by rfl):QA X (e::es) (ae te t):=⟨zu ha.out hr.out hs⟩
theorem bZ (h:QA X es t):QE X (.List es pos) (cF t):=⟨Dv h.out⟩
theorem be {x1} (h:QA X es t):QE X (.Tuple es x1 pos) (bn t):=⟨By h.out⟩
theorem bf {r:R2} (hr:IxR X r) (ha:QE X a ta) (hb:QE X b tb) (hs:rG b):QE X (.Subscript a b pos) (tOp r ta tb):=⟨Ft hr ha.out hb.out hs⟩
theorem jO:QO X none fS:=⟨zF⟩
theorem kf (h:QE X e te):QO X (some e) (jZ te):=⟨zr h.out⟩
theorem jH {r:V→Option Int→Option Int→Hp→VK→Prop} {lo hi:Option Expr} {tl th:TO} {p2:Pos} (hr:SlR X r) (he:QE X e te) (hl:QO X lo tl) (hu:QO X hi th):QE X (.Subscript e (.Slice lo hi none p2) pos) (tSl r te tl th):=⟨wl hr he.out hl.out hu.out⟩
variable {id T:String} {r:List V→Hp→VK→Prop}
theorem aE (hc:bv X (.builtin id) r) (hm:X.mg x=none) (hv:bootBuiltins x=some (.builtin id)) (ha:QA X (e::es) t) (hg:Gl X x:=by rfl) (hn:x≠ "__name__" :=by decide) (hdb:(x==("__debug__" :Str))=false:=by decide)
 (hs:aX (e::es)=true:=by rfl):QE X (.Call (.Name x p) (e::es) [] pos) (tCB r t):=⟨zk hc hg hm hv ha.out hn hdb hs⟩
theorem dF (hc:bv X (.type T) r) (hm:X.mg x=none) (hv:bootBuiltins x=some (.type T)) (ha:QA X (e::es) t) (hg:Gl X x:=by rfl) (hn:x≠ "__name__" :=by decide) (hdb:(x==("__debug__" :Str))=false:=by decide)
 (hs:aX (e::es)=true:=by rfl):QE X (.Call (.Name x p) (e::es) [] pos) (tCB r t):=⟨xU hc hg hm hv ha.out hn hdb hs⟩
variable {CX:CXT} {k:Nat} {f C:Addr} {fd:FuncData} {ps:List Str} {sp:Sp} {dvs:List V} {ds:List Value} {E:XK} {m:Str}
variable {name:Str} {rm:V→List V→Hp→VK→Prop}
theorem ft (pa:PlainAttrs T) (slot:Slot T name id) (hty:typeOf (.builtin id)=pure (.type "method_descriptor")) (hm:MtR X id rm) (ho:QE X o to) (ha:QA X (e::es) t)
 (hbase:attributeBase o name X.env (eval o X.env)=eval o X.env:=by rfl) (hfew:decide ((e::es).length<30)=true:=by rfl)
 (hline:(apos.endLine==cpos.line)=true:=by rfl) (hs:aX (e::es)=true:=by rfl):QE X (.Call (.Attribute o name apos) (e::es) [] cpos) (tBM X.K T rm to t):=⟨Hw pa slot hty hm ho.out ha.out hbase hfew hline hs⟩
theorem aW {op:CmpOp} {r:R2} (ho:OpR X (compareOp op) r) (ha:QE X a ta) (hb:QE X b tb) (hm:behindInMarks op b=false:=by first | exact kZ _ | rfl):QT X (.Compare a [op] [b] pos) (aZ (tOp r ta tb)):=⟨qtc ho ha.out hb.out hm⟩
theorem wW {op op':CmpOp} {r r':R2} (ho:OpR X (compareOp op) r) (ho':OpR X (compareOp op') r') (ha:QE X a ta) (hb:QE X b tb) (hc:QE X c tc) (hm:lastMarks [op,op'] [b,c]=false:=by with_unfolding_all rfl):
 QT X (.Compare a [op,op'] [b,c] pos) (aZ (eT r r' ta tb tc)):=⟨Ir ho ho' ha.out hb.out hc.out hm⟩
theorem bp (h:QE X e te) (he:∀ whole,isTrue e X.env whole=(do let v←whole;standAt e.pos;holding [v] (truthy v)):=by intro _;rfl):QT X e (bM X.K te):=⟨qtb h.out he⟩
theorem bQ (ha:QT X a tA):QT X (.UnaryOp .Not a pos) (cI tA):=⟨CQ ha.out⟩
theorem x_w (h:QW X e tA):QT X e tA:=⟨h.out.pt⟩
theorem jP (ha:QT X a tA):QW X (.BoolOp .And [a] pos) tA:=⟨zV ha.out⟩
theorem lO (ha:QT X a tA):QW X (.BoolOp .Or [a] pos) tA:=⟨Ca ha.out⟩
theorem ju (ha:QT X a tA) (hb:QW X (.BoolOp .And (b::bK) pos) tB'):QW X (.BoolOp .And (a::b::bK) pos) (jz tA tB'):=⟨AD ha.out hb.out⟩
theorem om (ha:QT X a tA) (hb:QW X (.BoolOp .Or (b::bK) pos) tB'):QW X (.BoolOp .Or (a::b::bK) pos) (mOr tA tB'):=⟨DS ha.out hb.out⟩
variable {tg iter elt:Expr} {wi:TI} {ifs:List Expr} {scope:Scope} {ys:List Str} {is:List Nat} {px py spos:Pos}
theorem fq (hm:X.mg "range" =none) (ha:QA X [a] t) (hg:Gl X "range" :=by rfl) (hs:bz a=true:=by rfl):QI X tg (.Call (.Name "range" p) [a] [] pos) (gp t):=⟨um hg hm ha.out (aP hs [] X.env)⟩
theorem iN (hm:X.mg "range" =none) (ha:QA X [a,b] t) (hg:Gl X "range" :=by rfl) (hs:bz a=true:=by rfl) (hs2:bz b=true:=by rfl):QI X tg (.Call (.Name "range" p) [a,b] [] pos) (jU t):=
 ⟨uV hg hm ha.out (by rw [aP hs,aP hs2];rfl) (aP hs2 [] X.env)⟩
theorem eS:xl X [] (fun _ H Q=>Q true H):=⟨rfl⟩
theorem gY {tcn:TT} (S:eI scope x ys) (hcap:fI X scope ys is) (hi:QI X (.Name x px) iter wi)
 (hif:∀ C s H fp,xl (bq X scope C (x::ys) s H fp) ifs tcn) (he:∀ C s H fp,QE (bq X scope C (x::ys) s H fp) elt te) (hc:X.calm=true:=by rfl)
 (hs:∀ x,foldedSetIterable iter X.env x=pure x:=by intro _;rfl):QE X (.ListComp elt [⟨.Name x px,iter,ifs,0⟩] scope pos) (dJ is wi tcn te):=⟨Ac hc S hcap hi.out (fun C s H fp=>(hif C s H fp).out) (fun C s H fp=>(he C s H fp).out) hs⟩
variable {st:Stmt} {sts:List Stmt} {tS uS:TS} {i j:Nat}
theorem aN:QSs X [] aT:=⟨zO⟩
theorem ap (h:QS X st tS):QSs X [st] tS:=⟨zC h.out⟩
theorem am (h1:QS X st tS) (h2:QSs X sts uS):QSs X (st::sts) (ax tS uS):=⟨wY h1.out h2.out⟩
theorem aB (h:QE X e te):QS X (.Return (some e) pos) (aG te):=⟨CY h.out⟩
theorem aQ {l m:List Stmt} (hc:QT X c tA) (ha:QSs X l tS) (hb:QSs X m uS):QS X (.If c l m pos) (aV tA tS uS):=⟨qif hc.out ha.out hb.out⟩
theorem aA (i:Nat) (hN:X.N.Nodup) (he:QE X e te) (hi:X.N[i]?=some x:=by rfl) (hx:Loc X.env.scope x:=by first | exact .inl rfl | exact .inr rfl)
 (hs:swapsWith e (some (.Name x p)) pos.line X.env=pure false:=by rfl) (hf:X.fn x=true∨X.env.scope.names.lookup x=some .local:=by first | exact .inl rfl | exact .inr rfl):QS X (.Assign [.Name x p] e pos) (aC te (au i)):=⟨Bw hN hi hx he.out hs hf⟩
theorem jy (j:Nat) {tcn:TT} (hN:X.N.Nodup) (S:eI scope x ys) (hcap:fI X scope ys is) (hi:QI X (.Name x px) iter wi)
  (hif:∀ C s H fp,xl (bq X scope C (x::ys) s H fp) ifs tcn) (he:∀ C s H fp,QE (bq X scope C (x::ys) s H fp) elt te) (hc:X.calm=true:=by rfl)
  (hj:X.N[j]?=some y:=by rfl) (hy:Loc X.env.scope y:=by first | exact .inl rfl | exact .inr rfl)
  (hsw:swapsWith (.ListComp elt [⟨.Name x px,iter,ifs,0⟩] scope pos) (some (.Name y py)) spos.line X.env=pure true:=by rfl) (hf:X.fn y=true∨X.env.scope.names.lookup y=some .local:=by first | exact .inl rfl | exact .inr rfl)
  (hs:∀ x,foldedSetIterable iter X.env x=pure x:=by intro _;rfl):QS X (.Assign [.Name y py] (.ListComp elt [⟨.Name x px,iter,ifs,0⟩] scope pos) spos) (aC (dJ is wi tcn te) (au j)):=
 ⟨sw hN hj hy hc S hcap hi.out (fun C s H fp=>(hif C s H fp).out) (fun C s H fp=>(he C s H fp).out) hsw hf hs⟩
theorem cn (h:QE X e te) (hs:swapsWith e none pos.line X.env=pure false:=by rfl):QS X (.Expr e pos) (cx te):=⟨zN h.out hs⟩
theorem ir (i:Nat) (hN:X.N.Nodup) {body:List Stmt} (hi:QI X (.Name x px) iter wi) (hb:QSs X body tS) (hp:PassesOwn (model X.prog X.w) X.A X.env X.xe) (hc:X.calm=true:=by rfl)
 (hj:X.N[i]?=some x:=by rfl) (hx:Loc X.env.scope x:=by first | exact .inl rfl | exact .inr rfl) (hf:X.fn x=true∨X.env.scope.names.lookup x=some .local:=by first | exact .inl rfl | exact .inr rfl)
 (hs:∀ x,foldedSetIterable iter X.env x=pure x:=by intro _;rfl):QS X (.For (.Name x px) iter body [] pos) (fJ wi (au i) tS):=⟨vb hp hc hi.out (ij hN hj hx hf) hb.out hs⟩
theorem mv {body:List Stmt} (hc:QT X c tA) (hb:QSs X body tS) (hp:PassesOwn (model X.prog X.w) X.A X.env X.xe):QS X (.While c body [] pos) (jq tA tS):=⟨vY hp hc.out hb.out⟩
theorem rq:QS X st lT:=⟨wN⟩
end
end L2
namespace HT
open PySem PyProof.Rows
structure Hd0 (vs:Array Value) (a0:Value):Prop where
 a:vs[0]?=some a0
 b:vs[2]?=some .none
structure TrD (h base:Heap) (e:Addr) (cls a0:Value) (d:Option Addr) (fl:Value):Prop where
 ex:∃ oe vs T oT ts,h.get? e=some oe∧oe.cls=cls∧oe.dict=d∧oe.data=.fields vs∧Hd0 vs a0∧vs[1]?=some (.ref T)∧base.get? T=none∧T≠e∧h.get? T=some oT∧oT.data=.fields ts∧ts[3]?=some fl
structure kr (base:Heap) (l:List Env) (e:Addr) (cls a0:Value) (d:Option Addr) (fl:Value) (h h':Heap):Prop where
 st:base.StaysIn h'
 fr:h'.FunFrames base l
 tr:TrD h' base e cls a0 d fl
 up:h.UpToSlots h'
theorem mm (o:Obj) (f:Array Value→Array Value):(Obj.mapFields f o).dict=o.dict:=by
 obtain ⟨c,d,dt,sl⟩:=o
 cases dt <;> rfl
section
variable {M:Model} {A:Around} {E:Value→Shared→Prop} {s:Shared} {base:Heap} {env:Env} {outer:List Env} {L e:Addr} {cls a0:Value} {d:Option Addr} {Q:Unit→Shared→Prop}
theorem vy {oe:Obj} {vs:Array Value} {head:Value} {hadNext:Bool} (hfr:A.frames=some (env::outer)) (hl:s.heap.FunFrames base (env::outer)) (hf:env.frame=some L) (he:s.heap.get? e=some oe) (hc:oe.cls=cls) (hdc:oe.dict=d)
   (hkb:base.StaysIn s.heap) (hen:base.get? e=none) (hd:oe.data=.fields vs) (hsz:1<vs.size) (h0:Hd0 vs a0) (h:∀ h',kr base (env::outer) e cls a0 d (rawInt L) s.heap h'→Q () { s with heap:=h' }):
   wpAny M A (do let a←frameOf env;let pl←entryPlaceOf L hadNext;let b←EntryCells.newEntry head a .none (rawInt L) .none pl;setField (.ref e) 1 b) Q E s:=by
 have nfr:e∉(env::outer).filterMap (·.frame):=fun hm=>by
   obtain ⟨_,o,ho,hnf⟩:=hl.mem hm
   rw [he] at ho
   cases ho
   exact hnf vs hd
 refine wpAny_bind (wpAny_frameOf_fun hfr hl hf fun h1 s1=>wpAny_bind (wpAny_entryPlaceOf fun pl hpl=>?_))
 unfold EntryCells.newEntry newFields
 refine wpAny_bind (wpAny_newObj_type ?_ (hpl.sizeOk5 _ _ _ _ _))
 generalize hts:([head,Value.ref L,.none,rawInt L,.none]++(if pl.isEmpty then List.replicate 6 Value.none else pl)).toArray=ts
 have hts3:ts[3]?=some (rawInt L):=by rw [← hts];first | (simp;done) | (rcases hpl with rfl | ⟨_,_,_,_,_,_,_,rfl⟩ <;> simp)
 have e1:h1.get? e=some oe:=(s1.2.1 e nfr).trans he
 have kb1:base.StaysIn h1:=fun b o hbo=>(s1.2.1 b fun hm=>by rw [(hl.mem hm).1] at hbo;cases hbo).trans (hkb b o hbo)
 have e2:(h1.push { cls:=.type "traceback",dict:=none,data:=.fields ts }).get? e=some oe:=Heap.get?_push_of_some _ e1
 have nT:h1.objs.size≠e:=Nat.ne_of_gt (Heap.lt_size e1)
 refine wpAny_setField e2 hd hsz (h _ ?_)
 have d3:=Obj.data_mapFields hd (·.setIfInBounds 1 (Value.ref h1.objs.size))
 have e3:=Heap.get?_update_self (Obj.mapFields (·.setIfInBounds 1 (Value.ref h1.objs.size))) e2 (Obj.isFreed_of_fields d3)
 have kp:∀ b o,b≠e→h1.get? b=some o→((h1.push { cls:=.type "traceback",dict:=none,data:=.fields ts }).update e (Obj.mapFields (·.setIfInBounds 1 (Value.ref h1.objs.size)))).get? b=some o:=fun b o nb eb=>
   (Heap.get?_update_other _ _ (Ne.symm nb)).trans (Heap.get?_push_of_some _ eb)
 have T3:=(Heap.get?_update_other (h1.push { cls:=.type "traceback",dict:=none,data:=.fields ts }) (Obj.mapFields (·.setIfInBounds 1 (Value.ref h1.objs.size))) (Ne.symm nT)).trans (Heap.get?_push_size h1 rfl)
 have nr:∀ b o,s.heap.get? b=some o→(∀ vs,o.data≠ .fields vs)→b≠e:=fun b o hb hnf q=>by
   rw [q,he] at hb
   cases hb
   exact hnf vs hd
 refine ⟨fun b o hbo=>kp b o (fun q=>by rw [q,hen] at hbo;cases hbo) (kb1 b o hbo),hl.of_keeps fun b o hb hnf=>?_,⟨_,_,h1.objs.size,_,ts,e3,(Obj.cls_mapFields ..).trans hc,(mm ..).trans hdc,d3,?_,by simp [hsz],kb1.fresh,nT,T3,rfl,hts3⟩,fun b o hb hnf=>?_⟩
 · obtain ⟨sl,hs⟩:=s1.2.2 b o hb
   exact ⟨_,kp b _ (nr b o hb hnf) hs,rfl⟩
 · exact ⟨by rw [Array.getElem?_setIfInBounds_ne (by decide)];exact h0.a,by rw [Array.getElem?_setIfInBounds_ne (by decide)];exact h0.b⟩
 · obtain ⟨sl,hs⟩:=s1.2.2 b o hb
   exact ⟨sl,kp b _ (nr b o hb hnf) hs⟩
theorem qB {oe:Obj} {vs:Array Value} (hfr:A.frames=some (env::outer)) (hl:s.heap.FunFrames base (env::outer)) (hf:env.frame=some L) (he:s.heap.get? e=some oe) (hc:oe.cls=cls) (hdc:oe.dict=d) (hkb:base.StaysIn s.heap) (hen:base.get? e=none)
  (hd:oe.data=.fields vs) (h1:vs[1]?=some .none) (h0:Hd0 vs a0) (h:∀ h',kr base (env::outer) e cls a0 d (rawInt L) s.heap h'→Q () { s with heap:=h' }):wpAny M A (noteFrame (.ref e) env) Q E s:=by
 unfold noteFrame
 simp only [hf]
 refine wpAny_bind (wpAny_field he hd h1 ?_)
 rw [if_neg (by decide)]
 exact vy hfr hl hf he hc hdc hkb hen hd (Array.getElem?_eq_some_iff.mp h1).1 h0 h
theorem Ax {fl fl':Value} {T:Addr} {oT:Obj} {ts:Array Value} {l:List Env} {oe:Obj} {vs:Array Value} (hkb:base.StaysIn s.heap) (hl:s.heap.FunFrames base l) (he:s.heap.get? e=some oe) (hc:oe.cls=cls) (hdc:oe.dict=d) (hd:oe.data=.fields vs) (h0:Hd0 vs a0)
  (h1:vs[1]?=some (.ref T)) (nT:base.get? T=none) (Te:T≠e) (hT:s.heap.get? T=some oT) (hdT:oT.data=.fields ts) (h3:ts[3]?=some fl) (h:∀ h',kr base l e cls a0 d fl' s.heap h'→(h'.get? e=some oe)→Q () { s with heap:=h' }):wpAny M A (setField (.ref T) 3 fl') Q E s:=by
 have sz:=(Array.getElem?_eq_some_iff.mp h3).1
 have ot:∀ b,b≠T→(s.heap.update T (Obj.mapFields (·.setIfInBounds 3 fl'))).get? b=s.heap.get? b:=fun b hb=>Heap.get?_update_other _ _ (Ne.symm hb)
 have nr:∀ b o,s.heap.get? b=some o→(∀ vs,o.data≠ .fields vs)→b≠T:=fun b o hb hnf q=>by
  rw [q,hT] at hb
  cases hb
  exact hnf ts hdT
 refine wpAny_setField hT hdT sz (h _ ⟨fun b o hbo=>(ot b fun q=>by rw [q,nT] at hbo;cases hbo).trans (hkb b o hbo),hl.of_keeps fun b o hb hnf=>⟨o,(ot b (nr b o hb hnf)).trans hb,rfl⟩,
  ⟨oe,vs,T,_,_,(ot e (Ne.symm Te)).trans he,hc,hdc,hd,h0,h1,nT,Te,Heap.get?_update_self _ hT (Obj.isFreed_of_fields (Obj.data_mapFields hdT _)),Obj.data_mapFields hdT _,by simp [sz]⟩,fun b o hb hnf=>⟨o.slots,(ot b (nr b o hb hnf)).trans hb⟩⟩ ((ot e (Ne.symm Te)).trans he))
theorem jQ {fl:Value} {l:List Env} (hkb:base.StaysIn s.heap) (hl:s.heap.FunFrames base l) (ht:TrD s.heap base e cls a0 d fl) (h:∀ h',kr base l e cls a0 d .none s.heap h'→Q () { s with heap:=h' }):wpAny M A (setFlight (.ref e) none) Q E s:=by
 obtain ⟨oe,vs,T,oT,ts,he,hc,hdc,hd,h0,h1,nT,Te,hT,hdT,h3⟩:=ht.ex
 unfold setFlight
 refine wpAny_bind (wpAny_field he hd h1 ?_)
 rw [if_pos (show (Value.ref T !=Value.none)=true from by simp)]
 exact Ax hkb hl he hc hdc hd h0 h1 nT Te hT hdT h3 fun h' n _=>h h' n
theorem lA (hfr:A.frames=some (env::outer)) (hl:s.heap.FunFrames base (env::outer)) (hf:env.frame=some L) (ht:TrD s.heap base e cls a0 d .none) (hkb:base.StaysIn s.heap) (hen:base.get? e=none)
  (h:∀ h',kr base (env::outer) e cls a0 d (rawInt L) s.heap h'→Q () { s with heap:=h' }):wpAny M A (noteFrame (.ref e) env) Q E s:=by
 obtain ⟨oe,vs,T,oT,ts,he,hc,hdc,hd,h0,h1,nT,Te,hT,hdT,h3⟩:=ht.ex
 unfold noteFrame
 simp only [hf]
 refine wpAny_bind (wpAny_field he hd h1 ?_)
 rw [if_pos (show (Value.ref T !=Value.none)=true from by simp)]
 refine wpAny_bind (wpAny_field hT hdT h3 ?_)
 rw [if_neg (show ¬ ((Value.none==rawInt L)=true) from by simp [rawInt])]
 refine wpAny_bind (Ax (fl':=.none) hkb hl he hc hdc hd h0 h1 nT Te hT hdT h3 fun h' n he'=>?_)
 exact vy (s:={ s with heap:=h' }) hfr n.fr hf he' hc hdc n.st hen hd (Array.getElem?_eq_some_iff.mp h1).1 h0 fun h2 n2=>h h2 ⟨n2.st,n2.fr,n2.tr,n.up.trans n2.up⟩
theorem pN {oe:Obj} {vs:Array Value} (hfr:A.frames=some (env::outer)) (hl:s.heap.FunFrames base (env::outer)) (hf:env.frame=some L) (he:s.heap.get? e=some oe) (hc:oe.cls=cls) (hdc:oe.dict=d) (hkb:base.StaysIn s.heap) (hen:base.get? e=none)
  (hd:oe.data=.fields vs) (h1:vs[1]?=some .none) (h0:Hd0 vs a0) (h:∀ h',kr base outer e cls a0 d .none s.heap h'→Q () { s with heap:=h' }):wpAny M A (leaving env (.ref e)) Q E s:=by
 unfold leaving
 refine wpAny_bind (qB hfr hl hf he hc hdc hkb hen hd h1 h0 fun h' n=>?_)
 obtain ⟨n1,⟨_,_,n2⟩,n3,n4⟩:=n
 exact jQ (s:={ s with heap:=h' }) n1 n2 n3 fun h2 m=>h h2 ⟨m.st,m.fr,m.tr,n4.trans m.up⟩
theorem qJ (hfr:A.frames=some (env::outer)) (hl:s.heap.FunFrames base (env::outer)) (hf:env.frame=some L) (ht:TrD s.heap base e cls a0 d .none) (hkb:base.StaysIn s.heap) (hen:base.get? e=none)
  (h:∀ h',kr base outer e cls a0 d .none s.heap h'→Q () { s with heap:=h' }):wpAny M A (leaving env (.ref e)) Q E s:=by
 unfold leaving
 refine wpAny_bind (lA hfr hl hf ht hkb hen fun h' n=>?_)
 obtain ⟨n1,⟨_,_,n2⟩,n3,n4⟩:=n
 exact jQ (s:={ s with heap:=h' }) n1 n2 n3 fun h2 m=>h h2 ⟨m.st,m.fr,m.tr,n4.trans m.up⟩
end
end HT
namespace L2
open PySem PySem.Spec PyProof.Rows
abbrev veM:List Value:=[.type "ValueError",.type "Exception",.type "BaseException",.type "object"]
def dY (K:W.Frag) (C D:Addr):Option Bool:=match K.lookup C with
 | some ⟨_,_,.cls cd,_⟩=>some (cd.mro.contains (.ref D))
 | _=>none
def kW (K : W.Frag) (C : Addr) : Bool := match K.lookup C with
  | some ⟨.type "type", _, .cls cd, sl⟩ => (match cd.mro, sl.toList with
    | .ref C' :: bm, [_, _, _, _, some (.builtin n), _] => C' == C && n == "ValueError.__new__" && !cd.hasDel && W.tailIn K veM bm && W.nsOkIn K cd.ns
    | _, _ => false)
  | _ => false
def bR (K:W.Frag) (C:Addr):Prop:=kW K C=true
def cN (K:W.Frag) (C:Addr):Prop:=W.excIn K C veM "ValueError.__new__" =true
theorem cN.ok {K:W.Frag} {C:Addr} (q:cN K C):bR K C:=by
 unfold cN W.excIn at q
 unfold bR kW
 split at q
 · rename_i dd cd sl ho
   split at q
   · rename_i C' bm k0 k1 k2 k3 n k5 hm hs
     rw [ho]
     simp only [hm,hs]
     simp only [Bool.and_eq_true] at q ⊢
     exact q.1
   · cases q
 · cases q
theorem eJ {K : W.Frag} {h : Heap} {C : Addr} (X : K.In h) (q : bR K C) :
   ∃ bm N nm qn bs hdct sn sub ab col dd k0 k1 k2 k3 k5 mN, h.get? C = some (excClassObj nm qn C N bs bm hdct sn sub ab col dd k0 k1 k2 k3 k5 "ValueError.__new__") ∧ h.Ns N mN ∧ (cN K C → mN "__init__" = none) ∧ OwnTail h veM bm ∧
     ∀ D, dY K C D = some ((Value.ref C :: bm).contains (.ref D)) := by
 have q2 := q
 unfold bR kW at q
 split at q
 · rename_i dd cd sl ho
   split at q
   · rename_i C' bm k0 k1 k2 k3 n k5 hm hs
     simp only [Bool.and_eq_true, beq_iff_eq, Bool.not_eq_true'] at q
     obtain ⟨⟨⟨⟨rfl, rfl⟩, hdel⟩, ht⟩, hok⟩ := q
     obtain ⟨nm, bs, mro, ns, qn, hd, sn, sub, ab, col, del⟩ := cd
     dsimp only at hm hdel hok
     subst hm hdel
     have hsl : sl = #[k0, k1, k2, k3, some (.builtin "ValueError.__new__"), k5] := by
       obtain ⟨l⟩ := sl
       simp only at hs
       rw [hs]
     subst hsl
     refine ⟨bm, ns, nm, qn, bs, hd, sn, sub, ab, col, dd, k0, k1, k2, k3, k5, _, X _ _ ho, .of_isNs (W.isNs_of_in X hok), fun r => ?_, W.tail_of_in X ht, fun D => ?_⟩
     · unfold cN W.excIn at r
       rw [ho] at r
       simp only [Bool.and_eq_true, beq_iff_eq] at r
       exact W.nsMap_none_of_in X hok r.2
     · unfold dY
       rw [ho]
   · cases q
 · cases q
theorem mt {M:Model} {A:Around} {E:Value→Shared→Prop} {s:Shared} {K:W.Frag} {C D e:Addr} {oe:Obj} {Q:Bool→Shared→Prop} {b:Bool} (X:K.In s.heap) (hC:bR K C) (hD:bR K D) (he:s.heap.get? e=some oe) (hcls:oe.cls=.ref C)
  (hs:dY K C D=some b) (hq:Q b s):wpAny M A (excMatches (.ref e) (.ref D)) Q E s:=by
 obtain ⟨bm,N,nm,qn,bs,hdct,sn,sub,ab,col,dd,k0,k1,k2,k3,k5,mN,oC,_,_,_,hsub⟩:=eJ X hC
 obtain ⟨bm',N',nm',qn',bs',hdct',sn',sub',ab',col',dd',k0',k1',k2',k3',k5',mN',oD,_,_,T',_⟩:=eJ X hD
 have hb:(Value.ref C::bm).contains (.ref D)=b:=Option.some.inj ((hsub D).symm.trans hs)
 have hbase:(Value.ref D::bm').contains (.type "BaseException")=true:=by
  rw [List.contains_cons,T'.hasType (X:= "BaseException") (b:=true) (by decide +kernel),Bool.or_true]
 have f:=tc_notTuple
 obtain ⟨hp,g,d,t,os⟩:=s
 unfold excMatches
 repeat (first | (with_reducible refine wpAny_loadPart_at he ?_;rw [hcls]) | with_reducible refine wpAny_loadPart_at oD ?_ | (with_reducible refine wpAny_isSubtype_exc oC ?_;rw [hb]) | (with_reducible refine wpAny_isSubtype_exc oD ?_;rw [hbase]) | wp_step)
 all_goals first | exact hq | (cases b <;> first | exact hq | (repeat (first | exact hq | wp_step)))
structure Fly (P:Program) (w:World) (l:List Env) (H:Hp) (s:Shared) (cls fl:Value) (a:Addr) (d:Option Addr) (H':Hp) (s':Shared):Prop where
 os:s'.os=s.os
 bare:AllBare s'.gens
 un:Un (frs l) [] H H' s.heap s'.heap
 hok:HOk P w H' s'.heap
 new:s.heap.get? a=none
 free:H' a=none
 tr:∃ oe vs a0 T oT ts,s'.heap.get? a=some oe∧oe.cls=cls∧oe.dict=d∧oe.data=.fields vs∧HT.Hd0 vs a0∧vs[1]?=some (.ref T)∧T≠a∧s'.heap.get? T=some oT∧oT.data=.fields ts∧ts[3]?=some fl∧s.heap.get? T=none∧H' T=none
def CX1 (P:Program) (w:World):CXT:=fun outer H s E e s'=>∃ a C d H',e=.ref a∧Fly P w outer H s (.ref C) .none a d H' s'∧E (.ref C) d H'
theorem iz {P:Program} {w:World} {H:Hp} {h:Heap} {a:Addr} {o:HO} (x:aU P w H h a o):∃ u,h.get? a=some u:=by
 cases o with
 | lst xs=>obtain ⟨_,_,_,_,e⟩:=x;exact ⟨_,e⟩
 | tup xs=>obtain ⟨_,_,_,p⟩:=x;obtain ⟨o,e,_⟩:=p;exact ⟨_,e⟩
 | dK kvs=>obtain ⟨_,_,_,_,o,_,_,e,_⟩:=x;exact ⟨_,e⟩
 | dT kvs=>obtain ⟨_,_,_,_,o,_,_,e,_⟩:=x;exact ⟨_,e⟩
 | set S n=>obtain ⟨o,_,_,_,e,_⟩:=x;exact ⟨_,e⟩
 | ins C dx fs=>obtain ⟨_,_,_,e,_⟩:=x;exact ⟨_,e⟩
 | own y=>exact x
 | xd fs=>obtain ⟨_,⟨_,_,_,e,_⟩,_⟩:=x;exact ⟨_,e⟩
 | rng lo hi=>obtain ⟨_,_,_,e⟩:=x;exact ⟨_,e⟩
 | frz ob u=>obtain ⟨e,_⟩:=x;exact ⟨_,e⟩
 | tbl ps=>exact ⟨_,(show h.get? a=some _ from x)⟩
 | met f y=>exact ⟨_,(show h.get? a=some _ from x)⟩
 | ext φ=>obtain ⟨_,e,_⟩:=x;exact e
section
variable {P:Program} {w:World} {l:List Env} {H H':Hp} {s s':Shared} {cls fl fl':Value} {a:Addr} {d:Option Addr} {base:Heap}
def fu (h:Heap) (l:List Env) (a T:Addr):Heap:=W.hideAll h (a::T::frs l)
theorem Fly.frames (F : Fly P w l H s cls fl a d H' s') (ff : s.heap.FunFrames base l) (frf : ∀ b ∈ frs l, H b = none) : s'.heap.FunFrames base l := by
  have all : ∀ (k : List Env), (∀ b ∈ frs k, b ∈ frs l) → s.heap.FunFrames base k → s'.heap.FunFrames base k := by
    intro k
    induction k with
    | nil => intro _ _; trivial
    | cons env r ih =>
      intro hs hl
      obtain ⟨hk, ⟨L, o, hf, hn, ho, hd⟩, hr⟩ := hl
      have hL : L ∈ frs l := hs L (by unfold frs; rw [List.filterMap_cons, hf]; exact List.mem_cons_self)
      obtain ⟨sl, e⟩ := F.un.slot L o ho (frf L hL) hL (by simp)
      exact ⟨hk, ⟨L, _, hf, hn, e, hd⟩, ih (fun b hb => hs b (by unfold frs; rw [List.filterMap_cons, hf]; exact List.mem_cons_of_mem _ hb)) hr⟩
  exact all l (fun _ hb => hb) ff
theorem jx {h B B':Heap}:∀ {k:List Env},h.FunFrames B k→(∀ b∈frs k,B'.get? b=none)→h.FunFrames B' k
 | [],_,_=>trivial
 | env::r,⟨hk,⟨L,o,hf,hn,ho,hd⟩,hr⟩,hb=>⟨hk,⟨L,o,hf,hb L (by unfold frs;rw [List.filterMap_cons,hf];exact List.mem_cons_self),ho,hd⟩,jx hr fun b h=>hb b (by unfold frs;rw [List.filterMap_cons,hf];exact List.mem_cons_of_mem _ h)⟩
theorem Fly.moved (F : Fly P w l H s cls fl a d H' s') (ff : s.heap.FunFrames base l) (frf : ∀ b ∈ frs l, H b = none) (ffs : ∀ b ∈ frs l, H' b = none) {T : Addr} {oT : Obj} (hT0 : s.heap.get? T = none) (hT1 : H' T = none) {h' : Heap} {a0 : Value}
    (st : (fu s'.heap l a T).StaysIn h') (up : s'.heap.UpToSlots h') (tr : HT.TrD h' (fu s'.heap l a T) a cls a0 d fl') : Fly P w l H s cls fl' a d H' { s' with heap := h' } := by
  have kp : ∀ b o, s'.heap.get? b = some o → b ≠ a → b ≠ T → b ∉ frs l → h'.get? b = some o := fun b o e h1 h2 h3 => st b o (W.hideAll_get _ e (by simp [h1, h2, h3]))
  have ff' := F.frames ff frf
  have nf : ∀ b ∈ frs l, ∀ o, s'.heap.get? b = some o → ∀ vs, o.data ≠ .fields vs := fun b hb o e vs z => by
    obtain ⟨_, o', ho, hd⟩ := ff'.mem hb
    rw [e] at ho; cases ho
    exact hd vs z
  have old : ∀ b o, s.heap.get? b = some o → b ≠ a ∧ b ≠ T := fun b o e => ⟨fun z => (by rw [z, F.new] at e; cases e), fun z => (by rw [z, hT0] at e; cases e)⟩
  refine ⟨F.os, F.bare, ⟨fun b o e n hb hx => ?_, fun b o e n hb hx => ?_, F.un.free, fun b o e hx => ?_, F.un.tups, F.un.frzs, F.un.tbls⟩, fun b o e => ?_, F.new, F.free, ?_⟩
  · exact kp b o (F.un.keep b o e n hb hx) (old b o e).1 (old b o e).2 hb
  · obtain ⟨sl, e1⟩ := F.un.slot b o e n hb hx
    obtain ⟨sl', e2⟩ := up b _ e1 (nf b hb _ e1)
    exact ⟨sl', e2⟩
  · obtain ⟨o', e1⟩ := F.un.there b o e hx
    by_cases hb : b ∈ frs l
    · obtain ⟨sl', e2⟩ := up b _ e1 (nf b hb _ e1)
      exact ⟨_, e2⟩
    · exact ⟨o', kp b o' e1 (old b o e).1 (old b o e).2 hb⟩
  · refine (F.hok b o e).stay (fun c u hc q => kp c u q ?_ ?_ ?_) (fun _ q => q) fun _ _ q => q
    · rintro rfl
      rcases hc with r | r
      · rw [← r, F.free] at e; cases e
      · rw [F.free] at r; cases r
    · rintro rfl
      rcases hc with r | r
      · rw [← r, hT1] at e; cases e
      · rw [hT1] at r; cases r
    · intro hm
      rcases hc with r | r
      · rw [← r, ffs _ hm] at e; cases e
      · rw [ffs _ hm] at r; cases r
  · obtain ⟨oe, vs, T', oT', ts, he, hc, hdc, hd, h0, h1, hn, hne, hT', hdT, h3⟩ := tr.ex
    have key : s'.heap.get? T' = none ∨ T' = T := by
      cases q : s'.heap.get? T' with
      | none => exact .inl rfl
      | some o =>
        refine .inr (Classical.byContradiction fun hz => ?_)
        by_cases hf : T' ∈ frs l
        · obtain ⟨sl', e2⟩ := up T' o q (nf T' hf o q)
          rw [hT'] at e2; cases e2
          exact nf T' hf o q ts hdT
        · have : (fu s'.heap l a T).get? T' = some o := W.hideAll_get _ q (by simp [hz, hne, hf])
          rw [hn] at this; cases this
    refine ⟨oe, vs, a0, T', oT', ts, he, hc, hdc, hd, h0, h1, hne, hT', hdT, h3, ?_, ?_⟩
    · rcases key with z | z
      · cases q : s.heap.get? T' with
        | none => rfl
        | some o =>
          obtain ⟨o', e⟩ := F.un.there T' o q (by simp)
          rw [z] at e; cases e
      · rw [z]; exact hT0
    · rcases key with z | z
      · cases q : H' T' with
        | none => rfl
        | some o =>
          obtain ⟨o1, e1⟩ := iz (F.hok T' o q)
          rw [z] at e1; cases e1
      · rw [z]; exact hT1
end
section
variable {X:Cx} {pins:List (Addr×Obj)} {σ:St} {H H':Hp} {s s':Shared} {cls fl:Value} {a:Addr} {d:Option Addr}
theorem Fly.inv (I:Inv X pins σ H s) (F:Fly X.prog X.w X.stack H s cls fl a d H' s'):Inv X pins σ H' s':=I.call' (ch:=[]) F.os F.un F.hok F.bare fun b z=>absurd z (by simp)
theorem Fly.up (I : Inv X pins σ H s) (hex : X.ex = []) (F : Fly X.prog X.w X.stack H s cls fl a d H' s') : Fly X.prog X.w X.outer X.H₀ X.s₀ cls fl a d H' s' := by
  have I2 := F.inv I
  have back : ∀ b, s.heap.get? b = none → X.s₀.heap.get? b = none := fun b e => by
    cases q : X.s₀.heap.get? b with
    | none => rfl
    | some o =>
      obtain ⟨o', e'⟩ := I.base.there b o q (by rw [hex]; simp)
      rw [e] at e'; cases e'
  obtain ⟨oe, vs, a0, T, oT, ts, h1, h2, hd, h3, h4, h5, h6, h7, h8, h9, h10, h11⟩ := F.tr
  have b := I2.base
  rw [hex] at b
  exact ⟨I2.os, I2.bare, b, I2.hok, back a F.new, F.free, oe, vs, a0, T, oT, ts, h1, h2, hd, h3, h4, h5, h6, h7, h8, h9, back T h10, h11⟩
theorem Fly.flying (I:Inv X pins σ H s) (F:Fly X.prog X.w X.stack H s cls .none a d H' s'):∃ T a0,s.heap.get? T=none∧H' T=none∧(fu s'.heap X.stack a T).StaysIn s'.heap∧(fu s'.heap X.stack a T).get? a=none∧s'.heap.FunFrames (fu s'.heap X.stack a T) X.stack∧
  HT.TrD s'.heap (fu s'.heap X.stack a T) a cls a0 d .none:=by
 obtain ⟨oe,vs,a0,T,oT,ts,h1,h2,hd,h3,h4,h5,h6,h7,h8,h9,h10,h11⟩:=F.tr
 exact ⟨T,a0,h10,h11,fun b o e=>W.of_hideAll _ e,W.hideAll_none _ (by simp),jx (F.frames I.stack I.stkFree) fun b hb=>W.hideAll_none _ (by simp [hb]),⟨oe,vs,T,oT,ts,h1,h2,hd,h3,h4,h5,W.hideAll_none _ (by simp),h6,h7,h8,h9⟩⟩
end
structure sA (P:Program) (w:World) (l:List Env) (H:Hp) (s:Shared) (cls:Value) (a:Addr) (d:Option Addr) (H':Hp) (s':Shared):Prop where
 os:s'.os=s.os
 bare:AllBare s'.gens
 un:Un (frs l) [] H H' s.heap s'.heap
 hok:HOk P w H' s'.heap
 new:s.heap.get? a=none
 free:H' a=none
 tr:∃ oe vs a0,s'.heap.get? a=some oe∧oe.cls=cls∧oe.dict=d∧oe.data=.fields vs∧HT.Hd0 vs a0∧vs[1]?=some .none
section
variable {P:Program} {w:World} {l:List Env} {H H':Hp} {s s':Shared} {cls fl':Value} {a:Addr} {d:Option Addr} {base:Heap}
theorem nB (un : Un (frs l) [] H H' s.heap s'.heap) (ff : s.heap.FunFrames base l) (frf : ∀ b ∈ frs l, H b = none) : s'.heap.FunFrames base l := by
  have all : ∀ (k : List Env), (∀ b ∈ frs k, b ∈ frs l) → s.heap.FunFrames base k → s'.heap.FunFrames base k := by
    intro k
    induction k with
    | nil => intro _ _; trivial
    | cons env r ih =>
      intro hs hl
      obtain ⟨hk, ⟨L, o, hf, hn, ho, hd⟩, hr⟩ := hl
      have hL : L ∈ frs l := hs L (by unfold frs; rw [List.filterMap_cons, hf]; exact List.mem_cons_self)
      obtain ⟨sl, e⟩ := un.slot L o ho (frf L hL) hL (by simp)
      exact ⟨hk, ⟨L, _, hf, hn, e, hd⟩, ih (fun b hb => hs b (by unfold frs; rw [List.filterMap_cons, hf]; exact List.mem_cons_of_mem _ hb)) hr⟩
  exact all l (fun _ hb => hb) ff
theorem sA.moved (F : sA P w l H s cls a d H' s') (ff : s.heap.FunFrames base l) (frf : ∀ b ∈ frs l, H b = none) (ffs : ∀ b ∈ frs l, H' b = none) {h' : Heap} {a0 : Value}
    (st : (fu s'.heap l a a).StaysIn h') (up : s'.heap.UpToSlots h') (tr : HT.TrD h' (fu s'.heap l a a) a cls a0 d fl') : Fly P w l H s cls fl' a d H' { s' with heap := h' } := by
  have kp : ∀ b o, s'.heap.get? b = some o → b ≠ a → b ∉ frs l → h'.get? b = some o := fun b o e h1 h3 => st b o (W.hideAll_get _ e (by simp [h1, h3]))
  have ff' := nB F.un ff frf
  have nf : ∀ b ∈ frs l, ∀ o, s'.heap.get? b = some o → ∀ vs, o.data ≠ .fields vs := fun b hb o e vs z => by
    obtain ⟨_, o', ho, hd⟩ := ff'.mem hb
    rw [e] at ho; cases ho
    exact hd vs z
  have old : ∀ b o, s.heap.get? b = some o → b ≠ a := fun b o e z => by rw [z, F.new] at e; cases e
  refine ⟨F.os, F.bare, ⟨fun b o e n hb hx => ?_, fun b o e n hb hx => ?_, F.un.free, fun b o e hx => ?_, F.un.tups, F.un.frzs, F.un.tbls⟩, fun b o e => ?_, F.new, F.free, ?_⟩
  · exact kp b o (F.un.keep b o e n hb hx) (old b o e) hb
  · obtain ⟨sl, e1⟩ := F.un.slot b o e n hb hx
    obtain ⟨sl', e2⟩ := up b _ e1 (nf b hb _ e1)
    exact ⟨sl', e2⟩
  · obtain ⟨o', e1⟩ := F.un.there b o e hx
    by_cases hb : b ∈ frs l
    · obtain ⟨sl', e2⟩ := up b _ e1 (nf b hb _ e1)
      exact ⟨_, e2⟩
    · exact ⟨o', kp b o' e1 (old b o e) hb⟩
  · refine (F.hok b o e).stay (fun c u hc q => kp c u q ?_ ?_) (fun _ q => q) fun _ _ q => q
    · rintro rfl
      rcases hc with r | r
      · rw [← r, F.free] at e; cases e
      · rw [F.free] at r; cases r
    · intro hm
      rcases hc with r | r
      · rw [← r, ffs _ hm] at e; cases e
      · rw [ffs _ hm] at r; cases r
  · obtain ⟨oe, vs, T', oT', ts, he, hc, hdc, hd, h0, h1, hn, hne, hT', hdT, h3⟩ := tr.ex
    have key : s'.heap.get? T' = none := by
      cases q : s'.heap.get? T' with
      | none => rfl
      | some o =>
        by_cases hf : T' ∈ frs l
        · obtain ⟨sl', e2⟩ := up T' o q (nf T' hf o q)
          rw [hT'] at e2; cases e2
          exact (nf T' hf o q ts hdT).elim
        · have : (fu s'.heap l a a).get? T' = some o := W.hideAll_get _ q (by simp [hne, hf])
          rw [hn] at this; cases this
    refine ⟨oe, vs, a0, T', oT', ts, he, hc, hdc, hd, h0, h1, hne, hT', hdT, h3, ?_, ?_⟩
    · cases q : s.heap.get? T' with
      | none => rfl
      | some o =>
        obtain ⟨o', e⟩ := F.un.there T' o q (by simp)
        rw [key] at e; cases e
    · cases q : H' T' with
      | none => rfl
      | some o =>
        obtain ⟨o1, e1⟩ := iz (F.hok T' o q)
        rw [key] at e1; cases e1
end
def dC (CX:CXT) (X:Cx) (E:St→XK):Prop:=∀ (pins:List (Addr×Obj)) (σ:St) (H:Hp) (s:Shared) (e:Value) (s':Shared),Inv X pins σ H s→CX X.stack H s (E σ) e s'→X.xe e s'
def pU (X:Cx) (E:St→XK):Prop:=∀ (pins:List (Addr×Obj)) (σ:St) (H:Hp) (s:Shared) (C a:Addr) (d:Option Addr) (H2:Hp) (s2:Shared),Inv X pins σ H s→sA X.prog X.w X.stack H s (.ref C) a d H2 s2→E σ (.ref C) d H2→X.xe (.ref a) s2
theorem bO {P:Program} {w:World} {X:Cx}:dC (CX1 P w) X (fun _=>E0):=fun pins σ H s e s' I ⟨_,_,_,_,_,_,h⟩=>h.elim
section
variable {P:Program} {w:World} {K:W.Frag} {mg:Str→Option Value} {base:Heap} {N:List Str} {qual:Str} {scope:Scope} {f:Addr} {cd:Value} {A:Around} {outer:List Env} {s:Shared} {H:Hp} {E:XK}
theorem kq:dC (CX1 P w) (cy (CX1 P w) P w K mg base N qual scope f cd A outer s H E) (fun _=>E):=by
 intro pins σ H1 s1 e s' I hx
 obtain ⟨a,C,d,H',rfl,F,hE⟩:=hx
 obtain ⟨T,a0,hT0,hT1,f1,f2,f3,f4⟩:=F.flying I
 refine HT.qJ (I.ok.frames) f3 rfl f4 f1 f2 fun h' n=>?_
 have F2:=F.moved (oT:={ cls:=.none,data:=.dict #[] }) I.stack I.stkFree (F.inv I).stkFree hT0 hT1 n.st n.up n.tr
 exact ⟨a,C,d,H',rfl,F2.up I rfl,hE⟩
theorem dD:pU (cy (CX1 P w) P w K mg base N qual scope f cd A outer s H E) (fun _=>E):=by
 intro pins σ H1 s1 C a d H2 s2 I F hE
 have I2:Inv (cy (CX1 P w) P w K mg base N qual scope f cd A outer s H E) pins σ H2 s2:=I.call' (ch:=[]) F.os F.un F.hok F.bare fun b z=>absurd z (by simp)
 obtain ⟨oe,vs,a0,he,hc,hdc,hd,h0,h1⟩:=F.tr
 refine HT.pN I.ok.frames (jx (B':=fu s2.heap (cy (CX1 P w) P w K mg base N qual scope f cd A outer s H E).stack a a) (nB F.un I.stack I.stkFree) fun b hb=>W.hideAll_none _ (List.mem_cons_of_mem _ (List.mem_cons_of_mem _ hb))) rfl he hc hdc (fun b o e=>W.of_hideAll _ e) (W.hideAll_none _ (by simp)) hd h1 h0 fun h' n=>?_
 have F2:=F.moved I.stack I.stkFree I2.stkFree n.st n.up n.tr
 exact ⟨a,C,d,H2,rfl,F2.up I rfl,hE⟩
theorem Et {X : Cx} {pins : List (Addr × Obj)} {σ : St} {H : Hp} {s : Shared} {C a : Addr} {h1 : Heap} (I : Inv X pins σ H s) (hm : Heap.MadeExcOf s.heap h1 a (.ref C) []) : sA X.prog X.w X.stack H s (.ref C) a none H { s with heap := h1 } := by
  obtain ⟨t, ht, _, _⟩ := hm.there
  refine ⟨rfl, I.bare, Un.kept hm.keeps, I.hok.kept hm.keeps, hm.new, ?_, ⟨_, _, .ref t, ht, rfl, rfl, rfl, ⟨rfl, rfl⟩, rfl⟩⟩
  cases q : H a with
  | none => rfl
  | some o =>
    obtain ⟨u, e'⟩ := iz (I.hok a o q)
    rw [hm.new] at e'; cases e'
end
def av (sp:Sp) (E:St→XK) (t:TA):TE:=fun σ H Q=>t σ H fun vs H1=>sp vs H1 Q (E σ)
section
variable {X:Cx} {CX:CXT} {k:Nat} {f:Addr} {fd:FuncData} {ps:List Str} {sp:Sp} {E:St→XK} {x:Str} {p pos:Pos} {e:Expr} {es:List Expr} {t:TA}
theorem jF {pins : List (Addr × Obj)} {σ : St} {H : Hp} {s : Shared} {Q : VK} {us : List Value} {vs : List V} (F : aM X.prog X.w X.K X.mg X.base CX k f fd ps sp) (hr : aY k X.A) (hb : bA X.K fd ps []) (hx : dC CX X E)
    (I : Inv X pins σ H s) (r : aR vs us) (h : sp vs H Q (E σ)) : wpAny (model X.prog X.w) X.A (call (.ref f) us) (EP X pins σ Q) X.xe s := by
  have hl : us.length = ps.length := by rw [← r.length]; exact F.len _ _ _ _ h
  have hb' := hb s us I.kIn (by rw [List.append_nil]; exact hl)
  rw [List.append_nil] at hb'
  refine wpAny_call (codeAny_mono (F.run X.A X.stack s H ⟨us, []⟩ us vs Q (E σ) hr I.env0 hb' r h) fun r s' hq => ?_)
  cases r with
  | error e => exact hx pins σ H s e s' I hq
  | ok fl =>
    cases fl with
    | ret u => exact I.after hq
    | next => exact False.elim hq
    | brk => exact False.elim hq
    | cont => exact False.elim hq
theorem fk (F:aM X.prog X.w X.K X.mg X.base CX k f fd ps sp) (hr:aY k X.A) (hm:X.mg x=some (.ref f)) (hk:W.keepIn X.K (.ref f)=true) (hb:bA X.K fd ps []) (hx:dC CX X E)
  (ha:QA X (e::es) t) (hg:Gl X x:=by rfl) (hdb:(x==("__debug__" :Str))=false:=by decide) (hs:aX (e::es)=true:=by rfl):QE X (.Call (.Name x p) (e::es) [] pos) (av sp E t):=by
 refine ⟨fun pins s σ H Q I h=>?_⟩
 have h':(bz e&&aX es)=true:=hs
 refine wpAny_Call_Name_kw (fw I hg hm ?_ hdb)
 refine W.callWith_K (h₀:=X.base) I.ok.mod.kin hk (thn (ha.out pos pins s σ H _ I h) fun us s1 ⟨vs,H1,I1,r,q⟩=>⟨I1.kIn,?_⟩) (aP (Bool.and_eq_true_iff.mp h').1 es X.env) (bI (Bool.and_eq_true_iff.mp h').2)
 exact jF F hr hb hx I1 r q
theorem pB (F:aM X.prog X.w X.K X.mg X.base CX k f fd ps sp) (hr:aY k X.A) (hm:X.mg x=some (.ref f)) (hk:W.keepIn X.K (.ref f)=true) (hb:bA X.K fd ps []) (hx:dC CX X E)
  (hg:Gl X x:=by rfl) (hdb:(x==("__debug__" :Str))=false:=by decide):QE X (.Call (.Name x p) [] [] pos) (av sp E aj):=by
 refine ⟨fun pins s σ H Q I h=>?_⟩
 refine wpAny_Call_Name_kw (fw I hg hm ?_ hdb)
 exact W.callWith_K0 I.kIn hk (jF (us:=[]) F hr hb hx I .nil h)
def gb (C:Addr) (E:St→XK):TS:=fun _ σ H=>E σ (.ref C) none H
theorem fV {C:Addr} {np cpos:Pos} (hC:cN X.K C) (hm:X.mg x=some (.ref C)) (hR:pU X E) (hc:X.calm=true:=by rfl) (hg:Gl X x:=by rfl) (hdb:(x==("__debug__" :Str))=false:=by decide):
  QS X (.Raise (some (.Call (.Name x np) [] [] cpos)) none pos) (gb C E):=by
 refine ⟨fun pins s σ H D I h=>?_⟩
 obtain ⟨bm,N,nm,qn,bs,hdct,sn,sub,ab,col,dd,k0,k1,k2,k3,k5,mN,oC,hN,hni,T,_⟩:=eJ I.kIn hC.ok
 refine wpAny_Raise_call_subU (C:=C) (nm:=nm) (q:=qn) (N:=N) (bs:=bs) (bm:=bm) (hdct:=hdct) (sn:=sn) (sub:=sub) (ab:=ab) (col:=col) (dd:=dd) (k0:=k0) (k1:=k1) (k2:=k2) (k3:=k3) (k5:=k5)
  F.excBase_ValueError (by decide +kernel) F.excBase_ValueError (mN:=mN) (T.hasType F.excBase_ValueError.hasBase) (I.ok.hd hc) rfl (hni hC) (fw I hg hm ⟨rfl,?_⟩ hdb)
 exact evalArgs_empty ⟨rfl,Nat.zero_le _,oC,hN,T,fun h' e hm'=>hR pins σ H s C e none H _ I (Et I hm') h⟩
end
theorem Fun.okX {P : Program} {w : World} {K : W.Frag} {mg : Str → Option Value} {base : Heap} {x qual : Str} {st : Stmt} {f : Addr} {fd : FuncData} {N ps : List Str} {k : Nat} {sp : Sp} (F : Fun K x qual st f fd) (S : az N ps (al st)) (len : ∀ vs H Q E, sp vs H Q E → vs.length = ps.length)
  (hbody : ∀ (cdv : Value) (A : Around) (outer : List Env) (s : Shared) (H : Hp) (vs : List V) (Q : VK) (E : XK), aY k (A.deeper (envOfC qual (al st) s.heap.objs.size f cdv)) → sp vs H Q E →
   ∃ t, PSs (cy (CX1 P w) P w K mg base N qual (al st) f cdv A outer s H E) (aJ st) t ∧ t { nx := fun _ H' => Q .non H', rt := Q } (start N vs) H) : aM P w K mg base (CX1 P w) (k + 1) f fd ps sp := by
 obtain ⟨oc, od, kV, doc, pm, an, cdv, ct, osl, rfl, lk, hcd⟩ := F.ex
 exact yG lk hcd S len fun A outer s H vs Q E hr hsp => hbody cdv A outer s H vs Q E hr hsp
def kK (C:Addr) (d:Option Addr) (a:Addr):HO:=.ext fun h=>∃ o vs,h.get? a=some o∧o.cls=.ref C∧o.dict=d∧o.data=.fields vs∧vs[2]?=some .none
theorem zT {P:Program} {w:World} {H:Hp} {h:Heap} {C a:Addr} {d:Option Addr} {o:Obj} {vs:Array Value} (e:h.get? a=some o) (hc:o.cls=.ref C) (hdc:o.dict=d) (hd:o.data=.fields vs) (h2:vs[2]?=some .none):aU P w H h a (kK C d a):=
 ⟨⟨o,vs,e,hc,hdc,hd,h2⟩,⟨o,e⟩,fun _ _ ⟨o1,vs1,e1,c1,x1,d1,y1⟩ k=>⟨o1,vs1,k o1 e1,c1,x1,d1,y1⟩⟩
theorem Af {P:Program} {w:World} {H:Hp} {h:Heap} {C a:Addr} {d:Option Addr} (x:aU P w H h a (kK C d a)):∃ o vs,h.get? a=some o∧o.cls=.ref C∧o.dict=d∧o.data=.fields vs∧vs[2]?=some .none:=x.1
section
variable {X:Cx} {pins:List (Addr×Obj)} {σ:St} {H H1 H':Hp} {s s0:Shared} {a:Addr} {o:HO}
theorem Inv.track (I0:Inv X pins σ H1 s0) (hex:X.ex=[]) (I:Inv X pins σ H s) (new:s0.heap.get? a=none) (hn:H a=none) (ok:aU X.prog X.w (upd H a o) s.heap a o):Inv X pins σ (upd H a o) s:=by
 have ne:∀ b u,s0.heap.get? b=some u→b≠a:=fun b u e z=>by rw [z,new] at e;cases e
 have ne0:∀ b u,X.s₀.heap.get? b=some u→b≠a:=fun b u e=>by
   obtain ⟨u',e'⟩:=I0.base.there b u e (by rw [hex];simp)
   exact ne b u' e'
 have nL:X.env.locals≠a:=by
   obtain ⟨m,⟨o',_,_,e,_⟩,_⟩:=I0.loc
   exact ne _ _ e
 refine ⟨I.ok,I.os,I.bare,⟨I.base.keep,I.base.slot,fun b u e n hx=>?_,I.base.there,fun b xs e=>?_,fun b u v e=>?_,fun b ps e=>?_⟩,I.loc,I.cell,?_,fun x c e=>?_,fun p hp=>?_,fun b u e=>?_,I.len⟩
 · rw [ao (ne0 b u e)];exact I.base.free b u e n hx
 · have:=I.base.tups b xs e
   rw [ao (aw this hn)];exact this
 · have:=I.base.frzs b u v e
   rw [ao (aw this hn)];exact this
 · obtain ⟨more,this⟩:=I.base.tbls b ps e
   exact ⟨more,by rw [ao (aw this hn)];exact this⟩
 · rw [ao nL];exact I.free
 · obtain ⟨v,o',e',_⟩:=I0.cell x c e
   rw [ao (ne _ _ e')];exact I.freeC x c e
 · obtain ⟨h1,h2,h3⟩:=I.pin p hp
   exact ⟨h1,by rw [ao (ne _ _ (I0.pin p hp).1)];exact h2,h3⟩
 · by_cases hb:b=a
   · subst hb
     rw [ai] at e;cases e
     exact ok
   · rw [ao hb] at e
     exact (I.hok b u e).stay (fun c v _ q=>q) (fun c q=>by
      have:c≠a:=aw q hn
      rw [ao this];exact q) fun c xs q=>by
      have:c≠a:=aw q hn
      rw [ao this];exact q
end
def cxH (X:Cx) (a:Addr):Cx:={ X with A:=X.A.mark (some (.ref a)),calm:=false,xe:=fun _ _=>False }
section
variable {X:Cx} {pins:List (Addr×Obj)} {σ:St} {H:Hp} {s:Shared} {a:Addr}
theorem Cx.Ok.toH (ok:X.Ok):(cxH X a).Ok:=⟨ok.mod,ok.kind,ok.glob,ok.blt,ok.above,ok.inj,ok.has,ok.cab,fun h=>absurd (show false=true from h) Bool.false_ne_true,ok.frames,ok.stk,ok.exf,ok.bs,ok.bsz,ok.noex,ok.exfs,ok.funs,ok.frf⟩
theorem Inv.toH (I:Inv X pins σ H s):Inv (cxH X a) pins σ H s:=⟨I.ok.toH,I.os,I.bare,I.base,I.loc,I.cell,I.free,I.freeC,I.pin,I.hok,I.len⟩
theorem Inv.ofH (ok:X.Ok) (I:Inv (cxH X a) pins σ H s):Inv X pins σ H s:=⟨ok,I.os,I.bare,I.base,I.loc,I.cell,I.free,I.freeC,I.pin,I.hok,I.len⟩
theorem SP.ofH {D:dU} {f:Flow} (ok:X.Ok) (h:SP (cxH X a) pins D f s):SP X pins D f s:=by
 cases f with
 | next=>obtain ⟨σ',H',J,q⟩:=h;exact ⟨σ',H',J.ofH ok,q⟩
 | brk=>obtain ⟨σ',H',J,q⟩:=h;exact ⟨σ',H',J.ofH ok,q⟩
 | cont=>obtain ⟨σ',H',J,q⟩:=h;exact ⟨σ',H',J.ofH ok,q⟩
 | ret u=>obtain ⟨v,σ',H',J,r,q⟩:=h;exact ⟨v,σ',H',J.ofH ok,r,q⟩
end
abbrev TH:=dU→St→Addr→Option Addr→Hp→Prop
def PH (X:Cx) (hs:List ExceptHandler) (t:TH):Prop:=∀ (pins:List (Addr×Obj)) (s0:Shared) (σ:St) (H1 H':Hp) (C a:Addr) (d:Option Addr) (s3:Shared) (D:dU),X.stack=X.env::X.outer→X.env.frame=some X.env.locals→X.ex=[]→
 Inv X pins σ H1 s0→Fly X.prog X.w X.stack H1 s0 (.ref C) .none a d H' s3→bR X.K C→t D σ C d H'→wpAny (model X.prog X.w) X.A (handleBy (.ref a) X.env hs) (SP X pins D) X.xe s3
structure QH (X:Cx) (hs:List ExceptHandler) (t:TH):Prop where
 out:PH X hs t
def lC:TH:=fun _ _ _ _ _=>False
def ue (i:Nat) (D:dU):dU:=⟨fun σ H=>D.nx (σ.set i none) H,D.rt,fun σ H=>D.bk (σ.set i none) H,fun σ H=>D.ct (σ.set i none) H⟩
def hAs (K:W.Frag) (Dc:Addr) (i:Nat) (ts:TS) (r:TH):TH:=fun D σ C d H=>∃ b,dY K C Dc=some b∧Sel b (∀ a,H a=none→ts (ue i D) (σ.set i (some (.ref a))) (upd H a (kK C d a))) (r D σ C d H)
section
variable {X:Cx}
theorem tX:QH X [] lC:=⟨fun _ _ _ _ _ _ _ _ _ _ _ _ _ _ _ _ h=>h.elim⟩
theorem vk {pins:List (Addr×Obj)} {σ:St} {H H':Hp} {s s':Shared} {cls:Value} {a:Addr} {d:Option Addr} {M:Model} {A:Around} {E:Value→Shared→Prop} {Q:Unit→Shared→Prop} (I:Inv X pins σ H s) (F:Fly X.prog X.w X.stack H s cls .none a d H' s')
  (hQ:∀ s'',Fly X.prog X.w X.stack H s cls .none a d H' s''→Q () s''):wpAny M A (setFlight (.ref a) none) Q E s':=by
 obtain ⟨T,a0,hT0,hT1,f1,f2,f3,f4⟩:=F.flying I
 refine HT.jQ f1 f3 f4 fun h' n=>?_
 exact hQ _ (F.moved (oT:={ cls:=.none,data:=.dict #[] }) I.stack I.stkFree (F.inv I).stkFree hT0 hT1 n.st n.up n.tr)
variable {x n:Str} {np hp:Pos} {Dc:Addr} {b0:Stmt} {suite:List Stmt} {bK:List ExceptHandler} {ts:TS} {r:TH} {i:Nat}
theorem wo {A:Around} {E:Value→Shared→Prop} {pins:List (Addr×Obj)} {s:Shared} {σ:St} {H:Hp} {u:Value} {pos:Pos} {Q:Value→Shared→Prop} (I:Inv X pins σ H s) (hg:Gl X x) (hm:X.mg x=some u) (h:Q u s)
  (hd:(x==("__debug__" :Str))=false:=by decide):wpAny (model X.prog X.w) A (eval (.Name x pos) X.env) Q E s:=
 Calls.Name_function_global I.ok.kind hg (Calls.loadGlobal_global (by rw [I.ok.glob];exact I.mod.glob.keeps I.bk) hm h) hd
theorem yM (i : Nat) (hN : X.N.Nodup) (hD : bR X.K Dc) (hm : X.mg x = some (.ref Dc)) (hs : ∀ a, QSs (cxH X a) (b0 :: suite) ts) (hr : QH X bK r) (hg : Gl X x := by rfl) (hdb : (x == ("__debug__" : Str)) = false := by decide)
    (hi : X.N[i]? = some n := by rfl) (hl : X.env.scope.names.lookup n = some .local := by rfl) :
    QH X (.ExceptHandler (some (.Name x np)) (some n) (b0 :: suite) hp :: bK) (hAs X.K Dc i ts r) := by
  refine ⟨fun pins s0 σ H1 H' C a d s3 D e1 e2 hex I F hC h => ?_⟩
  obtain ⟨b, hb, q⟩ := h
  have I3 := F.inv I
  obtain ⟨oe, vs, _, _, _, _, he, hc, hdc, hd, _⟩ := F.tr
  refine wpAny_handleBy_cons (codeAny_handlers_test (wo I3 hg hm ?_ hdb)) (by intro q; cases q)
  refine mt I3.kIn hC hD he hc hb ?_
  have q := dN q
  cases b with
  | false => exact hr.out pins s0 σ H1 H' C a d s3 D e1 e2 hex I F hC q
  | true =>
    refine codeAny_handlers_suite_as (vk I F fun s4 F4 => ?_)
    have I4 := F4.inv I
    obtain ⟨oe4, vs4, _, _, _, _, he4, hc4, hdc4, hd4, h04, _⟩ := F4.tr
    have I5 : Inv X pins σ (upd H' a (kK C d a)) s4 := Inv.track I hex I4 F.new F.free (zT he4 hc4 hdc4 hd4 h04.b)
    have hcls : (X.env.scope.kind == .class || (X.env.scope.kind == .module && X.env.locals != X.env.globals)) = false := by rw [I.ok.kind]; rfl
    refine eZ (v := .ref a) I5 hN hi (.inl hl) rfl (fun s6 I6 => ?_) (.inr hl)
    refine wpAny_mono ((hs a).out pins s6 _ _ (ue i D) I6.toH (q a F.free)) (fun f s7 h7 => ?_) fun _ _ z => z.elim
    have h7 := SP.ofH I.ok h7
    have go : ∀ {σ' : St} {H'' : Hp} {Q : Unit → Shared → Prop}, Inv X pins σ' H'' s7 → (∀ s8, Inv X pins (σ'.set i none) H'' s8 → Q () s8) → wpAny (model X.prog X.w) X.A (do bindName X.env n .none; unbindBehindTheSuite X.env n hp) Q X.xe s7 := fun {σ' H'' Q} J hQ => by
      obtain ⟨m, hn, hloc⟩ := id J.loc
      refine wpAny_nameGoes_keeps hl hn hcls fun h' v hn' hs' => hQ _ ?_
      obtain ⟨oL, _, _, hoL, _⟩ := id hn
      refine ⟨J.ok, J.os, J.bare, ⟨fun b o e n hb hx => ?_, fun b o e n hb hx => ?_, J.base.free, fun b o e hx => ?_, J.base.tups, J.base.frzs, J.base.tbls⟩, ⟨_, hn', fun j y v' e1 e2 e3 => ?_⟩, fun y c e => ?_, J.free, J.freeC, fun p hp => ?_, fun b ob e => ?_, by simpa using J.len⟩
      · exact (hs'.2 b (Nat.ne_of_lt (Nat.lt_of_lt_of_le (Heap.lt_size e) J.ok.above))).trans (J.base.keep b o e n hb hx)
      · obtain ⟨sl, e1⟩ := J.base.slot b o e n hb hx
        exact ⟨sl, (hs'.2 b (Nat.ne_of_lt (Nat.lt_of_lt_of_le (Heap.lt_size e) J.ok.above))).trans e1⟩
      · obtain ⟨o', e1⟩ := J.base.there b o e hx
        exact ⟨o', (hs'.2 b (Nat.ne_of_lt (Nat.lt_of_lt_of_le (Heap.lt_size e) J.ok.above))).trans e1⟩
      · have hji : j ≠ i := by
          rintro rfl
          have : j < σ'.length := by rw [J.len]; exact (List.getElem?_eq_some_iff.mp hi).1
          rw [List.getElem?_set_self this] at e2; cases e2
        rw [List.getElem?_set_ne (Ne.symm hji)] at e2
        obtain ⟨u, ru, lk⟩ := hloc j y v' e1 e2 e3
        refine ⟨u, ru, ?_⟩
        rcases lk with ⟨k, e⟩ | ⟨k, c, e, z⟩
        · refine .inl ⟨k, ?_⟩
          have : y ≠ n := fun e => hji (ky hN e1 (e ▸ hi))
          simp [this, e]
        · exact .inr ⟨k, c, e, z.sameBut hs' (J.cne y c e)⟩
      · obtain ⟨w', z⟩ := J.cell y c e
        exact ⟨w', z.sameBut hs' (J.cne y c e)⟩
      · obtain ⟨e, n, ne, nf, d⟩ := J.pin p hp
        exact ⟨(hs'.2 p.1 ne).trans e, n, ne, nf, d⟩
      · refine (J.hok b ob e).stay (fun c w' hc q => (hs'.2 c ?_).trans q) (fun _ q => q) fun _ _ q => q
        rintro rfl
        rcases hc with r | hc
        · rw [← r, J.free] at e; cases e
        · rw [J.free] at hc; cases hc
    cases f with
    | next => obtain ⟨σ', H'', J, q'⟩ := h7; exact go J fun s8 J8 => ⟨_, _, J8, q'⟩
    | brk => obtain ⟨σ', H'', J, q'⟩ := h7; exact go J fun s8 J8 => ⟨_, _, J8, q'⟩
    | cont => obtain ⟨σ', H'', J, q'⟩ := h7; exact go J fun s8 J8 => ⟨_, _, J8, q'⟩
    | ret u => obtain ⟨v, σ', H'', J, rv, q'⟩ := h7; exact go J fun s8 J8 => ⟨v, _, _, J8, rv, q'⟩
end
def vR (K:W.Frag) (tb:(St→XK)→TS) (th:TH) (te:TS):TS:=fun D σ H=>
 tb (fun σ' cls d H'=>∃ C,cls=.ref C∧bR K C∧th D σ' C d H') { D with nx:=te D } σ H
abbrev cxT (X:Cx) (pn:List (Addr×Obj)) (E':Value→Shared→Prop):Cx:={ X with pn:=pn,xe:=E' }
section
variable {X:Cx} {pins pn:List (Addr×Obj)} {σ:St} {H:Hp} {s:Shared} {E':Value→Shared→Prop}
theorem Cx.Ok.toT (ok:X.Ok):(cxT X pn E').Ok:=⟨ok.mod,ok.kind,ok.glob,ok.blt,ok.above,ok.inj,ok.has,ok.cab,ok.hd,ok.frames,ok.stk,ok.exf,ok.bs,ok.bsz,ok.noex,ok.exfs,ok.funs,ok.frf⟩
theorem Inv.toT (I:Inv X pins σ H s):Inv (cxT X (X.pn++pins) E') [] σ H s:=⟨I.ok.toT,I.os,I.bare,I.base,I.loc,I.cell,I.free,I.freeC,fun p hp=>I.pin p (by
 have hp:p∈(X.pn++pins)++[]:=hp
 rwa [List.append_nil] at hp),I.hok,I.len⟩
theorem Inv.ofT {pins':List (Addr×Obj)} (ok:X.Ok) (I:Inv (cxT X (X.pn++pins) E') pins' σ H s):Inv X pins σ H s:=⟨ok,I.os,I.bare,I.base,I.loc,I.cell,I.free,I.freeC,fun p hp=>I.pin p (List.mem_append_left _ hp),I.hok,I.len⟩
theorem ym {body orelse : List Stmt} {h0 : ExceptHandler} {hs : List ExceptHandler} {pos : Pos} {tb : (St → XK) → TS} {te : TS} {th : TH}
    (hb : ∀ (pn' : List (Addr × Obj)) (E' : Value → Shared → Prop) (EH : St → XK), dC (CX1 X.prog X.w) (cxT X pn' E') EH → QSs (cxT X pn' E') body (tb EH)) (hh : QH X (h0 :: hs) th) (he : QSs X orelse te)
    (e1 : X.stack = X.env :: X.outer := by rfl) (e2 : X.env.frame = some X.env.locals := by rfl) (hex : X.ex = [] := by rfl) : QS X (.Try body (h0 :: hs) orelse [] pos) (vR X.K tb th te) := by
  refine ⟨fun pins s σ H D I h => ?_⟩
  let E' : Value → Shared → Prop := fun e s1 => ∃ σ1 H1 s0 C a d H', e = .ref a ∧ Inv X pins σ1 H1 s0 ∧ Fly X.prog X.w X.stack H1 s0 (.ref C) .none a d H' s1 ∧ bR X.K C ∧ th D σ1 C d H'
  have pass : dC (CX1 X.prog X.w) (cxT X (X.pn ++ pins) E') (fun σ' cls d H' => ∃ C, cls = .ref C ∧ bR X.K C ∧ th D σ' C d H') := by
    intro pins' σ1 H1 s0 e s1 I1 hx
    obtain ⟨a, C, d, H', rfl, F, C', ec, hC, ht⟩ := hx
    cases ec
    exact ⟨σ1, H1, s0, C, a, d, H', rfl, I1.ofT I.ok, F, hC, ht⟩
  refine wpAny_Try_except (wpAny_mono ((hb (X.pn ++ pins) E' _ pass).out [] s σ H _ I.toT h) (fun f s1 h1 => ?_) fun e s1 h1 => ?_)
  · cases f with
    | next =>
      obtain ⟨σ', H', J, q⟩ := h1
      exact he.out pins s1 σ' H' D (J.ofT I.ok) q
    | brk => obtain ⟨σ', H', J, q⟩ := h1; exact ⟨σ', H', J.ofT I.ok, q⟩
    | cont => obtain ⟨σ', H', J, q⟩ := h1; exact ⟨σ', H', J.ofT I.ok, q⟩
    | ret u => obtain ⟨v, σ', H', J, rv, q⟩ := h1; exact ⟨v, σ', H', J.ofT I.ok, rv, q⟩
  · obtain ⟨σ1, H1, s0, C, a, d, H', rfl, I1, F, hC, ht⟩ := h1
    obtain ⟨T, a0, hT0, hT1, f1, f2, f3, f4⟩ := F.flying I1
    have hfr := I1.ok.frames
    rw [e1] at hfr
    have f3' := f3
    rw [e1] at f3'
    have f1' := f1
    have f2' := f2
    have f4' := f4
    rw [e1] at f1' f2' f4'
    refine HT.lA hfr f3' e2 f4' f1' f2' fun h' n1 => ?_
    refine HT.jQ (s := { s1 with heap := h' }) n1.st n1.fr n1.tr fun h'' n2 => ?_
    have st : (fu s1.heap X.stack a T).StaysIn h'' := by rw [e1]; exact n2.st
    have tr : HT.TrD h'' (fu s1.heap X.stack a T) a (.ref C) a0 d .none := by rw [e1]; exact n2.tr
    have F3 := F.moved (oT := { cls := .none, data := .dict #[] }) I1.stack I1.stkFree (F.inv I1).stkFree hT0 hT1 st (n1.up.trans n2.up) tr
    exact hh.out pins s0 σ1 H1 H' C a d _ D e1 e2 hex I1 F3 hC ht
end

structure cL (K:W.Frag) (C:Addr):Prop where
 ga:W.findIn K (.ref C) "__getattribute__" =some (some (.builtin "BaseException.__getattribute__"))
 na:W.findIn K (.ref C) "__getattr__" =some none
 cl:W.findIn K (.ref C) "__class__" =some (some (.builtin "object.__class__"))
 mo:W.mroIn K C (.type "object")=some true
 mb:W.mroIn K C (.type "BaseException")=some true
section
variable {K:W.Frag} {prog:Program} {w:World} {A:Around} {E:Value→Shared→Prop} {h:Heap} {g:Array GenState} {d:Drawn} {t:Nat} {os:OsState} {a C:Addr} {o:Obj}
theorem zj {M:Model} (hx:h.get? a=some o) (hc:o.cls=.ref C):W.Looks M h (typeOf (.ref a)) (.ref C):=hc▸(W.Looks.ld hx).andThen .now
theorem Bv {R:Result→Shared→Prop} (X:K.In h) (G:cL K C) (hx:h.get? a=some o) (hc:o.cls=.ref C) (hq:R (.ok (.ret (.ref C))) ⟨h,g,d,t,os⟩):
  codeAny (model prog w) A (.call (.builtin "getset_descriptor.__get__") ⟨[.builtin "object.__class__",.ref a,.ref C],[]⟩) R ⟨h,g,d,t,os⟩:=by
 have hT5:(⟨h,g,d,t,os⟩:Shared).TypeIs (.builtin "object.__class__") "getset_descriptor" :=F.typeOf_object_class
 have f8:=W.looks_mroIn (M:=model prog w) X G.mo
 have hcB:(".".intercalate ("object.__class__".cutAt '.').dropLast)= "object" :=F.owner_object_class
 refine codeAny_call_builtin F.slot_gs_get.plain F.entry_gs_get (F.slot_gs_get.check _ _ _ _ _ _ _ _ hT5 (F.args_gs_get _ _ _) ?_)
 repeat (any_goals (first | assumption | (with_reducible refine wpAny_loadPart_at hx ?_;rw [hc]) | (rw [hcB];with_reducible refine f8.at ?_) | wp_step))
 refine ⟨Code.quiet_builtin _ (by decide +kernel),codeAny_builtin F.entry_object_class ?_⟩
 repeat (any_goals (first | assumption | (with_reducible refine wpAny_loadPart_at hx ?_;rw [hc]) | wp_step))
theorem wH {tk:Tok} {Q:Fin→Shared→Prop} (X:K.In h) (G:cL K C) (hx:h.get? a=some o) (hc:o.cls=.ref C) (hq:Q (.done (.ret (.ref C))) ⟨h,g,d,t,os⟩):
  wpAny (model prog w) A (Builtin.«object.__getattribute__» ⟨[.ref a,.str "__class__" tk],[]⟩) Q E ⟨h,g,d,t,os⟩:=by
 have hT5:(⟨h,g,d,t,os⟩:Shared).TypeIs (.builtin "object.__class__") "getset_descriptor" :=F.typeOf_object_class
 have f4:=W.looks_findIn (M:=model prog w) X G.cl
 have f5:=F.typeOf_object_class
 have f6:=F.slot_gs_get.lookup
 have f7:=F.slot_gs_set.lookup
 repeat (any_goals (first | assumption | (with_reducible refine wpAny_loadPart_at hx ?_;rw [hc]) | with_reducible refine f4.at ?_ | wp_step))
 refine Bv X G hx hc ?_
 repeat (any_goals (first | assumption | wp_step))
theorem xg {M:Model} {nameV:Value} {Q:Unit→Shared→Prop} (X:K.In h) (G:cL K C) (hx:h.get? a=some o) (hc:o.cls=.ref C) (hq:Q () ⟨h,g,d,t,os⟩):wpAny M A (checkBuiltinCall "BaseException.__getattribute__" ⟨[.ref a,nameV],[]⟩) Q E ⟨h,g,d,t,os⟩:=by
 have hk:builtinKind "BaseException.__getattribute__" =some .slot:=by decide +kernel
 have hsplit:splitId "BaseException.__getattribute__" =some ("BaseException", "__getattribute__"):=by decide +kernel
 have f8:=W.looks_mroIn (M:=M) X G.mb
 have ha:=F.args_bexc_ga (.ref a) nameV
 simp only [checkBuiltinCall,hk,hsplit]
 refine wpAny_bind ?_
 · unfold isInstance
   repeat (first | (with_reducible refine wpAny_loadPart_at hx ?_;rw [hc]) | with_reducible refine f8.at ?_ | wp_step)
   exact hq
theorem Ag {tk:Tok} {R:Result→Shared→Prop} (X:K.In h) (G:cL K C) (hx:h.get? a=some o) (hc:o.cls=.ref C) (hq:R (.ok (.ret (.ref C))) ⟨h,g,d,t,os⟩):
  codeAny (model prog w) A (.call (.builtin "BaseException.__getattribute__") ⟨[.ref a,.str "__class__" tk],[]⟩) R ⟨h,g,d,t,os⟩:=
 codeAny_call_builtin F.excAttr_ValueError.ga.plain F.entry_bexc_ga (xg X G hx hc (wH X G hx hc hq))
theorem Fo {tk:Tok} {Q:Value→Shared→Prop} (X:K.In h) (G:cL K C) (hx:h.get? a=some o) (hc:o.cls=.ref C) (hq:Q (.ref C) ⟨h,g,d,t,os⟩):
  wpAny (model prog w) A (getAttrBy (.ref a) (.str "__class__" tk) false) Q E ⟨h,g,d,t,os⟩:=by
 have f3:=F.excAttr_ValueError.ga.bind (.ref a)
 have f1:=W.looks_findIn (M:=model prog w) X G.ga
 have f2:=W.looks_findIn (M:=model prog w) X G.na
 have hx2:(Value.builtin "BaseException.__getattribute__" ==Value.builtin "object.__getattribute__")=false:=by decide +kernel
 have hx1:(onTheHeap (Value.ref C)&&Value.builtin "BaseException.__getattribute__" ==Value.builtin "object.__getattribute__")=false:=by rw [hx2];rfl
 repeat (any_goals (first | assumption | (with_reducible refine wpAny_loadPart_at hx ?_;rw [hc]) | with_reducible refine f1.at ?_ | with_reducible refine f2.at ?_ | wp_step))
 refine Ag X G hx hc ?_
 repeat (any_goals (first | assumption | wp_step))
theorem zH {Q:Option Value→Shared→Prop} (X:K.In h) (G:cL K C) (hx:h.get? a=some o) (hc:o.cls=.ref C) (hq:Q (some (.ref C)) ⟨h,g,d,t+1,os⟩):
  wpAny (model prog w) A (getAttr? (.ref a) "__class__") Q E ⟨h,g,d,t,os⟩:=by
 unfold getAttr? getAttrBy?
 repeat (any_goals (first | assumption | with_reducible apply Fo X G hx hc | wp_step))
theorem Cf {a C:Addr} (hC:bR K C) (G:cL K C):W.KitX K (.ref a) (.ref C) (fun h=>∃ o,h.get? a=some o∧o.cls=.ref C) where
 ty:=fun M h X ⟨o,hx,hc⟩=>zj hx hc
 it:=fun M h X _=>by
  obtain ⟨bm,N,nm,qn,bs,hdct,sn,sub,ab,col,dd,k0,k1,k2,k3,k5,mN,oC,_⟩:=eJ X hC
  intro A' Q' E' s' k q
  unfold isType loadHead
  exact wpAny_bind (wpAny_loadPart (k _ _ oC) (wpAny_pure q))
 ne:=fun h tp dd its n sl X htp=>by
  obtain ⟨bm,N,nm,qn,bs,hdct,sn,sub,ab,col,dd,k0,k1,k2,k3,k5,mN,oC,_⟩:=eJ X hC
  refine Bool.eq_false_iff.mpr fun q=>?_
  have e:C=tp:=Value.ref.inj (beq_iff_eq.mp q)
  subst e
  rw [oC] at htp
  have z:Value.type "type" =Value.type "tuple" :=congrArg Obj.cls (Option.some.inj htp)
  exact absurd z (by decide)
 ca:=fun {prog w A E Q s} X ⟨o,hx,hc⟩ k=>by
  obtain ⟨h,g,d,t,os⟩:=s
  exact zH X G hx hc k
end
section
variable {X:Cx}
def il (K:W.Frag):List V→Hp→VK→Prop:=fun xs H Q=>∃ a C dd b c cv,xs=[.ref a,c]∧H a=some (kK C dd a)∧bR K C∧cL K C∧aS c cv∧(∀ u,aS c u→u=cv)∧W.kitOne K (.ref C) cv=some b∧Q (.bl b) H
theorem jD:bv X (.builtin "isinstance") (il X.K):=fun pins s σ H xs us Q I r h=>by
 obtain ⟨a,C,dd,b,c,cv,rfl,ha,hC,G,rc,un,hk,q⟩:=h
 obtain ⟨u,w',rfl,r1,r2⟩:=jY r
 cases un _ r2
 cases (show u=Value.ref a from r1)
 obtain ⟨o,vs,ho,hc,_,_⟩:=Af (P:=X.prog) (w:=X.w) (I.hok a _ ha)
 exact W.kia_one (Cf hC G) I.kIn ⟨o,ho,hc⟩ hk (fun z=>nomatch z) fun tk=>⟨.bl _,H,I.tok tk,rfl,q⟩
theorem qf {x:Str} {D:Addr} {pos:Pos} (hm:X.mg x=some (.ref D)) (hg:Gl X x:=by rfl) (hd:(x==("__debug__" :Str))=false:=by decide):QE X (.Name x pos) (tC (.ref D)):=⟨rn hg hm rfl hd⟩
end
end L2
namespace HT
open PySem PyProof.Rows
section
variable {prog:Program} {w:World} {A:Around} {E:Value→Shared→Prop} {s:Shared}
theorem iS {t sl:Addr} {items:Array Value} {vl vu:Value} {lo hi:Option Int} {Q:Value→Shared→Prop} (ht:IsTup s.heap t items) (hs:s.heap.IsSliceOf sl vl vu .none) (pl:IsPart vl lo) (pu:IsPart vu hi)
  (hw:sIx items.size 0 lo=0∧sIx items.size items.size hi=items.size) (h:Q (.ref t) s):wpAny (model prog w) A (getItem (.ref t) (.ref sl)) Q E s:=by
 obtain ⟨os,hos,hcs,hds⟩:=id hs
 have hTs:s.TypeIs (.ref sl) "slice" :=⟨os,hos,hcs⟩
 unfold getItem
 try with_reducible refine wpAny_holding ?_
 first | refine wpAny_bind (wpAny_pure ?_) | skip
 refine wpAny_bind (wpAny_sequenceKey ht.typeIs (by decide) ?_)
 refine wpAny_bind (wpAny_callSpecial?_slot (name:=Str.ofString "__getitem__") ht.typeIs PyProof.Rows.slot_tuple_getitem
  (wpAny_call_entry PyProof.Rows.slot_tuple_getitem ht.typeIs entry_tuple_getitem ?_ (args_tuple_getitem _ _)))
 show wpAny _ _ (Builtin.Tuple.tupleItemsOf (.ref t)>>=_) _ _ s
 refine wpAny_bind (tupleItemsOf_ ht ?_)
 refine wpAny_bind (wpAny_typeOf hTs ?_)
 rw [if_pos (by decide)]
 refine wpAny_bind (gk hs pl pu ?_)
 have hyes:(((sIx items.size 0 lo:Nat):Int)==0&&(1:Int)==1&&(sIx items.size items.size hi - sIx items.size 0 lo)==items.size)=true:=by
  rw [hw.1,hw.2];simp
 show wpAny _ _ (if (((sIx items.size 0 lo:Nat):Int)==0&&(1:Int)==1&&(sIx items.size items.size hi - sIx items.size 0 lo)==items.size)=true then _ else _) _ _ s
 rw [if_pos hyes]
 have hte:s.TypeIs (.ref t) "tuple" :=ht.typeIs
 unfold Builtin.Tuple.tupleIsExact
 repeat (first | exact ⟨_,rfl,wpAny_pure h⟩ | (with_reducible refine wpAny_typeOf hte ?_) | wp_step)
end
section
variable {prog:Program} {w:World} {A:Around} {E:Value→Shared→Prop} {s:Shared}
theorem xo {t b:Addr} {ws:List Value} {Q:Value→Shared→Prop} (ht:IsTup s.heap t #[]) (hb:IsTup s.heap b ws.toArray) (h1:Q (.ref b) s):wpAny (model prog w) A (binaryOp .Add (.ref t) (.ref b)) Q E s:=by
 obtain ⟨⟨cls,dd,data,sl⟩,ho,hc,n,hd⟩:=id ht
 obtain ⟨⟨cls2,dd2,data2,sl2⟩,ho2,hc2,n2,hd2⟩:=id hb
 simp only at hc hd hc2 hd2
 subst hc hd hc2 hd2
 exact concat_meets ⟨_,ho,rfl⟩ ⟨_,ho2,rfl⟩ noFill_tuple_add seq_tuple_add PySem.F.slot_tuple_add PySem.F.entry_tuple_add (PySem.F.args_tuple_add_2 _ _)
  (tuple_addW0 t b #[] ws.toArray n n2 dd dd2 sl sl2 (by simp)) ⟨ho,ho2,h1⟩
end
end HT
namespace L2
open PySem PySem.Spec PyProof.Rows
theorem aq.rfl' {H:Hp}:aq H H:=fun _ _ e=>e
theorem rY {xs:List V} {lo hi:Option Int} (h:HT.sIx xs.length 0 lo=0∧HT.sIx xs.length xs.length hi=xs.length):fh xs lo hi=xs:=by
 unfold fh
 rw [h.1,h.2,List.drop_zero,Nat.sub_zero,List.take_length]
section
variable {X:Cx}
def yW:V→Option Int→Option Int→Hp→VK→Prop:=fun x lo hi H Q=>∃ a xs,x=.ref a∧H a=some (.tup xs)∧∀ p H',aq H H'→H' p=some (.tup (fh xs lo hi))→Q (.ref p) H'
theorem zD:SlR X yW:=by
 intro pins s σ H x v vl vu lo hi sl Q I rx hs pl pu h
 obtain ⟨a,xs,rfl,hx,q⟩:=h
 have hq:SqT X.K H a xs:=.inl (.inl hx)
 by_cases hw:HT.sIx xs.length 0 lo=0∧HT.sIx xs.length xs.length hi=xs.length
 · cases rx
   obtain ⟨its,r,ht,hz⟩:=I.tuple hq
   have hlen:its.toArray.size=xs.length:=by rw [List.size_toArray];exact r.length.symm
   refine ⟨"tuple",_,PyProof.Rows.slot_tuple_getitem.lookup,ht.typeIs,?_⟩
   refine HT.iS ht hs pl pu (by rw [hlen];exact hw) ?_
   exact ⟨.ref a,H,I,rfl,q a H aq.rfl' (by rw [rY hw];exact hx)⟩
 · exact Cp pins s σ H _ v vl vu lo hi sl Q I rx hs pl pu ⟨a,xs,rfl,hq,hw,fun p hp=>q p _ (aq.upd hp) (ai ..)⟩
def yw:R2:=fun x y H Q=>∃ a b xs ys,x=.ref a∧y=.ref b∧H a=some (.tup xs)∧H b=some (.tup ys)∧xs.length+ys.length≤sizeLine∧∀ p H',aq H H'→H' p=some (.tup (xs++ys))→Q (.ref p) H'
theorem zU:OpR X (binaryOp .Add) yw:=by
 intro pins s σ H x y v u Q I rx ry h
 obtain ⟨a,b,xs,ys,rfl,rfl,ha,hb,hz,q⟩:=h
 by_cases hx:xs=[]
 · subst hx
   cases rx
   cases ry
   obtain ⟨its,r1,p1,_⟩:=I.tuple (.inl (.inl ha))
   obtain ⟨its2,r2,p2,_⟩:=I.tuple (.inl (.inl hb))
   cases r1
   exact HT.xo p1 p2 ⟨.ref b,H,I,rfl,q b H aq.rfl' hb⟩
 · refine zX pins s σ H _ _ v u Q I rx ry ⟨a,b,xs,ys,rfl,rfl,.inl (.inl ha),.inl (.inl hb),hx,hz,fun e=>?_,fun _ p hp=>q p _ (aq.upd hp) (ai ..)⟩
   subst e
   exact q a H aq.rfl' (by rw [List.append_nil];exact ha)
def bg (K:W.Frag):R2:=fun x y H Q=>match x,y with
 | .int i,.int j=>Q (.int (i+j)) H
 | .str i,.str j=>i.length+j.length≤sizeLine∧Q (.str (i++j)) H
 | .ref a,.ref b=>Dn (.ref a) (.ref b) H Q∨yw (.ref a) (.ref b) H Q
 | _,_=>False
theorem bj:OpR X (binaryOp .Add) (bg X.K):=(Bc.or (sK.or (Dk.or zU))).imp fun x y H Q q=>by
 unfold bg at q
 split at q
 · exact .inl ⟨_,_,rfl,rfl,q⟩
 · exact .inr (.inl ⟨_,_,rfl,rfl,q.1,q.2⟩)
 · exact .inr (.inr q)
 · exact q.elim
def Ap (K:W.Frag):V→Option Int→Option Int→Hp→VK→Prop:=fun x lo hi H Q=>Dy K x lo hi H Q∨yW x lo hi H Q
theorem Dh:SlR X (Ap X.K):=zY.or zD
def rX (t:TE):TE:=fun σ H Q=>t σ H fun x H'=>match x with
 | .int i=>i.natAbs.log2<1920∧Q (.str (toString i)) H'
 | .str z=>z.length≤sizeLine∧Q (.str z) H'
 | _=>False
theorem tF {e:Expr} {te:TE} {pos:Pos} (h:QE X e te):QE X (.FormattedValue e (-1) none pos) (rX te):=⟨fun pins s σ H Q I q=>by
 refine FormattedValue_plain (thn (h.out pins s σ H _ I q) fun v s1 ⟨x,H1,I1,r1,q1⟩=>?_)
 cases x <;> first | exact q1.elim | skip
 · rename_i i
   obtain ⟨t,rfl⟩:=(show ∃ t,v=Value.int i t from r1)
   exact formatField_int_small q1.1 ⟨.str _,H1,I1.tok _,⟨_,rfl⟩,q1.2⟩
 · rename_i z
   obtain ⟨t,rfl⟩:=(show ∃ t,v=Value.str z t from r1)
   exact formatField_str (fun t' tk=>⟨.str _,H1,I1.tok _,⟨_,rfl⟩,q1.2⟩) q1.1⟩
def mJ : List TE → Str → TE
  | [], acc => fun σ H Q => acc.length ≤ sizeLine ∧ Q (.str acc) H
  | t :: r, acc => fun σ H Q => t σ H fun x H' => match x with
    | .str y => (acc ++ y).length ≤ sizeLine ∧ mJ r (acc ++ y) σ H' Q
    | _ => False
inductive QJ (X:Cx):List Expr→List TE→Prop where
 | nil:QJ X [] []
 | cons {e:Expr} {t:TE} {es:List Expr} {ts:List TE}:QE X e t→QJ X es ts→QJ X (e::es) (t::ts)
theorem FM {es : List Expr} {ts : List TE} (j : QJ X es ts) : ∀ {pins : List (Addr × Obj)} {s : Shared} {σ : St} {H : Hp} {Q : VK} {acc : Str}, Inv X pins σ H s → mJ ts acc σ H Q → wpAny (model X.prog X.w) X.A (joinParts acc (evalEach es X.env)) (EP X pins σ Q) X.xe s := by
  induction j with
  | nil => intro pins s σ H Q acc I q; exact joinParts_nil ⟨.str _, H, I.tok _, ⟨_, rfl⟩, q.2⟩ q.1
  | cons h _ ih =>
    intro pins s σ H Q acc I q
    refine joinParts_cons (thn (h.out pins s σ H _ I q) fun v s1 ⟨x, H1, I1, r1, q1⟩ => ?_)
    cases x <;> first | exact q1.elim | skip
    rename_i z
    obtain ⟨t, rfl⟩ := (show ∃ t, v = Value.str z t from r1)
    exact ⟨q1.1, ih I1 q1.2⟩
theorem uH {v1 v2:Expr} {bK:List Expr} {ts:List TE} {pos:Pos} (j:QJ X (v1::v2::bK) ts):QE X (.JoinedStr (v1::v2::bK) pos) (mJ ts Str.empty):=⟨fun pins s σ H Q I q=>JoinedStr_many (FM j I q)⟩
end
theorem nO:bootBuiltins "ValueError" =some (.type "ValueError"):=by decide +kernel
theorem gh {K:W.Frag} {C D:Addr} {b:Bool} (h:W.mroIn K C (.ref D)=some b):dY K C D=some b:=by
 unfold W.mroIn W.clsIn at h
 unfold dY
 split at h
 · rename_i cd sl e
   rw [e]
   dsimp only [Option.bind] at h ⊢
   split at h
   · cases h
   · exact h
 · cases h
theorem Fun.okN {P : Program} {w : World} {K : W.Frag} {mg : Str → Option Value} {base : Heap} {CX : CXT} {x qual : Str} {st : Stmt} {f : Addr} {fd : FuncData} {N ps : List Str} {k : Nat} {sp : Sp} (F : Fun K x qual st f fd) (S : az N ps (al st)) (len : ∀ vs H Q E, sp vs H Q E → vs.length = ps.length)
  (hbody : ∀ (cdv : Value) (A : Around) (outer : List Env) (s : Shared) (H : Hp) (vs : List V) (Q : VK) (E : XK), aY k (A.deeper (envOfC qual (al st) s.heap.objs.size f cdv)) → sp vs H Q E →
   ∃ t, PSs (cy CX P w K mg base N qual (al st) f cdv A outer s H E).nox (aJ st) t ∧ t { nx := fun _ H' => Q .non H', rt := Q } (start N vs) H) : aM P w K mg base CX (k + 1) f fd ps sp := by
 obtain ⟨oc, od, kV, doc, pm, an, cdv, ct, osl, rfl, lk, hcd⟩ := F.ex
 refine yG lk hcd S len fun A outer s H vs Q E hr hsp => ?_
 obtain ⟨t, h, q⟩ := hbody cdv A outer s H vs Q E hr hsp
 exact ⟨t, h.nox, q⟩
section
variable {X:Cx}
def CD:V→Option Int→Option Int→Hp→VK→Prop:=fun x lo hi H Q=>∃ z,x=.str z∧z.length≤sizeLine∧Q (.str (Txt.slice z lo hi)) H
theorem Du : SlR X CD := by
  intro pins s σ H x v vl vu lo hi sl Q I rx hs pl pu h
  obtain ⟨z, rfl, hz, q⟩ := h
  obtain ⟨t, rfl⟩ := (show ∃ t, v = Value.str z t from rx)
  refine ⟨"str", _, F.slot_str_getitem.lookup, typeIs_str _ _ _, ?_⟩
  have fin : ∀ (l u : Option (Int × Tok)), l.map (·.1) = lo → u.map (·.1) = hi → s.heap.IsSlice sl l u none → wpAny (model X.prog X.w) X.A (getItem (.str z t) (.ref sl)) (EP X pins σ Q) X.xe s := fun l u e1 e2 hs' => by
    subst e1 e2
    refine wpAny_getItem_str_slice (l := l) (u := u) (st := none) hs' rfl (post_val_or_str ⟨Nat.le_trans (Txt.slice_le z _ _) hz, fun t' k => ⟨.str _, H, I.tok k, ⟨_, rfl⟩, q⟩⟩)
  obtain ⟨os, hos, hcs, hds⟩ := hs
  cases pl with
  | none => cases pu with
    | none => exact fin none none rfl rfl ⟨os, hos, hcs, hds⟩
    | int j tj => exact fin none (some (j, tj)) rfl rfl ⟨os, hos, hcs, hds⟩
  | int i ti => cases pu with
    | none => exact fin (some (i, ti)) none rfl rfl ⟨os, hos, hcs, hds⟩
    | int j tj => exact fin (some (i, ti)) (some (j, tj)) rfl rfl ⟨os, hos, hcs, hds⟩
def pV (K:W.Frag):V→Option Int→Option Int→Hp→VK→Prop:=fun x lo hi H Q=>Ap K x lo hi H Q∨CD x lo hi H Q
theorem lb:SlR X (pV X.K):=Dh.or Du
def lX:V→Bool
 | .int _=>true
 | .str _=>true
 | _=>false
theorem tz {A:Around} {s:Shared} {x y:V} {u v:Value} (rx:aS x u) (ry:aS y v) (hx:lX x=true) (hy:lX y=true):PySem.SeqAt.EqAt A s u v (decide (x=y)):=by
 cases x <;> first | cases hx | skip
 all_goals (cases y <;> first | cases hy | skip)
 · obtain ⟨t,rfl⟩:=rx;obtain ⟨t',rfl⟩:=ry
   have e:=PySem.SeqAt.EqAt.int_int (A:=A) (s:=s) ‹Int› t ‹Int› t'
   rename_i i j
   have e2:decide (V.int i=V.int j)=(i==j):=by rw [iW (f:=V.int) fun _ _ e=>V.int.inj e];rfl
   rw [e2];exact PySem.SeqAt.EqAt.int_int i t j t'
 · obtain ⟨t,rfl⟩:=rx;obtain ⟨t',rfl⟩:=ry
   exact PySem.SeqAt.EqAt.int_str _ _ _ _
 · obtain ⟨t,rfl⟩:=rx;obtain ⟨t',rfl⟩:=ry
   exact PySem.SeqAt.EqAt.str_int _ _ _ _
 · obtain ⟨t,rfl⟩:=rx;obtain ⟨t',rfl⟩:=ry
   rename_i i j
   have e2:decide (V.str i=V.str j)=(i==j):=by
    rw [iW (f:=V.str) fun _ _ e=>V.str.inj e]
    by_cases h:i=j
    · rw [h];simp
    · rw [decide_eq_false h];exact (beq_eq_false_iff_ne.mpr h).symm
   rw [e2];exact PySem.SeqAt.EqAt.str_str i t j t'
theorem ui {xs ys:List V}:decide (xs=ys)=((List.range (min xs.length ys.length)).all (fun j=>decide (xs[j]?=ys[j]?))&&xs.length==ys.length):=by
 by_cases h:xs=ys
 · subst h;simp
 · rw [decide_eq_false h]
   by_cases hl:xs.length=ys.length
   · rw [hl,Nat.min_self,beq_self_eq_true,Bool.and_true]
     symm
     rw [List.all_eq_false]
     apply Classical.byContradiction
     intro hn
     apply h
     apply List.ext_getElem? fun i=>?_
     by_cases hi:i<ys.length
     · apply Classical.byContradiction
       intro hne
       exact hn ⟨i,List.mem_range.mpr hi,by simpa using hne⟩
     · rw [List.getElem?_eq_none (by omega),List.getElem?_eq_none (by omega)]
   · have:(xs.length==ys.length)=false:=by simpa using hl
     rw [this,Bool.and_false]
def BR (K:W.Frag):R2:=fun x y H Q=>∃ a b xs ys,x=.ref a∧y=.ref b∧SqT K H a xs∧SqT K H b ys∧xs.all lX=true∧ys.all lX=true∧Q (.bl (decide (xs=ys))) H
theorem Bl (hu:X.A.units<cLine):OpR X (compareOp .Eq) (BR X.K):=by
 intro pins s σ H x y v u Q I rx ry h
 obtain ⟨a,b,xs,ys,rfl,rfl,ha,hb,px,py,q⟩:=h
 cases rx
 cases ry
 obtain ⟨its,r1,p1,_⟩:=I.tuple ha
 obtain ⟨its2,r2,p2,_⟩:=I.tuple hb
 have l1:=r1.length
 have l2:=r2.length
 refine PySem.SeqAt.eq_tupleAt (e:=fun j=>decide (xs[j]?=ys[j]?)) p1 p2 hu (fun j h1 h2=>?_) ?_
 · have h1:j<its.length:=by simpa using h1
   have h2:j<its2.length:=by simpa using h2
   have e1:xs[j]?=some xs[j]:=List.getElem?_eq_getElem (by omega)
   have e2:ys[j]?=some ys[j]:=List.getElem?_eq_getElem (by omega)
   obtain ⟨u1,g1,ru1⟩:=r1.get e1
   obtain ⟨u2,g2,ru2⟩:=r2.get e2
   have g1':its.toArray[j]=u1:=by
    rw [List.getElem?_eq_getElem h1] at g1;simpa using Option.some.inj g1
   have g2':its2.toArray[j]=u2:=by
    rw [List.getElem?_eq_getElem h2] at g2;simpa using Option.some.inj g2
   rw [g1',g2',e1,e2]
   have:decide (some xs[j]=some ys[j])=decide (xs[j]=ys[j]):=by simp
   rw [this]
   exact tz ru1 ru2 (List.all_eq_true.mp px _ (List.getElem_mem _)) (List.all_eq_true.mp py _ (List.getElem_mem _))
 · have e:=ui (xs:=xs) (ys:=ys)
   rw [l1,l2] at e
   simp only [List.size_toArray]
   rw [← e]
   exact ⟨.bl _,H,I,rfl,q⟩
def yf:List V→Hp→VK→Prop:=fun xs H Q=>match xs with
 | [.str z]=>∃ n,PySem.intText? z=some n∧z.length≤640∧Q (.int n) H
 | [.bl b]=>Q (.int (if b then 1 else 0)) H
 | _=>False
theorem GY:bv X (.type "int") yf:=fun pins s σ H xs us Q I r h=>by
 unfold yf at h
 split at h
 · obtain ⟨n,h1,h2,q⟩:=h
   obtain ⟨u,rfl,ru⟩:=dZ r
   obtain ⟨t,rfl⟩:=ru
   exact W.KIN.call_text h1 h2 ⟨.int n,H,I.tok _,⟨_,rfl⟩,q⟩
 · obtain ⟨u,rfl,ru⟩:=dZ r
   cases ru
   exact call_int_bool ⟨.int _,H,I.tok _,⟨_,rfl⟩,h⟩
 · exact h.elim
end
end L2
namespace HT
open PySem PyProof.Rows
section
variable {prog:Program} {w:World} {A:Around} {E:Value→Shared→Prop} {s:Shared}
theorem pq {it t:Addr} {i:Nat} {items:Array Value} {x:Value} {Q:Value→Shared→Prop} (hit:s.heap.IsTupleIter it t i) (ht:s.heap.IsTuple t items) (hx:items[i]?=some x)
  (hQ:∀ h',h'.IsTupleIter it t (i+1)→Heap.SameBut it s.heap h'→Q x { s with heap:=h' }):wpAny (model prog w) A (Builtin.SmallTypes.nextOf (.ref it)) Q E s:=by
 obtain ⟨o,ho,hc,hd⟩:=id hit
 obtain ⟨ol,hol,_,nl,hdl⟩:=ht
 unfold Builtin.SmallTypes.nextOf
 refine wpAny_bind (wpAny_callSpecial?_slot (name:=Str.ofString "__next__") hit.typeIs F.slot_tuple_iterator_next
  (wpAny_call_entry F.slot_tuple_iterator_next hit.typeIs F.entry_tuple_iterator_next ?_ (F.args_tuple_iterator_next_1 _)))
 show wpAny _ _ (field (.ref it) 0>>=_) _ _ s
 refine wpAny_bind (wpAny_field ho hd (x:=.ref t) rfl ?_)
 show wpAny _ _ (if (Value.ref t==Value.none)=true then _ else _) _ _ s
 rw [if_neg (show ¬ ((Value.ref t==Value.none)=true) from Bool.false_ne_true)]
 show wpAny _ _ (field (.ref it) 1>>=_) _ _ s
 refine wpAny_bind (wpAny_field ho hd (x:=.int i 0) rfl ?_)
 show wpAny _ _ (seqItems? (.ref t)>>=_) _ _ s
 refine wpAny_bind (wpAny_seqItems hol hdl ?_)
 simp only [Int.toNat_natCast,hx]
 refine wpAny_bind (wpAny_setField ho hd (by simp) (wpAny_pure ⟨x,rfl,wpAny_pure (hQ _ ?_ (Heap.SameBut.update ..))⟩))
 exact ⟨_,Heap.get?_update_self _ ho (Obj.isFreed_of_fields (Obj.data_mapFields hd _)),(Obj.cls_mapFields ..).trans hc,by rw [Obj.data_mapFields hd];simp [rawInt]⟩
end
abbrev itO (t:Addr):Obj:={ cls:=.type "tuple_iterator",data:=.fields #[.ref t,.int 0 0] }

end HT
namespace L2
open PySem PySem.Spec PyProof.Rows
section
variable {X:Cx} {pins:List (Addr×Obj)} {σ:St} {H:Hp} {s:Shared} {h':Heap}
theorem Inv.turnedL {t':Nat} {fp:List Addr} (I:Inv X pins σ H s) (k:∀ b o,b∉fp→s.heap.get? b=some o→h'.get? b=some o) (hf:∀ b∈fp,gc X pins H b):Inv X pins σ H { s with heap:=h',toks:=t' }:=by
 have nit:∀ b u,H b=some u→b∉fp:=fun b u e z=>by rw [(hf b z).1] at e;cases e
 refine I.step (g':=s.gens) (d':=s.drawn) (ch:=fp) (fun b hb=>?_) (fun b o _ _ hc e _=>k b o hc e) (fun b o _ _ hc e _=>⟨o.slots,k b o hc e⟩) (fun _ _ _ _ n=>n)
   (fun b o hc e=>⟨o,k b o hc e⟩) (fun _ _ e=>e) (fun _ _ _ e=>e) (fun b ps e=>⟨#[],by rw [e];simp⟩) (fun m hm=>?_) (fun b u e=>?_) I.bare
 · obtain ⟨f0,f1,f2,f3,f4,f5⟩:=hf b hb
   exact ⟨f3,f1,f4,f5⟩
 · obtain ⟨o,es,ep,ho,r⟩:=hm
   exact ⟨o,es,ep,k _ o (fun z=>(hf _ z).2.1 rfl) ho,r⟩
 · refine (I.hok b u e).stay (fun c v hc q=>k c v ?_ q) (fun _ q=>q) fun _ _ q=>q
   rcases hc with z | z
   · rw [z];exact nit b u e
   · exact nit c _ z
end
section
variable {X:Cx} {pins:List (Addr×Obj)} {σ:St} {H H1:Hp} {s s0:Shared} {a:Addr} {o:HO}
theorem Inv.track2 (I0:Inv X pins σ H1 s0) (I:Inv X pins σ H s) (new:s0.heap.objs.size≤a) (hn:H a=none) (ok:aU X.prog X.w (upd H a o) s.heap a o):Inv X pins σ (upd H a o) s:=by
 have ne:∀ b u,s0.heap.get? b=some u→b≠a:=fun b u e=>Nat.ne_of_lt (Nat.lt_of_lt_of_le (Heap.lt_size e) new)
 have ne0:∀ b u,X.s₀.heap.get? b=some u→b≠a:=fun b u e=>Nat.ne_of_lt (Nat.lt_of_lt_of_le (Heap.lt_size e) (Nat.le_trans I0.sz new))
 have nL:X.env.locals≠a:=by
   obtain ⟨m,⟨o',_,_,e,_⟩,_⟩:=I0.loc
   exact ne _ _ e
 refine ⟨I.ok,I.os,I.bare,⟨I.base.keep,I.base.slot,fun b u e n hx=>?_,I.base.there,fun b xs e=>?_,fun b u v e=>?_,fun b ps e=>?_⟩,I.loc,I.cell,?_,fun x c e=>?_,fun p hp=>?_,fun b u e=>?_,I.len⟩
 · rw [ao (ne0 b u e)];exact I.base.free b u e n hx
 · have:=I.base.tups b xs e
   rw [ao (aw this hn)];exact this
 · have:=I.base.frzs b u v e
   rw [ao (aw this hn)];exact this
 · obtain ⟨more,this⟩:=I.base.tbls b ps e
   exact ⟨more,by rw [ao (aw this hn)];exact this⟩
 · rw [ao nL];exact I.free
 · obtain ⟨v,o',e',_⟩:=I0.cell x c e
   rw [ao (ne _ _ e')];exact I.freeC x c e
 · obtain ⟨h1,h2,h3⟩:=I.pin p hp
   exact ⟨h1,by rw [ao (ne _ _ (I0.pin p hp).1)];exact h2,h3⟩
 · by_cases hb:b=a
   · subst hb
     rw [ai] at e;cases e
     exact ok
   · rw [ao hb] at e
     exact (I.hok b u e).stay (fun c v _ q=>q) (fun c q=>by
      have:c≠a:=aw q hn
      rw [ao this];exact q) fun c xs q=>by
      have:c≠a:=aw q hn
      rw [ao this];exact q
end
section
variable {X:Cx} {a b:Expr} {t:TA} {p pos ep:Pos} {elts:List Expr} {ek:Nat}
theorem uC:bootBuiltins "zip" =some (.type "zip"):=by decide +kernel
end
theorem BJ:bootBuiltins "int" =some (.type "int"):=by decide +kernel
section
variable {X:Cx} {a b:Expr} {t:TA} {p pos ep px py:Pos} {elts:List Expr} {ek:Nat} {x y:Str} {iter:Expr} {wi:TI} {tS:TS}
theorem vn (i j:Nat) (hN:X.N.Nodup) {body:List Stmt} (hi:QI X (.Tuple [.Name x px,.Name y py] ek ep) iter wi) (hb:QSs X body tS) (hp:PassesOwn (model X.prog X.w) X.A X.env X.xe) (hc:X.calm=true:=by rfl)
  (hj:X.N[i]?=some x:=by rfl) (hx:Loc X.env.scope x:=by first | exact .inl rfl | exact .inr rfl) (hf:X.fn x=true∨X.env.scope.names.lookup x=some .local:=by first | exact .inl rfl | exact .inr rfl)
  (hj2:X.N[j]?=some y:=by rfl) (hx2:Loc X.env.scope y:=by first | exact .inl rfl | exact .inr rfl) (hf2:X.fn y=true∨X.env.scope.names.lookup y=some .local:=by first | exact .inl rfl | exact .inr rfl)
  (hs:∀ x,foldedSetIterable iter X.env x=pure x:=by intro _;rfl):QS X (.For (.Tuple [.Name x px,.Name y py] ek ep) iter body [] pos) (fJ wi (mK X.K 2 (eK (au i) (eK (au j) mz))) tS):=
 ⟨vb hp hc hi.out (uf hc (iK (ij hN hj hx hf) (iK (ij hN hj2 hx2 hf2) qX))) hb.out hs⟩
end
def cm (C:Addr) (m:Str) (sp:Sp) (E:St→XK) (ta:TE) (t:TA):TE:=fun σ H Q=>ta σ H fun x H1=>∃ a dx fs,x=.ref a∧H1 a=some (.ins C dx fs)∧fs.lookup m=none∧t σ H1 fun vs H2=>sp (x::vs) H2 Q (E σ)
def lE (C:Addr) (sp:Sp) (E:St→XK) (t:TA):TE:=fun σ H Q=>t σ H fun vs H1=>∀ x dx,H1 x=none→H1 dx=none→dx≠x→
 sp (.ref x::vs) (upd (upd H1 dx (.own x)) x (.ins C dx [])) (fun v H2=>v=.non∧Q (.ref x) H2) (E σ)
section
variable {X:Cx} {CX:CXT} {k:Nat} {f C:Addr} {fd:FuncData} {ps:List Str} {sp:Sp} {E:St→XK} {x m fl:Str} {p pos apos pos':Pos} {e o value:Expr} {es:List Expr} {ta tv to:TE} {t:TA}
theorem dL (he:QE X e ta) (hb:attributeBase e fl X.env (eval e X.env)=eval e X.env:=by rfl):QE X (.Attribute e fl pos) (eF X.K ta fl):=⟨BS he.out hb⟩
theorem iA (ho:QE X o to) (hv:QE X value tv) (hs:swapsWith value (some (.Attribute o fl pos')) pos.line X.env=pure false:=by rfl):QS X (.Assign [.Attribute o fl pos'] value pos) (ma X.K to tv fl):=⟨Ci ho.out hv.out hs⟩
theorem cK {pl : Sem Bool} (he : QE X o ta) (c : Cls X.K C) (hm : gf X.K C m f) (F : aM X.prog X.w X.K X.mg X.base CX k f fd ps sp) (hr : aY k X.A) (hb : bA X.K fd ps []) (hx : dC CX X E) (ha : QA X (e :: es) t)
  (hs : aX (e :: es) = true := by rfl)
  (ht : eval (.Call (.Attribute o m apos) (e :: es) [] pos) X.env = (do
   let ov ← eval o X.env
   standAt apos.atName
   let (f, first) ← holding [ov] (getMethod ov m pl)
   callWith pos f first (backTo pos (starEach (e :: es) X.env)) (backToKw pos (keywordEach [] X.env))) := by rfl) :
  QE X (.Call (.Attribute o m apos) (e :: es) [] pos) (cm C m sp E ta t) := ⟨fun pins s σ H Q I h => by
 have h' : (bz e && aX es) = true := hs
 refine W.methodCall_KW (pl := pl) (thn (he.out pins s σ H _ I h) fun u s1 ⟨x, H1, I1, rx, a, dx, fs, ex, ea, l, q⟩ => ?_) ht
 subst ex
 obtain rfl : u = Value.ref a := rx
 refine kX I1 ea c hm l ?_
 refine W.callWith_K (first := [.ref a]) (h₀ := X.base) I.ok.mod.kin hm.kp (thn (ha.out pos pins s1 σ H1 _ I1 q) fun us s2 ⟨vs, H2, I2, r, q2⟩ => ⟨I2.kIn, ?_⟩)
  (aP (Bool.and_eq_true_iff.mp h').1 es X.env) (bI (Bool.and_eq_true_iff.mp h').2)
 exact jF (us := .ref a :: us) (vs := .ref a :: vs) F hr hb hx I2 (.cons rfl r) q2⟩
theorem kB {pl : Sem Bool} (he : QE X o ta) (c : Cls X.K C) (hm : gf X.K C m f) (F : aM X.prog X.w X.K X.mg X.base CX k f fd ps sp) (hr : aY k X.A) (hb : bA X.K fd ps []) (hx : dC CX X E)
  (ht : eval (.Call (.Attribute o m apos) [] [] pos) X.env = (do
   let ov ← eval o X.env
   standAt apos.atName
   let (f, first) ← holding [ov] (getMethod ov m pl)
   callWith pos f first (backTo pos (starEach [] X.env)) (backToKw pos (keywordEach [] X.env))) := by rfl) :
  QE X (.Call (.Attribute o m apos) [] [] pos) (cm C m sp E ta aj) := ⟨fun pins s σ H Q I h => by
 refine W.methodCall_KW (pl := pl) (thn (he.out pins s σ H _ I h) fun u s1 ⟨x, H1, I1, rx, a, dx, fs, ex, ea, l, q⟩ => ?_) ht
 subst ex
 obtain rfl : u = Value.ref a := rx
 refine kX I1 ea c hm l ?_
 exact W.callWith_K0 (first := [.ref a]) I1.kIn hm.kp (jF (us := [.ref a]) (vs := [.ref a]) F hr hb hx I1 (.cons rfl .nil) q)⟩
theorem ny {pins : List (Addr × Obj)} {σ : St} {H : Hp} {s : Shared} {Q : VK} {us : List Value} {vs : List V} (M : Mk X.K C f) (F : aM X.prog X.w X.K X.mg X.base CX k f fd ps sp) (hr : aY (k + 1) X.A) (hb : bA X.K fd ps [])
    (hx : dC CX X E) (I : Inv X pins σ H s) (r : aR vs us)
    (h : ∀ x dx, H x = none → H dx = none → dx ≠ x → sp (.ref x :: vs) (upd (upd H dx (.own x)) x (.ins C dx [])) (fun v H2 => v = .non ∧ Q (.ref x) H2) (E σ)) :
    wpAny (model X.prog X.w) X.A (call (.ref C) us) (EP X pins σ Q) X.xe s := by
  have hq := h (s.heap.objs.size + 1) s.heap.objs.size (I.hok.fresh (Nat.le_succ _)) (I.hok.fresh (Nat.le_refl _)) (Nat.ne_of_lt (Nat.lt_succ_self _))
  have I2 := Inv.made (C := C) I
  have r2 : aR (V.ref (s.heap.objs.size + 1) :: vs) (Value.ref (s.heap.objs.size + 1) :: us) := .cons rfl r
  have hl : (Value.ref (s.heap.objs.size + 1) :: us).length = ps.length := by
    have e := r2.length
    rw [F.len _ _ _ _ hq] at e
    exact e.symm
  have hb' := hb _ (Value.ref (s.heap.objs.size + 1) :: us) I2.kIn (by rw [List.append_nil]; exact hl)
  rw [List.append_nil] at hb'
  refine wpAny_call (vQ (f := f) I.kIn M.makes M.init (beq_iff_eq.mp M.fn) (codeAny_mono (F.run _ X.stack _ _ ⟨Value.ref (s.heap.objs.size + 1) :: us, []⟩ (Value.ref (s.heap.objs.size + 1) :: us) _ _ (E σ) (hr.make C us [])
    (I2.env0.make C us []) hb' r2 hq) fun r s' hq' => ?_))
  cases r with
  | error e => exact hx pins σ _ _ e s' I2 hq'
  | ok fl =>
    cases fl with
    | ret u =>
      obtain ⟨v, H', I3, rv, ev, q3⟩ := I2.after hq'
      subst ev
      exact ⟨rv, ⟨V.ref (s.heap.objs.size + 1), H', I3, rfl, q3⟩⟩
    | next => exact False.elim hq'
    | brk => exact False.elim hq'
    | cont => exact False.elim hq'
theorem zt (M:Mk X.K C f) (F:aM X.prog X.w X.K X.mg X.base CX k f fd ps sp) (hr:aY (k+1) X.A) (hm:X.mg x=some (.ref C)) (hb:bA X.K fd ps []) (hx:dC CX X E) (ha:QA X (e::es) t)
  (hg:Gl X x:=by rfl) (hdb:(x==("__debug__" :Str))=false:=by decide) (hs:aX (e::es)=true:=by rfl):QE X (.Call (.Name x p) (e::es) [] pos) (lE C sp E t):=⟨fun pins s σ H Q I h=>by
 have h':(bz e&&aX es)=true:=hs
 refine wpAny_Call_Name_kw (fw I hg hm ?_ hdb)
 refine W.callWith_K (h₀:=X.base) I.ok.mod.kin M.kp (thn (ha.out pos pins s σ H _ I h) fun us s1 ⟨vs,H1,I1,r,q⟩=>⟨I1.kIn,?_⟩) (aP (Bool.and_eq_true_iff.mp h').1 es X.env) (bI (Bool.and_eq_true_iff.mp h').2)
 exact ny M F hr hb hx I1 r q⟩
theorem xL (M:Mk X.K C f) (F:aM X.prog X.w X.K X.mg X.base CX k f fd ps sp) (hr:aY (k+1) X.A) (hm:X.mg x=some (.ref C)) (hb:bA X.K fd ps []) (hx:dC CX X E)
  (hg:Gl X x:=by rfl) (hdb:(x==("__debug__" :Str))=false:=by decide):QE X (.Call (.Name x p) [] [] pos) (lE C sp E aj):=⟨fun pins s σ H Q I h=>by
 refine wpAny_Call_Name_kw (fw I hg hm ?_ hdb)
 exact W.callWith_K0 I.kIn M.kp (ny (us:=[]) M F hr hb hx I .nil h)⟩
end
mutual
inductive eC (K:W.Frag) (H:Hp):V→PyData→Prop
 | non:eC K H .non .none
 | bl (b):eC K H (.bl b) (.bool b)
 | int (i):eC K H (.int i) (.int i)
 | str (z):eC K H (.str z) (.str z)
 | lst {a xs ds}:SqL K H a xs→DatVs K H xs ds→eC K H (.ref a) (.list ds)
 | tup {a xs ds}:SqT K H a xs→DatVs K H xs ds→eC K H (.ref a) (.tuple ds)
inductive DatVs (K:W.Frag) (H:Hp):List V→List PyData→Prop
 | nil:DatVs K H [] []
 | cons {x xs d ds}:eC K H x d→DatVs K H xs ds→DatVs K H (x::xs) (d::ds)
end
section
variable {X:Cx}
mutual
theorem cX {pins : List (Addr × Obj)} {σ : St} {H : Hp} {s : Shared} (I : Inv X pins σ H s) : ∀ {x : V} {d : PyData}, eC X.K H x d → ∀ {v : Value}, aS x v → ∃ as, Reads s.heap v d as
  | _, _, .non, _, r => by cases r; exact ⟨_, .none⟩
  | _, _, .bl b, _, r => by cases r; exact ⟨_, .bool b⟩
  | _, _, .int i, _, r => by obtain ⟨t, rfl⟩ := r; exact ⟨_, .int i t⟩
  | _, _, .str z, _, r => by obtain ⟨t, rfl⟩ := r; exact ⟨_, .str z t⟩
  | _, _, .lst h hs, _, r => by
    cases r
    obtain ⟨its, r1, ⟨o, n, h1, h2, _, h3⟩, _⟩ := I.list h
    obtain ⟨as, ra⟩ := datVs_reads I hs r1
    exact ⟨_, .list h1 h2 h3 (by simpa using ra)⟩
  | _, _, .tup h hs, _, r => by
    cases r
    obtain ⟨its, r1, ⟨o, h1, h2, n, h3⟩, _⟩ := I.tuple h
    obtain ⟨as, ra⟩ := datVs_reads I hs r1
    exact ⟨_, .tuple h1 h2 h3 (by simpa using ra)⟩
theorem datVs_reads {pins : List (Addr × Obj)} {σ : St} {H : Hp} {s : Shared} (I : Inv X pins σ H s) : ∀ {xs : List V} {ds : List PyData}, DatVs X.K H xs ds → ∀ {vs : List Value}, aR xs vs → ∃ as, ReadsAll s.heap vs ds as
  | _, _, .nil, _, r => by cases r; exact ⟨_, .nil⟩
  | _, _, .cons h hs, _, r => by
    cases r with
    | cons r1 r2 =>
      obtain ⟨as, a⟩ := cX I h r1
      obtain ⟨bs, b⟩ := datVs_reads I hs r2
      exact ⟨_, .cons a b⟩
end
def sW (K:W.Frag):R2:=fun x y H Q=>∃ d e,eC K H x d∧eC K H y e∧d.canLay0=true∧e.canLay0=true∧d.depth≤150∧Q (.bl (d.eqv e)) H
def xN (K:W.Frag):R2:=fun x y H Q=>∃ d e,eC K H x d∧eC K H y e∧d.canLay0=true∧e.canLay0=true∧d.depth≤150∧Q (.bl (!d.eqv e)) H
theorem CW (hu:X.A.units+150<cLine):OpR X (compareOp .Eq) (sW X.K):=by
 intro pins s σ H x y v u Q I rx ry h
 obtain ⟨d,e,hd,he,cd,ce,dp,q⟩:=h
 obtain ⟨as,ra⟩:=cX I hd rx
 obtain ⟨bs,rb⟩:=cX I he ry
 exact PySem.SeqAt.compareEq_reads ra rb cd ce (by have:=Nat.min_le_left d.depth e.depth;omega) ⟨.bl _,H,I,rfl,q⟩
theorem DA (hu:X.A.units+150<cLine):OpR X (compareOp .NotEq) (xN X.K):=by
 intro pins s σ H x y v u Q I rx ry h
 obtain ⟨d,e,hd,he,cd,ce,dp,q⟩:=h
 obtain ⟨as,ra⟩:=cX I hd rx
 obtain ⟨bs,rb⟩:=cX I he ry
 exact PySem.SeqAt.compareNe_reads ra rb cd ce (by have:=Nat.min_le_left d.depth e.depth;omega) ⟨.bl _,H,I,rfl,q⟩
theorem aY.units150 {k:Nat} {A:Around} (r:aY k A):A.units+150<cLine:=by have:=r.un;omega
def jo (K:W.Frag):R2:=fun x y H Q=>match x,y with
 | .ref a,y=>xN K (.ref a) y H Q
 | x,.ref b=>xN K x (.ref b) H Q
 | x,y=>mNe x y H Q
theorem pQ (hu:X.A.units+150<cLine):OpR X (compareOp .NotEq) (jo X.K):=((DA hu).or oNe).imp fun x y H Q q=>by
 unfold jo at q
 split at q
 · exact .inl q
 · exact .inl q
 · exact .inr q
def tP:V→List V→Hp→VK→Prop:=fun x vs H Q=>match x,vs with | .int i,[]=>Q (.int (Builtin.Int.intBits i)) H | _,_=>False
theorem Al:MtR X "int.bit_length" tP:=by
 intro pins s σ H x xs v us Q I rx rs q
 unfold tP at q
 split at q
 · obtain ⟨t,rfl⟩:=rx
   cases rs
   exact call_int_bit_length ⟨.int _,H,I.tok _,⟨_,rfl⟩,q⟩
 · exact q.elim
def wf:List V→Hp→VK→Prop:=fun xs H Q=>match xs with | [.int i,.int j]=>Q (.int (if j<i then j else i)) H | _=>False
theorem Hc (hc:X.calm=true):bv X (.builtin "min") wf:=fun pins s σ H xs us Q I r q=>by
 unfold wf at q
 split at q
 · exact va hc pins s σ H _ us Q I r ⟨_,_,rfl,q⟩
 · exact q.elim
variable {o:Expr} {to:TE} {name:Str} {apos cpos:Pos} {T id:String} {rm:V→List V→Hp→VK→Prop}
theorem DZ (pa:PlainAttrs T) (slot:Slot T name id) (hty:typeOf (.builtin id)=pure (.type "method_descriptor")) (hm:MtR X id rm) (ho:QE X o to)
 (hbase:attributeBase o name X.env (eval o X.env)=eval o X.env:=by rfl) (hline:(apos.endLine==cpos.line)=true:=by rfl):QE X (.Call (.Attribute o name apos) [] [] cpos) (wU X.K T rm to):=⟨Dd pa slot hty hm ho.out hbase hline⟩
end
theorem uk:(("" :String):Str)=Str.empty:=by decide
theorem yk : ∀ xs : List Str, Str.join "" xs = xs.foldr (· ++ ·) Str.empty
  | [] => rfl
  | [x] => (Str.append_empty x).symm
  | x :: y :: r => by
    show x ++ (("" : String) : Str) ++ Str.join "" (y :: r) = x ++ (y :: r).foldr (· ++ ·) Str.empty
    rw [yk (y :: r), uk, Str.append_empty]
theorem md (xs:List Str):Txt.join "" xs=xs.foldr (·++·) Str.empty:=(eq_of_beq (join_plain_closes "" xs)).trans (yk xs)
theorem qe : ∀ xs : List Str, (xs.foldr (· ++ ·) Str.empty).length = (xs.map (·.length)).sum
  | [] => by decide
  | x :: r => by
    show (x ++ r.foldr (· ++ ·) Str.empty).length = _
    rw [strLen_append, qe r, List.map_cons, List.sum_cons]
theorem ay {n:Nat} (h:n≤1000000):n≤sizeLine:=by rw [sizeLine_eq];omega
theorem yP (k:Nat):((2^k:Nat):Int)=(2:Int)^k:=by simp
theorem pL {K:W.Frag} {H:Hp} {Q:VK} {p:Addr} {xs:List V} {i:Int} (hp:H p=some (.lst xs)) (h0:0≤i) (h1:i<xs.length) (q:∀ v∈xs,Q v H):rIx K (.ref p) (.int i) H Q:=by
 refine .inl ⟨p,xs,i,_,rfl,rfl,SqL.of hp,qx h0 h1,q _ ?_⟩
 have h2:i.toNat<xs.length:=by omega
 rw [List.getD_eq_getElem?_getD,List.getElem?_eq_getElem h2];exact List.getElem_mem h2
theorem ur {α:Type} {xs:List α} {i:Int} (h0:0≤i) (h1:i<xs.length):∃ c,atI xs i=some c:=by
 unfold atI ixN
 rw [if_pos h0,if_pos h1]
 have:i.toNat<xs.length:=by omega
 exact ⟨xs[i.toNat],by show xs[i.toNat]?=_;rw [List.getElem?_eq_getElem this]⟩
theorem kA : ∀ (xs : List Str), (∀ x ∈ xs, x.length = 1) → (xs.map (·.length)).sum = xs.length
  | [], _ => rfl
  | x :: r, h => by
    rw [List.map_cons, List.sum_cons, List.length_cons, kA r fun y hy => h y (List.mem_cons_of_mem _ hy), h x List.mem_cons_self]; omega
theorem xX {p:Prop} [Decidable p] {a b:Prop} (h1:p→a) (h2:¬ p→b):if decide p=true then a else b:=by
 by_cases h:p
 · rw [if_pos (decide_eq_true h)];exact h1 h
 · rw [if_neg (by rw [decide_eq_false h];decide)];exact h2 h
theorem ww (xs:List Str) (h:∀ x∈xs,x.length=1):(Txt.join "" xs).length=xs.length:=by rw [md,qe,kA xs h]
section
variable {X:Cx}
theorem aY.units1 {k:Nat} {A:Around} (r:aY k A):A.units+1<cLine:=by have:=r.un;omega
def DC:R2:=fun x y H Q=>∃ a v,x=.ref a∧eN H a y (some v)∧Q v H
theorem zB (hu:X.A.units+1<cLine):IxR X DC:=by
 intro value slice pins s σ H x y v u Q I rx ry h hs
 obtain ⟨a,w0,rfl,g,q⟩:=h
 obtain rfl:v=Value.ref a:=rx
 have hT:=qO I g
 have h2:wpAny (model X.prog X.w) X.A (getItem (.ref a) u) (EP X pins σ Q) X.xe s:=tW hu I g ry fun w' s3 I3 rw'=>⟨w0,H,I3,rw',q⟩
 unfold subscriptTail
 refine wpAny_bind ?_
 rw [getitemInPython_of_ne hT.not_modules]
 refine wpAny_bind (wpAny_specialOf hT PySem.F.slot_dict_getitem.lookup ?_)
 have fin:wpAny (model X.prog X.w) X.A (subscripted slice false (.ref a) u) (fun r s₃=>wpAny (model X.prog X.w) X.A (letTemporaryGo value (.ref a) r>>=fun _=>pure r) (EP X pins σ Q) X.xe s₃) X.xe s:=by
  rw [hs]
  exact wpAny_operating (wpAny_mono h2 (fun r s₃ h₃=>wpAny_bind (wpAny_letTemporaryGo (wpAny_pure h₃))) fun _ _ x=>x)
 first
  | exact wpAny_pure (wpAny_bind fin)
  | exact wpAny_bind (wpAny_pure (wpAny_bind fin))
  | exact wpAny_bind fin
def bc (K:W.Frag):R2:=fun x y H Q=>rIx K x y H Q∨DC x y H Q
theorem aL (hu:X.A.units+1<cLine):IxR X (bc X.K):=CB.or (zB hu)
def yJ:V→V→V→Hp→(Hp→Prop)→Prop:=fun o i v H Q=>∃ a H',o=.ref a∧yh H a i v H'∧Q H'
theorem xO (hu:X.A.units+1<cLine):sF X yJ:=by
 intro pins s σ H o i v ov iv u Q I ro ri rv h
 obtain ⟨a,H',rfl,g,q⟩:=h
 obtain rfl:ov=Value.ref a:=ro
 exact uK hu I g ri rv fun s4 I4=>⟨H',I4,q⟩
def pb:V→V→V→Hp→(Hp→Prop)→Prop:=fun o i v H Q=>yN o i v H Q∨yJ o i v H Q
theorem zh (hu:X.A.units+1<cLine):sF X pb:=by
 intro pins s σ H o i v ov iv u Q I ro ri rv h
 rcases h with h | h
 · exact yd pins s σ H o i v ov iv u Q I ro ri rv h
 · exact xO hu pins s σ H o i v ov iv u Q I ro ri rv h
variable {o e:Expr} {to te:TE} {p pos:Pos}
theorem pY {ti:TE} {i:Expr} (hu:X.A.units+1<cLine) (ho:QE X o to) (hi:QE X i ti) (he:QE X e te) (hs:swapsWithSole [.Subscript o i p] e pos.line X.env=pure false:=by rfl) (hw:swappedStores [.Subscript o i p] e X.env=pure none:=by rfl) (ha:∀ v,assign (.Subscript o i p) X.env v=(do let ov←holding [v] (eval o X.env);let iv←holding [v,ov] (eval i X.env);standAt p;holding [v,ov,iv] (setItem ov iv v);release [v,ov,iv] []):=by intro _;rfl):QS X (.Assign [.Subscript o i p] e pos) (aC te (sC to ti pb)):=⟨uN he.out (Cg ho.out hi.out (zh hu) ha) hs hw⟩
def qZ:R2:=fun y x H Q=>∃ a o,x=.ref a∧eN H a y o∧Q (.bl (!o.isSome)) H
theorem vw (hu:X.A.units+1<cLine):OpR X (compareOp .NotIn) qZ:=by
 intro pins s σ H x y v u Q I rx ry h
 obtain ⟨a,ov,rfl,g,q⟩:=h
 obtain rfl:u=Value.ref a:=ry
 exact zP hu I g rx fun s3 I3=>⟨.bl (!ov.isSome),H,I3,rfl,q⟩
def qY (K:W.Frag):R2:=fun y x H Q=>∃ d ds,eC K H y d∧(eC K H x (.list ds)∨eC K H x (.tuple ds))∧PyData.canLayAll0 ds=true∧d.canLay0=true∧d.depth≤140∧Q (.bl (!ds.any fun e=>e.eqv d)) H
theorem vf (hu:X.A.units+150<cLine):OpR X (compareOp .NotIn) (qY X.K):=by
 intro pins s σ H x y v u Q I rx ry h
 obtain ⟨d,ds,hd,hx,c1,c2,dp,q⟩:=h
 obtain ⟨as,ra⟩:=cX I hd rx
 have hm:X.A.units+1+min (PyData.depthAll ds) d.depth<cLine:=by have:=Nat.min_le_right (PyData.depthAll ds) d.depth;omega
 rcases hx with hx | hx
 · obtain ⟨bs,rb⟩:=cX I hx ry
   exact PySem.SeqAt.notIn_list_reads rb ra c1 c2 hm ⟨.bl _,H,I,rfl,q⟩
 · obtain ⟨bs,rb⟩:=cX I hx ry
   exact PySem.SeqAt.notIn_tuple_reads rb ra c1 c2 hm ⟨.bl _,H,I,rfl,q⟩
def mE (K:W.Frag):R2:=fun y x H Q=>qZ y x H Q∨qY K y x H Q
theorem qR (hu:X.A.units+150<cLine):OpR X (compareOp .NotIn) (mE X.K):=(vw (by omega)).or (vf hu)
def hJ:TE:=fun σ H Q=>uo σ H Q∨uQ σ H Q
theorem ia:QE X (.Dict [] [] pos) hJ:=⟨fun pins s σ H Q I h=>h.elim (xW pins s σ H Q I) (wj pins s σ H Q I)⟩
theorem vd:bv X (.builtin "len") (fun xs H Q=>∃ p kvs,xs=[.ref p]∧H p=some (.dT kvs)∧Q (.int kvs.length) H):=by
 intro pins s σ H xs us Q I r h
 obtain ⟨a,kvs,rfl,e,q⟩:=h
 obtain ⟨u,rfl,r1⟩:=dZ r
 cases r1
 obtain ⟨z,hd,ps,rel,dd⟩:=sN I.hok e
 have hl:ps.length=kvs.length:=(Paired.length rel).symm
 have hT:s.TypeIs (.ref a) "dict" :=dd.typeIs
 obtain ⟨o,es,ep,ho,hc,hdat,he,his,hn⟩:=dd
 have hsz:es.size=kvs.length:=by rw [← hl];have:=congrArg List.length he;simpa using this
 have M:MeetsIn X.prog X.w (Builtin.«dict.__len__» ⟨[.ref a],[]⟩) (fun _ R s=>s.heap.get? a=some o∧R (.ok (.ret (.int kvs.length s.toks))) { s with toks:=s.toks+1 }):=
  .of_wp fun A R s ⟨ho,h⟩=>by
   show wpAny _ _ (dictSize a>>=_) _ _ s
   unfold dictSize
   refine wpAny_bind (wpAny_bind (wpAny_dictEntries ho hdat (wpAny_pure ?_)))
   show wpAny _ _ (Builtin.Dict.pendingCount a>>=_) _ _ s
   refine wpAny_bind (wpAny_pendingCount_other hd ?_)
   refine wpAny_ret_mkInt ?_
   rw [Nat.add_zero,hsz];exact h
 refine Calls.call_function_entry kind_len plain_len entry_len (args_len1 _) ?_
 unfold Builtin.«len»
 refine wpAny_bind (m:=oneArg "len" _) (wpAny_pure ?_)
 refine wpAny_bind (m:=callSpecial? (.ref a) (Str.ofString "__len__")) (wpAny_callSpecial?_slot (name:=Str.ofString "__len__") hT F.slot_dict_len
  (call_meetsIn F.slot_dict_len hT F.entry_dict_len (F.args_dict_len_1 _) M ⟨ho,?_⟩))
 show wpAny _ _ _ _ _ { s with toks:=s.toks+1 }
 refine wpAny_bind (wpAny_holding (wpAny_pure ?_))
 refine wpAny_bind (wpAny_letGo ?_)
 have zz:kvs.length≤sizeLine:=z
 rw [sizeLine_eq] at zz
 show wpAny _ _ (if ((kvs.length:Nat):Int)<0 then _ else _) _ _ _
 rw [if_neg (by omega)]
 show wpAny _ _ (if ((kvs.length:Nat):Int)≥2^63 then _ else _) _ _ _
 rw [if_neg (by omega)]
 exact wpAny_bind (wpAny_mkInt (wpAny_pure ⟨_,rfl,⟨.int kvs.length,H,I.tok _,⟨_,rfl⟩,q⟩⟩))
def bS (K:W.Frag):List V→Hp→VK→Prop:=fun xs H Q=>BA K xs H Q∨∃ p kvs,xs=[.ref p]∧H p=some (.dT kvs)∧Q (.int kvs.length) H
theorem bU:bv X (.builtin "len") (bS X.K):=Io.or vd
def Ay (H:Hp) (a:Addr) (y d:V) (r:V) (H':Hp):Prop:=(eN H a y (some r)∧H'=H)∨(eN H a y none∧yh H a y d H'∧r=d)
theorem eX {A:Around} {E:Value→Shared→Prop} {s:Shared} {P:Program} {w:World} {K:Type} [DecidableEq K] {knd:HeapKind P w K} {d a:Addr} {xs:List (K×Addr×Value)} {k:K} {v:Value} {Q:Value→Shared→Prop} (hu:knd.room A) (hkey:knd.is s.heap k a) (hm:s.heap.DictOfH knd d xs)
   (hthere:∀ p,atKey xs k=some p→Q p.2 { s with toks:=s.toks+knd.draws k })
   (hQ:atKey xs k=none→∀ h',h'.DictOfH knd d (storedH xs k a v)→Heap.SameBut d s.heap h'→Q v { s with heap:=h',toks:=s.toks+knd.draws k })
   (hsz:xs.length≤sizeLine):
   wpAny (model P w) A (dictSetDefault d (.ref a) v) Q E s:=by
 obtain ⟨o,es,ep,ho,hc,hd,he,his,hn⟩:=hm
 unfold dictSetDefault
 try with_reducible refine wpAny_holding ?_
 refine wpAny_bind (knd.pyHash hu hkey ?_)
 refine wpAny_bind (wpAny_dictFind_heap (s:={ s with toks:=s.toks+knd.draws k }) hu hkey ho hd he his hn ?_ ?_)
 · intro hno
   have hnot:k∉xs.map (·.1):=not_mem_keys_of_get hno
   refine wpAny_bind (wpAny_rule (wpAny_bind (wpAny_updateDictKeys (hz:=by have e:=size_of_entries he;omega) (s:={ s with toks:=s.toks+knd.draws k }) ho hd (wpAny_pure (hQ (atKey_none_of_get hno) _ ⟨_,_,ep+1,Heap.get?_update_self _ ho (Obj.isFreed_of_dict (Obj.data_mapDictKeys hd _)),
     hc.mapDictKeys _,Obj.data_mapDictKeys hd _,?_,?_,?_⟩ (Heap.SameBut.update ..))))))
   · rw [storedH_new (atKey_none_of_get hno)]
     simp [he,entryOfKey]
   · rw [storedH_new (atKey_none_of_get hno)]
     intro x hx
     rcases List.mem_append.mp hx with hx | hx
     · exact knd.keeps (his x hx) ho hd (Heap.SameBut.update ..)
     · simp only [List.mem_singleton] at hx
       subst hx
       exact knd.keeps hkey ho hd (Heap.SameBut.update ..)
   · rw [storedH_new (atKey_none_of_get hno)]
     rw [List.map_append,List.nodup_append]
     refine ⟨hn,by simp,?_⟩
     intro x hx y hy
     simp only [List.map_cons,List.map_nil,List.mem_singleton] at hy
     subst hy
     exact fun e=>hnot (e▸hx)
 · intro j p hj
   refine wpAny_bind (wpAny_dictEntries (s:={ s with toks:=s.toks+knd.draws k }) ho hd ?_)
   rw [entry_at he j,hj]
   exact wpAny_bind (wpAny_rule (wpAny_pure (hthere p (atKey_of_get hn hj))))
end
theorem wq {h:Heap} {a:Addr} {its:Array Value} (p:PlainL h a its):h.IsList a its:=let ⟨o,n,e,c,_,d⟩:=p;⟨o,e,c,n,d⟩

set_option genInjectivity false in
set_option genSizeOf false in
structure cT where
 qual:Str
 body:FuncBody
 scope:Scope
 ps:List Str
 ys:List Str
def lU (t:cT) (cs:List Addr) (c:Addr) (fd:FuncData):Prop:=
 fd.qualname=t.qual∧fd.body=t.body∧fd.scope=t.scope∧fd.globals=mainGlobals∧fd.closure=t.ys.zip cs∧fd.code=.ref c∧fd.builtins=builtinsNs∧
  (∀ us:List Value,us.length=t.ps.length→bindArgs fd ⟨us,[]⟩=pure (t.ps.zip us))∧cs.Nodup∧cs.length=t.ys.length
def de (f:Addr) (t:cT) (cs:List Addr) (c:Addr):HO:=.ext fun h=>∃ od fd sl,h.get? f=some ⟨.type "function",od,.func fd,sl⟩∧lU t cs c fd
def cH (c:Addr) (qual:Str):HO:=.ext fun h=>∃ o vs tk,h.get? c=some o∧o.data=.fields vs∧vs[1]?=some (.str qual tk)
def cj (c:Addr) (v:V):HO:=.ext fun h=>∃ u o,aS v u∧h.get? c=some o∧o.data=.cell (some u)
abbrev cq (H:Hp):List Addr→List V→Prop:=Paired fun c v=>H c=some (cj c v)
structure dq (H:Hp) (f:Addr) (t:cT) (cs:List Addr) (cvs:List V):Prop where
 ex:∃ c,H f=some (de f t cs c)∧H c=some (cH c t.qual)
 cells:cq H cs cvs
theorem cq.mem {H : Hp} {cs : List Addr} {cvs : List V} (h : cq H cs cvs) : ∀ c ∈ cs, ∃ v, H c = some (cj c v) := by
  induction h with
  | nil => intro c hc; cases hc
  | cons r t ih =>
    intro c hc
    rcases List.mem_cons.mp hc with rfl | hc
    · exact ⟨_, r⟩
    · exact ih c hc
theorem cq.get {H : Hp} {cs : List Addr} {cvs : List V} (h : cq H cs cvs) : ∀ {i : Nat} {v : V}, cvs[i]? = some v → ∃ c, cs[i]? = some c ∧ H c = some (cj c v) := by
  induction h with
  | nil => intro i v e; cases e
  | @cons c w cs ws r t ih =>
    intro i v e
    cases i with
    | zero => cases e; exact ⟨c, rfl, r⟩
    | succ i => exact ih e
def cA (cs:List Addr) (H:Hp):Hp:=fun b=>if b∈cs then none else H b
def ck (cs:List Addr) (H H':Hp):Hp:=fun b=>if b∈cs then H b else H' b
theorem gm {cs:List Addr} {H:Hp} {b:Addr} (h:b∈cs):cA cs H b=none:=if_pos h
theorem cJ {cs:List Addr} {H:Hp} {b:Addr} (h:b∉cs):cA cs H b=H b:=if_neg h
theorem iy {cs:List Addr} {H H':Hp} {b:Addr} (h:b∈cs):ck cs H H' b=H b:=if_pos h
theorem cg {cs:List Addr} {H H':Hp} {b:Addr} (h:b∉cs):ck cs H H' b=H' b:=if_neg h
theorem uB {cs:List Addr} {H H':Hp} {d:Addr} {o:HO} (h:d∉cs):ck cs H (upd H' d o)=upd (ck cs H H') d o:=by
 funext b
 by_cases hb:b∈cs
 · have:b≠d:=fun e=>h (e▸hb)
   rw [iy hb,ao this,iy hb]
 · rw [cg hb]
   by_cases e:b=d
   · subst e;rw [ai,ai]
   · rw [ao e,ao e,cg hb]
theorem cq.notin {H:Hp} {cs:List Addr} {cvs:List V} (h:cq H cs cvs) {b:Addr} {o:HO} (e:H b=some o) (hn:∀ φ,o≠ .ext φ):b∉cs:=fun hb=>by
 obtain ⟨v,ev⟩:=h.mem b hb
 rw [e] at ev
 exact hn _ (Option.some.inj ev)
theorem cq.hide {H:Hp} {cs:List Addr} {cvs:List V} (h:cq H cs cvs) {b:Addr} {o:HO} (e:H b=some o) (hn:∀ φ,o≠ .ext φ):cA cs H b=some o:=by
 rw [cJ (h.notin e hn)];exact e
theorem aq.hide {H H':Hp} (cs:List Addr) (s:aq (cA cs H) H'):aq H (ck cs H H'):=fun b o e=>by
 by_cases hb:b∈cs
 · rw [iy hb];exact e
 · rw [cg hb];exact s _ _ (by rw [cJ hb];exact e)
section
variable {P:Program} {w:World} {fs:List Addr} {H H':Hp} {h h':Heap} {cs:List Addr} {cvs:List V}
theorem zJ (hc:cq H cs cvs) (ok:HOk P w H h):HOk P w (cA cs H) h:=fun b o e=>by
 by_cases hb:b∈cs
 · rw [gm hb] at e;cases e
 · rw [cJ hb] at e
   exact (ok b o e).stay (fun c u _ q=>q) (fun c q=>hc.hide q fun φ z=>nomatch z) fun c xs q=>hc.hide q fun φ z=>nomatch z
theorem rk (hc:cq H cs cvs) (hfs:∀ b∈fs,H b=none) (ok:HOk P w H h) (u:Un fs [] (cA cs H) H' h h') (ok':HOk P w H' h'):Un fs [] H (ck cs H H') h h'∧HOk P w (ck cs H H') h':=by
 have obj:∀ c∈cs,∃ v o,H c=some (cj c v)∧h.get? c=some o∧h'.get? c=some o∧H' c=none:=fun c hm=>by
   obtain ⟨v,ev⟩:=hc.mem c hm
   obtain ⟨_,⟨o,eo⟩,_⟩:=(show aU P w H h c (cj c v) from ok c _ ev)
   refine ⟨v,o,ev,eo,u.keep c o eo (gm hm) (fun z=>?_) (by simp),u.free c o eo (gm hm) (by simp)⟩
   rw [hfs c z] at ev;cases ev
 have nin:∀ b,H b=none→b∉cs:=fun b e hb=>by
   obtain ⟨v,ev⟩:=hc.mem b hb
   rw [e] at ev;cases ev
 have nin':∀ b o,H' b=some o→b∉cs:=fun b o e hb=>by
   obtain ⟨_,_,_,_,_,z⟩:=obj b hb
   rw [e] at z;cases z
 refine ⟨⟨fun b o e n hb hx=>u.keep b o e (by rw [cJ (nin b n)];exact n) hb hx,fun b o e n hb hx=>u.slot b o e (by rw [cJ (nin b n)];exact n) hb hx,
   fun b o e n hx=>by rw [cg (nin b n)];exact u.free b o e (by rw [cJ (nin b n)];exact n) hx,u.there,fun b xs e=>?_,fun b o v e=>?_,fun b ps e=>?_⟩,fun b o e=>?_⟩
 · have hb:=hc.notin e fun φ z=>nomatch z
   rw [cg hb];exact u.tups b xs (by rw [cJ hb];exact e)
 · have hb:=hc.notin e fun φ z=>nomatch z
   rw [cg hb];exact u.frzs b o v (by rw [cJ hb];exact e)
 · have hb:=hc.notin e fun φ z=>nomatch z
   rw [cg hb];exact u.tbls b ps (by rw [cJ hb];exact e)
 · by_cases hb:b∈cs
   · rw [iy hb] at e
     obtain ⟨v,o',ev,e1,e2,_⟩:=obj b hb
     rw [e] at ev;cases ev
     obtain ⟨φ1,_,φ3⟩:=(show aU P w H h b (cj b v) from ok b _ e)
     exact ⟨φ3 h h' φ1 fun q hq=>by rw [e1] at hq;cases hq;exact e2,⟨o',e2⟩,φ3⟩
   · rw [cg hb] at e
     exact (ok' b o e).stay (fun c u _ q=>q) (fun c q=>by rw [cg (nin' c _ q)];exact q) fun c xs q=>by rw [cg (nin' c _ q)];exact q
theorem CR.back {outer : List Env} {s s' : Shared} {Q : VK} {E : XK} {r : Result} (hc : cq H cs cvs) (hfs : ∀ b ∈ frs outer, H b = none) (ok : HOk P w H s.heap)
    (h : CR (CX1 P w) outer P w (cA cs H) s (fun v H' => Q v (ck cs H H')) (fun c a H' => E c a (ck cs H H')) r s') : CR (CX1 P w) outer P w H s Q E r s' := by
  cases r with
  | error e =>
    obtain ⟨a, C, d, H', rfl, F, q⟩ := h
    obtain ⟨u, k⟩ := rk hc hfs ok F.un F.hok
    have na : a ∉ cs := fun hb => by
      obtain ⟨v, ev⟩ := hc.mem a hb
      obtain ⟨_, ⟨o, eo⟩, _⟩ := (show aU P w H s.heap a (cj a v) from ok a _ ev)
      rw [F.new] at eo; cases eo
    obtain ⟨oe, vs, a0, T, oT, ts, t1, t2, td, t3, t4, t5, t6, t7, t8, t9, t10, t11⟩ := F.tr
    have nT : T ∉ cs := fun hb => by
      obtain ⟨v, ev⟩ := hc.mem T hb
      obtain ⟨_, ⟨o, eo⟩, _⟩ := (show aU P w H s.heap T (cj T v) from ok T _ ev)
      rw [t10] at eo; cases eo
    exact ⟨a, C, d, _, rfl, ⟨F.os, F.bare, u, k, F.new, by rw [cg na]; exact F.free, ⟨oe, vs, a0, T, oT, ts, t1, t2, td, t3, t4, t5, t6, t7, t8, t9, t10, by rw [cg nT]; exact t11⟩⟩, q⟩
  | ok fl =>
    cases fl with
    | ret u =>
      obtain ⟨v, H', os, bare, un, hok, rv, q⟩ := h
      obtain ⟨u', k⟩ := rk hc hfs ok un hok
      exact ⟨v, _, os, bare, u', k, rv, q⟩
    | next => exact False.elim h
    | brk => exact False.elim h
    | cont => exact False.elim h
end
structure fE (P:Program) (w:World) (K:W.Frag) (mg:Str→Option Value) (base:Heap) (k:Nat) (t:cT) (sp:Sp):Prop where
 run:∀ (A:Around) (outer:List Env) (s:Shared) (H:Hp) (f:Addr) (cs:List Addr) (us:List Value) (vs cvs:List V) (Q:VK) (E:XK),aY k A→ip P w K mg base A outer s H→dq H f t cs cvs→aR vs us→vs.length=t.ps.length→
  sp (vs++cvs) (cA cs H) (fun v H'=>Q v (ck cs H H')) (fun c a H'=>E c a (ck cs H H'))→codeAny (model P w) A (.call (.ref f) ⟨us,[]⟩) (CR (CX1 P w) outer P w H s Q E) s
def dI (N:List Str) (vs cvs:List V):St:=vs.map some++(List.replicate (N.length - vs.length - cvs.length) none++cvs.map some)
def gr (P:Program) (w:World) (K:W.Frag) (mg:Str→Option Value) (base:Heap) (N:List Str) (qual:Str) (scope:Scope) (f c:Addr) (cl:List (Str×Addr)) (A:Around) (outer:List Env) (s:Shared) (H:Hp) (E:XK):Cx where
 prog:=P
 w:=w
 K:=K
 mg:=mg
 base:=base
 A:=A.deeper (W.envX qual scope s.heap.objs.size f (.ref c) cl)
 N:=N
 s₀:=s
 H₀:=H
 env:=W.envX qual scope s.heap.objs.size f (.ref c) cl
 outer:=outer
 stack:=W.envX qual scope s.heap.objs.size f (.ref c) cl::outer
 ex:=[]
 calm:=true
 fn:=fun _=>false
 pn:=[]
 xe:=fun e s'=>wpAny (model P w) (A.deeper (W.envX qual scope s.heap.objs.size f (.ref c) cl)) (leaving (W.envX qual scope s.heap.objs.size f (.ref c) cl) e) (fun _ s''=>CX1 P w outer H s E e s'') (fun e' s''=>CX1 P w outer H s E e' s'') s'
structure eB (N ps ys:List Str) (sc:Scope):Prop where
 kind:sc.kind=.function
 co:sc.isCoroutine=false
 gen:sc.isGenerator=false
 nd:N.Nodup
 pre:N.take ps.length=ps
 suf:N.drop (N.length - ys.length)=ys
 le:ps.length+ys.length≤N.length
 par:∀ x∈ps,sc.names.lookup x=some .local
 nocell:∀ x∈sc.names,x.2≠ .cell
 fr:∀ x∈ys,sc.names.lookup x=some .free
 frs:∀ y∈sc.names,y.2=.free→y.1∈ys
theorem lQ {ys : List Str} {cs : List Addr} (hl : cs.length = ys.length) (nd : ys.Nodup) : ∀ {i : Nat} {y : Str} {c : Addr}, ys[i]? = some y → cs[i]? = some c → (ys.zip cs).lookup y = some c := by
  induction ys generalizing cs with
  | nil => intro i y c e; cases e
  | cons a r ih =>
    intro i y c e1 e2
    cases cs with
    | nil => cases e2
    | cons b cs =>
      cases i with
      | zero => cases e1; cases e2; show (List.lookup _ ((_, _) :: _)) = _; rw [List.lookup_cons]; simp
      | succ i =>
        have hne : y ≠ a := fun e => (List.nodup_cons.mp nd).1 (e ▸ List.mem_of_getElem? (show r[i]? = some y from e1))
        show (List.lookup y ((a, b) :: r.zip cs)) = _
        rw [List.lookup_cons, show (y == a) = false from by simpa using hne]
        exact ih (by simpa using hl) (List.nodup_cons.mp nd).2 (show r[i]? = some y from e1) (show cs[i]? = some c from e2)
theorem fK {ys : List Str} {cs : List Addr} : ∀ {y : Str} {c : Addr}, (ys.zip cs).lookup y = some c → ∃ i : Nat, ys[i]? = some y ∧ cs[i]? = some c := by
  induction ys generalizing cs with
  | nil => intro y c e; cases e
  | cons a r ih =>
    intro y c e
    cases cs with
    | nil => cases e
    | cons b cs =>
      have e : (List.lookup y ((a, b) :: r.zip cs)) = some c := e
      rw [List.lookup_cons] at e
      by_cases hy : (y == a) = true
      · rw [hy] at e; cases e; exact ⟨0, by simpa using (eq_of_beq hy).symm, rfl⟩
      · rw [show (y == a) = false from by simpa using hy] at e
        obtain ⟨i, h1, h2⟩ := ih e
        exact ⟨i + 1, h1, h2⟩
theorem mn {ps : List Str} {us : List Value} (nd : ps.Nodup) : ∀ {i : Nat} {x : Str} {u : Value}, ps[i]? = some x → us[i]? = some u → (ps.zip us).reverse.lookup x = some u := by
  induction ps generalizing us with
  | nil => intro i x u e; cases e
  | cons a r ih =>
    intro i x u e1 e2
    cases us with
    | nil => cases e2
    | cons b us =>
      show (List.lookup x ((a, b) :: r.zip us).reverse) = _
      rw [List.reverse_cons, List.lookup_append]
      cases i with
      | zero =>
        cases e1; cases e2
        have : (r.zip us).reverse.lookup a = none := by
          rw [List.lookup_eq_none_iff]
          intro p hp
          have := (List.of_mem_zip (List.mem_reverse.mp hp)).1
          simp only [beq_eq_false_iff_ne, ne_eq, bne_iff_ne]
          intro e
          exact (List.nodup_cons.mp nd).1 (by rw [← e] at this; exact this)
        rw [this]; simp
      | succ i =>
        rw [ih (List.nodup_cons.mp nd).2 (show r[i]? = some x from e1) (show us[i]? = some u from e2)]; rfl
section
variable {P:Program} {w:World} {K:W.Frag} {mg:Str→Option Value} {base:Heap} {N ps ys:List Str} {qual:Str} {scope:Scope} {f c:Addr} {A:Around} {outer:List Env} {s:Shared} {H:Hp} {E:XK} {us:List Value} {vs cvs:List V} {cs:List Addr} {h1:Heap} {tk:Nat}
theorem rz (S:eB N ps ys scope) (hd:A.handled=none) (e0:ip P w K mg base A outer s H) (ca:cq H cs cvs) (hcs:cs.Nodup) (hcl:cs.length=ys.length) (hl:vs.length=ps.length) (r:aR vs us)
   (hns:h1.Ns s.heap.objs.size (fun x=>(ps.zip us).reverse.lookup x)) (hk:∀ b o,s.heap.get? b=some o→h1.get? b=some o):
   Inv (gr P w K mg base N qual scope f c (ys.zip cs) A outer s (cA cs H) E) [] (dI N vs cvs) (cA cs H) { s with heap:=h1,toks:=tk }:=by
 have ndY:ys.Nodup:=by rw [← S.suf];exact S.nd.sublist (List.drop_sublist _ _)
 have ndP:ps.Nodup:=by rw [← S.pre];exact S.nd.sublist (List.take_sublist _ _)
 have lcv:cvs.length=ys.length:=by rw [← hcl];exact (Paired.length ca).symm
 have cellOf:∀ c∈cs,∃ v,h1.IsCell c v:=fun c hm=>by
   obtain ⟨v,ev⟩:=ca.mem c hm
   obtain ⟨⟨u,o,_,eo,hd⟩,_,_⟩:=(show aU P w H s.heap c (cj c v) from e0.hok c _ ev)
   exact ⟨_,o,hk _ _ eo,hd⟩
 have memC:∀ x c,(ys.zip cs).lookup x=some c→c∈cs:=fun x c e=>by
   obtain ⟨i,_,e2⟩:=fK e
   exact List.mem_of_getElem? e2
 have noA:∀ b:Addr,b∉(gr P w K mg base N qual scope f c (ys.zip cs) A outer s (cA cs H) E).ex:=fun b z=>absurd (show b∈([]:List Addr) from z) (by simp)
 have hid:∀ b,H b=none→cA cs H b=none:=fun b e=>by
   by_cases hb:b∈cs
   · exact gm hb
   · rw [cJ hb];exact e
 refine ⟨⟨e0.mod,S.kind,rfl,rfl,Nat.le_refl _,fun y z c h1 h2=>?_,fun y hy=>?_,fun y c hf _=>?_,fun _=>hd,Around.frames_deeper e0.frames,.inr ⟨rfl,rfl⟩,fun b z=>absurd z (noA b),fun b o e=>⟨(e0.bs b o e).1,hid b (e0.bs b o e).2⟩,e0.bsz,fun b _ _=>noA b,fun b z=>absurd z (noA b),e0.funs,fun b hb=>hid b (e0.frf b hb)⟩,
   rfl,e0.bare,Un.kept hk,⟨_,hns,fun i y v q1 q2 q3=>?_⟩,fun y c h=>cellOf c (memC y c h),hid _ (e0.hok.fresh (Nat.le_refl _)),fun y c h=>gm (memC y c h),fun p hp=>absurd (show p∈([]:List (Addr×Obj)) from hp) (by simp),(zJ ca e0.hok).kept hk,?_⟩
 · obtain ⟨i,e1,e2⟩:=fK (show (ys.zip cs).lookup y=some c from h1)
   obtain ⟨j,e3,e4⟩:=fK (show (ys.zip cs).lookup z=some c from h2)
   have:i=j:=by
     obtain ⟨a1,b1⟩:=List.getElem?_eq_some_iff.mp e2
     obtain ⟨a2,b2⟩:=List.getElem?_eq_some_iff.mp e4
     exact (List.getElem_inj hcs).mp (b1.trans b2.symm)
   subst this
   rw [e1] at e3;exact Option.some.inj e3
 · have hy:scope.names.lookup y=some .cell∨scope.names.lookup y=some .free:=hy
   rcases hy with hy | hy
   · exact absurd rfl (S.nocell _ (PySem.mem_of_lookup hy))
   · obtain ⟨i,hi,e⟩:=List.mem_iff_getElem.mp (S.frs _ (PySem.mem_of_lookup hy) rfl)
     have hi2:i<cs.length:=by omega
     exact ⟨cs[i],lQ hcl ndY (List.getElem?_eq_some_iff.mpr ⟨hi,e⟩) (List.getElem?_eq_getElem hi2)⟩
 · exact absurd (show false=true from hf) Bool.false_ne_true
 · unfold dI at q2
   by_cases hi:i<vs.length
   · rw [List.getElem?_append_left (by simpa using hi),List.getElem?_map] at q2
     have ha:vs[i]?=some v:=by
       cases e:vs[i]? with
       | none=>rw [e] at q2;cases q2
       | some a=>rw [e] at q2;cases q2;rfl
     obtain ⟨u,hu,rv⟩:=r.get ha
     have hp:ps[i]?=some y:=by
       rw [← S.pre,List.getElem?_take_of_lt (by omega)];exact q1
     exact ⟨u,rv,.inl ⟨S.par y (List.mem_of_getElem? hp),mn ndP hp hu⟩⟩
   · rw [List.getElem?_append_right (by simpa using hi),List.length_map] at q2
     by_cases hj:i - vs.length<N.length - vs.length - cvs.length
     · rw [List.getElem?_append_left (by simpa using hj),List.getElem?_replicate] at q2
       split at q2 <;> cases q2
     · rw [List.getElem?_append_right (by simpa using hj),List.length_replicate,List.getElem?_map] at q2
       have ha:cvs[i - vs.length - (N.length - vs.length - cvs.length)]?=some v:=by
        cases e:cvs[i - vs.length - (N.length - vs.length - cvs.length)]? with
        | none=>rw [e] at q2;cases q2
        | some a=>rw [e] at q2;cases q2;rfl
       have hle:=S.le
       have hiN:i<N.length:=(List.getElem?_eq_some_iff.mp q1).1
       have hx:i - vs.length - (N.length - vs.length - cvs.length)=i - (N.length - ys.length):=by omega
       rw [hx] at ha
       have hy:ys[i - (N.length - ys.length)]?=some y:=by
        have e1:N.drop (N.length - ys.length)=ys:=S.suf
        have e2:(N.drop (N.length - ys.length))[i - (N.length - ys.length)]?=some y:=by
         rw [List.getElem?_drop]
         rw [show N.length - ys.length+(i - (N.length - ys.length))=i by omega];exact q1
        rw [e1] at e2;exact e2
       obtain ⟨c,ec,hc⟩:=ca.get ha
       obtain ⟨⟨u,o,ru,eo,hdo⟩,_,_⟩:=(show aU P w H s.heap c (cj c v) from e0.hok c _ hc)
       exact ⟨u,ru,.inr ⟨.inr (S.fr y (List.mem_of_getElem? hy)),c,lQ hcl ndY hy ec,o,hk _ _ eo,hdo⟩⟩
 · unfold dI
   show _=N.length
   have:=S.le
   rw [List.length_append,List.length_append,List.length_map,List.length_map,List.length_replicate]
   omega
end
section
variable {P:Program} {w:World} {K:W.Frag} {mg:Str→Option Value} {base:Heap} {k:Nat} {t:cT} {N:List Str} {sp:Sp}
theorem uz {body : List Stmt} (hb : t.body = .stmts body) (S : eB N t.ps t.ys t.scope)
    (hbody : ∀ (f c : Addr) (cl : List (Str × Addr)) (A : Around) (outer : List Env) (s : Shared) (H : Hp) (vs cvs : List V) (Q : VK) (E : XK), aY k (A.deeper (W.envX t.qual t.scope s.heap.objs.size f (.ref c) cl)) → vs.length = t.ps.length → cvs.length = t.ys.length → sp (vs ++ cvs) H Q E →
      ∃ td, PSs (gr P w K mg base N t.qual t.scope f c cl A outer s H E) body td ∧ td { nx := fun _ H' => Q .non H', rt := Q } (dI N vs cvs) H) : fE P w K mg base (k + 1) t sp := by
  refine ⟨fun A outer s H f cs us vs cvs Q E hr e0 ca r hl hsp => ?_⟩
  obtain ⟨c, hf, hcc⟩ := ca.ex
  have KX : K.In s.heap := e0.mod.kin.keeps fun b o e => (e0.bs b o e).1
  have lim : s.heap.NoLimit := e0.mod.nolimit.keeps fun b o e => (e0.bs b o e).1
  obtain ⟨⟨od, fd, sl, ho, h1, h2, h3, h4, h5, h6, h7, h8, h9, h10⟩, _, _⟩ := (show aU P w H s.heap f (de f t cs c) from e0.hok f _ hf)
  obtain ⟨⟨o, vs', tk, hco, hdo, hv⟩, _, _⟩ := (show aU P w H s.heap c (cH c t.qual) from e0.hok c _ hcc)
  have hcd : s.heap.CodeRec fd.code fd.qualname := ⟨c, o, vs', tk, h6, hco, hdo, by rw [h1]; exact hv⟩
  refine codeAny_mono (codeAny_call_function (R := CR (CX1 P w) outer P w (cA cs H) s (fun v H' => Q v (ck cs H H')) (fun c a H' => E c a (ck cs H H'))) hr.depth ho rfl (by rw [h3]; exact S.co) (by rw [h3]; exact S.gen) (h2.trans hb) hcd ?_) fun r s' h => CR.back ca.cells e0.frf e0.hok h
  rw [h8 us (by rw [← r.length]; exact hl), h3, h4, h5, h1, h6, h7]
  refine wpAny_pure (wpAny_newFunctionEnv S.nocell (fun y hy => S.par y.1 (List.of_mem_zip hy).1) (fun h' hns hsb => ⟨lim.fresh _ hsb, ?_⟩) S.kind)
  have hk : ∀ b o, s.heap.get? b = some o → h'.get? b = some o := fun b o e => hsb.extBut b o (Nat.ne_of_lt (Heap.lt_size e)) (Heap.get?_push_of_some _ e)
  have lcv : cvs.length = t.ys.length := by rw [← h10]; exact (Paired.length ca.cells).symm
  obtain ⟨td, ht, hq⟩ := hbody f c (t.ys.zip cs) A outer s (cA cs H) vs cvs _ _ (hr.deeper _) hl lcv hsp
  have I := rz (tk := s.toks + (t.ps.zip us).length) (qual := t.qual) (f := f) (c := c) (E := fun c a H' => E c a (ck cs H H')) S hr.hd e0 ca.cells h9 h10 hl r hns hk
  show codeAny _ _ (.func body (W.envX t.qual t.scope s.heap.objs.size f (.ref c) (t.ys.zip cs))) _ _
  refine codeAny_func ?_
  refine wpAny_mono (ht [] _ (dI N vs cvs) _ _ I hq) (fun fl s' hs => ?_) fun e s' hs => hs
  cases fl with
  | ret u =>
    obtain ⟨v, σ', H', J, rv, q⟩ := hs
    exact ⟨v, H', J.os, J.bare, J.base, J.hok, rv, q⟩
  | next =>
    obtain ⟨σ', H', J, q⟩ := hs
    exact ⟨V.non, H', J.os, J.bare, J.base, J.hok, rfl, q⟩
  | brk =>
    obtain ⟨_, _, _, q⟩ := hs
    exact False.elim q
  | cont =>
    obtain ⟨_, _, _, q⟩ := hs
    exact False.elim q
theorem qW {body : Expr} (hb : t.body = .expr body) (S : eB N t.ps t.ys t.scope)
  (hbody : ∀ (f c : Addr) (cl : List (Str × Addr)) (A : Around) (outer : List Env) (s : Shared) (H : Hp) (vs cvs : List V) (Q : VK) (E : XK), aY k (A.deeper (W.envX t.qual t.scope s.heap.objs.size f (.ref c) cl)) → vs.length = t.ps.length → cvs.length = t.ys.length → sp (vs ++ cvs) H Q E →
   ∃ te, PE (gr P w K mg base N t.qual t.scope f c cl A outer s H E) body te ∧ te (dI N vs cvs) H Q) : fE P w K mg base (k + 1) t sp := by
 refine ⟨fun A outer s H f cs us vs cvs Q E hr e0 ca r hl hsp => ?_⟩
 obtain ⟨c, hf, hcc⟩ := ca.ex
 have KX : K.In s.heap := e0.mod.kin.keeps fun b o e => (e0.bs b o e).1
 have lim : s.heap.NoLimit := e0.mod.nolimit.keeps fun b o e => (e0.bs b o e).1
 obtain ⟨⟨od, fd, sl, ho, h1, h2, h3, h4, h5, h6, h7, h8, h9, h10⟩, _, _⟩ := (show aU P w H s.heap f (de f t cs c) from e0.hok f _ hf)
 obtain ⟨⟨o, vs', tk, hco, hdo, hv⟩, _, _⟩ := (show aU P w H s.heap c (cH c t.qual) from e0.hok c _ hcc)
 have hcd : s.heap.CodeRec fd.code fd.qualname := ⟨c, o, vs', tk, h6, hco, hdo, by rw [h1]; exact hv⟩
 refine codeAny_mono (W.kla_callFunE (R := CR (CX1 P w) outer P w (cA cs H) s (fun v H' => Q v (ck cs H H')) (fun c a H' => E c a (ck cs H H'))) hr.depth ho rfl (by rw [h3]; exact S.co) (by rw [h3]; exact S.gen) (h2.trans hb) hcd ?_) fun r s' h => CR.back ca.cells e0.frf e0.hok h
 rw [h8 us (by rw [← r.length]; exact hl), h3, h4, h5, h1, h6, h7]
 refine wpAny_pure (wpAny_newFunctionEnv S.nocell (fun y hy => S.par y.1 (List.of_mem_zip hy).1) (fun h' hns hsb => ⟨lim.fresh _ hsb, ?_⟩) S.kind)
 have hk : ∀ b o, s.heap.get? b = some o → h'.get? b = some o := fun b o e => hsb.extBut b o (Nat.ne_of_lt (Heap.lt_size e)) (Heap.get?_push_of_some _ e)
 have lcv : cvs.length = t.ys.length := by rw [← h10]; exact (Paired.length ca.cells).symm
 obtain ⟨te, ht, hq⟩ := hbody f c (t.ys.zip cs) A outer s (cA cs H) vs cvs _ _ (hr.deeper _) hl lcv hsp
 have I := rz (tk := s.toks + (t.ps.zip us).length) (qual := t.qual) (f := f) (c := c) (E := fun c a H' => E c a (ck cs H H')) S hr.hd e0 ca.cells h9 h10 hl r hns hk
 show codeAny _ _ (.expr body (W.envX t.qual t.scope s.heap.objs.size f (.ref c) (t.ys.zip cs))) _ _
 refine W.kla_codeExpr ?_
 refine wpAny_mono (ht [] _ (dI N vs cvs) _ _ I hq) (fun v s' hs => ?_) fun e s' hs => hs
 obtain ⟨x, H', J, rv, q⟩ := hs
 exact ⟨x, H', J.os, J.bare, J.base, J.hok, rv, q⟩
end
def BM (mg:Str→Option Value) (h:Heap):Prop:=∃ bm ob,mg "__builtins__" =some (.ref bm)∧bm≠builtinsNs∧h.get? bm=some ob∧ob.cls=.type "module" ∧ob.dict=some builtinsNs∧ob.data=.plain
section
variable {X:Cx} {pins:List (Addr×Obj)} {σ:St} {H:Hp} {s:Shared} {P c:Addr} {ps:Array Value} {t:cT} {cs:List Addr} {h':Heap} {tk:Nat} {fd:FuncData}
theorem pd {more:Array Value} (I:Inv X pins σ H s) (hP:H P=some (.tbl ps)) (hx:Heap.ExtBut P s.heap h') (hge:s.heap.objs.size≤c) (hlt:c<h'.objs.size) (hrec:h'.CodeRec (.ref c) t.qual)
   (htb:h'.get? P=some (W.tabObj (ps++more))) (hfd:lU t cs c fd):
   Inv X pins σ (upd (upd (upd H P (.tbl (ps++more))) c (cH c t.qual)) h'.objs.size (de h'.objs.size t cs c)) { s with heap:=h'.push { cls:=.type "function",data:=.func fd },toks:=tk }:=by
 have hcn:H c=none:=I.hok.fresh hge
 have hfn:H h'.objs.size=none:=I.hok.fresh (Nat.le_of_lt (Nat.lt_of_le_of_lt hge hlt))
 have ncP:c≠P:=(aw hP hcn).symm
 have nfP:h'.objs.size≠P:=(aw hP hfn).symm
 have ncf:c≠h'.objs.size:=Nat.ne_of_lt hlt
 have old:∀ b o,s.heap.get? b=some o→b≠c∧b≠h'.objs.size:=fun b o e=>⟨Nat.ne_of_lt (Nat.lt_of_lt_of_le (Heap.lt_size e) hge),Nat.ne_of_lt (Nat.lt_of_lt_of_le (Heap.lt_size e) (Nat.le_of_lt (Nat.lt_of_le_of_lt hge hlt)))⟩
 have keepP:∀ b o,b≠P→s.heap.get? b=some o→(h'.push { cls:=.type "function",data:=.func fd }).get? b=some o:=fun b o hb e=>Heap.get?_push_of_some _ (hx b o hb e)
 have neP:∀ b,H b=none→b≠P:=fun b e z=>by rw [z,hP] at e;cases e
 have obj:∀ b o,H b=some o→∃ u,s.heap.get? b=some u:=fun b o e=>iz (I.hok b o e)
 have same:∀ b o,H b=some o→b≠P→(upd (upd (upd H P (.tbl (ps++more))) c (cH c t.qual)) h'.objs.size (de h'.objs.size t cs c)) b=some o:=fun b o e hb=>by
   rw [ao (aw e hfn),ao (aw e hcn),ao hb];exact e
 refine I.un ⟨fun b o e n hb hx'=>keepP b o (neP b n) e,fun b o e n hb hx'=>⟨o.slots,keepP b o (neP b n) e⟩,fun b o e n hx'=>?_,fun b o e hx'=>?_,fun b xs e=>same b _ e (bG e hP (fun z=>nomatch z)),fun b o u e=>same b _ e (bG e hP (fun z=>nomatch z)),fun b qs e=>?_⟩ fun b o e=>?_
 · rw [ao (old b o e).2,ao (old b o e).1,ao (neP b n)];exact n
 · by_cases hb:b=P
   · subst hb;exact ⟨_,Heap.get?_push_of_some _ htb⟩
   · exact ⟨o,keepP b o hb e⟩
 · by_cases hb:b=P
   · subst hb
     rw [hP] at e;cases e
     exact ⟨more,by rw [ao nfP.symm,ao ncP.symm,ai]⟩
   · exact ⟨#[],by rw [same b _ e hb];simp⟩
 · by_cases hf:b=h'.objs.size
   · subst hf
     rw [ai] at e;cases e
     refine ⟨⟨_,fd,_,Heap.get?_push_size _ rfl,hfd⟩,⟨_,Heap.get?_push_size _ rfl⟩,?_⟩
     rintro h1 h2 ⟨od,fd',sl,e1,e2⟩ k
     exact ⟨od,fd',sl,k _ e1,e2⟩
   · rw [ao hf] at e
     by_cases hc:b=c
     · subst hc
       rw [ai] at e;cases e
       obtain ⟨c2,oc,vs,tq,e0,e1,e2,e3⟩:=hrec
       cases e0
       refine ⟨⟨oc,vs,tq,Heap.get?_push_of_some _ e1,e2,e3⟩,⟨_,Heap.get?_push_of_some _ e1⟩,?_⟩
       rintro h1 h2 ⟨o,vs,tk,a1,a2,a3⟩ k
       exact ⟨o,vs,tk,k _ a1,a2,a3⟩
     · rw [ao hc] at e
       by_cases hp:b=P
       · subst hp
         rw [ai] at e;cases e
         exact Heap.get?_push_of_some _ htb
       · rw [ao hp] at e
         refine (I.hok b o e).stay (fun a u ha q=>keepP a u ?_ q) (fun a q=>same a _ q (bG q hP (fun z=>nomatch z))) fun a xs q=>same a _ q (bG q hP (fun z=>nomatch z))
         rcases ha with rfl | ha
         · exact hp
         · exact bG ha hP (fun z=>nomatch z)
theorem qt (I:Inv X pins σ H s) (hk:∀ b o,s.heap.get? b=some o→h'.get? b=some o) (hsz:s.heap.objs.size≤h'.objs.size) (hfd:lU t cs c fd):
  Inv X pins σ (upd H h'.objs.size (de h'.objs.size t cs c)) { s with heap:=h'.push { cls:=.type "function",data:=.func fd },toks:=tk }:=by
 refine I.laid (a:=h'.objs.size) (o:=de h'.objs.size t cs c) (fun b u e=>Heap.get?_push_of_some _ (hk b u e)) hsz ⟨⟨_,fd,_,Heap.get?_push_size _ rfl,hfd⟩,⟨_,Heap.get?_push_size _ rfl⟩,?_⟩
 rintro h1 h2 ⟨od,fd',sl,e1,e2⟩ k
 exact ⟨od,fd',sl,k _ e1,e2⟩
end
def mh (P : Addr) (pos : Pos) (t : cT) (cs : List Addr) : TE := fun _ H Q => ∃ ps, H P = some (.tbl ps) ∧ TriplesOk ps.toList ∧
  ((codeAmong pos ps.toList = none ∧ ∀ c f, H c = none → H f = none → c ≠ f → Q (.ref f) (upd (upd (upd H P (.tbl (ps ++ #[rawInt pos.line, rawInt pos.col, .ref c]))) c (cH c t.qual)) f (de f t cs c))) ∨
   ∃ c, codeAmong pos ps.toList = some (.ref c) ∧ ∀ f, H f = none → Q (.ref f) (upd H f (de f t cs c)))
section
variable {X:Cx} {c0 P:Addr} {params:Arguments} {scope:Scope} {pos:Pos} {t:cT} {cs:List Addr}
theorem rF {pins:List (Addr×Obj)} {σ:St} {H:Hp} {s:Shared} {ps:Array Value} (I:Inv X pins σ H s) (hP:H P=some (.tbl ps)) (B:BM X.mg X.base):
   s.heap.get? P=some (W.tabObj ps)∧s.heap.Ns mainGlobals X.mg∧mainGlobals≠P∧s.heap.BuiltinsAt X.mg P:=by
 have hPo:s.heap.get? P=some (W.tabObj ps):=I.hok P _ hP
 have hg:s.heap.Ns mainGlobals X.mg:=I.mod.glob.keeps I.bk
 have hgP:mainGlobals≠P:=fun q=>by
   obtain ⟨o,es,ep,e,hd,_⟩:=hg
   rw [q,hPo] at e;cases e;cases hd
 obtain ⟨bm,ob,b1,b2,b3,b4,b5,b6⟩:=B
 have b3':=I.bk _ _ b3
 refine ⟨hPo,hg,hgP,bm,ob,b1,b2,fun q=>?_,fun q=>?_,b3',b4,b5,b6⟩
 · obtain ⟨o,es,ep,e,hd,_⟩:=hg
   rw [q,e] at b3';cases b3';rw [hd] at b6;cases b6
 · rw [q,hPo] at b3';cases b3';cases b4
theorem yQ {body:Expr} (B:BM X.mg X.base) (C:W.CodeHd X.base c0 P) (hcode:X.env.code=.ref c0) (hcl:closureFor scope X.env=pure (t.ys.zip cs)) (nd:cs.Nodup) (hl:cs.length=t.ys.length)
   (hq:X.env.qual++ "<lambda>" =t.qual) (hb:t.body=.expr body) (hs:t.scope=scope)
   (hbind:∀ (cl:List (Str×Addr)) (pm cdv ct:Value) (us:List Value),us.length=t.ps.length→bindArgs (W.kla_fn "<lambda>" t.qual params body scope cl pm cdv ct) ⟨us,[]⟩=pure (t.ps.zip us))
   (hdef:defaultsOf params X.env=([],[]):=by rfl):QE X (.Lambda params body scope pos) (mh P pos t cs):=⟨fun pins s σ H Q I h=>by
 obtain ⟨ps,hP,ht,h⟩:=h
 obtain ⟨hPo,hg,hgP,hB⟩:=rF I hP B
 have hfd:∀ (pm ct:Value) (c:Addr),lU t cs c (W.kla_fn "<lambda>" t.qual params body scope (t.ys.zip cs) pm (.ref c) ct):=fun pm ct c=>⟨rfl,hb.symm,hs.symm,rfl,rfl,rfl,rfl,hbind _ _ _ _,nd,hl⟩
 refine W.kla_eval hdef ?_
 rw [hq]
 rcases h with ⟨hn,q⟩ | ⟨c,hf,q⟩
 · refine W.kla_makeFunction hcl I.ok.glob hg hcode (C.keeps I.bk) hPo ht hn hgP hB fun c ctv h' tk hx hge hlt hrec htb=>?_
   exact ⟨.ref h'.objs.size,_,pd I hP hx hge hlt hrec htb (hfd _ _ _),rfl,q c h'.objs.size (I.hok.fresh hge) (I.hok.fresh (Nat.le_of_lt (Nat.lt_of_le_of_lt hge hlt))) (Nat.ne_of_lt hlt)⟩
 · refine W.kla_makeFunctionHit hcl I.ok.glob hg hcode (C.keeps I.bk) hPo ht hf hB fun ctv h' tk hk hsz=>?_
   exact ⟨.ref h'.objs.size,_,qt I hk hsz (hfd _ _ _),rfl,q h'.objs.size (I.hok.fresh hsz)⟩⟩
theorem yu (i:Nat) {name:Str} {body:List Stmt} (hN:X.N.Nodup) (B:BM X.mg X.base) (C:W.CodeHd X.base c0 P) (hcode:X.env.code=.ref c0) (hcl:closureFor scope X.env=pure (t.ys.zip cs)) (nd:cs.Nodup) (hl:cs.length=t.ys.length)
   (hq:qualnameIn X.env name name=t.qual) (hb:t.body=.stmts body) (hs:t.scope=scope)
   (hbind:∀ (cl:List (Str×Addr)) (doc pm cdv ct:Value) (us:List Value),us.length=t.ps.length→bindArgs (W.fnX name t.qual params body scope cl .none .none doc pm none cdv ct) ⟨us,[]⟩=pure (t.ps.zip us))
   (hi:X.N[i]?=some name:=by rfl) (hx:Loc X.env.scope name:=by first | exact .inl rfl | exact .inr rfl) (hf:X.fn name=true∨X.env.scope.names.lookup name=some .local:=by first | exact .inl rfl | exact .inr rfl)
   (hd0:params.defaults=[]:=by rfl) (hk0:params.kw_defaults=[]:=by rfl) (ha:annTrees params none X.env=[]:=by rfl):
   QS X (.FunctionDef name params body [] none [] scope none name pos) (aC (mh P pos t cs) (au i)):=⟨fun pins s σ H D I h=>by
 obtain ⟨ps,hP,ht,h⟩:=h
 obtain ⟨hPo,hg,hgP,hB⟩:=rF I hP B
 have hfd:∀ (doc pm ct:Value) (c:Addr),lU t cs c (W.fnX name t.qual params body scope (t.ys.zip cs) .none .none doc pm none (.ref c) ct):=fun doc pm ct c=>⟨rfl,hb.symm,hs.symm,rfl,rfl,rfl,rfl,hbind _ _ _ _ _,nd,hl⟩
 refine W.nestDef_K hd0 hk0 ha ?_
 rw [hq]
 rcases h with ⟨hn,q⟩ | ⟨c,hff,q⟩
 · refine W.makeFunction_K hcl I.ok.glob hg hcode (C.keeps I.bk) hPo ht hn hgP hB fun c ctv doc h' tk hx' hge hlt hrec htb=>?_
   have I2:=pd (tk:=tk) (cs:=cs) I hP hx' hge hlt hrec htb (hfd doc ((X.mg "__name__").getD .none) ctv c)
   exact eZ I2 hN hi hx (v:=.ref h'.objs.size) rfl (fun s' I3=>⟨_,_,I3,q c h'.objs.size (I.hok.fresh hge) (I.hok.fresh (Nat.le_of_lt (Nat.lt_of_le_of_lt hge hlt))) (Nat.ne_of_lt hlt)⟩) hf
 · refine W.makeFunction_hit hcl I.ok.glob hg hcode (C.keeps I.bk) hPo ht hff hB fun ctv doc h' tk hk hsz=>?_
   have I2:=qt (tk:=tk) (cs:=cs) I hk hsz (hfd doc ((X.mg "__name__").getD .none) ctv c)
   exact eZ I2 hN hi hx (v:=.ref h'.objs.size) rfl (fun s' I3=>⟨_,_,I3,q h'.objs.size (I.hok.fresh hsz)⟩) hf⟩
end
section
variable {X:Cx} {k:Nat} {E:St→XK} {x:Str} {p pos:Pos} {e:Expr} {es:List Expr} {ta:TE}
abbrev ix:=List (cT×Sp)
def lr (ks:ix) (f:Addr) (vs:List V) (H:Hp) (Q:VK) (E:XK):Prop:=∃ ts∈ks,∃ cs cvs,dq H f ts.1 cs cvs∧vs.length=ts.1.ps.length∧ts.2 (vs++cvs) (cA cs H) (fun v H'=>Q v (ck cs H H')) (fun c a H'=>E c a (ck cs H H'))
def gs (ks:ix) (E:St→XK) (ta:TE) (t:TA):TE:=fun σ H Q=>ta σ H fun x H1=>∃ f,x=.ref f∧(∃ ts∈ks,∃ cs cvs,dq H1 f ts.1 cs cvs)∧t σ H1 fun vs H2=>lr ks f vs H2 Q (E σ)
theorem kS {P:Program} {w:World} {H:Hp} {h:Heap} {f:Addr} {t:cT} {cs:List Addr} {cvs:List V} (ok:HOk P w H h) (c:dq H f t cs cvs):W.FnAt f h:=by
 obtain ⟨c',hf,_⟩:=c.ex
 obtain ⟨⟨od,fd,sl,ho,_⟩,_,_⟩:=(show aU P w H h f (de f t cs c') from ok f _ hf)
 exact ⟨_,_,_,_,ho⟩
def mr (P:Program) (w:World) (K:W.Frag) (mg:Str→Option Value) (base:Heap) (k:Nat) (ks:ix):Prop:=∀ ts∈ks,fE P w K mg base k ts.1 ts.2
theorem fW {ks : ix} {t : TA} (hk : mr X.prog X.w X.K X.mg X.base k ks) (hr : aY k X.A) (hx : dC (CX1 X.prog X.w) X E) (hg : QE X (.Name x p) ta) (ha : QA X (e :: es) t) (hs : aX (e :: es) = true := by rfl) :
    QE X (.Call (.Name x p) (e :: es) [] pos) (gs ks E ta t) := ⟨fun pins s σ H Q I h => by
  have h' : (bz e && aX es) = true := hs
  refine wpAny_Call_Name_kw (thn (hg.out pins s σ H _ I h) fun u s1 ⟨y, H1, I1, ry, f, ey, ⟨ts, hts, cs, cvs, ca⟩, q⟩ => ?_)
  subst ey
  obtain rfl : u = Value.ref f := ry
  refine W.callWith_F (kS I1.hok ca) (thn (ha.out pos pins s1 σ H1 _ I1 q) fun us s2 ⟨vs, H2, I2, rv, ts2, hm2, cs2, cvs2, ca2, hl, hsp⟩ => ⟨kS I2.hok ca2, ?_⟩)
    (aP (Bool.and_eq_true_iff.mp h').1 es X.env) (bI (Bool.and_eq_true_iff.mp h').2)
  refine wpAny_call (codeAny_mono ((hk ts2 hm2).run X.A X.stack s2 H2 f cs2 us vs cvs2 Q (E σ) hr I2.env0 ca2 rv hl hsp) fun r s' hq => ?_)
  cases r with
  | error e => exact hx pins σ H2 s2 e s' I2 hq
  | ok fl =>
    cases fl with
    | ret u => exact I2.after hq
    | next => exact False.elim hq
    | brk => exact False.elim hq
    | cont => exact False.elim hq⟩
end
structure lR where
 nx:St→Hp→Prop
 rt:St→VK
abbrev TSM:=lR→St→Hp→Prop
def SPM (X:Cx) (pins:List (Addr×Obj)) (D:lR) (f:Flow) (s':Shared):Prop:=
 match f with
 | .next=>∃ σ' H',Inv X pins σ' H' s'∧D.nx σ' H'
 | .ret u=>∃ v σ' H',Inv X pins σ' H' s'∧aS v u∧D.rt σ' v H'
 | _=>False
structure QM (X:Cx) (st:Stmt) (t:TSM):Prop where
 out:∀ (pins:List (Addr×Obj)) (s:Shared) (σ:St) (H:Hp) (D:lR),Inv X pins σ H s→t D σ H→wpAny (model X.prog X.w) X.A (exec st X.env) (SPM X pins D) X.xe s
structure QMs (X:Cx) (st:List Stmt) (t:TSM):Prop where
 out:∀ (pins:List (Addr×Obj)) (s:Shared) (σ:St) (H:Hp) (D:lR),Inv X pins σ H s→t D σ H→wpAny (model X.prog X.w) X.A (execs st X.env) (SPM X pins D) X.xe s
def ph (t u:TSM):TSM:=fun D σ H=>t { D with nx:=fun σ' H'=>u D σ' H' } σ H
def lh (t:TS):TSM:=fun D σ H=>t { nx:=D.nx,rt:=fun _ _=>False } σ H
def qo (te:TE):TSM:=fun D σ H=>te σ H (D.rt σ)
section
variable {X:Cx} {st:Stmt} {sts l m:List Stmt} {t u:TSM} {tS:TS} {e c:Expr} {te:TE} {tc:TT} {pos:Pos}
theorem kY (h:QS X st tS):QM X st (lh tS):=⟨fun pins s σ H D I hq=>thn (h.out pins s σ H _ I hq) fun f s1 q=>by
 cases f with
 | next=>exact q
 | ret v=>obtain ⟨_,_,_,_,_,z⟩:=q;exact z.elim
 | brk=>obtain ⟨_,_,_,z⟩:=q;exact z.elim
 | cont=>obtain ⟨_,_,_,z⟩:=q;exact z.elim⟩
theorem oU (h:QE X e te):QM X (.Return (some e) pos) (qo te):=⟨fun pins s σ H D I hq=>
 wpAny_Return_some (thn (h.out pins s σ H _ I hq) fun v s1 ⟨x,H1,I1,r1,q1⟩=>⟨x,σ,H1,I1,r1,q1⟩)⟩
theorem lg (h1 : QM X st t) (h2 : QMs X sts u) : QMs X (st :: sts) (ph t u) := ⟨fun pins s σ H D I h => by
  refine wpAny_execs_cons (thn (h1.out pins s σ H _ I h) fun f s1 q => ?_)
  cases f with
  | next =>
    obtain ⟨σ', H', I', q⟩ := q
    exact h2.out pins s1 σ' H' D I' q
  | ret v => exact q
  | brk => exact q
  | cont => exact q⟩
theorem oV (h1:QM X st t):QMs X [st] t:=⟨fun pins s σ H D I h=>by
 refine wpAny_execs_cons (thn (h1.out pins s σ H D I h) fun f s1 q=>?_)
 cases f with
 | next=>exact wpAny_execs_nil q
 | ret v=>exact q
 | brk=>exact q
 | cont=>exact q⟩
end
def cG : List (Nat × Addr) → St → Hp → Hp
  | [], _, H => H
  | (i, c) :: r, σ, H => match σ[i]? with
    | some (some v) => cG r σ (upd H c (cj c v))
    | _ => cG r σ H
theorem kL {P : Program} {w : World} {fs : List Addr} {H : Hp} {h h' : Heap} {σ : St} : ∀ (cs : List (Nat × Addr)) (H' : Hp), (cs.map (·.2)).Nodup → (∀ p ∈ cs, H' p.2 = none ∧ h.objs.size ≤ p.2 ∧ ∀ v, σ[p.1]? = some (some v) → ∃ u o, aS v u ∧ h'.get? p.2 = some o ∧ o.data = .cell (some u)) →
    Un fs [] H H' h h' → HOk P w H' h' → Un fs [] H (cG cs σ H') h h' ∧ HOk P w (cG cs σ H') h'
  | [], H', _, _, u, ok => ⟨u, ok⟩
  | (i, c) :: r, H', nd, hc, u, ok => by
    unfold cG
    have ndr := (List.nodup_cons.mp nd).2
    have hcr : ∀ p ∈ r, H' p.2 = none ∧ h.objs.size ≤ p.2 ∧ ∀ v, σ[p.1]? = some (some v) → ∃ u o, aS v u ∧ h'.get? p.2 = some o ∧ o.data = .cell (some u) := fun p hp => hc p (List.mem_cons_of_mem _ hp)
    split
    · rename_i v hv
      obtain ⟨hn, hge, hcell⟩ := hc (i, c) List.mem_cons_self
      have hn : H' c = none := hn
      have hge : h.objs.size ≤ c := hge
      obtain ⟨uv, o, ru, eo, hd⟩ := hcell v hv
      have eo : h'.get? c = some o := eo
      refine kL r (upd H' c (cj c v)) ndr (fun p hp => ⟨?_, (hcr p hp).2⟩) ⟨u.keep, u.slot, fun b ob e n hx => ?_, u.there, fun b xs e => ?_, fun b ob z e => ?_, fun b ps e => ?_⟩ fun b ob e => ?_
      · have : p.2 ≠ c := fun z => (List.nodup_cons.mp nd).1 (by rw [← z]; exact List.mem_map.mpr ⟨p, hp, rfl⟩)
        rw [ao this]; exact (hcr p hp).1
      · rw [ao (Nat.ne_of_lt (Nat.lt_of_lt_of_le (Heap.lt_size e) hge))]; exact u.free b ob e n hx
      · have z := u.tups b xs e; rw [ao (aw z hn)]; exact z
      · have z := u.frzs b ob _ e; rw [ao (aw z hn)]; exact z
      · obtain ⟨more, z⟩ := u.tbls b ps e; exact ⟨more, by rw [ao (aw z hn)]; exact z⟩
      · by_cases hb : b = c
        · subst hb
          rw [ai] at e; cases e
          refine ⟨⟨uv, o, ru, eo, hd⟩, ⟨o, eo⟩, ?_⟩
          rintro h1 h2 ⟨u', o', r', e', d'⟩ k
          exact ⟨u', o', r', k _ e', d'⟩
        · rw [ao hb] at e
          exact (ok b ob e).stay (fun a q _ z => z) (fun a q => by rw [ao (aw q hn)]; exact q) fun a xs q => by rw [ao (aw q hn)]; exact q
    · exact kL r H' ndr hcr u ok
theorem Fun.okM {P : Program} {w : World} {K : W.Frag} {mg : Str → Option Value} {base : Heap} {x qual : Str} {st : Stmt} {f c0 : Addr} {fd : FuncData} {N ps : List Str} {k : Nat} {sp : Sp} {caps : Nat → List (Nat × Addr)} (F : Fun K x qual st f fd) (hcd : fd.code = .ref c0) (S : az N ps (al st)) (len : ∀ vs H Q E, sp vs H Q E → vs.length = ps.length)
    (hcaps : ∀ (L : Nat) (p : Nat × Addr), p ∈ caps L → ∃ y, N[p.1]? = some y ∧ (al st).names.lookup y = some .cell ∧ (cellsFrom (L + 1) (al st).names []).lookup y = some p.2) (hnd : ∀ L, ((caps L).map (·.2)).Nodup)
    (hbody : ∀ (A : Around) (outer : List Env) (s : Shared) (H : Hp) (vs : List V) (Q : VK) (E : XK), aY k (A.deeper (envOfC qual (al st) s.heap.objs.size f (.ref c0))) → sp vs H Q E →
      ∃ t, QMs (cy (CX1 P w) P w K mg base N qual (al st) f (.ref c0) A outer s H E) (aJ st) t ∧ t { nx := fun σ H' => (∀ p ∈ caps s.heap.objs.size, H' p.2 = none) → Q .non (cG (caps s.heap.objs.size) σ H'), rt := fun σ v H' => (∀ p ∈ caps s.heap.objs.size, H' p.2 = none) → Q v (cG (caps s.heap.objs.size) σ H') } (start N vs) H) : aM P w K mg base (CX1 P w) (k + 1) f fd ps sp := by
  obtain ⟨oc, od, kV, doc, pm, an, cdv, ct, osl, rfl, lk, hcd'⟩ := F.ex
  obtain rfl : cdv = .ref c0 := hcd
  refine ⟨len, fun A outer s H args us vs Q E hr e0 hb r hsp => ?_⟩
  have hl := len _ _ _ _ hsp
  have KX : K.In s.heap := e0.mod.kin.keeps fun b o e => (e0.bs b o e).1
  have lim : s.heap.NoLimit := e0.mod.nolimit.keeps fun b o e => (e0.bs b o e).1
  have hkind : ∀ y ∈ ps.zip us, (al st).names.lookup y.1 = some .local ∨ ((al st).names.lookup y.1 = some .cell ∧ ((cellsFrom (s.heap.objs.size + 1) (al st).names []).lookup y.1).isSome = true) := fun ⟨n, v⟩ hy => by
    rcases S.par n (List.of_mem_zip hy).1 with q | q
    · exact .inl q
    · exact .inr ⟨q, W.cellsFrom_some _ _ _ (.inl q)⟩
  refine codeAny_call_function hr.depth (KX _ _ lk) rfl S.co S.gen rfl (W.codeRec_of KX hcd') (hb _ _ _ _ ?_)
  refine wpAny_newFunctionEnv_cells S.kind hkind fun env he s1 x => ?_
  subst he
  refine ⟨lim.keeps x.toInCall.keep, codeAny_func ?_⟩
  obtain ⟨t, ht, hq⟩ := hbody A outer s H vs Q E (hr.deeper _) hsp
  have I : Inv (cy (CX1 P w) P w K mg base N qual (al st) f (.ref c0) A outer s H E) [] (start N vs) H s1 := mZ S hr.hd e0 hl r x
  refine wpAny_mono (ht.out [] s1 (start N vs) H _ I hq) (fun fl s' hs => ?_) fun e s' hs => hs
  have fin : ∀ {σ' : St} {H' : Hp} {v : V} {u : Value}, Inv (cy (CX1 P w) P w K mg base N qual (al st) f (.ref c0) A outer s H E) [] σ' H' s' → aS v u → ((∀ p ∈ caps s.heap.objs.size, H' p.2 = none) → Q v (cG (caps s.heap.objs.size) σ' H')) → CE outer P w H s Q u s' :=
    fun {σ' H' v u} J rv q => by
      have free : ∀ p ∈ caps s.heap.objs.size, H' p.2 = none := fun p hp => by
        obtain ⟨y, _, _, hc⟩ := hcaps _ p hp
        exact J.freeC y p.2 hc
      have hcond : ∀ p ∈ caps s.heap.objs.size, H' p.2 = none ∧ s.heap.objs.size ≤ p.2 ∧ ∀ v, σ'[p.1]? = some (some v) → ∃ u o, aS v u ∧ s'.heap.get? p.2 = some o ∧ o.data = .cell (some u) := fun p hp => by
        obtain ⟨y, hy, hk, hc⟩ := hcaps _ p hp
        refine ⟨free p hp, J.ok.cab y p.2 rfl hc, fun v hv => ?_⟩
        obtain ⟨m, _, hloc⟩ := J.loc
        obtain ⟨u', r', lk'⟩ := hloc p.1 y v hy hv (.inr (.inl hk))
        rcases lk' with ⟨z, _⟩ | ⟨_, c, ec, o, eo, hd⟩
        · have z : (al st).names.lookup y = some .local := z
          rw [hk] at z; cases z
        · have ec : (cellsFrom (s.heap.objs.size + 1) (al st).names []).lookup y = some c := ec
          rw [hc] at ec; cases ec
          exact ⟨u', o, r', eo, hd⟩
      obtain ⟨un, ok⟩ := kL (P := P) (w := w) (σ := σ') (caps s.heap.objs.size) H' (hnd _) hcond J.base J.hok
      exact ⟨v, _, J.os, J.bare, un, ok, rv, q free⟩
  cases fl with
  | ret u =>
    obtain ⟨v, σ', H', J, rv, q⟩ := hs
    exact fin J rv q
  | next =>
    obtain ⟨σ', H', J, q⟩ := hs
    exact fin (v := V.non) (u := Value.none) J rfl q
  | brk => exact False.elim hs
  | cont => exact False.elim hs
theorem tT {P : Program} {w : World} {K : W.Frag} {mg mb : Str → Option Value} {CX : CXT} {k : Nat} {fa a : Addr} {fd : FuncData} {x : Str} {sp : Sp} {s₁ : Shared} {vs : List Value} {ns : List Int} {tabs : List (Addr × Addr)}
    (KX : K.In s₁.heap) (hns : s₁.heap.Ns mainGlobals mg) (hb : s₁.heap.Ns builtinsNs mb) (hbb : ∀ x : Str, x ≠ "__name__" → mb x = bootBuiltins x) (hlim : s₁.heap.NoLimit) (hg : s₁.gens = #[]) (hB : BM mg s₁.heap)
    (hT : ∀ q ∈ tabs, W.CodeHd s₁.heap q.1 q.2 ∧ s₁.heap.get? q.2 = some (W.tabObj #[])) (hKT : W.noTabs K = true)
    (ha : s₁.heap.get? a = some { cls := .type "list", data := .seq vs.toArray }) (hi : IntsAre vs ns) (hl : ns.length ≤ sizeLine) (hr : aY k callerA)
    (F : ∀ base : Heap, K.In base → base.Ns mainGlobals mg → BM mg base → (∀ q ∈ tabs, W.CodeHd base q.1 q.2) → aM P w K mg base CX k fa fd [x] sp) (hbind : ∀ (s : Shared) (u : Value), BindsTo s fd ⟨[u], []⟩ [(x, u)])
    (hsp : ∀ H : Hp, (∀ q ∈ tabs, H q.2 = some (.tbl #[])) → SqL K H a (ns.map V.int) → sp [.ref a] H (fun v _ => v = .bl true) fun _ _ _ => False)
    (hCX : ∀ H e s', CX [] H s₁ (fun _ _ _ => False) e s' → False) :
    codeAny (model P w) callerA (.call (.ref fa) ⟨[.ref a], []⟩) (fun r s' => r = .ok (.ret (.bool true)) ∧ OldK s₁.heap s'.heap ∧ s'.os = s₁.os ∧ AllBare s'.gens) s₁ := by
  have rv := nw hi
  have lenV := hi.length
  have tabK : ∀ q ∈ tabs, K.lookup q.2 = none := fun q hq => by
    cases e : K.lookup q.2 with
    | none => rfl
    | some o =>
      have e2 := KX _ _ e
      rw [(hT q hq).2] at e2; cases e2
      have := List.all_eq_true.mp hKT _ (W.mem_of_lookupK e)
      exact absurd (show false = true from this) Bool.false_ne_true
  have tabA : ∀ q ∈ tabs, q.2 ≠ a := fun q hq e => by
    have e2 := (hT q hq).2
    rw [e, ha] at e2; cases e2
  have core : ∀ H : Hp, (∀ q ∈ tabs, H q.2 = some (.tbl #[])) → SqL K H a (ns.map V.int) → HOk P w H s₁.heap → (∀ b, H b ≠ none → (b = a ∧ ∃ o xs, H b = some (.frz o (.lst xs))) ∨ ∃ q ∈ tabs, q.2 = b) → (∀ b, H b ≠ none → K.lookup b = none) →
      codeAny (model P w) callerA (.call (.ref fa) ⟨[.ref a], []⟩) (fun r s' => r = .ok (.ret (.bool true)) ∧ OldK s₁.heap s'.heap ∧ s'.os = s₁.os ∧ AllBare s'.gens) s₁ := by
    intro H hO hS hok hA hK
    have base_of : ∀ {b : Addr} {o : Obj}, s₁.heap.get? b = some o → H b = none → (gl s₁.heap H).get? b = some o := fun e n => xc e n
    have noA : ∀ {b : Addr} {o : Obj}, s₁.heap.get? b = some o → o.cls ≠ .none → o.cls ≠ .type "list" → H b = none := fun {b o} e c1 c2 => by
      cases q : H b with
      | none => rfl
      | some u =>
        rcases hA b (by rw [q]; simp) with ⟨rfl, _⟩ | ⟨p, hp, rfl⟩
        · rw [ha] at e; cases e; exact absurd rfl c2
        · rw [(hT p hp).2] at e; cases e; exact absurd rfl c1
    have noD : ∀ {b : Addr} {o : Obj} {es : Array DictEntry} {ep : Nat}, s₁.heap.get? b = some o → o.data = .dict es ep → H b = none := fun {b o es ep} e d => by
      cases q : H b with
      | none => rfl
      | some u =>
        rcases hA b (by rw [q]; simp) with ⟨rfl, _⟩ | ⟨p, hp, rfl⟩
        · rw [ha] at e; cases e; cases d
        · rw [(hT p hp).2] at e; cases e; cases d
    have nsK : ∀ {b : Addr} {m : Str → Option Value}, s₁.heap.Ns b m → (gl s₁.heap H).Ns b m := fun {b m} ⟨o, es, ep, e, d, r⟩ => ⟨o, es, ep, base_of e (noD e d), d, r⟩
    have hKb : K.In (gl s₁.heap H) := fun b o e => base_of (KX b o e) (by
      cases q : H b with
      | none => rfl
      | some u => rw [hK b (by rw [q]; simp)] at e; cases e)
    have hBb : BM mg (gl s₁.heap H) := by
      obtain ⟨bm, ob, b1, b2, b3, b4, b5, b6⟩ := hB
      exact ⟨bm, ob, b1, b2, base_of b3 (noA b3 (by rw [b4]; intro z; cases z) (by rw [b4]; intro z; exact absurd (Value.type.inj z) (by decide))), b4, b5, b6⟩
    have hCb : ∀ q ∈ tabs, W.CodeHd (gl s₁.heap H) q.1 q.2 := fun q hq => by
      obtain ⟨o, vs, file, tf, flags, tg, inF, text, tt, e1, e2, r⟩ := (hT q hq).1
      exact ⟨o, vs, file, tf, flags, tg, inF, text, tt, base_of e1 (noA e1 (by rw [e2]; intro z; cases z) (by rw [e2]; intro z; exact absurd (Value.type.inj z) (by decide))), e2, r⟩
    have hM : Mod K mg (gl s₁.heap H) := ⟨hKb, nsK hns, ⟨mb, nsK hb, hbb⟩, let ⟨mc, h1, h2⟩ := hlim; ⟨mc, nsK h1, h2⟩⟩
    have e0 : ip P w K mg (gl s₁.heap H) callerA [] s₁ H := ⟨rfl, hM, fun b o e => zn e, Nat.le_of_eq (uU _ _), trivial, fun b hb => absurd (show b ∈ ([] : List Addr) from hb) (by simp), hok, .of_eq hg⟩
    refine codeAny_mono ((F _ hKb (nsK hns) hBb hCb).run callerA [] s₁ H ⟨[.ref a], []⟩ [.ref a] [.ref a] _ _ hr e0 (hbind s₁ (.ref a)) (.cons rfl .nil) (hsp H hO hS)) fun r s' h => ?_
    cases r with
    | error e => exact (hCX H e s' h).elim
    | ok fl =>
      cases fl with
      | next => exact False.elim h
      | brk => exact False.elim h
      | cont => exact False.elim h
      | ret u =>
        obtain ⟨v, H', os, bare, un, hok', r', q⟩ := h
        have q' : v = .bl true := q
        subst q'
        obtain rfl : u = Value.bool true := r'
        have all : ∀ b o, s₁.heap.get? b = some o → s'.heap.get? b = some o ∨ ∃ q ∈ tabs, q.2 = b ∧ ∃ more, s'.heap.get? b = some (W.tabObj more) := fun b o e => by
          cases q : H b with
          | none => exact .inl (un.keep b o e q (by intro z; exact absurd (show b ∈ ([] : List Addr) from z) (by simp)) (by simp))
          | some u =>
            rcases hA b (by rw [q]; simp) with ⟨rfl, ob, xs, z⟩ | ⟨p, hp, rfl⟩
            · have z2 := un.frzs b ob _ z
              obtain ⟨e1, _⟩ := hok b _ z
              obtain ⟨e2, _⟩ := hok' b _ z2
              rw [e] at e1; cases e1
              exact .inl e2
            · obtain ⟨more, z2⟩ := un.tbls p.2 _ (hO p hp)
              exact .inr ⟨p, hp, rfl, _, hok' p.2 _ z2⟩
        refine ⟨rfl, ⟨fun b o e => ?_, fun b o e => ?_⟩, os, bare⟩
        · rcases all b o e with z | ⟨p, hp, rfl, more, z⟩
          · exact .inl z
          · have e2 := (hT p hp).2
            rw [e] at e2; cases e2
            exact .inr (.inl ⟨((hT p hp).1.tab (hT p hp).2).isCodeTable, rfl, #[], more, rfl, by rw [Array.empty_append]; exact z⟩)
        · rcases all b o e with z | ⟨p, hp, rfl, more, z⟩
          · exact ⟨_, z⟩
          · exact ⟨_, z⟩
  cases hk : K.lookup a with
  | some o =>
    have e := KX a o hk
    rw [ha] at e
    cases e
    refine core (fun b => if b ∈ tabs.map (·.2) then some (.tbl #[]) else none) (fun q hq => if_pos (List.mem_map.mpr ⟨q, hq, rfl⟩)) (.inr ⟨_, vs.toArray, _, hk, rfl, rfl, rfl, by rw [List.size_toArray, lenV]; exact hl, by simpa using rv⟩) (fun b u z => ?_) (fun b z => ?_) fun b z => ?_
    · by_cases hb : b ∈ tabs.map (·.2)
      · have z' := (if_pos hb).symm.trans z
        cases z'
        obtain ⟨q, hq, rfl⟩ := List.mem_map.mp hb
        exact (hT q hq).2
      · have z' := (if_neg hb).symm.trans z
        cases z'
    · by_cases hb : b ∈ tabs.map (·.2)
      · obtain ⟨q, hq, e⟩ := List.mem_map.mp hb
        exact .inr ⟨q, hq, e⟩
      · exact absurd (if_neg hb) z
    · by_cases hb : b ∈ tabs.map (·.2)
      · obtain ⟨q, hq, rfl⟩ := List.mem_map.mp hb
        exact tabK q hq
      · exact absurd (if_neg hb) z
  | none =>
    refine core (fun b => if b = a then some (.frz { cls := .type "list", data := .seq vs.toArray } (.lst (ns.map V.int))) else if b ∈ tabs.map (·.2) then some (.tbl #[]) else none)
      (fun q hq => by show (if q.2 = a then _ else _) = _; rw [if_neg (tabA q hq), if_pos (List.mem_map.mpr ⟨q, hq, rfl⟩)]) (.inl (.inr ⟨{ cls := .type "list", data := .seq vs.toArray }, if_pos rfl⟩)) (fun b u z => ?_) (fun b z => ?_) fun b z => ?_
    · by_cases hb : b = a
      · have z' := (if_pos hb).symm.trans z
        cases z'
        subst hb
        exact ⟨ha, by rw [List.length_map]; exact hl, vs, _, rv, ha⟩
      · have z' : (if b ∈ tabs.map (·.2) then some (HO.tbl #[]) else none) = some u := (if_neg hb).symm.trans z
        by_cases hb2 : b ∈ tabs.map (·.2)
        · rw [if_pos hb2] at z'; cases z'
          obtain ⟨q, hq, rfl⟩ := List.mem_map.mp hb2
          exact (hT q hq).2
        · rw [if_neg hb2] at z'; cases z'
    · by_cases hb : b = a
      · exact .inl ⟨hb, _, _, if_pos hb⟩
      · by_cases hb2 : b ∈ tabs.map (·.2)
        · obtain ⟨q, hq, e⟩ := List.mem_map.mp hb2
          exact .inr ⟨q, hq, e⟩
        · exact absurd ((if_neg hb).trans (if_neg hb2)) z
    · by_cases hb : b = a
      · rw [hb]; exact hk
      · by_cases hb2 : b ∈ tabs.map (·.2)
        · obtain ⟨q, hq, rfl⟩ := List.mem_map.mp hb2
          exact tabK q hq
        · exact absurd ((if_neg hb).trans (if_neg hb2)) z
theorem wb {l : W.OpenLaw} {n k : Nat} {q : Program} {loose : List Str} {XP : (Str → Option Value) → Heap → Prop} {YP : World → Heap → Prop} {d : DefRec} {K : Params → W.Frag} {CX : World → CXT} {x : Str} {names : List Str}
  (hn : l.most = some n) (hn2 : n ≤ sizeLine) (hdf : d.params.defaults = []) (hr : aY k callerA)
  (hY : ∀ (w : World) (h : Heap), YP w h → (K w.params).In h)
  (hq : ∀ y ∈ names, ((PyProof.Rows.recsOf q).find? fun e => e.name == y).isSome = true)
  (F : ∀ (w : World) (mg : Str → Option Value) (fa : Addr) (h : Heap), (K w.params).In h → h.Ns mainGlobals mg → mg d.name = some (.ref fa) →
   ∃ (fd : FuncData) (tabs : List (Addr × Addr)) (sp : Sp), (∀ (s : Shared) (u : Value), BindsTo s fd ⟨[u], []⟩ [(x, u)]) ∧ W.noTabs (K w.params) = true ∧ (∀ t ∈ tabs, ∃ y ∈ names, W.tabIn (K w.params) y = some t) ∧
    (∀ base : Heap, (K w.params).In base → base.Ns mainGlobals mg → BM mg base → (∀ t ∈ tabs, W.CodeHd base t.1 t.2) → aM l.prog w (K w.params) mg base (CX w) k fa fd [x] sp) ∧
    ∀ (H : Hp) (a : Addr) (ns : List Int), ns.length ≤ n → (∀ t ∈ tabs, H t.2 = some (.tbl #[])) → SqL (K w.params) H a (ns.map V.int) → sp [.ref a] H (fun v _ => v = .bl true) fun _ _ _ => False)
  (hCX : ∀ (w : World) (H : Hp) (s : Shared) (e : Value) (s' : Shared), CX w [] H s (fun _ _ _ => False) e s' → False) :
  W.WalkO q loose XP YP l.row.toRowW d [] (fun f vs => PySem.call f vs) := by
 refine Att.attach_call hn hdf fun w s₀ s₁ mg mb fa o pm cd doc a vs ns G Y ho hd hcd hmg hobj hints hlen hg => ?_
 have KX := hY w _ Y
 obtain ⟨fd, tabs, sp, hb, hKT, htabs, hF, hsp⟩ := F w mg fa _ KX G.T.g hmg
 refine tT (tabs := tabs) KX G.T.g G.T.b G.T.builtins G.T.nolimit hg G.T.bmain (fun t ht => ?_) hKT hobj hints (Nat.le_trans hlen hn2) hr hF hb (fun H hO hS => hsp H a ns hlen hO hS) fun H e s' => hCX w H s₁ e s'
 obtain ⟨y, hy, e⟩ := htabs t ht
 obtain ⟨dd, hdd⟩ := Option.isSome_iff_exists.mp (hq y hy)
 exact W.tab_of G.T KX hdd e
section
variable {X:Cx}
theorem SPM.unwish {E:Value→Shared→Prop} {pins:List (Addr×Obj)} {D:lR} {f:Flow} {s':Shared} (h:SPM (X.wish E) pins D f s'):SPM X pins D f s':=by
 cases f with
 | next=>obtain ⟨σ',H',I,q⟩:=h;exact ⟨σ',H',I.unwish,q⟩
 | brk=>exact h
 | cont=>exact h
 | ret u=>obtain ⟨v,σ',H',I,r,q⟩:=h;exact ⟨v,σ',H',I.unwish,r,q⟩
theorem QMs.nox {st:List Stmt} {t:TSM} (h:QMs X.nox st t):QMs X st t:=⟨fun pins s σ H D I hw=>
 wpAny_mono (h.out pins s σ H D (I.wish _) hw) (fun _ _ q=>SPM.unwish q) fun _ _ z=>False.elim z⟩
theorem fE.mono {P:Program} {w:World} {K:W.Frag} {mg:Str→Option Value} {base:Heap} {j k:Nat} {t:cT} {sp:Sp} (F:fE P w K mg base j t sp) (h:j≤k):fE P w K mg base k t sp:=
 ⟨fun A outer s H f cs us vs cvs Q E hr=>F.run A outer s H f cs us vs cvs Q E (hr.mono h)⟩
def rR:V→List V→Hp→VK→Prop:=fun x vs H Q=>∃ a y d r H',x=.ref a∧vs=[y,d]∧Ay H a y d r H'∧Q r H'
theorem uZ (hu:X.A.units+1<cLine):MtR X "dict.setdefault" rR:=by
 intro pins s σ H x xs v us Q I rx rs h
 obtain ⟨a,y,d,r,H',rfl,rfl,g,q⟩:=h
 obtain rfl:v=Value.ref a:=rx
 obtain ⟨uy,ud,rfl,ry,rd⟩:=jY rs
 rcases g with ⟨g,rfl⟩ | ⟨g,p,rfl⟩
 · rcases g with ⟨kvs,k,e,rfl,l⟩ | ⟨kvs,k,b,e,rfl,eb,l⟩
   · obtain ⟨z,hd,vs,rel,dd⟩:=jI I.hok e
     obtain ⟨w',hw,rw'⟩:=cC.some_of (v:=r) (o:=valueAt vs k) (by rw [l];exact rel.val k)
     exact call_meetsIn PySem.F.slot_dict_setdefault dd.typeIs PySem.F.entry_dict_setdefault (PySem.F.args_dict_setdefault_3 _ _ _) (kt_meets_setdefault (cf X.prog X.w) a (kc ry) hd ud)
       ⟨vs,dd,by rw [← rel.length];exact z,(fun v' hv'=>by rw [hw] at hv';cases hv';exact ⟨r,H',I.tok _,rw',q⟩),(fun hn=>by rw [hw] at hn;cases hn)⟩
   · cases (show uy=Value.ref b from ry)
     obtain ⟨z,hd,xs,rel,dd⟩:=lm I.hok e
     obtain ⟨w',hw,rw'⟩:=cC.some_of (v:=r) (o:=(atKey xs k).map (·.2)) (by rw [l];exact rel.val k)
     obtain ⟨pp,hp,hp2⟩:=Option.map_eq_some_iff.mp hw
     refine wpAny_call_entry PySem.F.slot_dict_setdefault dd.typeIs PySem.F.entry_dict_setdefault ?_ (PySem.F.args_dict_setdefault_3 _ _ _)
     unfold Builtin.«dict.setdefault»
     refine wpAny_bind ?_
     unfold Builtin.Dict.keyAndDefault
     refine wpAny_bind (wpAny_notOrdered_dict dd.typeIs ?_)
     show wpAny _ _ (pure (a,Value.ref b,some ud)) _ _ s
     refine wpAny_pure ?_
     show wpAny _ _ (if (a==sysModules)=true then _ else (dictSetDefault a (.ref b) ud>>=_)) _ _ s
     rw [if_neg (by rw [hd];exact Bool.false_ne_true)]
     refine wpAny_bind (eX (tupleKind_room_in1 hu) (ig I.hok eb) dd (fun p' hp'=>?_) (fun hn=>?_) (by rw [← Paired.length rel];exact z))
     · rw [hp] at hp';cases hp'
       exact wpAny_pure ⟨_,rfl,⟨r,H',I.tok _,by rw [hp2];exact rw',q⟩⟩
     · rw [hp] at hn;cases hn
 · rcases g with ⟨kvs,k,e,rfl,l⟩ | ⟨kvs,k,b,e,rfl,eb,l⟩
   · rcases p with ⟨kvs',k',e',ey,lz,rfl⟩ | ⟨kvs',k',b',e',ey,_⟩
     · have ek:k=k':=by cases k <;> cases k' <;> first | (cases ey;rfl) | cases ey
       subst ek
       obtain ⟨z,hd,vs,rel,dd⟩:=yz I.hok e'
       have ee:kvs=kvs':=by
         rcases e with e | ⟨o,e⟩
         · rw [e'] at e;cases e;rfl
         · rw [e'] at e;cases e
       subst ee
       have hn:valueAt vs k=none:=cC.none_of (by rw [l];exact rel.val k)
       refine call_meetsIn PySem.F.slot_dict_setdefault dd.typeIs PySem.F.entry_dict_setdefault (PySem.F.args_dict_setdefault_3 _ _ _) (kt_meets_setdefault (cf X.prog X.w) a (kc ry) hd ud)
         ⟨vs,dd,by rw [← rel.length];exact z,(fun v' hv'=>by rw [hn] at hv';cases hv'),fun _ h' dd' hs=>?_⟩
       have he:∃ q,h'.get? a=some q:=let ⟨q,_,_,hq,_⟩:=dd';⟨q,hq⟩
       have hl:(bT kvs k r).length≤sizeLine:=by have:=fB kvs k r;omega
       exact ⟨r,_,jV I (by rw [e'];exact True.intro) hs he (uF hl hd (rel.put k rd) dd'),rd,q⟩
     · cases k <;> cases ey
   · rcases p with ⟨kvs',k',e',ey,_⟩ | ⟨kvs',k',b',e',ey,eb',lz,rfl⟩
     · cases k' <;> cases ey
     · cases ey
       have ek:k=k':=rL (HO.tup.inj (Option.some.inj (eb.symm.trans eb')))
       subst ek
       cases (show uy=Value.ref b from ry)
       obtain ⟨z,hd,xs,rel,dd⟩:=sN I.hok e'
       have ee:kvs=kvs':=by
         rcases e with e | ⟨o,e⟩
         · rw [e'] at e;cases e;rfl
         · rw [e'] at e;cases e
       subst ee
       have hn:atKey xs k=none:=by
         have:=cC.none_of (o:=(atKey xs k).map (·.2)) (by rw [l];exact rel.val k)
         exact Option.map_eq_none_iff.mp this
       refine wpAny_call_entry PySem.F.slot_dict_setdefault dd.typeIs PySem.F.entry_dict_setdefault ?_ (PySem.F.args_dict_setdefault_3 _ _ _)
       unfold Builtin.«dict.setdefault»
       refine wpAny_bind ?_
       unfold Builtin.Dict.keyAndDefault
       refine wpAny_bind (wpAny_notOrdered_dict dd.typeIs ?_)
       show wpAny _ _ (pure (a,Value.ref b,some ud)) _ _ s
       refine wpAny_pure ?_
       show wpAny _ _ (if (a==sysModules)=true then _ else (dictSetDefault a (.ref b) ud>>=_)) _ _ s
       rw [if_neg (by rw [hd];exact Bool.false_ne_true)]
       refine wpAny_bind (eX (tupleKind_room_in1 hu) (ig I.hok eb) dd (fun p' hp'=>?_) (fun _ h' dd' hs=>?_) (by rw [← Paired.length rel];exact z))
       · rw [hn] at hp';cases hp'
       · obtain ⟨q',es,ep,hq,h2,h3,h4,_,h5⟩:=dd'
         have hl:(bT kvs k r).length≤sizeLine:=by have:=fB kvs k r;omega
         refine wpAny_pure ⟨_,rfl,⟨r,_,jV (ob:=.dT (bT kvs k r)) I (by rw [e'];exact True.intro) hs ⟨q',hq⟩ ⟨hl,hd,_,(rel.put k eb rd).keeps fun c ys ec=>?_,q',es,ep,hq,h2,h3,h4,h5⟩,rd,q⟩⟩
         rw [ao (bG ec e' (fun z=>nomatch z))]
         exact ec
def Its (z:Str):It:=⟨fun i _=>i<z.length,fun i H x H'=>H'=H∧∃ c,z.cps[i]?=some c∧x=.str ⟨#[c]⟩,fun i _=>z.length≤i⟩
theorem vZ {P:Program} {w:World} {K:W.Frag} {tg:Expr} (z:Str) (t:Tok) (it:Addr):iO P w K tg (Its z) [it] it (fun i h=>h.IsStrIter it "str_ascii_iterator" z t i) where
 mem:=by simp
 obj:=fun i h st b hb=>by
  have e:b=it:=by simpa using hb
  subst e
  obtain ⟨o,e,c,d⟩:=st
  exact ⟨o,e,fun v z=>by rw [d] at z;cases z⟩
 keep:=fun i h h' st k=>let ⟨o,ho,r⟩:=st;⟨o,k it (by simp) o ho,r⟩
 item:=by
  intro X hP hw hK hc i pins s σ H E I hf st hg
  subst hP hw hK
  obtain ⟨f0,f1,f2,f3,f4,f5⟩:=hf it (by simp)
  have hi:i<z.cps.size:=hg
  refine wpAny_pyNext_ascii_item st (c:=z.cps[i]) (Array.getElem?_eq_getElem hi) fun h' st' sb=>?_
  have I1:Inv X pins σ H { s with heap:=h',toks:=s.toks+1 }:=I.turned (t':=s.toks+1) (fun b o hb e=>(sb.2 b hb).trans e) f0 f1 f3 f4 f5
  obtain ⟨o,e,c,d⟩:=id st'
  exact ⟨_,rfl,jJ (s:={ s with heap:=h',toks:=s.toks+1 }) e c d (by decide) ⟨.str ⟨#[z.cps[i]]⟩,H,I1,⟨_,rfl⟩,⟨rfl,_,Array.getElem?_eq_getElem hi,rfl⟩,st',fun b hb=>(hf b hb).1⟩⟩
 done:=by
  intro X hP hw hK hc i pins s σ H E I hf st hg
  subst hP hw hK
  obtain ⟨f0,f1,f2,f3,f4,f5⟩:=hf it (by simp)
  exact wpAny_pyNext_ascii_end (I.ok.hd hc) st (Array.getElem?_eq_none (show z.cps.size≤i from hg)) fun h' eb=>⟨rfl,I.turned (t':=s.toks) (fun b o hb e=>eb b o hb e) f0 f1 f3 f4 f5⟩
 self:=fun A i s Q E st h=>by
  refine wpAny_pyIter_slot st.typeIs F.slot_str_ascii_iterator_iter (wpAny_call_entry F.slot_str_ascii_iterator_iter st.typeIs F.entry_str_ascii_iterator_iter ?_ (F.args_str_ascii_iterator_iter_1 _))
  show wpAny _ _ (ret (.ref it)) _ _ s
  exact wpAny_pure ⟨_,rfl, "str_ascii_iterator",_,st.typeIs,F.slot_str_ascii_iterator_next.lookup,h⟩
variable {a:Expr} {ta:TE} {tg:Expr}
def iM (K:W.Frag) (tl:TE):TI:=fun σ H R=>tl σ H fun x H1=>match x with
 | .str z=>z.cps.all (·<128)=true∧R (Its z) H1
 | x=>∃ a,x=.ref a∧(((∃ xs,SqL K H1 a xs)∧R (Itl K a) H1)∨((∃ xs,SqT K H1 a xs)∧R (Itt K a) H1))
theorem gT (h : QE X a ta) : QI X tg a (iM X.K ta) := ⟨fun pins s σ H R I hw => by
  refine thn (h.out pins s σ H _ I hw) fun v s1 ⟨x, H1, I1, r1, q1⟩ => ?_
  cases x with
  | str z =>
    obtain ⟨t, rfl⟩ := r1
    refine wpAny_pyIter_ascii q1.1 ?_
    refine ⟨s1.heap.objs.size, [s1.heap.objs.size], _, _, H1, rfl, I1.kept (t' := s1.toks) fun b o e => Heap.get?_push_of_some _ e, vZ z t _, ⟨_, Heap.get?_push_size _ rfl, rfl, rfl⟩, fun b hb => ?_, q1.2⟩
    have e : b = s1.heap.objs.size := by simpa using hb
    subst e
    exact I1.fpOk (Nat.le_refl _) (I1.hok.fresh (Nat.le_refl _))
  | ref c =>
    obtain ⟨a, e, q⟩ := q1
    cases e
    cases r1
    rcases q with ⟨⟨xs, hq⟩, q⟩ | ⟨⟨xs, hq⟩, q⟩
    · obtain ⟨its, rv, p, hz⟩ := I1.list hq
      refine wpAny_pyIter_list (wq p) ?_
      refine ⟨s1.heap.objs.size, [s1.heap.objs.size], _, _, H1, rfl, I1.kept (t' := s1.toks) fun b o e => Heap.get?_push_of_some _ e, uq _ _, ⟨_, Heap.get?_push_size _ rfl, rfl, rfl⟩, fun b hb => ?_, q⟩
      have e : b = s1.heap.objs.size := by simpa using hb
      subst e
      exact I1.fpOk (Nat.le_refl _) (I1.hok.fresh (Nat.le_refl _))
    · obtain ⟨its, rv, p, hz⟩ := I1.tuple hq
      refine wpAny_pyIter_tuple (show s1.heap.IsTuple c its.toArray from p) ?_
      refine ⟨s1.heap.objs.size, [s1.heap.objs.size], _, _, H1, rfl, I1.kept (t' := s1.toks) fun b o e => Heap.get?_push_of_some _ e, sg _ _, ⟨_, Heap.get?_push_size _ rfl, rfl, rfl⟩, fun b hb => ?_, q⟩
      have e : b = s1.heap.objs.size := by simpa using hb
      subst e
      exact I1.fpOk (Nat.le_refl _) (I1.hok.fresh (Nat.le_refl _))
  | _ => obtain ⟨_, e, _⟩ := q1; cases e⟩
theorem zv:OpR X (binaryOp .Mult) (fun x y H Q=>∃ z n,x=.str z∧y=.int n∧(-1000≤n∧n≤1000∧z.length≤1000)∧Q (.str (Txt.mul z n)) H):=by
 intro pins s σ H x y v u Q I rx ry h
 obtain ⟨z,n,rfl,rfl,⟨h1,h2,h3⟩,q⟩:=h
 obtain ⟨t,rfl⟩:=rx
 obtain ⟨t',rfl⟩:=ry
 refine SB.mul ⟨?_,fun hn _=>?_,fun hn _=>?_⟩ fun t' k=>⟨.str _,H,I.tok k,⟨_,rfl⟩,q⟩
 · rw [decide_eq_false (by omega),decide_eq_false (by omega)];rfl
 · intro hgt
   have h5:(1000:Int)≤(2^63 - 1)/n:=Int.le_ediv_of_mul_le (by omega) (by omega)
   omega
 · have h6:z.length*n.toNat≤1000*1000:=Nat.mul_le_mul h3 (by omega)
   exact decide_eq_false (by rw [sizeLine_eq];omega)
end
theorem Cv {J:It} {n:Nat} {it:Nat→V} {Pk:Hp→Prop} {g:TG} {tb:TS} {D:dU} {σ:St} {H:Hp} (T:cS J n it Pk) (Pv:Nat→St→Hp→Prop) (h0:Pv 0 σ H) (hl:∀ i σ H,i≤n→Pv i σ H→Pk H)
   (hs:∀ i σ H,i<n→Pv i σ H→g (it i) σ H fun σ2 H2=>tb { D with nx:=Pv (i+1),ct:=Pv (i+1),bk:=D.nx } σ2 H2) (hd:∀ σ H,Pv n σ H→D.nx σ H):
   ∃ W:Nat→Nat→St→Hp→Prop,(∃ m,W 0 m σ H)∧∀ i m σ H,W i m σ H→
    (J.stop i H∧D.nx σ H)∨(J.go i H∧∃ N:St→Hp→Prop,(∀ σ' H',N σ' H'→∃ m',m'<m∧W (i+1) m' σ' H')∧∀ x H',J.yld i H x H'→g x σ H' fun σ2 H2=>tb { D with nx:=N,ct:=N,bk:=D.nx } σ2 H2):=by
 refine ⟨fun i m σ H=>m=n - i∧i≤n∧Pv i σ H,⟨n,by simp,Nat.zero_le _,h0⟩,?_⟩
 rintro i m σ H ⟨rfl,hi,p⟩
 have q:=hl i σ H hi p
 by_cases hlt:i<n
 · refine .inr ⟨T.go i H hlt q,Pv (i+1),fun σ' H' p'=>⟨n - (i+1),by omega,rfl,hlt,p'⟩,fun x H' y=>?_⟩
   obtain ⟨rfl,rfl⟩:=T.yld i H x H' hlt q y
   exact hs i σ _ hlt p
 · have e:i=n:=by omega
   subst e
   exact .inl ⟨T.stop H q,hd σ H p⟩
theorem sX {α β:Type} (f:β→α→β) (b:β) (l:List α) (i:Nat) (x:α) (h:l[i]?=some x):(l.take (i+1)).foldl f b=f ((l.take i).foldl f b) x:=by
 rw [List.take_succ,h];simp
theorem mi {α β:Type} {f:α→β} {l:List α} {i:Nat} {x:β} (h:(l.map f)[i]?=some x):∃ a,l[i]?=some a∧x=f a:=by
 rw [List.getElem?_map] at h
 cases e:l[i]? with
 | none=>rw [e] at h;cases h
 | some a=>rw [e] at h;cases h;exact ⟨a,rfl,rfl⟩
theorem dq.keep {H H':Hp} {f:Addr} {t:cT} {cs:List Addr} {cvs:List V} (k:∀ b φ,H b=some (.ext φ)→H' b=some (.ext φ)) (c:dq H f t cs cvs):dq H' f t cs cvs:=by
 obtain ⟨⟨a,h1,h2⟩,h3⟩:=c
 refine ⟨⟨a,k _ _ h1,k _ _ h2⟩,?_⟩
 clear h1 h2
 induction h3 with
 | nil=>exact .nil
 | cons r t ih=>exact .cons (k _ _ r) ih
def mX (K:W.Frag) (ns:List Str):Bool:=decide ((ns.map fun n=>(W.tabIn K n).map (·.2)).Nodup)
theorem wX {l:List Addr} (h:(l.map some).Nodup):l.Nodup:=List.Pairwise.of_map some (fun a b h e=>h (congrArg some e)) h
end L2
namespace HT
open PySem PyProof.Rows
theorem gj:fillsNumberSlot (.type "tuple") "mul" =pure false:=
 PySem.fillsNumberSlot_seq (id:= "tuple.__mul__") (r:=some (.builtin "tuple.__rmul__")) F.slot_tuple_mul.lookup (by decide +kernel) F.slot_tuple_rmul.lookup (by decide +kernel)
theorem iY:seqRepeat? (.type "tuple")=pure (some (.builtin "tuple.__mul__")):=by
 unfold seqRepeat?
 rw [PySem.seqSlot_of (T:= "tuple") (name:= "__mul__") (id:= "tuple.__mul__") F.slot_tuple_mul.lookup (by decide +kernel),PySem.seqSlot_of (T:= "tuple") (name:= "__rmul__") (id:= "tuple.__rmul__") F.slot_tuple_rmul.lookup (by decide +kernel)]
 rfl
theorem gM (a:Int) (t:Tok) (l:Addr) (items:Array Value) (n:Nat) (dd:Option Addr) (sl:Array (Option Value)):
  Meets (Builtin.«int.__rmul__» ⟨[.int a t,.ref l],[]⟩) (fun _ R s=>s.heap.get? l=some { cls:=.type "tuple",dict:=dd,data:=.seq items n,slots:=sl }∧R (.ok (.ret Value.notImplemented)) s):=
 .of_wp fun prog w A R s h=>by obtain ⟨hp,g,d,tk,os⟩:=s;obtain ⟨hl,h⟩:=h;wp_walk;exact ⟨_,rfl,h⟩
theorem sY (l:Addr) (items:Array Value) (n:Nat) (x:Int) (u:Tok) (dd:Option Addr) (sl:Array (Option Value)) (h0:(decide (x< -(2^63))||decide (x≥2^63))=false) (h1:(items.isEmpty||x==1)=true):
  Meets (Builtin.«tuple.__mul__» ⟨[.ref l,.int x u],[]⟩) (fun _ R s=>s.heap.get? l=some { cls:=.type "tuple",dict:=dd,data:=.seq items n,slots:=sl }∧R (.ok (.ret (.ref l))) s):=
 .of_wp fun prog w A R s h=>by obtain ⟨hp,g,d,tk,os⟩:=s;obtain ⟨hl,h⟩:=h;have f1:=AutoSeq1.idx_int;have f2:=AutoSeq1.sub_tuple_tuple;wp_walk using wpAny_loadPart' hl;refine wpAny_ite_false (decide_eq_false (by rw [h0];decide)) ?_;wp_walk using wpAny_loadPart' hl;exact ⟨_,rfl,h⟩
theorem se (l:Addr) (items:Array Value) (n:Nat) (x:Int) (u:Tok) (dd:Option Addr) (sl:Array (Option Value)) (h0:(decide (x< -(2^63))||decide (x≥2^63))=false) (h1:(items.isEmpty||x==1)=false)
  (h2:(decide (x≤0)||items.isEmpty)=false) (h3:¬ ((items.size:Int)*x>(2^63 - 1)/8)) (h4:¬ Builtin.Tuple.tupleTooMany (items.size*x)=true) (h5:(List.foldl (fun x1 x2=>x1++x2) #[] (List.replicate x.toNat items)).size≤sizeLine):
  Meets (Builtin.«tuple.__mul__» ⟨[.ref l,.int x u],[]⟩) (fun _ R s=>s.heap.get? l=some { cls:=.type "tuple",dict:=dd,data:=.seq items n,slots:=sl }∧R (.ok (.ret (Value.ref s.heap.objs.size))) { s with heap:=s.heap.push { cls:=Value.type "tuple",data:=Data.seq (List.foldl (fun x1 x2=>x1++x2) #[] (List.replicate x.toNat items)) },toks:=s.toks }):=
 .of_wp fun prog w A R s h=>by obtain ⟨hp,g,d,tk,os⟩:=s;obtain ⟨hl,h⟩:=h;have f1:=AutoSeq1.idx_int;have f2:=AutoSeq1.sub_tuple_tuple;wp_walk using wpAny_loadPart' hl;refine wpAny_ite_false (decide_eq_false (by rw [h0];decide)) ?_;wp_walk using wpAny_loadPart' hl;refine wpAny_ite_false (decide_eq_false h3) ?_;wp_walk using wpAny_loadPart' hl;exact ⟨_,rfl,h⟩
end HT
namespace L2
open PySem PySem.Spec PyProof.Rows
section
variable {X:Cx}
def zf:R2:=fun x y H Q=>∃ a k xs,x=.ref a∧y=.int k∧H a=some (.tup xs)∧xs≠[]∧1≤k∧k≤1000∧xs.length≤1000∧∀ p H',aq H H'→H' p=some (.tup (List.replicate k.toNat xs).flatten)→Q (.ref p) H'
theorem zE : OpR X (binaryOp .Mult) zf := by
 intro pins s σ H x y v u Q I rx ry h
 obtain ⟨a, k, xs, rfl, rfl, ha, hne, k1, k2, hl, q⟩ := h
 cases rx
 obtain ⟨t, rfl⟩ := ry
 obtain ⟨its, r, p1, hz⟩ := I.tuple (.inl (.inl ha))
 have hlen : its.length = xs.length := r.length.symm
 have hits : its ≠ [] := fun z => hne (r.nil_iff.mp z)
 obtain ⟨⟨cls, dd, data, sl⟩, ho, hc, n, hd⟩ := id p1
 simp only at hc hd
 subst hc hd
 have h0 : (decide (k < -(2 ^ 63)) || decide (k ≥ 2 ^ 63)) = false := by rw [decide_eq_false (by omega), decide_eq_false (by omega)]; rfl
 have hemp : its.toArray.isEmpty = false := by cases its with | nil => exact (hits rfl).elim | cons _ _ => rfl
 by_cases e : k = 1
 · subst e
   refine PySem.wpAny_binaryOp_repeat_ref (T := "tuple") (U := "int") (by decide) ⟨_, ho, rfl⟩ (fun s' => typeIs_int s' 1 t) HT.gj F.fills_int_mul F.slot_int_rmul HT.iY F.slot_int_index.lookup
     (call_meets F.slot_int_rmul (typeIs_int s 1 t) F.entry_int_rmul (F.args_int_rmul_2 _ _) (HT.gM 1 t a its.toArray n dd sl)
      ⟨ho, rfl, ⟨_, ho, rfl⟩, call_meets F.slot_tuple_mul ⟨_, ho, rfl⟩ F.entry_tuple_mul (F.args_tuple_mul_2 _ _) (HT.sY a its.toArray n 1 t dd sl h0 (by rw [hemp]; rfl)) ⟨ho, ?_⟩⟩)
   exact ⟨.ref a, H, I, rfl, q a H aq.rfl' (by rw [ha]; simp)⟩
 · have hsz : its.length * k.toNat ≤ 1000000 := Nat.le_trans (Nat.mul_le_mul (by omega : its.length ≤ 1000) (by omega : k.toNat ≤ 1000)) (by decide)
   have hszI : ((its.toArray.size : Nat) : Int) * k ≤ 1000000 := by
     have e1 : ((its.length * k.toNat : Nat) : Int) = (its.length : Int) * k := by rw [Int.natCast_mul, Int.toNat_of_nonneg (by omega)]
     rw [List.size_toArray, ← e1]; omega
   have hnew : List.foldl (fun x1 x2 => x1 ++ x2) #[] (List.replicate k.toNat its.toArray) = (List.replicate k.toNat its).flatten.toArray := by
     have := nC its k.toNat []
     rw [List.nil_append] at this
     exact this
   refine PySem.wpAny_binaryOp_repeat_ref (T := "tuple") (U := "int") (by decide) ⟨_, ho, rfl⟩ (fun s' => typeIs_int s' k t) HT.gj F.fills_int_mul F.slot_int_rmul HT.iY F.slot_int_index.lookup
     (call_meets F.slot_int_rmul (typeIs_int s k t) F.entry_int_rmul (F.args_int_rmul_2 _ _) (HT.gM k t a its.toArray n dd sl)
      ⟨ho, rfl, ⟨_, ho, rfl⟩, call_meets F.slot_tuple_mul ⟨_, ho, rfl⟩ F.entry_tuple_mul (F.args_tuple_mul_2 _ _) (HT.se a its.toArray n k t dd sl h0 (by rw [hemp]; simp [e]) (by rw [hemp, decide_eq_false (by omega)]; rfl) (by omega) ?_ ?_) ⟨ho, ?_⟩⟩)
   · unfold Builtin.Tuple.tupleTooMany
     rw [sizeLine_eq]
     simp only [gt_iff_lt, decide_eq_true_eq]
     omega
   · rw [hnew, List.size_toArray, rp, Nat.mul_comm]
     exact ay hsz
   · rw [hnew]
     refine ⟨.ref s.heap.objs.size, _, I.laid (t' := s.toks) (o := .tup (List.replicate k.toNat xs).flatten) (fun b ob q => Heap.get?_push_of_some _ q) (Nat.le_refl _) ?_, rfl, q _ _ (aq.upd (I.hok.fresh (Nat.le_refl _))) ai⟩
     exact ⟨by rw [rp, ← hlen, Nat.mul_comm]; exact ay hsz, _, r.rep k.toNat, IsTup.new _ _⟩
def iE:R2:=fun x y H Q=>match x,y with
 | .str z,.int n=>(-1000≤n∧n≤1000∧z.length≤1000)∧Q (.str (Txt.mul z n)) H
 | .ref a,.int n=>zf (.ref a) (.int n) H Q
 | x,y=>wz x y H Q
theorem lv:OpR X (binaryOp .Mult) iE:=(zv.or (zE.or IS)).imp fun x y H Q q=>by
 unfold iE at q
 split at q
 · exact .inl ⟨_,_,rfl,rfl,q.1,q.2⟩
 · exact .inr (.inl q)
 · exact .inr (.inr q)
end
section
variable {X:Cx}
theorem CL:OpR X (compareOp .Is) (fun x y H Q=>∃ b c,x=.bl b∧y=.bl c∧Q (.bl (decide (b=c))) H):=by
 intro pins s σ H x y v u Q I rx ry h
 obtain ⟨b,c,rfl,rfl,q⟩:=h
 cases rx
 cases ry
 refine wpAny_is_plain (by rfl) (bi I q ?_)
 cases b <;> cases c <;> rfl
def wM:R2:=fun x y H Q=>match x,y with
 | .bl b,.bl c=>Q (.bl (decide (b=c))) H
 | x,y=>xS x y H Q
theorem IT:OpR X (compareOp .Is) wM:=(CL.or oIs).imp fun x y H Q q=>by
 unfold wM at q
 split at q
 · exact .inl ⟨_,_,rfl,rfl,q⟩
 · exact .inr q
theorem Be {x y:Str} {px py ep pos:Pos} {ek:Nat} {e:Expr} {te:TE} (i j:Nat) (hN:X.N.Nodup) (hc:X.calm=true) (he:QE X e te) (hi:X.N[i]?=some x:=by rfl) (hj:X.N[j]?=some y:=by rfl)
  (hx:Loc X.env.scope x:=by first | exact .inl rfl | exact .inr rfl) (hy:Loc X.env.scope y:=by first | exact .inl rfl | exact .inr rfl)
  (fx:X.fn x=true∨X.env.scope.names.lookup x=some .local:=by first | exact .inl rfl | exact .inr rfl) (fy:X.fn y=true∨X.env.scope.names.lookup y=some .local:=by first | exact .inl rfl | exact .inr rfl)
  (hs:swapsWithSole [.Tuple [.Name x px,.Name y py] ek ep] e pos.line X.env=pure false:=by rfl) (hw:swappedStores [.Tuple [.Name x px,.Name y py] ek ep] e X.env=pure none:=by rfl):
  QS X (.Assign [.Tuple [.Name x px,.Name y py] ek ep] e pos) (aC te (mK X.K 2 (eK (au i) (eK (au j) mz)))):=
 ⟨uN he.out (uf hc (iK (ij hN hi hx fx) (iK (ij hN hj hy fy) qX))) hs hw⟩
end
end L2
namespace HT
open PySem PyProof.Rows
theorem sub_tuple_dict:isSubtype (.type "tuple") (.type "dict")=pure false:=by rw [isSubtype_type];kernel_rfl
theorem my:isSubtype (.type "dict") (.type "tuple")=pure false:=by rw [isSubtype_type];kernel_rfl
theorem sf (l b:Addr) (o:Obj) (hc:o.cls=.type "dict") (o2:Obj) (hc2:o2.cls=.type "tuple"):
  Meets (Builtin.«dict.__eq__» ⟨[.ref l,.ref b],[]⟩) (fun _ R s=>s.heap.get? l=some o∧s.heap.get? b=some o2∧R (.ok (.ret .notImplemented)) s):=
 .of_wp fun prog w A R s h=>by
  obtain ⟨hp,g,d,tk,os⟩:=s;obtain ⟨hl,hb,h⟩:=h;obtain ⟨cls,dd,data,sl⟩:=o;obtain ⟨cls2,dd2,data2,sl2⟩:=o2
  simp only at hc hc2;subst hc hc2
  have f1:=sub_tuple_dict;wp_walk using wpAny_loadPart' hl,wpAny_loadPart' hb;exact ⟨_,rfl,h⟩
theorem qD (l b:Addr) (o:Obj) (hc:o.cls=.type "tuple") (o2:Obj) (hc2:o2.cls=.type "dict"):
  Meets (Builtin.«tuple.__eq__» ⟨[.ref l,.ref b],[]⟩) (fun _ R s=>s.heap.get? l=some o∧s.heap.get? b=some o2∧R (.ok (.ret .notImplemented)) s):=
 .of_wp fun prog w A R s h=>by
  obtain ⟨hp,g,d,tk,os⟩:=s;obtain ⟨hl,hb,h⟩:=h;obtain ⟨cls,dd,data,sl⟩:=o;obtain ⟨cls2,dd2,data2,sl2⟩:=o2
  simp only at hc hc2;subst hc hc2
  have f1:=my;wp_walk using wpAny_loadPart' hl,wpAny_loadPart' hb;exact ⟨_,rfl,h⟩
end HT
namespace L2
open PySem PySem.Spec PyProof.Rows
section
variable {X:Cx}
def yU (K:W.Frag):R2:=fun x y H Q=>∃ a b ys,x=.ref a∧y=.ref b∧((∃ kvs,H a=some (.dK kvs))∨∃ kvs,H a=some (.dT kvs))∧SqT K H b ys∧Q (.bl false) H
theorem Am (hu:X.A.units<cLine):OpR X (compareOp .Eq) (yU X.K):=by
 intro pins s σ H x y v u Q I rx ry h
 obtain ⟨a,b,ys,rfl,rfl,ha,hb,q⟩:=h
 cases rx
 cases ry
 obtain ⟨its,_,p1,_⟩:=I.tuple hb
 obtain ⟨o2,ho2,hc2,_⟩:=id p1
 obtain ⟨o,ho,hc⟩:∃ o,s.heap.get? a=some o∧o.cls=.type "dict" :=by
  rcases ha with ⟨kvs,e⟩ | ⟨kvs,e⟩
  · obtain ⟨_,_,_,_,o,_,_,h1,h2,_⟩:=(show aU X.prog X.w H s.heap a (.dK kvs) from I.hok a _ e)
    exact ⟨o,h1,h2.1⟩
  · obtain ⟨_,_,_,_,o,_,_,h1,h2,_⟩:=(show aU X.prog X.w H s.heap a (.dT kvs) from I.hok a _ e)
    exact ⟨o,h1,h2.1⟩
 have hne:a≠b:=fun e=>by
  subst e
  rw [ho] at ho2;cases ho2
  rw [hc] at hc2;exact absurd hc2 (by simp)
 show wpAny _ _ (richCompare .Eq (.ref a) (.ref b)) _ _ s
 exact SeqAt.rc_eq_decline_or (k:=false) ⟨_,ho,hc⟩ ⟨_,ho2,hc2⟩ (by decide) F.sub_tuple_dict F.slot_dict_eq F.slot_tuple_eq_refl
  (fun _ hq=>call_meets F.slot_dict_eq ⟨_,ho,hc⟩ F.entry_dict_eq (F.args_dict_eq_2 _ _) (HT.sf a b o hc o2 hc2) ⟨ho,ho2,hq⟩)
  (fun _ hq=>call_meets F.slot_tuple_eq_refl ⟨_,ho2,hc2⟩ F.entry_tuple_eq (F.args_tuple_eq_2 _ _) (HT.qD b a o2 hc2 o hc) ⟨ho2,ho,hq⟩)
  (fun _ hq=>wpAny_isSame_ref_other hne ho ho2 (by rw [hc];simp) hq) (.inr hu) ⟨.bl false,H,I,rfl,q⟩
def bH (K:W.Frag):R2:=fun x y H Q=>match x,y with
 | .ref a,.ref b=>BR K (.ref a) (.ref b) H Q∨sW K (.ref a) (.ref b) H Q∨yU K (.ref a) (.ref b) H Q
 | .ref a,y=>sW K (.ref a) y H Q
 | x,.ref b=>sW K x (.ref b) H Q
 | x,y=>mEq x y H Q
theorem bV (hu:X.A.units+150<cLine):OpR X (compareOp .Eq) (bH X.K):=((Bl (by omega)).or ((CW hu).or ((Am (by omega)).or oEq))).imp fun x y H Q q=>by
 unfold bH at q
 split at q
 · exact q.elim .inl fun z=>z.elim (fun z=> .inr (.inl z)) fun z=> .inr (.inr (.inl z))
 · exact .inr (.inl q)
 · exact .inr (.inl q)
 · exact .inr (.inr (.inr q))
end
end L2
namespace HT
open PySem PyProof.Rows
theorem kM:typeLookup (.type "tuple") "__reversed__" =pure none:=by rw [typeLookup_type,builtinLookup_eq_fast];kernel_rfl
theorem mM:Manifest.owners.lookup (String.ofList ['d','e','s','r','e','v','e','r'].reverse)=some Manifest.sig_reversed:=by kernel_rfl
theorem cD:Slot "reversed" "__next__" "reversed.__next__" :=
 .of (owner:= "reversed") (n:= "__next__") (by rw [typeLookup_type,builtinLookup_eq_fast];kernel_rfl) (by decide +kernel) (by decide +kernel) (by decide +kernel)
  (by first | exact .inl (by decide +kernel) | exact .inr (by decide +kernel)) (by rw [isSubtype_type];kernel_rfl)
theorem fe:entryFor table "reversed.__next__" =some Builtin.«reversed.__next__»:=entryFor_of_tree (by kernel_rfl)
theorem fH (a:Value):argsOk "reversed.__next__" ⟨[a],[]⟩:=by
 unfold argsOk;rw [signature?_of (id:= "reversed.__next__") (n:=['_','_','t','x','e','n','_','_']) (o:=['d','e','s','r','e','v','e','r']) (by kernel_rfl) mM];kernel_rfl
theorem iQ:Slot "reversed" "__iter__" "reversed.__iter__" :=
 .of (owner:= "reversed") (n:= "__iter__") (by rw [typeLookup_type,builtinLookup_eq_fast];kernel_rfl) (by decide +kernel) (by decide +kernel) (by decide +kernel)
  (by first | exact .inl (by decide +kernel) | exact .inr (by decide +kernel)) (by rw [isSubtype_type];kernel_rfl)
theorem nR (a:Value):argsOk "reversed.__iter__" ⟨[a],[]⟩:=by
 unfold argsOk;rw [signature?_of (id:= "reversed.__iter__") (n:=['_','_','r','e','t','i','_','_']) (o:=['d','e','s','r','e','v','e','r']) (by kernel_rfl) mM];kernel_rfl
theorem ms:entryFor table "reversed.__iter__" =some Builtin.«dict_keyiterator.__iter__»:=
 entryFor_alias (id':= "dict_keyiterator.__iter__") (by kernel_rfl) (by first | rfl | decide +kernel | (unfold String.splitOn;simp +decide [String.splitOnAux])) (by decide +kernel) (by kernel_rfl)
theorem nQ:Slot "reversed" "__init__" "object.__init__" :=
 .of (owner:= "object") (n:= "__init__") (by rw [typeLookup_type,builtinLookup_eq_fast];kernel_rfl) (by decide +kernel) (by decide +kernel) (by decide +kernel)
  (by first | exact .inl (by decide +kernel) | exact .inr (by decide +kernel)) (by rw [isSubtype_type];kernel_rfl)
theorem sk:TypeCalled "reversed" "reversed.__new__" "object.__init__" :=
 ⟨by decide +kernel,PySem.F.create_reversed,⟨_,_,PySem.F.mro_reversed⟩,PySem.F.made_reversed,by decide +kernel,PySem.F.sub_reversed_self,nQ⟩
theorem qz:isSubtype (.type "tuple") (.type "dict")=pure false:=by rw [isSubtype_type];kernel_rfl
def iw (t:Addr) (i:Int):Obj:={ cls:=.type "reversed",data:=.fields #[.ref t,rawInt i] }
theorem nP (t:Addr) (items:Array Value):Meets (Builtin.«reversed.__new__» ⟨[.type "reversed",.ref t],[]⟩) (fun _ R s=>IsTup s.heap t items∧(items.size:Int)<2^63∧
  R (.ok (.ret (.ref s.heap.objs.size))) { s with heap:=s.heap.push (iw t ((items.size:Int) - 1)),toks:=s.toks+1+1 }):=
 .of_wp fun prog w A R s h=>by
  obtain ⟨ht,hz,h⟩:=h
  unfold Builtin.«reversed.__new__»
  refine wpAny_bind (wpAny_of_eq (newClass_reversed _) ?_)
  try dsimp only
  refine wpAny_bind (wpAny_of_eq (a:=()) (by first | rfl | kernel_rfl) ?_)
  refine wpAny_bind (wpAny_of_eq (a:=()) (by first | rfl | kernel_rfl) ?_)
  try dsimp only
  refine wpAny_bind (wpAny_specialOf ht.typeIs kM ?_)
  try dsimp only
  refine wpAny_bind (wpAny_bind (wpAny_isInstance (T:= "tuple") (b:=false) ht.typeIs qz ?_))
  rw [if_neg (by simp)]
  refine wpAny_bind (wpAny_specialOf (r:=some (.builtin "tuple.__getitem__")) ht.typeIs slot_tuple_getitem.lookup ?_)
  show wpAny _ _ (if (["tuple.__getitem__", "str.__getitem__", "bytes.__getitem__", "bytearray.__getitem__", "memoryview.__getitem__", "numpy.ndarray.__getitem__", "sqlite3.Row.__getitem__"].contains "tuple.__getitem__")=true then _ else _) _ _ s
  rw [if_pos (by decide)]
  refine wpAny_pure ?_
  rw [if_neg (by simp)]
  refine wpAny_bind (len_tuple ht hz ?_)
  refine wpAny_bind (wpAny_of_eq (a:=some ((items.size:Nat):Int)) rfl ?_)
  show wpAny _ _ (newObj (.type "reversed") (.fields #[.ref t,rawInt ((items.size:Int) - 1)])>>=_) _ _ _
  exact wpAny_bind (wpAny_newObj_type (wpAny_pure ⟨_,rfl,h⟩))
section
variable {prog:Program} {w:World} {A:Around} {E:Value→Shared→Prop} {s:Shared}
theorem eY {t:Addr} {items:Array Value} {Q:Value→Shared→Prop} (ht:IsTup s.heap t items) (hz:(items.size:Int)<2^63)
  (h:Q (.ref s.heap.objs.size) { s with heap:=s.heap.push (iw t ((items.size:Int) - 1)),toks:=s.toks+1+1 }):wpAny (model prog w) A (call (.type "reversed") [.ref t]) Q E s:=
 callType_new sk (by decide) (PySem.F.typeCall_reversed_1 _) (PySem.F.newCall_reversed_1 _) (fun obj=>PySem.F.args_object_init_2 obj _) PySem.F.entry_reversed_new (nP t items) ⟨ht,hz,⟨_,Heap.get?_push_size _ rfl,rfl⟩,h⟩
def cZ (h:Heap) (a t:Addr) (i:Int):Prop:=h.get? a=some (iw t i)
theorem cZ.typeIs {a t:Addr} {i:Int} (x:cZ s.heap a t i):s.TypeIs (.ref a) "reversed" :=⟨_,x,rfl⟩
theorem nX {it t:Addr} {i:Nat} {items:Array Value} {x:Value} {Q:Option Value→Shared→Prop} (hit:cZ s.heap it t (i:Int)) (ht:IsTup s.heap t items) (hz:(items.size:Int)<2^63) (hx:items[i]?=some x)
   (hQ:∀ h',cZ h' it t ((i:Int) - 1)→Heap.SameBut it s.heap h'→Q (some x) { s with heap:=h',toks:=s.toks+1 }):wpAny (model prog w) A (pyNext (.ref it)) Q E s:=by
 have hi:i<items.size:=by
   rcases Nat.lt_or_ge i items.size with h | h
   · exact h
   · rw [Array.getElem?_eq_none h] at hx;cases hx
 unfold pyNext
 refine wpAny_bind (wpAny_attempt (wpAny_callSpecial?_slot (name:=Str.ofString "__next__") hit.typeIs cD
   (wpAny_call_entry cD hit.typeIs fe ?_ (fH _))))
 unfold Builtin.«reversed.__next__»
 refine wpAny_bind (wpAny_of_eq (a:=(Value.ref it,[])) rfl ?_)
 try dsimp only
 refine wpAny_bind (wpAny_field hit rfl (x:=.ref t) rfl ?_)
 refine wpAny_bind (wpAny_field hit rfl (x:=rawInt (i:Int)) rfl ?_)
 show wpAny _ _ (if (i:Int)<0 then _ else _) _ _ s
 rw [if_neg (by omega)]
 refine wpAny_bind (wpAny_specialOf (r:=some (.builtin "tuple.__getitem__")) ht.typeIs slot_tuple_getitem.lookup ?_)
 rw [if_neg (by simp)]
 refine wpAny_bind (wpAny_mkInt ?_)
 refine wpAny_bind (wpAny_attempt (getItem_tuple (j:=i) (x:=x) ht (by omega) (by omega) ?_ hx ?_))
 · unfold seqIndex?
   simp
   omega
 · refine wpAny_bind (wpAny_field (s:={ s with toks:=s.toks+1 }) hit rfl (x:=rawInt (i:Int)) rfl ?_)
   refine wpAny_bind (wpAny_setField_rec hit (by simp) fun h' y sb=>?_)
   exact wpAny_pure ⟨x,rfl,wpAny_pure (hQ h' y sb)⟩
theorem pR {it t:Addr} {Q:Option Value→Shared→Prop} (hh:A.handled=none) (hit:cZ s.heap it t (-1))
  (hQ:∀ h',Heap.ExtBut it s.heap h'→Q none { s with heap:=h' }):wpAny (model prog w) A (pyNext (.ref it)) Q E s:=by
 unfold pyNext
 refine wpAny_bind (wpAny_attempt (wpAny_callSpecial?_slot (name:=Str.ofString "__next__") hit.typeIs cD
  (wpAny_call_entry cD hit.typeIs fe ?_ (fH _))))
 unfold Builtin.«reversed.__next__»
 refine wpAny_bind (wpAny_of_eq (a:=(Value.ref it,[])) rfl ?_)
 try dsimp only
 refine wpAny_bind (wpAny_field hit rfl (x:=.ref t) rfl ?_)
 refine wpAny_bind (wpAny_field hit rfl (x:=rawInt (-1)) rfl ?_)
 show wpAny _ _ (if (-1:Int)<0 then _ else _) _ _ s
 rw [if_pos (by decide)]
 refine wpAny_bind (wpAny_rule ?_)
 refine wpAny_bind (wpAny_bind (wpAny_setField_rec hit (by simp) fun h1 y1 s1=>?_))
 refine wpAny_setField_rec y1 (by simp) fun h2 y2 s2=>?_
 first
 | show wpAny _ _ (newExc (.type "StopIteration") []>>=_) _ _ _
 | (refine wpAny_bind ?_;show wpAny _ _ (newExc (.type "StopIteration") []>>=_) _ _ _)
 refine wpAny_bind ?_
 simp only [newExc,newTuple]
 refine wpAny_bind (wpAny_newObj_type ?_ (by size_fits))
 refine wpAny_bind (m:=firstArgMember _ _) (wpAny_of_eq (a:=Value.none) (by first | rfl | (simp only [firstArgMember];rfl)) ?_)
 refine wpAny_newObj_type ?_ (by size_fits)
 simp only [raiseNew]
 refine wpAny_bind (wpAny_handled ?_)
 first | rw [show A.in1.handled=none from hh] | rw [hh]
 refine wpAny_bind (wpAny_pure (wpAny_throw ?_))
 refine wpAny_bind (wpAny_isInstance (T:= "StopIteration") (b:=true) ⟨_,Heap.get?_push_size _ rfl,rfl⟩ isSubtype_stop ?_)
 have eb:Heap.ExtBut it s.heap h2:=fun c o hc e=>s2.extBut _ _ hc (s1.extBut _ _ hc e)
 exact wpAny_pure (hQ _ ((eb.push _).push _))
theorem kR {it t:Addr} {i:Int} {Q:Value→Shared→Prop} (hit:cZ s.heap it t i) (h:Q (.ref it) s):wpAny (model prog w) A (pyIter (.ref it)) Q E s:=by
 refine wpAny_pyIter_slot hit.typeIs iQ (wpAny_call_entry iQ hit.typeIs ms ?_ (nR _))
 show wpAny _ _ (ret (.ref it)) _ _ s
 exact wpAny_pure ⟨_,rfl, "reversed",_,hit.typeIs,cD.lookup,h⟩
end
end HT
namespace L2
open PySem PySem.Spec PyProof.Rows
def Cr (K:W.Frag) (a:Addr) (xs:List V):It:=
 ⟨fun i H=>SqT K H a xs∧i<xs.length,fun i H x H'=>H'=H∧xs.reverse[i]?=some x,fun i _=>xs.length≤i⟩
theorem wk {P:Program} {w:World} {K:W.Frag} {tg:Expr} (a it:Addr) (xs:List V):iO P w K tg (Cr K a xs) [it] it (fun i h=>i≤xs.length∧HT.cZ h it a ((xs.length:Int) - 1 - i)) where
 mem:=by simp
 obj:=fun i h st b hb=>by
  have e:b=it:=by simpa using hb
  subst e
  exact ⟨_,st.2,fun v z=>by cases z⟩
 keep:=fun i h h' st k=>⟨st.1,k it (by simp) _ st.2⟩
 item:=by
  intro X hP hw hK hc i pins s σ H E I hf st hg
  subst hP hw hK
  obtain ⟨hq,hi⟩:=hg
  obtain ⟨its,rv,p,hz⟩:=I.tuple hq
  obtain ⟨f0,f1,f2,f3,f4,f5⟩:=hf it (by simp)
  have hl:=rv.length
  obtain ⟨x,hx⟩:∃ x,xs[xs.length - 1 - i]?=some x:=⟨_,List.getElem?_eq_getElem (by omega)⟩
  obtain ⟨u,hu,ru⟩:=rv.get hx
  have hrx:xs.reverse[i]?=some x:=by rw [List.getElem?_reverse hi];exact hx
  have e1:(xs.length:Int) - 1 - i=((xs.length - 1 - i:Nat):Int):=by omega
  have st2:=st.2
  rw [e1] at st2
  refine HT.nX st2 (show IsTup s.heap a its.toArray from p) (by rw [List.size_toArray];rw [sizeLine_eq] at hz;omega) (x:=u) (by simpa using hu) fun h' st' sb=>?_
  have I1:Inv X pins σ H { s with heap:=h',toks:=s.toks+1 }:=I.turned (t':=s.toks+1) (fun b o hb e=>(sb.2 b hb).trans e) f0 f1 f3 f4 f5
  have e2:((xs.length - 1 - i:Nat):Int) - 1=(xs.length:Int) - 1 - ((i+1:Nat):Int):=by omega
  rw [e2] at st'
  exact ⟨u,rfl,jJ (s:={ s with heap:=h',toks:=s.toks+1 }) st' rfl rfl (by decide) ⟨x,H,I1,ru,⟨rfl,hrx⟩,⟨hi,st'⟩,fun b hb=>(hf b hb).1⟩⟩
 done:=by
  intro X hP hw hK hc i pins s σ H E I hf st hg
  subst hP hw hK
  obtain ⟨f0,f1,f2,f3,f4,f5⟩:=hf it (by simp)
  have hi:xs.length≤i:=hg
  have e1:(xs.length:Int) - 1 - i= -1:=by have:=st.1;omega
  have st2:=st.2
  rw [e1] at st2
  exact HT.pR (I.ok.hd hc) st2 fun h' eb=>⟨rfl,I.turned (t':=s.toks) (fun b o hb e=>eb b o hb e) f0 f1 f3 f4 f5⟩
 self:=fun A i s Q E st h=>HT.kR st.2 h
theorem gI:bootBuiltins "reversed" =some (.type "reversed"):=by decide +kernel
section
variable {X:Cx} {a:Expr} {t:TA} {p pos:Pos} {tg:Expr}
def wV:List V→Hp→VK→Prop:=fun xs H Q=>match xs with | [.int i,.int j]=>Q (.int (if j>i then j else i)) H | _=>False
theorem IL (hc:X.calm=true):bv X (.builtin "max") wV:=fun pins s σ H xs us Q I r q=>by
 unfold wV at q
 split at q
 · exact uX hc pins s σ H _ us Q I r ⟨_,_,rfl,q⟩
 · exact q.elim
theorem xv:OpR X (binaryOp .FloorDiv) (rI (fun _ j=>0<j∧j<1267650600228229401496703205376) fun i j=> .int (i/j)):=opI fun i j _ _ _ _ _ hc q=>by
 have h1:(0:Int)<j:=hc.1
 have h2:j<1267650600228229401496703205376:=hc.2
 have h3:j.natAbs.log2<100:=(Nat.log2_lt (by omega)).mpr (Nat.lt_of_lt_of_eq (m:=1267650600228229401496703205376) (by omega) (by decide))
 exact floordiv_int (by omega) (by rw [Int.fdiv_eq_ediv_of_nonneg i (by omega)];exact q) (.inl (PyProof.noPylong_of_log2 (by omega)))
def bw:R2:=fun x y H Q=>match x,y with | .int i,.int j=>(0<j∧j<1267650600228229401496703205376)∧Q (.int (i/j)) H | _,_=>False
theorem bF:OpR X (binaryOp .FloorDiv) bw:=xv.imp fun x y H Q q=>by
 unfold bw at q
 split at q
 · exact ⟨_,_,rfl,rfl,q.1,q.2⟩
 · exact q.elim
end
section
variable {α:Type} {l:List α}
theorem sL (h:l.length=0):l=[]:=List.length_eq_zero_iff.mp h
theorem dW (h : l.length = 1) : ∃ a0, l = [a0] := by
  cases l with
  | nil => simp at h
  | cons a l =>
    obtain rfl := sL (l := l) (by simpa using h)
    exact ⟨a, rfl⟩
theorem sx (h : l.length = 2) : ∃ a0 a1, l = [a0, a1] := by
  cases l with
  | nil => simp at h
  | cons a l =>
    obtain ⟨b0, rfl⟩ := dW (l := l) (by simpa using h)
    exact ⟨a, b0, rfl⟩
theorem zd (h : l.length = 3) : ∃ a0 a1 a2, l = [a0, a1, a2] := by
  cases l with
  | nil => simp at h
  | cons a l =>
    obtain ⟨b0, b1, rfl⟩ := sx (l := l) (by simpa using h)
    exact ⟨a, b0, b1, rfl⟩
theorem yC (h : l.length = 4) : ∃ a0 a1 a2 a3, l = [a0, a1, a2, a3] := by
  cases l with
  | nil => simp at h
  | cons a l =>
    obtain ⟨b0, b1, b2, rfl⟩ := zd (l := l) (by simpa using h)
    exact ⟨a, b0, b1, b2, rfl⟩
theorem yE (h : l.length = 5) : ∃ a0 a1 a2 a3 a4, l = [a0, a1, a2, a3, a4] := by
  cases l with
  | nil => simp at h
  | cons a l =>
    obtain ⟨b0, b1, b2, b3, rfl⟩ := yC (l := l) (by simpa using h)
    exact ⟨a, b0, b1, b2, b3, rfl⟩
theorem Fs (h : l.length = 6) : ∃ a0 a1 a2 a3 a4 a5, l = [a0, a1, a2, a3, a4, a5] := by
  cases l with
  | nil => simp at h
  | cons a l =>
    obtain ⟨b0, b1, b2, b3, b4, rfl⟩ := yE (l := l) (by simpa using h)
    exact ⟨a, b0, b1, b2, b3, b4, rfl⟩
end
theorem aY.le {A:Around} {m n:Nat} (h:aY m A) (d:n≤m:=by first | decide | omega):aY n A:=h.mono d
theorem scF {N P:List Str} {sc:Scope} (h1:sc.kind=.function:=by rfl) (h2:sc.isCoroutine=false:=by rfl) (h3:sc.isGenerator=false:=by rfl) (h4:N.Nodup:=by decide +kernel) (h5:N.take P.length=P:=by rfl)
 (h6:∀ x∈P,sc.names.lookup x=some .local∨sc.names.lookup x=some .cell:=by decide +kernel) (h7:∀ y∈sc.names,y.2≠ .free:=by decide +kernel):az N P sc:=⟨h1,h2,h3,h4,h5,h6,h7⟩
structure Fm (K:W.Frag) (mg:Str→Option Value) (x qual:Str) (st:Stmt) (a:Addr) (d:FuncData) (ps:List Str):Prop where
 f:Fun K x qual st a d
 m:mg x=some (.ref a)
 b:bA K d ps []
structure Fa (K:W.Frag) (x qual:Str) (st:Stmt) (a:Addr) (d:FuncData):Prop where
 m:W.nsIn K mainGlobals x=some (some (.ref a))
 f:Fun K x qual st a d
section
variable {P:Program} {w:World} {K:W.Frag} {mg:Str→Option Value} {base h:Heap} {x qual:Str} {st:Stmt} {a:Addr} {d:FuncData} {ps:List Str}
theorem ba {oc:Value} {od an:Option Addr} {osl:Array (Option Value)} {kV doc pm cdv ct:Value} (m:W.nsIn K mainGlobals x=some (some (.ref a))) (l:K.lookup a=some ⟨oc,od,.func (W.fnOf x qual (bC st) (aJ st) (al st) .none kV doc pm an cdv ct),osl⟩)
 (c:W.codeIn K cdv qual=true) (k:W.keepIn K (.ref a)=true):Fa K x qual st a (W.fnOf x qual (bC st) (aJ st) (al st) .none kV doc pm an cdv ct):=⟨m,dw l c k⟩
theorem Fa.code (F:Fa K x qual st a d) (X:K.In h) (G:h.Ns mainGlobals mg) {z t:Addr} (ht:W.tabIn K x=some (z,t)):d.code=.ref z:=by
 obtain ⟨oc,od,kV,doc,pm,an,cdv,ct,osl,e,lk,hcd⟩:=F.f.ex
 exact W.law_code X G ht (W.mg_of X G F.m) (X _ _ lk) rfl
theorem Fun.bt {p:Str} (F:Fun K x qual st a d) (hb:∀ (kV doc pm:Value) (an:Option Addr) (cdv ct v:Value),bindArgs (W.fnOf x qual (bC st) (aJ st) (al st) .none kV doc pm an cdv ct) ⟨[v],[]⟩=pure [(p,v)]:=by intros;rfl) (s:Shared) (v:Value):BindsTo s d ⟨[v],[]⟩ [(p,v)]:=by
 obtain ⟨oc,od,kV,doc,pm,an,cdv,ct,osl,rfl,lk,hcd⟩:=F.ex
 exact .of_eq (hb kV doc pm an cdv ct v)
theorem Fun.b0 (F:Fun K x qual st a d) (hb:∀ (kV doc pm:Value) (an:Option Addr) (cdv ct:Value),bindArgs (W.fnOf x qual (bC st) (aJ st) (al st) .none kV doc pm an cdv ct) ⟨[],[]⟩=pure (List.zip [] []):=by intros;rfl):bA K d [] []:=F.binds fun kV doc pm an cdv ct us hl=>by
 obtain rfl:=L2.sL hl
 exact hb kV doc pm an cdv ct
theorem Fa.fm0 (F:Fa K x qual st a d) (X:K.In h) (G:h.Ns mainGlobals mg) (hb:∀ (kV doc pm:Value) (an:Option Addr) (cdv ct:Value),bindArgs (W.fnOf x qual (bC st) (aJ st) (al st) .none kV doc pm an cdv ct) ⟨[],[]⟩=pure (List.zip [] []):=by intros;rfl):Fm K mg x qual st a d []:=⟨F.f,W.mg_of X G F.m,F.f.b0 hb⟩
theorem Fun.b1 {p0:Str} (F:Fun K x qual st a d) (hb:∀ (kV doc pm:Value) (an:Option Addr) (cdv ct u0:Value),bindArgs (W.fnOf x qual (bC st) (aJ st) (al st) .none kV doc pm an cdv ct) ⟨[u0],[]⟩=pure (List.zip [p0] [u0]):=by intros;rfl):bA K d [p0] []:=F.binds fun kV doc pm an cdv ct us hl=>by
 obtain ⟨u0,rfl⟩:=L2.dW hl
 exact hb kV doc pm an cdv ct u0
theorem Fa.fm1 {p0:Str} (F:Fa K x qual st a d) (X:K.In h) (G:h.Ns mainGlobals mg) (hb:∀ (kV doc pm:Value) (an:Option Addr) (cdv ct u0:Value),bindArgs (W.fnOf x qual (bC st) (aJ st) (al st) .none kV doc pm an cdv ct) ⟨[u0],[]⟩=pure (List.zip [p0] [u0]):=by intros;rfl):Fm K mg x qual st a d [p0]:=⟨F.f,W.mg_of X G F.m,F.f.b1 hb⟩
theorem Fun.b2 {p0 p1:Str} (F:Fun K x qual st a d) (hb:∀ (kV doc pm:Value) (an:Option Addr) (cdv ct u0 u1:Value),bindArgs (W.fnOf x qual (bC st) (aJ st) (al st) .none kV doc pm an cdv ct) ⟨[u0,u1],[]⟩=pure (List.zip [p0,p1] [u0,u1]):=by intros;rfl):bA K d [p0,p1] []:=F.binds fun kV doc pm an cdv ct us hl=>by
 obtain ⟨u0,u1,rfl⟩:=L2.sx hl
 exact hb kV doc pm an cdv ct u0 u1
theorem Fa.fm2 {p0 p1:Str} (F:Fa K x qual st a d) (X:K.In h) (G:h.Ns mainGlobals mg) (hb:∀ (kV doc pm:Value) (an:Option Addr) (cdv ct u0 u1:Value),bindArgs (W.fnOf x qual (bC st) (aJ st) (al st) .none kV doc pm an cdv ct) ⟨[u0,u1],[]⟩=pure (List.zip [p0,p1] [u0,u1]):=by intros;rfl):Fm K mg x qual st a d [p0,p1]:=⟨F.f,W.mg_of X G F.m,F.f.b2 hb⟩
theorem Fun.b3 {p0 p1 p2:Str} (F:Fun K x qual st a d) (hb:∀ (kV doc pm:Value) (an:Option Addr) (cdv ct u0 u1 u2:Value),bindArgs (W.fnOf x qual (bC st) (aJ st) (al st) .none kV doc pm an cdv ct) ⟨[u0,u1,u2],[]⟩=pure (List.zip [p0,p1,p2] [u0,u1,u2]):=by intros;rfl):bA K d [p0,p1,p2] []:=F.binds fun kV doc pm an cdv ct us hl=>by
 obtain ⟨u0,u1,u2,rfl⟩:=L2.zd hl
 exact hb kV doc pm an cdv ct u0 u1 u2
theorem Fa.fm3 {p0 p1 p2:Str} (F:Fa K x qual st a d) (X:K.In h) (G:h.Ns mainGlobals mg) (hb:∀ (kV doc pm:Value) (an:Option Addr) (cdv ct u0 u1 u2:Value),bindArgs (W.fnOf x qual (bC st) (aJ st) (al st) .none kV doc pm an cdv ct) ⟨[u0,u1,u2],[]⟩=pure (List.zip [p0,p1,p2] [u0,u1,u2]):=by intros;rfl):Fm K mg x qual st a d [p0,p1,p2]:=⟨F.f,W.mg_of X G F.m,F.f.b3 hb⟩
theorem Fun.b4 {p0 p1 p2 p3:Str} (F:Fun K x qual st a d) (hb:∀ (kV doc pm:Value) (an:Option Addr) (cdv ct u0 u1 u2 u3:Value),bindArgs (W.fnOf x qual (bC st) (aJ st) (al st) .none kV doc pm an cdv ct) ⟨[u0,u1,u2,u3],[]⟩=pure (List.zip [p0,p1,p2,p3] [u0,u1,u2,u3]):=by intros;rfl):bA K d [p0,p1,p2,p3] []:=F.binds fun kV doc pm an cdv ct us hl=>by
 obtain ⟨u0,u1,u2,u3,rfl⟩:=L2.yC hl
 exact hb kV doc pm an cdv ct u0 u1 u2 u3
theorem Fa.fm4 {p0 p1 p2 p3:Str} (F:Fa K x qual st a d) (X:K.In h) (G:h.Ns mainGlobals mg) (hb:∀ (kV doc pm:Value) (an:Option Addr) (cdv ct u0 u1 u2 u3:Value),bindArgs (W.fnOf x qual (bC st) (aJ st) (al st) .none kV doc pm an cdv ct) ⟨[u0,u1,u2,u3],[]⟩=pure (List.zip [p0,p1,p2,p3] [u0,u1,u2,u3]):=by intros;rfl):Fm K mg x qual st a d [p0,p1,p2,p3]:=⟨F.f,W.mg_of X G F.m,F.f.b4 hb⟩
theorem Fun.b5 {p0 p1 p2 p3 p4:Str} (F:Fun K x qual st a d) (hb:∀ (kV doc pm:Value) (an:Option Addr) (cdv ct u0 u1 u2 u3 u4:Value),bindArgs (W.fnOf x qual (bC st) (aJ st) (al st) .none kV doc pm an cdv ct) ⟨[u0,u1,u2,u3,u4],[]⟩=pure (List.zip [p0,p1,p2,p3,p4] [u0,u1,u2,u3,u4]):=by intros;rfl):bA K d [p0,p1,p2,p3,p4] []:=F.binds fun kV doc pm an cdv ct us hl=>by
 obtain ⟨u0,u1,u2,u3,u4,rfl⟩:=L2.yE hl
 exact hb kV doc pm an cdv ct u0 u1 u2 u3 u4
theorem Fa.fm5 {p0 p1 p2 p3 p4:Str} (F:Fa K x qual st a d) (X:K.In h) (G:h.Ns mainGlobals mg) (hb:∀ (kV doc pm:Value) (an:Option Addr) (cdv ct u0 u1 u2 u3 u4:Value),bindArgs (W.fnOf x qual (bC st) (aJ st) (al st) .none kV doc pm an cdv ct) ⟨[u0,u1,u2,u3,u4],[]⟩=pure (List.zip [p0,p1,p2,p3,p4] [u0,u1,u2,u3,u4]):=by intros;rfl):Fm K mg x qual st a d [p0,p1,p2,p3,p4]:=⟨F.f,W.mg_of X G F.m,F.f.b5 hb⟩
theorem Fun.b6 {p0 p1 p2 p3 p4 p5:Str} (F:Fun K x qual st a d) (hb:∀ (kV doc pm:Value) (an:Option Addr) (cdv ct u0 u1 u2 u3 u4 u5:Value),bindArgs (W.fnOf x qual (bC st) (aJ st) (al st) .none kV doc pm an cdv ct) ⟨[u0,u1,u2,u3,u4,u5],[]⟩=pure (List.zip [p0,p1,p2,p3,p4,p5] [u0,u1,u2,u3,u4,u5]):=by intros;rfl):bA K d [p0,p1,p2,p3,p4,p5] []:=F.binds fun kV doc pm an cdv ct us hl=>by
 obtain ⟨u0,u1,u2,u3,u4,u5,rfl⟩:=L2.Fs hl
 exact hb kV doc pm an cdv ct u0 u1 u2 u3 u4 u5
theorem Fa.fm6 {p0 p1 p2 p3 p4 p5:Str} (F:Fa K x qual st a d) (X:K.In h) (G:h.Ns mainGlobals mg) (hb:∀ (kV doc pm:Value) (an:Option Addr) (cdv ct u0 u1 u2 u3 u4 u5:Value),bindArgs (W.fnOf x qual (bC st) (aJ st) (al st) .none kV doc pm an cdv ct) ⟨[u0,u1,u2,u3,u4,u5],[]⟩=pure (List.zip [p0,p1,p2,p3,p4,p5] [u0,u1,u2,u3,u4,u5]):=by intros;rfl):Fm K mg x qual st a d [p0,p1,p2,p3,p4,p5]:=⟨F.f,W.mg_of X G F.m,F.f.b6 hb⟩
theorem Fun.okS {CX:CXT} {N:List Str} {k:Nat} {sp:Sp} {t:TS} (F:Fun K x qual st a d) (S:az N ps (al st)) (len:∀ vs H Q E,sp vs H Q E→vs.length=ps.length)
  (hrd:∀ (vs:List V) (H:Hp) (Q:VK) (E:XK),sp vs H Q E→t { nx:=fun _ H'=>Q .non H',rt:=Q } (start N vs) H)
  (hq:∀ (cdv:Value) (A:Around) (outer:List Env) (s:Shared) (H:Hp) (E:XK),aY k (A.deeper (envOfC qual (al st) s.heap.objs.size a cdv))→QSs (cy CX P w K mg base N qual (al st) a cdv A outer s H E).nox (aJ st) t):aM P w K mg base CX (k+1) a d ps sp:=
 F.okN S len fun cdv A outer s H vs Q E hr h=>⟨t,(hq cdv A outer s H E hr).out,hrd vs H Q E h⟩
end
section
variable {X:Cx} {x q:Str} {e:Expr} {es:List Expr} {t:TA} {p pos:Pos} {st:Stmt} {f:Addr} {fd:FuncData} {ps:List Str} {k:Nat} {sp:Sp}
theorem aI {P:Program} {w:World} (F:aM X.prog X.w X.K X.mg X.base (CX1 P w) k f fd ps sp) (hr:aY k X.A) (M:Fm X.K X.mg x q st f fd ps)
 (ha:QA X (e::es) t) (hg:Gl X x:=by rfl) (hdb:(x==("__debug__" :Str))=false:=by decide) (hs:aX (e::es)=true:=by rfl):QE X (.Call (.Name x p) (e::es) [] pos) (av sp (fun _=>E0) t):=fk F hr M.m M.f.kp M.b bO ha hg hdb hs
end
def uG (ks:ix) (C:Addr) (m:Str) (E:St→XK) (ta:TE) (t:TA):TE:=fun σ H Q=>ta σ H fun x H1=>∃ a dx fs f,x=.ref a∧H1 a=some (.ins C dx fs)∧fs.lookup m=some (.ref f)∧(∃ ts∈ks,∃ cs cvs,dq H1 f ts.1 cs cvs)∧t σ H1 fun vs H2=>lr ks f vs H2 Q (E σ)
section
variable {X:Cx} {pins:List (Addr×Obj)} {σ:St} {H:Hp} {s:Shared} {A:Around} {E:Value→Shared→Prop} {a C dx:Addr} {fs:List (Str×V)} {v:V}
theorem tu {m:Str} {pl:Sem Bool} {Q:Value×List Value→Shared→Prop} (I:Inv X pins σ H s) (e:H a=some (.ins C dx fs)) (c:Cls X.K C) (n:du X.K C m) (l:fs.lookup m=some v)
  (h:∀ u s',Inv X pins σ H s'→aS v u→Q (u,[]) s'):wpAny (model X.prog X.w) A (getMethod (.ref a) m pl) Q E s:=by
 obtain ⟨mA,O,r,_,_,_⟩:=gW I.hok e
 obtain ⟨od,J,hl⟩:=O.look
 exact W.method_usual (r:=none) I.kIn J (W.plainGet_of (c.get m)).1 (W.plainGet_of (c.get m)).2 n rfl (lS I e c n l h)
end
section
variable {X:Cx} {k:Nat} {C:Addr} {E:St→XK} {m:Str} {pos apos:Pos} {e o:Expr} {es:List Expr} {ta:TE} {t:TA}
theorem An {pl : Sem Bool} {ks : ix} (hk : mr X.prog X.w X.K X.mg X.base k ks) (hr : aY k X.A) (hx : dC (CX1 X.prog X.w) X E) (he : QE X o ta) (c : Cls X.K C) (n : du X.K C m) (ha : QA X (e :: es) t)
    (hs : aX (e :: es) = true := by rfl)
    (ht : eval (.Call (.Attribute o m apos) (e :: es) [] pos) X.env = (do
      let ov ← eval o X.env
      standAt apos.atName
      let (f, first) ← holding [ov] (getMethod ov m pl)
      callWith pos f first (backTo pos (starEach (e :: es) X.env)) (backToKw pos (keywordEach [] X.env))) := by rfl) :
    QE X (.Call (.Attribute o m apos) (e :: es) [] pos) (uG ks C m E ta t) := ⟨fun pins s σ H Q I h => by
  have h' : (bz e && aX es) = true := hs
  refine W.methodCall_KW (pl := pl) (thn (he.out pins s σ H _ I h) fun u s1 ⟨x, H1, I1, rx, a, dx, fs, f, ex, ea, l, ⟨ts, hts, cs, cvs, ca⟩, q⟩ => ?_) ht
  subst ex
  obtain rfl : u = Value.ref a := rx
  refine tu I1 ea c n l fun w s2 I2 rw2 => ?_
  obtain rfl : w = Value.ref f := rw2
  refine W.callWith_F (kS I2.hok ca) (thn (ha.out pos pins s2 σ H1 _ I2 q) fun us s3 ⟨vs, H2, I3, rv, ts2, hm2, cs2, cvs2, ca2, hl, hsp⟩ => ⟨kS I3.hok ca2, ?_⟩)
    (aP (Bool.and_eq_true_iff.mp h').1 es X.env) (bI (Bool.and_eq_true_iff.mp h').2)
  refine wpAny_call (codeAny_mono ((hk ts2 hm2).run X.A X.stack s3 H2 f cs2 us vs cvs2 Q (E σ) hr I3.env0 ca2 rv hl hsp) fun r s' hq => ?_)
  cases r with
  | error e => exact hx pins σ H2 s3 e s' I3 hq
  | ok fl =>
    cases fl with
    | ret u => exact I3.after hq
    | next => exact False.elim hq
    | brk => exact False.elim hq
    | cont => exact False.elim hq⟩
end
section
variable {X:Cx} {a:Expr} {t:TA} {p1 p2 pos1 pos2:Pos}
theorem zG:bootBuiltins "list" =some (.type "list"):=by decide +kernel
end
end L2
namespace HT
open PySem PyProof.Rows
abbrev iF (f0 f1:Value) (TI TO:Addr):Obj:={ cls:=.type "zip",dict:=none,data:=.fields #[f0,f1,.bool false,.ref TI,.ref TO],slots:=#[] }
structure fc (h:Heap) (z TI TO i1 i2 l t S:Addr) (k:Nat):Prop where
 z:(k=0∧h.get? z=some (iF .none (.bool false) TI TO))∨∃ T f oT,h.get? z=some (iF (rawInt (T:Addr)) (.bool f) TI TO)∧h.get? T=some oT∧T≠z∧T≠TO∧T≠i1∧T≠i2∧T≠S
 ti:IsPair h TI (.ref i1) (.ref i2)
 to:∃ a b,IsPair h TO a b
 j1:h.IsListIter i1 l k
 j2:h.IsTupleIter i2 t k
section
variable {prog:Program} {w:World} {A:Around} {E:Value→Shared→Prop} {s:Shared}
theorem rf {z TI TO T : Addr} {f : Bool} {oT : Obj} (hz : s.heap.get? z = some (iF (rawInt T) (.bool f) TI TO)) (hTt : s.heap.get? T = some oT) :
    wpAny (model prog w) A (Builtin.SmallTypes.ownedTupleIsFree (.ref z)) (fun b s1 => b = false ∧ ∃ h₁, s1 = { s with heap := h₁ } ∧ h₁.get? z = some (iF (rawInt T) (.bool true) TI TO) ∧ Heap.SameBut z s.heap h₁) (fun _ _ => False) s := by
  unfold Builtin.SmallTypes.ownedTupleIsFree
  refine wpAny_bind (wpAny_field hz rfl (x := rawInt T) rfl ?_)
  show wpAny _ _ (loadIfAlive ((T : Int).toNat) >>= _) _ _ _
  rw [Int.toNat_natCast]
  refine wpAny_bind (W.kdx_alive hTt ?_)
  simp only [Option.isNone_some, Bool.false_eq_true, if_false]
  refine wpAny_bind (wpAny_field hz rfl (x := .bool f) rfl ?_)
  cases f with
  | true =>
    rw [if_neg (show ¬ ((Value.bool true != Value.bool true) = true) from Bool.false_ne_true)]
    exact wpAny_pure ⟨rfl, s.heap, rfl, hz, Heap.SameBut.refl _ _⟩
  | false =>
    rw [if_pos (show (Value.bool false != Value.bool true) = true from rfl)]
    exact wpAny_bind (wpAny_setField_rec hz (by simp) fun h₃ he₃ hs₃ => wpAny_pure ⟨rfl, h₃, rfl, he₃, hs₃⟩)
theorem tE {z TI TO i1 i2 l t S : Addr} {k : Nat} {xs ys : Array Value} {x y a b : Value} {Q : Option Value → Shared → Prop} (D : ZipApart z TI TO i1 i2 l t) (hz : IsZip s.heap z TI TO .none) (hTI : IsPair s.heap TI (.ref i1) (.ref i2)) (hTO : IsPair s.heap TO a b)
  (h1 : s.heap.IsListIter i1 l k) (h2 : s.heap.IsTupleIter i2 t k) (ht1 : s.heap.IsList l xs) (ht2 : s.heap.IsTuple t ys) (hx : xs[k]? = some x) (hy : ys[k]? = some y) (hS : S < s.heap.objs.size)
  (hQ : ∀ h', fc h' z TI TO i1 i2 l t S (k + 1) → IsPair h' s.heap.objs.size x y →
   (∀ c o, c ≠ z → c ≠ TO → c ≠ i1 → c ≠ i2 → s.heap.get? c = some o → h'.get? c = some o) → Q (some (.ref s.heap.objs.size)) { s with heap := h' }) :
  wpAny (model prog w) A (pyNext (.ref z)) Q E s := by
 have hT : s.TypeIs (.ref z) "zip" := ⟨_, hz, rfl⟩
 unfold pyNext
 refine wpAny_bind (wpAny_attempt (wpAny_callSpecial?_slot (name := Str.ofString "__next__") hT F.slot_zip_next (wpAny_call_entry F.slot_zip_next hT F.entry_zip_next ?_ (F.args_zip_next_1 _))))
 show wpAny _ _ (field (.ref z) 2 >>= _) _ _ _
 refine wpAny_bind (wpAny_field hz rfl (x := .bool false) rfl ?_)
 show wpAny _ _ (field (.ref z) 3 >>= _) _ _ _
 refine wpAny_bind (wpAny_field hz rfl (x := .ref TI) rfl (wpAny_bind (wpAny_seqItems hTI rfl ?_)))
 show wpAny _ _ (Builtin.SmallTypes.ownedTupleIsFree (.ref z) >>= _) _ _ _
 refine wpAny_bind ?_
 unfold Builtin.SmallTypes.ownedTupleIsFree
 refine wpAny_bind (wpAny_field hz rfl (x := .none) rfl (wpAny_pure ?_))
 simp only [if_true]
 refine wpAny_bind (wpAny_rule (wpAny_bind (wpAny_field hz rfl (x := .ref TO) rfl (wpAny_bind (wpAny_setField_rec hz (by simp) fun ha hza hsa => wpAny_bind ?_)))))
 replace hza : IsZip ha z TI TO .ellipsis := hza
 simp only [List.zipIdx_cons, List.zipIdx_nil, List.forIn_cons, List.forIn_nil]
 refine wpAny_bind (wpAny_bind (wpAny_onRaise ?_))
 show wpAny _ _ (Builtin.SmallTypes.nextOf (.ref i1) >>= _) _ _ _
 refine wpAny_bind (wpAny_nextOf_list_item (h1.at fun o e => hsa.extBut _ _ D.i1z e) (ht1.at fun o e => hsa.extBut _ _ D.l1z e) hx fun hb h1b hsb => wpAny_pure ?_)
 have hTOb : IsPair hb TO a b := hsb.extBut _ _ D.TOi1 (hsa.extBut _ _ D.TOz hTO)
 refine wpAny_bind (wpAny_seqItems hTOb rfl (wpAny_bind (wpAny_updateSeq_pair hTOb fun hc hTOc hsc => ?_)))
 replace hTOc : IsPair hc TO x b := hTOc
 refine wpAny_bind (wpAny_letGo (wpAny_pure ?_))
 refine wpAny_bind (wpAny_bind (wpAny_onRaise ?_))
 show wpAny _ _ (Builtin.SmallTypes.nextOf (.ref i2) >>= _) _ _ _
 refine wpAny_bind (pq (h2.at fun o e => hsc.extBut _ _ D.TOi2.symm (hsb.extBut _ _ D.i12.symm (hsa.extBut _ _ D.i2z e)))
  (ht2.at fun o e => hsc.extBut _ _ D.l2TO (hsb.extBut _ _ D.l2i1 (hsa.extBut _ _ D.l2z e))) hy fun hd h2d hsd => wpAny_pure ?_)
 have hTOd : IsPair hd TO x b := hsd.extBut _ _ D.TOi2 hTOc
 refine wpAny_bind (wpAny_seqItems hTOd rfl (wpAny_bind (wpAny_updateSeq_pair hTOd fun he hTOe hse => ?_)))
 replace hTOe : IsPair he TO x y := hTOe
 refine wpAny_bind (wpAny_letGo (wpAny_pure (wpAny_pure ?_)))
 refine wpAny_bind (wpAny_seqItems hTOe rfl (wpAny_bind (wpAny_newTuple ?_)))
 have hsz : he.objs.size = s.heap.objs.size := by rw [hse.1, hsd.1, hsc.1, hsb.1, hsa.1]
 have hze : IsZip he z TI TO .ellipsis := hse.extBut _ _ D.TOz.symm (hsd.extBut _ _ D.i2z.symm (hsc.extBut _ _ D.TOz.symm (hsb.extBut _ _ D.i1z.symm hza)))
 have hke : ∀ c o, c ≠ z → c ≠ TO → c ≠ i1 → c ≠ i2 → s.heap.get? c = some o → he.get? c = some o := fun c o c1 c2 c3 c4 e =>
  hse.extBut _ _ c2 (hsd.extBut _ _ c4 (hsc.extBut _ _ c2 (hsb.extBut _ _ c3 (hsa.extBut _ _ c1 e))))
 have h1e : he.IsListIter i1 l (k + 1) := h1b.at fun o e => hse.extBut _ _ D.TOi1.symm (hsd.extBut _ _ D.i12 (hsc.extBut _ _ D.TOi1.symm e))
 have h2e : he.IsTupleIter i2 t (k + 1) := h2d.at fun o e => hse.extBut _ _ D.TOi2.symm e
 show wpAny _ _ (Builtin.SmallTypes.ownedTupleHandOut (.ref z) (.ref he.objs.size) >>= _) _ _ _
 refine wpAny_bind ?_
 unfold Builtin.SmallTypes.ownedTupleHandOut
 have hzf : IsZip (he.push { cls := .type "tuple", data := .seq #[x, y] }) z TI TO .ellipsis := Heap.get?_push_of_some _ hze
 refine wpAny_bind (wpAny_setField_rec hzf (by simp) fun hg hzg hsg => ?_)
 replace hzg : IsZip hg z TI TO (rawInt he.objs.size) := hzg
 refine wpAny_setField_rec hzg (by simp) fun hh hzh hsh => ?_
 replace hzh : IsZip hh z TI TO (rawInt he.objs.size) := hzh
 have up : ∀ c o, c ≠ z → he.get? c = some o → hh.get? c = some o := fun c o c1 e => hsh.extBut _ _ c1 (hsg.extBut _ _ c1 (Heap.get?_push_of_some _ e))
 have hTh : IsPair hh he.objs.size x y := hsh.extBut _ _ (Nat.ne_of_gt (Heap.lt_size hze)) (hsg.extBut _ _ (Nat.ne_of_gt (Heap.lt_size hze)) (Heap.get?_push_size _ rfl))
 have n1 : he.objs.size ≠ z := Nat.ne_of_gt (Heap.lt_size hze)
 have n2 : he.objs.size ≠ TO := Nat.ne_of_gt (Heap.lt_size hTOe)
 have n3 : he.objs.size ≠ i1 := by obtain ⟨o, eo, _⟩ := h1e; exact Nat.ne_of_gt (Heap.lt_size eo)
 have n4 : he.objs.size ≠ i2 := by obtain ⟨o, eo, _⟩ := h2e; exact Nat.ne_of_gt (Heap.lt_size eo)
 have n5 : he.objs.size ≠ S := by rw [hsz]; exact Nat.ne_of_gt hS
 rw [hsz] at hzh hTh n1 n2 n3 n4 n5
 have fin := hQ hh ⟨.inr ⟨s.heap.objs.size, false, _, hzh, hTh, n1, n2, n3, n4, n5⟩, up _ _ D.TIz (hke _ _ D.TIz D.TITO D.TIi1 D.TIi2 hTI), ⟨x, y, up _ _ D.TOz hTOe⟩, h1e.at fun o e => up _ o D.i1z e, h2e.at fun o e => up _ o D.i2z e⟩ hTh fun c o c1 c2 c3 c4 e => up c o c1 (hke c o c1 c2 c3 c4 e)
 rw [← hsz] at fin
 exact wpAny_pure ⟨_, rfl, wpAny_pure fin⟩
theorem uE {z TI TO i1 i2 l t S T : Addr} {f : Bool} {oT : Obj} {k : Nat} {xs ys : Array Value} {x y : Value} {Q : Option Value → Shared → Prop} (D : ZipApart z TI TO i1 i2 l t) (hz : s.heap.get? z = some (iF (rawInt T) (.bool f) TI TO)) (hTt : s.heap.get? T = some oT)
  (nT : T ≠ z ∧ T ≠ TO ∧ T ≠ i1 ∧ T ≠ i2 ∧ T ≠ S) (hTI : IsPair s.heap TI (.ref i1) (.ref i2)) (hTO : ∃ a b, IsPair s.heap TO a b)
  (h1 : s.heap.IsListIter i1 l k) (h2 : s.heap.IsTupleIter i2 t k) (ht1 : s.heap.IsList l xs) (ht2 : s.heap.IsTuple t ys) (hx : xs[k]? = some x) (hy : ys[k]? = some y)
  (hQ : ∀ h', fc h' z TI TO i1 i2 l t S (k + 1) → IsPair h' s.heap.objs.size x y →
   (∀ c o, c ≠ z → c ≠ TO → c ≠ i1 → c ≠ i2 → s.heap.get? c = some o → h'.get? c = some o) → Q (some (.ref s.heap.objs.size)) { s with heap := h' }) :
  wpAny (model prog w) A (pyNext (.ref z)) Q E s := by
 have hT : s.TypeIs (.ref z) "zip" := ⟨_, hz, rfl⟩
 unfold pyNext
 refine wpAny_bind (wpAny_attempt (wpAny_callSpecial?_slot (name := Str.ofString "__next__") hT F.slot_zip_next (wpAny_call_entry F.slot_zip_next hT F.entry_zip_next ?_ (F.args_zip_next_1 _))))
 show wpAny _ _ (field (.ref z) 2 >>= _) _ _ _
 refine wpAny_bind (wpAny_field hz rfl (x := .bool false) rfl ?_)
 show wpAny _ _ (field (.ref z) 3 >>= _) _ _ _
 refine wpAny_bind (wpAny_field hz rfl (x := .ref TI) rfl (wpAny_bind (wpAny_seqItems hTI rfl ?_)))
 show wpAny _ _ (Builtin.SmallTypes.ownedTupleIsFree (.ref z) >>= _) _ _ _
 refine wpAny_bind (wpAny_mono (rf hz hTt) (fun b s1 hb => ?_) fun _ _ e => e.elim)
 obtain ⟨rfl, ha, rfl, hza, hsa⟩ := hb
 simp only [Bool.false_eq_true, if_false]
 refine wpAny_bind ?_
 rw [← Array.forIn_toList]
 simp only [List.forIn_cons, List.forIn_nil]
 refine wpAny_bind (wpAny_bind (wpAny_holding ?_))
 show wpAny _ _ (Builtin.SmallTypes.nextOf (.ref i1) >>= _) _ _ _
 refine wpAny_bind (wpAny_nextOf_list_item (h1.at fun o e => hsa.extBut _ _ D.i1z e) (ht1.at fun o e => hsa.extBut _ _ D.l1z e) hx fun hb h1b hsb => wpAny_pure (wpAny_pure ?_))
 refine wpAny_bind (wpAny_bind (wpAny_holding ?_))
 show wpAny _ _ (Builtin.SmallTypes.nextOf (.ref i2) >>= _) _ _ _
 refine wpAny_bind (pq (h2.at fun o e => hsb.extBut _ _ D.i12.symm (hsa.extBut _ _ D.i2z e)) (ht2.at fun o e => hsb.extBut _ _ D.l2i1 (hsa.extBut _ _ D.l2z e)) hy fun hd h2d hsd => wpAny_pure (wpAny_pure (wpAny_pure ?_)))
 refine wpAny_bind (wpAny_newTuple (hsz := by show 2 ≤ sizeLine; decide) ?_)
 have hsz : hd.objs.size = s.heap.objs.size := by rw [hsd.1, hsb.1, hsa.1]
 have hk : ∀ c o, c ≠ z → c ≠ TO → c ≠ i1 → c ≠ i2 → s.heap.get? c = some o → (hd.push { cls := .type "tuple", data := .seq #[x, y] }).get? c = some o := fun c o c1 c2 c3 c4 e =>
  Heap.get?_push_of_some _ (hsd.extBut _ _ c4 (hsb.extBut _ _ c3 (hsa.extBut _ _ c1 e)))
 obtain ⟨a, b, hTO⟩ := hTO
 have fin := hQ (hd.push { cls := .type "tuple", data := .seq #[x, y] }) ⟨.inr ⟨T, true, oT, Heap.get?_push_of_some _ (hsd.extBut _ _ D.i2z.symm (hsb.extBut _ _ D.i1z.symm hza)), hk T oT nT.1 nT.2.1 nT.2.2.1 nT.2.2.2.1 hTt, nT⟩,
  hk _ _ D.TIz D.TITO D.TIi1 D.TIi2 hTI, ⟨a, b, Heap.get?_push_of_some _ (hsd.extBut _ _ D.TOi2 (hsb.extBut _ _ D.TOi1 (hsa.extBut _ _ D.TOz hTO)))⟩,
  h1b.at fun o e => Heap.get?_push_of_some _ (hsd.extBut _ _ D.i12 e), h2d.at fun o e => Heap.get?_push_of_some _ e⟩ (by rw [← hsz]; exact Heap.get?_push_size _ rfl) hk
 rw [← hsz] at fin
 exact wpAny_pure ⟨_, rfl, wpAny_pure fin⟩
theorem vF {z TI TO i1 i2 l t S:Addr} {k:Nat} {xs:Array Value} {Q:Option Value→Shared→Prop} (hh:A.handled=none) (D:ZipApart z TI TO i1 i2 l t) (Z:fc s.heap z TI TO i1 i2 l t S k)
   (ht1:s.heap.IsList l xs) (hend:xs[k]?=none)
   (hQ:∀ h',(∀ c o,c≠z→c≠TO→c≠i1→c≠i2→s.heap.get? c=some o→h'.get? c=some o)→Q none { s with heap:=h' }):wpAny (model prog w) A (pyNext (.ref z)) Q E s:=by
 obtain ⟨Zz,hTI,⟨a,b,hTO⟩,h1,h2⟩:=Z
 have hT:s.TypeIs (.ref z) "zip" :=by rcases Zz with ⟨_,e⟩ | ⟨_,_,_,e,_⟩ <;> exact ⟨_,e,rfl⟩
 have fin:∀ h' e,(∀ c o,c≠z→c≠TO→c≠i1→c≠i2→s.heap.get? c=some o→h'.get? c=some o)→(∃ o,h'.get? e=some o∧o.cls=.type "StopIteration")→
    wpAny (model prog w) A (do if←isInstance (.ref e) (.type "StopIteration") then pure none else throw (.ref e)) Q E { s with heap:=h' }:=fun h' e hk ⟨o,ho,hc⟩=>
   wpAny_bind (wpAny_isInstance (T:= "StopIteration") (b:=true) ⟨o,ho,hc⟩ isSubtype_stop (wpAny_pure (hQ _ hk)))
 unfold pyNext
 refine wpAny_bind (wpAny_attempt (wpAny_callSpecial?_slot (name:=Str.ofString "__next__") hT F.slot_zip_next (wpAny_call_entry F.slot_zip_next hT F.entry_zip_next ?_ (F.args_zip_next_1 _))))
 show wpAny _ _ (field (.ref z) 2>>=_) _ _ _
 rcases Zz with ⟨_,hz⟩ | ⟨T,f,oT,hz,hTt,nT⟩
 · refine wpAny_bind (wpAny_field hz rfl (x:=.bool false) rfl ?_)
   show wpAny _ _ (field (.ref z) 3>>=_) _ _ _
   refine wpAny_bind (wpAny_field hz rfl (x:=.ref TI) rfl (wpAny_bind (wpAny_seqItems hTI rfl ?_)))
   show wpAny _ _ (Builtin.SmallTypes.ownedTupleIsFree (.ref z)>>=_) _ _ _
   refine wpAny_bind ?_
   unfold Builtin.SmallTypes.ownedTupleIsFree
   refine wpAny_bind (wpAny_field hz rfl (x:=.none) rfl (wpAny_pure ?_))
   simp only [if_true]
   refine wpAny_bind (wpAny_rule (wpAny_bind (wpAny_field hz rfl (x:=.ref TO) rfl (wpAny_bind (wpAny_setField_rec hz (by simp) fun ha hza hsa=>wpAny_bind ?_)))))
   replace hza:IsZip ha z TI TO .ellipsis:=hza
   simp only [List.zipIdx_cons,List.zipIdx_nil,List.forIn_cons,List.forIn_nil]
   refine wpAny_bind (wpAny_bind (wpAny_onRaise ?_))
   show wpAny _ _ (Builtin.SmallTypes.nextOf (.ref i1)>>=_) _ _ _
   refine wpAny_bind (wpAny_nextOf_list_end hh (h1.at fun o e=>hsa.extBut _ _ D.i1z e) (ht1.at fun o e=>hsa.extBut _ _ D.l1z e) hend fun hb e hsb he=>?_)
   obtain ⟨oe,hoe,hce⟩:=he
   have hzb:IsZip hb z TI TO .ellipsis:=hsb _ _ D.i1z.symm hza
   have hez:e≠z:=fun x=>by subst x;rw [hzb] at hoe;cases hoe;simp at hce
   exact wpAny_setField_rec hzb (by simp) fun hc _ hsc=>fin hc e (fun c o c1 _ c3 _ x=>hsc.extBut _ _ c1 (hsb _ _ c3 (hsa.extBut _ _ c1 x))) ⟨oe,hsc.extBut _ _ hez hoe,hce⟩
 · refine wpAny_bind (wpAny_field hz rfl (x:=.bool false) rfl ?_)
   show wpAny _ _ (field (.ref z) 3>>=_) _ _ _
   refine wpAny_bind (wpAny_field hz rfl (x:=.ref TI) rfl (wpAny_bind (wpAny_seqItems hTI rfl ?_)))
   show wpAny _ _ (Builtin.SmallTypes.ownedTupleIsFree (.ref z)>>=_) _ _ _
   refine wpAny_bind (wpAny_mono (rf hz hTt) (fun b s1 hb=>?_) fun _ _ e=>e.elim)
   obtain ⟨rfl,ha,rfl,hza,hsa⟩:=hb
   simp only [Bool.false_eq_true,if_false]
   refine wpAny_bind ?_
   rw [← Array.forIn_toList]
   simp only [List.forIn_cons,List.forIn_nil]
   refine wpAny_bind (wpAny_bind (wpAny_holding ?_))
   show wpAny _ _ (Builtin.SmallTypes.nextOf (.ref i1)>>=_) _ _ _
   refine wpAny_bind (wpAny_nextOf_list_end hh (h1.at fun o e=>hsa.extBut _ _ D.i1z e) (ht1.at fun o e=>hsa.extBut _ _ D.l1z e) hend fun hb e hsb he=>?_)
   exact fin hb e (fun c o c1 _ c3 _ x=>hsb _ _ c3 (hsa.extBut _ _ c1 x)) he
structure ji (xs ys:Array Value) (lo:Addr) (h:Heap) (as:List Addr):Prop where
 rise:as.Pairwise (·<·)
 above:∀ a∈as,lo≤a
 pairs:∀ (j:Nat) (a:Addr),as[j]?=some a→∃ x y,xs[j]?=some x∧ys[j]?=some y∧IsPair h a x y
theorem ji.there {xs ys:Array Value} {lo:Addr} {h:Heap} {as:List Addr} (g:ji xs ys lo h as) {a:Addr} (ha:a∈as):a<h.objs.size:=by
 obtain ⟨j,hj⟩:=List.mem_iff_getElem?.mp ha
 obtain ⟨_,_,_,_,e⟩:=g.pairs j a hj
 exact Heap.lt_size e
theorem fc.keepS {h h':Heap} {z TI TO i1 i2 l t S:Addr} {k:Nat} (Z:fc h z TI TO i1 i2 l t S k) (nS:S≠z∧S≠TI∧S≠TO∧S≠i1∧S≠i2) (hk:∀ b o,b≠S→h.get? b=some o→h'.get? b=some o):fc h' z TI TO i1 i2 l t S k:=by
 obtain ⟨Zz,hTI,⟨a,b,hTO⟩,h1,h2⟩:=Z
 refine ⟨?_,hk _ _ nS.2.1.symm hTI,⟨a,b,hk _ _ nS.2.2.1.symm hTO⟩,h1.at fun o e=>hk _ o nS.2.2.2.1.symm e,h2.at fun o e=>hk _ o nS.2.2.2.2.symm e⟩
 rcases Zz with ⟨e,hz⟩ | ⟨T,f,oT,hz,hTt,nT⟩
 · exact .inl ⟨e,hk _ _ nS.1.symm hz⟩
 · exact .inr ⟨T,f,oT,hk _ _ nS.1.symm hz,hk _ _ nT.2.2.2.2 hTt,nT⟩
theorem fc.item {z TI TO i1 i2 l t S : Addr} {k : Nat} {xs ys : Array Value} {x y : Value} {Q : Option Value → Shared → Prop} (Z : fc s.heap z TI TO i1 i2 l t S k) (D : ZipApart z TI TO i1 i2 l t)
   (ht1 : s.heap.IsList l xs) (ht2 : s.heap.IsTuple t ys) (hx : xs[k]? = some x) (hy : ys[k]? = some y) (hS : S < s.heap.objs.size)
   (hQ : ∀ h', fc h' z TI TO i1 i2 l t S (k + 1) → IsPair h' s.heap.objs.size x y →
    (∀ c o, c ≠ z → c ≠ TO → c ≠ i1 → c ≠ i2 → s.heap.get? c = some o → h'.get? c = some o) → Q (some (.ref s.heap.objs.size)) { s with heap := h' }) :
   wpAny (model prog w) A (pyNext (.ref z)) Q E s := by
 obtain ⟨Zz, hTI, ⟨a, b, hTO⟩, h1, h2⟩ := Z
 rcases Zz with ⟨_, hz⟩ | ⟨T, f, oT, hz, hTt, nT⟩
 · exact tE D hz hTI hTO h1 h2 ht1 ht2 hx hy hS hQ
 · exact uE D hz hTt nT hTI ⟨a, b, hTO⟩ h1 h2 ht1 ht2 hx hy hQ
end
section
variable {prog:Program} {w:World} {A:Around} {s:Shared} {R:Result→Shared→Prop} {xs ys:Array Value}
theorem vh {z TI TO i1 i2 l t S lo : Addr} (hh : A.handled = none) (D : ZipApart z TI TO i1 i2 l t) (nS : S ≠ z ∧ S ≠ TI ∧ S ≠ TO ∧ S ≠ i1 ∧ S ≠ i2) (nl : l ≠ S) (nt : t ≠ S) (below : ∀ b ∈ [z, TI, TO, i1, i2, S], b < lo) (hn : xs.size ≤ sizeLine) (hlen : xs.size = ys.size) (res : Value) {h₁ : Heap}
    (hR : ∀ h' tk acc c as, (∀ b o, b ∉ [z, TI, TO, i1, i2, S] → h₁.get? b = some o → h'.get? b = some o) → h'.get? S = some { cls := .type "list", dict := none, data := .seq acc c, slots := #[] } → as.length = xs.size → ji xs ys lo h' as →
      acc.toList = as.map Value.ref → R (.ok (.ret res)) { s with heap := h', toks := tk }) :
    ∀ (k i : Nat) (h : Heap) (tk c : Nat) (acc : Array Value) (as : List Addr), xs.size - i = k → i ≤ xs.size → fc h z TI TO i1 i2 l t S i → h.IsList l xs → h.IsTuple t ys → (∀ b o, b ∉ [z, TI, TO, i1, i2, S] → h₁.get? b = some o → h.get? b = some o) →
      h.get? S = some { cls := .type "list", dict := none, data := .seq acc c, slots := #[] } → acc.toList = as.map Value.ref → as.length = i → ji xs ys lo h as → lo ≤ h.objs.size →
      codeAny (model prog w) A (.builtin "list.extend.loop" ⟨[.ref S, .ref z, res], []⟩) R { s with heap := h, toks := tk } := by
  have inb : ∀ b, b ∉ [z, TI, TO, i1, i2, S] → b ≠ z ∧ b ≠ TO ∧ b ≠ i1 ∧ b ≠ i2 ∧ b ≠ S := fun b hb => by
    simp only [List.mem_cons, List.not_mem_nil, or_false, not_or] at hb
    exact ⟨hb.1, hb.2.2.1, hb.2.2.2.1, hb.2.2.2.2.1, hb.2.2.2.2.2⟩
  have above : ∀ b, lo ≤ b → b ≠ z ∧ b ≠ TO ∧ b ≠ i1 ∧ b ≠ i2 ∧ b ≠ S := fun b hb => by
    have f : ∀ c ∈ [z, TI, TO, i1, i2, S], b ≠ c := fun c hc => Nat.ne_of_gt (Nat.lt_of_lt_of_le (below c hc) hb)
    exact ⟨f z (by simp), f TO (by simp), f i1 (by simp), f i2 (by simp), f S (by simp)⟩
  intro k
  induction k with
  | zero =>
    intro i h tk c acc as hk hi hst hl ht hkeep hS hacc hal hG hIs
    have hin : i = xs.size := by omega
    refine codeAny_builtin PySem.F.entry_extend_loop ?_
    rw [Around.under_plainId PySem.F.plain_extend_loop _]
    show wpAny _ A.in1 (pyNext (.ref z) >>= _) _ _ _
    refine wpAny_bind (vF (s := { s with heap := h, toks := tk }) (A := A.in1) hh D hst hl (Array.getElem?_eq_none (by omega)) fun h' he => ?_)
    refine wpAny_pure (hR h' tk acc c as (fun b o h1 e => ?_) (he S _ nS.1 nS.2.2.1 nS.2.2.2.1 nS.2.2.2.2 hS) (by omega) ⟨hG.rise, hG.above, fun j a hj => ?_⟩ hacc)
    · obtain ⟨n1, n2, n3, n4, n5⟩ := inb b h1
      exact he b o n1 n2 n3 n4 (hkeep b o h1 e)
    · obtain ⟨x, y, e1, e2, e3⟩ := hG.pairs j a hj
      obtain ⟨n1, n2, n3, n4, n5⟩ := above a (hG.above a (List.mem_of_getElem? hj))
      exact ⟨x, y, e1, e2, he a _ n1 n2 n3 n4 e3⟩
  | succ k ih =>
    intro i h tk c acc as hk hi hst hl ht hkeep hS hacc hal hG hIs
    have hlt : i < xs.size := by omega
    obtain ⟨x, hx⟩ : ∃ p, xs[i]? = some p := ⟨xs[i], Array.getElem?_eq_getElem hlt⟩
    obtain ⟨y, hy⟩ : ∃ p, ys[i]? = some p := ⟨ys[i], Array.getElem?_eq_getElem (by omega)⟩
    have hsz : acc.size = i := by rw [← Array.length_toList, hacc, List.length_map, hal]
    refine codeAny_builtin PySem.F.entry_extend_loop ?_
    rw [Around.under_plainId PySem.F.plain_extend_loop _]
    show wpAny _ A.in1 (pyNext (.ref z) >>= _) _ _ _
    refine wpAny_bind (fc.item (s := { s with heap := h, toks := tk }) (S := S) hst D hl ht hx hy (Heap.lt_size hS) fun h' hst' hT hkp => ?_)
    dsimp only at hT hkp ⊢
    have hS' := hkp S _ nS.1 nS.2.2.1 nS.2.2.2.1 nS.2.2.2.2 hS
    have up : ∀ b o, b ≠ S → h'.get? b = some o → (h'.update S (Obj.mapSeq (·.push (Value.ref h.objs.size)))).get? b = some o := fun b o hb e => (Heap.get?_update_other _ _ (Ne.symm hb)).trans e
    obtain ⟨m1, m2, m3, m4, m5⟩ := above h.objs.size hIs
    have kl : ∀ o, h.get? l = some o → (h'.update S (Obj.mapSeq (·.push (Value.ref h.objs.size)))).get? l = some o := fun o e => up l o nl (hkp l o D.l1z D.l1TO D.l1i1 D.l1i2 e)
    have kt : ∀ o, h.get? t = some o → (h'.update S (Obj.mapSeq (·.push (Value.ref h.objs.size)))).get? t = some o := fun o e => up t o nt (hkp t o D.l2z D.l2TO D.l2i1 D.l2i2 e)
    show wpAny _ A.in1 (updateSeq S (·.push (Value.ref h.objs.size)) >>= _) _ _ _
    refine wpAny_bind ?_
    refine wpAny_updateSeq hS' rfl (wpAny_pure ⟨plainId_quiet PySem.F.plain_extend_loop _, ih (i + 1) _ tk _ (acc.push (Value.ref h.objs.size)) (as ++ [h.objs.size]) (by omega) hlt (hst'.keepS nS up) (hl.at kl) (ht.at kt)
      (fun b o h1 e => ?_) (Heap.get?_update_self _ hS' rfl) (by rw [Array.toList_push, hacc, List.map_append]; rfl) (by rw [List.length_append, hal]; rfl) ⟨?_, ?_, ?_⟩ ?_⟩) (by rw [hsz]; omega) (by show (acc.push (Value.ref h.objs.size)).size ≤ sizeLine + 1; rw [Array.size_push, hsz]; omega)
    · obtain ⟨n1, n2, n3, n4, n5⟩ := inb b h1
      exact up b o n5 (hkp b o n1 n2 n3 n4 (hkeep b o h1 e))
    · refine List.pairwise_append.mpr ⟨hG.rise, List.pairwise_singleton _ _, fun a ha b hb => ?_⟩
      rw [List.mem_singleton.mp hb]
      exact hG.there ha
    · intro a ha
      rcases List.mem_append.mp ha with ha | ha
      · exact hG.above a ha
      · rw [List.mem_singleton.mp ha]; exact hIs
    · intro j b hj
      rcases Nat.lt_trichotomy j as.length with h1 | h1 | h1
      · rw [List.getElem?_append_left h1] at hj
        obtain ⟨x', y', e1, e2, e3⟩ := hG.pairs j b hj
        obtain ⟨n1, n2, n3, n4, n5⟩ := above b (hG.above b (List.mem_of_getElem? hj))
        exact ⟨x', y', e1, e2, up b _ n5 (hkp b _ n1 n2 n3 n4 e3)⟩
      · subst h1
        have hb : h.objs.size = b := by simpa using hj
        subst hb
        exact ⟨x, y, by rw [hal]; exact hx, by rw [hal]; exact hy, up _ _ m5 hT⟩
      · have hnone : (as ++ [h.objs.size])[j]? = none := List.getElem?_eq_none (by rw [List.length_append, List.length_singleton]; omega)
        rw [hnone] at hj; cases hj
    · have e : (h'.update S (Obj.mapSeq (·.push (Value.ref h.objs.size)))).get? h.objs.size = _ := up _ _ m5 hT
      exact Nat.le_of_lt (Nat.lt_of_le_of_lt hIs (Heap.lt_size e))
end
theorem uw:typeLookup (.type "zip") "__len__" =pure none:=by rw [typeLookup_type,builtinLookup_eq_fast];kernel_rfl
theorem ss:typeLookup (.type "zip") "__length_hint__" =pure none:=by rw [typeLookup_type,builtinLookup_eq_fast];kernel_rfl
section
variable {prog:Program} {w:World} {A:Around} {s:Shared} {R:Result→Shared→Prop} {xs ys:Array Value} {z TI TO i1 i2 l t S:Addr}
theorem qL (hh:A.handled=none) (D:ZipApart z TI TO i1 i2 l t) (nS:S≠z∧S≠TI∧S≠TO∧S≠i1∧S≠i2) (nl:l≠S) (nt:t≠S) (hn:xs.size≤sizeLine) (hlen:xs.size=ys.size) (res:Value) (c₀:Nat)
   (Z:fc s.heap z TI TO i1 i2 l t S 0) (hz0:s.heap.get? z=some (iF .none (.bool false) TI TO)) (hl:s.heap.IsList l xs) (ht:s.heap.IsTuple t ys) (hS:s.heap.get? S=some { cls:=.type "list",data:=.seq #[] c₀ })
   (hR:∀ h' tk acc c as,(∀ b o,b∉[z,TI,TO,i1,i2,S]→s.heap.get? b=some o→h'.get? b=some o)→h'.get? S=some { cls:=.type "list",dict:=none,data:=.seq acc c,slots:=#[] }→as.length=xs.size→ji xs ys s.heap.objs.size h' as→
     acc.toList=as.map Value.ref→R (.ok (.ret res)) { s with heap:=h',toks:=tk }):
   wpAny (model prog w) A.in1 (Builtin.List.listExtendWith (.ref S) (.ref z) res)
     (fun fin s'=>match fin with | .done f=>R (.ok f) s' | .again c'=>c'.quiet=true∧codeAny (model prog w) A c' R s') (fun e s'=>R (.error e) s') s:=by
 have hT:s.TypeIs (.ref z) "zip" :=⟨_,hz0,rfl⟩
 have below:∀ b∈[z,TI,TO,i1,i2,S],b<s.heap.objs.size:=fun b hb=>by
   obtain ⟨_,hTI,⟨x,y,hTO⟩,⟨o1,e1,_⟩,⟨o2,e2,_⟩⟩:=Z
   simp only [List.mem_cons,List.not_mem_nil,or_false] at hb
   rcases hb with rfl | rfl | rfl | rfl | rfl | rfl
   · exact Heap.lt_size hz0
   · exact Heap.lt_size hTI
   · exact Heap.lt_size hTO
   · exact Heap.lt_size e1
   · exact Heap.lt_size e2
   · exact Heap.lt_size hS
 have key:∀ (h:Heap) (c₁ tk:Nat),h.objs.size=s.heap.objs.size→(∀ b o,b≠S→s.heap.get? b=some o→h.get? b=some o)→
     h.get? S=some { cls:=.type "list",data:=.seq #[] c₁ }→codeAny (model prog w) A (.builtin "list.extend.loop" ⟨[.ref S,.ref z,res],[]⟩) R { s with heap:=h,toks:=tk }:=by
   intro h c₁ tk hz hk hS₁
   refine vh (s:=s) (h₁:=s.heap) hh D nS nl nt below hn hlen res (fun h' tk' acc c as hk' hS' hl hG hacc=>hR h' tk' acc c as hk' hS' hl hG hacc)
     xs.size 0 h tk c₁ #[] [] (Nat.sub_zero _) (Nat.zero_le _) (Z.keepS nS hk) (hl.at fun o e=>hk l o nl e) (ht.at fun o e=>hk t o nt e) (fun b o hb e=>hk b o (fun q=>hb (by rw [q];simp)) e) hS₁ rfl rfl
     ⟨List.Pairwise.nil,(fun _ ha=>nomatch ha),(fun j a hj=>by simp at hj)⟩ (Nat.le_of_eq hz.symm)
 unfold Builtin.List.listExtendWith
 refine wpAny_bind (wpAny_typeOf (T:= "zip") hT ?_)
 have h1:Builtin.List.listSameRef (.ref S) (.ref z)=false:=by simp [Builtin.List.listSameRef,nS.1]
 have h2:(Value.type "zip" ==Value.type "list")=false:=by decide
 have h3:(Value.type "zip" ==Value.type "tuple")=false:=by decide
 simp only [h1,h2,h3,Bool.or_false,Bool.false_eq_true,if_false]
 refine wpAny_bind (wpAny_pyIter_zip hz0 ?_)
 refine wpAny_bind (wpAny_holding ?_)
 unfold Builtin.List.listLengthHint
 refine wpAny_bind (wpAny_specialOf hT uw ?_)
 show wpAny _ A.in1 (specialOf (Value.ref z) (Str.ofString "__length_hint__")>>=_) _ _ _
 refine wpAny_bind (wpAny_specialOf hT ss ?_)
 refine wpAny_pure ?_
 refine wpAny_ite_split (fun _=>?_) (fun _=>wpAny_pure ⟨plainId_quiet PySem.F.plain_extend_loop _,key _ c₀ _ rfl (fun b o _ e=>e) hS⟩)
 refine wpAny_bind (wpAny_rule ?_)
 refine wpAny_bind ?_
 show wpAny _ _ (updateSeq S (·.push .none)>>=fun _=>updateSeq S (·.pop)) _ _ _
 refine wpAny_bind (wpAny_updateSeq hS rfl ?_)
 have hS₂:=Heap.get?_update_self (Obj.mapSeq (·.push Value.none)) hS rfl
 refine wpAny_updateSeq (hz:=by seq_fits) hS₂ rfl ?_
 have hS₃:=Heap.get?_update_self (Obj.mapSeq (·.pop)) hS₂ rfl
 refine wpAny_pure ⟨plainId_quiet PySem.F.plain_extend_loop _,key _ _ _ ?_ (fun b o hb e=>?_) hS₃⟩
 · rw [Heap.size_update,Heap.size_update]
 · exact (Heap.get?_update_other _ _ (Ne.symm hb)).trans ((Heap.get?_update_other _ _ (Ne.symm hb)).trans e)
theorem vm (hh : A.handled = none) (D : ZipApart z TI TO i1 i2 l t) (nS : S ≠ z ∧ S ≠ TI ∧ S ≠ TO ∧ S ≠ i1 ∧ S ≠ i2) (nl : l ≠ S) (nt : t ≠ S) (hn : xs.size ≤ sizeLine) (hlen : xs.size = ys.size)
  (Z : fc s.heap z TI TO i1 i2 l t S 0) (hz0 : s.heap.get? z = some (iF .none (.bool false) TI TO)) (hl : s.heap.IsList l xs) (ht : s.heap.IsTuple t ys) (hS : s.heap.get? S = some { cls := .type "list", data := .seq #[] })
  (hR : ∀ h' tk acc c as, (∀ b o, b ∉ [z, TI, TO, i1, i2, S] → s.heap.get? b = some o → h'.get? b = some o) → h'.get? S = some { cls := .type "list", dict := none, data := .seq acc c, slots := #[] } → as.length = xs.size → ji xs ys s.heap.objs.size h' as →
   acc.toList = as.map Value.ref → R (.ok (.ret .none)) { s with heap := h', toks := tk }) :
  wpAny (model prog w) A.in1 (Builtin.«list.__init__» ⟨[.ref S, .ref z], []⟩)
   (fun fin s' => match fin with | .done f => R (.ok f) s' | .again c' => c'.quiet = true ∧ codeAny (model prog w) A c' R s') (fun e s' => R (.error e) s') s := by
 show wpAny _ _ (do let old ← Builtin.List.listItems (.ref S); Builtin.List.listUpdate (.ref S) (fun _ => #[]); letGo old.toList.reverse; Builtin.List.listExtendWith (.ref S) (.ref z) .none) _ _ s
 refine wpAny_bind ?_
 unfold Builtin.List.listItems
 refine wpAny_bind (wpAny_seqItems hS rfl (wpAny_pure ?_))
 show wpAny _ _ (updateSeq S (fun _ => #[]) >>= fun _ => letGo (#[] : Array Value).toList.reverse >>= fun _ => Builtin.List.listExtendWith (.ref S) (.ref z) .none) _ _ s
 refine wpAny_bind (wpAny_updateSeq hS rfl ?_)
 have hS₂ := Heap.get?_update_self (Obj.mapSeq (fun _ => (#[] : Array Value))) hS rfl
 have oth : ∀ b o, b ≠ S → s.heap.get? b = some o → (s.heap.update S (Obj.mapSeq (fun _ => (#[] : Array Value)))).get? b = some o :=
  fun b o hb e => (Heap.get?_update_other _ _ (Ne.symm hb)).trans e
 refine wpAny_bind (wpAny_letGo ?_)
 refine qL (s := { s with heap := s.heap.update S (Obj.mapSeq (fun _ => (#[] : Array Value))) }) hh D nS nl nt hn hlen .none _ (Z.keepS nS oth) (oth _ _ nS.1.symm hz0) (hl.at fun o e => oth l o nl e) (ht.at fun o e => oth t o nt e) hS₂ (fun h' tk acc c as hk hS' hl hG hacc => ?_)
 refine hR h' tk acc c as (fun b o hb e => hk b o hb (oth b o (fun q => hb (by rw [q]; simp)) e)) hS' hl ?_ hacc
 have : (s.heap.update S (Obj.mapSeq (fun _ => (#[] : Array Value)))).objs.size = s.heap.objs.size := Heap.size_update ..
 rw [← this]; exact hG
end
section
variable {prog:Program} {w:World} {A:Around} {E:Value→Shared→Prop} {s:Shared} {xs ys:Array Value} {z TI TO i1 i2 l t:Addr}
theorem vi {Q:Value→Shared→Prop} (hh:A.handled=none) (D:ZipApart z TI TO i1 i2 l t) (hn:xs.size≤sizeLine) (hlen:xs.size=ys.size)
   (hz0:s.heap.get? z=some (iF .none (.bool false) TI TO)) (hTI:IsPair s.heap TI (.ref i1) (.ref i2)) (hTO:∃ a b,IsPair s.heap TO a b) (j1:s.heap.IsListIter i1 l 0) (j2:s.heap.IsTupleIter i2 t 0) (hl:s.heap.IsList l xs) (ht:s.heap.IsTuple t ys)
   (hQ:∀ h' tk acc c as,(∀ b o,b∉[z,TI,TO,i1,i2]→s.heap.get? b=some o→h'.get? b=some o)→h'.get? s.heap.objs.size=some { cls:=.type "list",dict:=none,data:=.seq acc c,slots:=#[] }→as.length=xs.size→ji xs ys (s.heap.objs.size+1) h' as→
     acc.toList=as.map Value.ref→Q (.ref s.heap.objs.size) { s with heap:=h',toks:=tk }):
   wpAny (model prog w) A (call (.type "list") [.ref z]) Q E s:=by
 refine callType_codes (Q₁:=fun obj s₁=>obj=.ref s.heap.objs.size∧s₁={ s with heap:=s.heap.push { cls:=.type "list",data:=.seq #[] } }) PySem.F.called_list (PySem.F.typeCall_list_1 _) PySem.F.entry_list_init
   (code_list_new _ ⟨rfl,rfl⟩) fun obj s₁ h₁=>?_
 obtain ⟨rfl,rfl⟩:=h₁
 have hS:(s.heap.push { cls:=.type "list",data:=.seq #[] }).get? s.heap.objs.size=some { cls:=.type "list",data:=.seq #[] }:=Heap.get?_push_size _ rfl
 have up:∀ b o,s.heap.get? b=some o→(s.heap.push { cls:=.type "list",data:=.seq #[] }).get? b=some o:=fun b o e=>Heap.get?_push_of_some _ e
 obtain ⟨a,b,hTO⟩:=hTO
 have nn:∀ b o,s.heap.get? b=some o→s.heap.objs.size≠b:=fun b o e=>Nat.ne_of_gt (Heap.lt_size e)
 have nS:s.heap.objs.size≠z∧s.heap.objs.size≠TI∧s.heap.objs.size≠TO∧s.heap.objs.size≠i1∧s.heap.objs.size≠i2:=by
   obtain ⟨o1,e1,_⟩:=j1
   obtain ⟨o2,e2,_⟩:=j2
   exact ⟨nn _ _ hz0,nn _ _ hTI,nn _ _ hTO,nn _ _ e1,nn _ _ e2⟩
 have nl:l≠s.heap.objs.size:=by obtain ⟨o,e,_⟩:=hl;exact (nn _ _ e).symm
 have nt:t≠s.heap.objs.size:=by obtain ⟨o,e,_⟩:=ht;exact (nn _ _ e).symm
 refine ⟨⟨_,hS,rfl⟩,PySem.F.args_list_init_2 _ _,vm (s:={ s with heap:=s.heap.push { cls:=.type "list",data:=.seq #[] } }) (A:=A.in1) hh D nS nl nt hn hlen
   ⟨.inl ⟨rfl,up _ _ hz0⟩,up _ _ hTI,⟨a,b,up _ _ hTO⟩,j1.at fun o e=>up _ o e,j2.at fun o e=>up _ o e⟩ (up _ _ hz0) (hl.at fun o e=>up _ o e) (ht.at fun o e=>up _ o e) hS (fun h' tk acc c as hk hS' hl hG hacc=>?_)⟩
 refine ⟨rfl,hQ h' tk acc c as (fun b o hb e=>hk b o (fun q=>?_) (up b o e)) hS' hl ?_ hacc⟩
 · simp only [List.mem_cons,List.not_mem_nil,or_false] at q hb
   rcases q with q | q | q | q | q | q
   · exact hb (.inl q)
   · exact hb (.inr (.inl q))
   · exact hb (.inr (.inr (.inl q)))
   · exact hb (.inr (.inr (.inr (.inl q))))
   · exact hb (.inr (.inr (.inr (.inr q))))
   · exact nn b o e q.symm
 · have:(s.heap.push { cls:=.type "list",data:=.seq #[] }).objs.size=s.heap.objs.size+1:=Heap.size_push ..
   rw [← this];exact hG
abbrev BP (l:Addr):Obj:={ cls:=.type "list_iterator",data:=.fields #[.ref l,.int 0 0] }
abbrev zm1 (h:Heap) (t1:Addr):Heap:=h.push (BP t1)
abbrev zm2 (h:Heap) (t1 t2:Addr):Heap:=(zm1 h t1).push (itO t2)
abbrev zm3 (h:Heap) (t1 t2:Addr):Heap:=(zm2 h t1 t2).push { cls:=.type "tuple",data:=.seq #[.ref h.objs.size,.ref (zm1 h t1).objs.size] }
abbrev zm4 (h:Heap) (t1 t2:Addr):Heap:=(zm3 h t1 t2).push { cls:=.type "tuple",data:=.seq #[.none,.none] }
abbrev zm5 (h:Heap) (t1 t2:Addr):Heap:=(zm4 h t1 t2).push { cls:=.type "zip",data:=.fields #[.none,.bool false,.bool false,.ref (zm2 h t1 t2).objs.size,.ref (zm3 h t1 t2).objs.size] }
theorem xK (t1 t2:Addr) (xs ys:Array Value):
  Meets (Builtin.«zip.__new__» ⟨[.type "zip",.ref t1,.ref t2],[]⟩) (fun _ R s=>s.heap.IsList t1 xs∧s.heap.IsTuple t2 ys∧R (.ok (.ret (.ref (zm4 s.heap t1 t2).objs.size))) { s with heap:=zm5 s.heap t1 t2 }):=
 .of_wp fun prog w A R s h=>by
  obtain ⟨hp,g,d,tk,os⟩:=s;obtain ⟨hl1,hl2,h⟩:=h
  have hsub:=sub_zip
  have hL1:Heap.IsList (Shared.heap ⟨hp,g,d,tk,os⟩) t1 xs:=hl1
  have hL2:Heap.IsTuple (Shared.heap ⟨hp.push (BP t1),g,d,tk,os⟩) t2 ys:=hl2.at fun o e=>Heap.get?_push_of_some _ e
  wp_walk using wpAny_pyIter_list hL1,wpAny_pyIter_tuple hL2
  exact ⟨_,rfl,h⟩
theorem vz {t1 t2 : Addr} {Q : Value → Shared → Prop} (hl1 : s.heap.IsList t1 xs) (hl2 : s.heap.IsTuple t2 ys)
  (h : ∀ h', h'.get? (s.heap.objs.size + 4) = some (iF .none (.bool false) (s.heap.objs.size + 2) (s.heap.objs.size + 3)) → IsPair h' (s.heap.objs.size + 2) (.ref s.heap.objs.size) (.ref (s.heap.objs.size + 1)) → (∃ a b, IsPair h' (s.heap.objs.size + 3) a b) →
   h'.IsListIter s.heap.objs.size t1 0 → h'.IsTupleIter (s.heap.objs.size + 1) t2 0 → h'.objs.size = s.heap.objs.size + 5 → (∀ c o, s.heap.get? c = some o → h'.get? c = some o) → Q (.ref (s.heap.objs.size + 4)) { s with heap := h' }) :
  wpAny (model prog w) A (call (.type "zip") [.ref t1, .ref t2]) Q E s := by
 refine callType_new F.called_zip (by decide) (F.typeCall_zip_2 _ _) (F.newCall_zip_2 _ _) (fun obj => F.args_object_init_3 obj _ _) F.entry_zip_new (xK t1 t2 xs ys) ⟨hl1, hl2, ?_⟩
 have z1 : (zm1 s.heap t1).objs.size = s.heap.objs.size + 1 := Heap.size_push ..
 have z2 : (zm2 s.heap t1 t2).objs.size = s.heap.objs.size + 2 := by rw [Heap.size_push, z1]
 have z3 : (zm3 s.heap t1 t2).objs.size = s.heap.objs.size + 3 := by rw [Heap.size_push, z2]
 have z4 : (zm4 s.heap t1 t2).objs.size = s.heap.objs.size + 4 := by rw [Heap.size_push, z3]
 have z5 : (zm5 s.heap t1 t2).objs.size = s.heap.objs.size + 5 := by rw [Heap.size_push, z4]
 have g5 : (zm5 s.heap t1 t2).get? (zm4 s.heap t1 t2).objs.size = some _ := Heap.get?_push_size _ rfl
 have g4 : (zm5 s.heap t1 t2).get? (zm3 s.heap t1 t2).objs.size = some _ := Heap.get?_push_of_some _ (Heap.get?_push_size _ rfl)
 have g3 : (zm5 s.heap t1 t2).get? (zm2 s.heap t1 t2).objs.size = some _ := Heap.get?_push_of_some _ (Heap.get?_push_of_some _ (Heap.get?_push_size _ rfl))
 have g2 : (zm5 s.heap t1 t2).get? (zm1 s.heap t1).objs.size = some _ := Heap.get?_push_of_some _ (Heap.get?_push_of_some _ (Heap.get?_push_of_some _ (Heap.get?_push_size _ rfl)))
 have g1 : (zm5 s.heap t1 t2).get? s.heap.objs.size = some _ := Heap.get?_push_of_some _ (Heap.get?_push_of_some _ (Heap.get?_push_of_some _ (Heap.get?_push_of_some _ (Heap.get?_push_size _ rfl))))
 show _ ∧ _
 rw [z2, z3, z4] at g5
 rw [z1, z2] at g3
 rw [z3] at g4
 rw [z1] at g2
 rw [z4]
 exact ⟨⟨_, g5, rfl⟩, h _ g5 g3 ⟨_, _, g4⟩ ⟨_, g1, rfl, rfl⟩ ⟨_, g2, rfl, rfl⟩ z5 fun c o x => Heap.get?_push_of_some _ (Heap.get?_push_of_some _ (Heap.get?_push_of_some _ (Heap.get?_push_of_some _ (Heap.get?_push_of_some _ x))))⟩
end
end HT
namespace L2
open PySem PySem.Spec PyProof.Rows
section
variable {X:Cx} {pins:List (Addr×Obj)} {σ:St} {H:Hp} {s:Shared} {h':Heap}
theorem qF {tk : Nat} {us vs : List V} {xs ys : List Value} {lo : Addr} {as : List Addr} (I : Inv X pins σ H s) (k : ∀ b o, s.heap.get? b = some o → h'.get? b = some o) (hlo : s.heap.objs.size ≤ lo) (r1 : aR us xs) (r2 : aR vs ys) (G : HT.ji xs.toArray ys.toArray lo h' as) :
    ∀ n, n ≤ as.length → ∃ H', aq H H' ∧ (∀ j a x y, j < n → as[j]? = some a → us[j]? = some x → vs[j]? = some y → H' a = some (.tup [x, y])) ∧ (∀ b, H b = none → b ∉ as.take n → H' b = none) ∧ Inv X pins σ H' { s with heap := h', toks := tk } := by
  intro n
  induction n with
  | zero => intro _; exact ⟨H, aq.rfl', fun j a x y h => absurd h (by omega), fun b e _ => e, I.kept (t' := tk) k⟩
  | succ n ih =>
    intro hn
    obtain ⟨H1, S1, t1, f1, I1⟩ := ih (by omega)
    have hlt : n < as.length := hn
    have ea : as[n]? = some as[n] := List.getElem?_eq_getElem hlt
    obtain ⟨x, y, e1, e2, e3⟩ := G.pairs n _ ea
    have hxl : n < xs.length := by have := (Array.getElem?_eq_some_iff.mp e1).1; simpa using this
    have hyl : n < ys.length := by have := (Array.getElem?_eq_some_iff.mp e2).1; simpa using this
    obtain ⟨u, hu⟩ : ∃ u, us[n]? = some u := ⟨_, List.getElem?_eq_getElem (by rw [r1.length]; exact hxl)⟩
    obtain ⟨v, hv⟩ : ∃ v, vs[n]? = some v := ⟨_, List.getElem?_eq_getElem (by rw [r2.length]; exact hyl)⟩
    obtain ⟨x', gx, rx⟩ := r1.get hu
    obtain ⟨y', gy, ry⟩ := r2.get hv
    have ex : x' = x := by have : xs[n]? = some x := by simpa using e1
                           exact Option.some.inj (gx.symm.trans this)
    have ey : y' = y := by have : ys[n]? = some y := by simpa using e2
                           exact Option.some.inj (gy.symm.trans this)
    subst ex ey
    have ge : s.heap.objs.size ≤ as[n] := Nat.le_trans hlo (G.above _ (List.mem_of_getElem? ea))
    have nin : as[n] ∉ as.take n := fun hm => by
      obtain ⟨j, hj⟩ := List.mem_iff_getElem?.mp hm
      have hjn : j < n := by have := (List.getElem?_eq_some_iff.mp hj).1; rw [List.length_take] at this; omega
      rw [List.getElem?_take, if_pos hjn] at hj
      have := List.pairwise_iff_getElem.mp G.rise j n (by omega) hlt hjn
      rw [(List.getElem?_eq_some_iff.mp hj).2] at this
      exact Nat.lt_irrefl _ this
    have hfree : H1 as[n] = none := f1 _ (I.hok.fresh ge) nin
    have I2 : Inv X pins σ (upd H1 as[n] (.tup [u, v])) { s with heap := h', toks := tk } := Inv.track2 I I1 ge hfree ⟨by show 2 ≤ sizeLine; decide, [x', y'], .cons rx (.cons ry .nil), ⟨_, e3, rfl, _, rfl⟩⟩
    refine ⟨_, S1.trans (aq.upd hfree), fun j a x y hj ha hx hy => ?_, fun b e hb => ?_, I2⟩
    · rcases Nat.lt_or_eq_of_le (Nat.le_of_lt_succ hj) with h | h
      · exact aq.upd hfree _ _ (t1 j a x y h ha hx hy)
      · subst h
        rw [ea] at ha; cases ha
        rw [hu] at hx; cases hx
        rw [hv] at hy; cases hy
        exact ai
    · have nb : b ≠ as[n] := fun q => hb (by rw [q]; exact List.mem_iff_getElem?.mpr ⟨n, by rw [List.getElem?_take, if_pos (Nat.lt_succ_self _)]; exact ea⟩)
      rw [ao nb]
      exact f1 b e fun q => hb (by rw [List.take_succ]; exact List.mem_append_left _ q)
def qh (K:W.Frag):List V→Hp→VK→Prop:=fun xs H Q=>∃ c d us vs,xs=[.ref c,.ref d]∧SqL K H c us∧SqT K H d vs∧us.length=vs.length∧
 ∀ (l:Addr) (ps:List Addr) (H':Hp),H l=none→aq H H'→ps.length=us.length→(∀ (j:Nat) (p:Addr) (x y:V),ps[j]?=some p→us[j]?=some x→vs[j]?=some y→H' p=some (.tup [x,y]))→H' l=some (.lst (ps.map V.ref))→Q (.ref l) H'
theorem vX {Q:VK} {c d:Addr} {us vs:List V} (hc:X.calm=true) (I:Inv X pins σ H s) (hx:SqL X.K H c us) (hy:SqT X.K H d vs) (hl:us.length=vs.length)
  (q:∀ (l:Addr) (ps:List Addr) (H':Hp),H l=none→aq H H'→ps.length=us.length→(∀ (j:Nat) (p:Addr) (x y:V),ps[j]?=some p→us[j]?=some x→vs[j]?=some y→H' p=some (.tup [x,y]))→H' l=some (.lst (ps.map V.ref))→Q (.ref l) H'):
  wpAny (model X.prog X.w) X.A (call (.type "zip") [.ref c,.ref d]) (fun u s2=>wpAny (model X.prog X.w) X.A (call (.type "list") [u]) (EP X pins σ Q) X.xe s2) X.xe s:=by
 obtain ⟨its,r1,p1,hz1⟩:=I.list hx
 obtain ⟨its2,r2,p2,_⟩:=I.tuple hy
 have l1:=r1.length
 have l2:=r2.length
 have hL:s.heap.IsList c its.toArray:=p1.isList
 have hT:s.heap.IsTuple d its2.toArray:=p2
 have lt1:c<s.heap.objs.size:=by obtain ⟨o,e,_⟩:=hL;exact Heap.lt_size e
 have lt2:d<s.heap.objs.size:=by obtain ⟨o,e,_⟩:=hT;exact Heap.lt_size e
 refine HT.vz hL hT fun h1 y1 y2 y3 y4 y5 hsz hk=>?_
 refine HT.vi (s:={ s with heap:=h1 }) (I.ok.hd hc) (zipApart_new lt1 lt2) (by rw [List.size_toArray];omega) (by rw [List.size_toArray,List.size_toArray];omega) y1 y2 y3 y4 y5 (hL.at fun o e=>hk _ o e) (hT.at fun o e=>hk _ o e) fun h2 tk acc cc as hk2 hS hla hG hacc=>?_
 have hsz1:({ s with heap:=h1 }:Shared).heap.objs.size=s.heap.objs.size+5:=hsz
 rw [hsz1] at hS hG ⊢
 have kk:∀ b o,s.heap.get? b=some o→h2.get? b=some o:=fun b o e=>hk2 b o (fun z=>by
  have hb:=Heap.lt_size e
  simp only [List.mem_cons,List.not_mem_nil,or_false] at z
  rcases z with rfl | rfl | rfl | rfl | rfl <;> exact absurd hb (Nat.not_lt.mpr (by first | exact Nat.le_refl _ | exact Nat.le_add_right _ _))) (hk b o e)
 obtain ⟨H',S',tr,fr,I'⟩:=qF (tk:=tk) I kk (Nat.le_trans (Nat.le_add_right _ 5) (Nat.le_succ _)) r1 r2 hG as.length (Nat.le_refl _)
 have hSfree:H' (s.heap.objs.size+5)=none:=fr _ (I.hok.fresh (Nat.le_add_right _ _)) fun hm=>by
  have:=hG.above _ (List.mem_of_mem_take hm)
  exact absurd this (Nat.not_le.mpr (Nat.lt_succ_self _))
 have rr:aR (as.map V.ref) (as.map Value.ref):=by
  clear q tr fr hla hG hacc
  induction as with
  | nil=>exact .nil
  | cons a r ih=>exact .cons rfl ih
 have hla':as.length=us.length:=by rw [hla,List.size_toArray];omega
 have I2:Inv X pins σ (upd H' (s.heap.objs.size+5) (.lst (as.map V.ref))) { s with heap:=h2,toks:=tk }:=Inv.track2 I I' (Nat.le_add_right _ _) hSfree ⟨by rw [List.length_map,hla'];exact hz1,as.map Value.ref,cc,rr,by rw [hS,←hacc]⟩
 exact ⟨.ref (s.heap.objs.size+5),_,I2,rfl,q _ as _ (I.hok.fresh (Nat.le_add_right _ _)) (S'.trans (aq.upd hSfree)) hla' (fun j p x y hj hx hy=>aq.upd hSfree _ _ (tr j p x y (List.getElem?_eq_some_iff.mp hj).1 hj hx hy)) ai⟩
end
section
variable {X:Cx} {a b:Expr} {t:TA} {p1 p2 pos1 pos2:Pos}
theorem uT (hm1:X.mg "list" =none) (hm2:X.mg "zip" =none) (hc:X.calm=true) (ha:QA X [a,b] t) (hg1:Gl X "list" :=by rfl) (hg2:Gl X "zip" :=by rfl) (hs:aX [a,b]=true:=by rfl):
  QE X (.Call (.Name "list" p1) [.Call (.Name "zip" p2) [a,b] [] pos2] [] pos1) (tCB (qh X.K) t):=⟨fun pins s σ H Q I h=>by
 have h':(bz a&&aX [b])=true:=hs
 refine wpAny_Call_Name_kw (dG I hg1 hm1 zG ?_ (by decide) (by decide))
 refine PyProof.Rows.callWith_type1 ?_ rfl rfl
 show wpAny _ _ (spliced ((false,eval (.Call (.Name "zip" p2) [a,b] [] pos2) X.env)::backTo pos1 (starEach [] X.env))) _ _ s
 refine Calls.spliced_cons ?_
 refine wpAny_Call_Name_kw (dG I hg2 hm2 uC ?_ (by decide) (by decide))
 refine PyProof.Rows.callWith_type1 (thn (ha.out pos2 pins s σ H _ I h) fun us s1 ⟨vs,H1,I1,r1,q1⟩=>?_)
  (aP (Bool.and_eq_true_iff.mp h').1 [b] X.env) (bI (Bool.and_eq_true_iff.mp h').2)
 obtain ⟨c,d,xs,ys,rfl,hx,hy,hl,q⟩:=q1
 obtain ⟨u,w',rfl,ru,rw'⟩:=jY r1
 cases ru
 cases rw'
 refine wpAny_mono (vX hc I1 hx hy hl q) (fun u s2 z=>?_) fun _ _ z=>z
 exact Calls.spliced_nil z⟩
end
def xq (K:W.Frag) (a:Addr) (n:Nat):It where
 go:=fun i H=>i<n∧∃ xs,SqL K H a xs∧xs.length=n
 yld:=fun i H x H'=>H'=H∧∀ xs,SqL K H a xs→xs[n - 1 - i]?=some x
 stop:=fun i _=>n≤i
theorem uO {P:Program} {w:World} {K:W.Frag} {tg:Expr} (a it:Addr) (n:Nat):iO P w K tg (xq K a n) [it] it (fun i h=>i≤n∧h.IsRevIter it a ((n:Int) - 1 - i)) where
 mem:=by simp
 obj:=fun i h st b hb=>by
  have e:b=it:=by simpa using hb
  subst e
  obtain ⟨_,o,e,c,d⟩:=st
  exact ⟨o,e,fun v z=>by rw [d] at z;cases z⟩
 keep:=fun i h h' st k=>⟨st.1,st.2.at fun o e=>k it (by simp) o e⟩
 item:=by
  intro X hP hw hK hc i pins s σ H E I hf st hg
  subst hP hw hK
  obtain ⟨hi,xs,hq,hl⟩:=hg
  obtain ⟨its,rv,p,hz⟩:=I.list hq
  obtain ⟨x,hx⟩:∃ x,xs[n - 1 - i]?=some x:=⟨_,List.getElem?_eq_getElem (by omega)⟩
  obtain ⟨u,hu,ru⟩:=rv.get hx
  obtain ⟨f0,f1,f2,f3,f4,f5⟩:=hf it (by simp)
  have st2:=st.2
  rw [show (n:Int) - 1 - i=((n - 1 - i:Nat):Int) by omega] at st2
  refine wpAny_pyNext_rev_item st2 p.isList (x:=u) (by simpa using hu) fun h' st' sb=>?_
  have I1:Inv X pins σ H { s with heap:=h' }:=I.turned (t':=s.toks) (fun b o hb e=>(sb.2 b hb).trans e) f0 f1 f3 f4 f5
  obtain ⟨o,e1,c,d⟩:=id st'
  refine ⟨u,rfl,jJ (s:={ s with heap:=h' }) e1 c d (by decide) ⟨x,H,I1,ru,⟨rfl,fun ys hy=>by rw [I.list_inj hy hq];exact hx⟩,⟨hi,?_⟩,fun b hb=>(hf b hb).1⟩⟩
  rw [show (n:Int) - 1 - ((i+1:Nat):Int)=((n - 1 - i:Nat):Int) - 1 by omega];exact st'
 done:=by
  intro X hP hw hK hc i pins s σ H E I hf st hg
  subst hP hw hK
  obtain ⟨f0,f1,f2,f3,f4,f5⟩:=hf it (by simp)
  have hg:n≤i:=hg
  have hi:=st.1
  have st2:=st.2
  rw [show (n:Int) - 1 - i= -1 by omega] at st2
  exact wpAny_pyNext_rev_end (I.ok.hd hc) st2 fun h' eb=>⟨rfl,I.turned (t':=s.toks) (fun b o hb e=>eb b o hb e) f0 f1 f3 f4 f5⟩
 self:=fun _ _ _ _ _ st h=>wpAny_pyIter_revIter st.2 h
theorem cS.revL {K:W.Frag} {a:Addr} {xs:List V} (d:V):cS (xq K a xs.length) xs.length (fun i=>xs.reverse.getD i d) (fun H=>SqL K H a xs) where
 go:=fun i H hi h=>⟨hi,xs,h,rfl⟩
 yld:=fun i H x H' hi h y=>⟨y.1,by rw [List.getD_eq_getElem?_getD,List.getElem?_reverse hi,y.2 xs h];rfl⟩
 stop:=fun H h=>Nat.le_refl _
section
variable {X:Cx} {a:Expr} {t:TA} {p pos:Pos} {tg:Expr}
def yH (K:W.Frag) (t:TA):TI:=fun σ H R=>t σ H fun vs H1=>∃ c xs,vs=[.ref c]∧((SqL K H1 c xs∧R (xq K c xs.length) H1)∨(SqT K H1 c xs∧R (Cr K c xs) H1))
theorem AG (hm:X.mg "reversed" =none) (ha:QA X [a] t) (hg:Gl X "reversed" :=by rfl) (hs:aX [a]=true:=by rfl):QI X tg (.Call (.Name "reversed" p) [a] [] pos) (yH X.K t):=⟨fun pins s σ H R I h=>by
 have h':(bz a&&aX [])=true:=hs
 refine wpAny_Call_Name_kw (dG I hg hm gI ?_ (by decide) (by decide))
 refine PyProof.Rows.callWith_type1 (thn (ha.out pos pins s σ H _ I h) fun us s1 ⟨vs,H1,I1,r1,q1⟩=>?_)
   (aP (Bool.and_eq_true_iff.mp h').1 [] X.env) (bI (Bool.and_eq_true_iff.mp h').2)
 obtain ⟨c,xs,rfl,q1⟩:=q1
 obtain ⟨u,rfl,ru⟩:=dZ r1
 cases ru
 rcases q1 with ⟨hq,q⟩ | ⟨hq,q⟩
 · obtain ⟨its,rv,p,hz⟩:=I1.list hq
   have hl:=rv.length
   refine call_reversed_list p.isList ?_
   have st:(s1.heap.push (revObj c ((its.toArray.size:Int) - 1))).IsRevIter s1.heap.objs.size c ((xs.length:Int) - 1 - ((0:Nat):Int)):=by
    refine ⟨_,Heap.get?_push_size _ rfl,rfl,?_⟩
    have e:(xs.length:Int) - 1 - ((0:Nat):Int)=(its.toArray.size:Int) - 1:=by rw [List.size_toArray];omega
    rw [e];rfl
   refine wpAny_pyIter_revIter (s:={ s1 with heap:=s1.heap.push (revObj c ((its.toArray.size:Int) - 1)) }) st ?_
   refine ⟨s1.heap.objs.size,[s1.heap.objs.size],_,_,H1,rfl,I1.kept (t':=s1.toks) fun b o e=>Heap.get?_push_of_some _ e,uO c _ xs.length,⟨Nat.zero_le _,st⟩,fun b hb=>?_,q⟩
   have e:b=s1.heap.objs.size:=by simpa using hb
   subst e
   exact I1.fpOk (Nat.le_refl _) (I1.hok.fresh (Nat.le_refl _))
 · obtain ⟨its,rv,p,hz⟩:=I1.tuple hq
   have hl:=rv.length
   refine HT.eY (show IsTup s1.heap c its.toArray from p) (by rw [List.size_toArray];rw [sizeLine_eq] at hz;omega) ?_
   have st:HT.cZ (s1.heap.push (HT.iw c ((its.toArray.size:Int) - 1))) s1.heap.objs.size c ((xs.length:Int) - 1 - ((0:Nat):Int)):=by
    show (s1.heap.push _).get? _=_
    have e:(xs.length:Int) - 1 - ((0:Nat):Int)=(its.toArray.size:Int) - 1:=by rw [List.size_toArray];omega
    rw [e]
    exact Heap.get?_push_size _ rfl
   refine HT.kR (s:={ s1 with heap:=s1.heap.push (HT.iw c ((its.toArray.size:Int) - 1)),toks:=s1.toks+1+1 }) st ?_
   refine ⟨s1.heap.objs.size,[s1.heap.objs.size],_,_,H1,rfl,I1.kept (t':=s1.toks+1+1) fun b o e=>Heap.get?_push_of_some _ e,wk c _ xs,⟨Nat.zero_le _,st⟩,fun b hb=>?_,q⟩
   have e:b=s1.heap.objs.size:=by simpa using hb
   subst e
   exact I1.fpOk (Nat.le_refl _) (I1.hok.fresh (Nat.le_refl _))⟩
end
end L2
namespace HT
open PySem PySem.W PyProof.Rows
abbrev kN (C t:Addr) (d:Option Addr):Obj:={ cls:=.ref C,dict:=d,data:=.fields #[.ref t,.none,.none,.none,.bool false,.none] }
abbrev gK (h:Heap) (C:Addr) (us:List Value):Heap:=(h.push { cls:=.type "tuple",data:=.seq us.toArray }).push (kN C h.objs.size none)
section
variable {prog:Program} {w:World} {A:Around} {K:Frag} {C f:Addr} {R:Result→Shared→Prop} {h:Heap} {g:Array GenState} {d:Drawn} {t:Nat} {os:OsState}
theorem vS {us:List Value} (X:K.In h) (hC:L2.bR K C) (hi:findIn K (.ref C) "__init__" =some (some (.ref f))) (hf:typeIn K (.ref f)=some (.type "function")) (hus:us.length≤sizeLine)
  (hq:codeAny (model prog w) (A.under (.builtin "type.__call__" ⟨.ref C::us,[]⟩)) (.call (.ref f) ⟨.ref (h.objs.size+1)::us,[]⟩) (InitBack (h.objs.size+1) R) ⟨gK h C us,g,d,t,os⟩):
  codeAny (model prog w) A (.call (.ref C) ⟨us,[]⟩) R ⟨h,g,d,t,os⟩:=by
 obtain ⟨bm,N,nm,qn,bs,hdct,sn,sub,ab,col,dd,k0,k1,k2,k3,k5,mN,oC,hN,_,T,_⟩:=L2.eJ X hC
 have f1:=tc_lookup
 have f2:=tc_bind (.ref C)
 have hT:(⟨h,g,d,t,os⟩:Shared).TypeIs (.ref C) "type" :=⟨_,oC,rfl⟩
 have FB:=F.excBase_ValueError
 have hBn:(L2.veM).contains (.type "ValueError")=true:=by decide +kernel
 refine codeAny_of_tree ?_
 show wpAny _ _ (callAny (.ref C) _) _ _ _
 repeat (any_goals (first | assumption | with_reducible refine wpAny_loadPart_at oC ?_ | wp_step))
 refine ⟨rfl,?_⟩
 refine codeAny_call_builtin_at (Code.quiet_builtin _ (by decide +kernel)) entry_typeCall (wpAny_check_type_call_sub oC ?_)
 repeat (first | with_reducible refine wpAny_loadPart_at oC ?_ | with_reducible refine wpAny_madeBy_exc oC ?_ | wp_step)
 refine codeAny_call_builtin_code (Code.quiet_builtin _ FB.quiet) (wpAny_check_new_subU FB hBn T oC ?_)
 refine codeAny_exc_new_subU FB hBn FB T oC ?_ hus
 show wpAny _ _ _ _ _ _
 have k:∀ b o,h.get? b=some o→(gK h C us).get? b=some o:=fun b o e=>Heap.get?_push_of_some _ (Heap.get?_push_of_some _ e)
 have hx:(gK h C us).get? (h.objs.size+1)=some (kN C h.objs.size none):=by heap_get
 have oC1:=k _ _ oC
 have hcC:(Value.ref C::bm).contains (.ref C)=true:=by simp
 have t1:Looks (model prog w) (gK h C us) (typeOf (.ref (h.objs.size+1))) (.ref C):=(Looks.ld hx).andThen .now
 have i1:=(looks_findIn (M:=model prog w) X hi).keeps k
 have b1:=(bind_fn (M:=model prog w) X (.ref (h.objs.size+1)) hf).keeps k
 unfold isInstance
 repeat (first | with_reducible refine wpAny_loadPart_at hx ?_ | (with_reducible refine wpAny_isSubtype_exc oC1 ?_;rw [hcC]) | wp_step)
 show wpAny _ _ (isSubtype (.ref C) (.ref C)) _ _ ⟨gK h C us,g,d,t,os⟩
 refine wpAny_isSubtype_exc oC1 ?_
 rw [hcC,if_neg (by decide)]
 unfold callSpecial? specialOf
 repeat (first | with_reducible refine wpAny_call ?_ | lk)
 refine codeAny_mono hq fun r s' z=>?_
 rcases r with e | (v | _ | _ | _) <;> first | exact z | exact z.elim | skip
 obtain ⟨rfl,z⟩:=z
 exact wpAny_pure (wpAny_pure z)
end
end HT
namespace HT
open PySem PySem.W PyProof.Rows
open Builtin Builtin.ObjectAttr
theorem qM (self:Value) {h:Heap} {bm:List Value} (T:OwnTail h L2.veM bm):refuseLoop self "__setattr__" bm=pure ():=by
 induction T with
 | base=>exact PySem.F.store_ValueError.passes self
 | own _ _ _ _ ih=>rw [refuseLoop_ref];exact ih
structure gR (K:Frag) (C:Addr) (name:Str):Prop where
 ok:L2.bR K C
 sa:findIn K (.ref C) "__setattr__" =some (some (.builtin "object.__setattr__"))
 eg:L2.cL K C
 no:findIn K (.ref C) name=some none
 hd:hasDictIn K C=true
section
variable {prog:Program} {w:World} {A:Around} {E:Value→Shared→Prop} {s:Shared} {K:Frag} {x C:Addr} {name:Str} {v:Value}
theorem rO {ox : Obj} {od : Option Obj} {tk : Tok} {R : Result → Shared → Prop} (X : K.In s.heap) (I : InstAt s.heap x ox C od) (G : gR K C name)
  (h : wpAny (model prog w) A.in1 (storeInOwnDict (.ref x) (.ref C) (.str name tk) name v false)
   (fun fin s' => match fin with | .done f => R (.ok f) s' | .again c' => c'.quiet = true ∧ codeAny (model prog w) A c' R s') (fun e s' => R (.error e) s') s) :
  codeAny (model prog w) A (.call (.builtin "object.__setattr__") ⟨[.ref x, .str name tk, v], []⟩) R s := by
 have SF := PySem.F.store_object
 obtain ⟨bm, N, nm, qn, bs, hdct, sn, sub, ab, col, dd, k0, k1, k2, k3, k5, mN, oC, hN, _, T, _⟩ := L2.eJ X G.ok
 have hm : Looks (model prog w) s.heap (mroOf (.ref C)) (.ref C :: bm) := ((Looks.ld (part := none) oC).andThen .now).andThen .now
 have hsub : Looks (model prog w) s.heap (isSubtype (.ref C) (.type "object")) true := fun A' Q' E' s' k q => by
  obtain ⟨hh, g, d, t, os⟩ := s'
  refine wpAny_isSubtype_exc (k _ _ oC) ?_
  rw [List.contains_cons, T.hasType (X := "object") (b := true) (by decide +kernel), Bool.or_true]; exact q
 have hsub' : Looks (model prog w) s.heap (isInstance (.ref x) (.type "object")) true := I.type.andThen hsub
 refine codeAny_call_builtin SF.slot.plain SF.entry (@check_slot (model prog w) _ _ s "object.__setattr__" "object" "__setattr__" (.ref x) [.str name tk, v] [] _ SF.kind SF.split hsub' (SF.args (.ref x) (.str name tk) v) ?_)
 rw [osa_eq, refuse_eq]
 refine wpAny_bind (wpAny_bind (I.type.here (wpAny_bind (hm.here ?_))))
 rw [refuseLoop_ref, qM _ T]
 exact wpAny_pure (wpAny_bind (I.type.here (wpAny_bind ((looks_findIn X G.no).here (wpAny_bind (wpAny_pure h))))))
theorem zI {ox:Obj} {dx:Addr} {mA:Str→Option Value} {ns:List Str} {Q:Unit→Shared→Prop} (X:K.In s.heap) (hx:s.heap.get? x=some ox) (hc:ox.cls=.ref C) (hdx:ox.dict=some dx) (hf:∃ vs,ox.data=.fields vs) (hn:s.heap.Ns1 dx mA) (ne:dx≠x) (G:gR K C name)
  (hw:Within mA ns) (hsz:ns.length≤sizeLine) (h:∀ h' t',h'.Ns1 dx (fun y=>if y=name then some v else mA y)→Heap.SameBut dx s.heap h'→Q () { s with heap:=h',toks:=t' }):wpAny (model prog w) A (setAttr (.ref x) name v) Q E s:=by
 obtain ⟨vs,hvs⟩:=hf
 obtain ⟨oc,od,odt,osl⟩:=ox
 dsimp only at hc hdx hvs
 subst hc hdx hvs
 obtain ⟨oD0,esD0,epD0,hoD0,_⟩:=id hn
 have J:InstAt s.heap x _ C (some oD0):=⟨hx,rfl,rfl,hoD0⟩
 refine set_plain X J G.sa (rO (s:={ s with toks:=s.toks+1 }) X J G ?_)
 obtain ⟨cd,hcc,hd'⟩:=any_some G.hd
 refine wpAny_bind (wpAny_pure (wpAny_bind (wpAny_bind (wpAny_loadPart hx (wpAny_bind (Looks.here (s:={ s with toks:=s.toks+1 }) (looks_clsIn X hcc) ?_))))))
 rw [hd']
 refine wpAny_pure (a:=some dx) (wpAny_bind (wpAny_pure (wpAny_bind ?_)))
 refine wpAny_nsSet1 (s:={ s with toks:=s.toks+1 }) hn fun h' hn2 hs2=>?_
 obtain ⟨oD,esD,epD,hoD,hdD,hcD⟩:=hn2.count (Within.cons name v hw)
 refine wpAny_bind (wpAny_lookBehind hoD (by rw [hdD];exact pastItsLine_dict (Nat.le_trans hcD (by rw [List.length_cons];omega))) ?_)
 exact wpAny_pure (h _ _ hn2 hs2)
theorem ya {ox:Obj} {Q:Unit→Shared→Prop} (X:K.In s.heap) (hx:s.heap.get? x=some ox) (hc:ox.cls=.ref C) (hdx:ox.dict=none) (hf:∃ vs,ox.data=.fields vs) (G:gR K C name)
  (h:∀ h' t',h'.get? x=some { ox with dict:=some s.heap.objs.size }→h'.Ns1 s.heap.objs.size (fun y=>if y=name then some v else none)→(∀ b o,b≠x→s.heap.get? b=some o→h'.get? b=some o)→Q () { s with heap:=h',toks:=t' }):
  wpAny (model prog w) A (setAttr (.ref x) name v) Q E s:=by
 obtain ⟨vs,hvs⟩:=hf
 obtain ⟨oc,od,odt,osl⟩:=ox
 dsimp only at hc hdx hvs
 subst hc hdx hvs
 have J:InstAt s.heap x _ C none:=⟨hx,rfl,rfl,trivial⟩
 refine set_plain X J G.sa (rO (s:={ s with toks:=s.toks+1 }) X J G ?_)
 obtain ⟨cd,hcc,hd'⟩:=any_some G.hd
 refine wpAny_bind (wpAny_pure (wpAny_bind (wpAny_bind (wpAny_loadPart hx (wpAny_bind (Looks.here (s:={ s with toks:=s.toks+1 }) (looks_clsIn X hcc) ?_))))))
 rw [hd']
 show wpAny _ _ (alloc { cls:=.type "dict",data:=.dict #[] }>>=fun d=>update x (fun o=>{ o with dict:=some d })>>=fun _=>pure (some d)) _ _ _
 have xs:x≠s.heap.objs.size:=Nat.ne_of_lt (Heap.lt_size hx)
 have hx1:(s.heap.push { cls:=.type "dict",data:=.dict #[] }).get? x=some _:=Heap.get?_push_of_some _ hx
 refine wpAny_bind (wpAny_alloc' (wpAny_bind (wpAny_update' hx1 (wpAny_pure ?_))))
 generalize hh2:((s.heap.push { cls:=.type "dict",data:=.dict #[] }).update x fun o=>{ o with dict:=some s.heap.objs.size })=h2
 have hx2:h2.get? x=some ⟨.ref C,some s.heap.objs.size,.fields vs,osl⟩:=by rw [← hh2];exact Heap.get?_update_self _ hx1 rfl
 have hd2:h2.get? s.heap.objs.size=some { cls:=.type "dict",data:=.dict #[] }:=by rw [← hh2];exact (Heap.get?_update_ne _ _ _ _ xs.symm).trans (Heap.get?_push_at rfl rfl)
 have k2:∀ b o,b≠x→s.heap.get? b=some o→h2.get? b=some o:=fun b o nb e=>by rw [← hh2];exact (Heap.get?_update_ne _ _ _ _ nb).trans (Heap.get?_push_of_some _ e)
 have n2:h2.Ns s.heap.objs.size (fun _=>none):=⟨_,#[],_,hd2,rfl,fun e he=>absurd he (by simp),fun _=>rfl⟩
 show wpAny _ _ (storeInDict s.heap.objs.size (.str name s.toks) name v) _ _ { s with heap:=h2,toks:=s.toks+1 }
 unfold storeInDict newKeyGuard
 refine wpAny_bind (wpAny_pure (wpAny_bind (wpAny_nsSet1 (s:={ s with heap:=h2,toks:=s.toks+1 }) (Heap.Ns1.of_empty n2) fun h' hn' hs=>?_)))
 obtain ⟨oD,esD,epD,hoD,hdD,hcD⟩:=hn'.count (Within.cons name v Within.nil)
 refine wpAny_bind (wpAny_lookBehind hoD (by rw [hdD];exact pastItsLine_dict (Nat.le_trans hcD (by rw [List.length_cons,List.length_nil,sizeLine_eq];omega))) ?_)
 exact wpAny_pure (h _ _ ((hs.2 x xs).trans hx2) hn' fun b o nb e=>(hs.2 b (Nat.ne_of_lt (Heap.lt_size e))).trans (k2 b o nb e))
end
end HT
namespace L2
open PySem PySem.Spec PyProof.Rows
def fv (C a:Addr) (d:Option Addr):HO:=.ext fun h=>∃ t,h.get? a=some (HT.kN C t d)
theorem qT {P:Program} {w:World} {H:Hp} {h:Heap} {C a t:Addr} {d:Option Addr} (e:h.get? a=some (HT.kN C t d)):aU P w H h a (fv C a d):=⟨⟨t,e⟩,⟨_,e⟩,fun h1 h2 ⟨t1,e1⟩ k=>⟨t1,k _ e1⟩⟩
theorem mD {P:Program} {w:World} {H:Hp} {h:Heap} {C a:Addr} {d:Option Addr} (x:aU P w H h a (fv C a d)):∃ t,h.get? a=some (HT.kN C t d):=x.1
def kD (fs:List (Str×V)) (dx:Addr):HO:=.ext fun h=>∃ mA,h.Ns1 dx mA∧∀ f,cC (fs.lookup f) (mA f)
theorem rB {P:Program} {w:World} {H:Hp} {h:Heap} {dx:Addr} {fs:List (Str×V)} {mA:Str→Option Value} (n:h.Ns1 dx mA) (r:∀ f,cC (fs.lookup f) (mA f)):aU P w H h dx (kD fs dx):=by
 refine ⟨⟨mA,n,r⟩,?_,fun h1 h2 ⟨m1,n1,r1⟩ k=>⟨m1,?_,r1⟩⟩
 · obtain ⟨o,es,ep,e,_⟩:=n
   exact ⟨o,e⟩
 · obtain ⟨o,es,ep,e,c⟩:=n1
   exact ⟨o,es,ep,k _ e,c⟩
theorem zR {P:Program} {w:World} {H:Hp} {h:Heap} {dx:Addr} {fs:List (Str×V)} (x:aU P w H h dx (kD fs dx)):∃ mA,h.Ns1 dx mA∧∀ f,cC (fs.lookup f) (mA f):=x.1
theorem qA {fs : List (Str × V)} {mA : Str → Option Value} (r : ∀ f, cC (fs.lookup f) (mA f)) : PySem.Within mA (fs.map (·.1)) := fun y h => by
  have ry := r y
  cases e : fs.lookup y with
  | none =>
    rw [e] at ry
    cases q : mA y with
    | none => exact absurd q h
    | some u => rw [q] at ry; exact ry.elim
  | some v =>
    have : ∀ (l : List (Str × V)), l.lookup y = some v → y ∈ l.map (·.1) := by
      intro l
      induction l with
      | nil => intro z; cases z
      | cons p l ih =>
        intro z
        obtain ⟨k, x⟩ := p
        rw [List.lookup_cons] at z
        by_cases hk : (y == k) = true
        · rw [List.map_cons]; exact List.mem_cons.mpr (.inl (beq_iff_eq.mp hk))
        · rw [Bool.not_eq_true] at hk
          rw [hk] at z
          exact List.mem_cons_of_mem _ (ih z)
    exact this fs e
def su (K : W.Frag) (C : Addr) (ta tv : TE) (f : Str) : TS := fun D σ H => tv σ H fun y H1 => ta σ H1 fun x H2 => ∃ a, x = .ref a ∧ HT.gR K C f ∧
  ((H2 a = some (fv C a none) ∧ ∀ dx, H2 dx = none → dx ≠ a → D.nx σ (upd (upd H2 a (fv C a (some dx))) dx (kD [(f, y)] dx))) ∨
   (∃ dx fs, H2 a = some (fv C a (some dx)) ∧ H2 dx = some (kD fs dx) ∧ dx ≠ a ∧ fs.length < 1000 ∧ D.nx σ (upd H2 dx (kD (dz f y fs) dx))))
section
variable {X:Cx} {o value:Expr} {ta tv:TE} {f:Str} {pos pos':Pos} {C:Addr}
theorem vA (ho:QE X o ta) (hv:QE X value tv) (hs:swapsWith value (some (.Attribute o f pos')) pos.line X.env=pure false:=by rfl):QS X (.Assign [.Attribute o f pos'] value pos) (su X.K C ta tv f):=by
 refine ⟨fun pins s σ H D I h=>?_⟩
 refine plainObj_wpAny_Assign_Attribute (thn (hv.out pins s σ H _ I h) fun u s1 ⟨y,H1,I1,ry,q⟩=>thn (ho.out pins s1 σ H1 _ I1 q) fun ov s2 ⟨x,H2,I2,rx,a,ex,G,q2⟩=>?_) hs
 subst ex
 obtain rfl:ov=Value.ref a:=rx
 rcases q2 with ⟨ea,q2⟩ | ⟨dx,fs,ea,ed,ne,hl,q2⟩
 · obtain ⟨t,et⟩:=mD (P:=X.prog) (w:=X.w) (I2.hok a _ ea)
   refine HT.ya I2.kIn et rfl rfl ⟨_,rfl⟩ G fun h' t' e1 e2 k=>?_
   have I3:Inv X pins σ (upd H2 a (fv C a (some s2.heap.objs.size))) { s2 with heap:=h',toks:=t' }:=I2.write (x:=a) (e:=a) (by rw [ea];exact True.intro) (.inl rfl) (fun b u nb e=>k b u nb e) ⟨_,e1⟩ (qT e1)
   have na:s2.heap.objs.size≠a:=Nat.ne_of_gt (Heap.lt_size et)
   have hn:upd H2 a (fv C a (some s2.heap.objs.size)) s2.heap.objs.size=none:=by rw [ao na];exact I2.hok.fresh (Nat.le_refl _)
   exact ⟨σ,_,Inv.track2 I2 I3 (Nat.le_refl _) hn (rB e2 fun g=>by
    show cC (List.lookup g [(f,y)]) (if g=f then some u else none)
    by_cases hg:g=f
    · rw [if_pos hg,hg]
      simp only [List.lookup,beq_self_eq_true];exact ry
    · have hb:(g==f)=false:=beq_eq_false_iff_ne.mpr hg
      rw [if_neg hg]
      simp only [List.lookup,hb];exact True.intro),q2 _ (I2.hok.fresh (Nat.le_refl _)) na⟩
 · obtain ⟨t,et⟩:=mD (P:=X.prog) (w:=X.w) (I2.hok a _ ea)
   obtain ⟨mA,n1,r1⟩:=zR (P:=X.prog) (w:=X.w) (I2.hok dx _ ed)
   refine HT.zI (ns:=fs.map (·.1)) I2.kIn et rfl rfl ⟨_,rfl⟩ n1 ne G (qA r1) (by rw [List.length_map,sizeLine_eq];omega) fun h' t' e2 sb=>?_
   have hd:∃ u,h'.get? dx=some u:=let ⟨o,_,_,e',_⟩:=e2;⟨o,e'⟩
   exact ⟨σ,_,I2.write (x:=dx) (e:=dx) (by rw [ed];exact True.intro) (.inl rfl) (fun b u nb e=>(sb.2 b nb).trans e) hd (rB e2 fun g=>by
    rw [gL]
    by_cases hg:g=f
    · rw [if_pos hg,if_pos hg];exact ry
    · rw [if_neg hg,if_neg hg];exact r1 g),q2⟩
end
def jl (a:Addr) (H:Hp):Hp:=fun b=>if b=a then none else H b
theorem jg {a:Addr} {H:Hp}:jl a H a=none:=by unfold jl;rw [if_pos rfl]
theorem eG {a b:Addr} {H:Hp} (h:b≠a):jl a H b=H b:=by unfold jl;rw [if_neg h]
theorem HOk.off {P:Program} {w:World} {H:Hp} {h:Heap} {a:Addr} {φ:Heap→Prop} (k:HOk P w H h) (ha:H a=some (.ext φ)):HOk P w (jl a H) h:=fun b o e=>by
 by_cases hb:b=a
 · subst hb;rw [jg] at e;cases e
 · rw [eG hb] at e
   exact (k b o e).stay (fun c u _ q=>q) (fun c q=>by rw [eG (fun z=>by rw [z,ha] at q;cases q)];exact q) fun c xs q=>by rw [eG (fun z=>by rw [z,ha] at q;cases q)];exact q
theorem Un.off {fs:List Addr} {H H':Hp} {h h':Heap} {a:Addr} (u:Un fs [] H H' h h') (ha:H a=none):Un fs [] H (jl a H') h h' where
 keep:=u.keep
 slot:=u.slot
 free:=fun b o e n hx=>by
  by_cases hb:b=a
  · rw [hb];exact jg
  · rw [eG hb];exact u.free b o e n hx
 there:=u.there
 tups:=fun b xs e=>by rw [eG (aw e ha)];exact u.tups b xs e
 frzs:=fun b o v e=>by rw [eG (aw e ha)];exact u.frzs b o v e
 tbls:=fun b ps e=>by rw [eG (aw e ha)];exact u.tbls b ps e
end L2
namespace HT
open PySem PyProof.Rows
section
variable {M:Model} {A:Around} {E:Value→Shared→Prop} {env:Env} {K:W.Frag} {C:Addr}
theorem uJ {s:Shared} {x:Sem Value} {Q:Flow→Shared→Prop} (hC:L2.bR K C) (hh:A.handled=none)
  (h:wpAny M A x (fun v s₁=>∃ e t d,v=.ref e∧K.In s₁.heap∧s₁.heap.get? e=some (kN C t d)∧E (.ref e) s₁) E s):wpAny M A (raiseStmt env (some x) none) Q E s:=by
 unfold raiseStmt
 refine wpAny_bind (wpAny_mono h (fun v s₁ h₁=>?_) fun _ _ x=>x)
 obtain ⟨e,t,d,rfl,X,he,hE⟩:=h₁
 obtain ⟨bm,N,nm,qn,bs,hdct,sn,sub,ab,col,dd,k0,k1,k2,k3,k5,mN,oC,hN,_,T,_⟩:=L2.eJ X hC
 have hcB:(Value.ref C::bm).contains (.type "BaseException")=true:=by rw [List.contains_cons,T.hasType (X:= "BaseException") (b:=true) (by decide +kernel),Bool.or_true]
 obtain ⟨hp,g,dr,tk,os⟩:=s₁
 repeat (first | with_reducible refine wpAny_loadPart_at he ?_ | with_reducible refine wpAny_loadPart_at oC ?_ | (with_reducible refine wpAny_isSubtype_exc oC ?_;rw [hcB]) | wp_step)
 exact wpAny_raiseNew_none hh hE
theorem ux {prog:Program} {w:World} {A:Around} {K:W.Frag} {C f:Addr} {R:Result→Shared→Prop} {s:Shared} {us:List Value} (X:K.In s.heap) (hC:L2.bR K C) (hi:W.findIn K (.ref C) "__init__" =some (some (.ref f))) (hf:W.typeIn K (.ref f)=some (.type "function")) (hus:us.length≤sizeLine)
  (hq:codeAny (model prog w) (A.under (.builtin "type.__call__" ⟨.ref C::us,[]⟩)) (.call (.ref f) ⟨.ref (s.heap.objs.size+1)::us,[]⟩) (W.InitBack (s.heap.objs.size+1) R) { s with heap:=gK s.heap C us }):
  codeAny (model prog w) A (.call (.ref C) ⟨us,[]⟩) R s:=by
 obtain ⟨h,g,d,t,os⟩:=s
 exact vS X hC hi hf hus hq
end
end HT
namespace L2
open PySem PySem.Spec PyProof.Rows
def rS (C:Addr) (sp:Sp) (E:St→XK) (t:TA):TS:=fun _ σ H=>t σ H fun vs H1=>∀ a,H1 a=none→sp (.ref a::vs) (upd H1 a (fv C a none)) (fun v H2=>v=.non∧∃ d,H2 a=some (fv C a d)∧E σ (.ref C) d (jl a H2)) E0
structure yT (K:W.Frag) (C f:Addr):Prop where
 ok:bR K C
 init:W.findIn K (.ref C) "__init__" =some (some (.ref f))
 fn:W.isFn K (.ref f)=true
 kp:W.keepIn K (.ref C)=true
section
variable {X:Cx} {k:Nat} {f C:Addr} {fd:FuncData} {ps:List Str} {sp:Sp} {E:St→XK} {x:Str} {np cpos pos:Pos} {e:Expr} {es:List Expr} {t:TA}
theorem vD (Y : yT X.K C f) (F : aM X.prog X.w X.K X.mg X.base (CX1 X.prog X.w) k f fd ps sp) (hr : aY (k + 1) X.A) (hb : bA X.K fd ps []) (hm : X.mg x = some (.ref C)) (hR : pU X E) (ha : QA X (e :: es) t)
    (hc : X.calm = true := by rfl) (hg : Gl X x := by rfl) (hdb : (x == ("__debug__" : Str)) = false := by decide) (hs : aX (e :: es) = true := by rfl) (hps : ps.length ≤ 1000 := by decide) : QS X (.Raise (some (.Call (.Name x np) (e :: es) [] cpos)) none pos) (rS C sp E t) := by
  refine ⟨fun pins s σ H D I h => ?_⟩
  have h' : (bz e && aX es) = true := hs
  rw [arm_exec_Raise]
  refine wpAny_bind (wpAny_standAt (HT.uJ Y.ok (I.ok.hd hc) ?_))
  refine wpAny_bind (wpAny_mono ?_ (fun v s₃ h₃ => wpAny_bind (wpAny_standAt (wpAny_pure h₃))) fun _ _ x => x)
  refine wpAny_Call_Name_kw (fw I hg hm ?_ hdb)
  refine W.callWith_K (h₀ := X.base) I.ok.mod.kin Y.kp (thn (ha.out cpos pins s σ H _ I h) fun us s1 ⟨vs, H1, I1, r, q⟩ => ⟨I1.kIn, ?_⟩) (aP (Bool.and_eq_true_iff.mp h').1 es X.env) (bI (Bool.and_eq_true_iff.mp h').2)
  have ka : ∀ b u, s1.heap.get? b = some u → (HT.gK s1.heap C us).get? b = some u := fun b u eb => Heap.get?_push_of_some _ (Heap.get?_push_of_some _ eb)
  have ex : (HT.gK s1.heap C us).get? (s1.heap.objs.size + 1) = some (HT.kN C s1.heap.objs.size none) := by heap_get
  have hfr : H1 (s1.heap.objs.size + 1) = none := I1.hok.fresh (Nat.le_succ _)
  have I2 : Inv X pins σ (upd H1 (s1.heap.objs.size + 1) (fv C (s1.heap.objs.size + 1) none)) { s1 with heap := HT.gK s1.heap C us, toks := s1.toks } := I1.laid ka (Nat.le_succ _) (qT ex)
  have hq := q (s1.heap.objs.size + 1) hfr
  have r2 : aR (V.ref (s1.heap.objs.size + 1) :: vs) (Value.ref (s1.heap.objs.size + 1) :: us) := .cons rfl r
  have hl : (Value.ref (s1.heap.objs.size + 1) :: us).length = ps.length := by rw [← r2.length]; exact F.len _ _ _ _ hq
  have hb' := hb { s1 with heap := HT.gK s1.heap C us } (Value.ref (s1.heap.objs.size + 1) :: us) I2.kIn (by rw [List.append_nil]; exact hl)
  rw [List.append_nil] at hb'
  have husz : us.length ≤ sizeLine := by
    rw [List.length_cons] at hl
    rw [sizeLine_eq]; omega
  refine wpAny_call (HT.ux I1.kIn Y.ok Y.init (beq_iff_eq.mp Y.fn) husz (codeAny_mono (F.run _ X.stack _ _ ⟨Value.ref (s1.heap.objs.size + 1) :: us, []⟩ (Value.ref (s1.heap.objs.size + 1) :: us) _ _ _ (hr.make C us []) (I2.env0.make C us []) hb' r2 hq) fun rr s' hq' => ?_))
  cases rr with
  | error e' =>
    obtain ⟨_, _, _, _, _, _, z⟩ := hq'
    exact z.elim
  | ok fl =>
    cases fl with
    | next => exact False.elim hq'
    | brk => exact False.elim hq'
    | cont => exact False.elim hq'
    | ret u =>
      obtain ⟨v, H', os, bare, un, hok, rv, rfl, d, hd, hE⟩ := hq'
      obtain ⟨t, et⟩ := mD (P := X.prog) (w := X.w) (hok _ _ hd)
      have u1 : Un (frs X.stack) [] H1 H' s1.heap s'.heap := (Un.laid (o := fv C (s1.heap.objs.size + 1) none) ka (Nat.le_succ _) hfr).trans un
      have kin : X.K.In s'.heap := by
        have I3 : Inv X pins σ H' s' := I1.call' (ch := []) os u1 hok bare fun b z => absurd z (by simp)
        exact I3.kIn
      refine ⟨rv, s1.heap.objs.size + 1, t, d, rfl, kin, et, hR pins σ H1 s1 C (s1.heap.objs.size + 1) d (jl (s1.heap.objs.size + 1) H') s' I1 ⟨os, bare, u1.off hfr, hok.off hd, Heap.get?_none_of_le (Nat.le_succ _), jg, ⟨_, _, .ref t, et, rfl, rfl, rfl, ⟨rfl, rfl⟩, rfl⟩⟩ hE⟩
end
end L2
namespace L2
open PySem PySem.Spec PyProof.Rows PySem.W
section
variable {key:Nat→Int} {n:Nat}
variable (inj:∀ i j,i<n→j<n→key i=key j→i=j)
include inj
omit inj in
omit inj in
omit inj in
end
end L2
namespace Rs
abbrev st (B k d:Nat):Nat:=k/2^(B - d)

end Rs
namespace HT
open PySem PyProof.Rows
section
variable {prog:Program} {w:World} {A:Around} {E:Value→Shared→Prop} {s:Shared}
theorem vK {it l:Addr} {i:Nat} {items:Array Value} {x:Value} {Q:Value→Shared→Prop} (hit:s.heap.IsRevIter it l (i:Int)) (hl:s.heap.IsList l items) (hx:items[i]?=some x)
  (hQ:∀ h',h'.IsRevIter it l ((i:Int) - 1)→Heap.SameBut it s.heap h'→Q x { s with heap:=h' }):wpAny (model prog w) A (Builtin.SmallTypes.nextOf (.ref it)) Q E s:=by
 obtain ⟨o,ho,hc,hd⟩:=id hit
 obtain ⟨ol,hol,_,nl,hdl⟩:=hl
 unfold Builtin.SmallTypes.nextOf
 refine wpAny_bind (wpAny_callSpecial?_slot (name:=Str.ofString "__next__") hit.typeIs F.slot_lri_next
  (wpAny_call_entry F.slot_lri_next hit.typeIs F.entry_lri_next ?_ (F.args_lri_next_1 _)))
 unfold Builtin.«list_reverseiterator.__next__»
 refine wpAny_bind (wpAny_of_eq (a:=(Value.ref it,[])) rfl ?_)
 try dsimp only
 refine wpAny_bind (wpAny_field ho hd (x:=rawInt (i:Int)) rfl ?_)
 show wpAny _ _ (if (i:Int)<0 then _ else _) _ _ s
 rw [if_neg (by omega)]
 show wpAny _ _ (field (.ref it) 0>>=_) _ _ s
 refine wpAny_bind (wpAny_field ho hd (x:=.ref l) rfl ?_)
 show wpAny _ _ (seqItems? (.ref l)>>=_) _ _ s
 refine wpAny_bind (wpAny_seqItems hol hdl ?_)
 simp only [Int.toNat_natCast,hx]
 refine wpAny_bind (wpAny_setField ho hd (by simp) ?_)
 first
 | refine wpAny_pure ⟨x,rfl,wpAny_pure (hQ _ ?_ (Heap.SameBut.update ..))⟩
 | refine wpAny_bind (wpAny_pure (wpAny_pure ⟨x,rfl,wpAny_pure (hQ _ ?_ (Heap.SameBut.update ..))⟩))
 exact ⟨_,Heap.get?_update_self _ ho (Obj.isFreed_of_fields (Obj.data_mapFields hd _)),(Obj.cls_mapFields ..).trans hc,by
  rw [Obj.data_mapFields hd];simp⟩
theorem pI {it l:Addr} {Q:Value→Shared→Prop} (hh:A.handled=none) (hit:s.heap.IsRevIter it l (-1))
  (hE:∀ h' e,Heap.ExtBut it s.heap h'→(∃ o,h'.get? e=some o∧o.cls=.type "StopIteration")→E (.ref e) { s with heap:=h' }):wpAny (model prog w) A (Builtin.SmallTypes.nextOf (.ref it)) Q E s:=by
 obtain ⟨o,ho,hc,hd⟩:=id hit
 unfold Builtin.SmallTypes.nextOf
 refine wpAny_bind (wpAny_callSpecial?_slot (name:=Str.ofString "__next__") hit.typeIs F.slot_lri_next
  (wpAny_call_entry F.slot_lri_next hit.typeIs F.entry_lri_next ?_ (F.args_lri_next_1 _)))
 unfold Builtin.«list_reverseiterator.__next__»
 refine wpAny_bind (wpAny_of_eq (a:=(Value.ref it,[])) rfl ?_)
 try dsimp only
 refine wpAny_bind (wpAny_field ho hd (x:=rawInt (-1)) rfl ?_)
 show wpAny _ _ (if (-1:Int)<0 then _ else _) _ _ s
 rw [if_pos (by decide)]
 refine wpAny_bind (wpAny_rule ?_)
 first
 | show wpAny _ _ (newExc (.type "StopIteration") []>>=_) _ _ _
 | (refine wpAny_bind ?_;show wpAny _ _ (newExc (.type "StopIteration") []>>=_) _ _ _)
 refine wpAny_bind ?_
 simp only [newExc,newTuple]
 refine wpAny_bind (wpAny_newObj_type ?_ (by size_fits))
 refine wpAny_bind (m:=firstArgMember _ _) (wpAny_of_eq (a:=Value.none) (by first | rfl | (simp only [firstArgMember];rfl)) ?_)
 refine wpAny_newObj_type ?_ (by size_fits)
 simp only [raiseNew]
 refine wpAny_bind (wpAny_handled ?_)
 first | rw [show A.in1.handled=none from hh] | rw [hh]
 refine wpAny_bind (wpAny_pure (wpAny_throw ?_))
 exact hE _ _ (((Heap.ExtBut.refl _ _).push _).push _) ⟨_,Heap.get?_push_size _ rfl,rfl⟩
theorem xi {it t:Addr} {i:Nat} {items:Array Value} {x:Value} {Q:Value→Shared→Prop} (hit:cZ s.heap it t (i:Int)) (ht:IsTup s.heap t items) (hz:(items.size:Int)<2^63) (hx:items[i]?=some x)
   (hQ:∀ h',cZ h' it t ((i:Int) - 1)→Heap.SameBut it s.heap h'→Q x { s with heap:=h',toks:=s.toks+1 }):wpAny (model prog w) A (Builtin.SmallTypes.nextOf (.ref it)) Q E s:=by
 have hi:i<items.size:=by
   rcases Nat.lt_or_ge i items.size with h | h
   · exact h
   · rw [Array.getElem?_eq_none h] at hx;cases hx
 unfold Builtin.SmallTypes.nextOf
 refine wpAny_bind (wpAny_callSpecial?_slot (name:=Str.ofString "__next__") hit.typeIs cD
   (wpAny_call_entry cD hit.typeIs fe ?_ (fH _)))
 unfold Builtin.«reversed.__next__»
 refine wpAny_bind (wpAny_of_eq (a:=(Value.ref it,[])) rfl ?_)
 try dsimp only
 refine wpAny_bind (wpAny_field hit rfl (x:=.ref t) rfl ?_)
 refine wpAny_bind (wpAny_field hit rfl (x:=rawInt (i:Int)) rfl ?_)
 show wpAny _ _ (if (i:Int)<0 then _ else _) _ _ s
 rw [if_neg (by omega)]
 refine wpAny_bind (wpAny_specialOf (r:=some (.builtin "tuple.__getitem__")) ht.typeIs slot_tuple_getitem.lookup ?_)
 rw [if_neg (by simp)]
 refine wpAny_bind (wpAny_mkInt ?_)
 refine wpAny_bind (wpAny_attempt (getItem_tuple (j:=i) (x:=x) ht (by omega) (by omega) ?_ hx ?_))
 · unfold seqIndex?
   simp
   omega
 · refine wpAny_bind (wpAny_field (s:={ s with toks:=s.toks+1 }) hit rfl (x:=rawInt (i:Int)) rfl ?_)
   refine wpAny_bind (wpAny_setField_rec hit (by simp) fun h' y sb=>?_)
   exact wpAny_pure ⟨x,rfl,wpAny_pure (hQ h' y sb)⟩
structure lw (h:Heap) (z TI TO i1 i2 l t:Addr) (f0:Value) (j:Int):Prop where
 z:IsZip h z TI TO f0
 ti:IsPair h TI (.ref i1) (.ref i2)
 to:∃ a b,IsPair h TO a b
 j1:h.IsRevIter i1 l j
 j2:cZ h i2 t j
theorem ul {z TI TO i1 i2 t1 t2 : Addr} {k : Nat} {xs ys : Array Value} {x y : Value} {Q : Option Value → Shared → Prop} (D : ZipApart z TI TO i1 i2 t1 t2) (Z : lw s.heap z TI TO i1 i2 t1 t2 .none (k : Int))
  (ht1 : s.heap.IsList t1 xs) (ht2 : IsTup s.heap t2 ys) (hz2 : (ys.size : Int) < 2 ^ 63) (hx : xs[k]? = some x) (hy : ys[k]? = some y)
  (hQ : ∀ h', lw h' z TI TO i1 i2 t1 t2 (rawInt s.heap.objs.size) ((k : Int) - 1) → IsPair h' s.heap.objs.size x y →
   (∀ c o, c ≠ z → c ≠ TO → c ≠ i1 → c ≠ i2 → s.heap.get? c = some o → h'.get? c = some o) → Q (some (.ref s.heap.objs.size)) { s with heap := h', toks := s.toks + 1 }) :
  wpAny (model prog w) A (pyNext (.ref z)) Q E s := by
 obtain ⟨hz, hTI, ⟨a, b, hTO⟩, h1, h2⟩ := Z
 have hT : s.TypeIs (.ref z) "zip" := ⟨_, hz, rfl⟩
 unfold pyNext
 refine wpAny_bind (wpAny_attempt (wpAny_callSpecial?_slot (name := Str.ofString "__next__") hT F.slot_zip_next (wpAny_call_entry F.slot_zip_next hT F.entry_zip_next ?_ (F.args_zip_next_1 _))))
 show wpAny _ _ (field (.ref z) 2 >>= _) _ _ _
 refine wpAny_bind (wpAny_field hz rfl (x := .bool false) rfl ?_)
 show wpAny _ _ (field (.ref z) 3 >>= _) _ _ _
 refine wpAny_bind (wpAny_field hz rfl (x := .ref TI) rfl (wpAny_bind (wpAny_seqItems hTI rfl ?_)))
 show wpAny _ _ (Builtin.SmallTypes.ownedTupleIsFree (.ref z) >>= _) _ _ _
 refine wpAny_bind ?_
 unfold Builtin.SmallTypes.ownedTupleIsFree
 refine wpAny_bind (wpAny_field hz rfl (x := .none) rfl (wpAny_pure ?_))
 simp only [if_true]
 refine wpAny_bind (wpAny_rule (wpAny_bind (wpAny_field hz rfl (x := .ref TO) rfl (wpAny_bind (wpAny_setField_rec hz (by simp) fun ha hza hsa => wpAny_bind ?_)))))
 replace hza : IsZip ha z TI TO .ellipsis := hza
 simp only [List.zipIdx_cons, List.zipIdx_nil, List.forIn_cons, List.forIn_nil]
 refine wpAny_bind (wpAny_bind (wpAny_onRaise ?_))
 show wpAny _ _ (Builtin.SmallTypes.nextOf (.ref i1) >>= _) _ _ _
 refine wpAny_bind (vK (h1.at fun o e => hsa.extBut _ _ D.i1z e) (ht1.at fun o e => hsa.extBut _ _ D.l1z e) hx fun hb h1b hsb => wpAny_pure ?_)
 have hTOb : IsPair hb TO a b := hsb.extBut _ _ D.TOi1 (hsa.extBut _ _ D.TOz hTO)
 refine wpAny_bind (wpAny_seqItems hTOb rfl (wpAny_bind (wpAny_updateSeq_pair hTOb fun hc hTOc hsc => ?_)))
 replace hTOc : IsPair hc TO x b := hTOc
 refine wpAny_bind (wpAny_letGo (wpAny_pure ?_))
 refine wpAny_bind (wpAny_bind (wpAny_onRaise ?_))
 show wpAny _ _ (Builtin.SmallTypes.nextOf (.ref i2) >>= _) _ _ _
 have h2c : cZ hc i2 t2 (k : Int) := hsc.extBut _ _ D.TOi2.symm (hsb.extBut _ _ D.i12.symm (hsa.extBut _ _ D.i2z h2))
 have ht2c : IsTup hc t2 ys := let ⟨o, e, r⟩ := ht2; ⟨o, hsc.extBut _ _ D.l2TO (hsb.extBut _ _ D.l2i1 (hsa.extBut _ _ D.l2z e)), r⟩
 refine wpAny_bind (xi (s := { s with heap := hc }) h2c ht2c hz2 hy fun hd h2d hsd => wpAny_pure ?_)
 have hTOd : IsPair hd TO x b := hsd.extBut _ _ D.TOi2 hTOc
 refine wpAny_bind (wpAny_seqItems hTOd rfl (wpAny_bind (wpAny_updateSeq_pair hTOd fun he hTOe hse => ?_)))
 replace hTOe : IsPair he TO x y := hTOe
 refine wpAny_bind (wpAny_letGo (wpAny_pure (wpAny_pure ?_)))
 refine wpAny_bind (wpAny_seqItems hTOe rfl (wpAny_bind (wpAny_newTuple ?_)))
 have hsz : he.objs.size = s.heap.objs.size := by rw [hse.1, hsd.1, hsc.1, hsb.1, hsa.1]
 have hze : IsZip he z TI TO .ellipsis := hse.extBut _ _ D.TOz.symm (hsd.extBut _ _ D.i2z.symm (hsc.extBut _ _ D.TOz.symm (hsb.extBut _ _ D.i1z.symm hza)))
 have hke : ∀ c o, c ≠ z → c ≠ TO → c ≠ i1 → c ≠ i2 → s.heap.get? c = some o → he.get? c = some o := fun c o c1 c2 c3 c4 e =>
  hse.extBut _ _ c2 (hsd.extBut _ _ c4 (hsc.extBut _ _ c2 (hsb.extBut _ _ c3 (hsa.extBut _ _ c1 e))))
 have h1e : he.IsRevIter i1 t1 ((k : Int) - 1) := h1b.at fun o e => hse.extBut _ _ D.TOi1.symm (hsd.extBut _ _ D.i12 (hsc.extBut _ _ D.TOi1.symm e))
 have h2e : cZ he i2 t2 ((k : Int) - 1) := hse.extBut _ _ D.TOi2.symm h2d
 show wpAny _ _ (Builtin.SmallTypes.ownedTupleHandOut (.ref z) (.ref he.objs.size) >>= _) _ _ _
 refine wpAny_bind ?_
 unfold Builtin.SmallTypes.ownedTupleHandOut
 have hzf : IsZip (he.push { cls := .type "tuple", data := .seq #[x, y] }) z TI TO .ellipsis := Heap.get?_push_of_some _ hze
 refine wpAny_bind (wpAny_setField_rec hzf (by simp) fun hg hzg hsg => ?_)
 replace hzg : IsZip hg z TI TO (rawInt he.objs.size) := hzg
 refine wpAny_setField_rec hzg (by simp) fun hh hzh hsh => ?_
 replace hzh : IsZip hh z TI TO (rawInt he.objs.size) := hzh
 have up : ∀ c o, c ≠ z → he.get? c = some o → hh.get? c = some o := fun c o c1 e => hsh.extBut _ _ c1 (hsg.extBut _ _ c1 (Heap.get?_push_of_some _ e))
 have hTh : IsPair hh he.objs.size x y := hsh.extBut _ _ (Nat.ne_of_gt (Heap.lt_size hze)) (hsg.extBut _ _ (Nat.ne_of_gt (Heap.lt_size hze)) (Heap.get?_push_size _ rfl))
 rw [hsz] at hzh hTh
 have fin := hQ hh ⟨hzh, up _ _ D.TIz (hke _ _ D.TIz D.TITO D.TIi1 D.TIi2 hTI), ⟨x, y, up _ _ D.TOz hTOe⟩, h1e.at fun o e => up _ o D.i1z e, up _ _ D.i2z h2e⟩ hTh fun c o c1 c2 c3 c4 e => up c o c1 (hke c o c1 c2 c3 c4 e)
 rw [← hsz] at fin
 exact wpAny_pure ⟨_, rfl, wpAny_pure fin⟩
theorem xb {z TI TO i1 i2 t1 t2:Addr} {Q:Option Value→Shared→Prop} (hh:A.handled=none) (D:ZipApart z TI TO i1 i2 t1 t2) (Z:lw s.heap z TI TO i1 i2 t1 t2 .none (-1))
  (hQ:∀ h',(∀ c o,c≠z→c≠TO→c≠i1→c≠i2→s.heap.get? c=some o→h'.get? c=some o)→Q none { s with heap:=h' }):wpAny (model prog w) A (pyNext (.ref z)) Q E s:=by
 obtain ⟨hz,hTI,⟨a,b,hTO⟩,h1,h2⟩:=Z
 have hT:s.TypeIs (.ref z) "zip" :=⟨_,hz,rfl⟩
 have fin:∀ h' e,(∀ c o,c≠z→c≠TO→c≠i1→c≠i2→s.heap.get? c=some o→h'.get? c=some o)→(∃ o,h'.get? e=some o∧o.cls=.type "StopIteration")→
   wpAny (model prog w) A (do if←isInstance (.ref e) (.type "StopIteration") then pure none else throw (.ref e)) Q E { s with heap:=h' }:=fun h' e hk ⟨o,ho,hc⟩=>
  wpAny_bind (wpAny_isInstance (T:= "StopIteration") (b:=true) ⟨o,ho,hc⟩ isSubtype_stop (wpAny_pure (hQ _ hk)))
 unfold pyNext
 refine wpAny_bind (wpAny_attempt (wpAny_callSpecial?_slot (name:=Str.ofString "__next__") hT F.slot_zip_next (wpAny_call_entry F.slot_zip_next hT F.entry_zip_next ?_ (F.args_zip_next_1 _))))
 show wpAny _ _ (field (.ref z) 2>>=_) _ _ _
 refine wpAny_bind (wpAny_field hz rfl (x:=.bool false) rfl ?_)
 show wpAny _ _ (field (.ref z) 3>>=_) _ _ _
 refine wpAny_bind (wpAny_field hz rfl (x:=.ref TI) rfl (wpAny_bind (wpAny_seqItems hTI rfl ?_)))
 show wpAny _ _ (Builtin.SmallTypes.ownedTupleIsFree (.ref z)>>=_) _ _ _
 refine wpAny_bind ?_
 unfold Builtin.SmallTypes.ownedTupleIsFree
 refine wpAny_bind (wpAny_field hz rfl (x:=.none) rfl (wpAny_pure ?_))
 simp only [if_true]
 refine wpAny_bind (wpAny_rule (wpAny_bind (wpAny_field hz rfl (x:=.ref TO) rfl (wpAny_bind (wpAny_setField_rec hz (by simp) fun ha hza hsa=>wpAny_bind ?_)))))
 replace hza:IsZip ha z TI TO .ellipsis:=hza
 simp only [List.zipIdx_cons,List.zipIdx_nil,List.forIn_cons,List.forIn_nil]
 refine wpAny_bind (wpAny_bind (wpAny_onRaise ?_))
 show wpAny _ _ (Builtin.SmallTypes.nextOf (.ref i1)>>=_) _ _ _
 refine wpAny_bind (pI hh (h1.at fun o e=>hsa.extBut _ _ D.i1z e) fun hb e hsb he=>?_)
 obtain ⟨oe,hoe,hce⟩:=he
 have hzb:IsZip hb z TI TO .ellipsis:=hsb _ _ D.i1z.symm hza
 have hez:e≠z:=fun x=>by subst x;rw [hzb] at hoe;cases hoe;simp at hce
 exact wpAny_setField_rec hzb (by simp) fun hc _ hsc=>fin hc e (fun c o c1 _ c3 _ x=>hsc.extBut _ _ c1 (hsb _ _ c3 (hsa.extBut _ _ c1 x))) ⟨oe,hsc.extBut _ _ hez hoe,hce⟩
end
abbrev rh1 (h:Heap) (i1 i2:Addr):Heap:=h.push { cls:=.type "tuple",data:=.seq #[.ref i1,.ref i2] }
abbrev rh2 (h:Heap) (i1 i2:Addr):Heap:=(rh1 h i1 i2).push { cls:=.type "tuple",data:=.seq #[.none,.none] }
abbrev rh3 (h:Heap) (i1 i2:Addr):Heap:=(rh2 h i1 i2).push { cls:=.type "zip",data:=.fields #[.none,.bool false,.bool false,.ref h.objs.size,.ref (rh1 h i1 i2).objs.size] }
theorem wA (i1 i2 t1 t2:Addr) (j1 j2:Int):
  Meets (Builtin.«zip.__new__» ⟨[.type "zip",.ref i1,.ref i2],[]⟩) (fun _ R s=>s.heap.IsRevIter i1 t1 j1∧cZ s.heap i2 t2 j2∧R (.ok (.ret (.ref (rh2 s.heap i1 i2).objs.size))) { s with heap:=rh3 s.heap i1 i2 }):=
 .of_wp fun prog w A R s h=>by
  obtain ⟨hp,g,d,tk,os⟩:=s;obtain ⟨hl1,hl2,h⟩:=h
  have hsub:=sub_zip
  have hL1:Heap.IsRevIter (Shared.heap ⟨hp,g,d,tk,os⟩) i1 t1 j1:=hl1
  have hL2:cZ (Shared.heap ⟨hp,g,d,tk,os⟩) i2 t2 j2:=hl2
  wp_walk using wpAny_pyIter_revIter hL1,kR hL2
  exact ⟨_,rfl,h⟩
section
variable {prog:Program} {w:World} {A:Around} {E:Value→Shared→Prop} {s:Shared}
theorem uu {i1 i2 t1 t2:Addr} {j:Int} {Q:Value→Shared→Prop} (hl1:s.heap.IsRevIter i1 t1 j) (hl2:cZ s.heap i2 t2 j)
  (h:∀ h',lw h' (s.heap.objs.size+2) s.heap.objs.size (s.heap.objs.size+1) i1 i2 t1 t2 .none j→(∀ c o,s.heap.get? c=some o→h'.get? c=some o)→Q (.ref (s.heap.objs.size+2)) { s with heap:=h' }):
  wpAny (model prog w) A (call (.type "zip") [.ref i1,.ref i2]) Q E s:=by
 refine callType_new F.called_zip (by decide) (F.typeCall_zip_2 _ _) (F.newCall_zip_2 _ _) (fun obj=>F.args_object_init_3 obj _ _) F.entry_zip_new (wA i1 i2 t1 t2 j j) ⟨hl1,hl2,?_⟩
 have z1:(rh1 s.heap i1 i2).objs.size=s.heap.objs.size+1:=Heap.size_push ..
 have z2:(rh2 s.heap i1 i2).objs.size=s.heap.objs.size+2:=by rw [Heap.size_push,z1]
 have g3:(rh3 s.heap i1 i2).get? (rh2 s.heap i1 i2).objs.size=some _:=Heap.get?_push_size _ rfl
 have g2:(rh3 s.heap i1 i2).get? (rh1 s.heap i1 i2).objs.size=some _:=Heap.get?_push_of_some _ (Heap.get?_push_size _ rfl)
 have g1:(rh3 s.heap i1 i2).get? s.heap.objs.size=some _:=Heap.get?_push_of_some _ (Heap.get?_push_of_some _ (Heap.get?_push_size _ rfl))
 have up:∀ c o,s.heap.get? c=some o→(rh3 s.heap i1 i2).get? c=some o:=fun c o x=>Heap.get?_push_of_some _ (Heap.get?_push_of_some _ (Heap.get?_push_of_some _ x))
 show _∧_
 rw [z1,z2] at g3
 rw [z1] at g2
 rw [z2]
 exact ⟨⟨_,g3,rfl⟩,h _ ⟨g3,g1,⟨_,_,g2⟩,hl1.at fun o e=>up _ o e,up _ _ hl2⟩ up⟩
end
end HT
namespace L2
open PySem PySem.Spec PyProof.Rows
def mj (K:W.Frag) (a b:Addr) (n:Nat):It where
 go:=fun i H=>i<n∧∃ xs ys,SqL K H a xs∧SqT K H b ys∧xs.length=n∧ys.length=n
 yld:=fun i H v H'=>∃ p,v=.ref p∧H p=none∧∀ xs ys,SqL K H a xs→SqT K H b ys→∃ x y,xs[n - 1 - i]?=some x∧ys[n - 1 - i]?=some y∧H'=upd H p (.tup [x,y])
 stop:=fun i _=>n≤i
theorem ub {P:Program} {w:World} {K:W.Frag} {elts:List Expr} {ek:Nat} {ep:Pos} (a b z TI TO i1 i2:Addr) (n:Nat) (D:ZipApart z TI TO i1 i2 a b):
  iO P w K (.Tuple elts ek ep) (mj K a b n) [z,TI,TO,i1,i2] z (fun i h=>i≤n∧HT.lw h z TI TO i1 i2 a b .none ((n:Int) - 1 - i)) where
 mem:=by simp
 obj:=fun i h st c hc=>by
  obtain ⟨_,hz,hTI,⟨x,y,hTO⟩,⟨o1,e1,c1,d1⟩,e2⟩:=st
  simp only [List.mem_cons,List.not_mem_nil,or_false] at hc
  rcases hc with rfl | rfl | rfl | rfl | rfl
  · exact ⟨_,hz,fun v q=>by cases q⟩
  · exact ⟨_,hTI,fun v q=>by cases q⟩
  · exact ⟨_,hTO,fun v q=>by cases q⟩
  · exact ⟨o1,e1,fun v q=>by rw [d1] at q;cases q⟩
  · exact ⟨_,e2,fun v q=>by cases q⟩
 keep:=fun i h h' st k=>by
  obtain ⟨hi,hz,hTI,⟨x,y,hTO⟩,h1,h2⟩:=st
  exact ⟨hi,k z (by simp) _ hz,k TI (by simp) _ hTI,⟨x,y,k TO (by simp) _ hTO⟩,h1.at fun o e=>k i1 (by simp) o e,k i2 (by simp) _ h2⟩
 item:=by
  intro X hP hw hK hc i pins s σ H E I hf st hg
  subst hP hw hK
  obtain ⟨hi,xs,ys,hx,hy,lx,ly⟩:=hg
  obtain ⟨its,r1,p1,_⟩:=I.list hx
  obtain ⟨its2,r2,p2,hz2⟩:=I.tuple hy
  have l2:=r2.length
  obtain ⟨x,ex⟩:∃ x,xs[n - 1 - i]?=some x:=⟨_,List.getElem?_eq_getElem (by omega)⟩
  obtain ⟨y,ey⟩:∃ y,ys[n - 1 - i]?=some y:=⟨_,List.getElem?_eq_getElem (by omega)⟩
  obtain ⟨u,gu,ru⟩:=r1.get ex
  obtain ⟨u2,gu2,ru2⟩:=r2.get ey
  have st2:=st.2
  rw [show (n:Int) - 1 - i=((n - 1 - i:Nat):Int) by omega] at st2
  obtain ⟨z1,z2,z3,z4,z5⟩:=id st2
  refine HT.ul (xs:=its.toArray) (ys:=its2.toArray) (x:=u) (y:=u2) D st2 p1.isList (show IsTup s.heap b its2.toArray from p2) (by rw [List.size_toArray];rw [sizeLine_eq] at hz2;omega) (by simpa using gu) (by simpa using gu2) fun h1 Z1 hT hk=>?_
  obtain ⟨y1,y2,y3,y4,y5⟩:=Z1
  refine ⟨_,rfl,wpAny_letOwnedTupleGo_zip (s:={ s with heap:=h1,toks:=s.toks+1 }) y1 fun h2 hz2 hs2=>?_⟩
  have Tn:∀ c∈[z,TI,TO,i1,i2],c≠s.heap.objs.size:=fun c hc e=>by
    obtain ⟨o,eo⟩:∃ o,s.heap.get? c=some o:=by
     simp only [List.mem_cons,List.not_mem_nil,or_false] at hc
     rcases hc with rfl | rfl | rfl | rfl | rfl
     · exact ⟨_,z1⟩
     · exact ⟨_,z2⟩
     · obtain ⟨_,_,q⟩:=z3;exact ⟨_,q⟩
     · obtain ⟨_,q,_⟩:=z4;exact ⟨_,q⟩
     · exact ⟨_,z5⟩
    have:=Heap.lt_size eo
    rw [e] at this;exact Nat.lt_irrefl _ this
  have k2:∀ c o,c∉[z,TI,TO,i1,i2]→s.heap.get? c=some o→h2.get? c=some o:=fun c o hc e=>by
    simp only [List.mem_cons,List.not_mem_nil,or_false,not_or] at hc
    exact hs2.extBut _ _ hc.1 (hk c o hc.1 hc.2.2.1 hc.2.2.2.1 hc.2.2.2.2 e)
  have I1:Inv X pins σ H { s with heap:=h2,toks:=s.toks+1 }:=I.turnedL k2 hf
  have hTz:s.heap.objs.size≠z:=fun e=>Tn z (by simp) e.symm
  have hT2:IsPair h2 s.heap.objs.size u u2:=hs2.extBut _ _ hTz hT
  have hfr:H s.heap.objs.size=none:=I.hok.fresh (Nat.le_refl _)
  have I2:Inv X pins σ (upd H s.heap.objs.size (.tup [x,y])) { s with heap:=h2,toks:=s.toks+1 }:=
    Inv.track2 I I1 (Nat.le_refl _) hfr ⟨by show 2≤sizeLine;decide,[u,u2],.cons ru (.cons ru2 .nil),⟨_,hT2,rfl,_,rfl⟩⟩
  refine ⟨.ref s.heap.objs.size,_,I2,rfl,⟨_,rfl,hfr,fun xs' ys' hx' hy'=>⟨x,y,by rw [I.list_inj hx' hx];exact ex,by rw [I.tuple_inj hy' hy];exact ey,rfl⟩⟩,⟨hi,?_⟩,fun c hc=>?_⟩
  · rw [show (n:Int) - 1 - ((i+1:Nat):Int)=((n - 1 - i:Nat):Int) - 1 by omega]
    exact ⟨hz2,hs2.extBut _ _ D.TIz y2,(let ⟨m,n,q⟩:=y3;⟨m,n,hs2.extBut _ _ D.TOz q⟩),y4.at fun o e=>hs2.extBut _ _ D.i1z e,hs2.extBut _ _ D.i2z y5⟩
  · rw [ao (Tn c hc)];exact (hf c hc).1
 done:=by
  intro X hP hw hK hc i pins s σ H E I hf st hg
  subst hP hw hK
  have hg:n≤i:=hg
  have hi:=st.1
  have st2:=st.2
  rw [show (n:Int) - 1 - i= -1 by omega] at st2
  refine HT.xb (I.ok.hd hc) D st2 fun h1 hk=>⟨rfl,I.turnedL (t':=s.toks) (fun c o hc e=>?_) hf⟩
  simp only [List.mem_cons,List.not_mem_nil,or_false,not_or] at hc
  exact hk c o hc.1 hc.2.2.1 hc.2.2.2.1 hc.2.2.2.2 e
 self:=fun _ _ _ _ _ st h=>wpAny_pyIter_zip st.2.z h
theorem tU {n k c d:Nat} (h1:c<k) (h2:k<n) (h3:d<n) (h4:d≠k):ZipApart (n+1+2) (n+1) (n+1+1) k n c d:=by
 constructor <;> (intro e;simp only [Addr] at *;omega)
section
variable {X:Cx} {a b:Expr} {ta tb:TA} {p p1 p2 pos pos1 pos2 ep:Pos} {elts:List Expr} {ek:Nat}
def yK (K:W.Frag) (ta tb:TA):TI:=fun σ H R=>ta σ H fun vs H1=>∃ c xs,vs=[.ref c]∧SqL K H1 c xs∧tb σ H1 fun ws H2=>∃ d ys zs,ws=[.ref d]∧SqL K H2 c zs∧SqT K H2 d ys∧zs.length=xs.length∧ys.length=xs.length∧R (mj K c d xs.length) H2
theorem AK (hm:X.mg "zip" =none) (hm2:X.mg "reversed" =none) (ha:QA X [a] ta) (hb:QA X [b] tb) (hg:Gl X "zip" :=by rfl) (hg2:Gl X "reversed" :=by rfl) (hs:aX [a,b]=true:=by rfl):
   QI X (.Tuple elts ek ep) (.Call (.Name "zip" p) [.Call (.Name "reversed" p1) [a] [] pos1,.Call (.Name "reversed" p2) [b] [] pos2] [] pos) (yK X.K ta tb):=⟨fun pins s σ H R I h=>by
 have h':(bz a&&(bz b&&aX []))=true:=hs
 have ha':=(Bool.and_eq_true_iff.mp h').1
 have hb':=(Bool.and_eq_true_iff.mp (Bool.and_eq_true_iff.mp h').2).1
 refine wpAny_Call_Name_kw (dG I hg hm uC ?_ (by decide) (by decide))
 refine PyProof.Rows.callWith_type1 ?_ rfl rfl
 show wpAny _ _ (spliced ((false,eval (.Call (.Name "reversed" p1) [a] [] pos1) X.env)::backTo pos (starEach [.Call (.Name "reversed" p2) [b] [] pos2] X.env))) _ _ s
 refine Calls.spliced_cons ?_
 refine wpAny_Call_Name_kw (dG I hg2 hm2 gI ?_ (by decide) (by decide))
 refine PyProof.Rows.callWith_type1 (thn (ha.out pos1 pins s σ H _ I h) fun us s1 ⟨vs,H1,I1,r1,q1⟩=>?_)
   (aP ha' [] X.env) rfl
 obtain ⟨c,xs,rfl,hx,q1⟩:=q1
 obtain ⟨u,rfl,ru⟩:=dZ r1
 cases ru
 obtain ⟨its,rv,pl,_⟩:=I1.list hx
 have hl:=rv.length
 have ltc:c<s1.heap.objs.size:=by obtain ⟨o,e,_⟩:=pl.isList;exact Heap.lt_size e
 refine call_reversed_list pl.isList ?_
 have I1b:Inv X pins σ H1 { s1 with heap:=s1.heap.push (revObj c ((its.toArray.size:Int) - 1)),toks:=s1.toks }:=I1.kept (t':=s1.toks) fun b o e=>Heap.get?_push_of_some _ e
 have fp1:∀ b∈[s1.heap.objs.size],gc X pins H1 b:=fun b hb=>by
   have e:b=s1.heap.objs.size:=by simpa using hb
   subst e
   exact I1.fpOk (Nat.le_refl _) (I1.hok.fresh (Nat.le_refl _))
 have g1:(s1.heap.push (revObj c ((its.toArray.size:Int) - 1))).get? s1.heap.objs.size=some (revObj c ((its.toArray.size:Int) - 1)):=Heap.get?_push_size _ rfl
 have I1c:=I1b.pinned fp1 fun b hb=>by
   have e:b=s1.heap.objs.size:=by simpa using hb
   subst e
   exact ⟨_,g1,fun v q=>by cases q⟩
 refine Calls.spliced_cons ?_
 refine wpAny_Call_Name_kw (dG I1c hg2 hm2 gI ?_ (by decide) (by decide))
 refine PyProof.Rows.callWith_type1 (thn (hb.out pos2 _ _ σ H1 _ I1c q1) fun us s2 ⟨vs,H2,I2,r2,q2⟩=>?_)
   (aP hb' [] X.env) rfl
 obtain ⟨d,ys,zs,rfl,hz,hy,lz,ly,q⟩:=q2
 obtain ⟨u,rfl,ru⟩:=dZ r2
 cases ru
 obtain ⟨its2,rv2,pt,hz2⟩:=I2.tuple hy
 have hl2:=rv2.length
 have ltd:d<s2.heap.objs.size:=by obtain ⟨o,e,_⟩:=show IsTup s2.heap d its2.toArray from pt;exact Heap.lt_size e
 refine HT.eY (show IsTup s2.heap d its2.toArray from pt) (by rw [List.size_toArray];rw [sizeLine_eq] at hz2;omega) ?_
 have g2:=(I2.pin (s1.heap.objs.size,revObj c ((its.toArray.size:Int) - 1)) (List.mem_append_right _ (List.mem_append_right _ (eQ (List.mem_singleton.mpr rfl) g1))))
 have fpq:=g2.2.1
 have lt1:=Heap.lt_size g2.1
 refine Calls.spliced_nil ?_
 have e1:(its.toArray.size:Int) - 1=(xs.length:Int) - 1 - ((0:Nat):Int):=by rw [List.size_toArray];omega
 have e2:(its2.toArray.size:Int) - 1=(xs.length:Int) - 1 - ((0:Nat):Int):=by rw [List.size_toArray];omega
 have st1:(s2.heap.push (HT.iw d ((its2.toArray.size:Int) - 1))).IsRevIter s1.heap.objs.size c ((xs.length:Int) - 1 - ((0:Nat):Int)):=
   ⟨_,Heap.get?_push_of_some _ g2.1,rfl,by rw [← e1];rfl⟩
 have st2:HT.cZ (s2.heap.push (HT.iw d ((its2.toArray.size:Int) - 1))) s2.heap.objs.size d ((xs.length:Int) - 1 - ((0:Nat):Int)):=by
   show (s2.heap.push _).get? _=_
   rw [← e2]
   exact Heap.get?_push_size _ rfl
 refine HT.uu (s:={ s2 with heap:=s2.heap.push (HT.iw d ((its2.toArray.size:Int) - 1)),toks:=s2.toks+1+1 }) st1 st2 fun h' Z hk=>?_
 refine wpAny_pyIter_zip Z.z ?_
 have sz:(s2.heap.push (HT.iw d ((its2.toArray.size:Int) - 1))).objs.size=s2.heap.objs.size+1:=Heap.size_push ..
 have I3:Inv X pins σ H2 { s2 with heap:=h',toks:=s2.toks+1+1 }:=I2.unpinned.kept (t':=s2.toks+1+1) fun b o e=>hk b o (Heap.get?_push_of_some _ e)
 refine ⟨_,_,_,mj X.K c d xs.length,H2,rfl,I3,ub c d _ _ _ _ _ xs.length ?_,⟨Nat.zero_le _,Z⟩,fun b hb=>?_,q⟩
 · have l3:s1.heap.objs.size+1≤s2.heap.objs.size:=lt1
   show ZipApart ((s2.heap.push _).objs.size+2) (s2.heap.push _).objs.size ((s2.heap.push _).objs.size+1) _ _ _ _
   rw [sz]
   refine tU ltc lt1 ltd fun e=>?_
   obtain ⟨o,eo,co,_⟩:=show IsTup s2.heap d its2.toArray from pt
   rw [e,g2.1] at eo;cases eo;exact absurd (Value.type.inj co) (by decide)
 · simp only [List.mem_cons,List.not_mem_nil,or_false] at hb
   have new:s2.heap.objs.size≤b→gc X pins H2 b:=fun hl=>I2.unpinned.fpOk hl (I2.hok.fresh hl)
   rcases hb with rfl | rfl | rfl | rfl | rfl
   · exact new (by show s2.heap.objs.size≤(s2.heap.push _).objs.size+2;rw [sz];omega)
   · exact new (by show s2.heap.objs.size≤(s2.heap.push _).objs.size;rw [sz];omega)
   · exact new (by show s2.heap.objs.size≤(s2.heap.push _).objs.size+1;rw [sz];omega)
   · obtain ⟨_,f1,f2,f3,f4,f5⟩:=fp1 _ (List.mem_singleton.mpr rfl)
     exact ⟨fpq,f1,f2,f3,f4,f5⟩
   · exact new (Nat.le_refl _)⟩
end
end L2
namespace Rs
open PySem PySem.Spec PyProof.Rows L2
abbrev gOp:=List Key→Option Key
def eV (s:Stmt) (j:Nat):Stmt:=match s with
 | .ClassDef _ _ _ b _ _ _ _ _ _ _=>b.getD j (.Pass ⟨0,0,0,0⟩)
 | _=> .Pass ⟨0,0,0,0⟩
def top (i:Nat):Stmt:=PySem.Challenge.pw_rootstamp_k46_refusals_of_places.main.body.getD i (.Pass ⟨0,0,0,0⟩)
abbrev xt:Stmt:=top 11
abbrev xw:Stmt:=top 12
abbrev vC:Stmt:=top 13
abbrev xE:Stmt:=top 15
abbrev xu:Stmt:=top 14
abbrev s_2:Stmt:=eV (top 33) 1
abbrev kP:Stmt:=top 34
abbrev s_1:Stmt:=eV (top 33) 0
abbrev kz:Stmt:=top 35
abbrev kQ:Stmt:=top 41
abbrev kE:Stmt:=top 42
abbrev ye:Stmt:=top 43
abbrev wI:Stmt:=top 37
abbrev wu:Stmt:=top 44
abbrev xI:Stmt:=top 45
abbrev xJ:Stmt:=top 39
abbrev vJ:Stmt:=top 40
abbrev vI:Stmt:=top 46
abbrev wL:Stmt:=top 50
abbrev vN:Stmt:=top 49
abbrev yi:Stmt:=top 47
abbrev xp:Stmt:=top 51
abbrev xM:Stmt:=top 55
abbrev wO:Stmt:=top 52
abbrev wG:Stmt:=top 53
abbrev vL:Stmt:=top 19
abbrev xF:Stmt:=top 20
abbrev xk:Stmt:=top 17
abbrev xY:Stmt:=top 18
abbrev vO:Stmt:=top 21
abbrev wa:Stmt:=top 28
abbrev xG:Stmt:=top 27
abbrev lZ:Stmt:=top 29
abbrev mC:Stmt:=top 30
abbrev xA:Stmt:=top 23
abbrev mf:Stmt:=top 24
abbrev s_0:Stmt:=eV (top 8) 0
abbrev mw:Stmt:=top 31
abbrev xQ:Stmt:=top 54
abbrev xC:Stmt:=top 56
abbrev vG:Stmt:=top 48
abbrev vP:Stmt:=top 57
abbrev s_3:Stmt:=eV (top 25) 0
abbrev s_4:Stmt:=eV (top 25) 1
abbrev xa:Stmt:=top 58
abbrev s_8:Stmt:=eV (top 25) 2
abbrev s_6:Stmt:=eV (top 25) 3
abbrev s_5:Stmt:=eV (top 25) 5
abbrev wg:Stmt:=eV (top 25) 11
abbrev s_9:Stmt:=eV (top 25) 10
abbrev s_7:Stmt:=eV (top 25) 7
abbrev xB:Stmt:=top 59
abbrev wJ:Stmt:=top 38
abbrev wR:Stmt:=top 60
abbrev wK:Stmt:=top 61
abbrev yg:Stmt:=top 62
def sAt (i:Nat) (l:List Stmt):Stmt:=l.getD i (.Pass ⟨0,0,0,0⟩)
def As:Stmt→Expr | .Return (some e) _=>e | .Assign _ e _=>e | .Expr e _=>e | _=> .Constant .none 0 ⟨0,0,0,0⟩
def jR:Expr→Expr | .Lambda _ b _ _=>b | e=>e
def pM:Expr→Scope | .Lambda _ _ sc _=>sc | _=>{ kind:=.function,names:=[],isGenerator:=false,isCoroutine:=false }
abbrev xr:Expr:=(As (sAt 0 (aJ kP)))
def fA:cT:=⟨(("writing" :Str)++ ".<locals>.")++ "<lambda>",.expr (jR xr),pM xr,["term"],[]⟩
abbrev xH:Expr:=(As (sAt 1 (aJ kz)))
def fM:cT:=⟨(("counting" :Str)++ ".<locals>.")++ "<lambda>",.expr (jR xH),pM xH,["term"],["numbers"]⟩
abbrev xf:Stmt:=(sAt 1 (aJ kQ))
def fN:cT:=⟨(("_law_sure" :Str)++ ".<locals>.")++ "_law_stamp",.stmts (aJ xf),al xf,["_law_term"],["_law_step", "_law_known"]⟩
abbrev xZ:Stmt:=(sAt 0 (aJ kE))
def fQ:cT:=⟨(("_law_weak" :Str)++ ".<locals>.")++ "_law_stamp",.stmts (aJ xZ),al xZ,["_law_term"],["_law_many"]⟩
set_option genInjectivity false in
set_option genSizeOf false in
abbrev Rd (sp:Sp) (t:TS) (N:List Str):Prop:=∀ (vs:List V) (H:Hp) (Q:VK) (E:XK),sp vs H Q E→t { nx:=fun _ H'=>Q .non H',rt:=Q } (L2.start N vs) H
abbrev Ln (sp:Sp) (n:Nat):Prop:=∀ vs H Q E,sp vs H Q E→vs.length=n
structure Adr where
 a_49:Addr
 d_49:FuncData
 a_47:Addr
 d_47:FuncData
 a_48:Addr
 d_48:FuncData
 a_52:Addr
 d_52:FuncData
 a_59:Addr
 d_59:FuncData
 a_2:Addr
 d_2:FuncData
 a_57:Addr
 d_57:FuncData
 a_1:Addr
 d_1:FuncData
 a_40:Addr
 d_40:FuncData
 a_30:Addr
 d_30:FuncData
 a_34:Addr
 d_34:FuncData
 a_29:Addr
 d_29:FuncData
 a_13:Addr
 d_13:FuncData
 a_14:Addr
 d_14:FuncData
 a_33:Addr
 d_33:FuncData
 a_32:Addr
 d_32:FuncData
 a_28:Addr
 d_28:FuncData
 a_18:Addr
 d_18:FuncData
 a_20:Addr
 d_20:FuncData
 a_23:Addr
 d_23:FuncData
 a_24:Addr
 d_24:FuncData
 a_22:Addr
 d_22:FuncData
 a_15:Addr
 d_15:FuncData
 a_16:Addr
 d_16:FuncData
 a_17:Addr
 d_17:FuncData
 a_43:Addr
 d_43:FuncData
 a_45:Addr
 d_45:FuncData
 a_42:Addr
 d_42:FuncData
 a_56:Addr
 d_56:FuncData
 a_38:Addr
 d_38:FuncData
 a_46:Addr
 d_46:FuncData
 a_50:Addr
 d_50:FuncData
 a_55:Addr
 d_55:FuncData
 a_54:Addr
 d_54:FuncData
 a_44:Addr
 d_44:FuncData
 a_39:Addr
 d_39:FuncData
 a_0:Addr
 d_0:FuncData
 a_53:Addr
 d_53:FuncData
 a_12:Addr
 d_12:FuncData
 a_25:Addr
 d_25:FuncData
 a_21:Addr
 d_21:FuncData
 a_26:Addr
 d_26:FuncData
 a_3:Addr
 d_3:FuncData
 a_4:Addr
 d_4:FuncData
 a_19:Addr
 d_19:FuncData
 a_8:Addr
 d_8:FuncData
 a_6:Addr
 d_6:FuncData
 a_5:Addr
 d_5:FuncData
 a_10:Addr
 d_10:FuncData
 a_9:Addr
 d_9:FuncData
 a_7:Addr
 d_7:FuncData
 a_11:Addr
 d_11:FuncData
 a_36:Addr
 d_36:FuncData
 a_37:Addr
 d_37:FuncData
 a_27:Addr
 d_27:FuncData
 a_51:Addr
 d_51:FuncData
 k_57:Addr
 t_57:Addr
 k_40:Addr
 t_40:Addr
 k_30:Addr
 t_30:Addr
 k_34:Addr
 t_34:Addr
 c_NoStamp:Addr
 c_Broken:Addr
 c_NoPaper:Addr
 c_NoPlace:Addr
 c_NoHead:Addr
 c_StampError:Addr
 c_Numbers:Addr
 c_Row:Addr
set_option genInjectivity false in
set_option genSizeOf false in
structure Txt (K:W.Frag) (mg:Str→Option Value) (A:Adr):Prop where
 f_49:Fm K mg "is_whole" "is_whole" xt A.a_49 A.d_49 ["thing"]
 f_47:Fm K mg "is_stamp" "is_stamp" xw A.a_47 A.d_47 ["thing"]
 f_48:Fm K mg "is_term" "is_term" vC A.a_48 A.d_48 ["thing"]
 f_52:Fm K mg "part_form" "part_form" xE A.a_52 A.d_52 ["part"]
 f_59:Fm K mg "written" "written" xu A.a_59 A.d_59 ["term"]
 f_2:Fun K "number_of" "Numbers.number_of" s_2 A.a_2 A.d_2
 b_2:bA K A.d_2 ["self", "term"] []
 f_57:Fm K mg "writing" "writing" kP A.a_57 A.d_57 []
 f_1:Fun K "__init__" "Numbers.__init__" s_1 A.a_1 A.d_1
 b_1:bA K A.d_1 ["self"] []
 f_40:Fm K mg "counting" "counting" kz A.a_40 A.d_40 []
 f_30:Fm K mg "_law_sure" "_law_sure" kQ A.a_30 A.d_30 ["_law_step"]
 f_34:Fm K mg "_law_weak" "_law_weak" kE A.a_34 A.d_34 ["_law_many"]
 f_29:Fm K mg "_law_stamper" "_law_stamper" ye A.a_29 A.d_29 ["_law_cell"]
 f_13:Fm K mg "_law_cell_at" "_law_cell_at" wI A.a_13 A.d_13 ["_law_script", "_law_k"]
 f_14:Fm K mg "_law_count_by" "_law_count_by" wu A.a_14 A.d_14 ["_law_cell"]
 f_33:Fm K mg "_law_way" "_law_way" xI A.a_33 A.d_33 ["_law_place", "_law_many"]
 f_32:Fm K mg "_law_text_by" "_law_text_by" xJ A.a_32 A.d_32 ["_law_cell"]
 f_28:Fm K mg "_law_stamp_by" "_law_stamp_by" vJ A.a_28 A.d_28 ["_law_cell"]
 f_18:Fm K mg "_law_mark" "_law_mark" vI A.a_18 A.d_18 ["_law_stamper_here", "_law_count", "_law_turns", "_law_paper"]
 f_20:Fm K mg "_law_no_count" "_law_no_count" wL A.a_20 A.d_20 ["_law_cell", "_law_count"]
 f_23:Fm K mg "_law_no_place" "_law_no_place" vN A.a_23 A.d_23 ["_law_cell", "_law_count"]
 f_24:Fm K mg "_law_no_stamp" "_law_no_stamp" yi A.a_24 A.d_24 ["_law_cell"]
 f_22:Fm K mg "_law_no_paper" "_law_no_paper" xp A.a_22 A.d_22 ["_law_cell", "_law_paper"]
 f_15:Fm K mg "_law_first" "_law_first" xM A.a_15 A.d_15 ["_law_flags_here"]
 f_16:Fm K mg "_law_flags" "_law_flags" wO A.a_16 A.d_16 ["_law_caught_here"]
 f_17:Fm K mg "_law_is" "_law_is" wG A.a_17 A.d_17 ["_law_caught_here", "_law_number"]
 f_43:Fm K mg "is_count" "is_count" vL A.a_43 A.d_43 ["thing"]
 f_45:Fm K mg "is_place" "is_place" xF A.a_45 A.d_45 ["count", "place"]
 f_42:Fm K mg "half" "half" xk A.a_42 A.d_42 ["many"]
 f_56:Fm K mg "ways" "ways" xY A.a_56 A.d_56 ["place", "many"]
 f_38:Fm K mg "are_marks" "are_marks" vO A.a_38 A.d_38 ["many", "thing"]
 f_46:Fm K mg "is_place_paper" "is_place_paper" wa A.a_46 A.d_46 ["turns", "thing"]
 f_50:Fm K mg "joint" "joint" xG A.a_50 A.d_50 ["turn", "own", "aside"]
 f_55:Fm K mg "place_terms" "place_terms" lZ A.a_55 A.d_55 ["stamper", "count", "place", "paper"]
 f_54:Fm K mg "place_mark" "place_mark" mC A.a_54 A.d_54 ["stamper", "count", "place", "paper"]
 f_44:Fm K mg "is_head" "is_head" xA A.a_44 A.d_44 ["thing"]
 f_39:Fm K mg "check_head" "check_head" mf A.a_39 A.d_39 ["thing"]
 f_0:Fun K "__init__" "Broken.__init__" s_0 A.a_0 A.d_0
 b_0:bA K A.d_0 ["self", "due", "came"] []
 f_53:Fm K mg "place_answer" "place_answer" mw A.a_53 A.d_53 ["stamper", "head", "place", "paper"]
 f_12:Fm K mg "_law_caught" "_law_caught" xQ A.a_12 A.d_12 ["_law_what", "_law_stamper_here", "_law_top", "_law_place", "_law_paper"]
 f_25:Fm K mg "_law_other" "_law_other" xC A.a_25 A.d_25 ["_law_cell", "_law_mark_here"]
 f_21:Fm K mg "_law_no_head" "_law_no_head" vG A.a_21 A.d_21 ["_law_cell", "_law_count", "_law_mark_here"]
 f_26:Fm K mg "_law_refused" "_law_refused" vP A.a_26 A.d_26 ["_law_stamper_here", "_law_script", "_law_count", "_law_place", "_law_paper", "_law_mark_here"]
 f_3:Fun K "__init__" "Row.__init__" s_3 A.a_3 A.d_3
 b_3:bA K A.d_3 ["self", "stamper"] []
 f_4:Fun K "add" "Row.add" s_4 A.a_4 A.d_4
 b_4:bA K A.d_4 ["self", "entry"] []
 f_19:Fm K mg "_law_near" "_law_near" xa A.a_19 A.d_19 ["_law_cell", "_law_size"]
 f_8:Fun K "size" "Row.size" s_8 A.a_8 A.d_8
 b_8:bA K A.d_8 ["self"] []
 f_6:Fun K "has_place" "Row.has_place" s_6 A.a_6 A.d_6
 b_6:bA K A.d_6 ["self", "count", "place"] []
 f_5:Fun K "entry" "Row.entry" s_5 A.a_5 A.d_5
 b_5:bA K A.d_5 ["self", "place"] []
 f_10:Fun K "top_term" "Row.top_term" wg A.a_10 A.d_10
 b_10:bA K A.d_10 ["self", "first", "many"] []
 f_9:Fun K "top_of" "Row.top_of" s_9 A.a_9 A.d_9
 b_9:bA K A.d_9 ["self", "first", "many"] []
 f_7:Fun K "place_paper" "Row.place_paper" s_7 A.a_7 A.d_7
 b_7:bA K A.d_7 ["self", "count", "place"] []
 f_11:Fm K mg "_law_asked" "_law_asked" xB A.a_11 A.d_11 ["_law_what", "_law_row", "_law_one", "_law_other_here"]
 f_36:Fm K mg "_law_whole" "_law_whole" wJ A.a_36 A.d_36 ["_law_found"]
 f_37:Fm K mg "_law_within" "_law_within" wR A.a_37 A.d_37 ["_law_thing", "_law_many"]
 f_27:Fm K mg "_law_rows" "_law_rows" wK A.a_27 A.d_27 ["_law_stamper_here", "_law_script"]
 f_51:Fm K mg "law" "law" yg A.a_51 A.d_51 ["_law_script"]
 z_ValueError:mg "ValueError" =none
 z_all:mg "all" =none
 z_bool:mg "bool" =none
 z_int:mg "int" =none
 z_isinstance:mg "isinstance" =none
 z_len:mg "len" =none
 z_list:mg "list" =none
 z_max:mg "max" =none
 z_min:mg "min" =none
 z_range:mg "range" =none
 z_reversed:mg "reversed" =none
 z_str:mg "str" =none
 z_tuple:mg "tuple" =none
 z_zip:mg "zip" =none
 c_MOST_PARTS:∃ t,mg "MOST_PARTS" =some (.int 8 t)
 kc_57:A.d_57.code=.ref A.k_57
 kc_40:A.d_40.code=.ref A.k_40
 kc_30:A.d_30.code=.ref A.k_30
 kc_34:A.d_34.code=.ref A.k_34
 mc_NoStamp:mg "NoStamp" =some (.ref A.c_NoStamp)
 eo_NoStamp:bR K A.c_NoStamp
 mc_Broken:mg "Broken" =some (.ref A.c_Broken)
 eo_Broken:bR K A.c_Broken
 mc_NoPaper:mg "NoPaper" =some (.ref A.c_NoPaper)
 eo_NoPaper:bR K A.c_NoPaper
 mc_NoPlace:mg "NoPlace" =some (.ref A.c_NoPlace)
 eo_NoPlace:bR K A.c_NoPlace
 mc_NoHead:mg "NoHead" =some (.ref A.c_NoHead)
 eo_NoHead:bR K A.c_NoHead
 mc_StampError:mg "StampError" =some (.ref A.c_StampError)
 eo_StampError:bR K A.c_StampError
 er_NoPaper:cN K A.c_NoPaper
 er_NoPlace:cN K A.c_NoPlace
 er_NoHead:cN K A.c_NoHead
 er_NoStamp:cN K A.c_NoStamp
 eg_NoPaper:cL K A.c_NoPaper
 eg_NoPlace:cL K A.c_NoPlace
 eg_NoHead:cL K A.c_NoHead
 eg_Broken:cL K A.c_Broken
 eg_NoStamp:cL K A.c_NoStamp
 ef_Broken_came:HT.gR K A.c_Broken "came"
 ef_Broken_due:HT.gR K A.c_Broken "due"
 em_Broken:yT K A.c_Broken A.a_0
 sb_NoPaper_StampError:dY K A.c_NoPaper A.c_StampError=some true
 sb_NoPlace_StampError:dY K A.c_NoPlace A.c_StampError=some true
 sb_NoHead_StampError:dY K A.c_NoHead A.c_StampError=some true
 sb_Broken_StampError:dY K A.c_Broken A.c_StampError=some true
 sb_NoStamp_StampError:dY K A.c_NoStamp A.c_StampError=some true
 ki_NoPaper_ValueError:W.kitOne K (.ref A.c_NoPaper) (.type "ValueError")=some true
 ki_NoPaper_NoStamp:W.kitOne K (.ref A.c_NoPaper) (.ref A.c_NoStamp)=some false
 ki_NoPaper_Broken:W.kitOne K (.ref A.c_NoPaper) (.ref A.c_Broken)=some false
 ki_NoPaper_NoPaper:W.kitOne K (.ref A.c_NoPaper) (.ref A.c_NoPaper)=some true
 ki_NoPaper_NoPlace:W.kitOne K (.ref A.c_NoPaper) (.ref A.c_NoPlace)=some false
 ki_NoPaper_NoHead:W.kitOne K (.ref A.c_NoPaper) (.ref A.c_NoHead)=some false
 ki_NoPlace_ValueError:W.kitOne K (.ref A.c_NoPlace) (.type "ValueError")=some true
 ki_NoPlace_NoStamp:W.kitOne K (.ref A.c_NoPlace) (.ref A.c_NoStamp)=some false
 ki_NoPlace_Broken:W.kitOne K (.ref A.c_NoPlace) (.ref A.c_Broken)=some false
 ki_NoPlace_NoPaper:W.kitOne K (.ref A.c_NoPlace) (.ref A.c_NoPaper)=some false
 ki_NoPlace_NoPlace:W.kitOne K (.ref A.c_NoPlace) (.ref A.c_NoPlace)=some true
 ki_NoPlace_NoHead:W.kitOne K (.ref A.c_NoPlace) (.ref A.c_NoHead)=some false
 ki_NoHead_ValueError:W.kitOne K (.ref A.c_NoHead) (.type "ValueError")=some true
 ki_NoHead_NoStamp:W.kitOne K (.ref A.c_NoHead) (.ref A.c_NoStamp)=some false
 ki_NoHead_Broken:W.kitOne K (.ref A.c_NoHead) (.ref A.c_Broken)=some false
 ki_NoHead_NoPaper:W.kitOne K (.ref A.c_NoHead) (.ref A.c_NoPaper)=some false
 ki_NoHead_NoPlace:W.kitOne K (.ref A.c_NoHead) (.ref A.c_NoPlace)=some false
 ki_NoHead_NoHead:W.kitOne K (.ref A.c_NoHead) (.ref A.c_NoHead)=some true
 ki_Broken_ValueError:W.kitOne K (.ref A.c_Broken) (.type "ValueError")=some true
 ki_Broken_NoStamp:W.kitOne K (.ref A.c_Broken) (.ref A.c_NoStamp)=some false
 ki_Broken_Broken:W.kitOne K (.ref A.c_Broken) (.ref A.c_Broken)=some true
 ki_Broken_NoPaper:W.kitOne K (.ref A.c_Broken) (.ref A.c_NoPaper)=some false
 ki_Broken_NoPlace:W.kitOne K (.ref A.c_Broken) (.ref A.c_NoPlace)=some false
 ki_Broken_NoHead:W.kitOne K (.ref A.c_Broken) (.ref A.c_NoHead)=some false
 ki_NoStamp_ValueError:W.kitOne K (.ref A.c_NoStamp) (.type "ValueError")=some true
 ki_NoStamp_NoStamp:W.kitOne K (.ref A.c_NoStamp) (.ref A.c_NoStamp)=some true
 ki_NoStamp_Broken:W.kitOne K (.ref A.c_NoStamp) (.ref A.c_Broken)=some false
 ki_NoStamp_NoPaper:W.kitOne K (.ref A.c_NoStamp) (.ref A.c_NoPaper)=some false
 ki_NoStamp_NoPlace:W.kitOne K (.ref A.c_NoStamp) (.ref A.c_NoPlace)=some false
 ki_NoStamp_NoHead:W.kitOne K (.ref A.c_NoStamp) (.ref A.c_NoHead)=some false
 mc_Numbers:mg "Numbers" =some (.ref A.c_Numbers)
 cl_Numbers:Cls K A.c_Numbers
 na_Numbers_given:du K A.c_Numbers "given"
 mc_Row:mg "Row" =some (.ref A.c_Row)
 cl_Row:Cls K A.c_Row
 na_Row_stamper:du K A.c_Row "stamper"
 na_Row_entries:du K A.c_Row "entries"
 na_Row_tops:du K A.c_Row "tops"
 me_Row_size:gf K A.c_Row "size" A.a_8
 me_Row_has_place:gf K A.c_Row "has_place" A.a_6
 me_Row_top_of:gf K A.c_Row "top_of" A.a_9
 me_Row_top_term:gf K A.c_Row "top_term" A.a_10
 me_Row_add:gf K A.c_Row "add" A.a_4
 me_Row_entry:gf K A.c_Row "entry" A.a_5
 me_Row_place_paper:gf K A.c_Row "place_paper" A.a_7
 me_Numbers_number_of:gf K A.c_Numbers "number_of" A.a_2
 mk_Numbers:Mk K A.c_Numbers A.a_1
 mk_Row:Mk K A.c_Row A.a_3
def yL (A:Adr) (H:Hp):Prop:=H A.t_57=some (.tbl #[])∧H A.t_40=some (.tbl #[])∧H A.t_30=some (.tbl #[])∧H A.t_34=some (.tbl #[])∧([A.t_57,A.t_40,A.t_30,A.t_34]:List Addr).Nodup
theorem FI:eB ["term"] ["term"] [] fA.scope:=⟨rfl,rfl,rfl,by decide +kernel,rfl,rfl,by decide +kernel,by decide +kernel,by decide +kernel,by decide +kernel,by decide +kernel⟩
theorem DV:eB ["term", "numbers"] ["term"] ["numbers"] fM.scope:=⟨rfl,rfl,rfl,by decide +kernel,rfl,rfl,by decide +kernel,by decide +kernel,by decide +kernel,by decide +kernel,by decide +kernel⟩
theorem Fx:eB ["_law_term", "_law_step", "_law_known"] ["_law_term"] ["_law_step", "_law_known"] fN.scope:=⟨rfl,rfl,rfl,by decide +kernel,rfl,rfl,by decide +kernel,by decide +kernel,by decide +kernel,by decide +kernel,by decide +kernel⟩
theorem li:eB ["_law_term", "_law_total", "_law_part", "_law_many"] ["_law_term"] ["_law_many"] fQ.scope:=⟨rfl,rfl,rfl,by decide +kernel,rfl,rfl,by decide +kernel,by decide +kernel,by decide +kernel,by decide +kernel,by decide +kernel⟩
theorem Gq:az ["thing"] ["thing"] (al xt):=scF
theorem Ga:az ["thing"] ["thing"] (al xw):=scF
theorem Gp:az ["thing"] ["thing"] (al vC):=scF
theorem yV:az ["part", "signs"] ["part"] (al xE):=scF
theorem FU:az ["term"] ["term"] (al xu):=scF
theorem Ig:az ["self", "term"] ["self", "term"] (al s_2):=scF
theorem FK:az [] [] (al kP):=scF
theorem Ic:az ["self"] ["self"] (al s_1):=scF
theorem yS:az ["numbers"] [] (al kz):=scF
theorem sQ:az ["_law_step", "_law_known", "_law_stamp"] ["_law_step"] (al kQ):=scF
theorem yq:az ["_law_many", "_law_stamp"] ["_law_many"] (al kE):=scF
theorem FY:az ["_law_cell"] ["_law_cell"] (al ye):=scF
theorem EQ:az ["_law_script", "_law_k"] ["_law_script", "_law_k"] (al wI):=scF
theorem Ei:az ["_law_cell"] ["_law_cell"] (al wu):=scF
theorem iJ:az ["_law_place", "_law_many", "_law_turns", "_law_cut"] ["_law_place", "_law_many"] (al xI):=scF
theorem sT:az ["_law_cell", "_law_some"] ["_law_cell"] (al xJ):=scF
theorem Eg:az ["_law_cell"] ["_law_cell"] (al vJ):=scF
theorem lV:az ["_law_stamper_here", "_law_count", "_law_turns", "_law_paper", "_law_below", "_law_turn", "_law_mark_here"] ["_law_stamper_here", "_law_count", "_law_turns", "_law_paper"] (al vI):=scF
theorem yZ:az ["_law_cell", "_law_count", "_law_some"] ["_law_cell", "_law_count"] (al wL):=scF
theorem tH:az ["_law_cell", "_law_count", "_law_number", "_law_some"] ["_law_cell", "_law_count"] (al vN):=scF
theorem sr:az ["_law_cell", "_law_number", "_law_some"] ["_law_cell"] (al yi):=scF
theorem jX:az ["_law_cell", "_law_paper", "_law_entry", "_law_marks", "_law_spot", "_law_thing", "_law_some"] ["_law_cell", "_law_paper"] (al xp):=scF
theorem yO:az ["_law_flags_here", "_law_k"] ["_law_flags_here"] (al xM):=scF
theorem yF:az ["_law_caught_here", "_law_kinds"] ["_law_caught_here"] (al wO):=scF
theorem Fl:az ["_law_caught_here", "_law_number"] ["_law_caught_here", "_law_number"] (al wG):=scF
theorem EO:az ["thing"] ["thing"] (al vL):=scF
theorem DY:az ["count", "place"] ["count", "place"] (al xF):=scF
theorem EN:az ["many"] ["many"] (al xk):=scF
theorem gz:az ["place", "many", "turns", "first", "rest", "ahead"] ["place", "many"] (al xY):=scF
theorem Fc:az ["many", "thing"] ["many", "thing"] (al vO):=scF
theorem FG:az ["turns", "thing"] ["turns", "thing"] (al wa):=scF
theorem Eb:az ["turn", "own", "aside"] ["turn", "own", "aside"] (al xG):=scF
theorem oX:az ["stamper", "count", "place", "paper", "turns", "terms", "step"] ["stamper", "count", "place", "paper"] (al lZ):=scF
theorem Gf:az ["stamper", "count", "place", "paper"] ["stamper", "count", "place", "paper"] (al mC):=scF
theorem FL:az ["thing"] ["thing"] (al xA):=scF
theorem Gy:az ["thing"] ["thing"] (al mf):=scF
theorem HP:az ["self", "due", "came"] ["self", "due", "came"] (al s_0):=scF
theorem yB:az ["stamper", "head", "place", "paper", "came"] ["stamper", "head", "place", "paper"] (al mw):=scF
theorem oA:az ["_law_what", "_law_stamper_here", "_law_top", "_law_place", "_law_paper", "_law_caught_here", "e"] ["_law_what", "_law_stamper_here", "_law_top", "_law_place", "_law_paper"] (al xQ):=scF
theorem FZ:az ["_law_cell", "_law_mark_here"] ["_law_cell", "_law_mark_here"] (al xC):=scF
theorem sU:az ["_law_cell", "_law_count", "_law_mark_here", "_law_some"] ["_law_cell", "_law_count", "_law_mark_here"] (al vG):=scF
theorem dc:az ["_law_stamper_here", "_law_script", "_law_count", "_law_place", "_law_paper", "_law_mark_here", "_law_wrong", "_law_more", "_law_top", "_law_due", "_law_what", "_law_head", "_law_other_here", "_law_thing", "_law_good", "_law_found"] ["_law_stamper_here", "_law_script", "_law_count", "_law_place", "_law_paper", "_law_mark_here"] (al vP):=scF
theorem Hv:az ["self", "stamper"] ["self", "stamper"] (al s_3):=scF
theorem HW:az ["self", "entry"] ["self", "entry"] (al s_4):=scF
theorem EK:az ["_law_cell", "_law_size"] ["_law_cell", "_law_size"] (al xa):=scF
theorem ID:az ["self"] ["self"] (al s_8):=scF
theorem HL:az ["self", "count", "place"] ["self", "count", "place"] (al s_6):=scF
theorem Hq:az ["self", "place"] ["self", "place"] (al s_5):=scF
theorem yr:az ["self", "first", "many", "ahead"] ["self", "first", "many"] (al wg):=scF
theorem Bh:az ["self", "first", "many", "part"] ["self", "first", "many"] (al s_9):=scF
theorem iC:az ["self", "count", "place", "marks", "first", "many", "turn", "ahead"] ["self", "count", "place"] (al s_7):=scF
theorem oq:az ["_law_what", "_law_row", "_law_one", "_law_other_here", "_law_caught_here", "e"] ["_law_what", "_law_row", "_law_one", "_law_other_here"] (al xB):=scF
theorem DN:az ["_law_found"] ["_law_found"] (al wJ):=scF
theorem Gn:az ["_law_thing", "_law_many"] ["_law_thing", "_law_many"] (al wR):=scF
theorem dO:az ["_law_stamper_here", "_law_script", "_law_row", "_law_entries", "_law_k", "_law_cell", "_law_one", "_law_other_here", "_law_caught_here", "_law_due"] ["_law_stamper_here", "_law_script"] (al wK):=scF
theorem gn:az ["_law_script", "_law_stamper_here", "_law_count", "_law_place", "_law_turns", "_law_marks", "_law_paper", "_law_mark_here"] ["_law_script"] (al yg):=scF
inductive Dat where
 | non
 | bl (b:Bool)
 | int (i:Int)
 | str (z:Str)
 | lst (ds:List Dat)
 | tup (ds:List Dat)
 | dic
mutual
inductive aF (H:Hp):V→Dat→Prop
 | non:aF H .non .non
 | bl (b):aF H (.bl b) (.bl b)
 | int (i):aF H (.int i) (.int i)
 | str (z):aF H (.str z) (.str z)
 | lst {a xs ds}:H a=some (.lst xs)→DatWs H xs ds→aF H (.ref a) (.lst ds)
 | tup {a xs ds}:H a=some (.tup xs)→DatWs H xs ds→aF H (.ref a) (.tup ds)
 | dic {a}:(∃ kvs,H a=some (.dK kvs))→aF H (.ref a) .dic
inductive DatWs (H:Hp):List V→List Dat→Prop
 | nil:DatWs H [] []
 | cons {x xs d ds}:aF H x d→DatWs H xs ds→DatWs H (x::xs) (d::ds)
end
mutual
def Iu:Dat→PyData
 | .non=> .none
 | .bl b=> .bool b
 | .int i=> .int i
 | .str z=> .str z
 | .lst ds=> .list (toPys ds)
 | .tup ds=> .tuple (toPys ds)
 | .dic=> .none
def toPys:List Dat→List PyData
 | []=>[]
 | d::r=>Iu d::toPys r
end
def bY (z:Str):Bool:=z.cps.all (·<128)
mutual
def okD:Dat→Bool
 | .str z=>bY z&&decide (z.length≤100000)
 | .lst ds=>okDs ds
 | .tup ds=>okDs ds
 | .dic=>false
 | .non=>true
 | .bl _=>true
 | .int _=>true
def okDs:List Dat→Bool
 | []=>true
 | d::r=>okD d&&okDs r
end
def fo:Dat→Bool
 | .int _=>true
 | _=>false
def aK:Dat→Bool
 | .int i=>decide (0≤i∧i<10^60)
 | .str _=>true
 | _=>false
def iD (K:W.Frag) (A:Adr):Sp:=fun vs H Q _=>∃ v d,vs=[v]∧aF H v d∧Q (.bl (fo d)) H
def gw (K:W.Frag) (A:Adr):Sp:=fun vs H Q _=>∃ v d,vs=[v]∧aF H v d∧Q (.bl (aK d)) H
def bB:Key→Dat
 | .inl i=> .int i
 | .inr z=> .str z
def szK:Key→Nat
 | .inl _=>62
 | .inr z=>z.length+62
def okP:Key→Bool
 | .inl i=>decide (0≤i∧i<10^60)
 | .inr z=>bY z&&decide (z.length≤100000)
def Gi:Key→Bool
 | .inr _=>true
 | .inl _=>false
def okT (k:List Key):Bool:=decide (1≤k.length∧k.length≤8)&&(k.head?.map Gi).getD false&&k.all okP
def szT (k:List Key):Nat:=(k.map szK).sum
def tJ (k:List Key):Key→Prop
 | .inl i=>0≤i∧i<10^60
 | .inr z=>bY z=true∧z.length≤szT k
def eA:Key→Str
 | .inl i=>toString i++ ";"
 | .inr z=>toString (z.length:Int)++ ":" ++z
def fL:List Key→Str
 | []=>Str.empty
 | x::r=>eA x++fL r
def sm (H H':Hp):Prop:=∀ b o,H b=some o→(∀ ps,o≠ .tbl ps)→H' b=some o
def bu (kvs:List (List Key×Key)):List (List Key×V):=kvs.map fun p=>(p.1,kV p.2)
def cb (kvs:List (List Key×Key)) (k:List Key):Option Key:=(kvs.find? fun p=>decide (p.1=k)).map (·.2)
def gO:Key→Prop
 | .inl i=>0≤i∧i<10^60
 | .inr z=>bY z=true∧z.length≤62
def fG (kvs:List (List Key×Key)):Prop:=∀ p∈kvs,gO p.2
structure fO (A:Adr) (H:Hp) (x d:Addr) (kvs:List (List Key×V)):Prop where
 ob:∃ dx,H x=some (.ins A.c_Numbers dx [("given",.ref d)])
 di:H d=some (.dT kvs)
def lP (t:Int):Key→Int
 | .inr z=>2*t+z.length
 | .inl i=>2*t+i
def tL (m:Int) (k:List Key):Key:=.inl (k.foldl lP k.length%m)
def aO (b:Addr) (H H':Hp):Prop:=∀ x o,x≠b→H x=some o→H' x=some o
inductive Stp (A:Adr) (H:Hp) (f b:Addr) (g:gOp) (n:Nat):Prop
 | wri (hc:dq H f fA [] []) (hb:b=f) (hg:g=fun k=>some (.inr (fL k)))
 | cnt (q x:Addr) (kvs:List (List Key×Key)) (hc:dq H f fM [q] [.ref x]) (num:fO A H x b (bu kvs)) (hl:kvs.length≤n) (hs:fG kvs) (hg:g=cb kvs)
 | sur (q0 q1:Addr) (j:Int) (h0:0≤j) (h1:j<1000) (kvs:List (List Key×Key)) (hc:dq H f fN [q0,q1] [.int j,.ref b]) (hb:H b=some (.dT (bu kvs))) (hl:kvs.length≤n) (hs:fG kvs) (hg:g=cb kvs)
 | wea (q:Addr) (m:Int) (h1:1≤m) (h2:m≤9) (hc:dq H f fQ [q] [.int m]) (hb:b=f) (hg:g=fun k=>some (tL m k))
def Sub (g g':gOp):Prop:=∀ k v,g k=some v→g' k=some v
def Ext (g:gOp) (h:List Key→Key):Prop:=∀ k v,g k=some v→h k=v
abbrev PK (H:Hp):List Addr→List (List Key)→Prop:=Paired (fun (p:Addr) (k:List Key)=>H p=some (.tup (k.map kV))∧okT k=true)
def lG (K:W.Frag) (A:Adr):Sp:=fun vs H Q _=>∃ (p:Addr) (k:List Key),vs=[.ref p]∧H p=some (.tup (k.map kV))∧okT k=true∧∀ H',aq H H'→Q (.bl true) H'
def og (K:W.Frag) (A:Adr):Sp:=fun vs H Q _=>∃ x:Key,vs=[kV x]∧okP x=true∧Q (.str (eA x)) H
def lc (K:W.Frag) (A:Adr):Sp:=fun vs H Q _=>∃ (p:Addr) (k:List Key),vs=[.ref p]∧H p=some (.tup (k.map kV))∧okT k=true∧∀ H',aq H H'→Q (.str (fL k)) H'
def si (K:W.Frag) (A:Adr):Sp:=lc K A
def iP (kvs:List (List Key×V)) (kk:List Key) (d:V):V:=(bW kvs kk).getD d
def io (H:Hp) (b:Addr) (kvs:List (List Key×V)) (kk:List Key) (d:V):Hp:=if (bW kvs kk).isSome=true then H else upd H b (.dT (bT kvs kk d))
def sj (K:W.Frag) (A:Adr):Sp:=fun vs H Q _=>∃ x dx,vs=[.ref x]∧H x=some (.ins A.c_Numbers dx [])∧∀ d,H d=none→Q .non (upd (upd H d (.dT [])) x (.ins A.c_Numbers dx [("given",.ref d)]))
def tG (K:W.Frag) (A:Adr):Sp:=fun vs H Q _=>∃ (x d p:Addr) (kvs:List (List Key×V)) (k:List Key),vs=[.ref x,.ref p]∧fO A H x d kvs∧kvs.length≤50000∧H p=some (.tup (k.map kV))∧okT k=true∧∀ H',aq H H'→Q (iP kvs k (.int kvs.length)) (io H' d kvs k (.int kvs.length))
def sR (K:W.Frag) (A:Adr):Sp:=fun vs H Q _=>∃ (x d p:Addr) (kvs:List (List Key×V)) (k:List Key),vs=[.ref p,.ref x]∧fO A H x d kvs∧kvs.length≤50000∧H p=some (.tup (k.map kV))∧okT k=true∧∀ H',aq H H'→Q (iP kvs k (.int kvs.length)) (io H' d kvs k (.int kvs.length))
def bJ (P:Addr) (H H':Hp):Prop:=∀ b o,H b=some o→b≠P→H' b=some o
def sZ (K:W.Frag) (A:Adr):Sp:=fun vs H Q _=>∃ (p b:Addr) (j:Int) (k:List Key) (kvs:List (List Key×V)),vs=[.ref p,.int j,.ref b]∧0≤j∧j<1000∧H p=some (.tup (k.map kV))∧H b=some (.dT kvs)∧kvs.length≤50000∧Q (iP kvs k (.int (j*(kvs.length:Int)+5))) (io H b kvs k (.int (j*(kvs.length:Int)+5)))
def sI (K:W.Frag) (A:Adr):Sp:=fun vs H Q _=>∃ (p:Addr) (m:Int) (k:List Key),vs=[.ref p,.int m]∧1≤m∧m≤9∧H p=some (.tup (k.map kV))∧okT k=true∧Q (kV (tL m k)) H
def MkQ (A:Adr) (P:Addr) (H:Hp) (Q:VK):Prop:=∀ (f b:Addr) (g:gOp) (H':Hp),bJ P H H'→Stp A H' f b g 0→H b=none→Q (.ref f) H'
def oR (K:W.Frag) (A:Adr):Sp:=fun vs H Q _=>vs=[]∧H A.t_57=some (.tbl #[])∧MkQ A A.t_57 H Q
def oJ (K:W.Frag) (A:Adr):Sp:=fun vs H Q _=>vs=[]∧H A.t_40=some (.tbl #[])∧MkQ A A.t_40 H Q
def oz (K:W.Frag) (A:Adr):Sp:=fun vs H Q _=>∃ j:Int,vs=[.int j]∧0≤j∧j<1000∧H A.t_30=some (.tbl #[])∧MkQ A A.t_30 H Q
def oy (K:W.Frag) (A:Adr):Sp:=fun vs H Q _=>∃ m:Int,vs=[.int m]∧1≤m∧m≤9∧H A.t_34=some (.tbl #[])∧MkQ A A.t_34 H Q
def ou (K:W.Frag) (A:Adr):Sp:=fun vs H Q _=>∃ c:Int,vs=[.int c]∧yL A H∧∀ (f b:Addr) (g:gOp) (H':Hp),sm H H'→Stp A H' f b g 0→H b=none→Q (.ref f) H'
def enK (e:Key):Prop:=okP e=true∧szK e≤70
def aH (n:Nat):Nat:=2^Nat.log2 (n - 1)
def fY (h : List Key → Key) : Nat → List Key → List Key
  | 0, _ => [.inr "void"]
  | n + 1, es => match es with
    | [] => [.inr "void"]
    | [e] => [.inr "entry", e]
    | es => [.inr "joint", h (fY h n (es.take (aH es.length))), h (fY h n (es.drop (aH es.length)))]
def gD (h:List Key→Key) (es:List Key):List Key:=fY h es.length es
def szB (m:Nat):Nat:=400*(m - 1)+200
def fb (g:gOp) (es:List Key) (kvs:List (List Key×Key)):Prop:=∀ k v,cb kvs k=some v→∃ a m:Nat,k=[.inl (a:Int),.inl (m:Int)]∧a+m≤es.length∧okP v=true∧szK v≤szB m∧∀ h,Ext g h→v=h (gD h ((es.drop a).take m))
structure gC (A:Adr) (H:Hp) (x f L D:Addr) (es:List Key) (kvs:List (List Key×Key)):Prop where
 ob:∃ dx,H x=some (.ins A.c_Row dx [("stamper",.ref f),("entries",.ref L),("tops",.ref D)])
 hl:H L=some (.lst (es.map kV))
 hd:H D=some (.dT (bu kvs))
 en:∀ e∈es,enK e
 le:es.length≤60
def bN (b D:Addr) (H H':Hp):Prop:=∀ x o,x≠b→x≠D→H x=some o→H' x=some o
def bL:Dat→Bool
 | .int i=>decide (0≤i∧i<2^60)
 | _=>false
def aD (c e:Dat):Bool:=bL c&&fo e&&match c,e with
 | .int c,.int e=>decide (0≤e∧e<c)
 | _,_=>false
def dg (n:Int):Dat→Bool
 | .tup ds=>decide ((ds.length:Int)=n)&&ds.all aK
 | _=>false
def cp:Dat→Bool
 | .tup [c,v]=>bL c&&aK v
 | _=>false
def vc:Dat→Prop
 | .tup ds=>ds.length≤500
 | _=>True
def cO (n:Int):Dat→Bool
 | .tup [e,m]=>aK e&&dg n m
 | _=>false
def ik:Dat→Prop
 | .tup [_,m]=>vc m
 | _=>True
def lD (d:Dat):Prop:=∀ z,d≠ .str z
def lu (K:W.Frag) (A:Adr):Sp:=fun vs H Q _=>∃ v d,vs=[v]∧aF H v d∧Q (.bl (bL d)) H
def lB (K:W.Frag) (A:Adr):Sp:=fun vs H Q _=>∃ v d w e,vs=[v,w]∧aF H v d∧aF H w e∧Q (.bl (aD d e)) H
def oI (K:W.Frag) (A:Adr):Sp:=fun vs H Q _=>∃ (n:Int) (v:V) (d:Dat),vs=[.int n,v]∧aF H v d∧vc d∧∀ H',aq H H'→Q (.bl (dg n d)) H'
def lW (K:W.Frag) (A:Adr):Sp:=fun vs H Q _=>∃ v d,vs=[v]∧aF H v d∧Q (.bl (cp d)) H
def oE (K:W.Frag) (A:Adr):Sp:=fun vs H Q E=>∃ v d,vs=[v]∧aF H v d∧(cp d=true→Q .non H)∧(cp d=false→E (.ref A.c_NoHead) none H)
inductive Kin (H:Hp) (v:V) (d:Dat):Prop
 | int (i:Int) (e:v=.int i) (e':d=.int i)
 | oth (t:String) (h:tyN H v=some t) (ht:isI t "int" =false∨isI t "bool" =true) (h':fo d=false)
def oN (K:W.Frag) (A:Adr):Sp:=fun vs H Q _=>∃ v d,vs=[v]∧Kin H v d∧Q (.bl (fo d)) H
def leD (n:Int):Dat→Bool
 | .int c=>decide (c≤n)
 | _=>false
def df (m:Int):Dat→Bool
 | .int i=>decide (0≤i∧i<m)
 | _=>false
def iu (K:W.Frag) (A:Adr):Sp:=fun vs H Q _=>∃ (v:V) (d:Dat) (m:Int),vs=[v,.int m]∧Kin H v d∧Q (.bl (df m d)) H
def jK (K:W.Frag) (A:Adr):Sp:=fun vs H Q _=>∃ m:Nat,vs=[.int (m:Int)]∧2≤m∧m≤2^60∧Q (.int ((aH m:Nat):Int)) H
def sM (K:W.Frag) (A:Adr):Sp:=fun vs H Q _=>∃ x dx f,vs=[.ref x,.ref f]∧H x=some (.ins A.c_Row dx [])∧∀ (L D:Addr) (H':Hp),(∀ z o,z≠x→H z=some o→H' z=some o)→H L=none→H D=none→L≠D→H' x=some (.ins A.c_Row dx [("stamper",.ref f),("entries",.ref L),("tops",.ref D)])→H' L=some (.lst [])→H' D=some (.dT [])→Q .non H'
def qk (K:W.Frag) (A:Adr):Sp:=fun vs H Q E=>∃ (x f L D:Addr) (es:List Key) (kvs:List (List Key×Key)) (v:V) (d:Dat),vs=[.ref x,v]∧gC A H x f L D es kvs∧es.length<60∧aF H v d∧
 ((aK d=false∧E (.ref A.c_NoStamp) none H)∨∃ e,d=bB e∧enK e∧Q (.int (es.length:Int)) (upd H L (.lst ((es++[e]).map kV))))
def mq (K:W.Frag) (A:Adr):Sp:=fun vs H Q _=>∃ (x f L D:Addr) (es:List Key) (kvs:List (List Key×Key)),vs=[.ref x]∧gC A H x f L D es kvs∧Q (.int (es.length:Int)) H
def qi (K:W.Frag) (A:Adr):Sp:=fun vs H Q _=>∃ (x f L D:Addr) (es:List Key) (kvs:List (List Key×Key)) (v w:V) (d e:Dat),vs=[.ref x,v,w]∧gC A H x f L D es kvs∧aF H v d∧aF H w e∧Q (.bl (aD d e&&leD (es.length:Int) d)) H
def pO (K:W.Frag) (A:Adr):Sp:=fun vs H Q E=>∃ (x f L D:Addr) (es:List Key) (kvs:List (List Key×Key)) (v:V) (d:Dat),vs=[.ref x,v]∧gC A H x f L D es kvs∧aF H v d∧(aD (.int es.length) d=false→E (.ref A.c_NoPlace) none H)∧∀ (p:Nat) (e:Key),d=.int (p:Int)→es[p]?=some e→Q (kV e) H
structure ci (A:Adr) (H:Hp) (x f L D b:Addr) (es:List Key) (kvs:List (List Key×Key)) (g:gOp) (n:Nat):Prop where
 r:gC A H x f L D es kvs
 s:Stp A H f b g n
 c:fb g es kvs
 db:D≠b
 kl:kvs.length≤n
def gG (K:W.Frag) (A:Adr) (j:Nat):Sp:=fun vs H Q _=>∃ (x f L D b:Addr) (es:List Key) (kvs:List (List Key×Key)) (g:gOp) (n a m:Nat),vs=[.ref x,.int (a:Int),.int (m:Int)]∧ci A H x f L D b es kvs g n∧a+m≤es.length∧m<j∧n+2*m+1≤40000∧
 ∀ (v:Key) (kvs':List (List Key×Key)) (g':gOp) (H':Hp),bN b D H H'→ci A H' x f L D b es kvs' g' (n+(2*(m - 1)+1))→Sub g g'→okP v=true→szK v≤szB m→(∀ h,Ext g' h→v=h (gD h ((es.drop a).take m)))→Q (kV v) H'
def oW (K:W.Frag) (A:Adr) (j:Nat):Sp:=fun vs H Q _=>∃ (x f L D b:Addr) (es:List Key) (kvs:List (List Key×Key)) (g:gOp) (n a m:Nat),vs=[.ref x,.int (a:Int),.int (m:Int)]∧ci A H x f L D b es kvs g n∧a+m≤es.length∧m≤j∧n+2*m+1≤40000∧
 ∀ (p:Addr) (k:List Key) (kvs':List (List Key×Key)) (g':gOp) (H':Hp),bN b D H H'→ci A H' x f L D b es kvs' g' (n+2*(m - 1))→Sub g g'→H' p=some (.tup (k.map kV))→okT k=true→szT k+62≤szB m→(∀ h,Ext g' h→k=gD h ((es.drop a).take m))→Q (.ref p) H'
def sB (K:W.Frag) (A:Adr):Sp:=fun vs H Q E=>∃ (x f L D b:Addr) (es:List Key) (kvs:List (List Key×Key)) (g:gOp) (n:Nat) (v w:V) (d e:Dat),vs=[.ref x,v,w]∧ci A H x f L D b es kvs g n∧n+400≤40000∧aF H v d∧aF H w e∧
 ((aD d e&&leD (es.length:Int) d)=false→E (.ref A.c_NoPlace) none H)∧
 ((aD d e&&leD (es.length:Int) d)=true→∀ (u:V) (kvs':List (List Key×Key)) (g':gOp) (H':Hp),bN b D H H'→ci A H' x f L D b es kvs' g' (n+200)→Sub g g'→Q u H')
def cw:Nat→Nat→Nat→List Int
 | 0,_,_=>[]
 | f+1,p,m=>if m≤1 then [] else if p<aH m then 0::cw f p (aH m) else 1::cw f (p - aH m) (m - aH m)
abbrev bh (c p:Nat):List Int:=cw 60 p c
def jtT (t:Int) (o a:Key):List Key:=if t=0 then [.inr "joint",o,a] else [.inr "joint",a,o]
def fz (h : List Key → Key) (c : Int) (e : Key) (st : List (Int × Key)) : Nat → List Key
  | 0 => [.inr "entry", e]
  | i + 1 => match st[i]? with
    | some x => jtT x.1 (h (fz h c e st i)) x.2
    | none => [.inr "row", .inl c, h (fz h c e st i)]
def jc (h:List Key→Key) (c:Int) (e:Key) (st:List (Int×Key)) (m:Nat):List (List Key):=(List.range m).map (fz h c e st)
def stR (ts:List Int) (ks:List Key):List (Int×Key):=(ts.zip ks).reverse
structure fX (H:Hp) (P T:Addr) (e:Key) (ks:List Key):Prop where
 hP:H P=some (.tup [kV e,.ref T])
 hT:H T=some (.tup (ks.map kV))
structure vv (A:Adr) (H:Hp) (f b P T:Addr) (c:Nat) (ts:List Int) (ks:List Key) (e:Key) (g:gOp) (n:Nat):Prop where
 s:Stp A H f b g n
 hn:n+200≤40000
 c1:1≤c
 c2:c<2^60
 tl:ts.length≤60
 t01:∀ t∈ts,t=0∨t=1
 kl:ks.length=ts.length
 ee:enK e
 ke:∀ k∈ks,enK k
 w:fX H P T e ks
def dj (K:W.Frag) (A:Adr):Sp:=fun vs H Q _=>∃ (a:Addr) (ns:List Int) (k:Int),vs=[.ref a,.int k]∧SqL K H a (ns.map V.int)∧0≤k∧∀ z:Int,Q (.int z) H
def ow (K:W.Frag) (A:Adr):Sp:=fun vs H Q _=>∃ c:Int,vs=[.int c]∧∀ (z:Str) (H':Hp),aq H H'→z.length≤4→bY z=true→Q (.str z) H'
def iq (K:W.Frag) (A:Adr):Sp:=fun vs H Q _=>∃ c:Int,vs=[.int c]∧∀ (e:Key) (H':Hp),aq H H'→enK e→Q (kV e) H'
def oQ (K:W.Frag) (A:Adr):Sp:=fun vs H Q _=>∃ c:Int,vs=[.int c]∧∀ m:Nat,1≤m→m<2^60→Q (.int (m:Int)) H
def lY (K:W.Frag) (A:Adr):Sp:=fun vs H Q _=>∃ p m:Nat,vs=[.int (p:Int),.int (m:Int)]∧p<m∧m≤2^60∧∀ D,H D=none→Q (.ref D) (upd H D (.lst ((bh m p).map V.int)))
def oM (K:W.Frag) (A:Adr):Sp:=fun vs H Q _=>∃ p m:Nat,vs=[.int (p:Int),.int (m:Int)]∧p<m∧m≤2^60∧∀ D,H D=none→Q (.ref D) (upd H D (.lst ((bh m p).map V.int)))
def oS (K:W.Frag) (A:Adr):Sp:=fun vs H Q _=>∃ (t:Int) (o a:Key),vs=[.int t,kV o,kV a]∧∀ p,H p=none→Q (.ref p) (upd H p (.tup ((jtT t o a).map kV)))
def tQ (A:Adr) (f b:Addr) (c:Nat) (st:List (Int×Key)) (e:Key) (m:Nat) (g:gOp) (n:Nat) (H:Hp) (Q:VK):Prop:=
 ∀ (M:Addr) (ps:List Addr) (tt:List (List Key)) (g':gOp) (H':Hp),aO b H H'→Stp A H' f b g' (n+70)→Sub g g'→H M=none→M≠b→H' M=some (.lst (ps.map V.ref))→PK H' ps tt→(∀ p∈ps,p≠b)→tt.length=m→(∀ k∈tt,szT k≤20000)→(∀ h,Ext g' h→tt=jc h c e st m)→Q (.ref M) H'
def oB (K:W.Frag) (A:Adr):Sp:=fun vs H Q _=>∃ (L:Addr) (ts:List Int) (v:V) (d:Dat),vs=[.ref L,v]∧H L=some (.lst (ts.map V.int))∧ts.length≤500∧aF H v d∧ik d∧∀ H',aq H H'→Q (.bl (cO ts.length d)) H'
def sV (A:Adr) (f b:Addr) (c:Nat) (st:List (Int×Key)) (e:Key) (g:gOp) (n:Nat) (H:Hp) (R:Key→Hp→Prop):Prop:=
 ∀ (w:Key) (g':gOp) (H':Hp),aO b H H'→Stp A H' f b g' (n+71)→Sub g g'→okP w=true→szK w≤50000→(∀ h,Ext g' h→w=h (fz h c e st (st.length+1)))→R w H'
structure Ask (A:Adr) (H:Hp) (f b:Addr) (g:gOp) (n:Nat) (w m:V) (e k:Dat):Prop where
 s:Stp A H f b g n
 hn:n+400≤40000
 he:aF H w e
 hm:aF H m k
 sh:ik k
structure ef (k:Dat) (n:Nat) (e:Key) (ks:List Key):Prop where
 q:k=.tup [bB e,.tup (ks.map bB)]
 l:ks.length=n
 en:∀ x∈ks,enK x
 ee:enK e
def sd (A:Adr) (c p:Nat) (k:Dat) (H:Hp) (E:XK) (R:Key→List Key→Prop):Prop:=
 (cO (bh c p).length k=false∧∀ H',aq H H'→E (.ref A.c_NoPaper) none H')∨∃ en ks,ef k (bh c p).length en ks∧R en ks
def lM (K:W.Frag) (A:Adr):Sp:=fun vs H Q E=>∃ (f b:Addr) (g:gOp) (n:Nat) (v w m:V) (d e k:Dat),vs=[.ref f,v,w,m]∧Ask A H f b g n w m e k∧aF H v d∧
 (aD d e=false→E (.ref A.c_NoPlace) none H)∧
 ∀ c p:Nat,d=.int (c:Int)→e=.int (p:Int)→p<c→c<2^60→sd A c p k H E fun en ks=>tQ A f b c (stR (bh c p) ks) en ((bh c p).length+2) g n H Q
def lN (K:W.Frag) (A:Adr):Sp:=fun vs H Q E=>∃ (f b:Addr) (g:gOp) (n:Nat) (v w m:V) (d e k:Dat),vs=[.ref f,v,w,m]∧Ask A H f b g n w m e k∧aF H v d∧
 (aD d e=false→E (.ref A.c_NoPlace) none H)∧
 ∀ c p:Nat,d=.int (c:Int)→e=.int (p:Int)→p<c→c<2^60→sd A c p k H E fun en ks=>sV A f b c (stR (bh c p) ks) en g n H fun w H'=>Q (kV w) H'
def sH (K:W.Frag) (A:Adr):Sp:=fun vs H Q _=>∃ (a:Addr) (x y:V),vs=[.ref a,x,y]∧H a=some (fv A.c_Broken a none)∧∀ dx,H dx=none→Q .non (upd (upd (upd H a (fv A.c_Broken a (some dx))) dx (kD [("due",x)] dx)) dx (kD (dz "came" y [("due",x)]) dx))
def la (K : W.Frag) (A : Adr) : Sp := fun vs H Q E => ∃ (f b : Addr) (g : List Key → Option Key) (n : Nat) (v w m : V) (d e k : Dat), vs = [.ref f, v, w, m] ∧ Ask A H f b g n w m e k ∧ aF H v d ∧
  ((cp d = false ∧ E (.ref A.c_NoHead) none H) ∨ ∃ (c : Nat) (mk : Key), d = .tup [.int (c : Int), bB mk] ∧ c < 2 ^ 60 ∧ okP mk = true ∧
    (aD (.int (c : Int)) e = false → E (.ref A.c_NoPlace) none H) ∧
    ∀ p : Nat, e = .int (p : Int) → p < c → sd A c p k H E fun en ks => sV A f b c (stR (bh c p) ks) en g n H fun w H' => (w = mk → Q (kV en) H') ∧ (w ≠ mk → ∀ (dx : Addr) (H'' : Hp), aq H' H'' → E (.ref A.c_Broken) (some dx) H''))
def oo (K:W.Frag) (A:Adr):Sp:=fun vs H Q _=>∃ (f b L P T:Addr) (c:Nat) (ts:List Int) (ks:List Key) (e:Key) (g:gOp) (n:Nat),vs=[.ref f,.int (c:Int),.ref L,.ref P]∧vv A H f b P T c ts ks e g n∧H L=some (.lst (ts.map V.int))∧sV A f b c (stR ts ks) e g n H fun w H'=>Q (kV w) H'
def cE (A:Adr):Nat→Addr
 | 0=>A.c_NoHead
 | 1=>A.c_NoPlace
 | 2=>A.c_NoPaper
 | 3=>A.c_Broken
 | _=>A.c_NoStamp
def tK (A:Adr) (H:Hp) (v:V):Option Nat→Prop
 | none=>v=.non
 | some i=>i<5∧∃ a d,v=.ref a∧H a=some (kK (cE A i) d a)
def qg:Option Nat→Int
 | none=> -1
 | some i=>i
def dE:List Bool→Option Nat
 | []=>none
 | b::r=>if b then some 0 else (dE r).map (·+1)
def kdL (i n:Nat):List Bool:=(List.range n).map fun j=>decide (j=i)||decide (j=5)
def oO (K:W.Frag) (A:Adr):Sp:=fun vs H Q _=>∃ (v:V) (i:Nat),vs=[v]∧tK A H v (some i)∧∀ (L:Addr) (H':Hp),aq H H'→H' L=some (.lst ((kdL i 6).map V.bl))→Q (.ref L) H'
def gA (K:W.Frag) (A:Adr):Sp:=fun vs H Q _=>∃ (v:V) (o:Option Nat),vs=[v,.int (qg o)]∧tK A H v o∧∀ H',aq H H'→Q (.bl true) H'
def jC (K:W.Frag) (A:Adr):Sp:=fun vs H Q _=>∃ (L:Addr) (bs:List Bool),vs=[.ref L]∧H L=some (.lst (bs.map V.bl))∧bs.length≤100∧Q (.int (qg (dE bs))) H
inductive pH (d e k:Dat):Option Nat→Prop
 | place (h:aD d e=false):pH d e k (some 1)
 | paper (c p:Nat) (hd:d=.int (c:Int)) (he:e=.int (p:Int)) (h1:p<c) (h2:c<2^60) (h:cO (bh c p).length k=false):pH d e k (some 2)
 | good (c p:Nat) (en:Key) (ks:List Key) (hd:d=.int (c:Int)) (he:e=.int (p:Int)) (h1:p<c) (h2:c<2^60) (h:ef k (bh c p).length en ks):pH d e k none
inductive iH (g:gOp) (d e k:Dat):Option Nat→Prop
 | head (h:cp d=false):iH g d e k (some 0)
 | place (c:Nat) (mk:Key) (hd:d=.tup [.int (c:Int),bB mk]) (h2:c<2^60) (ok:okP mk=true) (h:aD (.int (c:Int)) e=false):iH g d e k (some 1)
 | paper (c p:Nat) (mk:Key) (hd:d=.tup [.int (c:Int),bB mk]) (h2:c<2^60) (ok:okP mk=true) (he:e=.int (p:Int)) (h1:p<c) (h:cO (bh c p).length k=false):iH g d e k (some 2)
 | good (c p:Nat) (mk tm en:Key) (ks:List Key) (hd:d=.tup [.int (c:Int),bB mk]) (h2:c<2^60) (ok:okP mk=true) (he:e=.int (p:Int)) (h1:p<c) (h:ef k (bh c p).length en ks) (ht:∀ h,Ext g h→tm=h (fz h c en (stR (bh c p) ks) ((stR (bh c p) ks).length+1))):iH g d e k (if tm=mk then none else some 3)
def jG (K:W.Frag) (A:Adr):Sp:=fun vs H Q _=>∃ (what:Int) (f b:Addr) (g:gOp) (n:Nat) (v w m:V) (d e k:Dat) (o:Option Nat),vs=[.int what,.ref f,v,w,m]∧Ask A H f b g n w m e k∧aF H v d∧(((what=0∨what=1)∧pH d e k o)∨(what=2∧iH g d e k o))∧
 ∀ (u:V) (g':gOp) (H':Hp),aO b H H'→Stp A H' f b g' (n+71)→Sub g g'→tK A H' u o→Q u H'
def pc (K:W.Frag) (A:Adr):Sp:=fun vs H Q _=>∃ (z:Int) (c:Nat),vs=[.int z,.int (c:Int)]∧c<2^60∧∀ (v:V) (d:Dat) (H':Hp),aq H H'→aF H' v d→(∀ e,aD d e=false)→Q v H'
def oj (K:W.Frag) (A:Adr):Sp:=fun vs H Q _=>∃ (z:Int) (c:Nat),vs=[.int z,.int (c:Int)]∧1≤c∧c<2^60∧∀ (v:V) (d:Dat) (H':Hp),aq H H'→aF H' v d→aD (.int (c:Int)) d=false→Q v H'
def Iw (d:Dat):Prop:=aK d=false∧(∀ n,cO n d=false)∧ik d
def jT (K:W.Frag) (A:Adr):Sp:=fun vs H Q _=>∃ z:Int,vs=[.int z]∧∀ (v:V) (d:Dat) (H':Hp),aq H H'→aF H' v d→Iw d→Q v H'
def nY (K:W.Frag) (A:Adr):Sp:=fun vs H Q _=>∃ (z:Int) (c:Nat) (mk:Key),vs=[.int z,.int (c:Int),kV mk]∧c<2^60∧∀ (v:V) (d:Dat) (H':Hp),aq H H'→aF H' v d→cp d=false→Q v H'
def oG (K:W.Frag) (A:Adr):Sp:=fun vs H Q _=>∃ (z:Int) (P T:Addr) (e:Key) (ks:List Key),vs=[.int z,.ref P]∧fX H P T e ks∧ks.length≤60∧∀ (v:V) (d:Dat) (H':Hp),aq H H'→aF H' v d→cO ks.length d=false→ik d→Q v H'
def oh (K:W.Frag) (A:Adr):Sp:=fun vs H Q _=>∃ (z:Int) (m:Key),vs=[.int z,kV m]∧okP m=true∧szK m≤50000∧∀ (e:Key) (H':Hp),aq H H'→okP e=true→Q (kV e) H'
def lJ (K:W.Frag) (A:Adr):Sp:=fun vs H Q _=>∃ (z:Int) (s:Nat),vs=[.int z,.int (s:Int)]∧s≤1000∧∀ (v:V) (d:Dat) (H':Hp),aq H H'→aF H' v d→lD d→Q v H'
def oa (K:W.Frag) (A:Adr):Sp:=fun vs H Q _=>∃ (f b a P T:Addr) (ns:List Int) (c p:Nat) (ks:List Key) (e mk:Key) (g:gOp) (n:Nat),vs=[.ref f,.ref a,.int (c:Int),.int (p:Int),.ref P,kV mk]∧vv A H f b P T c (bh c p) ks e g n∧p<c∧n+1000≤40000∧SqL K H a (ns.map V.int)∧okP mk=true∧szK mk≤50000∧(∀ h,Ext g h→mk=h (fz h c e (stR (bh c p) ks) ((stR (bh c p) ks).length+1)))∧
 ∀ (g':gOp) (H':Hp),aO b H H'→Stp A H' f b g' (n+400)→Sub g g'→Q (.bl true) H'
def dn (es:List Key) (what:Int) (d e:Dat):Option Nat:=if what=0 then (if aK d then none else some 4) else if what=1 then (if aD (.int es.length) d then none else some 1) else (if (aD d e&&leD (es.length:Int) d) then none else some 1)
def iL (es:List Key) (what:Int):Dat→List Key
 | .int i=>if what=0∧0≤i∧i<10^60 then es++[.inl i] else es
 | _=>es
def gB (b D L:Addr) (H H':Hp):Prop:=∀ x o,x≠b→x≠D→x≠L→H x=some o→H' x=some o
def oi (K:W.Frag) (A:Adr):Sp:=fun vs H Q _=>∃ (what:Int) (x f L D b:Addr) (es:List Key) (kvs:List (List Key×Key)) (g:gOp) (n:Nat) (v w:V) (d e:Dat),vs=[.int what,.ref x,v,w]∧ci A H x f L D b es kvs g n∧n+400≤40000∧es.length<60∧aF H v d∧aF H w e∧lD d∧
 ∀ (u:V) (kvs':List (List Key×Key)) (g':gOp) (H':Hp),gB b D L H H'→ci A H' x f L D b (iL es what d) kvs' g' (n+200)→Sub g g'→tK A H' u (dn es what d e)→Q u H'
def oY (K:W.Frag) (A:Adr):Sp:=fun vs H Q _=>∃ (f b a:Addr) (ns:List Int) (g:gOp) (n:Nat),vs=[.ref f,.ref a]∧Stp A H f b g n∧n+10000≤30000∧SqL K H a (ns.map V.int)∧ns.length≤63∧∀ H',Q (.bl true) H'
def oF (K:W.Frag) (A:Adr):Sp:=fun vs H Q _=>∃ (a:Addr) (ns:List Int),vs=[.ref a]∧SqL K H a (ns.map V.int)∧ns.length≤63∧yL A H∧∀ H',Q (.bl true) H'
def eU (K:W.Frag) (A:Adr):L2.ix:=[(fA,si K A),(fM,sR K A),(fN,sZ K A),(fQ,sI K A)]
def CK (K:W.Frag) (A:Adr):TE:=av (lc K A) (fun _=>E0) (ae (af 0) (aj))
def Cs (K:W.Frag) (A:Adr):TE:=cm A.c_Numbers "number_of" (tG K A) (fun _=>E0) (af 1) (ae (af 0) (aj))
def DF (K:W.Frag) (A:Adr):TS:=aG (tBM K "dict" rR (af 2) (ae (af 0) (ae (tOp (bg K) (tOp (iE) (af 1) (tCB (bS K) (ae (af 2) (aj)))) (tC (.int 5))) (aj))))
def AV (K:W.Frag) (A:Adr):TS:=ax (aC (tCB (bS K) (ae (af 0) (aj))) (au 1)) (ax (fJ (iM K (af 0)) (au 2) (aV (bM K (tCB (dS) (ae (af 2) (ae (tC (.ty "str")) (aj))))) (aC (tOp (bg K) (tOp (iE) (tC (.int 2)) (af 1)) (tCB (bS K) (ae (af 2) (aj)))) (au 1)) (aC (tOp (bg K) (tOp (iE) (tC (.int 2)) (af 1)) (af 2)) (au 1)))) (aG (tOp (bo) (af 1) (af 3))))
def IE (K:W.Frag) (A:Adr):TS:=aG (cY (tCB (dS) (ae (af 0) (ae (tC (.ty "int")) (aj)))) (lL (tCB (dS) (ae (af 0) (ae (tC (.ty "bool")) (aj))))))
def Ih (K:W.Frag) (A:Adr):TS:=ax (aV (bM K (av (iD K A) (fun _=>E0) (ae (af 0) (aj)))) (aG (eT (mLe) (mLt) (tC (.int 0)) (af 0) (tOp (jf) (tC (.int 10)) (tC (.int 60))))) (aT)) (aG (tCB (dS) (ae (af 0) (ae (tC (.ty "str")) (aj)))))
def Ho (K:W.Frag) (A:Adr):TS:=ax (aV (cI (bM K (tCB (dS) (ae (af 0) (ae (tC (.ty "tuple")) (aj)))))) (aG (tC (.bl false))) (aT)) (ax (aV (cI (aZ (eT (mLe) (mLe) (tC (.int 1)) (tCB (bS K) (ae (af 0) (aj))) (tC (.int 8))))) (aG (tC (.bl false))) (aT)) (aG (cY (tCB (dS) (ae (tOp (bc K) (af 0) (tC (.int 0))) (ae (tC (.ty "str")) (aj)))) (tCB (wD) (ae (dJ [] (iM K (af 0)) (fun _ H Q=>Q true H) (av (gw K A) (fun _=>E0) (ae (af 0) (aj)))) (aj))))))
def Iy (K:W.Frag) (A:Adr):TS:=ax (aV (bM K (av (iD K A) (fun _=>E0) (ae (af 0) (aj)))) (aG (mJ ((rX (af 0))::(tC (.str ";"))::[]) Str.empty)) (aT)) (ax (aC (tCB (bS K) (ae (af 0) (aj))) (au 1)) (aG (mJ ((rX (af 1))::(tC (.str ":"))::(rX (af 0))::[]) Str.empty)))
def Hl (K:W.Frag) (A:Adr):TS:=ax (aV (cI (bM K (av (lG K A) (fun _=>E0) (ae (af 0) (aj))))) (lT) (aT)) (aG (tBM K "str" tI (tC (.str "")) (ae (dJ [] (iM K (af 0)) (fun _ H Q=>Q true H) (av (og K A) (fun _=>E0) (ae (af 0) (aj)))) (aj))))
def T_2 (K:W.Frag) (A:Adr):TS:=ax (aV (cI (bM K (av (lG K A) (fun _=>E0) (ae (af 1) (aj))))) (lT) (aT)) (ax (aV (aZ (tOp (mE K) (af 1) (eF K (af 0) "given"))) (aC (tCB (bS K) (ae (eF K (af 0) "given") (aj))) (sC (eF K (af 0) "given") (af 1) pb)) (aT)) (aG (tOp (bc K) (eF K (af 0) "given") (af 1))))
def BC (K:W.Frag) (A:Adr):TSM:=qo (mh A.t_57 ⟨182,11,182,37⟩ fA [])
def T_1 (K:W.Frag) (A:Adr):TS:=ma K (af 0) (hJ) "given"
def Bj (K:W.Frag) (A:Adr) (q0:Addr):TSM:=ph (lh (aC (lE A.c_Numbers (sj K A) (fun _=>E0) (aj)) (au 0))) (qo (mh A.t_40 ⟨185,11,185,47⟩ fM [q0]))
def AL (K:W.Frag) (A:Adr) (q0 q1:Addr):TSM:=ph (lh (aC (hJ) (au 1))) (ph (lh (aC (mh A.t_30 ⟨206,4,207,80⟩ fN [q0,q1]) (au 2))) (qo (af 2)))
def Ck (K:W.Frag) (A:Adr) (q0:Addr):TSM:=ph (lh (aC (mh A.t_34 ⟨211,4,218,37⟩ fQ [q0]) (au 1))) (qo (af 1))
def IZ (K:W.Frag) (A:Adr):TS:=ax (aV (aZ (tOp (bH K) (tOp (bo) (af 0) (tC (.int 5))) (tC (.int 0)))) (aG (av (oR K A) (fun _=>E0) aj)) (aT)) (ax (aV (aZ (tOp (bH K) (tOp (bo) (af 0) (tC (.int 5))) (tC (.int 1)))) (aG (av (oJ K A) (fun _=>E0) aj)) (aT)) (ax (aV (aZ (tOp (bH K) (tOp (bo) (af 0) (tC (.int 5))) (tC (.int 2)))) (aG (av (oz K A) (fun _=>E0) (ae (tOp (bg K) (tC (.int 1)) (tOp (bo) (tOp (bw) (af 0) (tC (.int 5))) (tC (.int 9)))) (aj)))) (aT)) (aG (av (oy K A) (fun _=>E0) (ae (tOp (bg K) (tC (.int 1)) (tOp (bo) (tOp (bw) (af 0) (tC (.int 5))) (tC (.int 9)))) (aj))))))
def HC (K:W.Frag) (A:Adr):TS:=ax (aV (aZ (tOp (mLt) (af 1) (tCB (bS K) (ae (af 0) (aj))))) (aG (tOp (bc K) (af 0) (af 1))) (aT)) (aG (tC (.int 0)))
def IG (K:W.Frag) (A:Adr):TS:=ax (aV (aZ (tOp (bH K) (tOp (bo) (af 0) (tC (.int 3))) (tC (.int 0)))) (aG (tOp (bg K) (tC (.int 1)) (tOp (bo) (tOp (bw) (af 0) (tC (.int 3))) (tC (.int 41))))) (aT)) (ax (aV (aZ (tOp (bH K) (tOp (bo) (af 0) (tC (.int 3))) (tC (.int 1)))) (aG (tOp (dB) (tOp (bg K) (tOp (gJ) (tC (.int 1)) (tOp (bg K) (tC (.int 1)) (tOp (bo) (tOp (bw) (af 0) (tC (.int 3))) (tC (.int 59))))) (tOp (bo) (tOp (bw) (af 0) (tC (.int 177))) (tC (.int 4)))) (tC (.int 1)))) (aT)) (aG (tOp (bg K) (tC (.int 1)) (tOp (bo) (tOp (bw) (af 0) (tC (.int 3))) (tOp (dB) (tOp (gJ) (tC (.int 1)) (tC (.int 60))) (tC (.int 1)))))))
def IY (K:W.Frag) (A:Adr):TS:=ax (aC (cF (aj)) (au 2)) (ax (aC (tOp (gJ) (tC (.int 1)) (tC (.int 60))) (au 3)) (ax (jq (aZ (tOp (mGt) (af 1) (tC (.int 1)))) (ax (jq (aZ (tOp (mGe) (af 3) (af 1))) (aC (tOp (bw) (af 3) (tC (.int 2))) (au 3))) (ax (cx (tBM K "list" cV (af 2) (ae (tCB (yf) (ae (tOp (mGe) (af 0) (af 3)) (aj))) (aj)))) (aV (aZ (tOp (mGe) (af 0) (af 3))) (ax (aC (tOp (dB) (af 0) (af 3)) (au 0)) (aC (tOp (dB) (af 1) (af 3)) (au 1))) (aC (af 3) (au 1)))))) (aG (af 2))))
def vg (K:W.Frag) (A:Adr):TS:=aG (tBM K "str" tI (tC (.str "")) (ae (dJ [0,1] (gp (ae (tOp (bo) (af 0) (tC (.int 5))) (aj))) (fun _ H Q=>Q true H) (tOp (bc K) (af 2) (tOp (bo) (tOp (bg K) (tOp (bw) (af 1) (tC (.int 5))) (tOp (iE) (af 0) (tOp (bo) (tOp (bw) (af 1) (tC (.int 470))) (tC (.int 7))))) (tC (.int 94))))) (aj)))
def Ij (K:W.Frag) (A:Adr):TS:=ax (aC (tC (.str " !\"#$&'()*+,-./0123456789:;<=>?@ABCDEFGHIJKLMNOPQRSTUVWXYZ[\\]^_`")) (au 1)) (ax (aC (tOp (bg K) (af 1) (tC (.str "abcdefghijklmnopqrstuvwxyz{|}~"))) (au 1)) (vg K A))
def HD (K:W.Frag) (A:Adr):TS:=ax (aV (aZ (tOp (bH K) (tOp (bo) (af 0) (tC (.int 4))) (tC (.int 0)))) (aG (av (ow K A) (fun _=>E0) (ae (tOp (bw) (af 0) (tC (.int 4))) (aj)))) (aT)) (ax (aV (aZ (tOp (bH K) (tOp (bo) (af 0) (tC (.int 4))) (tC (.int 1)))) (aG (tOp (bo) (tOp (bw) (af 0) (tC (.int 4))) (tOp (jf) (tC (.int 10)) (tC (.int 60))))) (aT)) (aG (tOp (bo) (tOp (bw) (af 0) (tC (.int 4))) (tC (.int 7)))))
def HA (K:W.Frag) (A:Adr):TS:=ax (aC (gs (eU K A) (fun _=>E0) (af 0) (ae (bn (ae (tC (.str "entry")) (ae (tOp (bc K) (af 3) (tC (.int 0))) (aj)))) (aj))) (au 4)) (ax (fJ (yK K (ae (af 2) (aj)) (ae (tOp (bc K) (af 3) (tC (.int 1))) (aj))) (mK K 2 (eK (au 5) (eK (au 6) mz))) (aV (aZ (tOp (bH K) (af 5) (tC (.int 1)))) (aC (gs (eU K A) (fun _=>E0) (af 0) (ae (bn (ae (tC (.str "joint")) (ae (af 6) (ae (af 4) (aj))))) (aj))) (au 4)) (aC (gs (eU K A) (fun _=>E0) (af 0) (ae (bn (ae (tC (.str "joint")) (ae (af 4) (ae (af 6) (aj))))) (aj))) (au 4)))) (aG (gs (eU K A) (fun _=>E0) (af 0) (ae (bn (ae (tC (.str "row")) (ae (af 1) (ae (af 4) (aj))))) (aj)))))
def HR (K:W.Frag) (A:Adr):TS:=ax (aC (cF (ae (tC .non) (ae (tC (.bl true)) (ae (tC (.bl false)) (ae (tCB (mI) (ae (af 1) (aj))) (ae (tOp (dB) (tUn fg (tC (.int 1))) (af 1)) (ae (tOp (gJ) (tC (.int 1)) (tC (.int 60))) (ae (tOp (bg K) (tOp (gJ) (tC (.int 1)) (tC (.int 60))) (af 1)) (ae (bn (ae (af 1) (aj))) (ae (cF (ae (af 1) (aj))) (ae (tC (.int 0)) (aj)))))))))))) (au 2)) (aG (tOp (bc K) (af 2) (tOp (bo) (af 0) (tC (.int 10)))))
def Hh (K:W.Frag) (A:Adr):TS:=ax (aC (tOp (bo) (tOp (bw) (af 0) (tC (.int 9))) (tOp (jf) (tC (.int 10)) (tC (.int 30)))) (au 2)) (ax (aC (cF (ae (tC .non) (ae (tC (.bl true)) (ae (tC (.bl false)) (ae (tCB (mI) (ae (tOp (bo) (af 2) (af 1)) (aj))) (ae (tOp (dB) (tUn fg (tC (.int 1))) (af 2)) (ae (af 1) (ae (tOp (bg K) (af 1) (af 2)) (ae (bn (ae (tOp (bo) (af 2) (af 1)) (aj))) (ae (cF (ae (tC (.int 0)) (aj))) (aj))))))))))) (au 3)) (aG (tOp (bc K) (af 3) (tOp (bo) (af 0) (tC (.int 9))))))
def Hs (K:W.Frag) (A:Adr):TS:=ax (aC (tOp (bo) (tOp (bw) (af 0) (tC (.int 9))) (tOp (jf) (tC (.int 10)) (tC (.int 30)))) (au 1)) (ax (aC (cF (ae (tC .non) (ae (tC (.bl true)) (ae (tC (.bl false)) (ae (tOp (dB) (tUn fg (tC (.int 1))) (af 1)) (ae (tOp (bg K) (tOp (jf) (tC (.int 10)) (tC (.int 60))) (af 1)) (ae (bn (ae (af 1) (aj))) (ae (cF (ae (af 1) (aj))) (ae (hJ) (ae (bn (ae (tC (.str "a")) (aj))) (aj))))))))))) (au 2)) (aG (tOp (bc K) (af 2) (tOp (bo) (af 0) (tC (.int 9))))))
def CP (K:W.Frag) (A:Adr):TS:=aG (bn (ae (af 2) (ae (tOp (bg K) (tOp (bg K) (tSl (pV K) (af 3) (fS) (jZ (af 4))) (bn (ae (af 5) (aj)))) (tSl (pV K) (af 3) (jZ (tOp (bg K) (af 4) (tC (.int 1)))) (fS))) (aj))))
def Bd (K:W.Frag) (A:Adr):TS:=ax (aV (aZ (tOp (bH K) (tOp (bo) (tOp (bw) (tOp (bw) (af 0) (tC (.int 7))) (tC (.int 60))) (tC (.int 2))) (tC (.int 0)))) (aG (bn (ae (af 2) (ae (tOp (bg K) (tSl (pV K) (af 3) (fS) (jZ (af 4))) (tSl (pV K) (af 3) (jZ (tOp (bg K) (af 4) (tC (.int 1)))) (fS))) (aj))))) (aT)) (CP K A)
def DB (K:W.Frag) (A:Adr):TS:=ax (aV (mOr (aZ (tOp (mLt) (tOp (bo) (af 0) (tC (.int 7))) (tC (.int 6)))) (aZ (tOp (bH K) (tCB (bS K) (ae (af 3) (aj))) (tC (.int 0))))) (aG (tOp (bc K) (af 6) (tOp (bo) (tOp (bo) (af 0) (tC (.int 7))) (tC (.int 6))))) (aT)) (Bd K A)
def Cb (K:W.Frag) (A:Adr):TS:=ax (aC (tOp (bg K) (af 6) (cF (ae (bn (ae (af 2) (ae (tOp (bg K) (af 3) (bn (ae (af 2) (aj)))) (aj)))) (aj)))) (au 6)) (DB K A)
def uL (K:W.Frag) (A:Adr):TS:=ax (aC (cF (ae (af 5) (ae (cF (ae (af 2) (ae (af 3) (aj)))) (ae (bn (ae (af 2) (ae (af 3) (ae (af 2) (aj))))) (ae (bn (ae (af 5) (ae (af 3) (aj)))) (ae (bn (ae (af 2) (ae (tCB (yA K) (ae (af 3) (aj))) (aj)))) (aj))))))) (au 6)) (Cb K A)
def IP (K:W.Frag) (A:Adr):TS:=ax (aC (af 1) (mK K 2 (eK (au 2) (eK (au 3) mz)))) (ax (aC (tOp (bo) (tOp (bw) (af 0) (tC (.int 7))) (tCB (wV) (ae (tC (.int 1)) (ae (tCB (bS K) (ae (af 3) (aj))) (aj))))) (au 4)) (ax (aC (av (jT K A) (fun _=>E0) (ae (tOp (bw) (af 0) (tC (.int 420))) (aj))) (au 5)) (uL K A)))
def Hy (K:W.Frag) (A:Adr):TS:=ax (fJ (gp (ae (tCB (bS K) (ae (af 0) (aj))) (aj))) (au 1) (aV (bM K (tOp (bc K) (af 0) (af 1))) (aG (af 1)) (aT))) (aG (tUn fg (tC (.int 1))))
def Hm (K:W.Frag) (A:Adr):TS:=ax (aC (cF (ae (tCB (il K) (ae (af 0) (ae (tC (.ref A.c_NoHead)) (aj)))) (ae (tCB (il K) (ae (af 0) (ae (tC (.ref A.c_NoPlace)) (aj)))) (ae (tCB (il K) (ae (af 0) (ae (tC (.ref A.c_NoPaper)) (aj)))) (aj))))) (au 1)) (aG (tOp (bg K) (af 1) (cF (ae (tCB (il K) (ae (af 0) (ae (tC (.ref A.c_Broken)) (aj)))) (ae (tCB (il K) (ae (af 0) (ae (tC (.ref A.c_NoStamp)) (aj)))) (ae (tCB (il K) (ae (af 0) (ae (tC (.ty "ValueError")) (aj)))) (aj)))))))
def IN (K:W.Frag) (A:Adr):TS:=ax (aV (aZ (tOp (mLt) (af 1) (tC (.int 0)))) (aG (tOp (wM) (af 0) (tC .non))) (aT)) (aG (tOp (bH K) (av (oO K A) (fun _=>E0) (ae (af 0) (aj))) (dJ [1] (gp (ae (tC (.int 6)) (aj))) (fun _ H Q=>Q true H) (tw (tOp (bH K) (af 0) (af 1)) (tOp (bH K) (af 0) (tC (.int 5)))))))
def IV (K:W.Frag) (A:Adr):TS:=aG (cY (av (iD K A) (fun _=>E0) (ae (af 0) (aj))) (eT (mLe) (mLt) (tC (.int 0)) (af 0) (tOp (gJ) (tC (.int 1)) (tC (.int 60)))))
def HJ (K:W.Frag) (A:Adr):TS:=aG (cY (av (lu K A) (fun _=>E0) (ae (af 0) (aj))) (cY (av (iD K A) (fun _=>E0) (ae (af 1) (aj))) (eT (mLe) (mLt) (tC (.int 0)) (af 1) (af 0))))
def Ie (K:W.Frag) (A:Adr):TS:=aG (tOp (gJ) (tC (.int 1)) (tOp (dB) (wU K "int" tP (tOp (dB) (af 0) (tC (.int 1)))) (tC (.int 1))))
def Ii (K:W.Frag) (A:Adr):TS:=ax (aC (cF (aj)) (au 2)) (ax (aC (tC (.int 0)) (au 3)) (ax (aC (af 1) (au 4)) (ax (jq (aZ (tOp (mGt) (af 4) (tC (.int 1)))) (ax (aC (av (jK K A) (fun _=>E0) (ae (af 4) (aj))) (au 5)) (aV (aZ (tOp (mLt) (af 0) (tOp (bg K) (af 3) (af 5)))) (ax (cx (tBM K "list" cV (af 2) (ae (tC (.int 0)) (aj)))) (aC (af 5) (au 4))) (ax (cx (tBM K "list" cV (af 2) (ae (tC (.int 1)) (aj)))) (ax (aC (tOp (bg K) (af 3) (af 5)) (au 3)) (aC (tOp (dB) (af 4) (af 5)) (au 4))))))) (aG (af 2)))))
def HS (K:W.Frag) (A:Adr):TS:=aG (cY (tCB (dS) (ae (af 1) (ae (tC (.ty "tuple")) (aj)))) (cY (tOp (bH K) (tCB (bS K) (ae (af 1) (aj))) (af 0)) (tCB (wD) (ae (dJ [] (iM K (af 1)) (fun _ H Q=>Q true H) (av (gw K A) (fun _=>E0) (ae (af 0) (aj)))) (aj)))))
def Im (K:W.Frag) (A:Adr):TS:=ax (aV (mOr (cI (bM K (tCB (dS) (ae (af 1) (ae (tC (.ty "tuple")) (aj)))))) (aZ (tOp (jo K) (tCB (bS K) (ae (af 1) (aj))) (tC (.int 2))))) (aG (tC (.bl false))) (aT)) (aG (cY (av (gw K A) (fun _=>E0) (ae (tOp (bc K) (af 1) (tC (.int 0))) (aj))) (av (oI K A) (fun _=>E0) (ae (tCB (bS K) (ae (af 0) (aj))) (ae (tOp (bc K) (af 1) (tC (.int 1))) (aj))))))
def IK (K:W.Frag) (A:Adr):TS:=aG (mIf (aZ (tOp (bH K) (af 0) (tC (.int 0)))) (bn (ae (tC (.str "joint")) (ae (af 1) (ae (af 2) (aj))))) (bn (ae (tC (.str "joint")) (ae (af 2) (ae (af 1) (aj))))))
def BY (K:W.Frag) (A:Adr) (E:XK):TS:=ax (aV (cI (bM K (av (lB K A) (fun _=>E0) (ae (af 1) (ae (af 2) (aj)))))) (gb A.c_NoPlace (fun _=>E)) (aT)) (ax (aC (av (lY K A) (fun _=>E0) (ae (af 2) (ae (af 1) (aj)))) (au 4)) (ax (aV (cI (bM K (av (oB K A) (fun _=>E0) (ae (af 4) (ae (af 3) (aj)))))) (gb A.c_NoPaper (fun _=>E)) (aT)) (ax (aC (cF (ae (bn (ae (tC (.str "entry")) (ae (tOp (bc K) (af 3) (tC (.int 0))) (aj)))) (aj))) (au 5)) (ax (fJ (yH K (ae (tCB (qh K) (ae (af 4) (ae (tOp (bc K) (af 3) (tC (.int 1))) (aj)))) (aj))) (au 6) (cx (tBM K "list" cV (af 5) (ae (av (oS K A) (fun _=>E0) (ae (tOp (bc K) (af 6) (tC (.int 0))) (ae (gs (eU K A) (fun _=>E0) (af 0) (ae (tOp (bc K) (af 5) (tUn fg (tC (.int 1)))) (aj))) (ae (tOp (bc K) (af 6) (tC (.int 1))) (aj))))) (aj))))) (ax (cx (tBM K "list" cV (af 5) (ae (bn (ae (tC (.str "row")) (ae (af 1) (ae (gs (eU K A) (fun _=>E0) (af 0) (ae (tOp (bc K) (af 5) (tUn fg (tC (.int 1)))) (aj))) (aj))))) (aj)))) (aG (af 5)))))))
def CH (K:W.Frag) (A:Adr) (E:XK):TS:=aG (gs (eU K A) (fun _=>E0) (af 0) (ae (tOp (bc K) (av (lM K A) (fun _=>E) (ae (af 0) (ae (af 1) (ae (af 2) (ae (af 3) (aj)))))) (tUn fg (tC (.int 1)))) (aj)))
def Iq (K:W.Frag) (A:Adr):TS:=aG (cY (tCB (dS) (ae (af 0) (ae (tC (.ty "tuple")) (aj)))) (cY (tOp (bH K) (tCB (bS K) (ae (af 0) (aj))) (tC (.int 2))) (cY (av (lu K A) (fun _=>E0) (ae (tOp (bc K) (af 0) (tC (.int 0))) (aj))) (av (gw K A) (fun _=>E0) (ae (tOp (bc K) (af 0) (tC (.int 1))) (aj))))))
def AC (K:W.Frag) (A:Adr) (E:XK):TS:=aV (cI (bM K (av (lW K A) (fun _=>E0) (ae (af 0) (aj))))) (gb A.c_NoHead (fun _=>E)) (aT)
def T_0 (K:W.Frag) (A:Adr):TS:=ax (su K A.c_Broken (af 0) (af 1) "due") (su K A.c_Broken (af 0) (af 2) "came")
def AZ (K:W.Frag) (A:Adr) (E:XK):TS:=ax (cx (av (oE K A) (fun _=>E) (ae (af 1) (aj)))) (ax (aC (av (lN K A) (fun _=>E) (ae (af 0) (ae (tOp (bc K) (af 1) (tC (.int 0))) (ae (af 2) (ae (af 3) (aj)))))) (au 4)) (ax (aV (aZ (tOp (jo K) (af 4) (tOp (bc K) (af 1) (tC (.int 1))))) (rS A.c_Broken (sH K A) (fun _=>E) (ae (tOp (bc K) (af 1) (tC (.int 1))) (ae (af 4) (aj)))) (aT)) (aG (tOp (bc K) (af 3) (tC (.int 0))))))
def Hd (K:W.Frag) (A:Adr):TS:=ax (aC (tC .non) (au 5)) (ax (vR K (fun EH=>aV (aZ (tOp (bH K) (af 0) (tC (.int 0)))) (cx (av (lM K A) EH (ae (af 1) (ae (af 2) (ae (af 3) (ae (af 4) (aj))))))) (aV (aZ (tOp (bH K) (af 0) (tC (.int 1)))) (cx (av (lN K A) EH (ae (af 1) (ae (af 2) (ae (af 3) (ae (af 4) (aj))))))) (cx (av (la K A) EH (ae (af 1) (ae (af 2) (ae (af 3) (ae (af 4) (aj))))))))) (hAs K A.c_StampError 6 (aC (af 6) (au 5)) (lC)) (aT)) (aG (af 5)))
def Hk (K:W.Frag) (A:Adr):TS:=ax (aV (aZ (tOp (mGt) (tOp (bo) (af 0) (tC (.int 3))) (tC (.int 0)))) (aG (av (iq K A) (fun _=>E0) (ae (tOp (bw) (af 0) (tC (.int 3))) (aj)))) (aT)) (ax (aV (bM K (tCB (dS) (ae (af 1) (ae (tC (.ty "str")) (aj))))) (aG (tOp (bg K) (af 1) (tC (.str "0")))) (aT)) (aG (tCB (mI) (ae (af 1) (aj)))))
def IA (K:W.Frag) (A:Adr):TS:=ax (aC (cF (ae (tC .non) (ae (bn (ae (af 1) (aj))) (ae (bn (ae (af 1) (ae (af 2) (ae (af 2) (aj))))) (ae (cF (ae (af 1) (ae (af 2) (aj)))) (ae (bn (ae (tC (.bl true)) (ae (af 2) (aj)))) (ae (bn (ae (tOp (dB) (tUn fg (tC (.int 1))) (af 1)) (ae (af 2) (aj)))) (ae (bn (ae (tOp (gJ) (tC (.int 1)) (tC (.int 60))) (ae (af 2) (aj)))) (aj))))))))) (au 3)) (ax (aC (tOp (bg K) (af 3) (cF (ae (bn (ae (tCB (mI) (ae (af 1) (aj))) (ae (af 2) (aj)))) (ae (bn (ae (af 1) (ae (av (jT K A) (fun _=>E0) (ae (tOp (bw) (af 0) (tC (.int 10))) (aj))) (aj)))) (ae (af 2) (ae (hJ) (aj))))))) (au 3)) (aG (tOp (bc K) (af 3) (tOp (bo) (af 0) (tC (.int 11))))))
def rh (K:W.Frag) (A:Adr):TS:=aG (av (gA K A) (fun _=>E0) (ae (av (jG K A) (fun _=>E0) (ae (tC (.int 2)) (ae (af 0) (ae (bn (ae (tC (.int 0)) (ae (af 5) (aj)))) (ae (tC (.int 0)) (ae (bn (ae (tC (.str "")) (ae (bn (aj)) (aj)))) (aj))))))) (ae (tC (.int 1)) (aj))))
def Aa (K:W.Frag) (A:Adr):TS:=ax (aV (cI (bM K (av (gA K A) (fun _=>E0) (ae (av (jG K A) (fun _=>E0) (ae (tC (.int 2)) (ae (af 0) (ae (af 11) (ae (af 3) (ae (af 4) (aj))))))) (ae (af 9) (aj)))))) (aG (tC (.bl false))) (aT)) (rh K A)
def rA (K:W.Frag) (A:Adr):TS:=ax (aC (av (jC K A) (fun _=>E0) (ae (cF (ae (tOp (bc K) (af 6) (tC (.int 0))) (ae (tOp (bc K) (af 6) (tC (.int 1))) (ae (tOp (bc K) (af 6) (tC (.int 2))) (ae (af 12) (aj)))))) (aj))) (au 9)) (Aa K A)
def rT (K:W.Frag) (A:Adr):TS:=ax (fJ (iM K (cF (ae (bn (ae (af 11) (ae (lL (tOp (bc K) (af 6) (tC (.int 0)))) (aj)))) (ae (bn (ae (bn (ae (af 2) (ae (af 5) (aj)))) (ae (tC (.bl true)) (aj)))) (ae (bn (ae (bn (ae (tC (.int 0)) (ae (af 5) (aj)))) (ae (tC (.bl true)) (aj)))) (aj)))))) (mK K 2 (eK (au 13) (eK (au 14) mz))) (ax (aC (av (lW K A) (fun _=>E0) (ae (af 13) (aj))) (au 15)) (aV (mOr (cI (bM K (tCB (dS) (ae (af 15) (ae (tC (.ty "bool")) (aj)))))) (aZ (tOp (jo K) (af 15) (af 14)))) (aG (tC (.bl false))) (aT)))) (rA K A)
def zw (K:W.Frag) (A:Adr):TS:=ax (aV (bM K (tOp (bc K) (af 6) (tC (.int 0)))) (aC (av (nY K A) (fun _=>E0) (ae (tOp (bc K) (af 7) (tC (.int 0))) (ae (af 2) (ae (af 5) (aj))))) (au 11)) (aT)) (rT K A)
def qU (K:W.Frag) (A:Adr):TS:=ax (aC (tOp (jo K) (tOp (bc K) (af 11) (tC (.int 1))) (af 5)) (au 12)) (zw K A)
def AJ (K:W.Frag) (A:Adr):TS:=ax (aV (bM K (tOp (bc K) (af 6) (tC (.int 3)))) (aC (bn (ae (af 2) (ae (av (oh K A) (fun _=>E0) (ae (tOp (bc K) (af 7) (tC (.int 3))) (ae (af 5) (aj)))) (aj)))) (au 11)) (aT)) (qU K A)
def uc (K:W.Frag) (A:Adr):TS:=ax (aC (bn (ae (af 2) (ae (af 5) (aj)))) (au 11)) (AJ K A)
def uh (K:W.Frag) (A:Adr):TS:=ax (fJ (gp (ae (tC (.int 2)) (aj))) (au 10) (aV (cI (bM K (av (gA K A) (fun _=>E0) (ae (av (jG K A) (fun _=>E0) (ae (af 10) (ae (af 0) (ae (af 8) (ae (af 3) (ae (af 4) (aj))))))) (ae (af 9) (aj)))))) (aG (tC (.bl false))) (aT))) (uc K A)
def uA (K:W.Frag) (A:Adr):TS:=ax (aC (av (jC K A) (fun _=>E0) (ae (cF (ae (tC (.bl false)) (ae (tw (tOp (bc K) (af 6) (tC (.int 0))) (tOp (bc K) (af 6) (tC (.int 1)))) (ae (tOp (bc K) (af 6) (tC (.int 2))) (aj))))) (aj))) (au 9)) (uh K A)
def uj (K:W.Frag) (A:Adr):TS:=ax (aV (bM K (tOp (bc K) (af 6) (tC (.int 2)))) (aC (av (oG K A) (fun _=>E0) (ae (tOp (bc K) (af 7) (tC (.int 2))) (ae (af 4) (aj)))) (au 4)) (aT)) (uA K A)
def uW (K:W.Frag) (A:Adr):TS:=ax (aV (bM K (tOp (bc K) (af 6) (tC (.int 1)))) (aC (av (oj K A) (fun _=>E0) (ae (tOp (bc K) (af 7) (tC (.int 1))) (ae (af 2) (aj)))) (au 3)) (aT)) (uj K A)
def Ja (K:W.Frag) (A:Adr):TS:=ax (aC (dJ [1] (jU (ae (tC (.int 4)) (ae (tC (.int 8)) (aj)))) (fun _ H Q=>Q true H) (tOp (bH K) (tOp (bo) (av (dj K A) (fun _=>E0) (ae (af 1) (ae (af 0) (aj)))) (tC (.int 3))) (tC (.int 0)))) (au 6)) (ax (aC (dJ [1] (jU (ae (tC (.int 4)) (ae (tC (.int 8)) (aj)))) (fun _ H Q=>Q true H) (tOp (bw) (av (dj K A) (fun _=>E0) (ae (af 1) (ae (af 0) (aj)))) (tC (.int 3)))) (au 7)) (ax (aC (af 2) (au 8)) (ax (aV (bM K (tOp (bc K) (af 6) (tC (.int 0)))) (aC (av (pc K A) (fun _=>E0) (ae (tOp (bc K) (af 7) (tC (.int 0))) (ae (af 2) (aj)))) (au 8)) (aT)) (uW K A))))
def T_3 (K:W.Frag) (A:Adr):TS:=ax (ma K (af 0) (af 1) "stamper") (ax (ma K (af 0) (cF (aj)) "entries") (ma K (af 0) (hJ) "tops"))
def T_4 (K:W.Frag) (A:Adr) (E:XK):TS:=ax (aV (cI (bM K (av (gw K A) (fun _=>E0) (ae (af 1) (aj))))) (gb A.c_NoStamp (fun _=>E)) (aT)) (ax (cx (tBM K "list" cV (eF K (af 0) "entries") (ae (af 1) (aj)))) (aG (tOp (dB) (tCB (bS K) (ae (eF K (af 0) "entries") (aj))) (tC (.int 1)))))
def IW (K:W.Frag) (A:Adr):TS:=ax (aV (aZ (tOp (mGt) (tOp (bo) (af 0) (tC (.int 3))) (tC (.int 0)))) (aG (tOp (dB) (tOp (bo) (tOp (bw) (af 0) (tC (.int 3))) (tOp (bg K) (af 1) (tC (.int 3)))) (tC (.int 1)))) (aT)) (aG (av (jT K A) (fun _=>E0) (ae (tOp (bw) (af 0) (tC (.int 3))) (aj))))
def T_8 (K:W.Frag) (A:Adr):TS:=aG (tCB (bS K) (ae (eF K (af 0) "entries") (aj)))
def T_6 (K:W.Frag) (A:Adr):TS:=aG (cY (av (lB K A) (fun _=>E0) (ae (af 1) (ae (af 2) (aj)))) (tOp (mLe) (af 1) (cm A.c_Row "size" (mq K A) (fun _=>E0) (af 0) aj)))
def T_5 (K:W.Frag) (A:Adr) (E:XK):TS:=ax (aV (cI (bM K (cm A.c_Row "has_place" (qi K A) (fun _=>E0) (af 0) (ae (cm A.c_Row "size" (mq K A) (fun _=>E0) (af 0) aj) (ae (af 1) (aj)))))) (gb A.c_NoPlace (fun _=>E)) (aT)) (aG (tOp (bc K) (eF K (af 0) "entries") (af 1)))
def Ik (K:W.Frag) (A:Adr) (n:Nat):TS:=ax (aV (aZ (tOp (bH K) (af 2) (tC (.int 0)))) (aG (bn (ae (tC (.str "void")) (aj)))) (aT)) (ax (aV (aZ (tOp (bH K) (af 2) (tC (.int 1)))) (aG (bn (ae (tC (.str "entry")) (ae (tOp (bc K) (eF K (af 0) "entries") (af 1)) (aj))))) (aT)) (ax (aC (av (jK K A) (fun _=>E0) (ae (af 2) (aj))) (au 3)) (aG (bn (ae (tC (.str "joint")) (ae (cm A.c_Row "top_of" (gG K A n) (fun _=>E0) (af 0) (ae (af 1) (ae (af 3) (aj)))) (ae (cm A.c_Row "top_of" (gG K A n) (fun _=>E0) (af 0) (ae (tOp (bg K) (af 1) (af 3)) (ae (tOp (dB) (af 2) (af 3)) (aj)))) (aj))))))))
def T_9 (K:W.Frag) (A:Adr) (n:Nat):TS:=ax (aC (bn (ae (af 1) (ae (af 2) (aj)))) (au 3)) (ax (aV (aZ (tOp (mE K) (af 3) (eF K (af 0) "tops"))) (aC (uG (eU K A) A.c_Row "stamper" (fun _=>E0) (af 0) (ae (cm A.c_Row "top_term" (oW K A n) (fun _=>E0) (af 0) (ae (af 1) (ae (af 2) (aj)))) (aj))) (sC (eF K (af 0) "tops") (af 3) pb)) (aT)) (aG (tOp (bc K) (eF K (af 0) "tops") (af 3))))
def T_7 (K:W.Frag) (A:Adr) (E:XK):TS:=ax (aV (cI (bM K (cm A.c_Row "has_place" (qi K A) (fun _=>E0) (af 0) (ae (af 1) (ae (af 2) (aj)))))) (gb A.c_NoPlace (fun _=>E)) (aT)) (ax (aC (cF (aj)) (au 3)) (ax (aC (tC (.int 0)) (au 4)) (ax (aC (af 1) (au 5)) (ax (fJ (iM K (av (lY K A) (fun _=>E0) (ae (af 2) (ae (af 1) (aj))))) (au 6) (ax (aC (av (jK K A) (fun _=>E0) (ae (af 5) (aj))) (au 7)) (aV (aZ (tOp (bH K) (af 6) (tC (.int 0)))) (ax (cx (tBM K "list" cV (af 3) (ae (cm A.c_Row "top_of" (gG K A 70) (fun _=>E0) (af 0) (ae (tOp (bg K) (af 4) (af 7)) (ae (tOp (dB) (af 5) (af 7)) (aj)))) (aj)))) (aC (af 7) (au 5))) (ax (cx (tBM K "list" cV (af 3) (ae (cm A.c_Row "top_of" (gG K A 70) (fun _=>E0) (af 0) (ae (af 4) (ae (af 7) (aj)))) (aj)))) (ax (aC (tOp (bg K) (af 4) (af 7)) (au 4)) (aC (tOp (dB) (af 5) (af 7)) (au 5))))))) (aG (bn (ae (tOp (bc K) (eF K (af 0) "entries") (af 2)) (ae (tCB (qr K) (ae (af 3) (aj))) (aj)))))))))
def Hr (K:W.Frag) (A:Adr):TS:=ax (aC (tC .non) (au 4)) (ax (vR K (fun EH=>aV (aZ (tOp (bH K) (af 0) (tC (.int 0)))) (cx (cm A.c_Row "add" (qk K A) EH (af 1) (ae (af 2) (aj)))) (aV (aZ (tOp (bH K) (af 0) (tC (.int 1)))) (cx (cm A.c_Row "entry" (pO K A) EH (af 1) (ae (af 2) (aj)))) (cx (cm A.c_Row "place_paper" (sB K A) EH (af 1) (ae (af 2) (ae (af 3) (aj))))))) (hAs K A.c_StampError 5 (aC (af 5) (au 4)) (lC)) (aT)) (aG (af 4)))
def IC (K:W.Frag) (A:Adr):TS:=aG (cY (tCB (dS) (ae (af 0) (ae (tC (.ty "int")) (aj)))) (lL (tCB (dS) (ae (af 0) (ae (tC (.ty "bool")) (aj))))))
def IX (K:W.Frag) (A:Adr):TS:=aG (cY (av (oN K A) (fun _=>E0) (ae (af 0) (aj))) (eT (mLe) (mLt) (tC (.int 0)) (af 0) (af 1)))
def Hx (K:W.Frag) (A:Adr):TS:=ax (aC (lE A.c_Row (sM K A) (fun _=>E0) (ae (af 0) (aj))) (au 2)) (ax (aC (cF (aj)) (au 3)) (ax (fJ (jU (ae (tC (.int 8)) (ae (tOp (bg K) (tC (.int 8)) (tOp (bo) (av (dj K A) (fun _=>E0) (ae (af 1) (ae (tC (.int 3)) (aj)))) (tC (.int 9)))) (aj)))) (au 4) (ax (cx (tBM K "list" cV (af 3) (ae (av (iq K A) (fun _=>E0) (ae (tOp (bg K) (av (dj K A) (fun _=>E0) (ae (af 1) (ae (af 4) (aj)))) (af 4)) (aj))) (aj)))) (cx (cm A.c_Row "add" (qk K A) (fun _=>E0) (af 2) (ae (tOp (bc K) (af 3) (tUn fg (tC (.int 1)))) (aj)))))) (ax (fJ (jU (ae (tC (.int 17)) (ae (tOp (bg K) (tC (.int 17)) (tCB (wf) (ae (tCB (bS K) (ae (af 1) (aj))) (ae (tC (.int 12)) (aj))))) (aj)))) (au 4) (ax (aC (av (dj K A) (fun _=>E0) (ae (af 1) (ae (af 4) (aj)))) (au 5)) (ax (aC (av (lJ K A) (fun _=>E0) (ae (av (dj K A) (fun _=>E0) (ae (af 1) (ae (tOp (bg K) (af 4) (tC (.int 1))) (aj)))) (ae (tCB (bS K) (ae (af 3) (aj))) (aj)))) (au 6)) (ax (aC (av (lJ K A) (fun _=>E0) (ae (tOp (bw) (av (dj K A) (fun _=>E0) (ae (af 1) (ae (tOp (bg K) (af 4) (tC (.int 2))) (aj)))) (tC (.int 3))) (ae (tCB (bS K) (ae (af 3) (aj))) (aj)))) (au 7)) (ax (aC (av (oi K A) (fun _=>E0) (ae (tOp (bo) (af 5) (tC (.int 3))) (ae (af 2) (ae (af 6) (ae (af 7) (aj)))))) (au 8)) (ax (aC (tUn fg (tC (.int 1))) (au 9)) (ax (aV (jz (aZ (tOp (bH K) (tOp (bo) (af 5) (tC (.int 3))) (tC (.int 0)))) (jz (cI (bM K (tCB (dS) (ae (af 6) (ae (tC (.ty "str")) (aj)))))) (cI (bM K (av (iu K A) (fun _=>E0) (ae (af 6) (ae (tOp (jf) (tC (.int 10)) (tC (.int 60))) (aj)))))))) (aC (tC (.int 4)) (au 9)) (aT)) (ax (aV (jz (aZ (tOp (bH K) (tOp (bo) (af 5) (tC (.int 3))) (tC (.int 1)))) (cI (bM K (av (iu K A) (fun _=>E0) (ae (af 6) (ae (tCB (bS K) (ae (af 3) (aj))) (aj))))))) (aC (tC (.int 1)) (au 9)) (aT)) (ax (aV (jz (aZ (tOp (bH K) (tOp (bo) (af 5) (tC (.int 3))) (tC (.int 2)))) (mOr (cI (bM K (av (iu K A) (fun _=>E0) (ae (af 6) (ae (tOp (bg K) (tCB (bS K) (ae (af 3) (aj))) (tC (.int 1))) (aj)))))) (cI (bM K (av (iu K A) (fun _=>E0) (ae (af 7) (ae (af 6) (aj)))))))) (aC (tC (.int 1)) (au 9)) (aT)) (ax (aV (cI (bM K (av (gA K A) (fun _=>E0) (ae (af 8) (ae (af 9) (aj)))))) (aG (tC (.bl false))) (aT)) (aV (jz (aZ (tOp (bH K) (tOp (bo) (af 5) (tC (.int 3))) (tC (.int 0)))) (aZ (tOp (mLt) (af 9) (tC (.int 0))))) (cx (tBM K "list" cV (af 3) (ae (af 6) (aj)))) (aT)))))))))))) (aG (cY (tOp (bH K) (cm A.c_Row "size" (mq K A) (fun _=>E0) (af 2) aj) (tCB (bS K) (ae (af 3) (aj)))) (tOp (bH K) (dJ [2] (gp (ae (tCB (bS K) (ae (af 3) (aj))) (aj))) (fun _ H Q=>Q true H) (cm A.c_Row "entry" (pO K A) (fun _=>E0) (af 1) (ae (af 0) (aj)))) (af 3)))))))
def BW (K:W.Frag) (A:Adr):TS:=aG (av (oY K A) (fun _=>E0) (ae (af 1) (ae (af 0) (aj))))
def Bs (K:W.Frag) (A:Adr):TS:=ax (aV (aZ (tOp (jo K) (av (la K A) (fun _=>E0) (ae (af 1) (ae (bn (ae (af 2) (ae (af 7) (aj)))) (ae (af 3) (ae (af 6) (aj)))))) (tOp (bc K) (af 6) (tC (.int 0))))) (aG (tC (.bl false))) (aT)) (BW K A)
def Bp (K:W.Frag) (A:Adr):TS:=ax (aV (cI (bM K (av (oa K A) (fun _=>E0) (ae (af 1) (ae (af 0) (ae (af 2) (ae (af 3) (ae (af 6) (ae (af 7) (aj)))))))))) (aG (tC (.bl false))) (aT)) (Bs K A)
def CA (K:W.Frag) (A:Adr):TS:=ax (aC (av (oo K A) (fun _=>E0) (ae (af 1) (ae (af 2) (ae (af 4) (ae (af 6) (aj)))))) (au 7)) (Bp K A)
def AX (K:W.Frag) (A:Adr):TS:=ax (aC (bn (ae (av (iq K A) (fun _=>E0) (ae (av (dj K A) (fun _=>E0) (ae (af 0) (ae (tC (.int 8)) (aj)))) (aj))) (ae (tCB (qr K) (ae (af 5) (aj))) (aj)))) (au 6)) (CA K A)
def Cw (K:W.Frag) (A:Adr):TS:=ax (aC (dJ [0] (gp (ae (tCB (bS K) (ae (af 4) (aj))) (aj))) (fun _ H Q=>Q true H) (av (iq K A) (fun _=>E0) (ae (tOp (bg K) (av (dj K A) (fun _=>E0) (ae (af 1) (ae (tOp (bg K) (tC (.int 9)) (af 0)) (aj)))) (tOp (iE) (tC (.int 5)) (af 0))) (aj)))) (au 5)) (AX K A)
def ve (K:W.Frag) (A:Adr):TS:=ax (aC (av (oM K A) (fun _=>E0) (ae (af 3) (ae (af 2) (aj)))) (au 4)) (Cw K A)
def HM (K:W.Frag) (A:Adr):TS:=ax (aC (av (ou K A) (fun _=>E0) (ae (av (dj K A) (fun _=>E0) (ae (af 0) (ae (tC (.int 0)) (aj)))) (aj))) (au 1)) (ax (aC (av (oQ K A) (fun _=>E0) (ae (av (dj K A) (fun _=>E0) (ae (af 0) (ae (tC (.int 1)) (aj)))) (aj))) (au 2)) (ax (aC (tOp (bo) (av (dj K A) (fun _=>E0) (ae (af 0) (ae (tC (.int 2)) (aj)))) (af 2)) (au 3)) (ve K A)))
variable {K:W.Frag} {mg:Str→Option Value} {A:Adr}
def tyD:Dat→String
 | .non=> "NoneType"
 | .bl _=> "bool"
 | .int _=> "int"
 | .str _=> "str"
 | .lst _=> "list"
 | .tup _=> "tuple"
 | .dic=> "dict"
theorem aF.ty {H:Hp} {v:V} {d:Dat} (h:aF H v d):tyN H v=some (tyD d):=by
 cases h with
 | lst e _=>unfold tyN;dsimp only;rw [e];rfl
 | tup e _=>unfold tyN;dsimp only;rw [e];rfl
 | dic e=>unfold tyN;dsimp only;obtain ⟨kvs,e⟩:=e;rw [e];rfl
 | _=>rfl
theorem CU {z:Str} (h:bY z=true):PyData.strOk z=true:=by
 unfold PyData.strOk
 unfold bY at h
 rw [Array.all_eq_true] at h ⊢
 intro i hi
 have:=of_decide_eq_true (h i hi)
 exact decide_eq_true (by omega)
theorem DatWs.len {H:Hp}:∀ {xs:List V} {ds:List Dat},DatWs H xs ds→xs.length=ds.length
 | _,_,.nil=>rfl
 | _,_,.cons _ r=>by rw [List.length_cons,List.length_cons,r.len]
theorem DatWs.get {H : Hp} : ∀ {xs : List V} {ds : List Dat}, DatWs H xs ds → ∀ {i : Nat} {x : V}, xs[i]? = some x → ∃ d, ds[i]? = some d ∧ aF H x d
  | _, _, .nil, i, x, e => by cases e
  | _, _, .cons a r, i, x, e => by
    cases i with
    | zero => cases e; exact ⟨_, rfl, a⟩
    | succ i => exact r.get e
mutual
theorem aF.mono {H H':Hp} {v:V} {d:Dat} (s:aq H H') (h:aF H v d):aF H' v d:=by
 cases h with
 | non=>exact .non
 | bl b=>exact .bl b
 | int i=>exact .int i
 | str z=>exact .str z
 | lst e r=>exact .lst (s _ _ e) (DatWs.mono s r)
 | tup e r=>exact .tup (s _ _ e) (DatWs.mono s r)
 | dic e=>exact (let ⟨k,e⟩:=e;.dic ⟨k,s _ _ e⟩)
theorem DatWs.mono {H H':Hp} {xs:List V} {ds:List Dat} (s:aq H H') (h:DatWs H xs ds):DatWs H' xs ds:=by
 cases h with
 | nil=>exact .nil
 | cons a r=>exact .cons (aF.mono s a) (DatWs.mono s r)
end
theorem ixT {K:W.Frag} {H:Hp} {Q:VK} {a:Addr} {xs:List V} {x:V} {i:Int} {j:Nat} (ha:H a=some (.tup xs)) (e:i=j) (hx:xs[j]?=some x) (q:Q x H):bc K (.ref a) (.int i) H Q:=by
 subst e
 refine .inl (.inr (.inl ⟨a,xs,j,x,rfl,rfl,SqT.of ha,?_,q⟩))
 have hj:=(List.getElem?_eq_some_iff.mp hx).1
 rw [qx (by omega) (by omega)]
 simp [List.getD_eq_getElem?_getD,hx]
theorem BV (K:W.Frag) (A:Adr):Ln (iD K A) 1:=by rintro vs H Q E ⟨v,d,rfl,_⟩;rfl
theorem DP (T:Txt K mg A) (vs:List V) (H:Hp) (Q:VK) (E:XK) (h:iD K A vs H Q E):IE K A { nx:=fun _ H'=>Q .non H',rt:=Q } (start ["thing"] vs) H:=by
 obtain ⟨v,d,rfl,w,q⟩:=h
 refine ⟨by decide,_,w.ty,?_⟩
 cases d
 case int i=>exact Sel.yes rfl ⟨by decide,_,w.ty,q⟩
 case bl b=>exact Sel.yes rfl ⟨by decide,_,w.ty,q⟩
 all_goals exact Sel.no rfl q
theorem Az (K:W.Frag) (A:Adr):Ln (gw K A) 1:=by rintro vs H Q E ⟨v,d,rfl,_⟩;rfl
theorem FC (T : Txt K mg A) (vs : List V) (H : Hp) (Q : VK) (E : XK) (h : gw K A vs H Q E) : Ih K A { nx := fun _ H' => Q .non H', rt := Q } (start ["thing"] vs) H := by
  obtain ⟨v, d, rfl, w, q⟩ := h
  refine ⟨v, d, rfl, w, ?_⟩
  cases w with
  | int i =>
    refine Sel.yes rfl (Sel.dec (fun h0 => ⟨⟨by decide, by decide, by decide⟩, ?_⟩) (fun h0 => ?_))
    · show Q (.bl (decide (i < 10 ^ ((60 : Int).toNat)))) H
      have e : aK (.int i) = decide (i < 10 ^ ((60 : Int).toNat)) := by
        show decide (0 ≤ i ∧ i < 10 ^ 60) = decide (i < 10 ^ 60)
        by_cases h1 : i < 10 ^ 60
        · rw [decide_eq_true h1, decide_eq_true ⟨h0, h1⟩]
        · rw [decide_eq_false h1, decide_eq_false fun z => h1 z.2]
      rw [← e]; exact q
    · have e : aK (.int i) = false := decide_eq_false fun z => h0 z.1
      rw [← e]; exact q
  | non => exact Sel.no rfl ⟨by decide, _, rfl, q⟩
  | bl b => exact Sel.no rfl ⟨by decide, _, rfl, q⟩
  | str z => exact Sel.no rfl ⟨by decide, _, rfl, q⟩
  | lst e r => exact Sel.no rfl ⟨by decide, _, (aF.lst e r).ty, q⟩
  | tup e r => exact Sel.no rfl ⟨by decide, _, (aF.tup e r).ty, q⟩
  | dic e => exact Sel.no rfl ⟨by decide, _, (aF.dic e).ty, q⟩
theorem nF {x y:Str} (h1:bY x=true) (h2:bY y=true):bY (x++y)=true:=by
 unfold bY at h1 h2 ⊢
 show (x.cps++y.cps).all _=true
 rw [Array.all_append,h1,h2];rfl
theorem BI (H:Hp) (m:Key):aF H (kV m) (bB m):=by cases m <;> constructor
theorem Bq {H : Hp} {ps : List Addr} {ts : List (List Key)} (h : PK H ps ts) : ∀ {i : Nat} {t : List Key}, ts[i]? = some t → ∃ p, ps[i]? = some p ∧ H p = some (.tup (t.map kV)) ∧ okT t = true := by
  induction h with
  | nil => intro i t e; cases e
  | cons r _ ih =>
    intro i t e
    cases i with
    | zero => cases e; exact ⟨_, rfl, r⟩
    | succ i => exact ih e
theorem pX {H:Hp} {ps:List Addr} {ts:List (List Key)} (h:PK H ps ts):ps.length=ts.length:=Paired.length h
theorem mF {k:List Key} (h:okT k=true):1≤k.length∧k.length≤8:=by
 unfold okT at h
 simp only [Bool.and_eq_true] at h
 exact of_decide_eq_true h.1.1
theorem gU {k:List Key} (h:okT k=true):k.all okP=true:=by
 unfold okT at h
 rw [Bool.and_eq_true] at h
 exact h.2
theorem mG {k:List Key} {x:Key} (h:okT k=true) (hx:x∈k):okP x=true:=List.all_eq_true.mp (gU h) x hx
theorem xj {k : List Key} (h : okT k = true) : ∃ z r, k = .inr z :: r := by
  unfold okT at h
  simp only [Bool.and_eq_true] at h
  cases k with
  | nil => cases h.1.2
  | cons x r =>
    cases x with
    | inl i => cases h.1.2
    | inr z => exact ⟨z, r, rfl⟩
theorem vU {x:Key} (h:okP x=true):aK (bB x)=true:=by
 cases x with
 | inl i=>exact h
 | inr z=>rfl
theorem jt {i:Int} (h0:0≤i) (h1:i<10^60):i.natAbs.log2<1920:=by
 by_cases e:i.natAbs=0
 · rw [e];decide
 · refine (Nat.log2_lt e).mpr ?_
   have:i.natAbs<10^60:=by omega
   exact Nat.lt_of_lt_of_le this (by decide +kernel)
theorem eO {i:Int} (h0:0≤i) (h1:i<10^60):((toString i:String):Str).length≤61:=by
 have:i.natAbs<10^60:=by omega
 have:=int_text_length_le10 (k:=60) (by decide) this
 show (Str.ofString _).length≤_
 rw [PySem.ofString_length];exact this
theorem fT (s:String) (h:s.length=1:=by rfl):(s:Str).length=1:=by
 show (Str.ofString s).length=1
 rw [PySem.ofString_length];exact h
theorem nI {x : Key} (h : okP x = true) : (eA x).length ≤ szK x := by
  cases x with
  | inl i =>
    have h := of_decide_eq_true h
    have := eO h.1 h.2
    show (((toString i : String) : Str) ++ ((";" : String) : Str)).length ≤ 62
    rw [strLen_append, fT ";"]; omega
  | inr z =>
    have h := of_decide_eq_true (Bool.and_eq_true_iff.mp h).2
    have := eO (i := (z.length : Int)) (by omega) (by omega)
    show (((toString (z.length : Int) : String) : Str) ++ ((":" : String) : Str) ++ z).length ≤ z.length + 62
    rw [strLen_append, strLen_append, fT ":"]; omega
theorem Dl {x : Key} (h : okP x = true) : szK x ≤ 100062 := by
  cases x with
  | inl i => show 62 ≤ 100062; decide
  | inr z =>
    have h := of_decide_eq_true (Bool.and_eq_true_iff.mp h).2
    show z.length + 62 ≤ 100062; omega
theorem pe:∀ xs:List Key,fL xs=(xs.map eA).foldr (·++·) Str.empty
 | []=>rfl
 | x::r=>by show eA x++fL r=eA x++_;rw [pe r]
theorem nE : ∀ {k : List Key}, k.all okP = true → (fL k).length ≤ szT k
  | [], _ => by show Str.empty.length ≤ 0; decide
  | x :: r, h => by
    rw [List.all_cons, Bool.and_eq_true] at h
    have h1 := nI h.1
    have h2 := nE h.2
    show (eA x ++ fL r).length ≤ ((x :: r).map szK).sum
    rw [strLen_append, List.map_cons, List.sum_cons]
    unfold szT at h2
    omega
theorem ie {x y:Str} (h1:bY x=true) (h2:bY y=true):bY (x++y)=true:=nF h1 h2
theorem xV {z:Str} (h:∀ c∈z.cps.toList,c<128):bY z=true:=by
 unfold bY
 rw [Array.all_eq_true]
 intro i hi
 exact decide_eq_true (h _ (by simp))
theorem Ad (n:Nat):bY ((toString (n:Int):String):Str)=true:=by
 refine xV fun c hc=>?_
 rw [W.KIN.signs_num n] at hc
 obtain ⟨ch,hch,e⟩:=List.mem_map.mp hc
 have:=digit_range (Nat.isDigit_of_mem_toDigits (by decide) (by decide) hch)
 rw [← e];omega
theorem mL {i:Int} (h:0≤i):bY ((toString i:String):Str)=true:=by
 obtain ⟨n,rfl⟩:=Int.eq_ofNat_of_zero_le h
 exact Ad n
theorem uP {x : Key} (h : okP x = true) : bY (eA x) = true := by
  cases x with
  | inl i =>
    have h := of_decide_eq_true h
    exact ie (mL h.1) (by decide +kernel)
  | inr z =>
    have h := (Bool.and_eq_true_iff.mp h).1
    exact ie (ie (mL (by omega)) (by decide +kernel)) h
theorem nj : ∀ {k : List Key}, k.all okP = true → bY (fL k) = true
  | [], _ => by decide +kernel
  | x :: r, h => by
    rw [List.all_cons, Bool.and_eq_true] at h
    exact ie (uP h.1) (nj h.2)
theorem re : ∀ {k : List Key}, k.all okP = true → szT k ≤ k.length * 100062
  | [], _ => by decide
  | x :: r, h => by
    rw [List.all_cons, Bool.and_eq_true] at h
    have h1 := Dl h.1
    have h2 := re h.2
    show ((x :: r).map szK).sum ≤ _
    rw [List.map_cons, List.sum_cons, List.length_cons, Nat.succ_mul]
    unfold szT at h2
    omega
theorem qq : ∀ {k : List Key}, k.all okP = true → ((k.map eA).map (·.length)).sum ≤ szT k
  | [], _ => by decide
  | x :: r, h => by
    rw [List.all_cons, Bool.and_eq_true] at h
    have h1 := nI h.1
    have h2 := qq h.2
    show (((x :: r).map eA).map (·.length)).sum ≤ ((x :: r).map szK).sum
    rw [List.map_cons, List.map_cons, List.sum_cons, List.map_cons, List.sum_cons]
    unfold szT at h2
    omega
theorem Bt (K:W.Frag) (A:Adr):Ln (lG K A) 1:=by rintro vs H Q E ⟨p,k,rfl,_⟩;rfl
theorem GB (T:Txt K mg A):Rd (lG K A) (Ho K A) ["thing"]:=by
 intro vs H Q E h
 obtain ⟨p,k,rfl,hp,ok,q⟩:=h
 obtain ⟨l1,l8⟩:=mF ok
 obtain ⟨z,r,hk⟩:=xj ok
 have ty:tyN H (.ref p)=some "tuple" :=by unfold tyN;dsimp only;rw [hp]
 refine ⟨by decide, "tuple",ty,Sel.no rfl (.inl (.inr (.inl ⟨_,SqT.of hp,?_⟩)))⟩
 refine Sel.dec (fun h1=>?_) (fun h1=>absurd (by simp;omega) h1)
 refine Sel.ndec (fun h8=>absurd (by simp;omega) h8) (fun h8=>?_)
 refine ixT (j:=0) hp rfl (by rw [hk];rfl) ⟨by decide, "str",rfl,Sel.yes rfl ?_⟩
 refine ⟨p,rfl,.inr ⟨⟨_,SqT.of hp⟩,fun D hD=>?_⟩⟩
 have hne:p≠D:=aw hp hD
 have hml:(k.map kV).length=k.length:=by simp
 refine dQ (cS.tuple (xs:=k.map kV) .non) (fun i ys H2=>ys=(k.take i).map (fun x=>V.bl true)∧H2=upd H D (.lst ys)) (fun i ys H2 hi ⟨_,e2⟩=>?_) ⟨rfl,rfl⟩ (fun i ys H2 hi ⟨e1,e2⟩=>?_) (fun ys H2 ⟨e1,e2⟩=>?_)
 · rw [e2];exact SqT.of (by rw [ao hne];exact hp)
 · subst e2
   have hi':i<k.length:=by omega
   obtain ⟨x,hx⟩:∃ x,k[i]?=some x:=⟨_,List.getElem?_eq_getElem hi'⟩
   have hg:(k.map kV).getD i .non=kV x:=by rw [List.getD_eq_getElem?_getD,List.getElem?_map,hx];rfl
   rw [hg]
   have hs:=vU (mG ok (List.mem_of_getElem? hx))
   refine gH ⟨_,bB x,rfl,BI _ x,?_⟩
   rw [hs]
   have hyl:ys.length=i:=by rw [e1,List.length_map,List.length_take];omega
   refine ⟨ai,by rw [hyl];exact bx (by omega),CWd.next hi ⟨?_,cU⟩⟩
   rw [e1,List.take_add_one,List.map_append,hx];rfl
 · subst e2
   refine ⟨D,k.map fun _=>true,rfl,by rw [ai,e1,hml,List.take_length,List.map_map];rfl,?_⟩
   have:(k.map fun _=>true).all id=true:=by simp
   rw [this];exact q _ (aq.upd hD)
theorem AS (K:W.Frag) (A:Adr):Ln (og K A) 1:=by rintro vs H Q E ⟨v,rfl,_⟩;rfl
theorem En (T : Txt K mg A) : Rd (og K A) (Iy K A) ["part", "signs"] := by
  intro vs H Q E h
  obtain ⟨v, rfl, hp, q⟩ := h
  cases v with
  | inl i =>
    have h := of_decide_eq_true hp
    have l := eO h.1 h.2
    refine ⟨.int i, .int i, rfl, .int i, Sel.t ?_⟩
    have e1 : Str.empty ++ ((toString i : String) : Str) = ((toString i : String) : Str) := Str.empty_append _
    have l2 : (((toString i : String) : Str) ++ ((";" : String) : Str)).length ≤ sizeLine := by rw [strLen_append, fT ";"]; exact ay (by omega)
    refine ⟨jt h.1 h.2, by rw [e1]; exact ay (by omega), ?_, ?_, ?_⟩ <;> rw [e1]
    · exact l2
    · exact l2
    · exact q
  | inr z =>
    have h := of_decide_eq_true (Bool.and_eq_true_iff.mp hp).2
    have l := eO (i := (z.length : Int)) (by omega) (by omega)
    refine ⟨.str z, .str z, rfl, .str z, Sel.f ?_⟩
    have e1 : Str.empty ++ ((toString (z.length : Int) : String) : Str) = ((toString (z.length : Int) : String) : Str) := Str.empty_append _
    have l2 : (((toString (z.length : Int) : String) : Str) ++ ((":" : String) : Str)).length ≤ sizeLine := by rw [strLen_append, fT ":"]; exact ay (by omega)
    have l3 : (((toString (z.length : Int) : String) : Str) ++ ((":" : String) : Str) ++ z).length ≤ sizeLine := by rw [strLen_append, strLen_append, fT ":"]; exact ay (by omega)
    refine .inl ⟨ay (by omega), jt (by omega) (by omega), by rw [e1]; exact ay (by omega), ?_, ay (by omega), ?_, ?_, ?_⟩ <;> rw [e1]
    · exact l2
    · exact l3
    · exact l3
    · exact q
theorem CO (K:W.Frag) (A:Adr):Ln (lc K A) 1:=by rintro vs H Q E ⟨p,k,rfl,_⟩;rfl
theorem GU (T:Txt K mg A):Rd (lc K A) (Hl K A) ["term"]:=by
 intro vs H Q E h
 obtain ⟨p,k,rfl,hp,ok,q⟩:=h
 refine ⟨p,k,rfl,hp,ok,fun H' s=>Sel.no rfl ?_⟩
 have hp':=s _ _ hp
 have hml:(k.map kV).length=k.length:=by simp
 obtain ⟨l1,l8⟩:=mF ok
 refine ⟨rfl,⟨p,rfl,.inr ⟨⟨_,SqT.of hp'⟩,fun D hD=>?_⟩⟩⟩
 have hne:p≠D:=aw hp' hD
 refine dQ (cS.tuple (xs:=k.map kV) .non) (fun i ys H2=>ys=(k.take i).map (fun x=>V.str (eA x))∧H2=upd H' D (.lst ys)) (fun i ys H2 hi ⟨_,e2⟩=>?_) ⟨rfl,rfl⟩ (fun i ys H2 hi ⟨e1,e2⟩=>?_) (fun ys H2 ⟨e1,e2⟩=>?_)
 · rw [e2];exact SqT.of (by rw [ao hne];exact hp')
 · subst e2
   have hi':i<k.length:=by omega
   obtain ⟨x,hx⟩:∃ x,k[i]?=some x:=⟨_,List.getElem?_eq_getElem hi'⟩
   have hg:(k.map kV).getD i .non=kV x:=by rw [List.getD_eq_getElem?_getD,List.getElem?_map,hx];rfl
   rw [hg]
   refine gH ⟨x,rfl,mG ok (List.mem_of_getElem? hx),?_⟩
   have hyl:ys.length=i:=by rw [e1,List.length_map,List.length_take];omega
   refine ⟨ai,by rw [hyl];exact bx (by omega),CWd.next hi ⟨?_,cU⟩⟩
   rw [e1,List.take_add_one,List.map_append,hx];rfl
 · subst e2
   refine ⟨"",D,k.map eA,rfl,rfl,by rw [ai,e1,hml,List.take_length,List.map_map];rfl,?_,?_⟩
   · have h1:=qq (gU ok)
     have h2:=re (gU ok)
     have e0:(("" :String):Str).length=0:=by decide
     rw [e0]
     have:k.length*100062≤8*100062:=Nat.mul_le_mul_right _ l8
     omega
   · rw [md,←pe]
     exact q _ (s.trans (aq.upd hD))
theorem DJ (K:W.Frag) (A:Adr):Ln (sj K A) 1:=by rintro vs H Q E ⟨x,dx,rfl,_⟩;rfl
theorem IQ (T:Txt K mg A):Rd (sj K A) (T_1 K A) ["self"]:=by
 intro vs H Q E h
 obtain ⟨x,dx,rfl,hx,q⟩:=h
 exact .inr fun d hd=>⟨x,A.c_Numbers,dx,[],rfl,by rw [ao (aw hx hd)];exact hx,T.cl_Numbers,T.na_Numbers_given,by decide,q d hd⟩
theorem fO.mono {H H':Hp} {x d:Addr} {kvs:List (List Key×V)} (s:aq H H') (n:fO A H x d kvs):fO A H' x d kvs:=by
 obtain ⟨⟨dx,h1⟩,h2⟩:=n
 exact ⟨⟨dx,s _ _ h1⟩,s _ _ h2⟩
theorem fO.hide {H:Hp} {x d:Addr} {kvs:List (List Key×V)} {cs:List Addr} {cvs:List V} (hc:cq H cs cvs) (n:fO A H x d kvs):fO A (cA cs H) x d kvs:=by
 obtain ⟨⟨dx,h1⟩,h2⟩:=n
 exact ⟨⟨dx,hc.hide h1 (fun _ z=>nomatch z)⟩,hc.hide h2 (fun _ z=>nomatch z)⟩
theorem Fw (K:W.Frag) (A:Adr):Ln (tG K A) 2:=by rintro vs H Q E ⟨x,d,p,kvs,k,rfl,_⟩;rfl
theorem HN (T : Txt K mg A) : Rd (tG K A) (T_2 K A) ["self", "term"] := by
  intro vs H Q E h
  obtain ⟨x, d, a, kvs, k, rfl, nu, hl, hp, ok, q⟩ := h
  refine ⟨a, k, rfl, hp, ok, fun H' s => Sel.no rfl ?_⟩
  have ta' := s _ _ hp
  obtain ⟨⟨dx, hx⟩, hd⟩ := nu.mono s
  have q := q H' s
  have g := eN.t hd ta'
  refine ⟨x, A.c_Numbers, dx, _, .ref d, rfl, hx, T.cl_Numbers, T.na_Numbers_given, rfl, .inl ⟨d, bW kvs k, rfl, g, ?_⟩⟩
  unfold iP io at q
  cases e : bW kvs k with
  | some w =>
    rw [e] at q g
    have q : Q w H' := q
    exact Sel.no rfl ⟨x, A.c_Numbers, dx, _, .ref d, rfl, hx, T.cl_Numbers, T.na_Numbers_given, rfl, .inr ⟨d, w, rfl, g, q⟩⟩
  | none =>
    rw [e] at q g
    have q : Q (.int kvs.length) (upd H' d (.dT (bT kvs k (.int kvs.length)))) := q
    have hx' : upd H' d (.dT (bT kvs k (.int kvs.length))) x = some (.ins A.c_Numbers dx [("given", .ref d)]) := by rw [ao (bG hx hd (fun z => nomatch z))]; exact hx
    have ha' : upd H' d (.dT (bT kvs k (.int kvs.length))) a = some (.tup (k.map kV)) := by rw [ao (bG ta' hd (fun z => nomatch z))]; exact ta'
    refine Sel.yes rfl ⟨x, A.c_Numbers, dx, _, .ref d, rfl, hx, T.cl_Numbers, T.na_Numbers_given, rfl, .inr ⟨d, kvs, rfl, hd, x, A.c_Numbers, dx, _, .ref d, rfl, hx, T.cl_Numbers, T.na_Numbers_given, rfl, .inr ⟨d, _, rfl, .inr ⟨kvs, k, a, hd, rfl, ta', Nat.lt_of_le_of_lt hl (ay (n := 50001) (by decide)), rfl⟩, ?_⟩⟩⟩
    have g2 := eN.t (kvs := bT kvs k (.int kvs.length)) (k := k) ai ha'
    rw [kF, if_pos rfl] at g2
    exact ⟨x, A.c_Numbers, dx, _, .ref d, rfl, hx', T.cl_Numbers, T.na_Numbers_given, rfl, .inr ⟨d, _, rfl, g2, q⟩⟩
theorem Gb (T:Txt K mg A) (a0:V) (H:Hp) (Q:VK) (E:XK) (h:si K A [a0] H Q E):CK K A (dI ["term"] [a0] []) H Q:=h
theorem FP (T:Txt K mg A) (a0 b0:V) (H:Hp) (Q:VK) (E:XK) (h:sR K A [a0,b0] H Q E):Cs K A (dI ["term", "numbers"] [a0] [b0]) H Q:=by
 obtain ⟨x,d,p,kvs,k,e,nu,hl,hp,ok,h⟩:=h
 cases e
 obtain ⟨dx,hx⟩:=nu.ob
 exact ⟨x,dx,_,rfl,hx,rfl,x,d,p,kvs,k,rfl,nu,hl,hp,ok,h⟩
theorem AR {H:Hp} {b p:Addr} {kvs:List (List Key×V)} {kk:List Key} {d:V} (hb:H b=some (.dT kvs)) (hp:H p=some (.tup (kk.map kV))) (hl:kvs.length≤50000):
  Ay H b (.ref p) d (iP kvs kk d) (io H b kvs kk d):=by
 unfold iP io
 have g:=eN.t hb hp
 cases e:bW kvs kk with
 | some v=>rw [e] at g;exact .inl ⟨g,if_pos rfl⟩
 | none=>rw [e] at g;exact .inr ⟨g,.inr ⟨kvs,kk,p,hb,rfl,hp,Nat.lt_of_le_of_lt hl (ay (n:=50001) (by decide)),if_neg (by decide)⟩,rfl⟩
theorem bJ.trans {P:Addr} {H H1 H2:Hp} (a:bJ P H H1) (b:bJ P H1 H2):bJ P H H2:=fun x o e n=>b x o (a x o e n) n
theorem bJ.new {P p:Addr} {H:Hp} {o:HO} (h:H p=none):bJ P H (upd H p o):=fun b u e _=>by rw [ao (aw e h)];exact e
theorem bJ.tab {P:Addr} {H:Hp} {o:HO}:bJ P H (upd H P o):=fun b u e n=>by rw [ao n];exact e
theorem bX {H:Hp} {P q:Addr} {o:HO} (hP:H P=some o) (hq:H q=none):q≠P:=fun e=>by rw [e,hP] at hq;cases hq
theorem cr {H:Hp} {p q:Addr} {o:HO} (h:upd H p o q=none):q≠p∧H q=none:=by
 by_cases e:q=p
 · subst e;rw [ai] at h;cases h
 · rw [ao e] at h;exact ⟨e,h⟩
theorem zg {H:Hp} {P c f q:Addr} {o1 o2:HO} {t:cT} {v:V} (hP:H P=some o1) (hc:H c=none) (hf:H f=none) (hne:c≠f) (hq:upd (upd (upd H P o2) c (cH c t.qual)) f (de f t [q] c) q=none):
  bJ P H (upd (upd (upd (upd H P o2) c (cH c t.qual)) f (de f t [q] c)) q (cj q v))∧dq (upd (upd (upd (upd H P o2) c (cH c t.qual)) f (de f t [q] c)) q (cj q v)) f t [q] [v]:=by
 have c1:upd H P o2 c=none:=by rw [ao (bX hP hc)];exact hc
 have f1:upd (upd H P o2) c (cH c t.qual) f=none:=by rw [ao (Ne.symm hne),ao (bX hP hf)];exact hf
 have S3:=bJ.new (P:=P) (o:=cj q v) hq
 have S2:=(bJ.new (P:=P) (o:=de f t [q] c) f1).trans S3
 have S1:=(bJ.new (P:=P) (o:=cH c t.qual) c1).trans S2
 exact ⟨bJ.tab.trans S1,⟨⟨c,S3 _ _ ai (bX hP hf),S2 _ _ ai (bX hP hc)⟩,.cons ai .nil⟩⟩
theorem pW:fG []:=fun p hp=>nomatch hp
theorem sm.of {P:Addr} {H H':Hp} {ps:Array Value} (hP:H P=some (.tbl ps)) (k:bJ P H H'):sm H H':=fun b o e n=>k b o e fun z=>by subst z;rw [hP] at e;cases e;exact n _ rfl
theorem tV {x:Int} (h:x.natAbs<2^64):Builtin.Int.intBits x≤64:=by
 unfold Builtin.Int.intBits
 split
 · decide
 · rename_i hx
   have hx:x≠0:=by simpa using hx
   have:x.natAbs.log2<64:=(Nat.log2_lt (by omega)).mpr h
   omega
theorem Cd {x y:Int} (h0:0≤x) (h:x<2^64):IntMulOk x y:=IntMulOk.of_left (tV (by omega))
theorem Hg {x y:Int} (h0:0≤y) (h:y<2^64):IntMulOk x y:=IntMulOk.of_right (tV (by omega))
theorem Dm {H:Hp} {P c f q0 q1:Addr} {o1 o2:HO} {t:cT} {v0 v1:V} (hP:H P=some o1) (hc:H c=none) (hf:H f=none) (hne:c≠f) (n01:q0≠q1) (h0:upd (upd (upd H P o2) c (cH c t.qual)) f (de f t [q0,q1] c) q0=none) (h1:upd (upd (upd H P o2) c (cH c t.qual)) f (de f t [q0,q1] c) q1=none):
  bJ P H (upd (upd (upd (upd (upd H P o2) c (cH c t.qual)) f (de f t [q0,q1] c)) q0 (cj q0 v0)) q1 (cj q1 v1))∧dq (upd (upd (upd (upd (upd H P o2) c (cH c t.qual)) f (de f t [q0,q1] c)) q0 (cj q0 v0)) q1 (cj q1 v1)) f t [q0,q1] [v0,v1]:=by
 have c1:upd H P o2 c=none:=by rw [ao (bX hP hc)];exact hc
 have f1:upd (upd H P o2) c (cH c t.qual) f=none:=by rw [ao (Ne.symm hne),ao (bX hP hf)];exact hf
 have h1':upd (upd (upd (upd H P o2) c (cH c t.qual)) f (de f t [q0,q1] c)) q0 (cj q0 v0) q1=none:=by rw [ao (Ne.symm n01)];exact h1
 have S4:=bJ.new (P:=P) (o:=cj q1 v1) h1'
 have S3:=(bJ.new (P:=P) (o:=cj q0 v0) h0).trans S4
 have S2:=(bJ.new (P:=P) (o:=de f t [q0,q1] c) f1).trans S3
 have S1:=(bJ.new (P:=P) (o:=cH c t.qual) c1).trans S2
 exact ⟨bJ.tab.trans S1,⟨⟨c,S3 _ _ ai (bX hP hf),S2 _ _ ai (bX hP hc)⟩,.cons (by rw [ao n01];exact ai) (.cons ai .nil)⟩⟩
theorem Ef (T:Txt K mg A) (a0 b0 b1:V) (H:Hp) (Q:VK) (E:XK) (h:sZ K A [a0,b0,b1] H Q E):DF K A { nx:=fun _ H'=>Q .non H',rt:=Q } (dI ["_law_term", "_law_step", "_law_known"] [a0] [b0,b1]) H:=by
 obtain ⟨p,b,j,k,kvs,e,j0,j1,hp,hb,hl,q⟩:=h
 cases e
 exact ⟨.inr (.inr (.inl ⟨rfl,.inr ⟨_,hb⟩⟩)),.inr ⟨b,kvs,rfl,hb,Cd j0 (by omega),b,.ref p,_,_,_,rfl,rfl,AR hb hp hl,q⟩⟩
theorem Gv (T : Txt K mg A) (a0 b0 : V) (H : Hp) (Q : VK) (E : XK) (h : sI K A [a0, b0] H Q E) : AV K A { nx := fun _ H' => Q .non H', rt := Q } (dI ["_law_term", "_law_total", "_law_part", "_law_many"] [a0] [b0]) H := by
  obtain ⟨p, m, k, e, h1, h2, hp, ok, q⟩ := h
  cases e
  refine .inl (.inr (.inl ⟨_, SqT.of hp, ?_⟩))
  refine ⟨p, rfl, .inr ⟨⟨_, SqT.of hp⟩, ?_⟩⟩
  rw [List.length_map]
  refine zi (xs := k.map kV) (fun i σ H' => H' = H ∧ ∃ x2, σ = [some (.ref p), some (.int ((k.take i).foldl lP k.length)), x2, some (.int m)]) ⟨rfl, none, rfl⟩ ?_ ?_ ?_
  · rintro i σ _ _ ⟨rfl, _⟩; exact SqT.of hp
  · rintro i x σ _ hx ⟨rfl, x2, rfl⟩
    obtain ⟨kk, hk, rfl⟩ := mi hx
    have okk : okP kk = true := mG ok (List.mem_of_getElem? hk)
    have st := sX lP (k.length : Int) k i kk hk
    cases kk with
    | inl n =>
      refine ⟨by decide, "int", rfl, Sel.no rfl ⟨IntMulOk.of_left (by decide), rfl, some (.int n), ?_⟩⟩
      rw [st]; rfl
    | inr z =>
      refine ⟨by decide, "str", rfl, Sel.yes rfl ⟨IntMulOk.of_left (by decide), ?_⟩⟩
      obtain ⟨hz, hl⟩ := Bool.and_eq_true_iff.mp okk
      have hl := of_decide_eq_true hl
      refine .inl ⟨ay (by omega), rfl, some (.str z), ?_⟩
      rw [st]; rfl
  · rintro σ _ ⟨rfl, x2, rfl⟩
    have e : k.take (k.map kV).length = k := by rw [List.length_map, List.take_length]
    rw [e]
    exact ⟨by omega, q⟩
theorem Sub.rfl' {g:gOp}:Sub g g:=fun _ _ e=>e
theorem Sub.trans {g g1 g2:gOp} (a:Sub g g1) (b:Sub g1 g2):Sub g g2:=fun k v e=>b k v (a k v e)
theorem Ext.of {g g':gOp} {h:List Key→Key} (s:Sub g g') (e:Ext g' h):Ext g h:=fun k v z=>e k v (s k v z)
theorem ii (kvs:List (List Key×Key)) (k:List Key):bW (bu kvs) k=(cb kvs k).map kV:=by
 unfold bW bu cb
 rw [List.find?_map]
 simp only [Option.map_map]
 congr 1
theorem vB {kvs:List (List Key×Key)} {k:List Key} {v:Key} {x:List Key×Key} (h:cb kvs k=some v):cb (kvs++[x]) k=some v:=by
 unfold cb at h ⊢
 rw [List.find?_append]
 cases e:kvs.find? fun p=>decide (p.1=k) with
 | none=>rw [e] at h;cases h
 | some y=>rw [e] at h;exact h
theorem xT {kvs:List (List Key×Key)} {k:List Key} {d:Key} (h:cb kvs k=none):cb (kvs++[(k,d)]) k=some d:=by
 unfold cb at h ⊢
 rw [List.find?_append]
 cases e:kvs.find? fun p=>decide (p.1=k) with
 | none=>simp
 | some y=>rw [e] at h;cases h
theorem xR {kvs:List (List Key×Key)} {k:List Key} {v:Key} (h:cb kvs k=some v):bW (bu kvs) k=some (kV v):=by rw [ii,h];rfl
theorem vV {kvs : List (List Key × Key)} {k : List Key} {v : Key} (hs : fG kvs) (h : cb kvs k = some v) : gO v := by
  unfold cb at h
  cases e : kvs.find? fun p => decide (p.1 = k) with
  | none => rw [e] at h; cases h
  | some y =>
    rw [e] at h
    cases h
    exact hs y (List.mem_of_find?_eq_some e)
theorem qK {kvs:List (List Key×Key)} {x:List Key×Key} (h:fG kvs) (hx:gO x.2):fG (kvs++[x]):=fun p hp=>by
 rcases List.mem_append.mp hp with z | z
 · exact h p z
 · rw [List.mem_singleton.mp z];exact hx
theorem kT {k : List Key} {v : Key} (hk : 1 ≤ k.length) (h : gO v) : tJ k v := by
  cases v with
  | inl i => exact h
  | inr z =>
    refine ⟨h.1, Nat.le_trans h.2 ?_⟩
    cases k with
    | nil => simp at hk
    | cons x r =>
      show 62 ≤ ((x :: r).map szK).sum
      rw [List.map_cons, List.sum_cons]
      have : 62 ≤ szK x := by cases x with
        | inl i => exact Nat.le_refl 62
        | inr z => show 62 ≤ z.length + 62; omega
      omega
theorem pC {H : Hp} {b : Addr} {cs : List Addr} {cvs : List V} {kvs : List (List Key × Key)} (kk : List Key) (d : Key) (hs : fG kvs) (hd : gO d) (hb : H b = some (.dT (bu kvs))) (hc : cq H cs cvs) (H1 : Hp) (S : aq (cA cs H) H1) :
    ∃ (kvs' : List (List Key × Key)) (v : Key) (H' : Hp), iP (bu kvs) kk (kV d) = kV v ∧ ck cs H (io H1 b (bu kvs) kk (kV d)) = H' ∧ H' b = some (.dT (bu kvs')) ∧ (∀ x o, x ≠ b → H x = some o → H' x = some o) ∧ kvs'.length ≤ kvs.length + 1 ∧ fG kvs' ∧ cb kvs' kk = some v ∧ gO v ∧ ∀ k v, cb kvs k = some v → cb kvs' k = some v := by
  have hbc : b ∉ cs := hc.notin hb fun _ z => nomatch z
  have S2 := aq.hide cs S
  cases e : cb kvs kk with
  | some v =>
    have ev := xR e
    refine ⟨kvs, v, ck cs H H1, by unfold iP; rw [ev]; rfl, ?_, S2 _ _ hb, fun _ _ _ h => S2 _ _ h, Nat.le_succ _, hs, e, vV hs e, fun _ _ h => h⟩
    unfold io; rw [ev]; rfl
  | none =>
    have ev : bW (bu kvs) kk = none := by rw [ii, e]; rfl
    refine ⟨kvs ++ [(kk, d)], d, upd (ck cs H H1) b (.dT (bu (kvs ++ [(kk, d)]))), by unfold iP; rw [ev]; rfl, ?_, ai, fun x o n h => by rw [ao n]; exact S2 _ _ h, by simp, qK hs hd, xT e, hd, fun _ _ h => vB h⟩
    unfold io; rw [ev, if_neg (by decide), uB hbc, wc _ ev]
    unfold bu; rw [List.map_append]; rfl
theorem m0 {x:cT×Sp} {l:List (cT×Sp)}:x∈x::l:=List.mem_cons_self
theorem mS {x y:cT×Sp} {l:List (cT×Sp)} (h:x∈l):x∈y::l:=List.mem_cons_of_mem _ h
theorem aO.rfl' {b:Addr} {H:Hp}:aO b H H:=fun _ _ _ e=>e
theorem aO.trans {b:Addr} {H H1 H2:Hp} (a:aO b H H1) (c:aO b H1 H2):aO b H H2:=fun x o n e=>c x o n (a x o n e)
theorem aO.same {b:Addr} {H H':Hp} (S:aq H H'):aO b H H':=fun x o _ e=>S x o e
theorem Bz (K:W.Frag) (A:Adr):Ln (oR K A) 0:=by rintro vs H Q E ⟨rfl,_⟩;rfl
theorem GR (T:Txt K mg A) (hnd:([]:List Addr).Nodup) (vs:List V) (H:Hp) (Q:VK) (E:XK) (h:oR K A vs H Q E):BC K A { nx:=fun σ H'=>(∀ p∈([]:List (Nat×Addr)),H' p.2=none)→Q .non (cG [] σ H'),rt:=fun σ v H'=>(∀ p∈([]:List (Nat×Addr)),H' p.2=none)→Q v (cG [] σ H') } (L2.start [] vs) H:=by
 obtain ⟨rfl,hP,q⟩:=h
 refine ⟨#[],hP,trivial,.inl ⟨rfl,fun c f hc hf hne _=>?_⟩⟩
 have cP:=bX hP hc
 have fP:=bX hP hf
 have c1:∀ o,upd H A.t_57 o c=none:=fun o=>by rw [ao cP];exact hc
 have f1:∀ o,upd (upd H A.t_57 o) c (cH c fA.qual) f=none:=fun o=>by rw [ao (Ne.symm hne),ao fP];exact hf
 exact q f f _ _ (bJ.tab.trans ((bJ.new (c1 _)).trans (bJ.new (f1 _)))) (.wri ⟨⟨c,ai,(ao hne).trans ai⟩,.nil⟩ rfl rfl) hf
theorem AA (K:W.Frag) (A:Adr):Ln (oJ K A) 0:=by rintro vs H Q E ⟨rfl,_⟩;rfl
theorem Ed (T:Txt K mg A) (q0:Addr) (hnd:([q0]:List Addr).Nodup) (vs:List V) (H:Hp) (Q:VK) (E:XK) (h:oJ K A vs H Q E):Bj K A q0 { nx:=fun σ H'=>(∀ p∈([(0,q0)]:List (Nat×Addr)),H' p.2=none)→Q .non (cG [(0,q0)] σ H'),rt:=fun σ v H'=>(∀ p∈([(0,q0)]:List (Nat×Addr)),H' p.2=none)→Q v (cG [(0,q0)] σ H') } (L2.start ["numbers"] vs) H:=by
 obtain ⟨rfl,hP,q⟩:=h
 intro x dx hx hdx hne
 refine ⟨x,dx,rfl,ai,fun d hd=>⟨rfl,?_⟩⟩
 obtain ⟨dnx,hd1⟩:=cr hd
 obtain ⟨dndx,hd0⟩:=cr hd1
 have xP:=bX hP hx
 have dxP:=bX hP hdx
 have dP:=bX hP hd0
 generalize e2:upd (upd (upd (upd H dx (.own x)) x (.ins A.c_Numbers dx [])) d (.dT [])) x (.ins A.c_Numbers dx [("given",.ref d)])=H2
 have S2:bJ A.t_40 H H2:=by
  intro b o e n
  have b1:=aw e hx
  have b2:=aw e hdx
  have b3:=aw e hd0
  rw [← e2,ao b1,ao b3,ao b1,ao b2];exact e
 have hP2:H2 A.t_40=some (.tbl #[]):=by rw [← e2,ao (Ne.symm xP),ao (Ne.symm dP),ao (Ne.symm xP),ao (Ne.symm dxP)];exact hP
 have hx2:H2 x=some (.ins A.c_Numbers dx [("given",.ref d)]):=by rw [← e2,ai]
 have hd2:H2 d=some (.dT []):=by rw [← e2,ao dnx,ai]
 refine ⟨#[],hP2,trivial,.inl ⟨rfl,fun c f hc hf hne hq=>?_⟩⟩
 obtain ⟨k,ca⟩:=zg (v:=.ref x) hP2 hc hf hne (hq _ (List.mem_singleton.mpr rfl))
 exact q f d _ _ (S2.trans k) (.cnt q0 x [] ca ⟨⟨dx,k _ _ hx2 xP⟩,k _ _ hd2 dP⟩ (Nat.zero_le _) pW rfl) hd0
theorem BO (K:W.Frag) (A:Adr):Ln (oy K A) 1:=by rintro vs H Q E ⟨m,rfl,_⟩;rfl
theorem FH (T:Txt K mg A) (q0:Addr) (hnd:([q0]:List Addr).Nodup) (vs:List V) (H:Hp) (Q:VK) (E:XK) (h:oy K A vs H Q E):Ck K A q0 { nx:=fun σ H'=>(∀ p∈([(0,q0)]:List (Nat×Addr)),H' p.2=none)→Q .non (cG [(0,q0)] σ H'),rt:=fun σ v H'=>(∀ p∈([(0,q0)]:List (Nat×Addr)),H' p.2=none)→Q v (cG [(0,q0)] σ H') } (L2.start ["_law_many", "_law_stamp"] vs) H:=by
 obtain ⟨m,rfl,m1,m2,hP,q⟩:=h
 refine ⟨#[],hP,trivial,.inl ⟨rfl,fun c f hc hf hne hq=>?_⟩⟩
 obtain ⟨k,ca⟩:=zg (v:=.int m) hP hc hf hne (hq _ (List.mem_singleton.mpr rfl))
 exact q f f _ _ k (.wea q0 m m1 m2 ca rfl rfl) hf
theorem DI (K:W.Frag) (A:Adr):Ln (oz K A) 1:=by rintro vs H Q E ⟨j,rfl,_⟩;rfl
theorem Gx (T:Txt K mg A) (q0 q1:Addr) (hnd:([q0,q1]:List Addr).Nodup) (vs:List V) (H:Hp) (Q:VK) (E:XK) (h:oz K A vs H Q E):AL K A q0 q1 { nx:=fun σ H'=>(∀ p∈([(0,q0),(1,q1)]:List (Nat×Addr)),H' p.2=none)→Q .non (cG [(0,q0),(1,q1)] σ H'),rt:=fun σ v H'=>(∀ p∈([(0,q0),(1,q1)]:List (Nat×Addr)),H' p.2=none)→Q v (cG [(0,q0),(1,q1)] σ H') } (L2.start ["_law_step", "_law_known", "_law_stamp"] vs) H:=by
 obtain ⟨j,rfl,j0,j1,hP,q⟩:=h
 have n01:q0≠q1:=fun e=>by simp [e] at hnd
 refine .inr fun b hb=>?_
 have bP:b≠A.t_30:=bX hP hb
 have hP1:upd H b (.dT []) A.t_30=some (.tbl #[]):=by rw [ao (Ne.symm bP)];exact hP
 have S1:bJ A.t_30 H (upd H b (.dT [])):=bJ.new hb
 refine ⟨#[],hP1,trivial,.inl ⟨rfl,fun c f hc hf hne hq=>?_⟩⟩
 obtain ⟨k,ca⟩:=Dm (v0:=.int j) (v1:=.ref b) hP1 hc hf hne n01 (hq (0,q0) (by simp)) (hq (1,q1) (by simp))
 exact q f b _ _ (S1.trans k) (.sur q0 q1 j j0 j1 [] ca (k _ _ ai bP) (Nat.zero_le _) pW rfl) hb
theorem Ct (K:W.Frag) (A:Adr):Ln (ou K A) 1:=by rintro vs H Q E ⟨c,rfl,_⟩;rfl
theorem DU (T:Txt K mg A):Rd (ou K A) (IZ K A) ["_law_cell"]:=by
 intro vs H Q E h
 obtain ⟨c,rfl,⟨t1,t2,t3,t4,_⟩,q⟩:=h
 refine ⟨by decide,Sel.dec (fun h=>?_) (fun h=>?_)⟩
 · exact ⟨rfl,t1,fun f b g H' k s=>q f b g H' (.of t1 k) s⟩
 refine ⟨by decide,Sel.dec (fun h=>?_) (fun h=>?_)⟩
 · exact ⟨rfl,t2,fun f b g H' k s=>q f b g H' (.of t2 k) s⟩
 refine ⟨by decide,Sel.dec (fun h=>?_) (fun h=>?_)⟩
 · exact ⟨⟨by decide,by decide⟩,by decide,_,rfl,by omega,by omega,t3,fun f b g H' k s=>q f b g H' (.of t3 k) s⟩
 · exact ⟨⟨by decide,by decide⟩,by decide,_,rfl,by omega,by omega,t4,fun f b g H' k s=>q f b g H' (.of t4 k) s⟩
theorem Stp.clo {H:Hp} {f b:Addr} {g:gOp} {n:Nat} (s:Stp A H f b g n):∃ ts∈eU K A,∃ cs cvs,dq H f ts.1 cs cvs:=by
 cases s with
 | wri hc _ _=>exact ⟨_,m0,_,_,hc⟩
 | cnt _ _ _ hc=>exact ⟨_,mS m0,_,_,hc⟩
 | sur _ _ _ _ _ _ hc=>exact ⟨_,mS (mS m0),_,_,hc⟩
 | wea _ _ _ _ hc=>exact ⟨_,mS (mS (mS m0)),_,_,hc⟩
theorem Stp.keep {H H' : Hp} {f b : Addr} {g : List Key → Option Key} {n m : Nat} (s : Stp A H f b g n) (hn : n ≤ m) (k : ∀ z o, H z = some o → (∀ xs, o ≠ .lst xs) → (∀ ps, o ≠ .tbl ps) → (z = b ∨ ∀ kvs, o ≠ .dT kvs) → H' z = some o) : Stp A H' f b g m := by
  have kx : ∀ z φ, H z = some (.ext φ) → H' z = some (.ext φ) := fun z φ e => k z _ e (fun _ z => nomatch z) (fun _ z => nomatch z) (.inr fun _ z => nomatch z)
  have kd : ∀ xs, H b = some (.dT xs) → H' b = some (.dT xs) := fun φ e => k b _ e (fun _ z => nomatch z) (fun _ z => nomatch z) (.inl rfl)
  cases s with
  | wri hc hb hg => exact .wri (hc.keep kx) hb hg
  | cnt q x kvs hc num hl hs hg =>
    obtain ⟨⟨dx, h1⟩, h2⟩ := num
    exact .cnt q x kvs (hc.keep kx) ⟨⟨dx, k _ _ h1 (fun _ z => nomatch z) (fun _ z => nomatch z) (.inr fun _ z => nomatch z)⟩, kd _ h2⟩ (Nat.le_trans hl hn) hs hg
  | sur q0 q1 j j0 j1 kvs hc hb hl hs hg => exact .sur q0 q1 j j0 j1 kvs (hc.keep kx) (kd _ hb) (Nat.le_trans hl hn) hs hg
  | wea q m h1 h2 hc hb hg => exact .wea q m h1 h2 (hc.keep kx) hb hg
theorem Stp.same {H H':Hp} {f b:Addr} {g:gOp} {n m:Nat} (s:Stp A H f b g n) (hn:n≤m) (S:aq H H'):Stp A H' f b g m:=s.keep hn fun b o e _ _ _=>S b o e
theorem gQ {H : Hp} {f b p : Addr} {g : List Key → Option Key} {n : Nat} {k : List Key} {R : VK} (s : Stp A H f b g n) (hn : n ≤ 45000) (hp : H p = some (.tup (k.map kV))) (ok : okT k = true)
    (q : ∀ (v : Key) (H' : Hp) (g' : List Key → Option Key), aO b H H' → Stp A H' f b g' (n + 1) → Sub g g' → g' k = some v → tJ k v → R (kV v) H') : lr (eU K A) f [.ref p] H R E0 := by
  have s0 := s
  have hk := (mF ok).1
  have ll : ∀ kvs : List (List Key × Key), (bu kvs).length = kvs.length := fun kvs => by simp [bu]
  cases s with
  | wri hc hb hg =>
    refine ⟨_, m0, _, _, hc, rfl, p, k, rfl, hc.cells.hide hp (fun _ z => nomatch z), ok, fun H' S => ?_⟩
    have S := aq.hide _ S
    exact q (.inr (fL k)) _ g (aO.same S) (s0.same (Nat.le_succ _) S) Sub.rfl' (by rw [hg]) ⟨nj (gU ok), nE (gU ok)⟩
  | wea c m h1 h2 hc hb hg =>
    refine ⟨_, mS (mS (mS m0)), _, _, hc, rfl, p, m, k, rfl, h1, h2, hc.cells.hide hp (fun _ z => nomatch z), ok, ?_⟩
    have S := aq.hide [c] (.refl (cA [c] H))
    have r0 := Int.emod_nonneg (k.foldl lP k.length) (b := m) (by omega)
    have r1 := Int.emod_lt_of_pos (k.foldl lP k.length) (b := m) (by omega)
    have p60 : (9 : Int) < 10 ^ 60 := by decide +kernel
    exact q (tL m k) _ g (aO.same S) (s0.same (Nat.le_succ _) S) Sub.rfl' (by rw [hg]) (show 0 ≤ _ ∧ _ < _ from ⟨r0, by omega⟩)
  | cnt c x kvs hc num hl hs hg =>
    have p60 : (50000 : Int) < 10 ^ 60 := by decide +kernel
    refine ⟨_, mS m0, _, _, hc, rfl, x, b, p, bu kvs, k, rfl, num.hide hc.cells, by rw [ll]; omega, hc.cells.hide hp (fun _ z => nomatch z), ok, fun H' S => ?_⟩
    obtain ⟨dx, hx⟩ := num.ob
    obtain ⟨kvs', v, H2, ev, eH, hb', keep, hl', hs', gv, sv, sub⟩ := pC k (.inl ((bu kvs).length : Int)) hs (show 0 ≤ _ ∧ _ < _ from ⟨by omega, by rw [ll]; omega⟩) num.di hc.cells H' S
    rw [show V.int ((bu kvs).length : Int) = kV (.inl ((bu kvs).length : Int)) from rfl, ev, eH]
    refine q v H2 (cb kvs') (fun x o n e => keep x o n e)
      (.cnt c x kvs' (hc.keep fun x φ e => keep x _ (bG e num.di (fun z => nomatch z)) e) ⟨⟨dx, keep _ _ (bG hx num.di (fun z => nomatch z)) hx⟩, hb'⟩ (by omega) hs' rfl) ?_ gv (kT hk sv)
    rw [hg]; exact sub
  | sur q0 q1 j j0 j1 kvs hc hb hl hs hg =>
    have p60 : (50000000 : Int) < 10 ^ 60 := by decide +kernel
    have bd : 0 ≤ j * ((bu kvs).length : Int) + 5 ∧ j * ((bu kvs).length : Int) + 5 < 10 ^ 60 := by
      rw [ll]
      have h1 : j * (kvs.length : Int) ≤ 1000 * 45000 := Int.mul_le_mul (by omega) (by omega) (by omega) (by decide)
      have h2 : 0 ≤ j * (kvs.length : Int) := Int.mul_nonneg j0 (by omega)
      omega
    obtain ⟨kvs', v, H2, ev, eH, hb', keep, hl', hs', gv, sv, sub⟩ := pC k (.inl (j * ((bu kvs).length : Int) + 5)) hs bd hb hc.cells _ (.refl _)
    refine ⟨_, mS (mS m0), _, _, hc, rfl, p, b, j, k, bu kvs, rfl, j0, j1, hc.cells.hide hp (fun _ z => nomatch z), hc.cells.hide hb (fun _ z => nomatch z), by rw [ll]; omega, ?_⟩
    dsimp only
    rw [show V.int (j * ((bu kvs).length : Int) + 5) = kV (.inl (j * ((bu kvs).length : Int) + 5)) from rfl, ev, eH]
    refine q v H2 (cb kvs') (fun x o n e => keep x o n e)
      (.sur q0 q1 j j0 j1 kvs' (hc.keep fun x φ e => keep x _ (bG e hb (fun z => nomatch z)) e) hb' (by omega) hs' rfl) ?_ gv (kT hk sv)
    rw [hg]; exact sub
theorem jN {n:Nat} (h:2≤n):1≤aH n∧aH n<n:=by
 unfold aH
 have h1:=Nat.log2_self_le (n:=n - 1) (by omega)
 exact ⟨Nat.one_le_two_pow,by omega⟩
theorem nH (h : List Key → Key) : ∀ (n m : Nat) (es : List Key), es.length ≤ n → es.length ≤ m → fY h n es = fY h m es := by
  intro n
  induction n with
  | zero =>
    intro m es h1 h2
    cases es with
    | nil => cases m <;> rfl
    | cons a r => simp at h1
  | succ n ih =>
    intro m es h1 h2
    cases m with
    | zero =>
      cases es with
      | nil => rfl
      | cons a r => simp at h2
    | succ m =>
      match es, h1, h2 with
      | [], _, _ => rfl
      | [e], _, _ => rfl
      | a :: b :: r, h1, h2 =>
        have hl : 2 ≤ (a :: b :: r).length := by simp
        obtain ⟨g1, g2⟩ := jN hl
        show [_, h (fY h n ((a :: b :: r).take _)), h (fY h n ((a :: b :: r).drop _))] = [_, h (fY h m _), h (fY h m _)]
        rw [ih m _ (by rw [List.length_take]; omega) (by rw [List.length_take]; omega), ih m _ (by rw [List.length_drop]; omega) (by rw [List.length_drop]; omega)]
theorem ug (h : List Key → Key) {es : List Key} (hl : 2 ≤ es.length) : gD h es = [.inr "joint", h (gD h (es.take (aH es.length))), h (gD h (es.drop (aH es.length)))] := by
  obtain ⟨g1, g2⟩ := jN hl
  unfold gD
  match es, hl with
  | a :: b :: r, hl =>
    show [_, h (fY h ((b :: r).length) ((a :: b :: r).take _)), h (fY h ((b :: r).length) ((a :: b :: r).drop _))] = _
    have e : (a :: b :: r).length = (b :: r).length + 1 := rfl
    rw [nH h ((b :: r).length) ((a :: b :: r).take (aH (a :: b :: r).length)).length _ (by rw [List.length_take]; omega) (Nat.le_refl _), nH h ((b :: r).length) ((a :: b :: r).drop (aH (a :: b :: r).length)).length _ (by rw [List.length_drop]; omega) (Nat.le_refl _)]
theorem bD {H:Hp} (x:Key):aF H (kV x) (bB x):=by
 cases x with
 | inl i=>exact .int i
 | inr z=>exact .str z
theorem ixL {K:W.Frag} {H:Hp} {Q:VK} {a:Addr} {xs:List V} {x:V} {i:Int} {j:Nat} (ha:H a=some (.lst xs)) (e:i=j) (hx:xs[j]?=some x) (q:Q x H):bc K (.ref a) (.int i) H Q:=by
 subst e
 refine .inl (.inl ⟨a,xs,j,x,rfl,rfl,SqL.of ha,?_,q⟩)
 have hj:=(List.getElem?_eq_some_iff.mp hx).1
 rw [qx (by omega) (by omega)]
 simp [List.getD_eq_getElem?_getD,hx]
theorem gE {e:Key} (h:okP e=true):aK (bB e)=true:=by
 cases e with
 | inl i=>exact h
 | inr z=>rfl
theorem EB:(PySem.Str.length " !\"#$&'()*+,-./0123456789:;<=>?@ABCDEFGHIJKLMNOPQRSTUVWXYZ[\\]^_`" +PySem.Str.length "abcdefghijklmnopqrstuvwxyz{|}~")≤1000000:=by decide +kernel
def sg1:Str:= " !\"#$&'()*+,-./0123456789:;<=>?@ABCDEFGHIJKLMNOPQRSTUVWXYZ[\\]^_`"
def sg2:Str:= "abcdefghijklmnopqrstuvwxyz{|}~"
theorem Bf:(sg1++sg2).length=94∧(sg1++sg2).cps.toList.length=94∧(sg1++sg2).cps.toList.all (·<128)=true:=by decide +kernel
theorem vW {zs:List Str} (h:∀ z∈zs,bY z=true):bY (Txt.join "" zs)=true:=by
 rw [md]
 induction zs with
 | nil=>decide +kernel
 | cons z r ih=>exact nF (h z List.mem_cons_self) (ih fun y hy=>h y (List.mem_cons_of_mem _ hy))
theorem BH (K:W.Frag) (A:Adr):Ln (dj K A) 2:=by rintro vs H Q E ⟨a,ns,k,rfl,_⟩;rfl
theorem GM (T:Txt K mg A):Rd (dj K A) (HC K A) ["_law_script", "_law_k"]:=by
 intro vs H Q E h
 obtain ⟨a,ns,k,rfl,hs,h0,q⟩:=h
 refine .inl (.inl ⟨_,hs,Sel.dec (fun h=>?_) (fun h=>q 0)⟩)
 obtain ⟨v,hv⟩:=ur h0 h
 obtain ⟨j,_,hj,_⟩:=ib hv
 obtain ⟨z,_,rfl⟩:=mi hj
 exact .inl (.inl ⟨a,_,k,_,rfl,rfl,hs,hv,q z⟩)
theorem BK (K:W.Frag) (A:Adr):Ln (ow K A) 1:=by rintro vs H Q E ⟨i,rfl,_⟩;rfl
theorem FV (T:Txt K mg A):Rd (ow K A) (Ij K A) ["_law_cell", "_law_some"]:=by
 intro vs H Q E h
 obtain ⟨c,rfl,q⟩:=h
 obtain ⟨g1,g2,g3⟩:=Bf
 refine ⟨ay EB,?_⟩
 show vg K A _ [some (.int c),some (.str (sg1++sg2))] H
 refine ⟨rfl,by decide,c%5,rfl,by omega,by omega,fun D hD=>?_⟩
 refine dQ (cS.range (lo:=0) (n:=(c%5).toNat)) (fun i ys H2=>∃ zs:List Str,ys=zs.map V.str∧zs.length=i∧(∀ z∈zs,z.length=1∧bY z=true)∧H2=upd H D (.lst ys)) (fun _ _ _ _ _=>trivial) ⟨[],rfl,rfl,(fun _ h=>nomatch h),rfl⟩ (fun i ys H2 hi ⟨zs,e1,e2,e3,e4⟩=>?_) ?_
 · subst e4
   refine gH ⟨⟨by decide,by decide⟩,⟨by decide,by decide⟩,by decide,Hg (by omega) (by omega),by decide,?_⟩
   generalize (c/5+_:Int)=w
   obtain ⟨cc,hcc⟩:=ur (xs:=(sg1++sg2).cps.toList) (i:=w%94) (by omega) (by rw [g2];omega)
   refine .inl (.inr (.inr ⟨_,_,cc,rfl,rfl,by rw [g1];exact ay (by decide),hcc,?_⟩))
   have hyl:ys.length=i:=by rw [e1,List.length_map,e2]
   refine ⟨ai,by rw [hyl];exact bx (by omega),CWd.next hi ⟨zs++[⟨#[cc]⟩],by rw [e1,List.map_append];rfl,by rw [List.length_append,e2];rfl,fun z hz=>?_,cU⟩⟩
   rcases List.mem_append.mp hz with h | h
   · exact e3 z h
   · rw [List.mem_singleton.mp h]
     refine ⟨rfl,?_⟩
     obtain ⟨j,_,hj,_⟩:=ib hcc
     have:=of_decide_eq_true (List.all_eq_true.mp g3 cc (List.mem_of_getElem? hj))
     unfold bY
     simp
     omega
 · rintro ys H2 ⟨zs,rfl,e2,e3,rfl⟩
   have hl:(Txt.join "" zs).length=zs.length:=ww zs fun z hz=>(e3 z hz).1
   refine ⟨_,_,zs,rfl,rfl,ai,?_,q _ _ (aq.upd hD) (by rw [hl];omega) (vW fun z hz=>(e3 z hz).2)⟩
   have e0:(("" :String):Str).length=0:=by decide
   rw [e0,kA zs fun z hz=>(e3 z hz).1]
   omega
theorem CT (K:W.Frag) (A:Adr):Ln (iq K A) 1:=by rintro vs H Q E ⟨i,rfl,_⟩;rfl
theorem EY (T:Txt K mg A):Rd (iq K A) (HD K A) ["_law_cell"]:=by
 intro vs H Q E h
 obtain ⟨c,rfl,q⟩:=h
 have p60:(7:Int)<10^60:=by decide +kernel
 have num:∀ i:Int,0≤i→i<10^60→Q (.int i) H:=fun i h0 h1=>q (.inl i) H (.refl _) ⟨decide_eq_true ⟨h0,h1⟩,show 62≤70 by decide⟩
 refine ⟨by decide,Sel.dec (fun h=>?_) (fun h=>?_)⟩
 · refine ⟨by decide,_,rfl,fun z H' S hz ha=>q (.inr z) H' S ⟨?_,?_⟩⟩
   · show (bY z&&decide (z.length≤100000))=true
     rw [ha,decide_eq_true (by omega)];rfl
   · show z.length+62≤70
     omega
 refine ⟨by decide,Sel.dec (fun h=>?_) (fun h=>?_)⟩
 · refine ⟨by decide,⟨by decide,by decide,by decide⟩,by decide +kernel,?_⟩
   have p:(0:Int)<10^60:=by decide +kernel
   exact num (c/4%10^60) (Int.emod_nonneg _ (Int.ne_of_gt p)) (Int.emod_lt_of_pos _ p)
 · exact ⟨by decide,by decide,num (c/4%7) (by omega) (by omega)⟩
theorem jW {K:W.Frag} {H:Hp} {Q:VK} {L:Addr} {qs:List V} {p:V} (hL:H L=some (.lst (qs++[p]))) (q:Q p H):bc K (.ref L) (.int (-1)) H Q:=
 .inl (.inl ⟨L,_,-1,p,rfl,rfl,SqL.of hL,wZ _ _,q⟩)
theorem lF {w:Str} {r:List Key} (hw:okP (.inr w)=true) (hr:∀ x∈r,okP x=true) (hl:r.length≤7):okT (.inr w::r)=true:=by
 show (decide (1≤r.length+1∧r.length+1≤8)&&true&&(okP (.inr w)&&r.all okP))=true
 rw [hw,List.all_eq_true.mpr hr,decide_eq_true (by omega)];rfl
theorem gS {k:List Key} {v:Key} (h:tJ k v):szK v≤szT k+62:=by
 cases v with
 | inl i=>exact Nat.le_add_left _ _
 | inr z=>exact Nat.add_le_add_right h.2 _
theorem gZ {k : List Key} {v : Key} (h : tJ k v) (hs : szT k ≤ 100000) : okP v = true := by
  cases v with
  | inl i => exact decide_eq_true h
  | inr z =>
    show (bY z && decide (z.length ≤ 100000)) = true
    rw [h.1, decide_eq_true (Nat.le_trans h.2 hs)]; rfl
theorem lq:∀ {a b:Key},kV a=kV b→a=b
 | .inl _,.inl _,h=>by cases h;rfl
 | .inr _,.inr _,h=>by cases h;rfl
theorem okW:okP (.inr "void")=true∧okP (.inr "entry")=true∧okP (.inr "joint")=true∧okP (.inr "row")=true:=by decide +kernel
theorem szW:szK (.inr "void")=66∧szK (.inr "entry")=67∧szK (.inr "joint")=67∧szK (.inr "row")=65:=by decide +kernel
theorem sz1 (x:Key):szT [x]=szK x:=by simp [szT]
theorem sz2 (x y:Key):szT [x,y]=szK x+szK y:=by simp [szT]
theorem sz3 (x y z:Key):szT [x,y,z]=szK x+(szK y+szK z):=by simp [szT]
theorem ja {e:Key} (h:okP e=true):okT [.inr "entry",e]=true:=lF okW.2.1 (fun x hx=>by rw [List.mem_singleton.mp hx];exact h) (show 1≤7 by decide)
theorem jr {x y:Key} (hx:okP x=true) (hy:okP y=true):okT [.inr "joint",x,y]=true:=lF okW.2.2.1 (fun z hz=>by
 rcases List.mem_cons.mp hz with h | h
 · rw [h];exact hx
 · rw [List.mem_singleton.mp h];exact hy) (show 2≤7 by decide)
theorem Ah {k:Nat} (h1:1≤k) (h2:k≤59):(2:Int)≤2^k∧(2:Int)^k≤2^59:=by
 have a:(2:Nat)^1≤2^k:=Nat.pow_le_pow_right (by decide) h1
 have b:(2:Nat)^k≤2^59:=Nat.pow_le_pow_right (by decide) h2
 rw [← yP k];omega
theorem qw {m:Nat} (h:2≤m):aH m<m:=by
 have:=Nat.log2_self_le (n:=m - 1) (by omega)
 unfold aH;omega
theorem kG {m:Nat} (h:2≤m):m≤2*aH m:=by
 have:=Nat.lt_log2_self (n:=m - 1)
 unfold aH;rw [Nat.pow_succ] at this;omega
theorem jm {m e:Nat} (h:2≤m) (he:m≤2^e):∃ k,aH m=2^k∧k<e:=by
 refine ⟨Nat.log2 (m - 1),rfl,?_⟩
 have h1:=Nat.log2_self_le (n:=m - 1) (by omega)
 exact (Nat.pow_lt_pow_iff_right (by decide:1<2)).mp (by omega:2^Nat.log2 (m - 1)<2^e)
theorem ku {m e:Nat} (h:2≤m) (he:m≤2^(e+1)):aH m≤2^e:=by
 obtain ⟨k,e1,hk⟩:=jm h he
 rw [e1];exact Nat.pow_le_pow_right (by decide) (by omega)
theorem IM {Q:V→Prop} {i:Int} (q:∀ m:Nat,1≤m→m<2^60→Q (.int m)) (h0:1≤i) (h1:i<2^60):Q (.int i):=by
 obtain ⟨m,rfl⟩:=Int.eq_ofNat_of_zero_le (by omega:0≤i)
 exact q m (by omega) (by omega)
theorem CF (K:W.Frag) (A:Adr):Ln (jK K A) 1:=by rintro vs H Q E ⟨m,rfl,_⟩;rfl
theorem Eu (T:Txt K mg A) (vs:List V) (H:Hp) (Q:VK) (E:XK) (h:jK K A vs H Q E):Ie K A { nx:=fun _ H'=>Q .non H',rt:=Q } (start ["many"] vs) H:=by
 obtain ⟨m,rfl,h2,h60,q⟩:=h
 obtain ⟨k,ek,hk⟩:=jm h2 h60
 have e:(Builtin.Int.intBits ((m:Int) - 1):Int) - 1=((Nat.log2 (m - 1):Nat):Int):=by
  unfold Builtin.Int.intBits
  rw [if_neg (by simp;omega)]
  have:((m:Int) - 1).natAbs=m - 1:=by omega
  rw [this];omega
 have hl:Nat.log2 (m - 1)<60:=by
  have h1:=Nat.log2_self_le (n:=m - 1) (by omega)
  exact (Nat.pow_lt_pow_iff_right (by decide:1<2)).mp (by omega:2^Nat.log2 (m - 1)<2^60)
 refine ⟨rfl,?_⟩
 show ((0≤(Builtin.Int.intBits ((m:Int) - 1):Int) - 1∧_∧_)∧Q (.int (1*2^((Builtin.Int.intBits ((m:Int) - 1):Int) - 1).toNat)) H)
 rw [e]
 refine ⟨⟨by omega,by omega,by decide⟩,?_⟩
 rw [Int.one_mul,Int.toNat_natCast,←yP]
 exact q
theorem De (K:W.Frag) (A:Adr):Ln (oS K A) 3:=by rintro vs H Q E ⟨t,o,a,rfl,_⟩;rfl
theorem Fp (T:Txt K mg A):Rd (oS K A) (IK K A) ["turn", "own", "aside"]:=by
 intro vs H Q E h
 obtain ⟨t,o,a,rfl,q⟩:=h
 unfold jtT at q
 refine Sel.dec (fun h=>⟨ay (show 3≤1000000 by decide),fun p hp=>?_⟩) (fun h=>⟨ay (show 3≤1000000 by decide),fun p hp=>?_⟩)
 · rw [if_pos h] at q;exact q p hp
 · rw [if_neg h] at q;exact q p hp
theorem ER (K:W.Frag) (A:Adr):Ln (sM K A) 2:=by rintro vs H Q E ⟨x,dx,f,rfl,_⟩;rfl
theorem Il (T:Txt K mg A):Rd (sM K A) (T_3 K A) ["self", "stamper"]:=by
 intro vs H Q E h
 obtain ⟨x,dx,f,rfl,hx,q⟩:=h
 refine ⟨x,A.c_Row,dx,[],rfl,hx,T.cl_Row,T.na_Row_stamper,by decide,Nat.zero_le _,fun L hL=>?_⟩
 obtain ⟨Lx,hL⟩:=cr hL
 refine ⟨x,A.c_Row,dx,_,rfl,by rw [ao (Ne.symm Lx)];exact ai,T.cl_Row,T.na_Row_entries,by show 1<1000;decide,.inr fun D hD=>?_⟩
 obtain ⟨Dx,hD⟩:=cr hD
 obtain ⟨DL,hD⟩:=cr hD
 obtain ⟨_,hD⟩:=cr hD
 refine ⟨x,A.c_Row,dx,_,rfl,by rw [ao (Ne.symm Dx)];exact ai,T.cl_Row,T.na_Row_tops,by show 2<1000;decide,q L D _ (fun z o zx e=>?_) hL hD (Ne.symm DL) ai ?_ ?_⟩
 · rw [ao zx,ao (aw e hD),ao zx,ao (aw e hL),ao zx];exact e
 · rw [ao Lx,ao (Ne.symm DL),ao Lx];exact ai
 · rw [ao Dx];exact ai
theorem Gu (K:W.Frag) (A:Adr):Ln (mq K A) 1:=by rintro vs H Q E ⟨x,f,L,D,es,kvs,rfl,_⟩;rfl
theorem HE (T:Txt K mg A):Rd (mq K A) (T_8 K A) ["self"]:=by
 intro vs H Q E h
 obtain ⟨x,f,L,D,es,kvs,rfl,r,q⟩:=h
 obtain ⟨dx,hx⟩:=r.ob
 refine ⟨x,A.c_Row,dx,_,.ref L,rfl,hx,T.cl_Row,T.na_Row_entries,rfl,.inl (.inl ⟨_,SqL.of r.hl,?_⟩)⟩
 rw [List.length_map];exact q
theorem Ak (kvs : List (List Key × Key)) (k : List Key) (v : Key) : ∃ kvs', bu kvs' = bT (bu kvs) k (kV v) ∧ kvs'.length ≤ kvs.length + 1 ∧ ∀ j, cb kvs' j = if j = k then some v else cb kvs j := by
  have fin : ∀ kvs' : List (List Key × Key), bu kvs' = bT (bu kvs) k (kV v) → ∀ j, cb kvs' j = if j = k then some v else cb kvs j := by
    intro kvs' e j
    have h := ii kvs' j
    rw [e, kF, ii] at h
    by_cases hj : j = k
    · rw [if_pos hj] at h ⊢
      cases g : cb kvs' j with
      | none => rw [g] at h; cases h
      | some w => rw [g] at h; rw [lq (Option.some.inj h)]
    · rw [if_neg hj] at h ⊢
      cases g : cb kvs' j with
      | none =>
        rw [g] at h
        cases g2 : cb kvs j with
        | none => rfl
        | some w => rw [g2] at h; cases h
      | some w =>
        rw [g] at h
        cases g2 : cb kvs j with
        | none => rw [g2] at h; cases h
        | some u => rw [g2] at h; rw [lq (Option.some.inj h)]
  by_cases c : ((bu kvs).any fun kv => decide (kv.1 = k)) = true
  · have e : bu (kvs.map fun kv => if kv.1 = k then (kv.1, v) else kv) = bT (bu kvs) k (kV v) := by
      unfold bT
      rw [if_pos c]
      unfold bu
      rw [List.map_map, List.map_map]
      apply List.map_congr_left
      intro p _
      show ((if p.1 = k then (p.1, v) else p).1, kV (if p.1 = k then (p.1, v) else p).2) = if p.1 = k then (p.1, kV v) else (p.1, kV p.2)
      by_cases h : p.1 = k
      · rw [if_pos h, if_pos h]
      · rw [if_neg h, if_neg h]
    exact ⟨_, e, by rw [List.length_map]; omega, fin _ e⟩
  · have e : bu (kvs ++ [(k, v)]) = bT (bu kvs) k (kV v) := by
      unfold bT
      rw [if_neg c]
      unfold bu
      rw [List.map_append]; rfl
    exact ⟨_, e, by simp, fin _ e⟩
theorem fb.mono {g g':gOp} {es:List Key} {kvs:List (List Key×Key)} (c:fb g es kvs) (s:Sub g g'):fb g' es kvs:=fun k v e=>by
 obtain ⟨a,m,h1,h2,h3,h4,h5⟩:=c k v e
 exact ⟨a,m,h1,h2,h3,h4,fun h x=>h5 h (Ext.of s x)⟩
theorem wy:okT [.inr "void"]=true:=lF okW.1 (fun _ h=>nomatch h) (by decide)
theorem Stp.bb {H:Hp} {f b:Addr} {g:gOp} {n:Nat} (s:Stp A H f b g n):(∃ φ,H b=some (.ext φ))∨∃ kvs,H b=some (.dT kvs):=by
 cases s with
 | wri hc hb hg=>obtain ⟨c,h,_⟩:=hc.ex;rw [hb];exact .inl ⟨_,h⟩
 | cnt q x kvs hc num hl hs hg=>exact .inr ⟨_,num.di⟩
 | sur q0 q1 j h0 h1 kvs hc hb hl hs hg=>exact .inr ⟨_,hb⟩
 | wea q m h1 h2 hc hb hg=>obtain ⟨c,h,_⟩:=hc.ex;rw [hb];exact .inl ⟨_,h⟩
theorem Stp.nb {H:Hp} {f b z:Addr} {g:gOp} {n:Nat} {o:HO} (s:Stp A H f b g n) (h:H z=some o) (h1:∀ φ,o≠ .ext φ) (h2:∀ kvs,o≠ .dT kvs):z≠b:=by
 rcases s.bb with ⟨φ,e⟩ | ⟨kvs,e⟩
 · exact bG h e (h1 φ)
 · exact bG h e (h2 kvs)
theorem gC.same {H H':Hp} {x f L D:Addr} {es:List Key} {kvs:List (List Key×Key)} (r:gC A H x f L D es kvs) (S:aq H H'):gC A H' x f L D es kvs:=by
 obtain ⟨dx,hx⟩:=r.ob
 exact ⟨⟨dx,S _ _ hx⟩,S _ _ r.hl,S _ _ r.hd,r.en,r.le⟩
section
variable {H H':Hp} {x f L D b:Addr} {es:List Key} {kvs:List (List Key×Key)} {g g':gOp} {n m:Nat}
theorem ci.same (r:ci A H x f L D b es kvs g n) (S:aq H H') (hn:n≤m):ci A H' x f L D b es kvs g m:=⟨r.r.same S,r.s.same hn S,r.c,r.db,Nat.le_trans r.kl hn⟩
theorem ci.call (r:ci A H x f L D b es kvs g n) (kb:aO b H H') (s:Stp A H' f b g' m) (sub:Sub g g') (hn:n≤m):ci A H' x f L D b es kvs g' m:=by
 obtain ⟨dx,hx⟩:=r.r.ob
 exact ⟨⟨⟨dx,kb _ _ (r.s.nb hx (fun _ z=>nomatch z) (fun _ z=>nomatch z)) hx⟩,kb _ _ (r.s.nb r.r.hl (fun _ z=>nomatch z) (fun _ z=>nomatch z)) r.r.hl,kb _ _ r.db r.r.hd,r.r.en,r.r.le⟩,s,r.c.mono sub,r.db,Nat.le_trans r.kl hn⟩
theorem ci.n2 (r:ci A H x f L D b es kvs g n) {z:Addr} {o:HO} (h:H z=some o) (h1:∀ φ,o≠ .ext φ) (h2:∀ kvs,o≠ .dT kvs):z≠b∧z≠D:=⟨r.s.nb h h1 h2,bG h r.r.hd (h2 _)⟩
theorem bN.rfl':bN b D H H:=fun _ _ _ _ e=>e
theorem bN.trans {H1 H2:Hp} (a:bN b D H H1) (c:bN b D H1 H2):bN b D H H2:=fun x o n n' e=>c x o n n' (a x o n n' e)
theorem bN.same (S:aq H H'):bN b D H H':=fun x o _ _ e=>S x o e
theorem bN.kb (k:aO b H H'):bN b D H H':=fun x o n _ e=>k x o n e
end
theorem DE (K:W.Frag) (A:Adr) (n:Nat):Ln (oW K A n) 3:=by rintro vs H Q E ⟨x,f,L,D,b,es,kvs,g,n,a,m,rfl,_⟩;rfl
theorem Fq (T:Txt K mg A) (n:Nat) (vs:List V) (H:Hp) (Q:VK) (E:XK) (h:oW K A n vs H Q E):Ik K A n { nx:=fun _ H'=>Q .non H',rt:=Q } (L2.start ["self", "first", "many", "ahead"] vs) H:=by
 obtain ⟨x,f,L,D,b,es,kvs,g,N,a,m,rfl,r,ham,hm,hN,q⟩:=h
 obtain ⟨dx,hx⟩:=r.r.ob
 have l60:=r.r.le
 refine Sel.dec (fun h=>?_) (fun h=>?_)
 · obtain rfl:m=0:=by omega
   refine ⟨ay (show 1≤1000000 by decide),fun p hp=>q p [.inr "void"] kvs g _ (bN.same (aq.upd hp)) (r.same (aq.upd hp) (Nat.le_refl _)) Sub.rfl' ai wy (by rw [sz1,szW.1];decide) fun h _=>?_⟩
   rw [List.take_zero];rfl
 refine Sel.dec (fun h=>?_) (fun h=>?_)
 · obtain rfl:m=1:=by omega
   obtain ⟨e,he⟩:∃ e,es[a]?=some e:=⟨_,List.getElem?_eq_getElem (by omega)⟩
   have en:=r.r.en e (List.mem_of_getElem? he)
   refine ⟨x,A.c_Row,dx,_,.ref L,rfl,hx,T.cl_Row,T.na_Row_entries,rfl,ixL r.r.hl rfl (by rw [List.getElem?_map,he];rfl) ⟨ay (show 2≤1000000 by decide),fun p hp=>q p [.inr "entry",e] kvs g _ (bN.same (aq.upd hp)) (r.same (aq.upd hp) (Nat.le_refl _)) Sub.rfl' ai (ja en.1) ?_ fun h _=>?_⟩⟩
   · have:=en.2
     rw [sz2,szW.2.1];show _≤200;omega
   · have e1:(es.drop a).take 1=[e]:=by rw [List.take_one,List.head?_drop,he];rfl
     rw [e1];rfl
 · have h2:2≤m:=by omega
   obtain ⟨g1,g2⟩:=jN h2
   refine ⟨m,rfl,h2,by omega,x,dx,_,rfl,hx,rfl,x,f,L,D,b,es,kvs,g,N,a,aH m,rfl,r,by omega,by omega,by omega,fun v1 kvs1 g1' H1 k1 r1 s1 ok1 sz1' e1=>?_⟩
   obtain ⟨dx1,hx1⟩:=r1.r.ob
   refine ⟨x,dx1,_,rfl,hx1,rfl,x,f,L,D,b,es,kvs1,g1',_,a+aH m,m - aH m,?_,r1,by omega,by omega,by omega,fun v2 kvs2 g2' H2 k2 r2 s2 ok2 sz2' e2=>?_⟩
   · rw [Int.natCast_add,Int.ofNat_sub (by omega)]
   · refine ⟨ay (show 3≤1000000 by decide),fun p hp=>q p [.inr "joint",v1,v2] kvs2 g2' _ ((k1.trans k2).trans (bN.same (aq.upd hp))) (r2.same (aq.upd hp) (by omega)) (s1.trans s2) ai (jr ok1 ok2) ?_ fun h eh=>?_⟩
     · rw [sz3,szW.2.2.1]
       unfold szB at sz1' sz2' ⊢
       omega
     · have hl:((es.drop a).take m).length=m:=by rw [List.length_take,List.length_drop];omega
       rw [ug h (by rw [hl];exact h2),hl,e1 h (Ext.of s2 eh),e2 h eh,List.take_take,Nat.min_eq_left (by omega),List.drop_take,List.drop_drop]
theorem Fy (K:W.Frag) (A:Adr) (n:Nat):Ln (gG K A n) 3:=by rintro vs H Q E ⟨x,f,L,D,b,es,kvs,g,n,a,m,rfl,_⟩;rfl
theorem AH (K:W.Frag) (A:Adr):∀ vs H Q E,gG K A 0 vs H Q E→False:=by rintro vs H Q E ⟨x,f,L,D,b,es,kvs,g,n,a,m,_,_,_,h,_⟩;omega
theorem HV (T : Txt K mg A) (n : Nat) : Rd (gG K A (n + 1)) (T_9 K A n) ["self", "first", "many", "part"] := by
  intro vs H Q E h
  obtain ⟨x, f, L, D, b, es, kvs, g, N, a, m, rfl, r, ham, hm, hN, q⟩ := h
  have l60 := r.r.le
  refine ⟨ay (show 2 ≤ 1000000 by decide), fun p hp => ?_⟩
  have S1 : aq H (upd H p (.tup [.int (a : Int), .int (m : Int)])) := aq.upd hp
  have r1 := r.same S1 (Nat.le_refl _)
  have hp1 : upd H p (.tup [.int (a : Int), .int (m : Int)]) p = some (.tup (([.inl (a : Int), .inl (m : Int)] : List Key).map kV)) := ai
  generalize upd H p (.tup [.int (a : Int), .int (m : Int)]) = H1 at S1 r1 hp1
  obtain ⟨dx, hx1⟩ := r1.r.ob
  have g1 := eN.t r1.r.hd hp1
  rw [ii] at g1
  refine ⟨x, A.c_Row, dx, _, .ref D, rfl, hx1, T.cl_Row, T.na_Row_tops, rfl, .inl ⟨D, _, rfl, g1, ?_⟩⟩
  cases e : cb kvs [.inl (a : Int), .inl (m : Int)] with
  | some v =>
    rw [e] at g1
    refine Sel.no rfl ⟨x, A.c_Row, dx, _, .ref D, rfl, hx1, T.cl_Row, T.na_Row_tops, rfl, .inr ⟨D, _, rfl, g1, ?_⟩⟩
    obtain ⟨a', m', h1, h2, h3, h4, h5⟩ := r.c _ _ e
    have ea : a = a' := by have := Sum.inl.inj (List.cons.inj h1).1; omega
    have em : m = m' := by have := Sum.inl.inj (List.cons.inj (List.cons.inj h1).2).1; omega
    subst ea em
    exact q v kvs g H1 (bN.same S1) (r1.same aq.rfl' (by omega)) Sub.rfl' h3 h4 h5
  | none =>
    refine Sel.yes rfl ⟨x, dx, _, f, rfl, hx1, rfl, r1.s.clo, x, dx, _, rfl, hx1, rfl, x, f, L, D, b, es, kvs, g, N, a, m, rfl, r1, ham, by omega, hN, fun p2 k kvs2 g2 H2 k2 r2 s2 hp2 okk szk ek => ?_⟩
    dsimp only [aj]
    refine gQ r2.s (by omega) hp2 okk fun v H3 g3 kb s3 sub3 gv st => ?_
    have r3 := r2.call kb s3 sub3 (Nat.le_succ _)
    obtain ⟨np, np'⟩ := r1.n2 hp1 (fun _ z => nomatch z) (fun _ z => nomatch z)
    have hp3 := kb _ _ np (k2 _ _ np np' hp1)
    obtain ⟨dx3, hx3⟩ := r3.r.ob
    obtain ⟨kvs4, e4, l4, f4⟩ := Ak kvs2 [.inl (a : Int), .inl (m : Int)] v
    have kl := r2.kl
    have ll : (bu kvs2).length = kvs2.length := by simp [bu]
    refine ⟨x, A.c_Row, dx3, _, .ref D, rfl, hx3, T.cl_Row, T.na_Row_tops, rfl, .inr ⟨D, _, rfl, .inr ⟨_, [.inl (a : Int), .inl (m : Int)], p, r3.r.hd, rfl, hp3, Nat.lt_of_le_of_lt (m := 50000) (by omega) (ay (n := 50001) (by decide)), rfl⟩, ?_⟩⟩
    have xD : x ≠ D := bG hx3 r3.r.hd (fun z => nomatch z)
    have LD : L ≠ D := bG r3.r.hl r3.r.hd (fun z => nomatch z)
    have pD : p ≠ D := np'
    have szv : szK v ≤ szB m := Nat.le_trans (gS st) szk
    have okv : okP v = true := gZ st (by unfold szB at szk; omega)
    have ev : ∀ h, Ext g3 h → v = h (gD h ((es.drop a).take m)) := fun h eh => by rw [← ek h (Ext.of sub3 eh)]; exact (eh _ _ gv).symm
    have gg := eN.t (H := upd H3 D (.dT (bT (bu kvs2) [.inl (a : Int), .inl (m : Int)] (kV v)))) (kvs := bT (bu kvs2) [.inl (a : Int), .inl (m : Int)] (kV v)) (k := [.inl (a : Int), .inl (m : Int)]) ai (by rw [ao pD]; exact hp3)
    rw [kF, if_pos rfl] at gg
    refine ⟨x, A.c_Row, dx3, _, .ref D, rfl, by rw [ao xD]; exact hx3, T.cl_Row, T.na_Row_tops, rfl, .inr ⟨D, _, rfl, gg, ?_⟩⟩
    have K4 : bN b D H3 (upd H3 D (.dT (bT (bu kvs2) [.inl (a : Int), .inl (m : Int)] (kV v)))) := fun z o _ n e => by rw [ao n]; exact e
    refine q v kvs4 g3 _ ((((bN.same S1).trans k2).trans (bN.kb kb)).trans K4) ⟨⟨⟨dx3, by rw [ao xD]; exact hx3⟩, by rw [ao LD]; exact r3.r.hl, by rw [e4]; exact ai, r3.r.en, r3.r.le⟩, ?_, ?_, r3.db, by omega⟩ (s2.trans sub3) okv szv ev
    · refine r3.s.keep (by omega) fun z o e _ _ hz => ?_
      have : z ≠ D := by
        rcases hz with h | h
        · rw [h]; exact Ne.symm r3.db
        · exact bG e r3.r.hd (h _)
      rw [ao this]; exact e
    · intro k' v' e'
      rw [f4] at e'
      by_cases hk : k' = [.inl (a : Int), .inl (m : Int)]
      · rw [if_pos hk] at e'
        obtain rfl := Option.some.inj e'
        exact ⟨a, m, hk, ham, okv, szv, ev⟩
      · rw [if_neg hk] at e'
        exact r3.c _ _ e'
theorem kH {e p m:Nat} (h:m≤1):cw e p m=[]:=by
 cases e with
 | zero=>rfl
 | succ e=>unfold cw;rw [if_pos h]
theorem iV {e p m:Nat} (h:¬ m≤1):cw (e+1) p m=if p<aH m then 0::cw e p (aH m) else 1::cw e (p - aH m) (m - aH m):=by
 show (if m≤1 then _ else _)=_
 rw [if_neg h]
theorem kI : ∀ e p m, (cw e p m).length ≤ e
  | 0, _, _ => Nat.zero_le _
  | e + 1, p, m => by
    unfold cw
    split
    · simp
    · split
      · have := kI e p (aH m); simp; omega
      · have := kI e (p - aH m) (m - aH m); simp; omega
theorem CV (K:W.Frag) (A:Adr):Ln (oQ K A) 1:=by rintro vs H Q E ⟨m,rfl,_⟩;rfl
theorem EZ (T:Txt K mg A) (vs:List V) (H:Hp) (Q:VK) (E:XK) (h:oQ K A vs H Q E):IG K A { nx:=fun _ H'=>Q .non H',rt:=Q } (start ["_law_cell"] vs) H:=by
 obtain ⟨c,rfl,q⟩:=h
 have q':∀ i:Int,1≤i→i<2^60→Q (.int i) H:=fun i h0 h1=>IM (Q:=fun v=>Q v H) q h0 h1
 refine ⟨by decide,?_⟩
 refine Sel.dec (fun h=>?_) (fun h=>?_)
 · exact ⟨⟨by decide,by decide⟩,by decide,q' _ (by omega) (by omega)⟩
 · refine ⟨by decide,?_⟩
   refine Sel.dec (fun h=>?_) (fun h=>?_)
   · refine ⟨⟨by decide,by decide⟩,by decide,⟨by omega,by omega,by decide⟩,⟨by decide,by decide⟩,by decide,?_⟩
     have b:=Ah (k:=(1+c/3%59).toNat) (by omega) (by omega)
     generalize (1+c/3%59).toNat=k at b ⊢
     show Q (.int (1*2^k+c/177%4 - 1)) H
     exact q' _ (by omega) (by omega)
   · refine ⟨⟨by decide,by decide⟩,⟨by decide,by decide,by decide⟩,by decide,?_⟩
     show Q (.int (1+c/3%(1*2^60 - 1))) H
     exact q' _ (by omega) (by omega)
theorem Dw (K:W.Frag) (A:Adr):Ln (lY K A) 2:=by rintro vs H Q E ⟨p,m,rfl,_⟩;rfl
theorem Ep (T:Txt K mg A) (vs:List V) (H:Hp) (Q:VK) (E:XK) (h:lY K A vs H Q E):Ii K A { nx:=fun _ H'=>Q .non H',rt:=Q } (start ["place", "many", "turns", "first", "rest", "ahead"] vs) H:=by
 obtain ⟨p,m,rfl,hp,hm,q⟩:=h
 refine ⟨by show 0≤sizeLine;decide,fun D hD=>?_⟩
 have q':=q D hD
 refine ⟨fun e σ H2=>∃ (f r:Nat) (ts:List Int) (ah:Option V),σ=[some (.int p),some (.int m),some (.ref D),some (.int f),some (.int r),ah]∧H2=upd H D (.lst (ts.map V.int))∧
   f≤p∧p<f+r∧r≤2^e∧e≤60∧ts.length+e=60∧ts++cw e (p - f) r=cw 60 p m,⟨60,0,m,[],none,rfl,rfl,by omega,by omega,hm,by omega,rfl,by rw [List.nil_append,Nat.sub_zero]⟩,?_⟩
 rintro e σ H2 ⟨f,r,ts,ah,rfl,rfl,hf,hr,he,h60,hl,hw⟩
 refine xX (fun h=>?_) (fun h=>?_)
 · have h2:2≤r:=by omega
   cases e with
   | zero=>simp at he;omega
   | succ e=>
   have b1:=qw h2
   have b2:=kG h2
   have b3:=ku h2 he
   have hr60:r≤2^60:=Nat.le_trans he (Nat.pow_le_pow_right (by decide) h60)
   rw [iV (by omega)] at hw
   refine ⟨fun σ' H'=>∃ (f r:Nat) (ts:List Int) (ah:Option V),σ'=[some (.int p),some (.int m),some (.ref D),some (.int f),some (.int r),ah]∧H'=upd H D (.lst (ts.map V.int))∧
     f≤p∧p<f+r∧r≤2^e∧e≤60∧ts.length+e=60∧ts++cw e (p - f) r=cw 60 p m,fun σ' H' w=>⟨e,by omega,w⟩,?_⟩
   refine ⟨r,rfl,h2,hr60,?_⟩
   refine Sel.dec (fun hlt=>?_) (fun hlt=>?_)
   · rw [if_pos (by omega)] at hw
     refine ⟨.inl ⟨rfl,_,SqL.of ai⟩,D,_,_,rfl,rfl,ai,by rw [List.length_map];exact bx (by omega),?_⟩
     refine ⟨f,aH r,ts++[0],_,rfl,by rw [List.map_append];exact cU,hf,by omega,b3,by omega,by rw [List.length_append];simp;omega,?_⟩
     rw [List.append_assoc];exact hw
   · rw [if_neg (by omega)] at hw
     refine ⟨.inl ⟨rfl,_,SqL.of ai⟩,D,_,_,rfl,rfl,ai,by rw [List.length_map];exact bx (by omega),?_⟩
     refine ⟨f+aH r,r - aH r,ts++[1],some (.int (aH r)),?_,by rw [List.map_append];exact cU,by omega,by omega,by omega,by omega,by rw [List.length_append];simp;omega,?_⟩
     · show [some (V.int p),some (V.int m),some (V.ref D),some (V.int ((f:Int)+(aH r:Int))),some (V.int ((r:Int) - (aH r:Int))),some (V.int (aH r))]=_
       rw [show ((f:Int)+(aH r:Int))=((f+aH r:Nat):Int) by omega,show ((r:Int) - (aH r:Int))=((r - aH r:Nat):Int) by omega]
     · rw [List.append_assoc,show p - (f+aH r)=p - f - aH r by omega];exact hw
 · rw [kH (by omega),List.append_nil] at hw
   show Q (.ref D) (upd H D (.lst (ts.map V.int)))
   rw [hw];exact q'
theorem fX.same {H H':Hp} {P T:Addr} {e:Key} {ks:List Key} (w:fX H P T e ks) (S:aq H H'):fX H' P T e ks:=⟨S _ _ w.hP,S _ _ w.hT⟩
def dA (c:Int) (st:List (Int×Key)) (i:Nat) (v:Key):List Key:=match st[i]? with
 | some x=>jtT x.1 v x.2
 | none=>[.inr "row",.inl c,v]
theorem mQ (h:List Key→Key) (c:Int) (e:Key) (st:List (Int×Key)) (i:Nat):fz h c e st (i+1)=dA c st i (h (fz h c e st i)):=rfl
theorem nG (h:List Key→Key) (c:Int) (e:Key) (st:List (Int×Key)) (m:Nat):jc h c e st (m+1)=jc h c e st m++[fz h c e st m]:=by
 unfold jc;rw [List.range_succ,List.map_append];rfl
theorem Ext.refl' (g:gOp):Ext g (fun k=>(g k).getD (.inl 0)):=fun k v e=>by show (g k).getD _=v;rw [e];rfl
theorem pT {g:gOp} {c:Int} {e:Key} {st:List (Int×Key)} {m:Nat} {tt:List (List Key)} {t:List Key} (H1:∀ h,Ext g h→tt++[t]=jc h c e st (m+1)) {h:List Key→Key} (eh:Ext g h):t=fz h c e st m:=by
 have:=H1 h eh
 rw [nG] at this
 exact List.singleton_inj.mp (List.append_inj' this rfl).2
theorem wB {g g':gOp} {c:Int} {e:Key} {st:List (Int×Key)} {m:Nat} {tt:List (List Key)} {t:List Key} {v:Key} (H1:∀ h,Ext g h→tt++[t]=jc h c e st (m+1)) (sub:Sub g g') (gv:g' t=some v):
  ∀ h,Ext g' h→(tt++[t])++[dA c st m v]=jc h c e st (m+2):=fun h eh=>by
 have e1:=Ext.of sub eh
 rw [nG,←H1 h e1,mQ,←pT H1 e1,eh _ _ gv]
theorem okC {c:Nat} (h:c<2^60):okP (.inl (c:Int))=true:=by
 have p60:(2:Int)^60<10^60:=by decide +kernel
 have k:∀ i:Int,0≤i→i<10^60→okP (.inl i)=true:=fun i h0 h1=>decide_eq_true ⟨h0,h1⟩
 exact k _ (by omega) (by omega)
theorem EE {t:Int} {v a:Key} (hv:okP v=true) (ha:okP a=true):okT (jtT t v a)=true:=by
 unfold jtT;split
 · exact jr hv ha
 · exact jr ha hv
theorem Gz {t:Int} {v a:Key}:szT (jtT t v a)=67+szK v+szK a:=by
 unfold jtT;split
 · rw [sz3,szW.2.2.1];omega
 · rw [sz3,szW.2.2.1];omega
theorem tR {c : Nat} {st : List (Int × Key)} {i B : Nat} {v : Key} (hc : c < 2 ^ 60) (hm : ∀ x ∈ st, enK x.2) (ov : okP v = true) (sv : szK v ≤ B + 62) : okT (dA c st i v) = true ∧ szT (dA c st i v) ≤ B + 200 := by
  unfold dA
  cases e : st[i]? with
  | some x =>
    have hx := hm x (List.mem_of_getElem? e)
    exact ⟨EE ov hx.1, by rw [Gz]; have := hx.2; omega⟩
  | none =>
    refine ⟨lF okW.2.2.2 (fun z hz => ?_) (show 2 ≤ 7 by decide), ?_⟩
    · rcases List.mem_cons.mp hz with rfl | hz
      · exact okC hc
      · rw [List.mem_singleton.mp hz]; exact ov
    · show szT [.inr "row", .inl (c : Int), v] ≤ _
      rw [sz3, szW.2.2.2]; show 65 + (62 + szK v) ≤ _; omega
theorem jL {ts:List Int} {ks:List Key} (h:ks.length=ts.length):(stR ts ks).length=ts.length:=by unfold stR;simp [List.length_zip,h]
theorem Ab {ts:List Int} {ks:List Key} {x:Int×Key} (h:x∈stR ts ks):x.1∈ts∧x.2∈ks:=by
 unfold stR at h
 rw [List.mem_reverse] at h
 obtain ⟨a,b⟩:=x
 exact ⟨(List.of_mem_zip h).1,(List.of_mem_zip h).2⟩
theorem rV {ts:List Int} {ks:List Key} (h:ks.length=ts.length) {i:Nat} (hi:i<ts.length):∃ t k,ts[ts.length - 1 - i]?=some t∧ks[ts.length - 1 - i]?=some k∧(stR ts ks)[i]?=some (t,k):=by
 refine ⟨ts[ts.length - 1 - i]'(by omega),ks[ts.length - 1 - i]'(by omega),List.getElem?_eq_getElem (by omega),List.getElem?_eq_getElem (by omega),?_⟩
 unfold stR
 rw [List.getElem?_reverse (by rw [List.length_zip];omega)]
 have e:(ts.zip ks).length - 1 - i=ts.length - 1 - i:=by rw [List.length_zip];omega
 rw [e,List.getElem?_eq_getElem (by rw [List.length_zip];omega),List.getElem_zip]
theorem pP : ∀ (f p m : Nat), ∀ t ∈ cw f p m, t = 0 ∨ t = 1
  | 0, _, _, t, h => nomatch h
  | f + 1, p, m, t, h => by
    rw [cw] at h
    split at h
    · cases h
    · split at h
      · rcases List.mem_cons.mp h with rfl | h
        · exact .inl rfl
        · exact pP f _ _ t h
      · rcases List.mem_cons.mp h with rfl | h
        · exact .inr rfl
        · exact pP f _ _ t h
theorem fX.kb {H H':Hp} {P T f b:Addr} {e:Key} {ks:List Key} {g:gOp} {n:Nat} (w:fX H P T e ks) (s:Stp A H f b g n) (k:aO b H H'):fX H' P T e ks:=
 ⟨k _ _ (s.nb w.hP (fun _ z=>nomatch z) (fun _ z=>nomatch z)) w.hP,k _ _ (s.nb w.hT (fun _ z=>nomatch z) (fun _ z=>nomatch z)) w.hT⟩
theorem PK.keep {H H':Hp} {ps:List Addr} {tt:List (List Key)} (h:PK H ps tt) (k:∀ x xs,H x=some (.tup xs)→H' x=some (.tup xs)):PK H' ps tt:=Paired.mapP h fun p t ⟨h1,h2⟩=>⟨k _ _ h1,h2⟩
theorem ko {α β:Type} {F:α→β→Prop}:∀ {l₁:List α} {l₂:List β} {a:α} {b:β},Paired F l₁ l₂→F a b→Paired F (l₁++[a]) (l₂++[b])
 | _,_,_,_,.nil,h=> .cons h .nil
 | _,_,_,_,.cons r t,h=> .cons r (ko t h)
theorem aO.tup {H H':Hp} {f b:Addr} {g:gOp} {n:Nat} (s:Stp A H f b g n) (k:aO b H H'):∀ x xs,H x=some (.tup xs)→H' x=some (.tup xs):=fun x xs e=>k _ _ (s.nb e (fun _ z=>nomatch z) (fun _ z=>nomatch z)) e
theorem mH {H:Hp} {p:Addr} {t:List Key}:∀ {ps:List Addr} {tt:List (List Key)},ps.length=tt.length→PK H (ps++[p]) (tt++[t])→H p=some (.tup (t.map kV))∧okT t=true
 | [],[],_,.cons h _=>h
 | _::_,_::_,hl,.cons _ r=>mH (Nat.succ.inj hl) r
 | [],_::_,hl,_=>nomatch hl
 | _::_,[],hl,_=>nomatch hl
theorem jB {H:Hp} {p:Addr} {t:List Key} {ps:List Addr} {tt:List (List Key)} (h:PK H (ps++[p]) (tt++[t])):ps.length=tt.length:=by
 have:=pX h
 simp at this;exact this
theorem tQ.last {tt:List (List Key)} {m:Nat} (h:tt.length=m+1):∃ r t,tt=r++[t]:=by
 cases e:tt.reverse with
 | nil=>have:=congrArg List.length e;rw [List.length_reverse,h] at this;simp at this
 | cons x r=>exact ⟨r.reverse,x,by rw [← List.reverse_reverse tt,e,List.reverse_cons]⟩
theorem xn {H : Hp} {ps : List Addr} {r : List (List Key)} {t : List Key} (h : PK H ps (r ++ [t])) : ∃ qs p, ps = qs ++ [p] ∧ PK H (qs ++ [p]) (r ++ [t]) := by
  have hl := pX h
  cases e : ps.reverse with
  | nil => have := congrArg List.length e; rw [List.length_reverse, hl] at this; simp at this
  | cons x q =>
    have e2 : ps = q.reverse ++ [x] := by rw [← List.reverse_reverse ps, e, List.reverse_cons]
    exact ⟨_, _, e2, by rw [← e2]; exact h⟩
theorem Fe (K:W.Frag) (A:Adr):Ln (sH K A) 3:=by rintro vs H Q E ⟨a,x,y,rfl,_⟩;rfl
theorem GV (T:Txt K mg A):Rd (sH K A) (T_0 K A) ["self", "due", "came"]:=by
 intro vs H Q E h
 obtain ⟨a,x,y,rfl,ha,q⟩:=h
 refine ⟨a,rfl,T.ef_Broken_due,.inl ⟨ha,fun dx hdx ne=>?_⟩⟩
 refine ⟨a,rfl,T.ef_Broken_came,.inr ⟨dx,_,by rw [ao (Ne.symm ne)];exact ai,ai,ne,by show 1<1000;decide,?_⟩⟩
 exact q dx hdx
theorem jh {K:W.Frag} {H:Hp} {Q:VK} {a b:Key} (q:Q (.bl (!decide (a=b))) H):jo K (kV a) (kV b) H Q:=by
 cases a <;> cases b
 · rename_i i j
   have e:decide ((Sum.inl i:Key)=Sum.inl j)=decide (i=j):=by simp
   rw [e] at q;exact q
 · have e:∀ (i:Int) (j:Str),decide ((Sum.inl i:Key)=Sum.inr j)=false:=by simp
   rw [e] at q;exact q
 · have e:∀ (i:Int) (j:Str),decide ((Sum.inr j:Key)=Sum.inl i)=false:=by simp
   rw [e] at q;exact q
 · rename_i i j
   have e:decide ((Sum.inr i:Key)=Sum.inr j)=decide (i=j):=by simp
   rw [e] at q;exact q
theorem mR (xs:List V) (j:Nat) (hj:j≤xs.length):fh xs none (some (j:Int))=xs.take j:=by
 unfold fh
 rw [HT.rK,HT.pJ,List.drop_zero,Nat.sub_zero,Nat.min_eq_left hj]
theorem pA (xs:List V) (j:Nat) (hj:j≤xs.length):fh xs (some (j:Int)) none=xs.drop j:=by
 unfold fh
 rw [HT.rK,HT.pJ,Nat.min_eq_left hj,List.take_of_length_le (by rw [List.length_drop];omega)]
theorem aO.obj {H H':Hp} {b x:Addr} {o:HO} (k:aO b H H') (hb:(∃ φ,H b=some (.ext φ))∨∃ kvs,H b=some (.dT kvs)) (e:H x=some o) (h:∀ kvs,o≠ .dT kvs) (h2:∀ φ,o≠ .ext φ:=by intro _ z;cases z):H' x=some o:=k _ _ (fun z=>by
 subst z
 rcases hb with ⟨φ,hb⟩ | ⟨kvs,hb⟩
 · rw [e] at hb;exact h2 _ (Option.some.inj hb)
 · rw [e] at hb;exact h _ (Option.some.inj hb)) e
theorem Stp.setL {H:Hp} {f b P:Addr} {g:gOp} {n:Nat} {xs ys:List V} (s:Stp A H f b g n) (hP:H P=some (.lst xs)):Stp A (upd H P (.lst ys)) f b g n:=s.keep (Nat.le_refl _) fun z o e h1 _ _=>by rw [ao (bG e hP (h1 _))];exact e
structure Ld (A:Adr) (H H':Hp) (f b M:Addr) (c:Nat) (e:Key) (st:List (Int×Key)) (i:Nat) (g g':gOp) (n:Nat) (ps:List Addr) (p:Addr) (tt:List (List Key)) (t:List Key):Prop where
 kb:aO b H H'
 s:Stp A H' f b g' (n+i)
 sub:Sub g g'
 hM:H' M=some (.lst (ps.map V.ref++[.ref p]))
 pk:PK H' (ps++[p]) (tt++[t])
 len:tt.length=i
 sz:∀ k∈tt++[t],szT k≤200*(i+1)
 eq:∀ h,Ext g' h→tt++[t]=jc h c e st (i+1)
theorem Ld.step {H H5:Hp} {f b M:Addr} {c:Nat} {e:Key} {st:List (Int×Key)} {i:Nat} {g g5:gOp} {n:Nat} {ps:List Addr} {p:Addr} {tt:List (List Key)} {t:List Key} {R:VK}
   (l:Ld A H H5 f b M c e st i g g5 n ps p tt t) (hM:H M=none) (hc:c<2^60) (hm:∀ x∈st,enK x.2) (hi:i≤61) (hn:n+i≤45000)
   (q:∀ (v:Key) (H6:Hp) (g6:gOp),aO b H5 H6→H6 M=some (.lst (ps.map V.ref++[.ref p]))→(∀ p7,H6 p7=none→Ld A H (upd (upd H6 p7 (.tup ((dA c st i v).map kV))) M (.lst (ps.map V.ref++[.ref p]++[.ref p7]))) f b M c e st (i+1) g g6 n (ps++[p]) p7 (tt++[t]) (dA c st i v))→R (kV v) H6):lr (eU K A) f [.ref p] H5 R E0:=by
 obtain ⟨kb,s5,sub,hM5,pk,len,sz,eq⟩:=l
 obtain ⟨hp,ok⟩:=mH (jB pk) pk
 have nM:M≠b:=s5.nb hM5 (fun _ z=>nomatch z) (fun _ z=>nomatch z)
 refine gQ s5 hn hp ok fun v H6 g6 kb6 s6 sub6 gv st6=>?_
 have hM6:=kb6 _ _ nM hM5
 have szt:=sz t (by simp)
 have ov:=gZ st6 (by omega)
 have sv:=gS st6
 obtain ⟨ok7,sz7⟩:=tR (i:=i) (B:=200*(i+1)) hc hm ov (by omega)
 refine q v H6 g6 kb6 hM6 fun p7 hp7=>?_
 have L7:p7≠M:=Ne.symm (aw hM6 hp7)
 have hM7:upd H6 p7 (.tup ((dA c st i v).map kV)) M=some (.lst (ps.map V.ref++[.ref p])):=aq.upd hp7 _ _ hM6
 have kt:∀ x xs,H6 x=some (.tup xs)→upd (upd H6 p7 (.tup ((dA c st i v).map kV))) M (.lst (ps.map V.ref++[.ref p]++[.ref p7])) x=some (.tup xs):=fun x xs ex=>by
   rw [ao (bG ex hM6 (fun z=>nomatch z))];exact aq.upd hp7 _ _ ex
 refine ⟨fun z o nz ez=>?_,?_,sub.trans sub6,by rw [ai,List.map_append];rfl,ko ((pk.keep (aO.tup s5 kb6)).keep kt) ⟨by rw [ao L7];exact ai,ok7⟩,by rw [List.length_append,len];rfl,fun k hk=>?_,wB eq sub6 gv⟩
 · rw [ao (aw ez hM)];exact aq.upd hp7 _ _ (kb6 _ _ nz (kb _ _ nz ez))
 · exact (s6.same (Nat.le_refl _) (aq.upd hp7)).setL hM7
 · rcases List.mem_append.mp hk with h | h
   · have:=sz k h;omega
   · rw [List.mem_singleton.mp h];omega
theorem Ld.start {H H3:Hp} {f b M t0:Addr} {c:Nat} {e:Key} {st:List (Int×Key)} {g:gOp} {n:Nat} (s:Stp A H f b g n) (S:aq H H3) (he:enK e) (ht:H3 t0=some (.tup [.str "entry",kV e])) (hM:H3 M=some (.lst [.ref t0])):Ld A H H3 f b M c e st 0 g g n [] t0 [] [.inr "entry",e]:=
 ⟨aO.same S,s.same (Nat.le_refl _) S,Sub.rfl',hM,.cons ⟨ht,ja he.1⟩ .nil,rfl,fun k hk=>by
  rw [List.mem_singleton.mp hk,sz2,szW.2.1];have:=he.2;omega,fun h _=>rfl⟩
theorem Ld.done {H H':Hp} {f b M:Addr} {c:Nat} {e:Key} {st:List (Int×Key)} {i m:Nat} {g g':gOp} {n:Nat} {ps:List Addr} {p:Addr} {tt:List (List Key)} {t:List Key} {Q:VK}
  (l:Ld A H H' f b M c e st i g g' n ps p tt t) (hM:H M=none) (hi:i≤62) (em:m=i+1) (q:tQ A f b c st e m g n H Q):Q (.ref M) H':=by
 subst em
 have nM:M≠b:=l.s.nb l.hM (fun _ z=>nomatch z) (fun _ z=>nomatch z)
 refine q M (ps++[p]) (tt++[t]) g' H' l.kb (l.s.same (by omega) (.refl _)) l.sub hM nM (by rw [l.hM,List.map_append];rfl) l.pk (fun x hx=>?_) (by rw [List.length_append,l.len];rfl) (fun k hk=>by have:=l.sz k hk;omega) l.eq
 obtain ⟨j,hj⟩:=List.mem_iff_getElem?.mp hx
 have hlt:j<(tt++[t]).length:=by rw [← pX l.pk];exact (List.getElem?_eq_some_iff.mp hj).1
 obtain ⟨p',h1,h2,_⟩:=Bq l.pk (List.getElem?_eq_getElem hlt)
 rw [hj] at h1
 cases h1
 exact l.s.nb h2 (fun _ z=>nomatch z) (fun _ z=>nomatch z)
theorem jA {ts:List Int} {ks:List Key} (h:∀ k∈ks,enK k):∀ x∈stR ts ks,enK x.2:=fun x hx=>h _ (Ab hx).2
theorem Br (K:W.Frag) (A:Adr):Ln (oM K A) 2:=by rintro vs H Q E ⟨p,m,rfl,_⟩;rfl
theorem FX (T:Txt K mg A):Rd (oM K A) (IY K A) ["_law_place", "_law_many", "_law_turns", "_law_cut"]:=by
 intro vs H Q E h
 obtain ⟨p,m,rfl,hp,hm,q⟩:=h
 refine ⟨by show 0≤sizeLine;decide,fun D hD=>?_⟩
 have q':=q D hD
 refine ⟨⟨by decide,by decide,by decide⟩,?_⟩
 show ∃ _,_
 refine ⟨fun e σ H2=>∃ (f r c:Nat) (ts:List Int),σ=[some (.int (f:Int)),some (.int (r:Int)),some (.ref D),some (.int ((2^c:Nat):Int))]∧H2=upd H D (.lst (ts.map V.int))∧
   f<r∧r≤2^e∧r≤2^c∧e≤60∧ts.length+e=60∧ts++cw e f r=cw 60 p m,⟨60,p,m,60,[],rfl,rfl,hp,hm,hm,Nat.le_refl _,rfl,by rw [List.nil_append]⟩,?_⟩
 rintro e σ H2 ⟨f,r,c,ts,rfl,rfl,hf,he,hc,h60,hl,hw⟩
 refine xX (fun h=>?_) (fun h=>?_)
 · have h2:2≤r:=by have h:(1:Int)<(r:Int):=h;omega
   cases e with
   | zero=>simp at he;omega
   | succ e=>
   have b1:=qw h2
   have b2:=kG h2
   have b3:=ku h2 he
   obtain ⟨k,ek,hk⟩:=jm h2 hc
   rw [iV (by omega)] at hw
   refine ⟨fun σ' H'=>∃ (f r c:Nat) (ts:List Int),σ'=[some (.int (f:Int)),some (.int (r:Int)),some (.ref D),some (.int ((2^c:Nat):Int))]∧H'=upd H D (.lst (ts.map V.int))∧
     f<r∧r≤2^e∧r≤2^c∧e≤60∧ts.length+e=60∧ts++cw e f r=cw 60 p m,fun σ' H' w=>⟨e,by omega,w⟩,?_⟩
   refine ⟨fun g σ' H'=>∃ d:Nat,σ'=[some (.int (f:Int)),some (.int (r:Int)),some (.ref D),some (.int ((2^d:Nat):Int))]∧H'=upd H D (.lst (ts.map V.int))∧g=d∧k≤d,⟨c,c,rfl,rfl,rfl,by omega⟩,?_⟩
   rintro g σ' H' ⟨d,rfl,rfl,rfl,hd⟩
   refine xX (fun h=>?_) (fun h=>?_)
   · have h:(r:Int)≤((2^g:Nat):Int):=h
     have hkd:k<g:=by
       rcases Nat.lt_or_ge k g with h' | h'
       · exact h'
       · have:k=g:=by omega
         subst this
         omega
     cases g with
     | zero=>omega
     | succ g=>
     refine ⟨fun σ'' H''=>∃ d:Nat,σ''=[some (.int (f:Int)),some (.int (r:Int)),some (.ref D),some (.int ((2^d:Nat):Int))]∧H''=upd H D (.lst (ts.map V.int))∧g=d∧k≤d,fun _ _ w=>⟨g,by omega,w⟩,?_⟩
     refine ⟨⟨by decide,by decide⟩,g,?_,rfl,rfl,by omega⟩
     have hp2:2^(g+1)=2*2^g:=by rw [Nat.pow_succ];omega
     show [some (V.int f),some (V.int r),some (V.ref D),some (V.int (((2^(g+1):Nat):Int)/2))]=_
     rw [show (((2^(g+1):Nat):Int)/2)=((2^g:Nat):Int) by omega]
   · have h:¬ (r:Int)≤((2^g:Nat):Int):=h
     have hgk:g=k:=by
       rcases Nat.lt_or_ge k g with h' | h'
       · have:2^(k+1)≤2^g:=Nat.pow_le_pow_right (by decide) h'
         rw [Nat.pow_succ] at this
         omega
       · omega
     subst hgk
     rw [← ek] at h ⊢
     refine ⟨.inl ⟨rfl,_,SqL.of ai⟩,D,_,_,rfl,rfl,ai,by rw [List.length_map];exact bx (by omega),?_⟩
     refine Sel.dec (fun hlt=>?_) (fun hlt=>?_)
     · have hlt:((aH r:Nat):Int)≤(f:Int):=hlt
       rw [if_neg (by omega)] at hw
       refine ⟨f - aH r,r - aH r,g,ts++[1],?_,?_,by omega,by omega,by omega,by omega,by rw [List.length_append];simp;omega,by rw [List.append_assoc];exact hw⟩
       · rw [← ek]
         show [some (V.int ((f:Int) - (aH r:Int))),some (V.int ((r:Int) - (aH r:Int))),some (V.ref D),some (V.int (aH r))]=_
         rw [show ((f:Int) - (aH r:Int))=((f - aH r:Nat):Int) by omega,show ((r:Int) - (aH r:Int))=((r - aH r:Nat):Int) by omega]
       · rw [cU,List.map_append,decide_eq_true hlt];rfl
     · have hlt:¬ ((aH r:Nat):Int)≤(f:Int):=hlt
       rw [if_pos (by omega)] at hw
       refine ⟨f,aH r,g,ts++[0],by rw [ek];rfl,?_,by omega,b3,by omega,by omega,by rw [List.length_append];simp;omega,by rw [List.append_assoc];exact hw⟩
       · rw [cU,List.map_append,decide_eq_false hlt];rfl
 · have h:¬ (1:Int)<(r:Int):=h
   rw [kH (by omega),List.append_nil] at hw
   rw [hw];exact q'
theorem Dj (K:W.Frag) (A:Adr):Ln (lu K A) 1:=by rintro vs H Q E ⟨v,d,rfl,_⟩;rfl
theorem Ey (T : Txt K mg A) : Rd (lu K A) (IV K A) ["thing"] := by
  intro vs H Q E h
  obtain ⟨v, d, rfl, w, q⟩ := h
  refine ⟨_, d, rfl, w, ?_⟩
  cases w with
  | int i =>
    refine Sel.yes rfl (Sel.dec (fun h0 => ⟨by decide, ?_⟩) (fun h0 => ?_))
    · show Q (.bl (decide (i < 1 * 2 ^ (60 : Int).toNat))) H
      have e : bL (.int i) = decide (i < 1 * 2 ^ (60 : Int).toNat) := by
        show decide (0 ≤ i ∧ i < 2 ^ 60) = decide (i < 1 * 2 ^ 60)
        by_cases h1 : i < 2 ^ 60
        · rw [decide_eq_true ⟨h0, h1⟩, decide_eq_true (by omega)]
        · rw [decide_eq_false fun z => h1 z.2, decide_eq_false (by omega)]
      rw [← e]; exact q
    · have e : bL (.int i) = false := decide_eq_false fun z => h0 z.1
      rw [← e]; exact q
  | non => exact Sel.no rfl q
  | bl b => exact Sel.no rfl q
  | str z => exact Sel.no rfl q
  | lst e r => exact Sel.no rfl q
  | tup e r => exact Sel.no rfl q
  | dic e => exact Sel.no rfl q
theorem nJ {d : Dat} (h : bL d = true) : ∃ c : Nat, d = .int (c : Int) ∧ c < 2 ^ 60 := by
  cases d with
  | int i =>
    obtain ⟨h0, h1⟩ : 0 ≤ i ∧ i < 2 ^ 60 := of_decide_eq_true h
    exact ⟨i.toNat, by rw [Int.toNat_of_nonneg h0], by omega⟩
  | non => cases h
  | bl b => cases h
  | str z => cases h
  | lst e => cases h
  | tup e => cases h
  | dic => cases h
theorem aF.int_inv {H:Hp} {v:V} {i:Int} (w:aF H v (.int i)):v=.int i:=by cases w;rfl
theorem qm {i:Int} (h0:0≤i) (h1:i<2^60):bL (.int i)=true:=decide_eq_true ⟨h0,h1⟩
theorem Bm (K:W.Frag) (A:Adr):Ln (lW K A) 1:=by rintro vs H Q E ⟨v,d,rfl,_⟩;rfl
theorem DW (T : Txt K mg A) : Rd (lW K A) (Iq K A) ["thing"] := by
  intro vs H Q E h
  obtain ⟨v, d, rfl, w, q⟩ := h
  cases w with
  | @tup a xs ds ea r =>
    have ty : tyN H (.ref a) = some "tuple" := by unfold tyN; dsimp only; rw [ea]
    refine ⟨by decide, "tuple", ty, Sel.t (.inl (.inr (.inl ⟨_, SqT.of ea, ?_⟩)))⟩
    have hl := r.len
    by_cases h2 : ds.length = 2
    · refine Sel.yes (decide_eq_true (by omega)) ?_
      cases r with
      | nil => cases h2
      | cons r1 r =>
      cases r with
      | nil => cases h2
      | cons r2 r =>
      cases r with
      | cons r3 r => simp at h2
      | nil =>
      refine ixT (j := 0) ea rfl rfl ⟨_, _, rfl, r1, ?_⟩
      refine Sel.mk (fun hc => ?_) (fun hc => ?_)
      · refine ixT (j := 1) ea rfl rfl ⟨_, _, rfl, r2, ?_⟩
        have q : Q (.bl (bL _ && aK _)) H := q
        rw [hc, Bool.true_and] at q; exact q
      · have q : Q (.bl (bL _ && aK _)) H := q
        rw [hc, Bool.false_and] at q; exact q
    · refine Sel.no (decide_eq_false (by omega)) ?_
      have e : cp (.tup ds) = false := by
        match ds, h2 with
        | [], _ => rfl
        | [_], _ => rfl
        | [_, _], h => exact absurd rfl h
        | _ :: _ :: _ :: _, _ => rfl
      rw [e] at q; exact q
  | int i => exact ⟨by decide, _, rfl, Sel.f q⟩
  | non => exact ⟨by decide, _, rfl, Sel.f q⟩
  | bl b => exact ⟨by decide, _, rfl, Sel.f q⟩
  | str z => exact ⟨by decide, _, rfl, Sel.f q⟩
  | lst e r => exact ⟨by decide, _, (aF.lst e r).ty, Sel.f q⟩
  | dic e => exact ⟨by decide, _, (aF.dic e).ty, Sel.f q⟩
theorem Cm (K:W.Frag) (A:Adr):Ln (oE K A) 1:=by rintro vs H Q E ⟨v,d,rfl,_⟩;rfl
theorem FQ (T:Txt K mg A) (vs:List V) (H:Hp) (Q:VK) (E:XK) (h:oE K A vs H Q E):AC K A E { nx:=fun _ H'=>Q .non H',rt:=Q } (L2.start ["thing"] vs) H:=by
 obtain ⟨v,d,rfl,w,q1,q2⟩:=h
 refine ⟨v,d,rfl,w,?_⟩
 cases e:cp d with
 | true=>exact Sel.f (q1 e)
 | false=>exact Sel.t (q2 e)
theorem BL (K:W.Frag) (A:Adr):Ln (oI K A) 2:=by rintro vs H Q E ⟨n,v,d,rfl,_⟩;rfl
theorem GG (T : Txt K mg A) : Rd (oI K A) (HS K A) ["many", "thing"] := by
  intro vs H Q E h
  obtain ⟨n, v, d, rfl, w, sh, q⟩ := h
  cases w with
  | @tup p xs ds hp r =>
    have ty : tyN H (.ref p) = some "tuple" := by unfold tyN; dsimp only; rw [hp]
    have hl := r.len
    have l5 : ds.length ≤ 500 := sh
    refine ⟨by decide, "tuple", ty, Sel.t (.inl (.inr (.inl ⟨_, SqT.of hp, ?_⟩)))⟩
    have q : ∀ H', aq H H' → Q (.bl (decide ((ds.length : Int) = n) && ds.all aK)) H' := q
    refine Sel.dec (fun hn => ?_) (fun hn => ?_)
    · rw [decide_eq_true (show (ds.length : Int) = n by rw [← hl]; exact hn)] at q
      refine ⟨p, rfl, .inr ⟨⟨_, SqT.of hp⟩, fun D hD => ?_⟩⟩
      have hne : p ≠ D := aw hp hD
      refine dQ (cS.tuple (xs := xs) .non) (fun i ys H2 => ys = (ds.take i).map (fun x => V.bl (aK x)) ∧ H2 = upd H D (.lst ys)) (fun i ys H2 hi ⟨_, e2⟩ => ?_) ⟨rfl, rfl⟩ (fun i ys H2 hi ⟨e1, e2⟩ => ?_) (fun ys H2 ⟨e1, e2⟩ => ?_)
      · rw [e2]; exact SqT.of (by rw [ao hne]; exact hp)
      · subst e2
        obtain ⟨x, hx⟩ : ∃ x, xs[i]? = some x := ⟨_, List.getElem?_eq_getElem hi⟩
        obtain ⟨dx, hdx, wx⟩ := r.get hx
        have hg : xs.getD i .non = x := by rw [List.getD_eq_getElem?_getD, hx]; rfl
        rw [hg]
        refine gH ⟨_, dx, rfl, wx.mono (aq.upd hD), ?_⟩
        have hyl : ys.length = i := by rw [e1, List.length_map, List.length_take]; omega
        refine ⟨ai, by rw [hyl]; exact bx (by omega), CWd.next hi ⟨?_, cU⟩⟩
        rw [e1, List.take_add_one, List.map_append, hdx]; rfl
      · subst e2
        rw [hl, List.take_length] at e1
        refine ⟨D, ds.map aK, rfl, by rw [ai, e1, List.map_map]; rfl, ?_⟩
        have e : (ds.map aK).all id = ds.all aK := by rw [List.all_map]; rfl
        have := q _ (aq.upd (o := .lst ys) hD)
        rw [Bool.true_and, ← e] at this
        exact this
    · rw [decide_eq_false (show ¬ (ds.length : Int) = n by rw [← hl]; exact hn)] at q
      exact q H (.refl H)
  | int i => exact ⟨by decide, _, rfl, Sel.f (q H (.refl H))⟩
  | non => exact ⟨by decide, _, rfl, Sel.f (q H (.refl H))⟩
  | bl b => exact ⟨by decide, _, rfl, Sel.f (q H (.refl H))⟩
  | str z => exact ⟨by decide, _, rfl, Sel.f (q H (.refl H))⟩
  | lst e r => exact ⟨by decide, _, (aF.lst e r).ty, Sel.f (q H (.refl H))⟩
  | dic e => exact ⟨by decide, _, (aF.dic e).ty, Sel.f (q H (.refl H))⟩
theorem HY {b L:Addr} {H:Hp} (bb:(∃ φ,H b=some (.ext φ))∨∃ kvs,H b=some (.dT kvs)) (h:H L=none):b≠L:=by
 rintro rfl
 rcases bb with ⟨φ,e⟩ | ⟨kvs,e⟩ <;> (rw [h] at e;cases e)
theorem jM {H : Hp} : ∀ {xs : List V} {ks : List Key}, DatWs H xs (ks.map bB) → xs = ks.map kV
  | [], [], _ => rfl
  | _ :: _, [], h => nomatch h
  | [], _ :: _, h => nomatch h
  | x :: xs, k :: ks, h => by
    cases h with
    | cons a r =>
      have e : x = kV k := by
        cases k with
        | inl i => cases a; rfl
        | inr z => cases a; rfl
      rw [e, jM r]; rfl
theorem eR {H:Hp}:∀ ks:List Key,DatWs H (ks.map kV) (ks.map bB)
 | []=> .nil
 | k::r=> .cons (bD k) (eR r)
theorem Aq (K:W.Frag) (A:Adr):Ln (lB K A) 2:=by rintro vs H Q E ⟨v,d,w,e,rfl,_⟩;rfl
theorem Ez (T : Txt K mg A) : Rd (lB K A) (HJ K A) ["count", "place"] := by
  intro vs H Q E h
  obtain ⟨v, d, w, e, rfl, hd, he, q⟩ := h
  refine ⟨v, d, rfl, hd, ?_⟩
  unfold aD at q
  cases hc : bL d with
  | false => rw [hc] at q; exact Sel.f q
  | true =>
    rw [hc] at q
    obtain ⟨c, rfl, c2⟩ := nJ hc
    cases hd.int_inv
    refine Sel.t ⟨w, e, rfl, he, ?_⟩
    cases he with
    | int i =>
      refine Sel.yes rfl (Sel.dec (fun h0 => ?_) (fun h0 => ?_))
      · show Q (.bl (decide (i < (c : Int)))) H
        have ee : decide (0 ≤ i ∧ i < (c : Int)) = decide (i < (c : Int)) := by
          by_cases h1 : i < (c : Int)
          · rw [decide_eq_true ⟨h0, h1⟩, decide_eq_true h1]
          · rw [decide_eq_false fun z => h1 z.2, decide_eq_false h1]
        rw [← ee]; exact q
      · have ee : decide (0 ≤ i ∧ i < (c : Int)) = false := decide_eq_false fun z => h0 z.1
        rw [← ee]; exact q
    | non => exact Sel.no rfl q
    | bl b => exact Sel.no rfl q
    | str z => exact Sel.no rfl q
    | lst e r => exact Sel.no rfl q
    | tup e r => exact Sel.no rfl q
    | dic e => exact Sel.no rfl q
theorem gq {d e : Dat} (h : aD d e = true) : ∃ c el : Nat, d = .int (c : Int) ∧ e = .int (el : Int) ∧ el < c ∧ c < 2 ^ 60 := by
  unfold aD at h
  obtain ⟨h1, h2⟩ := Bool.and_eq_true_iff.mp h
  obtain ⟨h3, h4⟩ := Bool.and_eq_true_iff.mp h1
  obtain ⟨c, rfl, c2⟩ := nJ h3
  cases e with
  | int i =>
    obtain ⟨a, b⟩ : 0 ≤ i ∧ i < (c : Int) := of_decide_eq_true h2
    exact ⟨c, i.toNat, rfl, by rw [Int.toNat_of_nonneg a], by omega, c2⟩
  | non => cases h4
  | bl b => cases h4
  | str z => cases h4
  | lst e => cases h4
  | tup e => cases h4
  | dic => cases h4
theorem iZ {c e:Int} (h0:0≤e) (h1:e<c) (h2:c<2^60):aD (.int c) (.int e)=true:=by
 unfold aD
 rw [qm (by omega) h2]
 show decide (0≤e∧e<c)=true
 exact decide_eq_true ⟨h0,h1⟩
theorem da {c el:Nat} (h1:el<c) (h2:c<2^60):aD (.int (c:Int)) (.int (el:Int))=true:=iZ (by omega) (by omega) (by omega)
theorem BE (K:W.Frag) (A:Adr):Ln (oB K A) 2:=by rintro vs H Q E ⟨L,ts,v,d,rfl,_⟩;rfl
theorem FS (T : Txt K mg A) : Rd (oB K A) (Im K A) ["turns", "thing"] := by
  intro vs H Q E h
  obtain ⟨L, ts, v, d, rfl, hL, l5, w, sh, q⟩ := h
  have q0 := q H (.refl H)
  cases w with
  | @tup a xs ds ea r =>
    have ty : tyN H (.ref a) = some "tuple" := by unfold tyN; dsimp only; rw [ea]
    refine ⟨by decide, "tuple", ty, Sel.no rfl (.inl (.inr (.inl ⟨_, SqT.of ea, ?_⟩)))⟩
    have hl := r.len
    by_cases h2 : ds.length = 2
    · refine Sel.no (by show (!decide ((xs.length : Int) = 2)) = false; rw [decide_eq_true (show (xs.length : Int) = 2 by omega)]; rfl) ?_
      cases r with
      | nil => cases h2
      | cons r1 r =>
      cases r with
      | nil => cases h2
      | cons r2 r =>
      cases r with
      | cons r3 r => simp at h2
      | nil =>
      refine ixT (j := 0) ea rfl rfl ⟨_, _, rfl, r1, ?_⟩
      refine Sel.mk (fun hc => ?_) (fun hc => ?_)
      · refine .inl (.inl ⟨_, SqL.of hL, ixT (j := 1) ea rfl rfl ⟨_, _, _, rfl, r2, sh, fun H' S => ?_⟩⟩)
        have q : Q (.bl (aK _ && dg _ _)) H' := q H' S
        rw [hc, Bool.true_and] at q
        rw [List.length_map]; exact q
      · have q : Q (.bl (aK _ && dg _ _)) H := q0
        rw [hc, Bool.false_and] at q; exact q
    · refine Sel.yes (by show (!decide ((xs.length : Int) = 2)) = true; rw [decide_eq_false (show ¬ (xs.length : Int) = 2 by omega)]; rfl) ?_
      have e : cO ts.length (.tup ds) = false := by
        match ds, h2 with
        | [], _ => rfl
        | [_], _ => rfl
        | [_, _], h => exact absurd rfl h
        | _ :: _ :: _ :: _, _ => rfl
      rw [e] at q0; exact q0
  | int i => exact ⟨by decide, _, rfl, Sel.yes rfl (Sel.t q0)⟩
  | non => exact ⟨by decide, _, rfl, Sel.yes rfl (Sel.t q0)⟩
  | bl b => exact ⟨by decide, _, rfl, Sel.yes rfl (Sel.t q0)⟩
  | str z => exact ⟨by decide, _, rfl, Sel.yes rfl (Sel.t q0)⟩
  | lst e r => exact ⟨by decide, _, (aF.lst e r).ty, Sel.yes rfl (Sel.t q0)⟩
  | dic e => exact ⟨by decide, _, (aF.dic e).ty, Sel.yes rfl (Sel.t q0)⟩
theorem ef.at {H : Hp} {m : V} {k : Dat} {n : Nat} {e : Key} {ks : List Key} (M : ef k n e ks) (w : aF H m k) : ∃ P T, m = .ref P ∧ fX H P T e ks := by
  rw [M.q] at w
  cases w with
  | tup ea r =>
    cases r with
    | cons r1 r =>
    cases r with
    | cons r2 r =>
    cases r
    cases r2 with
    | tup eb r2 =>
      have := jM (ks := [e]) (.cons r1 .nil)
      cases this
      exact ⟨_, _, rfl, ea, by rw [eb, jM r2]⟩
theorem ef.yes {k:Dat} {n:Nat} {e:Key} {ks:List Key} (M:ef k n e ks):cO n k=true:=by
 rw [M.q]
 show (aK (bB e)&&(decide (((ks.map bB).length:Int)=(n:Int))&&(ks.map bB).all aK))=true
 rw [gE M.ee.1,List.length_map,M.l,decide_eq_true rfl,Bool.true_and,Bool.true_and,List.all_map,List.all_eq_true]
 exact fun x hx=>gE (M.en x hx).1
theorem ef.of {H:Hp} {P T:Addr} {e:Key} {ks:List Key} (w:fX H P T e ks):aF H (.ref P) (.tup [bB e,.tup (ks.map bB)]):=
 .tup w.hP (.cons (bD e) (.cons (.tup w.hT (eR ks)) .nil))
theorem AN (K:W.Frag) (A:Adr):Ln (lM K A) 4:=by rintro vs H Q E ⟨f,b,g,n,v,w,m,d,e,k,rfl,_⟩;rfl
theorem pE {c p:Nat} (h:c≤2^60):(bh c p).length≤60:=kI _ _ _
theorem Ex (T : Txt K mg A) (vs : List V) (H : Hp) (Q : VK) (E : XK) (h : lM K A vs H Q E) : BY K A E { nx := fun _ H' => Q .non H', rt := Q } (L2.start ["stamper", "count", "place", "paper", "turns", "terms", "step"] vs) H := by
  obtain ⟨f, b, g, n, v, w, m, d, e, k, rfl, a, hd, q1, q2⟩ := h
  refine ⟨v, d, w, e, rfl, hd, a.he, ?_⟩
  cases hE : aD d e with
  | false => exact Sel.t (q1 hE)
  | true =>
    refine Sel.f ?_
    obtain ⟨c, p, rfl, rfl, lt, c2⟩ := gq hE
    cases hd.int_inv
    cases a.he.int_inv
    have q3 := q2 c p rfl rfl lt c2
    have hn := a.hn
    have tl : (bh c p).length ≤ 60 := pE (by omega)
    refine ⟨p, c, rfl, lt, by omega, fun W hWn => ?_⟩
    have S1 : aq H (upd H W (.lst ((bh c p).map V.int))) := aq.upd hWn
    have hW : upd H W (.lst ((bh c p).map V.int)) W = some (.lst ((bh c p).map V.int)) := ai
    generalize upd H W (.lst ((bh c p).map V.int)) = H1 at S1 hW
    unfold sd at q3
    generalize hts : bh c p = ts at *
    refine ⟨W, ts, m, k, rfl, hW, by omega, a.hm.mono S1, a.sh, fun H2 S2 => ?_⟩
    rcases q3 with ⟨hb, qE⟩ | ⟨e, ks, M, q⟩
    · rw [hb]; exact Sel.t (qE _ (S1.trans S2))
    rw [M.yes]
    refine Sel.f ?_
    obtain ⟨P, TT, rfl, w⟩ := M.at a.hm
    have s := a.s
    have ee := M.ee
    have ke := M.en
    have kl := M.l
    have w2 := (w.same S1).same S2
    refine ixT (j := 0) w2.hP rfl rfl ⟨ay (show 2 ≤ 1000000 by decide), fun t ht => ⟨ay (show 1 ≤ 1000000 by decide), fun L hL => ?_⟩⟩
    have S3 : aq H2 (upd (upd H2 t (.tup [.str "entry", kV e])) L (.lst [.ref t])) := (aq.upd ht).trans (aq.upd hL)
    have hL3 : upd (upd H2 t (.tup [.str "entry", kV e])) L (.lst [.ref t]) L = some (.lst [.ref t]) := ai
    have ht3 : upd (upd H2 t (.tup [.str "entry", kV e])) L (.lst [.ref t]) t = some (.tup [.str "entry", kV e]) := aq.upd hL _ _ ai
    have hLn : H2 L = none := (cr hL).2
    generalize upd (upd H2 t (.tup [.str "entry", kV e])) L (.lst [.ref t]) = H3 at S3 hL3 ht3
    have w3 := w2.same S3
    have hLH : H L = none := by
      cases z : H L with
      | none => rfl
      | some o => rw [S2 _ _ (S1 _ _ z)] at hLn; cases hLn
    refine ixT (j := 1) w3.hP rfl rfl ⟨W, TT, _, _, rfl, SqL.of (S3 _ _ (S2 _ _ hW)), SqT.of w3.hT, by rw [List.length_map, List.length_map, kl], fun Z ps H4 hZn S4 lp hps hZ => ⟨Z, _, rfl, .inl ⟨SqL.of hZ, ?_⟩⟩⟩
    have S : aq H H4 := S1.trans (S2.trans (S3.trans S4))
    have lps : ps.length = ts.length := by rw [lp, List.length_map]
    have hp4 : ∀ (j : Nat) (p : Addr) (tn : Int) (k : Key), ps[j]? = some p → ts[j]? = some tn → ks[j]? = some k → H4 p = some (.tup [.int tn, kV k]) := fun j p' tn k h1 h2 h3 => hps j p' _ _ h1 (by rw [List.getElem?_map, h2]; rfl) (by rw [List.getElem?_map, h3]; rfl)
    have LZ : Z ≠ L := Ne.symm (aw hL3 hZn)
    have hL4 := S4 _ _ hL3
    refine Cv (cS.revL (xs := ps.map V.ref) .non) (fun i σ H' => ∃ x6 g' qs pr tt t', σ = [some (.ref f), some (.int (c : Int)), some (.int (p : Int)), some (.ref P), some (.ref W), some (.ref L), x6] ∧ Ld A H H' f b L c e (stR ts ks) i g g' n qs pr tt t' ∧ H' Z = some (.lst (ps.map V.ref)) ∧
        ∀ (j : Nat) (p : Addr) (tn : Int) (k : Key), ps[j]? = some p → ts[j]? = some tn → ks[j]? = some k → H' p = some (.tup [.int tn, kV k]))
      ⟨none, g, _, _, _, _, rfl, Ld.start s S ee (S4 _ _ ht3) hL4, hZ, hp4⟩
      (fun i σ H' _ h => ?_) (fun i σ H5 hi h => ?_) (fun σ H5 h => ?_)
    · obtain ⟨_, _, _, _, _, _, _, _, x, _⟩ := h
      exact SqL.of x
    · obtain ⟨x6, g5, qs, pr, tt, t5, rfl, l, hZ5, hp5⟩ := h
      have hi : i < ts.length := by rw [List.length_map, lps] at hi; exact hi
      obtain ⟨tn, k, h1, h2, h3⟩ := rV kl (i := i) hi
      obtain ⟨pj, hpj⟩ : ∃ pj, ps[ts.length - 1 - i]? = some pj := ⟨_, List.getElem?_eq_getElem (by omega)⟩
      have hg : (ps.map V.ref).reverse.getD i .non = .ref pj := by
        rw [List.getD_eq_getElem?_getD, List.getElem?_reverse (by rw [List.length_map]; omega), List.length_map, lps, List.getElem?_map, hpj]; rfl
      rw [hg]
      have hpp := hp5 _ _ _ _ hpj h1 h2
      have s5 := l.s
      have npj : pj ≠ b := s5.nb hpp (fun _ z => nomatch z) (fun _ z => nomatch z)
      have nZ : Z ≠ b := s5.nb hZ5 (fun _ z => nomatch z) (fun _ z => nomatch z)
      have en : ∀ v, dA c (stR ts ks) i v = jtT tn v k := fun v => by unfold dA; rw [h3]
      have hlen : (qs.map V.ref ++ [V.ref pr]).length < sizeLine := by
        have := jB l.pk
        have := l.len
        rw [List.length_append, List.length_map]; exact bx (by show qs.length + 1 ≤ _; omega)
      refine ⟨.inl ⟨rfl, _, SqL.of l.hM⟩, ixT (j := 0) hpp rfl rfl ⟨f, rfl, s5.clo, jW l.hM ?_⟩⟩
      dsimp only [aj]
      refine l.step hLH c2 (jA ke) (by omega) (by omega) fun v H6 g6 kb6 hL6 nx => ?_
      refine ixT (j := 1) (kb6 _ _ npj hpp) rfl rfl ⟨tn, v, k, rfl, fun p7 hp7 => ⟨L, _, .ref p7, rfl, rfl, aq.upd hp7 _ _ hL6, hlen, ?_⟩⟩
      have l7 := nx p7 hp7
      rw [en v] at l7
      have Sx : ∀ z o, z ≠ L → H6 z = some o → upd (upd H6 p7 (.tup ((jtT tn v k).map kV))) L (.lst (qs.map V.ref ++ [.ref pr] ++ [.ref p7])) z = some o := fun z o nz ez => by rw [ao nz]; exact aq.upd hp7 _ _ ez
      refine ⟨_, g6, _, _, _, _, rfl, l7, Sx _ _ LZ (kb6 _ _ nZ hZ5), fun j p' tn' k' a1 a2 a3 => ?_⟩
      have h5 := hp5 j p' tn' k' a1 a2 a3
      exact Sx _ _ (bG h5 l.hM (fun z => nomatch z)) (kb6 _ _ (s5.nb h5 (fun _ z => nomatch z) (fun _ z => nomatch z)) h5)
    · obtain ⟨x6, g5, qs, pr, tt, t5, rfl, l, hZ5, hp5⟩ := h
      rw [List.length_map, lps] at l
      have e0 : ∀ v, dA c (stR ts ks) ts.length v = [.inr "row", .inl (c : Int), v] := fun v => by unfold dA; rw [List.getElem?_eq_none (by rw [jL kl]; omega)]
      have hlen : (qs.map V.ref ++ [V.ref pr]).length < sizeLine := by
        have := jB l.pk
        have := l.len
        rw [List.length_append, List.length_map]; exact bx (by show qs.length + 1 ≤ _; omega)
      refine ⟨.inl ⟨rfl, _, SqL.of l.hM⟩, f, rfl, l.s.clo, jW l.hM ?_⟩
      dsimp only [aj]
      refine l.step hLH c2 (jA ke) (by omega) (by omega) fun v H6 g6 kb6 hL6 nx => ?_
      refine ⟨ay (show 3 ≤ 1000000 by decide), fun p7 hp7 => ⟨L, _, .ref p7, rfl, rfl, aq.upd hp7 _ _ hL6, hlen, ?_⟩⟩
      have l7 := nx p7 hp7
      rw [e0 v] at l7
      exact l7.done hLH (by omega) rfl q
theorem BD (K:W.Frag) (A:Adr):Ln (lN K A) 4:=by rintro vs H Q E ⟨f,b,g,n,v,w,m,d,e,k,rfl,_⟩;rfl
theorem GF (T:Txt K mg A) (vs:List V) (H:Hp) (Q:VK) (E:XK) (h:lN K A vs H Q E):CH K A E { nx:=fun _ H'=>Q .non H',rt:=Q } (L2.start ["stamper", "count", "place", "paper"] vs) H:=by
 obtain ⟨f,b,g,n,v,w,m,d,e,k,rfl,a,hd,q1,q2⟩:=h
 have hn:=a.hn
 refine ⟨f,rfl,a.s.clo,f,b,g,n,v,w,m,d,e,k,rfl,a,hd,q1,fun c p e1 e2 lt c2=>?_⟩
 rcases q2 c p e1 e2 lt c2 with z | ⟨en,ks,M,q⟩
 · exact .inl z
 refine .inr ⟨en,ks,M,fun L ps tt g1 H1 k1 s1 sub1 hMn nM hM pk npb tl sz eq=>?_⟩
 obtain ⟨r,t,rfl⟩:=tQ.last tl
 obtain ⟨qs,p1,rfl,pk1⟩:=xn pk
 obtain ⟨hp,ok⟩:=mH (jB pk1) pk1
 rw [List.map_append] at hM
 refine jW hM ?_
 dsimp only [aj]
 refine gQ s1 (by omega) hp ok fun v H2 g2 kb s2 sub2 gv st=>?_
 have szt:=sz t (by simp)
 have:=gS st
 refine q v g2 H2 (k1.trans kb) s2 (sub1.trans sub2) (gZ st (by omega)) (by omega) fun h eh=>?_
 rw [jL M.l,←pT eq (Ext.of sub2 eh),eh _ _ gv]
theorem Bk (K:W.Frag) (A:Adr):Ln (la K A) 4:=by rintro vs H Q E ⟨f,b,g,n,v,w,m,d,e,k,rfl,_⟩;rfl
theorem zm {H : Hp} {v : V} {c : Nat} {mk : Key} (w : aF H v (.tup [.int (c : Int), bB mk])) : ∃ hd, v = .ref hd ∧ H hd = some (.tup [.int (c : Int), kV mk]) := by
  cases w with
  | tup e r =>
    have := jM (ks := [.inl (c : Int), mk]) r
    subst this
    exact ⟨_, rfl, e⟩
theorem im {c:Nat} {mk:Key} (h:c<2^60) (ok:okP mk=true):cp (.tup [.int (c:Int),bB mk])=true:=by
 show (bL (.int (c:Int))&&aK (bB mk))=true
 rw [qm (by omega) (by omega),gE ok];rfl
theorem GC (T:Txt K mg A) (vs:List V) (H:Hp) (Q:VK) (E:XK) (h:la K A vs H Q E):AZ K A E { nx:=fun _ H'=>Q .non H',rt:=Q } (L2.start ["stamper", "head", "place", "paper", "came"] vs) H:=by
 obtain ⟨f,b,g,n,v,w,m,d,e,k,rfl,a,hd,q⟩:=h
 rcases q with ⟨hF,qE⟩ | ⟨c,mk,rfl,c2,okm,qP,q2⟩
 · exact ⟨v,d,rfl,hd,fun z=>(by rw [hF] at z;cases z),fun _=>qE⟩
 refine ⟨v,_,rfl,hd,fun _=>?_,fun z=>by rw [im c2 okm] at z;cases z⟩
 obtain ⟨hp,rfl,hh⟩:=zm hd
 have hn:=a.hn
 refine ixT (j:=0) hh rfl rfl ?_
 refine ⟨f,b,g,n,.int (c:Int),w,m,.int (c:Int),e,k,rfl,a,.int _,qP,fun c' p ec ee le _=>?_⟩
 have ecc:c'=c:=by
   have:(c:Int)=(c':Int):=by injection ec
   omega
 subst ecc
 rcases q2 p ee le with z | ⟨en,ks,M,q⟩
 · exact .inl z
 obtain ⟨P,TT,rfl,wP⟩:=M.at a.hm
 have nh:hp≠b:=a.s.nb hh (fun _ z=>nomatch z) (fun _ z=>nomatch z)
 refine .inr ⟨en,ks,M,fun w g1 H1 k1 s1 sub1 okw szw ew=>?_⟩
 obtain ⟨q1,q2⟩:=q w g1 H1 k1 s1 sub1 okw szw ew
 have hh1:=k1 _ _ nh hh
 refine ixT (j:=1) hh1 rfl rfl (jh ?_)
 by_cases ewm:w=mk
 · refine Sel.no (by rw [decide_eq_true ewm];rfl) ?_
   exact ixT (j:=0) (wP.kb a.s k1).hP rfl rfl (q1 ewm)
 · refine Sel.yes (by rw [decide_eq_false ewm];rfl) ?_
   refine ixT (j:=1) hh1 rfl rfl fun a ha=>⟨a,kV mk,kV w,rfl,ai,fun dx hdx=>⟨rfl,some dx,?_,?_⟩⟩
   · obtain ⟨nd,_⟩:=cr hdx
     rw [ao (Ne.symm nd),ao (Ne.symm nd)];exact ai
   · obtain ⟨nd,hd0⟩:=cr hdx
     refine q2 ewm dx _ (fun z o ez=>?_)
     have na:=aw ez ha
     have nz:=aw ez hd0
     rw [eG na,ao nz,ao nz,ao na,ao na];exact ez
theorem eoE (T:Txt K mg A):∀ i:Nat,i<5→bR K (cE A i)
 | 0,_=>T.eo_NoHead
 | 1,_=>T.eo_NoPlace
 | 2,_=>T.eo_NoPaper
 | 3,_=>T.eo_Broken
 | 4,_=>T.eo_NoStamp
 | i+5,h=>absurd h (by omega)
theorem egE (T:Txt K mg A):∀ i:Nat,i<5→cL K (cE A i)
 | 0,_=>T.eg_NoHead
 | 1,_=>T.eg_NoPlace
 | 2,_=>T.eg_NoPaper
 | 3,_=>T.eg_Broken
 | 4,_=>T.eg_NoStamp
 | i+5,h=>absurd h (by omega)
theorem sbE (T:Txt K mg A):∀ i:Nat,i<5→dY K (cE A i) A.c_StampError=some true
 | 0,_=>T.sb_NoHead_StampError
 | 1,_=>T.sb_NoPlace_StampError
 | 2,_=>T.sb_NoPaper_StampError
 | 3,_=>T.sb_Broken_StampError
 | 4,_=>T.sb_NoStamp_StampError
 | i+5,h=>absurd h (by omega)
theorem dy {a b:Nat} (h:Dat.int (a:Int)=Dat.int (b:Int)):b=a:=by
 have:(a:Int)=(b:Int):=by injection h
 omega
theorem qG {bs : List Bool} {i : Nat} (h : ∀ b ∈ bs.take i, b = false) (hb : bs[i]? = some true) : dE bs = some i := by
  induction bs generalizing i with
  | nil => cases hb
  | cons b r ih =>
    cases i with
    | zero => cases hb; rfl
    | succ i =>
      have e : b = false := h b (by simp)
      subst e
      have := ih (i := i) (fun b hb => h b (by rw [List.take_succ_cons]; exact List.mem_cons_of_mem _ hb)) hb
      show (dE r).map (· + 1) = _
      rw [this]; rfl
theorem qQ {bs : List Bool} (h : ∀ b ∈ bs, b = false) : dE bs = none := by
  induction bs with
  | nil => rfl
  | cons b r ih =>
    have e : b = false := h b List.mem_cons_self
    subst e
    show (dE r).map (· + 1) = _
    rw [ih fun b hb => h b (List.mem_cons_of_mem _ hb)]; rfl
theorem Bb (K:W.Frag) (A:Adr):Ln (jC K A) 1:=by rintro vs H Q E ⟨L,bs,rfl,_⟩;rfl
theorem Gr (T : Txt K mg A) : Rd (jC K A) (Hy K A) ["_law_flags_here", "_law_k"] := by
  intro vs H Q E h
  obtain ⟨L, bs, rfl, hL, hl, q⟩ := h
  refine .inl (.inl ⟨_, SqL.of hL, ?_⟩)
  rw [List.length_map]
  refine ⟨(bs.length : Int), rfl, by omega, by omega, ?_⟩
  rw [Int.toNat_natCast]
  refine gF (lo := 0) (n := bs.length) (fun i σ H' => H' = H ∧ (∃ x1, σ = [some (.ref L), x1]) ∧ ∀ b ∈ bs.take i, b = false) ⟨rfl, ⟨none, rfl⟩, fun b hb => by cases hb⟩ ?_ ?_
  · rintro i σ _ hi ⟨rfl, ⟨x1, rfl⟩, hf⟩
    obtain ⟨b, hb⟩ : ∃ b, bs[i]? = some b := ⟨_, List.getElem?_eq_getElem hi⟩
    refine ixL (j := i) hL (by omega) (by rw [List.getElem?_map, hb]; rfl) ?_
    cases b with
    | true =>
      refine Sel.t ?_
      have e := qG hf hb
      rw [e] at q
      show Q (.int (0 + (i : Int))) _
      rw [Int.zero_add]; exact q
    | false =>
      refine Sel.f ⟨rfl, ⟨_, rfl⟩, fun b hb' => ?_⟩
      rw [List.take_add_one, hb] at hb'
      rcases List.mem_append.mp hb' with z | z
      · exact hf b z
      · exact List.mem_singleton.mp z
  · rintro σ _ ⟨rfl, ⟨x1, rfl⟩, hf⟩
    rw [List.take_length] at hf
    rw [qQ hf] at q
    exact q
theorem jk {K:W.Frag} {H:Hp}:∀ bs:List Bool,DatVs K H (bs.map V.bl) (bs.map PyData.bool)
 | []=> .nil
 | b::r=> .cons (.bl b) (jk r)
theorem lj : ∀ bs : List Bool, PyData.eqvAll (bs.map PyData.bool) (bs.map PyData.bool) = true
  | [] => rfl
  | b :: r => by
    show (PyData.eqv (.bool b) (.bool b) && PyData.eqvAll (r.map PyData.bool) (r.map PyData.bool)) = true
    rw [lj r]
    cases b <;> rfl
theorem iI:∀ bs:List Bool,(PyData.list (bs.map PyData.bool)).canLay0=true
 | []=>rfl
 | b::r=>iI r
theorem iX:∀ bs:List Bool,PyData.depthAll (bs.map PyData.bool)=0
 | []=>rfl
 | b::r=>by show max 0 (PyData.depthAll (r.map PyData.bool))=0;rw [iX r];rfl
theorem zp {H:Hp} {Q:VK} {p r:Addr} {bs:List Bool} (hp:H p=some (.lst (bs.map V.bl))) (hr:H r=some (.lst (bs.map V.bl))) (q:Q (.bl true) H):bH K (.ref p) (.ref r) H Q:=by
 refine .inr (.inl ⟨_,_,.lst (SqL.of hp) (jk bs),.lst (SqL.of hr) (jk bs),iI bs,iI bs,?_,?_⟩)
 · show PyData.depthAll (bs.map PyData.bool)+1≤150
   rw [iX];decide
 · have e:(PyData.list (bs.map PyData.bool)).eqv (PyData.list (bs.map PyData.bool))=true:=lj bs
   rw [e];exact q
theorem HG (T:Txt K mg A):∀ i:Nat,i<5→W.kitOne K (.ref (cE A i)) (.ref A.c_NoHead)=some (decide (i=0))
 | 0,_=>T.ki_NoHead_NoHead
 | 1,_=>T.ki_NoPlace_NoHead
 | 2,_=>T.ki_NoPaper_NoHead
 | 3,_=>T.ki_Broken_NoHead
 | 4,_=>T.ki_NoStamp_NoHead
 | i+5,h=>absurd h (by omega)
theorem Ht (T:Txt K mg A):∀ i:Nat,i<5→W.kitOne K (.ref (cE A i)) (.ref A.c_NoPlace)=some (decide (i=1))
 | 0,_=>T.ki_NoHead_NoPlace
 | 1,_=>T.ki_NoPlace_NoPlace
 | 2,_=>T.ki_NoPaper_NoPlace
 | 3,_=>T.ki_Broken_NoPlace
 | 4,_=>T.ki_NoStamp_NoPlace
 | i+5,h=>absurd h (by omega)
theorem GW (T:Txt K mg A):∀ i:Nat,i<5→W.kitOne K (.ref (cE A i)) (.ref A.c_NoPaper)=some (decide (i=2))
 | 0,_=>T.ki_NoHead_NoPaper
 | 1,_=>T.ki_NoPlace_NoPaper
 | 2,_=>T.ki_NoPaper_NoPaper
 | 3,_=>T.ki_Broken_NoPaper
 | 4,_=>T.ki_NoStamp_NoPaper
 | i+5,h=>absurd h (by omega)
theorem GZ (T:Txt K mg A):∀ i:Nat,i<5→W.kitOne K (.ref (cE A i)) (.ref A.c_Broken)=some (decide (i=3))
 | 0,_=>T.ki_NoHead_Broken
 | 1,_=>T.ki_NoPlace_Broken
 | 2,_=>T.ki_NoPaper_Broken
 | 3,_=>T.ki_Broken_Broken
 | 4,_=>T.ki_NoStamp_Broken
 | i+5,h=>absurd h (by omega)
theorem HI (T:Txt K mg A):∀ i:Nat,i<5→W.kitOne K (.ref (cE A i)) (.ref A.c_NoStamp)=some (decide (i=4))
 | 0,_=>T.ki_NoHead_NoStamp
 | 1,_=>T.ki_NoPlace_NoStamp
 | 2,_=>T.ki_NoPaper_NoStamp
 | 3,_=>T.ki_Broken_NoStamp
 | 4,_=>T.ki_NoStamp_NoStamp
 | i+5,h=>absurd h (by omega)
theorem HQ (T:Txt K mg A):∀ i:Nat,i<5→W.kitOne K (.ref (cE A i)) (.type "ValueError")=some true
 | 0,_=>T.ki_NoHead_ValueError
 | 1,_=>T.ki_NoPlace_ValueError
 | 2,_=>T.ki_NoPaper_ValueError
 | 3,_=>T.ki_Broken_ValueError
 | 4,_=>T.ki_NoStamp_ValueError
 | i+5,h=>absurd h (by omega)
theorem AT (K:W.Frag) (A:Adr):Ln (oO K A) 1:=by rintro vs H Q E ⟨v,i,rfl,_⟩;rfl
theorem Gg (T:Txt K mg A):Rd (oO K A) (Hm K A) ["_law_caught_here", "_law_kinds"]:=by
 intro vs H Q E h
 obtain ⟨v,i,rfl,⟨lt,a,d,rfl,ha⟩,q⟩:=h
 have hC:=eoE T i lt
 have hG:=egE T i lt
 refine ⟨a,_,_,_,_,_,rfl,ha,hC,hG,rfl,fun _ e=>e,HG T i lt,a,_,_,_,_,_,rfl,ha,hC,hG,rfl,fun _ e=>e,Ht T i lt,a,_,_,_,_,_,rfl,ha,hC,hG,rfl,fun _ e=>e,GW T i lt,ay (show 3≤1000000 by decide),fun p1 h1=>?_⟩
 have ha1:∀ xs,upd H p1 (.lst xs) a=some (kK (cE A i) d a):=fun xs=>aq.upd h1 _ _ ha
 refine ⟨a,_,_,_,_,_,rfl,ha1 _,hC,hG,rfl,fun _ e=>e,GZ T i lt,a,_,_,_,_,_,rfl,ha1 _,hC,hG,rfl,fun _ e=>e,HI T i lt,a,_,_,_,_,_,rfl,ha1 _,hC,hG,rfl,fun _ e=>e,HQ T i lt,ay (show 3≤1000000 by decide),fun p2 h2=>?_⟩
 have n12:p1≠p2:=aw ai h2
 refine .inl ⟨p1,p2,_,_,rfl,rfl,by rw [ao n12];exact ai,ai,ay (by exact (show 6≤1000000 by decide)),fun p3 h3=>?_⟩
 have e6:([V.bl (decide (i=0)),.bl (decide (i=1)),.bl (decide (i=2))]++[V.bl (decide (i=3)),.bl (decide (i=4)),.bl true])=(kdL i 6).map V.bl:=by
  have:i=0∨i=1∨i=2∨i=3∨i=4:=by omega
  rcases this with rfl | rfl | rfl | rfl | rfl <;> rfl
 rw [e6]
 exact q p3 _ ((aq.upd h1).trans ((aq.upd h2).trans (aq.upd h3))) ai
theorem BQ (K:W.Frag) (A:Adr):Ln (gA K A) 2:=by rintro vs H Q E ⟨v,o,rfl,_⟩;rfl
theorem Gk (T : Txt K mg A) : Rd (gA K A) (IN K A) ["_law_caught_here", "_law_number"] := by
  intro vs H Q E h
  obtain ⟨v, o, rfl, c, q⟩ := h
  cases o with
  | none =>
    cases (show v = .non from c)
    exact Sel.yes rfl (q H (.refl H))
  | some i =>
    obtain ⟨lt, a, d, rfl, ha⟩ := c
    refine Sel.no (decide_eq_false (by show ¬ (i : Int) < 0; omega)) ?_
    refine ⟨.ref a, i, rfl, ⟨lt, a, d, rfl, ha⟩, fun p3 H3 S3 hp3 => ?_⟩
    refine ⟨6, rfl, by decide, by decide, fun D hD => dQ (cS.range (lo := 0) (n := 6)) (fun j ys H' => H' = upd H3 D (.lst ys) ∧ ys = (kdL i j).map V.bl) (fun _ _ _ _ _ => trivial) ⟨rfl, rfl⟩ ?_ ?_⟩
    · rintro j ys H' hj ⟨rfl, rfl⟩
      have hyl : ((kdL i j).map V.bl).length = j := by unfold kdL; simp
      have fin : ∀ bb : Bool, bb = (decide (j = i) || decide (j = 5)) → upd H3 D (.lst ((kdL i j).map V.bl)) D = some (.lst ((kdL i j).map V.bl)) ∧ ((kdL i j).map V.bl).length < sizeLine ∧ ∃ m', m' < 6 - j ∧ CWd 6 (fun j ys H' => H' = upd H3 D (.lst ys) ∧ ys = (kdL i j).map V.bl) (j + 1) m' ((kdL i j).map V.bl ++ [.bl bb]) (upd (upd H3 D (.lst ((kdL i j).map V.bl))) D (.lst ((kdL i j).map V.bl ++ [.bl bb]))) := fun bb e => by
        refine ⟨ai, by rw [hyl]; exact bx (by omega), CWd.next hj ⟨by rw [cU], ?_⟩⟩
        unfold kdL
        rw [List.range_succ, List.map_append, List.map_append, e]; rfl
      by_cases e1 : j = i
      · exact gH (Sel.yes (decide_eq_true (by show (0 : Int) + (j : Int) = (i : Int); omega)) (fin true (by rw [decide_eq_true e1]; rfl)))
      · refine gH (Sel.no (decide_eq_false (by show ¬ (0 : Int) + (j : Int) = (i : Int); omega)) (fin (decide ((0 : Int) + (j : Int) = 5)) ?_))
        rw [decide_eq_false e1, Bool.false_or]
        by_cases e5 : j = 5
        · rw [decide_eq_true e5, decide_eq_true (by omega)]
        · rw [decide_eq_false e5, decide_eq_false (by omega)]
    · rintro ys H' ⟨rfl, rfl⟩
      refine zp (aq.upd hD _ _ hp3) ai (q _ (S3.trans (aq.upd hD)))
theorem CN (K:W.Frag) (A:Adr):Ln (jG K A) 5:=by rintro vs H Q E ⟨what,f,b,g,n,v,w,m,d,e,k,o,rfl,_⟩;rfl
theorem EA (T : Txt K mg A) : Rd (jG K A) (Hd K A) ["_law_what", "_law_stamper_here", "_law_top", "_law_place", "_law_paper", "_law_caught_here", "e"] := by
  intro vs H Q E h
  obtain ⟨what, f, b, g, n, v, w, m, d, e, k, o, rfl, a, hd, due, q⟩ := h
  have cau : ∀ i, i < 5 → o = some i → ∀ (dd : Option Addr) (H1 : Hp), aO b H H1 → (∃ g1, Stp A H1 f b g1 (n + 71) ∧ Sub g g1) →
      hAs K A.c_StampError 6 (aC (af 6) (au 5)) lC { nx := aG (af 5) { nx := fun _ H' => Q .non H', rt := Q }, rt := Q } [some (.int what), some (.ref f), some v, some w, some m, some .non, none] (cE A i) dd H1 := fun i hi eo dd H1 kb ⟨g1, s1, sub1⟩ => by
    refine ⟨true, sbE T i hi, Sel.t fun ah hah => ?_⟩
    refine q (.ref ah) g1 _ (kb.trans (aO.same (aq.upd hah))) (s1.same (Nat.le_refl _) (aq.upd hah)) sub1 ?_
    rw [eo]
    exact ⟨hi, ah, dd, rfl, ai⟩
  have s0 := a.s.same (m := n + 71) (by omega) (.refl H)
  have at0 : ∃ g1, Stp A H f b g1 (n + 71) ∧ Sub g g1 := ⟨g, s0, Sub.rfl'⟩
  have atS : ∀ H', aq H H' → ∃ g1, Stp A H' f b g1 (n + 71) ∧ Sub g g1 := fun H' S => ⟨g, s0.same (Nat.le_refl _) S, Sub.rfl'⟩
  rcases due with ⟨wh, due⟩ | ⟨rfl, due⟩
  · cases due with
    | place h =>
      have qE : ∀ c p : Nat, d = .int (c : Int) → e = .int (p : Int) → p < c → c < 2 ^ 60 → False := fun c el h1 h2 h3 h4 => by
        rw [h1, h2, da h3 h4] at h; cases h
      rcases wh with rfl | rfl
      · exact Sel.yes rfl ⟨f, b, g, n, v, w, m, d, e, k, rfl, a, hd, fun _ => ⟨_, rfl, eoE T 1 (by decide), cau 1 (by decide) rfl none H aO.rfl' at0⟩, fun c el h1 h2 h3 h4 => (qE c el h1 h2 h3 h4).elim⟩
      · exact Sel.no rfl (Sel.yes rfl ⟨f, b, g, n, v, w, m, d, e, k, rfl, a, hd, fun _ => ⟨_, rfl, eoE T 1 (by decide), cau 1 (by decide) rfl none H aO.rfl' at0⟩, fun c el h1 h2 h3 h4 => (qE c el h1 h2 h3 h4).elim⟩)
    | paper c el h1 h2 h3 h4 h =>
      subst h1 h2
      rcases wh with rfl | rfl
      · refine Sel.yes rfl ⟨f, b, g, n, v, w, m, _, _, k, rfl, a, hd, fun z => (by rw [da h3 h4] at z; cases z), fun c' el' e1 e2 _ _ => .inl ?_⟩
        cases dy e1
        cases dy e2
        exact ⟨h, fun H' S => ⟨_, rfl, eoE T 2 (by decide), cau 2 (by decide) rfl none H' (aO.same S) (atS H' S)⟩⟩
      · refine Sel.no rfl (Sel.yes rfl ⟨f, b, g, n, v, w, m, _, _, k, rfl, a, hd, fun z => (by rw [da h3 h4] at z; cases z), fun c' el' e1 e2 _ _ => .inl ?_⟩)
        cases dy e1
        cases dy e2
        exact ⟨h, fun H' S => ⟨_, rfl, eoE T 2 (by decide), cau 2 (by decide) rfl none H' (aO.same S) (atS H' S)⟩⟩
    | good c el en ks h1 h2 h3 h4 h =>
      subst h1 h2
      rcases wh with rfl | rfl
      · refine Sel.yes rfl ⟨f, b, g, n, v, w, m, _, _, k, rfl, a, hd, fun z => (by rw [da h3 h4] at z; cases z), fun c' el' e1 e2 _ _ => .inr ?_⟩
        cases dy e1
        cases dy e2
        exact ⟨en, ks, h, fun M ps tt g1 H1 kb1 s1 sub1 _ _ _ _ _ _ _ _ => q .non g1 _ kb1 (s1.same (by omega) (.refl _)) sub1 rfl⟩
      · refine Sel.no rfl (Sel.yes rfl ⟨f, b, g, n, v, w, m, _, _, k, rfl, a, hd, fun z => (by rw [da h3 h4] at z; cases z), fun c' el' e1 e2 _ _ => .inr ?_⟩)
        cases dy e1
        cases dy e2
        exact ⟨en, ks, h, fun w1 g1 H1 kb1 s1 sub1 _ _ _ => q .non g1 _ kb1 s1 sub1 rfl⟩
  · refine Sel.no rfl (Sel.no rfl ⟨f, b, g, n, v, w, m, d, e, k, rfl, a, hd, ?_⟩)
    cases due with
    | head h => exact .inl ⟨h, _, rfl, eoE T 0 (by decide), cau 0 (by decide) rfl none H aO.rfl' at0⟩
    | place c mk h1 h2 ok h =>
      refine .inr ⟨c, mk, h1, h2, ok, fun _ => ⟨_, rfl, eoE T 1 (by decide), cau 1 (by decide) rfl none H aO.rfl' at0⟩, fun el e2 h3 => ?_⟩
      rw [e2, da h3 h2] at h; cases h
    | paper c el mk h1 h2 ok he h3 h =>
      subst he
      refine .inr ⟨c, mk, h1, h2, ok, fun z => (by rw [da h3 h2] at z; cases z), fun el' e2 _ => .inl ?_⟩
      cases dy e2
      exact ⟨h, fun H' S => ⟨_, rfl, eoE T 2 (by decide), cau 2 (by decide) rfl none H' (aO.same S) (atS H' S)⟩⟩
    | good c el mk tm en ks h1 h2 ok he h3 h ht =>
      subst he
      refine .inr ⟨c, mk, h1, h2, ok, fun z => (by rw [da h3 h2] at z; cases z), fun el' e2 _ => .inr ?_⟩
      cases dy e2
      refine ⟨en, ks, h, fun w1 g1 H1 kb1 s1 sub1 okw szw ew => ?_⟩
      have etm : w1 = tm := by rw [ew _ (Ext.refl' g1), ← ht _ (Ext.of sub1 (Ext.refl' g1))]
      subst etm
      refine ⟨fun ee => ?_, fun ne dx H2 S2 => ⟨_, rfl, eoE T 3 (by decide), ?_⟩⟩
      · refine q .non g1 _ kb1 s1 sub1 ?_
        rw [if_pos ee]; rfl
      · exact cau 3 (by decide) (if_neg ne) (some dx) H2 (kb1.trans (aO.same S2)) ⟨g1, s1.same (by omega) S2, sub1⟩
theorem xh {a b:Addr} {xs ys:List V} {g:TG} {tb:TS} {D:dU} {σ:L2.St} {H:Hp} (Pv:Nat→L2.St→Hp→Prop) (h0:Pv 0 σ H) (hl:∀ i σ H,i≤xs.length→Pv i σ H→SqL K H a xs∧SqT K H b ys) (hlen:ys.length=xs.length)
   (hs:∀ i x y σ H p,i<xs.length→xs[xs.length - 1 - i]?=some x→ys[xs.length - 1 - i]?=some y→Pv i σ H→H p=none→g (.ref p) σ (upd H p (.tup [x,y])) fun σ2 H2=>tb { D with nx:=Pv (i+1),ct:=Pv (i+1),bk:=D.nx } σ2 H2) (hd:∀ σ H,Pv xs.length σ H→D.nx σ H):
   ∃ W:Nat→Nat→L2.St→Hp→Prop,(∃ m,W 0 m σ H)∧∀ i m σ H,W i m σ H→
    ((mj K a b xs.length).stop i H∧D.nx σ H)∨((mj K a b xs.length).go i H∧∃ N:L2.St→Hp→Prop,(∀ σ' H',N σ' H'→∃ m',m'<m∧W (i+1) m' σ' H')∧∀ x H',(mj K a b xs.length).yld i H x H'→g x σ H' fun σ2 H2=>tb { D with nx:=N,ct:=N,bk:=D.nx } σ2 H2):=by
 refine ⟨fun i m σ H=>m=xs.length - i∧i≤xs.length∧Pv i σ H,⟨xs.length,by simp,Nat.zero_le _,h0⟩,?_⟩
 rintro i m σ H ⟨rfl,hi,p⟩
 obtain ⟨q1,q2⟩:=hl i σ H hi p
 by_cases hlt:i<xs.length
 · refine .inr ⟨⟨hlt,xs,ys,q1,q2,rfl,hlen⟩,Pv (i+1),fun σ' H' p'=>⟨xs.length - (i+1),by omega,rfl,hlt,p'⟩,fun v H' yl=>?_⟩
   obtain ⟨pp,rfl,hn,hy⟩:=yl
   obtain ⟨x,y,ex,ey,rfl⟩:=hy xs ys q1 q2
   exact hs i x y σ H pp hlt ex ey p hn
 · have:i=xs.length:=by omega
   subst this
   exact .inl ⟨Nat.le_refl _,hd σ H p⟩
structure Mk (A:Adr) (H H':Hp) (f b:Addr) (c:Nat) (e:Key) (st:List (Int×Key)) (i:Nat) (g g':gOp) (n:Nat) (v:Key):Prop where
 kb:aO b H H'
 s:Stp A H' f b g' (n+i+1)
 sub:Sub g g'
 ok:okP v=true
 sz:szK v≤200*(i+1)+62
 eq:∀ h,Ext g' h→v=h (fz h c e st i)
theorem Mk.step {H H1 H2:Hp} {f b p:Addr} {c:Nat} {e:Key} {st:List (Int×Key)} {i:Nat} {g g1:gOp} {n:Nat} {v:Key} {R:VK} (m:Mk A H H1 f b c e st i g g1 n v) (S:aq H1 H2) (hc:c<2^60) (hm:∀ x∈st,enK x.2) (hi:i≤61) (hn:n+i+1≤40000) (hp:H2 p=some (.tup ((dA c st i v).map kV)))
  (q:∀ (v':Key) (H3:Hp) (g3:gOp),aO b H2 H3→Mk A H H3 f b c e st (i+1) g g3 n v'→R (kV v') H3):lr (eU K A) f [.ref p] H2 R E0:=by
 have s2:=m.s.same (Nat.le_refl _) S
 obtain ⟨ok7,sz7⟩:=tR (i:=i) (B:=200*(i+1)) hc hm m.ok m.sz
 refine gQ s2 (by omega) hp ok7 fun v' H3 g3 kb s3 sub3 gv st3=>?_
 have:=gS st3
 refine q v' H3 g3 kb ⟨m.kb.trans ((aO.same S).trans kb),s3,m.sub.trans sub3,gZ st3 (by omega),by omega,fun h eh=>?_⟩
 rw [mQ,←m.eq h (Ext.of sub3 eh),eh _ _ gv]
theorem AW (K:W.Frag) (A:Adr):Ln (oo K A) 4:=by rintro vs H Q E ⟨f,b,L,P,TT,c,ts,ks,e,g,n,rfl,_⟩;rfl
theorem Ew (T:Txt K mg A):Rd (oo K A) (HA K A) ["_law_stamper_here", "_law_count", "_law_turns", "_law_paper", "_law_below", "_law_turn", "_law_mark_here"]:=by
 intro vs H Q E h
 obtain ⟨f,b,L,P,TT,c,ts,ks,e,g,n,rfl,pp,hL,q⟩:=h
 obtain ⟨s,hn,c1,c2,tl,t01,kl,ee,ke,w⟩:=pp
 have nL:L≠b:=s.nb hL (fun _ z=>nomatch z) (fun _ z=>nomatch z)
 refine ⟨f,rfl,s.clo,ixT (j:=0) w.hP rfl rfl ⟨ay (show 2≤1000000 by decide),fun p hp=>?_⟩⟩
 dsimp only [aj]
 have S1:=aq.upd (o:=.tup [.str "entry",kV e]) hp
 refine gQ (s.same (Nat.le_refl _) S1) (by omega) (k:=[.inr "entry",e]) ai (ja ee.1) fun v H1 g1 kb1 s1 sub1 gv st1=>?_
 have szv:=gS st1
 rw [sz2,szW.2.1] at szv
 have sze:=ee.2
 have m0:Mk A H H1 f b c e (stR ts ks) 0 g g1 n v:=⟨(aO.same S1).trans kb1,s1,sub1,gZ st1 (by rw [sz2,szW.2.1];omega),by omega,fun h eh=>(eh _ _ gv).symm⟩
 have hL1:=m0.kb _ _ nL hL
 have w1:=w.kb s m0.kb
 refine ⟨L,_,rfl,SqL.of hL1,ixT (j:=1) w1.hP rfl rfl ⟨TT,_,_,rfl,SqL.of hL1,SqT.of w1.hT,rfl,by rw [List.length_map,List.length_map,kl],?_⟩⟩
 refine xh (xs:=ts.map V.int) (ys:=ks.map kV) (fun i σ H'=>∃ x5 x6 v g',σ=[some (.ref f),some (.int (c:Int)),some (.ref L),some (.ref P),some (kV v),x5,x6]∧Mk A H H' f b c e (stR ts ks) i g g' n v) ⟨none,none,v,g1,rfl,m0⟩ (fun i σ H' _ h=>?_) (by rw [List.length_map,List.length_map,kl]) (fun i x y σ H' t hi hx hy h ht=>?_) (fun σ H' h=>?_)
 · obtain ⟨x5,x6,v,g',rfl,m⟩:=h
   exact ⟨SqL.of (m.kb _ _ nL hL),SqT.of (w.kb s m.kb).hT⟩
 · obtain ⟨x5,x6,v,g',rfl,m⟩:=h
   rw [List.length_map] at hi hx hy
   obtain ⟨tn,k,h1,h2,h3⟩:=rV kl (i:=i) hi
   rw [List.getElem?_map,h1] at hx
   rw [List.getElem?_map,h2] at hy
   cases hx
   cases hy
   have en:∀ v,dA c (stR ts ks) i v=jtT tn v k:=fun v=>by unfold dA;rw [h3]
   have ht01:=t01 tn (List.mem_of_getElem? h1)
   refine ⟨t,_,rfl,SqT.of ai,rfl,_,_,rfl,_,_,rfl,rfl,?_⟩
   have S2:=aq.upd (o:=.tup [.int tn,kV k]) ht
   generalize upd H' t (.tup [.int tn,kV k])=H2 at S2
   rcases ht01 with rfl | rfl
   · refine Sel.no (by decide) ?_
     refine ⟨f,rfl,(m.s.same (Nat.le_refl _) S2).clo,ay (show 3≤1000000 by decide),fun p2 hp2=>?_⟩
     dsimp only [aj]
     refine m.step (S2.trans (aq.upd hp2)) c2 (jA ke) (by omega) (by omega) (by rw [en];exact ai) fun v' H3 g3 kb3 m3=>?_
     exact ⟨_,_,v',g3,rfl,m3⟩
   · refine Sel.yes (by decide) ?_
     refine ⟨f,rfl,(m.s.same (Nat.le_refl _) S2).clo,ay (show 3≤1000000 by decide),fun p2 hp2=>?_⟩
     dsimp only [aj]
     refine m.step (S2.trans (aq.upd hp2)) c2 (jA ke) (by omega) (by omega) (by rw [en];exact ai) fun v' H3 g3 kb3 m3=>?_
     exact ⟨_,_,v',g3,rfl,m3⟩
 · obtain ⟨x5,x6,v,g',rfl,m⟩:=h
   rw [List.length_map] at m
   have e0:∀ v,dA c (stR ts ks) ts.length v=[.inr "row",.inl (c:Int),v]:=fun v=>by unfold dA;rw [List.getElem?_eq_none (by rw [jL kl];omega)]
   refine ⟨f,rfl,m.s.clo,ay (show 3≤1000000 by decide),fun p2 hp2=>?_⟩
   dsimp only [aj]
   refine m.step (aq.upd hp2) c2 (jA ke) (by omega) (by omega) (by rw [e0];exact ai) fun v' H3 g3 kb3 m3=>?_
   refine q v' g3 H3 m3.kb (m3.s.same (by omega) (.refl _)) m3.sub m3.ok (by have:=m3.sz;omega) fun h eh=>?_
   rw [jL kl];exact m3.eq h eh
theorem fU {i:Int} (h:i<0∨2^60≤i):bL (.int i)=false:=decide_eq_false (by omega)
theorem gN {c i:Int} (h:i<0∨c≤i):aD (.int c) (.int i)=false:=by
 unfold aD
 have:decide (0≤i∧i<c)=false:=decide_eq_false (by omega)
 show (_&&decide (0≤i∧i<c))=false
 rw [this,Bool.and_false]
theorem dH {c:Dat} {e:Dat} (h:fo e=false):aD c e=false:=by unfold aD;rw [h,Bool.and_false,Bool.false_and]
theorem cM {c:Dat} {e:Dat} (h:bL c=false):aD c e=false:=by unfold aD;rw [h];rfl
theorem qb (e:Dat):aD (.int 0) e=false:=by
 cases e with
 | int i=>exact gN (by omega)
 | _=>exact dH rfl
theorem rM {i:Int} (h:i<0∨10^60≤i):aK (.int i)=false:=decide_eq_false (by omega)
theorem mB {i:Int} (h0:0≤i) (h1:i<2^60):i.natAbs.log2<1920:=by
 have e:i.natAbs<2^60:=by omega
 by_cases z:i.natAbs=0
 · rw [z];decide
 · have:=(Nat.log2_lt z).mpr e;omega
theorem Bi (K:W.Frag) (A:Adr):Ln (pc K A) 2:=by rintro vs H Q E ⟨z,c,rfl,_⟩;rfl
theorem EW (T:Txt K mg A):Rd (pc K A) (HR K A) ["_law_cell", "_law_count", "_law_some"]:=by
 intro vs H Q E h
 obtain ⟨z,c,rfl,c2,q⟩:=h
 refine ⟨mB (by omega) (by omega),⟨by decide,by decide,by decide⟩,⟨by decide,by decide,by decide⟩,ay (show 1≤1000000 by decide),fun p1 h1=>⟨ay (show 1≤1000000 by decide),fun p2 h2=>⟨ay (show 10≤1000000 by decide),fun L hL=>⟨by decide,?_⟩⟩⟩⟩
 refine .inl (pL ai (by omega) (by show z%10<10;omega) fun v hv=>?_)
 have S:=(aq.upd (o:=.tup [V.int (c:Int)]) h1).trans ((aq.upd (o:=.lst [V.int (c:Int)]) h2).trans (aq.upd (o:=.lst [V.non,.bl true,.bl false,.str (toString (c:Int)),.int (-1 - (c:Int)),.int (1*2^(60:Int).toNat),.int (1*2^(60:Int).toNat+(c:Int)),.ref p1,.ref p2,.int 0]) hL))
 have e1:=aq.upd (o:=.lst [V.non,.bl true,.bl false,.str (toString (c:Int)),.int (-1 - (c:Int)),.int (1*2^(60:Int).toNat),.int (1*2^(60:Int).toNat+(c:Int)),.ref p1,.ref p2,.int 0]) hL _ _ (aq.upd (o:=.lst [V.int (c:Int)]) h2 _ _ (ai (H:=H) (a:=p1) (o:=.tup [V.int (c:Int)])))
 have e2:=aq.upd (o:=.lst [V.non,.bl true,.bl false,.str (toString (c:Int)),.int (-1 - (c:Int)),.int (1*2^(60:Int).toNat),.int (1*2^(60:Int).toNat+(c:Int)),.ref p1,.ref p2,.int 0]) hL _ _ (ai (H:=upd H p1 (.tup [V.int (c:Int)])) (a:=p2) (o:=.lst [V.int (c:Int)]))
 have n60:(2:Int)^(60:Int).toNat=2^60:=rfl
 simp only [List.mem_cons,List.not_mem_nil,or_false] at hv
 rcases hv with rfl | rfl | rfl | rfl | rfl | rfl | rfl | rfl | rfl | rfl
 · exact q _ _ _ S .non fun _=>cM rfl
 · exact q _ _ _ S (.bl _) fun _=>cM rfl
 · exact q _ _ _ S (.bl _) fun _=>cM rfl
 · exact q _ _ _ S (.str _) fun _=>cM rfl
 · exact q _ _ _ S (.int _) fun _=>cM (fU (.inl (by omega)))
 · exact q _ _ _ S (.int _) fun _=>cM (fU (.inr (by rw [n60];omega)))
 · exact q _ _ _ S (.int _) fun _=>cM (fU (.inr (by rw [n60];omega)))
 · exact q _ _ _ S (.tup e1 (.cons (.int _) .nil)) fun _=>cM rfl
 · exact q _ _ _ S (.lst e2 (.cons (.int _) .nil)) fun _=>cM rfl
 · exact q _ _ _ S (.int _) qb
theorem CJ (K:W.Frag) (A:Adr):Ln (oj K A) 2:=by rintro vs H Q E ⟨z,c,rfl,_⟩;rfl
theorem p30:(0:Int)<10^(30:Int).toNat:=by decide +kernel
theorem Fi (T:Txt K mg A):Rd (oj K A) (Hh K A) ["_law_cell", "_law_count", "_law_number", "_law_some"]:=by
 intro vs H Q E h
 obtain ⟨z,c,rfl,c1,c2,q⟩:=h
 refine ⟨⟨by decide,by decide⟩,⟨by decide,by decide,by decide⟩,p30,?_⟩
 have r0:=Int.emod_nonneg (z/9) (Int.ne_of_gt p30)
 show ax _ _ _ [some (.int z),some (.int (c:Int)),some (.int (z/9%10^(30:Int).toNat)),none] H
 generalize z/9%10^(30:Int).toNat=k at r0
 have m0:=Int.emod_nonneg k (b:=(c:Int)) (by omega)
 have m1:=Int.emod_lt_of_pos k (b:=(c:Int)) (by omega)
 refine ⟨by omega,mB m0 (by omega),by omega,ay (show 1≤1000000 by decide),fun p1 h1=>⟨ay (show 1≤1000000 by decide),fun p2 h2=>⟨ay (show 9≤1000000 by decide),fun L hL=>⟨by decide,?_⟩⟩⟩⟩
 refine .inl (pL ai (by omega) (by show z%9<9;omega) fun v hv=>?_)
 have S:=(aq.upd (o:=.tup [V.int (k%(c:Int))]) h1).trans ((aq.upd (o:=.lst [V.int 0]) h2).trans (aq.upd (o:=.lst [V.non,.bl true,.bl false,.str (toString (k%(c:Int))),.int (-1 - k),.int (c:Int),.int ((c:Int)+k),.ref p1,.ref p2]) hL))
 have e1:=aq.upd (o:=.lst [V.non,.bl true,.bl false,.str (toString (k%(c:Int))),.int (-1 - k),.int (c:Int),.int ((c:Int)+k),.ref p1,.ref p2]) hL _ _ (aq.upd (o:=.lst [V.int 0]) h2 _ _ (ai (H:=H) (a:=p1) (o:=.tup [V.int (k%(c:Int))])))
 have e2:=aq.upd (o:=.lst [V.non,.bl true,.bl false,.str (toString (k%(c:Int))),.int (-1 - k),.int (c:Int),.int ((c:Int)+k),.ref p1,.ref p2]) hL _ _ (ai (H:=upd H p1 (.tup [V.int (k%(c:Int))])) (a:=p2) (o:=.lst [V.int 0]))
 simp only [List.mem_cons,List.not_mem_nil,or_false] at hv
 rcases hv with rfl | rfl | rfl | rfl | rfl | rfl | rfl | rfl | rfl
 · exact q _ _ _ S .non (dH rfl)
 · exact q _ _ _ S (.bl _) (dH rfl)
 · exact q _ _ _ S (.bl _) (dH rfl)
 · exact q _ _ _ S (.str _) (dH rfl)
 · exact q _ _ _ S (.int _) (gN (.inl (by omega)))
 · exact q _ _ _ S (.int _) (gN (.inr (by omega)))
 · exact q _ _ _ S (.int _) (gN (.inr (by omega)))
 · exact q _ _ _ S (.tup e1 (.cons (.int _) .nil)) (dH rfl)
 · exact q _ _ _ S (.lst e2 (.cons (.int _) .nil)) (dH rfl)
theorem CM (K:W.Frag) (A:Adr):Ln (jT K A) 1:=by rintro vs H Q E ⟨z,rfl,_⟩;rfl
theorem GQ (T:Txt K mg A):Rd (jT K A) (Hs K A) ["_law_cell", "_law_number", "_law_some"]:=by
 intro vs H Q E h
 obtain ⟨z,rfl,q⟩:=h
 refine ⟨⟨by decide,by decide⟩,⟨by decide,by decide,by decide⟩,p30,?_⟩
 have r0:=Int.emod_nonneg (z/9) (Int.ne_of_gt p30)
 show ax _ _ _ [some (.int z),some (.int (z/9%10^(30:Int).toNat)),none] H
 generalize z/9%10^(30:Int).toNat=k at r0
 refine ⟨⟨by decide,by decide,by decide⟩,ay (show 1≤1000000 by decide),fun p1 h1=>⟨ay (show 1≤1000000 by decide),fun p2 h2=> .inl fun p3 h3=>⟨ay (show 1≤1000000 by decide),fun p4 h4=>⟨ay (show 9≤1000000 by decide),fun L hL=>⟨by decide,?_⟩⟩⟩⟩⟩
 refine .inl (pL ai (by omega) (by show z%9<9;omega) fun v hv=>?_)
 generalize hLL:(HO.lst [V.non,V.bl true,V.bl false,V.int (-1 - k),V.int (10^(60:Int).toNat+k),V.ref p1,V.ref p2,V.ref p3,V.ref p4])=o at*
 have S:=(aq.upd (o:=.tup [V.int k]) h1).trans ((aq.upd (o:=.lst [V.int k]) h2).trans ((aq.upd (o:=.dK []) h3).trans ((aq.upd (o:=.tup [V.str "a"]) h4).trans (aq.upd (o:=o) hL))))
 have e1:=aq.upd (o:=o) hL _ _ (aq.upd (o:=.tup [V.str "a"]) h4 _ _ (aq.upd (o:=.dK []) h3 _ _ (aq.upd (o:=.lst [V.int k]) h2 _ _ (ai (H:=H) (a:=p1) (o:=.tup [V.int k])))))
 have e2:=aq.upd (o:=o) hL _ _ (aq.upd (o:=.tup [V.str "a"]) h4 _ _ (aq.upd (o:=.dK []) h3 _ _ (ai (H:=upd H p1 (.tup [V.int k])) (a:=p2) (o:=.lst [V.int k]))))
 have e3:=aq.upd (o:=o) hL _ _ (aq.upd (o:=.tup [V.str "a"]) h4 _ _ (ai (H:=upd (upd H p1 (.tup [V.int k])) p2 (.lst [V.int k])) (a:=p3) (o:=.dK [])))
 have e4:=aq.upd (o:=o) hL _ _ (ai (H:=upd (upd (upd H p1 (.tup [V.int k])) p2 (.lst [V.int k])) p3 (.dK [])) (a:=p4) (o:=.tup [V.str "a"]))
 have n60:(10:Int)^(60:Int).toNat=10^60:=rfl
 simp only [List.mem_cons,List.not_mem_nil,or_false] at hv
 rcases hv with rfl | rfl | rfl | rfl | rfl | rfl | rfl | rfl | rfl
 · exact q _ _ _ S .non ⟨rfl,fun _=>rfl,trivial⟩
 · exact q _ _ _ S (.bl _) ⟨rfl,fun _=>rfl,trivial⟩
 · exact q _ _ _ S (.bl _) ⟨rfl,fun _=>rfl,trivial⟩
 · exact q _ _ _ S (.int _) ⟨rM (.inl (by omega)),fun _=>rfl,trivial⟩
 · exact q _ _ _ S (.int _) ⟨rM (.inr (by rw [n60];omega)),fun _=>rfl,trivial⟩
 · exact q _ _ _ S (.tup e1 (.cons (.int _) .nil)) ⟨rfl,fun _=>rfl,trivial⟩
 · exact q _ _ _ S (.lst e2 (.cons (.int _) .nil)) ⟨rfl,fun _=>rfl,trivial⟩
 · exact q _ _ _ S (.dic ⟨_,e3⟩) ⟨rfl,fun _=>rfl,trivial⟩
 · exact q _ _ _ S (.tup e4 (.cons (.str _) .nil)) ⟨rfl,fun _=>rfl,trivial⟩
theorem DG (K:W.Frag) (A:Adr):Ln (lJ K A) 2:=by rintro vs H Q E ⟨z,s,rfl,_⟩;rfl
theorem Gw (T:Txt K mg A):Rd (lJ K A) (IW K A) ["_law_cell", "_law_size"]:=by
 intro vs H Q E h
 obtain ⟨z,s,rfl,hs,q⟩:=h
 refine ⟨by decide,Sel.dec (fun h=>?_) (fun h=>?_)⟩
 · exact ⟨⟨by decide,by decide⟩,by omega,q _ _ H (.refl H) (.int _) fun _ z=>nomatch z⟩
 · exact ⟨⟨by decide,by decide⟩,_,rfl,fun v d H' S w hs=>q v d H' S w fun z e=>by have:=hs.1;rw [e] at this;cases this⟩
theorem Dt (K:W.Frag) (A:Adr):Ln (oh K A) 2:=by rintro vs H Q E ⟨z,m,rfl,_⟩;rfl
theorem FF (T : Txt K mg A) : Rd (oh K A) (Hk K A) ["_law_cell", "_law_mark_here"] := by
  intro vs H Q E h
  obtain ⟨z, m, rfl, ok, sz, q⟩ := h
  refine ⟨by decide, Sel.dec (fun h => ?_) (fun h => ?_)⟩
  · exact ⟨⟨by decide, by decide⟩, _, rfl, fun e H' S en => q e H' S en.1⟩
  · cases m with
    | inr y =>
      refine ⟨by decide, _, rfl, Sel.t ?_⟩
      have ok : (bY y && decide (y.length ≤ 100000)) = true := ok
      obtain ⟨a1, a2⟩ := Bool.and_eq_true_iff.mp ok
      have sz : y.length + 62 ≤ 50000 := sz
      refine ⟨?_, q (.inr (y ++ "0")) H (.refl H) ?_⟩
      · have e : ("0" : Str).length = 1 := by decide
        rw [e]; exact Nat.le_of_lt (ay (by omega))
      · show (bY (y ++ "0") && decide ((y ++ "0").length ≤ 100000)) = true
        rw [ie a1 (by decide +kernel), decide_eq_true (by rw [strLen_append, fT "0"]; omega)]; rfl
    | inl i =>
      refine ⟨by decide, _, rfl, Sel.f ?_⟩
      have ok : decide (0 ≤ i ∧ i < 10 ^ 60) = true := ok
      obtain ⟨h0, h1⟩ := of_decide_eq_true ok
      refine ⟨jt h0 h1, q (.inr (toString i)) H (.refl H) ?_⟩
      show (bY ((toString i : String) : Str) && decide (((toString i : String) : Str).length ≤ 100000)) = true
      rw [mL h0, decide_eq_true (by have := eO h0 h1; omega)]; rfl
theorem Do (K:W.Frag) (A:Adr):Ln (nY K A) 3:=by rintro vs H Q E ⟨z,c,mk,rfl,_⟩;rfl
theorem jE {c s:Dat} (h:bL c=false):cp (.tup [c,s])=false:=by show (bL c&&aK s)=false;rw [h];rfl
theorem zo {c s:Dat} (h:aK s=false):cp (.tup [c,s])=false:=by show (bL c&&aK s)=false;rw [h,Bool.and_false]
theorem zZ (k:Key):cp (bB k)=false:=by cases k <;> rfl
theorem GD (T:Txt K mg A):Rd (nY K A) (IA K A) ["_law_cell", "_law_count", "_law_mark_here", "_law_some"]:=by
 intro vs H Q E h
 obtain ⟨z,c,mk,rfl,c2,q⟩:=h
 refine ⟨ay (show 1≤1000000 by decide),fun p1 h1=>⟨ay (show 3≤1000000 by decide),fun p2 h2=>⟨ay (show 2≤1000000 by decide),fun p3 h3=>⟨ay (show 2≤1000000 by decide),fun p4 h4=>⟨ay (show 2≤1000000 by decide),fun p5 h5=>⟨⟨by decide,by decide,by decide⟩,ay (show 2≤1000000 by decide),fun p6 h6=>⟨ay (show 7≤1000000 by decide),fun L1 hL1=>?_⟩⟩⟩⟩⟩⟩⟩
 have n60:(2:Int)^(60:Int).toNat=2^60:=rfl
 have k1:∀ {HH:Hp} {p:Addr} {o:HO},HH p=none→aq HH (upd HH p o):=fun h=>aq.upd h
 have S1:=(k1 (o:=.tup [V.int (c:Int)]) h1).trans ((k1 (o:=.tup [V.int (c:Int),kV mk,kV mk]) h2).trans ((k1 (o:=.lst [V.int (c:Int),kV mk]) h3).trans ((k1 (o:=.tup [V.bl true,kV mk]) h4).trans ((k1 (o:=.tup [V.int (-1 - (c:Int)),kV mk]) h5).trans ((k1 (o:=.tup [V.int (1*2^(60:Int).toNat),kV mk]) h6).trans (k1 (o:=.lst [V.non,.ref p1,.ref p2,.ref p3,.ref p4,.ref p5,.ref p6]) hL1))))))
 have g6:=k1 (o:=.lst [V.non,.ref p1,.ref p2,.ref p3,.ref p4,.ref p5,.ref p6]) hL1
 have g5:=(k1 (o:=.tup [V.int (1*2^(60:Int).toNat),kV mk]) h6).trans g6
 have g4:=(k1 (o:=.tup [V.int (-1 - (c:Int)),kV mk]) h5).trans g5
 have g3:=(k1 (o:=.tup [V.bl true,kV mk]) h4).trans g4
 have g2:=(k1 (o:=.lst [V.int (c:Int),kV mk]) h3).trans g3
 have g1:=(k1 (o:=.tup [V.int (c:Int),kV mk,kV mk]) h2).trans g2
 have e1:=g1 _ _ (ai (H:=H) (a:=p1) (o:=.tup [V.int (c:Int)]))
 have e2:=g2 _ _ (ai (H:=upd H p1 (.tup [V.int (c:Int)])) (a:=p2) (o:=.tup [V.int (c:Int),kV mk,kV mk]))
 have e3:=g3 p3 (.lst [V.int (c:Int),kV mk]) ai
 have e4:=g4 p4 (.tup [V.bl true,kV mk]) ai
 have e5:=g5 p5 (.tup [V.int (-1 - (c:Int)),kV mk]) ai
 have e6:=g6 p6 (.tup [V.int (1*2^(60:Int).toNat),kV mk]) ai
 have eL:=ai (H:=upd (upd (upd (upd (upd (upd H p1 (.tup [V.int (c:Int)])) p2 (.tup [V.int (c:Int),kV mk,kV mk])) p3 (.lst [V.int (c:Int),kV mk])) p4 (.tup [V.bl true,kV mk])) p5 (.tup [V.int (-1 - (c:Int)),kV mk])) p6 (.tup [V.int (1*2^(60:Int).toNat),kV mk])) (a:=L1) (o:=.lst [V.non,.ref p1,.ref p2,.ref p3,.ref p4,.ref p5,.ref p6])
 clear g1 g2 g3 g4 g5 g6
 generalize upd (upd (upd (upd (upd (upd (upd H p1 (.tup [V.int (c:Int)])) p2 (.tup [V.int (c:Int),kV mk,kV mk])) p3 (.lst [V.int (c:Int),kV mk])) p4 (.tup [V.bl true,kV mk])) p5 (.tup [V.int (-1 - (c:Int)),kV mk])) p6 (.tup [V.int (1*2^(60:Int).toNat),kV mk])) L1 (.lst [V.non,.ref p1,.ref p2,.ref p3,.ref p4,.ref p5,.ref p6])=H1 at*
 refine ⟨mB (by omega) (by omega),ay (show 2≤1000000 by decide),fun p7 h7=>⟨⟨by decide,by decide⟩,_,rfl,fun jv jd H2 S2 jw jn=>⟨ay (show 2≤1000000 by decide),fun p8 h8=> .inl fun p9 h9=>⟨ay (show 4≤1000000 by decide),fun L2 hL2=>?_⟩⟩⟩⟩
 have S7:=k1 (o:=.tup [.str (toString (c:Int)),kV mk]) h7
 have S8:=k1 (o:=.tup [.int (c:Int),jv]) h8
 have S9:=k1 (o:=.dK []) h9
 have SL:=k1 (o:=.lst [.ref p7,.ref p8,kV mk,.ref p9]) hL2
 have SA:=S7.trans (S2.trans (S8.trans (S9.trans SL)))
 have e7:=(S2.trans (S8.trans (S9.trans SL))) p7 (.tup [.str (toString (c:Int)),kV mk]) ai
 have e8:=(S9.trans SL) p8 (.tup [.int (c:Int),jv]) ai
 have e9:=SL p9 (.dK []) ai
 have jw2:=jw.mono (S8.trans (S9.trans SL))
 have eL2:upd (upd (upd H2 p8 (.tup [.int (c:Int),jv])) p9 (.dK [])) L2 (.lst [.ref p7,.ref p8,kV mk,.ref p9]) L2=some (.lst [.ref p7,.ref p8,kV mk,.ref p9]):=ai
 generalize upd (upd (upd H2 p8 (.tup [.int (c:Int),jv])) p9 (.dK [])) L2 (.lst [.ref p7,.ref p8,kV mk,.ref p9])=H3 at*
 refine .inl ⟨L1,L2,_,_,rfl,rfl,SA _ _ eL,eL2,ay (by exact (show 11≤1000000 by decide)),fun L3 hL3=>⟨by decide,?_⟩⟩
 refine .inl (pL ai (by omega) (by show z%11<11;omega) fun v hv=>?_)
 have S3:=k1 (o:=.lst ([V.non,.ref p1,.ref p2,.ref p3,.ref p4,.ref p5,.ref p6]++[.ref p7,.ref p8,kV mk,.ref p9])) hL3
 have S:=S1.trans (SA.trans S3)
 have T:=SA.trans S3
 simp only [List.cons_append,List.nil_append,List.mem_cons,List.not_mem_nil,or_false] at hv
 rcases hv with rfl | rfl | rfl | rfl | rfl | rfl | rfl | rfl | rfl | rfl | rfl
 · exact q _ _ _ S .non rfl
 · exact q _ _ _ S (.tup (T _ _ e1) (.cons (.int _) .nil)) rfl
 · exact q _ _ _ S (.tup (T _ _ e2) (.cons (.int _) (.cons (bD mk) (.cons (bD mk) .nil)))) rfl
 · exact q _ _ _ S (.lst (T _ _ e3) (.cons (.int _) (.cons (bD mk) .nil))) rfl
 · exact q _ _ _ S (.tup (T _ _ e4) (.cons (.bl _) (.cons (bD mk) .nil))) (jE rfl)
 · exact q _ _ _ S (.tup (T _ _ e5) (.cons (.int _) (.cons (bD mk) .nil))) (jE (fU (.inl (by omega))))
 · exact q _ _ _ S (.tup (T _ _ e6) (.cons (.int _) (.cons (bD mk) .nil))) (jE (fU (.inr (by rw [n60];omega))))
 · exact q _ _ _ S (.tup (S3 _ _ e7) (.cons (.str _) (.cons (bD mk) .nil))) (jE rfl)
 · exact q _ _ _ S (.tup (S3 _ _ e8) (.cons (.int _) (.cons (jw2.mono S3) .nil))) (zo jn.1)
 · exact q _ _ _ S (bD mk) (zZ mk)
 · exact q _ _ _ S (.dic ⟨_,S3 _ _ e9⟩) rfl
theorem DatWs.app {H:Hp}:∀ {xs ys:List V} {ds es:List Dat},DatWs H xs ds→DatWs H ys es→DatWs H (xs++ys) (ds++es)
 | _,_,_,_,.nil,h=>h
 | _,_,_,_,.cons a r,h=> .cons a (r.app h)
theorem qy {n:Nat} {ds:List Dat} (h:ds.length≠n):dg n (.tup ds)=false:=by
 show (decide ((ds.length:Int)=(n:Int))&&_)=false
 rw [decide_eq_false (by omega)];rfl
theorem wQ {n:Nat} {ds:List Dat} {d:Dat} (hm:d∈ds) (h:aK d=false):dg n (.tup ds)=false:=by
 show (_&&ds.all aK)=false
 have:ds.all aK=false:=List.all_eq_false.mpr ⟨d,hm,by rw [h];simp⟩
 rw [this,Bool.and_false]
theorem Dq {n:Int} {a m:Dat} (h:aK a=false):cO n (.tup [a,m])=false:=by show (aK a&&_)=false;rw [h];rfl
theorem lH {n:Int} {a m:Dat} (h:dg n m=false):cO n (.tup [a,m])=false:=by show (_&&dg n m)=false;rw [h,Bool.and_false]
theorem Aw (K:W.Frag) (A:Adr):Ln (oG K A) 2:=by rintro vs H Q E ⟨z,P,T,e,ks,rfl,_⟩;rfl
theorem DM (T : Txt K mg A) : Rd (oG K A) (IP K A) ["_law_cell", "_law_paper", "_law_entry", "_law_marks", "_law_spot", "_law_thing", "_law_some"] := by
  intro vs H Q E h
  obtain ⟨z, P, TT, e, ks, rfl, w, l60, q⟩ := h
  have lz : ∀ m : Nat, m ≤ 200 → m ≤ sizeLine := fun m hm => Nat.le_of_lt (ay (by omega))
  have ll : (ks.map kV).length = ks.length := List.length_map ..
  refine ⟨P, _, rfl, SqT.of w.hP, rfl, _, _, rfl, _, _, rfl, rfl, ?_⟩
  refine ⟨⟨by decide, by decide⟩, .inl (.inr (.inl ⟨_, SqT.of w.hT, ?_⟩))⟩
  rw [List.length_map]
  have mx : (if (ks.length : Int) > 1 then (ks.length : Int) else 1) = ((max 1 ks.length : Nat) : Int) := by
    split <;> omega
  show 0 < (if (ks.length : Int) > 1 then (ks.length : Int) else 1) ∧ _
  rw [mx]
  refine ⟨by omega, ⟨by decide, by decide⟩, _, rfl, fun jv jd H1 S1 jw jn => ?_⟩
  have r0 := Int.emod_nonneg (z / 7) (b := ((max 1 ks.length : Nat) : Int)) (by omega)
  have r1 := Int.emod_lt_of_pos (z / 7) (b := ((max 1 ks.length : Nat) : Int)) (by omega)
  show uL K A _ [some (.int z), some (.ref P), some (kV e), some (.ref TT), some (.int (z / 7 % ((max 1 ks.length : Nat) : Int))), some jv, none] H1
  obtain ⟨sp, hsp⟩ := Int.eq_ofNat_of_zero_le r0
  rw [hsp] at r1 ⊢
  have w1 := w.same S1
  have k1 : ∀ {HH : Hp} {p : Addr} {o : HO}, HH p = none → aq HH (upd HH p o) := fun h => aq.upd h
  refine ⟨lz 2 (by decide), fun l1 h1 => ?_⟩
  have s1 := k1 (o := .lst [kV e, .ref TT]) h1
  have e1 : upd H1 l1 (.lst [kV e, .ref TT]) l1 = some (.lst [kV e, .ref TT]) := ai
  generalize upd H1 l1 (.lst [kV e, .ref TT]) = H2 at *
  refine ⟨lz 3 (by decide), fun p2 h2 => ?_⟩
  have s2 := k1 (o := .tup [kV e, .ref TT, kV e]) h2
  have e2 : upd H2 p2 (.tup [kV e, .ref TT, kV e]) p2 = some (.tup [kV e, .ref TT, kV e]) := ai
  generalize upd H2 p2 (.tup [kV e, .ref TT, kV e]) = H3 at *
  refine ⟨lz 2 (by decide), fun p3 h3 => ?_⟩
  have s3 := k1 (o := .tup [jv, .ref TT]) h3
  have e3 : upd H3 p3 (.tup [jv, .ref TT]) p3 = some (.tup [jv, .ref TT]) := ai
  generalize upd H3 p3 (.tup [jv, .ref TT]) = H4 at *
  have s14 := s1.trans (s2.trans s3)
  refine ⟨TT, _, rfl, .inr (SqT.of (s14 _ _ w1.hT)), fun l4 h4 => ?_⟩
  have s4 := k1 (o := .lst (ks.map kV)) h4
  have e4 : upd H4 l4 (.lst (ks.map kV)) l4 = some (.lst (ks.map kV)) := ai
  generalize upd H4 l4 (.lst (ks.map kV)) = H5 at *
  refine ⟨lz 2 (by decide), fun p5 h5 => ?_⟩
  have s5 := k1 (o := .tup [kV e, .ref l4]) h5
  have e5 : upd H5 p5 (.tup [kV e, .ref l4]) p5 = some (.tup [kV e, .ref l4]) := ai
  generalize upd H5 p5 (.tup [kV e, .ref l4]) = H6 at *
  refine ⟨lz 5 (by decide), fun L1 hL1 => ?_⟩
  have s6 := k1 (o := .lst [jv, .ref l1, .ref p2, .ref p3, .ref p5]) hL1
  have e6 : upd H6 L1 (.lst [jv, .ref l1, .ref p2, .ref p3, .ref p5]) L1 = some (.lst [jv, .ref l1, .ref p2, .ref p3, .ref p5]) := ai
  generalize upd H6 L1 (.lst [jv, .ref l1, .ref p2, .ref p3, .ref p5]) = H7 at *
  have s17 := s14.trans (s4.trans (s5.trans s6))
  refine ⟨lz 1 (by decide), fun p7 h7 => ?_⟩
  have s7 := k1 (o := .tup [kV e]) h7
  have e7 : upd H7 p7 (.tup [kV e]) p7 = some (.tup [kV e]) := ai
  generalize upd H7 p7 (.tup [kV e]) = H8 at *
  refine .inr ⟨TT, p7, _, _, rfl, rfl, s7 _ _ (s17 _ _ w1.hT), e7, lz _ (by simp; omega), fun p8 H9 s8 e8 => ?_⟩
  refine ⟨lz 2 (by decide), fun p9 h9 => ?_⟩
  have s9 := k1 (o := .tup [kV e, .ref p8]) h9
  have e9 : upd H9 p9 (.tup [kV e, .ref p8]) p9 = some (.tup [kV e, .ref p8]) := ai
  generalize upd H9 p9 (.tup [kV e, .ref p8]) = H10 at *
  refine ⟨lz 1 (by decide), fun L2 hL2 => ?_⟩
  have s10 := k1 (o := .lst [.ref p9]) hL2
  have e10 : upd H10 L2 (.lst [.ref p9]) L2 = some (.lst [.ref p9]) := ai
  generalize upd H10 L2 (.lst [.ref p9]) = H11 at *
  have s711 := s7.trans (s8.trans (s9.trans s10))
  refine .inl ⟨L1, L2, _, _, rfl, rfl, s711 _ _ e6, e10, lz 6 (by decide), fun L3 hL3 => ?_⟩
  have s11 := k1 (o := .lst ([jv, .ref l1, .ref p2, .ref p3, .ref p5] ++ [.ref p9])) hL3
  have eL : upd H11 L3 (.lst ([jv, .ref l1, .ref p2, .ref p3, .ref p5] ++ [.ref p9])) L3 = some (.lst ([jv, .ref l1, .ref p2, .ref p3, .ref p5] ++ [.ref p9])) := ai
  generalize upd H11 L3 (.lst ([jv, .ref l1, .ref p2, .ref p3, .ref p5] ++ [.ref p9])) = H12 at *
  have a10 := s10.trans s11
  have a9 := s9.trans a10
  have a7 := s7.trans (s8.trans a9)
  have a6 := s6.trans a7
  have a5 := s5.trans a6
  have a4 := s4.trans a5
  have a3 := s3.trans a4
  have a2 := s2.trans a3
  have a1 := s1.trans a2
  have SS := S1.trans a1
  have w12 := w1.same a1
  have jw12 := jw.mono a1
  have mW : aF H12 (.ref TT) (.tup (ks.map bB)) := .tup w12.hT (eR ks)
  have some6 : ∀ v ∈ [jv, .ref l1, .ref p2, .ref p3, .ref p5] ++ [.ref p9], Q v H12 := fun v hv => by
    simp only [List.cons_append, List.nil_append, List.mem_cons, List.not_mem_nil, or_false] at hv
    rcases hv with rfl | rfl | rfl | rfl | rfl | rfl
    · exact q _ _ _ SS jw12 (jn.2.1 _) jn.2.2
    · exact q _ _ _ SS (.lst (a2 _ _ e1) (.cons (bD e) (.cons mW .nil))) rfl trivial
    · exact q _ _ _ SS (.tup (a3 _ _ e2) (.cons (bD e) (.cons mW (.cons (bD e) .nil)))) rfl trivial
    · exact q _ _ _ SS (.tup (a4 _ _ e3) (.cons jw12 (.cons mW .nil))) (Dq jn.1) (by show (ks.map bB).length ≤ 500; simp; omega)
    · exact q _ _ _ SS (.tup (a6 _ _ e5) (.cons (bD e) (.cons (.lst (a5 _ _ e4) (eR ks)) .nil))) (lH rfl) trivial
    · exact q _ _ _ SS (.tup (a10 _ _ e9) (.cons (bD e) (.cons (.tup (a9 _ _ e8) ((eR ks).app (.cons (bD e) .nil))) .nil))) (lH (qy (by simp))) (by show _ ≤ 500; simp; omega)
  have first : bc K (.ref L3) (.int (z % 7 % 6)) H12 Q := .inl (pL eL (by omega) (by show z % 7 % 6 < 6; omega) some6)
  refine ⟨by decide, Sel.dec (fun h => Sel.t ⟨by decide, by decide, first⟩) (fun h => .inl (.inr (.inl ⟨_, SqT.of w12.hT, ?_⟩)))⟩
  rw [List.length_map]
  refine Sel.dec (fun h0 => ⟨by decide, by decide, first⟩) (fun h0 => ?_)
  have l1' : 1 ≤ ks.length := by have h0 : ¬ (ks.length : Int) = 0 := h0; omega
  have spl : sp < ks.length := by have : max 1 ks.length = ks.length := by omega
                                  omega
  have hP6 := w12.hT
  refine ⟨⟨by decide, by decide⟩, ⟨by decide, by decide⟩, by decide, Sel.dec (fun h2 => ?_) (fun h2 => ?_)⟩
  · refine ⟨(sp : Int), rfl, .inl (.inr ⟨TT, _, rfl, hP6, fun q1 H7 S7 hq1 => ?_⟩)⟩
    refine ⟨(sp : Int) + 1, rfl, .inl (.inr ⟨TT, _, rfl, S7 _ _ hP6, fun q2 H8 S8 hq2 => ?_⟩)⟩
    rw [mR _ sp (by omega), ← List.map_take] at hq1
    rw [show ((sp : Int) + 1) = ((sp + 1 : Nat) : Int) by omega, pA _ (sp + 1) (by omega), ← List.map_drop] at hq2
    refine .inr ⟨q1, q2, _, _, rfl, rfl, S8 _ _ hq1, hq2, lz _ (by simp; omega), fun q3 H9 S9 hq3 => ?_⟩
    refine ⟨lz 2 (by decide), fun q4 hq4 => ?_⟩
    exact q _ _ _ (SS.trans (S7.trans (S8.trans (S9.trans (k1 hq4))))) (.tup ai (.cons (bD e) (.cons (.tup (k1 hq4 _ _ hq3) ((eR _).app (eR _))) .nil))) (lH (qy (by simp; omega))) (by show _ ≤ 500; simp; omega)
  · refine ⟨(sp : Int), rfl, .inl (.inr ⟨TT, _, rfl, hP6, fun q1 H7 S7 hq1 => ?_⟩)⟩
    rw [mR _ sp (by omega), ← List.map_take] at hq1
    refine ⟨ay (show 1 ≤ 1000000 by decide), fun q4 h4' => ?_⟩
    have S74 := aq.upd (o := .tup [jv]) h4'
    have e74 : upd H7 q4 (.tup [jv]) q4 = some (.tup [jv]) := ai
    generalize upd H7 q4 (.tup [jv]) = H7' at *
    refine .inr ⟨q1, q4, _, _, rfl, rfl, S74 _ _ hq1, e74, lz _ (by simp; omega), fun q5 H8 S8 hq5 => ?_⟩
    refine ⟨(sp : Int) + 1, rfl, .inl (.inr ⟨TT, _, rfl, S8 _ _ (S74 _ _ (S7 _ _ hP6)), fun q2 H9 S9 hq2 => ?_⟩)⟩
    rw [show ((sp : Int) + 1) = ((sp + 1 : Nat) : Int) by omega, pA _ (sp + 1) (by omega), ← List.map_drop] at hq2
    refine .inr ⟨q5, q2, _, _, rfl, rfl, S9 _ _ hq5, hq2, lz _ (by simp; omega), fun q3 H10 S10 hq3 => ?_⟩
    refine ⟨lz 2 (by decide), fun q6 hq6 => ?_⟩
    have SX := S7.trans (S74.trans (S8.trans (S9.trans (S10.trans (k1 (o := .tup [kV e, .ref q3]) hq6)))))
    refine q _ _ _ (SS.trans SX) (.tup ai (.cons (bD e) (.cons (.tup (k1 hq6 _ _ hq3) (((eR _).app (.cons (jw12.mono SX) .nil)).app (eR _))) .nil))) (lH (wQ (d := jd) (by simp) jn.1)) (by show _ ≤ 500; simp; omega)
theorem GL (K:W.Frag) (A:Adr):Ln (qk K A) 2:=by rintro vs H Q E ⟨x,f,L,D,es,kvs,v,d,rfl,_⟩;rfl
theorem aF.key {H:Hp} {v:V} {e:Key} (w:aF H v (bB e)):v=kV e:=by
 cases e <;> cases w <;> rfl
theorem HK (T:Txt K mg A) (vs:List V) (H:Hp) (Q:VK) (E:XK) (h:qk K A vs H Q E):T_4 K A E { nx:=fun _ H'=>Q .non H',rt:=Q } (L2.start ["self", "entry"] vs) H:=by
 obtain ⟨x,f,L,D,es,kvs,v,d,rfl,r,le,hd,q⟩:=h
 obtain ⟨dx,hx⟩:=r.ob
 refine ⟨v,d,rfl,hd,?_⟩
 rcases q with ⟨hF,qE⟩ | ⟨e,rfl,en,q⟩
 · rw [hF];exact Sel.t qE
 obtain rfl:=hd.key
 have q:Q (.int (es.length:Int)) (upd H L (.lst (es.map kV++[kV e]))):=by
   rw [List.map_append] at q;exact q
 rw [gE en.1]
 refine Sel.f ⟨x,A.c_Row,dx,_,.ref L,rfl,hx,T.cl_Row,T.na_Row_entries,rfl,.inl ⟨rfl,_,SqL.of r.hl⟩,L,_,_,rfl,rfl,r.hl,?_,?_⟩
 · rw [List.length_map];exact Nat.lt_of_lt_of_le le (ay (by decide))
 · have hL:x≠L:=bG hx r.hl (fun z=>nomatch z)
   refine ⟨x,A.c_Row,dx,_,.ref L,rfl,by rw [ao hL];exact hx,T.cl_Row,T.na_Row_entries,rfl,.inl (.inl ⟨_,SqL.of ai,?_⟩)⟩
   have e:(((es.map kV++[kV e]).length:Nat):Int) - 1=(es.length:Int):=by simp
   show Q (.int ((((es.map kV++[kV _]).length:Nat):Int) - 1)) _
   rw [e];exact q
theorem FN (K:W.Frag) (A:Adr):Ln (qi K A) 3:=by rintro vs H Q E ⟨x,f,L,D,es,kvs,v,w,d,e,rfl,_⟩;rfl
theorem HF (T : Txt K mg A) : Rd (qi K A) (T_6 K A) ["self", "count", "place"] := by
  intro vs H Q E h
  obtain ⟨x, f, L, D, es, kvs, v, w, d, e, rfl, r, hd, he, q⟩ := h
  obtain ⟨dx, hx⟩ := r.ob
  refine ⟨v, d, w, e, rfl, hd, he, ?_⟩
  cases hE : aD d e with
  | false => rw [hE] at q; exact Sel.f q
  | true =>
    rw [hE] at q
    obtain ⟨c, el, rfl, rfl, _, _⟩ := gq hE
    cases hd.int_inv
    exact Sel.t ⟨x, dx, _, rfl, hx, rfl, x, f, L, D, es, kvs, rfl, r, q⟩
theorem AB {es:List Key} {d:Dat}:(aD (.int (es.length:Int)) d&&leD (es.length:Int) (.int (es.length:Int)))=aD (.int (es.length:Int)) d:=by
 have e:leD (es.length:Int) (.int (es.length:Int))=true:=decide_eq_true (Int.le_refl _)
 rw [e,Bool.and_true]
theorem GE (K:W.Frag) (A:Adr):Ln (pO K A) 2:=by rintro vs H Q E ⟨x,f,L,D,es,kvs,v,d,rfl,_⟩;rfl
theorem IJ (T : Txt K mg A) (vs : List V) (H : Hp) (Q : VK) (E : XK) (h : pO K A vs H Q E) : T_5 K A E { nx := fun _ H' => Q .non H', rt := Q } (L2.start ["self", "place"] vs) H := by
  obtain ⟨x, f, L, D, es, kvs, v, d, rfl, r, hd, qE, q⟩ := h
  obtain ⟨dx, hx⟩ := r.ob
  refine ⟨x, dx, _, rfl, hx, rfl, x, dx, _, rfl, hx, rfl, x, f, L, D, es, kvs, rfl, r, x, f, L, D, es, kvs, _, _, _, _, rfl, r, .int _, hd, ?_⟩
  rw [AB]
  cases hE : aD (.int (es.length : Int)) d with
  | false => exact Sel.t (qE hE)
  | true =>
    refine Sel.f ?_
    obtain ⟨c', p, e1, rfl, hc, _⟩ := gq hE
    cases dy e1
    cases hd.int_inv
    obtain ⟨e, he⟩ : ∃ e, es[p]? = some e := ⟨_, List.getElem?_eq_getElem hc⟩
    exact ⟨x, A.c_Row, dx, _, .ref L, rfl, hx, T.cl_Row, T.na_Row_entries, rfl, ixL r.hl rfl (by rw [List.getElem?_map, he]; rfl) (q p e rfl he)⟩
theorem ci.setM {H:Hp} {x f L D b M:Addr} {es:List Key} {kvs:List (List Key×Key)} {g:gOp} {n:Nat} {xs ys:List V} (r:ci A H x f L D b es kvs g n) (hM:H M=some (.lst xs)) (ne:L≠M):ci A (upd H M (.lst ys)) x f L D b es kvs g n:=by
 obtain ⟨dx,hx⟩:=r.r.ob
 exact ⟨⟨⟨dx,by rw [ao (bG hx hM (fun z=>nomatch z))];exact hx⟩,by rw [ao ne];exact r.r.hl,by rw [ao (bG r.r.hd hM (fun z=>nomatch z))];exact r.r.hd,r.r.en,r.r.le⟩,r.s.setL hM,r.c,r.db,r.kl⟩
structure Pp (A:Adr) (H H':Hp) (x f L D b M W:Addr) (es:List Key) (c p fi m i:Nat) (g g':gOp) (n:Nat) (xs:List V):Prop where
 fp:fi≤p
 pm:p - fi<m
 fm:fi+m≤c
 tr:∃ e,(bh c p).drop i=cw e (p - fi) m∧m≤2^e
 hM:H' M=some (.lst xs)
 hW:H' W=some (.lst ((bh c p).map V.int))
 k2:bN b D H H'
 r:∃ kvs N,ci A H' x f L D b es kvs g' N∧N+2*m≤n+2*c
 sub:Sub g g'
 kl:xs.length+m≤c
theorem ES (K:W.Frag) (A:Adr):Ln (sB K A) 3:=by rintro vs H Q E ⟨x,f,L,D,b,es,kvs,g,n,v,w,d,e,rfl,_⟩;rfl
theorem IB (T:Txt K mg A) (vs:List V) (H:Hp) (Q:VK) (E:XK) (h:sB K A vs H Q E):T_7 K A E { nx:=fun _ H'=>Q .non H',rt:=Q } (L2.start ["self", "count", "place", "marks", "first", "many", "turn", "ahead"] vs) H:=by
 obtain ⟨x,f,L,D,b,es,kvs,g,n,v,w,d,e,rfl,r,hn,hd,he,qE,q⟩:=h
 obtain ⟨dx,hx⟩:=r.r.ob
 have l60:=r.r.le
 refine ⟨x,dx,_,rfl,hx,rfl,x,f,L,D,es,kvs,v,w,d,e,rfl,r.r,hd,he,?_⟩
 cases hE:(aD d e&&leD (es.length:Int) d) with
 | false=>exact Sel.t (qE hE)
 | true=>
 have q2:=q hE
 clear qE q
 obtain ⟨h1,h2⟩:=Bool.and_eq_true_iff.mp hE
 obtain ⟨c,p,rfl,rfl,hpc,_⟩:=gq h1
 cases hd.int_inv
 cases he.int_inv
 have hc:c≤es.length:=by have:(c:Int)≤(es.length:Int):=of_decide_eq_true h2;omega
 refine Sel.f ⟨Nat.zero_le _,fun M hM=>?_⟩
 have LM:L≠M:=aw r.r.hl hM
 have S1:aq H (upd H M (.lst [])):=aq.upd hM
 have hM1:upd H M (.lst []) M=some (.lst []):=ai
 generalize upd H M (.lst [])=H1 at S1 hM1
 refine ⟨p,c,rfl,hpc,by omega,fun W hWn=>⟨W,rfl,.inl ⟨⟨_,SqL.of ai⟩,?_⟩⟩⟩
 have S2:=aq.upd (o:=.lst ((bh c p).map V.int)) hWn
 have hW:upd H1 W (.lst ((bh c p).map V.int)) W=some (.lst ((bh c p).map V.int)):=ai
 generalize upd H1 W (.lst ((bh c p).map V.int))=H2 at S2 hW
 have MW:W≠M:=Ne.symm (aw hM1 hWn)
 refine pS (xs:=(bh c p).map V.int) (fun i σ H'=>∃ (fi m:Nat) (xs:List V) (g':gOp) (x6 x7:Option V),σ=[some (.ref x),some (.int (c:Int)),some (.int (p:Int)),some (.ref M),some (.int (fi:Int)),some (.int (m:Int)),x6,x7]∧Pp A H H' x f L D b M W es c p fi m i g g' n xs)
   ⟨0,c,[],g,none,none,rfl,Nat.zero_le _,hpc,by omega,⟨60,by rw [List.drop_zero,Nat.sub_zero],by omega⟩,S2 _ _ hM1,hW,bN.same (S1.trans S2),⟨kvs,n,r.same (S1.trans S2) (Nat.le_refl _),Nat.le_refl _⟩,Sub.rfl',by simp⟩
   (fun i σ H' _ h=>?_) (fun i v σ H' hx' h=>?_) (fun σ H' h=>?_)
 · obtain ⟨_,_,_,_,_,_,_,pp⟩:=h
   exact SqL.of pp.hW
 · obtain ⟨fi,m,xs,g',x6,x7,rfl,pp⟩:=h
   obtain ⟨fp,pm,fm,⟨e,tr,me⟩,hM',hW',k2,⟨kv,N,r',hN⟩,sub,kl⟩:=pp
   obtain ⟨t,ht,rfl⟩:=mi hx'
   have hi:=(List.getElem?_eq_some_iff.mp ht).1
   have ed:(bh c p).drop i=t::(bh c p).drop (i+1):=by rw [List.drop_eq_getElem_cons hi,(List.getElem?_eq_some_iff.mp ht).2]
   rw [ed] at tr
   have m2:2≤m:=by
     rcases Nat.lt_or_ge m 2 with h | h
     · rw [kH (by omega)] at tr;cases tr
     · exact h
   cases e with
   | zero=>simp at me;omega
   | succ e=>
   obtain ⟨g1,g2⟩:=jN m2
   have b2:=kG m2
   have b3:=ku m2 me
   rw [iV (by omega)] at tr
   obtain ⟨dx',hxx⟩:=r'.r.ob
   have lt:xs.length<sizeLine:=bx (by omega)
   obtain ⟨nM,nM2⟩:=r'.n2 hM' (fun _ z=>nomatch z) (fun _ z=>nomatch z)
   obtain ⟨nW,nW2⟩:=r'.n2 hW' (fun _ z=>nomatch z) (fun _ z=>nomatch z)
   refine ⟨m,rfl,m2,by omega,?_⟩
   by_cases hp:p - fi<aH m
   · rw [if_pos hp] at tr
     have tr2:=(List.cons.inj tr).2
     obtain rfl:=(List.cons.inj tr).1
     refine Sel.dec (fun _=>?_) (fun h=>absurd rfl h)
     refine ⟨.inl ⟨rfl,_,SqL.of hM'⟩,x,dx',_,rfl,hxx,rfl,x,f,L,D,b,es,kv,g',N,fi+aH m,m - aH m,?_,r',by omega,by omega,by omega,fun v kv2 g2' H3 k3 r3 sub3 okv szv ev=>?_⟩
     · rw [Int.natCast_add,Int.ofNat_sub (by omega)]
     have hM3:=k3 _ _ nM nM2 hM'
     refine ⟨M,_,kV v,rfl,rfl,hM3,lt,?_⟩
     refine ⟨fi,aH m,xs++[kV v],g2',_,_,rfl,fp,hp,by omega,⟨e,tr2,b3⟩,ai,by rw [ao MW];exact k3 _ _ nW nW2 hW',fun z o n1 n2 e=>?_,⟨kv2,_,r3.setM hM3 LM,by omega⟩,sub.trans sub3,by rw [List.length_append];show xs.length+1+_≤_;omega⟩
     rw [ao (aw e hM)];exact k3 _ _ n1 n2 (k2 _ _ n1 n2 e)
   · rw [if_neg hp] at tr
     have tr2:=(List.cons.inj tr).2
     obtain rfl:=(List.cons.inj tr).1
     refine Sel.dec (fun h=>absurd h (by decide)) (fun _=>?_)
     refine ⟨.inl ⟨rfl,_,SqL.of hM'⟩,x,dx',_,rfl,hxx,rfl,x,f,L,D,b,es,kv,g',N,fi,aH m,rfl,r',by omega,by omega,by omega,fun v kv2 g2' H3 k3 r3 sub3 okv szv ev=>?_⟩
     have hM3:=k3 _ _ nM nM2 hM'
     refine ⟨M,_,kV v,rfl,rfl,hM3,lt,?_⟩
     refine ⟨fi+aH m,m - aH m,xs++[kV v],g2',some (.int 1),some (.int ((aH m:Nat):Int)),?_,by omega,by omega,by omega,⟨e,by rw [show p - (fi+aH m)=p - fi - aH m by omega];exact tr2,by omega⟩,ai,by rw [ao MW];exact k3 _ _ nW nW2 hW',fun z o n1 n2 e=>?_,⟨kv2,_,r3.setM hM3 LM,by omega⟩,sub.trans sub3,by rw [List.length_append];show xs.length+1+_≤_;omega⟩
     · rw [Int.ofNat_sub (by omega),Int.natCast_add];rfl
     · rw [ao (aw e hM)];exact k3 _ _ n1 n2 (k2 _ _ n1 n2 e)
 · obtain ⟨fi,m,xs,g',x6,x7,rfl,pp⟩:=h
   obtain ⟨fp,pm,fm,_,hM',hW',k2,⟨kv,N,r',hN⟩,sub,kl⟩:=pp
   obtain ⟨dx',hxx⟩:=r'.r.ob
   obtain ⟨e,he⟩:∃ e,es[p]?=some e:=⟨_,List.getElem?_eq_getElem (by omega)⟩
   refine ⟨x,A.c_Row,dx',_,.ref L,rfl,hxx,T.cl_Row,T.na_Row_entries,rfl,ixL r'.r.hl rfl (by rw [List.getElem?_map,he];rfl) ?_⟩
   refine ⟨M,_,rfl,.inl ⟨SqL.of hM',fun T hT=>⟨ay (show 2≤1000000 by decide),fun P hP=>?_⟩⟩⟩
   have S5:=(aq.upd (o:=.tup xs) hT).trans (aq.upd (o:=.tup [kV e,.ref T]) hP)
   exact q2 _ kv g' _ (k2.trans (bN.same S5)) (r'.same S5 (by omega)) sub
theorem fb.grow {g:gOp} {es:List Key} {kvs:List (List Key×Key)} {bK:List Key} (c:fb g es kvs):fb g (es++bK) kvs:=fun k v e=>by
 obtain ⟨a,m,h1,h2,h3,h4,h5⟩:=c k v e
 refine ⟨a,m,h1,by rw [List.length_append];omega,h3,h4,?_⟩
 rw [List.drop_append_of_le_length (by omega),List.take_append_of_le_length (by rw [List.length_drop];omega)]
 exact h5
theorem pG {H:Hp} {x f L D b:Addr} {es:List Key} {kvs:List (List Key×Key)} {g:gOp} {n:Nat} {e:Key} (r:ci A H x f L D b es kvs g n) (en:enK e) (lt:es.length<60):ci A (upd H L (.lst ((es++[e]).map kV))) x f L D b (es++[e]) kvs g n:=by
 obtain ⟨dx,hx⟩:=r.r.ob
 refine ⟨⟨⟨dx,by rw [ao (bG hx r.r.hl (fun z=>nomatch z))];exact hx⟩,ai,by rw [ao (bG r.r.hd r.r.hl (fun z=>nomatch z))];exact r.r.hd,fun y hy=>?_,by rw [List.length_append];show _+1≤_;omega⟩,r.s.setL r.r.hl,r.c.grow,r.db,r.kl⟩
 rcases List.mem_append.mp hy with h | h
 · exact r.r.en y h
 · rw [List.mem_singleton.mp h];exact en
theorem rN {es:List Key} {what:Int} {d:Dat} (h:¬ what=0):iL es what d=es:=by
 cases d with
 | int i=>show (if what=0∧_ then _ else _)=_;rw [if_neg fun z=>h z.1]
 | _=>rfl
theorem rH {es : List Key} {what : Int} {d : Dat} (h : aK d = false) : iL es what d = es := by
  cases d with
  | int i =>
    have h : decide (0 ≤ i ∧ i < 10 ^ 60) = false := h
    show (if what = 0 ∧ 0 ≤ i ∧ i < 10 ^ 60 then _ else _) = _
    rw [if_neg fun z => of_decide_eq_false h z.2]
  | _ => rfl
theorem nq {d:Dat} (h:aK d=true) (ns:lD d):∃ i:Int,d=.int i∧0≤i∧i<10^60:=by
 cases d with
 | int i=>exact ⟨i,rfl,of_decide_eq_true h⟩
 | str z=>exact absurd rfl (ns z)
 | _=>cases h
theorem enI {i:Int} (h:0≤i∧i<10^60):enK (.inl i):=⟨decide_eq_true h,by show 62≤70;decide⟩
theorem gB.of {b D L:Addr} {H H':Hp} (k:bN b D H H'):gB b D L H H':=fun x o h1 h2 _ e=>k x o h1 h2 e
theorem AF (K:W.Frag) (A:Adr):Ln (oi K A) 4:=by rintro vs H Q E ⟨what,x,f,L,D,b,es,kvs,g,n,v,w,d,e,rfl,_⟩;rfl
theorem Gj (T : Txt K mg A) : Rd (oi K A) (Hr K A) ["_law_what", "_law_row", "_law_one", "_law_other_here", "_law_caught_here", "e"] := by
  intro vs H Q E h
  obtain ⟨what, x, f, L, D, b, es, kvs, g, n, v, w, d, e, rfl, r, hn, l60, hd, he, ns, q⟩ := h
  obtain ⟨dx, hx⟩ := r.r.ob
  have cau : ∀ i, i < 5 → dn es what d e = some i → iL es what d = es → hAs K A.c_StampError 5 (aC (af 5) (au 4)) lC { nx := aG (af 4) { nx := fun _ H' => Q .non H', rt := Q }, rt := Q } [some (.int what), some (.ref x), some v, some w, some .non, none] (cE A i) none H := fun i hi eo eg => by
    refine ⟨true, sbE T i hi, Sel.t fun ah hah => ?_⟩
    refine q (.ref ah) kvs g _ (gB.of (bN.same (aq.upd hah))) (by rw [eg]; exact r.same (aq.upd hah) (by omega)) Sub.rfl' ?_
    rw [eo]
    exact ⟨hi, ah, none, rfl, ai⟩
  refine Sel.dec (fun hw => ?_) (fun hw => ?_)
  · have hw : what = 0 := hw
    refine ⟨x, dx, _, rfl, hx, rfl, x, f, L, D, es, kvs, v, d, rfl, r.r, l60, hd, ?_⟩
    cases hS : aK d with
    | false =>
      refine .inl ⟨rfl, _, rfl, eoE T 4 (by decide), cau 4 (by decide) ?_ (rH hS)⟩
      unfold dn; rw [if_pos hw, hS]; rfl
    | true =>
      obtain ⟨i, rfl, hi⟩ := nq hS ns
      refine .inr ⟨.inl i, rfl, enI hi, ?_⟩
      have eg : iL es what (.int i) = es ++ [.inl i] := by
        show (if what = 0 ∧ 0 ≤ i ∧ i < 10 ^ 60 then _ else _) = _
        rw [if_pos ⟨hw, hi⟩]
      refine q .non kvs g _ (fun z o _ _ h3 ez => by rw [ao h3]; exact ez) (by rw [eg]; exact (pG r (enI hi) l60).same (aq.refl _) (by omega)) Sub.rfl' ?_
      unfold dn; rw [if_pos hw, hS]; rfl
  · have hw : ¬ what = 0 := hw
    have eg := rN (es := es) (d := d) hw
    refine Sel.dec (fun hw1 => ?_) (fun hw1 => ?_)
    · have hw1 : what = 1 := hw1
      refine ⟨x, dx, _, rfl, hx, rfl, x, f, L, D, es, kvs, v, d, rfl, r.r, hd, fun hF => ⟨_, rfl, eoE T 1 (by decide), cau 1 (by decide) ?_ eg⟩, fun p u ed eu => ?_⟩
      · unfold dn; rw [if_neg hw, if_pos hw1, hF]; rfl
      · refine q .non kvs g H (gB.of bN.rfl') (by rw [eg]; exact r.same (aq.refl _) (by omega)) Sub.rfl' ?_
        have hp := (List.getElem?_eq_some_iff.mp eu).1
        unfold dn; rw [if_neg hw, if_pos hw1, ed, da hp (by omega)]; rfl
    · have hw1 : ¬ what = 1 := hw1
      refine ⟨x, dx, _, rfl, hx, rfl, x, f, L, D, b, es, kvs, g, n, v, w, d, e, rfl, r, hn, hd, he, fun hF => ⟨_, rfl, eoE T 1 (by decide), cau 1 (by decide) ?_ eg⟩, fun hT u kvs' g' H' k1 r1 s1 => ?_⟩
      · unfold dn; rw [if_neg hw, if_neg hw1, hF]; rfl
      · refine q .non kvs' g' H' (gB.of k1) (by rw [eg]; exact r1) s1 ?_
        unfold dn
        rw [if_neg hw, if_neg hw1, hT]; rfl
structure Flg (c p:Nat) (en:Key) (ks:List Key) (b1 b2:Bool) (e k:Dat):Prop where
 he:b1=false→e=.int (p:Int)
 he':b1=true→aD (.int (c:Int)) e=false
 hk:b2=false→ef k (bh c p).length en ks
 hk':b2=true→cO (bh c p).length k=false
theorem Ask.same {H H':Hp} {f b:Addr} {g:gOp} {n:Nat} {w m:V} {e k:Dat} (a:Ask A H f b g n w m e k) (S:aq H H'):Ask A H' f b g n w m e k:=⟨a.s.same (Nat.le_refl _) S,a.hn,a.he.mono S,a.hm.mono S,a.sh⟩
mutual
theorem aF.keepB {b:Addr} {H H':Hp} (kb:aO b H H') (bb:(∃ φ,H b=some (.ext φ))∨∃ kvs,H b=some (.dT kvs)):∀ {v:V} {d:Dat},aF H v d→aF H' v d
 | _,_,.non=> .non
 | _,_,.bl b=> .bl b
 | _,_,.int i=> .int i
 | _,_,.str z=> .str z
 | _,_,.lst e r=> .lst (kb.obj bb e (fun _ z=>nomatch z)) (DatWs.keepB kb bb r)
 | _,_,.tup e r=> .tup (kb.obj bb e (fun _ z=>nomatch z)) (DatWs.keepB kb bb r)
 | _,_,.dic ⟨k,e⟩=> .dic ⟨k,kb.obj bb e (fun _ z=>nomatch z)⟩
theorem DatWs.keepB {b:Addr} {H H':Hp} (kb:aO b H H') (bb:(∃ φ,H b=some (.ext φ))∨∃ kvs,H b=some (.dT kvs)):∀ {xs:List V} {ds:List Dat},DatWs H xs ds→DatWs H' xs ds
 | _,_,.nil=> .nil
 | _,_,.cons a r=> .cons (aF.keepB kb bb a) (DatWs.keepB kb bb r)
end
theorem zL {c p : Nat} {en : Key} {ks : List Key} {b0 b1 b2 : Bool} {d e k : Dat} (ec : p < c) (c2 : c < 2 ^ 60) (F : Flg c p en ks b1 b2 e k) (h0 : b0 = true → ∀ e, aD d e = false) (h0' : b0 = false → d = .int (c : Int)) : pH d e k (dE [false, b0 || b1, b2]) := by
  cases b0 with
  | true => exact .place (h0 rfl e)
  | false =>
    have ed := h0' rfl
    subst ed
    cases b1 with
    | true => exact .place (F.he' rfl)
    | false =>
      cases b2 with
      | true => exact .paper c p rfl (F.he rfl) ec c2 (F.hk' rfl)
      | false => exact .good c p en ks rfl (F.he rfl) ec c2 (F.hk rfl)
theorem rP {g : List Key → Option Key} {c p : Nat} {en : Key} {ks : List Key} {b0 b1 b2 : Bool} {d e k : Dat} {mk mo : Key} (ec : p < c) (c2 : c < 2 ^ 60) (F : Flg c p en ks b1 b2 e k) (ok : okP mo = true) (h0 : b0 = true → cp d = false) (h0' : b0 = false → d = .tup [.int (c : Int), bB mo]) (ht : ∀ h, Ext g h → mk = h (fz h c en (stR (bh c p) ks) ((stR (bh c p) ks).length + 1))) :
    iH g d e k (dE [b0, b1, b2, !decide (mo = mk)]) := by
  cases b0 with
  | true => exact .head (h0 rfl)
  | false =>
    have ed := h0' rfl
    subst ed
    cases b1 with
    | true => exact .place c mo rfl c2 ok (F.he' rfl)
    | false =>
      cases b2 with
      | true => exact .paper c p mo rfl c2 ok (F.he rfl) ec (F.hk' rfl)
      | false =>
        have h := iH.good (g := g) c p mo mk en ks rfl c2 ok (F.he rfl) ec (F.hk rfl) ht
        by_cases e : mo = mk
        · rw [if_pos e.symm] at h; rw [decide_eq_true e]; exact h
        · rw [if_neg (Ne.symm e)] at h; rw [decide_eq_false e]; exact h
theorem Dz (K:W.Frag) (A:Adr):Ln (oa K A) 6:=by rintro vs H Q E ⟨f,b,a,P,TT,ns,c,p,ks,e,mk,g,n,rfl,_⟩;rfl
theorem FA (T : Txt K mg A) : Rd (oa K A) (Ja K A) ["_law_stamper_here", "_law_script", "_law_count", "_law_place", "_law_paper", "_law_mark_here", "_law_wrong", "_law_more", "_law_top", "_law_due", "_law_what", "_law_head", "_law_other_here", "_law_thing", "_law_good", "_law_found"] := by
  intro vs H Q E h
  obtain ⟨f, b, a, P, TT, ns, c, p, ks, en, mk, g, n, rfl, pp, ec, hn, hs, okm, szm, ht, q⟩ := h
  obtain ⟨s, _, c1, c2, tl, t01, kl, ee, ke, pw⟩ := pp
  have k1 : ∀ {HH : Hp} {p : Addr} {o : HO}, HH p = none → aq HH (upd HH p o) := fun h => aq.upd h
  have l2 : 2 ≤ sizeLine := ay (show 2 ≤ 1000000 by decide)
  have last15 : ∀ (W M : Addr) (x3 x4 x8 x9 x11 x12 : V) (x10 x13 x14 x15 : Option V) (g' : List Key → Option Key) (H' : Hp) (n' : Nat), n' + 71 ≤ n + 400 → aO b H H' → Sub g g' → Stp A H' f b g' n' →
      rh K A { nx := fun _ H' => Q .non H', rt := Q } [some (.ref f), some (.ref a), some (.int (c : Int)), some x3, some x4, some (kV mk), some (.ref W), some (.ref M), some x8, some x9, x10, some x11, some x12, x13, x14, x15] H' := fun W M x3 x4 x8 x9 x11 x12 x10 x13 x14 x15 g' H' n' hn' kb sub s' => by
    refine ⟨l2, fun p1 h1 => ?_⟩
    have S1 := k1 (o := .tup [V.int 0, kV mk]) h1
    have e1 : upd H' p1 (.tup [V.int 0, kV mk]) p1 = some (.tup [V.int 0, kV mk]) := ai
    generalize upd H' p1 (.tup [V.int 0, kV mk]) = H1 at *
    refine ⟨Nat.zero_le _, fun p2 h2 => ?_⟩
    have S2 := k1 (o := .tup []) h2
    have e2 : upd H1 p2 (.tup []) p2 = some (.tup []) := ai
    generalize upd H1 p2 (.tup []) = H2 at *
    refine ⟨l2, fun p3 h3 => ?_⟩
    have S3 := k1 (o := .tup [V.str "", .ref p2]) h3
    have e3 : upd H2 p3 (.tup [V.str "", .ref p2]) p3 = some (.tup [V.str "", .ref p2]) := ai
    generalize upd H2 p3 (.tup [V.str "", .ref p2]) = H3 at *
    have S := S1.trans (S2.trans S3)
    refine ⟨2, f, b, g', n', .ref p1, .int 0, .ref p3, .tup [.int ((0 : Nat) : Int), bB mk], .int 0, .tup [.str "", .tup []], some 1, rfl, ⟨s'.same (Nat.le_refl _) S, by omega, .int 0, .tup e3 (.cons (.str _) (.cons (.tup (S3 _ _ e2) .nil) .nil)), by show 0 ≤ 500; decide⟩, .tup ((S2.trans S3) _ _ e1) (.cons (.int _) (.cons (bD mk) .nil)), .inr ⟨rfl, .place 0 mk rfl (by decide) okm (qb _)⟩, fun u g2 H4 kb4 s4 sub4 cau => ⟨u, some 1, rfl, cau, fun H5 S5 => ?_⟩⟩
    exact q g2 H5 (kb.trans ((aO.same S).trans (kb4.trans (aO.same S5)))) (s4.same (by omega) S5) (sub.trans sub4)
  have from13 : ∀ (W M : Addr) (b0 b1 b2 b3 oth : Bool) (w m hv x8 x9 : V) (x10 x13 x14 x15 : Option V) (e k d : Dat) (g' : List Key → Option Key) (H' : Hp) (n' : Nat), n' + 142 ≤ n + 400 → aO b H H' → Sub g g' → Ask A H' f b g' n' w m e k → aF H' hv d → H' W = some (.lst [.bl b0, .bl b1, .bl b2, .bl b3]) → iH g' d e k (dE [b0, b1, b2, oth]) →
      rA K A { nx := fun _ H' => Q .non H', rt := Q } [some (.ref f), some (.ref a), some (.int (c : Int)), some w, some m, some (kV mk), some (.ref W), some (.ref M), some x8, some x9, x10, some hv, some (.bl oth), x13, x14, x15] H' := fun W M b0 b1 b2 b3 oth w m hv x8 x9 x10 x13 x14 x15 e k d g' H' n' hn' kb sub ask hd hW due => by
    refine ixL (j := 0) hW rfl rfl (ixL (j := 1) hW rfl rfl (ixL (j := 2) hW rfl rfl ⟨ay (show 4 ≤ 1000000 by decide), fun L hL => ?_⟩))
    refine ⟨L, [b0, b1, b2, oth], rfl, ai, (show 4 ≤ 100 by decide), ?_⟩
    have S := aq.upd (o := .lst [V.bl b0, .bl b1, .bl b2, .bl oth]) hL
    generalize upd H' L (.lst [V.bl b0, .bl b1, .bl b2, .bl oth]) = H1 at *
    refine ⟨2, f, b, g', n', hv, w, m, d, e, k, _, rfl, ask.same S, hd.mono S, .inr ⟨rfl, due⟩, fun u g2 H2 kb2 s2 sub2 cau => ⟨u, _, rfl, cau, fun H3 S3 => Sel.f ?_⟩⟩
    exact last15 W M w m x8 _ hv _ x10 x13 x14 x15 g2 H3 (n' + 71) (by omega) (kb.trans ((aO.same S).trans (kb2.trans (aO.same S3)))) (sub.trans sub2) (s2.same (Nat.le_refl _) S3)
  have from12 : ∀ (W M : Addr) (b0 b1 b2 b3 oth : Bool) (w m hv x8 x9 : V) (x10 x13 x14 x15 : Option V) (e k d : Dat) (g' : List Key → Option Key) (H' : Hp) (n' : Nat), n' + 142 ≤ n + 400 → aO b H H' → Sub g g' → Ask A H' f b g' n' w m e k → aF H' hv d → cp d = !b0 → H' W = some (.lst [.bl b0, .bl b1, .bl b2, .bl b3]) → iH g' d e k (dE [b0, b1, b2, oth]) →
      rT K A { nx := fun _ H' => Q .non H', rt := Q } [some (.ref f), some (.ref a), some (.int (c : Int)), some w, some m, some (kV mk), some (.ref W), some (.ref M), some x8, some x9, x10, some hv, some (.bl oth), x13, x14, x15] H' := fun W M b0 b1 b2 b3 oth w m hv x8 x9 x10 x13 x14 x15 e k d g' H' n' hn' kb sub ask hd hg hW due => by
    refine ixL (j := 0) hW rfl rfl ?_
    refine ⟨l2, fun t1 h1 => ?_⟩
    have S1 := k1 (o := .tup [hv, .bl (!b0)]) h1
    have e1 : upd H' t1 (.tup [hv, .bl (!b0)]) t1 = some (.tup [hv, .bl (!b0)]) := ai
    generalize upd H' t1 (.tup [hv, .bl (!b0)]) = H1 at *
    refine ⟨l2, fun p2 h2 => ?_⟩
    have S2 := k1 (o := .tup [V.int (c : Int), kV mk]) h2
    have e2 : upd H1 p2 (.tup [V.int (c : Int), kV mk]) p2 = some (.tup [V.int (c : Int), kV mk]) := ai
    generalize upd H1 p2 (.tup [V.int (c : Int), kV mk]) = H2 at *
    refine ⟨l2, fun t2 h3 => ?_⟩
    have S3 := k1 (o := .tup [V.ref p2, .bl true]) h3
    have e3 : upd H2 t2 (.tup [V.ref p2, .bl true]) t2 = some (.tup [V.ref p2, .bl true]) := ai
    generalize upd H2 t2 (.tup [V.ref p2, .bl true]) = H3 at *
    refine ⟨l2, fun p4 h4 => ?_⟩
    have S4 := k1 (o := .tup [V.int 0, kV mk]) h4
    have e4 : upd H3 p4 (.tup [V.int 0, kV mk]) p4 = some (.tup [V.int 0, kV mk]) := ai
    generalize upd H3 p4 (.tup [V.int 0, kV mk]) = H4 at *
    refine ⟨l2, fun t5 h5 => ?_⟩
    have S5 := k1 (o := .tup [V.ref p4, .bl true]) h5
    have e5 : upd H4 t5 (.tup [V.ref p4, .bl true]) t5 = some (.tup [V.ref p4, .bl true]) := ai
    generalize upd H4 t5 (.tup [V.ref p4, .bl true]) = H5 at *
    refine ⟨ay (show 3 ≤ 1000000 by decide), fun LL h6 => ?_⟩
    have S6 := k1 (o := .lst [V.ref t1, .ref t2, .ref t5]) h6
    have e6 : upd H5 LL (.lst [V.ref t1, .ref t2, .ref t5]) LL = some (.lst [V.ref t1, .ref t2, .ref t5]) := ai
    generalize upd H5 LL (.lst [V.ref t1, .ref t2, .ref t5]) = H6 at *
    have a5 := S5.trans S6
    have a4 := S4.trans a5
    have a3 := S3.trans a4
    have a2 := S2.trans a3
    have S := S1.trans a2
    have all : ∀ v ∈ [V.ref t1, .ref t2, .ref t5], ∃ (t : Addr) (hv : V) (gd : Bool) (d : Dat), v = .ref t ∧ H6 t = some (.tup [hv, .bl gd]) ∧ aF H6 hv d ∧ cp d = gd := fun v hv' => by
      simp only [List.mem_cons, List.not_mem_nil, or_false] at hv'
      rcases hv' with rfl | rfl | rfl
      · exact ⟨_, hv, _, d, rfl, a2 _ _ e1, hd.mono S, hg⟩
      · exact ⟨_, _, _, _, rfl, a4 _ _ e3, .tup (a3 _ _ e2) (.cons (.int _) (.cons (bD mk) .nil)), im c2 okm⟩
      · exact ⟨_, _, _, _, rfl, S6 _ _ e5, .tup (a5 _ _ e4) (.cons (.int _) (.cons (bD mk) .nil)), im (c := 0) (by decide) okm⟩
    refine ⟨LL, rfl, .inl ⟨⟨_, SqL.of e6⟩, ?_⟩⟩
    refine pS (xs := [V.ref t1, .ref t2, .ref t5]) (fun i σ H7 => H7 = H6 ∧ ∃ x13 x14 x15, σ = [some (.ref f), some (.ref a), some (.int (c : Int)), some w, some m, some (kV mk), some (.ref W), some (.ref M), some x8, some x9, x10, some hv, some (.bl oth), x13, x14, x15]) ⟨rfl, x13, x14, x15, rfl⟩ (fun i σ H7 _ h => by rw [h.1]; exact SqL.of e6) (fun i v σ H7 hx h => ?_) (fun σ H7 h => ?_)
    · obtain ⟨rfl, x13, x14, x15, rfl⟩ := h
      obtain ⟨t, hv', gd, d', rfl, et, wd, eg⟩ := all v (List.mem_of_getElem? hx)
      refine ⟨t, _, rfl, SqT.of et, rfl, _, _, rfl, _, _, rfl, rfl, hv', d', rfl, wd, ?_⟩
      rw [eg]
      refine ⟨by decide, "bool", rfl, Sel.no rfl (Sel.no (by show (!decide (gd = gd)) = false; rw [decide_eq_true rfl]; rfl) ⟨rfl, _, _, _, rfl⟩)⟩
    · obtain ⟨rfl, x13, x14, x15, rfl⟩ := h
      exact from13 W M b0 b1 b2 b3 oth w m hv x8 x9 x10 x13 x14 x15 e k d g' H7 n' hn' (kb.trans (aO.same S)) sub (ask.same S) (hd.mono S) (S _ _ hW) due
  have from8 : ∀ (W M : Addr) (b0 b1 b2 b3 : Bool) (z0 z1 z2 z3 : Int) (w m x8 x9 : V) (x10 : Option V) (e k : Dat) (g' : List Key → Option Key) (H' : Hp) (n' : Nat), n' + 142 ≤ n + 400 → aO b H H' → Sub g g' → Ask A H' f b g' n' w m e k → Flg c p en ks b1 b2 e k → H' W = some (.lst [.bl b0, .bl b1, .bl b2, .bl b3]) → H' M = some (.lst [.int z0, .int z1, .int z2, .int z3]) →
      uc K A { nx := fun _ H' => Q .non H', rt := Q } [some (.ref f), some (.ref a), some (.int (c : Int)), some w, some m, some (kV mk), some (.ref W), some (.ref M), some x8, some x9, x10, none, none, none, none, none] H' := fun W M b0 b1 b2 b3 z0 z1 z2 z3 w m x8 x9 x10 e k g' H' n' hn' kb sub ask F hW hM => by
    refine ⟨l2, fun hd0 hh0 => ?_⟩
    have S1 := aq.upd (o := .tup [V.int (c : Int), kV mk]) hh0
    have eh0 : upd H' hd0 (.tup [V.int (c : Int), kV mk]) hd0 = some (.tup [V.int (c : Int), kV mk]) := ai
    generalize upd H' hd0 (.tup [V.int (c : Int), kV mk]) = H1 at *
    have from10 : ∀ (hd : Addr) (mo : Key) (H2 : Hp), aq H1 H2 → okP mo = true → H2 hd = some (.tup [.int (c : Int), kV mo]) →
        qU K A { nx := fun _ H' => Q .non H', rt := Q } [some (.ref f), some (.ref a), some (.int (c : Int)), some w, some m, some (kV mk), some (.ref W), some (.ref M), some x8, some x9, x10, some (.ref hd), none, none, none, none] H2 := fun hd mo H2 S2 okmo ehd => by
      have S := S1.trans S2
      refine ixT (j := 1) ehd rfl rfl (jh ?_)
      have htg : ∀ h, Ext g' h → mk = h (fz h c en (stR (bh c p) ks) ((stR (bh c p) ks).length + 1)) := fun h eh => ht h (Ext.of sub eh)
      have wd : aF H2 (.ref hd) (.tup [.int (c : Int), bB mo]) := .tup ehd (.cons (.int _) (.cons (bD mo) .nil))
      refine ixL (j := 0) (S _ _ hW) rfl rfl ?_
      cases b0 with
      | false => exact Sel.f (from12 W M false b1 b2 b3 _ w m (.ref hd) x8 x9 x10 _ _ _ e k _ g' H2 n' hn' (kb.trans (aO.same S)) sub (ask.same S) wd (im c2 okmo) (S _ _ hW) (rP ec c2 F okmo (fun z => nomatch z) (fun _ => rfl) htg))
      | true =>
        refine Sel.t (ixL (j := 0) (S _ _ hM) rfl rfl ⟨z0, c, mk, rfl, c2, fun v d H3 S3 wv nv => ?_⟩)
        have S4 := S.trans S3
        exact from12 W M true b1 b2 b3 _ w m v x8 x9 x10 _ _ _ e k d g' H3 n' hn' (kb.trans (aO.same S4)) sub (ask.same S4) wv nv (S4 _ _ hW) (rP (mo := mo) ec c2 F okmo (fun _ => nv) (fun z => nomatch z) htg)
    refine ixL (j := 3) (S1 _ _ hW) rfl rfl ?_
    cases b3 with
    | false => exact Sel.f (from10 hd0 mk H1 (.refl _) okm eh0)
    | true =>
      refine Sel.t (ixL (j := 3) (S1 _ _ hM) rfl rfl ⟨z3, mk, rfl, okm, szm, fun mo H2 S2 okmo => ⟨l2, fun hd1 hh1 => ?_⟩⟩)
      exact from10 hd1 mo _ (S2.trans (aq.upd hh1)) okmo ai
  have from6 : ∀ (W M : Addr) (b0 b1 b2 b3 : Bool) (z0 z1 z2 z3 : Int) (w m x8 : V) (e k d : Dat) (H' : Hp), aq H H' → aF H' w e → aF H' m k → ik k → aF H' x8 d → Flg c p en ks b1 b2 e k → (b0 = true → ∀ e, aD d e = false) → (b0 = false → d = .int (c : Int)) → H' W = some (.lst [.bl b0, .bl b1, .bl b2, .bl b3]) → H' M = some (.lst [.int z0, .int z1, .int z2, .int z3]) →
      uA K A { nx := fun _ H' => Q .non H', rt := Q } [some (.ref f), some (.ref a), some (.int (c : Int)), some w, some m, some (kV mk), some (.ref W), some (.ref M), some x8, none, none, none, none, none, none, none] H' := fun W M b0 b1 b2 b3 z0 z1 z2 z3 w m x8 e k d H' S we wm sh wd F h0 h0' hW hM => by
    have key : ∀ L, H' L = none → jC K A [.ref L] (upd H' L (.lst [.bl false, .bl (b0 || b1), .bl b2])) (fun v H1 => uh K A { nx := fun _ H' => Q .non H', rt := Q } [some (.ref f), some (.ref a), some (.int (c : Int)), some w, some m, some (kV mk), some (.ref W), some (.ref M), some x8, some v, none, none, none, none, none, none] H1) E0 := fun L hL => by
      refine ⟨L, [false, b0 || b1, b2], rfl, ai, (show 3 ≤ 100 by decide), ?_⟩
      have S1 := aq.upd (o := .lst [V.bl false, .bl (b0 || b1), .bl b2]) hL
      generalize upd H' L (.lst [.bl false, .bl (b0 || b1), .bl b2]) = H1 at *
      have SS := S.trans S1
      have s1 := s.same (Nat.le_refl n) SS
      have D0 := zL ec c2 F h0 h0'
      generalize dE [false, b0 || b1, b2] = o at D0
      refine ⟨2, rfl, by decide, by decide, ?_⟩
      refine gF (lo := 0) (n := 2) (fun i σ H2 => ∃ x10 g2, σ = [some (.ref f), some (.ref a), some (.int (c : Int)), some w, some m, some (kV mk), some (.ref W), some (.ref M), some x8, some (.int (qg o)), x10, none, none, none, none, none] ∧ aO b H1 H2 ∧ Stp A H2 f b g2 (n + 71 * i) ∧ Sub g g2) ⟨none, g, rfl, aO.rfl', s1, Sub.rfl'⟩ ?_ ?_
      · rintro i σ H2 hi ⟨x10, g2, rfl, kb2, s2, sub2⟩
        refine ⟨_, f, b, g2, n + 71 * i, x8, w, m, d, e, k, o, rfl, ⟨s2, by omega, aF.keepB kb2 s1.bb (we.mono S1), aF.keepB kb2 s1.bb (wm.mono S1), sh⟩, aF.keepB kb2 s1.bb (wd.mono S1), .inl ⟨by omega, D0⟩, fun u g3 H3 kb3 s3 sub3 cau => ⟨u, _, rfl, cau, fun H4 S4 => Sel.f ?_⟩⟩
        exact ⟨_, g3, rfl, kb2.trans (kb3.trans (aO.same S4)), s3.same (by omega) S4, sub2.trans sub3⟩
      · rintro σ H2 ⟨x10, g2, rfl, kb2, s2, sub2⟩
        refine from8 W M b0 b1 b2 b3 z0 z1 z2 z3 w m x8 _ x10 e k g2 H2 (n + 71 * 2) (by omega) ((aO.same SS).trans kb2) sub2 ⟨s2, by omega, ?_, ?_, sh⟩ F (kb2.obj s1.bb (S1 _ _ hW) (fun _ z => nomatch z)) (kb2.obj s1.bb (S1 _ _ hM) (fun _ z => nomatch z))
        · exact aF.keepB kb2 s1.bb (we.mono S1)
        · exact aF.keepB kb2 s1.bb (wm.mono S1)
    refine ixL (j := 0) hW rfl rfl (Sel.mk (fun hb => ?_) (fun hb => ixL (j := 1) hW rfl rfl ?_))
    · refine ixL (j := 2) hW rfl rfl ⟨ay (show 3 ≤ 1000000 by decide), fun L hL => ?_⟩
      have e1 : (b0 || b1) = true := by rw [hb]; rfl
      rw [e1] at key
      exact key L hL
    · refine ixL (j := 2) hW rfl rfl ⟨ay (show 3 ≤ 1000000 by decide), fun L hL => ?_⟩
      have e1 : (b0 || b1) = b1 := by rw [hb]; rfl
      rw [e1] at key
      exact key L hL
  refine ⟨4, 8, rfl, ⟨by decide, by decide, by decide, by decide⟩, fun W hW => dQ (cS.range (lo := 4) (n := 4)) (fun i ys H' => H' = upd H W (.lst ys) ∧ ∃ bs : List Bool, ys = bs.map V.bl ∧ bs.length = i) (fun _ _ _ _ _ => trivial) ⟨rfl, [], rfl, rfl⟩ ?_ ?_⟩
  · rintro i ys H' hi ⟨rfl, bs, rfl, bl⟩
    refine gH ⟨a, ns, _, rfl, (aq.upd hW).seq hs, by omega, fun z => ⟨by decide, ?_⟩⟩
    exact ⟨ai, by rw [List.length_map, bl]; exact bx (by omega), CWd.next hi ⟨by rw [cU], bs ++ [decide (z % 3 = 0)], by rw [List.map_append]; rfl, by rw [List.length_append, bl]; rfl⟩⟩
  rintro ys H' ⟨rfl, bs, rfl, bl⟩
  have S1 := aq.upd (o := .lst (bs.map V.bl)) hW
  have eW : upd H W (.lst (bs.map V.bl)) W = some (.lst (bs.map V.bl)) := ai
  generalize upd H W (.lst (bs.map V.bl)) = H1 at *
  refine ⟨4, 8, rfl, ⟨by decide, by decide, by decide, by decide⟩, fun M hM => dQ (cS.range (lo := 4) (n := 4)) (fun i ys H' => H' = upd H1 M (.lst ys) ∧ ∃ zs : List Int, ys = zs.map V.int ∧ zs.length = i) (fun _ _ _ _ _ => trivial) ⟨rfl, [], rfl, rfl⟩ ?_ ?_⟩
  · rintro i ys H' hi ⟨rfl, zs, rfl, zl⟩
    refine gH ⟨a, ns, _, rfl, (S1.trans (aq.upd hM)).seq hs, by omega, fun z => ⟨⟨by decide, by decide⟩, ?_⟩⟩
    exact ⟨ai, by rw [List.length_map, zl]; exact bx (by omega), CWd.next hi ⟨by rw [cU], zs ++ [z / 3], by rw [List.map_append]; rfl, by rw [List.length_append, zl]; rfl⟩⟩
  rintro ys H' ⟨rfl, zs, rfl, zl⟩
  have S2 := aq.upd (o := .lst (zs.map V.int)) hM
  have eM : upd H1 M (.lst (zs.map V.int)) M = some (.lst (zs.map V.int)) := ai
  generalize upd H1 M (.lst (zs.map V.int)) = H2 at *
  have eW := S2 _ _ eW
  have S := S1.trans S2
  obtain ⟨b0, b1, b2, b3, rfl⟩ : ∃ b0 b1 b2 b3, bs = [b0, b1, b2, b3] := by
    match bs, bl with
    | [b0, b1, b2, b3], _ => exact ⟨_, _, _, _, rfl⟩
  obtain ⟨z0, z1, z2, z3, rfl⟩ : ∃ z0 z1 z2 z3, zs = [z0, z1, z2, z3] := by
    match zs, zl with
    | [z0, z1, z2, z3], _ => exact ⟨_, _, _, _, rfl⟩
  have l60 : ks.length ≤ 60 := by omega
  have shk : ik (.tup [bB en, .tup (ks.map bB)]) := by show (ks.map bB).length ≤ 500; rw [List.length_map]; omega
  have M0 : ef (.tup [bB en, .tup (ks.map bB)]) (bh c p).length en ks := ⟨rfl, kl, ke, ee⟩
  have from5 : ∀ (w x8 : V) (e d : Dat) (H' : Hp), aq H2 H' → aF H' w e → aF H' x8 d → (b1 = false → e = .int (p : Int)) → (b1 = true → aD (.int (c : Int)) e = false) → (b0 = true → ∀ e, aD d e = false) → (b0 = false → d = .int (c : Int)) →
      uj K A { nx := fun _ H' => Q .non H', rt := Q } [some (.ref f), some (.ref a), some (.int (c : Int)), some w, some (.ref P), some (kV mk), some (.ref W), some (.ref M), some x8, none, none, none, none, none, none, none] H' := fun w x8 e d H' S' we wd he he' h0 h0' => by
    refine ixL (j := 2) (S' _ _ eW) rfl rfl ?_
    have hP' := pw.same (S.trans S')
    cases b2 with
    | false => exact Sel.f (from6 W M b0 b1 false b3 z0 z1 z2 z3 w (.ref P) x8 e _ d H' (S.trans S') we (ef.of hP') shk wd ⟨he, he', fun _ => M0, fun z => (nomatch z)⟩ h0 h0' (S' _ _ eW) (S' _ _ eM))
    | true =>
      refine Sel.t (ixL (j := 2) (S' _ _ eM) rfl rfl ⟨z2, P, TT, en, ks, rfl, hP', l60, fun v k H3 S3 wv nk shv => ?_⟩)
      exact from6 W M b0 b1 true b3 z0 z1 z2 z3 w v x8 e k d H3 ((S.trans S').trans S3) (we.mono S3) wv shv (wd.mono S3) ⟨he, he', fun z => (nomatch z), fun _ => by rw [← kl]; exact nk⟩ h0 h0' (S3 _ _ (S' _ _ eW)) (S3 _ _ (S' _ _ eM))
  have from4 : ∀ (x8 : V) (d : Dat) (H' : Hp), aq H2 H' → aF H' x8 d → (b0 = true → ∀ e, aD d e = false) → (b0 = false → d = .int (c : Int)) →
      uW K A { nx := fun _ H' => Q .non H', rt := Q } [some (.ref f), some (.ref a), some (.int (c : Int)), some (.int (p : Int)), some (.ref P), some (kV mk), some (.ref W), some (.ref M), some x8, none, none, none, none, none, none, none] H' := fun x8 d H' S' wd h0 h0' => by
    refine ixL (j := 1) (S' _ _ eW) rfl rfl ?_
    by_cases h : b1 = true
    · refine Sel.yes h (ixL (j := 1) (S' _ _ eM) rfl rfl ⟨z1, c, rfl, c1, c2, fun v e H3 S3 wv ne => ?_⟩)
      exact from5 v x8 e d H3 (S'.trans S3) wv (wd.mono S3) (fun z => by rw [h] at z; cases z) (fun _ => ne) h0 h0'
    · exact Sel.no (by simpa using h) (from5 _ x8 _ d H' S' (.int _) wd (fun _ => rfl) (fun z => absurd z h) h0 h0')
  refine ixL (j := 0) eW rfl rfl ?_
  by_cases h : b0 = true
  · refine Sel.yes h (ixL (j := 0) eM rfl rfl ⟨z0, c, rfl, c2, fun v d H3 S3 wv nd => ?_⟩)
    exact from4 v d H3 S3 wv (fun _ => nd) (fun z => by rw [h] at z; cases z)
  · exact Sel.no (by simpa using h) (from4 _ _ H2 (.refl _) (.int _) (fun z => absurd z h) (fun _ => rfl))
theorem Cj (K:W.Frag) (A:Adr):Ln (oN K A) 1:=by rintro vs H Q E ⟨v,d,rfl,_⟩;rfl
theorem FR (T : Txt K mg A) : Rd (oN K A) (IC K A) ["_law_found"] := by
  intro vs H Q E h
  obtain ⟨v, d, rfl, w, q⟩ := h
  cases w with
  | int i e e' => subst e e'; exact ⟨by decide, _, rfl, Sel.t ⟨by decide, _, rfl, q⟩⟩
  | oth t h ht h' =>
    rw [h'] at q
    refine ⟨by decide, t, h, ?_⟩
    rcases ht with e | e
    · exact Sel.no e q
    · refine Sel.mk (fun _ => ⟨by decide, t, h, ?_⟩) (fun _ => q)
      show Q (.bl (!isI t "bool")) H
      rw [e]; exact q
theorem BG (K:W.Frag) (A:Adr):Ln (iu K A) 2:=by rintro vs H Q E ⟨v,d,m,rfl,_⟩;rfl
theorem Eo (T : Txt K mg A) : Rd (iu K A) (IX K A) ["_law_thing", "_law_many"] := by
  intro vs H Q E h
  obtain ⟨v, d, m, rfl, w, q⟩ := h
  refine ⟨_, d, rfl, w, ?_⟩
  cases w with
  | int i e e' =>
    subst e e'
    refine Sel.yes rfl (Sel.dec (fun h0 => ?_) (fun h0 => ?_))
    · show Q (.bl (decide (i < m))) H
      have e : df m (.int i) = decide (i < m) := by
        show decide (0 ≤ i ∧ i < m) = decide (i < m)
        by_cases h1 : i < m
        · rw [decide_eq_true ⟨h0, h1⟩, decide_eq_true h1]
        · rw [decide_eq_false fun z => h1 z.2, decide_eq_false h1]
      rw [← e]; exact q
    · have e : df m (.int i) = false := decide_eq_false fun z => h0 z.1
      rw [← e]; exact q
  | oth t h ht h' =>
    refine Sel.no h' ?_
    have e : df m d = false := by cases d <;> first | rfl | cases h'
    rw [e] at q; exact q
theorem Kin.of {H H':Hp} {v:V} {d:Dat} (w:aF H v d) (ht:tyN H' v=some (tyD d)):Kin H' v d:=by
 cases w with
 | int i=>exact .int i rfl rfl
 | non=>exact .oth _ ht (.inl rfl) rfl
 | bl b=>exact .oth _ ht (.inr rfl) rfl
 | str z=>exact .oth _ ht (.inl rfl) rfl
 | lst e r=>exact .oth _ ht (.inl rfl) rfl
 | tup e r=>exact .oth _ ht (.inl rfl) rfl
 | dic e=>exact .oth _ ht (.inl rfl) rfl
theorem rD {H H' : Hp} {v : V} {d : Dat} {x f L D b : Addr} {es es' : List Key} {kvs kvs' : List (List Key × Key)} {g g' : List Key → Option Key} {n n' : Nat} (w : aF H v d) (r : ci A H x f L D b es kvs g n) (r' : ci A H' x f L D b es' kvs' g' n') (k : gB b D L H H') : tyN H' v = some (tyD d) := by
  have kp : ∀ z o, H z = some o → (∀ φ, o ≠ .ext φ) → (∀ kvs, o ≠ .dT kvs) → z ≠ L → H' z = some o := fun z o e h1 h2 n3 => k z o (r.s.nb e h1 h2) (bG e r.r.hd (h2 _)) n3 e
  cases w with
  | int i => rfl
  | non => rfl
  | bl b => rfl
  | str z => rfl
  | @lst a xs ds e r0 =>
    by_cases h : a = L
    · subst h; unfold tyN; dsimp only; rw [r'.r.hl]; rfl
    · unfold tyN; dsimp only; rw [kp _ _ e (fun _ z => nomatch z) (fun _ z => nomatch z) h]; rfl
  | @tup a xs ds e r0 =>
    unfold tyN; dsimp only; rw [kp _ _ e (fun _ z => nomatch z) (fun _ z => nomatch z) (bG e r.r.hl (fun z => nomatch z))]; rfl
  | @dic a e =>
    obtain ⟨kk, e⟩ := e
    unfold tyN; dsimp only; rw [kp _ _ e (fun _ z => nomatch z) (fun _ z => nomatch z) (bG e r.r.hl (fun z => nomatch z))]; rfl
theorem pf {d:Dat} (h:lD d):df (10^(60:Int).toNat) d=aK d:=by
 cases d with
 | int i=>rfl
 | str z=>exact absurd rfl (h z)
 | _=>rfl
theorem iU {n : Nat} (h : n < 2 ^ 60) {d : Dat} : df (n : Int) d = aD (.int (n : Int)) d := by
  cases d with
  | int i =>
    show decide (0 ≤ i ∧ i < (n : Int)) = _
    by_cases h' : 0 ≤ i ∧ i < (n : Int)
    · rw [decide_eq_true h', iZ h'.1 h'.2 (by omega)]
    · rw [decide_eq_false h', gN (by omega)]
  | _ => exact (dH rfl).symm
theorem fZ {n:Nat} (h:n<2^60) {j:Int} {e:Dat}:(aD (.int j) e&&leD (n:Int) (.int j))=(df ((n:Int)+1) (.int j)&&df j e):=by
 show (aD (.int j) e&&decide (j≤(n:Int)))=(decide (0≤j∧j<(n:Int)+1)&&df j e)
 by_cases h':0≤j∧j≤(n:Int)
 · rw [decide_eq_true h'.2,decide_eq_true (show 0≤j∧j<(n:Int)+1 by omega),Bool.and_true,Bool.true_and]
   obtain ⟨m,rfl⟩:=Int.eq_ofNat_of_zero_le h'.1
   exact (iU (by omega)).symm
 · rw [decide_eq_false (show ¬ (0≤j∧j<(n:Int)+1) by omega),Bool.false_and]
   by_cases h2:j≤(n:Int)
   · rw [cM (fU (.inl (by omega)))];rfl
   · rw [decide_eq_false h2,Bool.and_false]
theorem xy {n:Int} {d e:Dat} (h:fo d=false):(aD d e&&leD n d)=false:=by
 rw [cM (by cases d <;> first | rfl | cases h)];rfl
def Scr (K:W.Frag) (a:Addr) (xs:List V) (bad:List Addr) (H:Hp):Prop:=(∀ H',SqL K H' a xs)∨∃ o,a∉bad∧H a=some o∧∀ H',H' a=some o→SqL K H' a xs
theorem Scr.sq {a:Addr} {xs:List V} {bad:List Addr} {H:Hp} (s:Scr K a xs bad H):SqL K H a xs:=s.elim (fun h=>h H) fun ⟨o,_,h,k⟩=>k H h
theorem Scr.step {a:Addr} {xs:List V} {bad:List Addr} {H H':Hp} (s:Scr K a xs bad H) (k:∀ z o,z∉bad→H z=some o→H' z=some o):Scr K a xs bad H':=s.elim .inl fun ⟨o,n,h,q⟩=> .inr ⟨o,n,k _ _ n h,q⟩
theorem Scr.of {a:Addr} {xs:List V} {bad:List Addr} {H:Hp} (h:SqL K H a xs) (hb:∀ z∈bad,∀ o,H z=some o→(∃ φ,o=.ext φ)∨∃ kvs,o=.dT kvs):Scr K a xs bad H:=by
 rcases h with (h | ⟨o,h⟩) | h
 · refine .inr ⟨_,fun m=>?_,h,fun H' h'=> .inl (.inl h')⟩
   rcases hb a m _ h with ⟨_,z⟩ | ⟨_,z⟩ <;> cases z
 · refine .inr ⟨_,fun m=>?_,h,fun H' h'=> .inl (.inr ⟨o,h'⟩)⟩
   rcases hb a m _ h with ⟨_,z⟩ | ⟨_,z⟩ <;> cases z
 · exact .inl fun H'=> .inr h
def pyK:Key→PyData
 | .inl i=> .int i
 | .inr z=> .str z
theorem fR {K:W.Frag} {H:Hp}:∀ ks:List Key,DatVs K H (ks.map kV) (ks.map pyK)
 | []=> .nil
 | .inl i::r=> .cons (.int i) (fR r)
 | .inr z::r=> .cons (.str z) (fR r)
theorem pF : ∀ {ks : List Key}, (∀ k ∈ ks, okP k = true) → PyData.canLayAll0 (ks.map pyK) = true ∧ PyData.depthAll (ks.map pyK) ≤ 1
  | [], _ => ⟨rfl, by simp [PyData.depthAll]⟩
  | k :: r, h => by
    obtain ⟨h1, h2⟩ := pF fun x hx => h x (List.mem_cons_of_mem _ hx)
    have hk : (pyK k).canLay0 = true ∧ (pyK k).depth ≤ 1 := by
      cases k with
      | inl i => exact ⟨rfl, by simp [pyK, PyData.depth]⟩
      | inr z => exact ⟨CU (Bool.and_eq_true_iff.mp (h _ List.mem_cons_self)).1, by simp [pyK, PyData.depth]⟩
    refine ⟨?_, ?_⟩
    · show ((pyK k).canLay0 && PyData.canLayAll0 (r.map pyK)) = true
      rw [hk.1, h1]; rfl
    · rw [List.map_cons, PyData.depthAll]; exact Nat.max_le.mpr ⟨hk.2, h2⟩
theorem kJ : ∀ ks : List Key, PyData.eqvAll (ks.map pyK) (ks.map pyK) = true
  | [] => rfl
  | .inl i :: r => by
    show (PyData.eqv (.int i) (.int i) && PyData.eqvAll (r.map pyK) (r.map pyK)) = true
    rw [kJ r]; simp [PyData.eqv]
  | .inr z :: r => by
    show (PyData.eqv (.str z) (.str z) && PyData.eqvAll (r.map pyK) (r.map pyK)) = true
    rw [kJ r]; simp [PyData.eqv]
theorem ua {H:Hp} {Q:VK} {p r:Addr} {ks:List Key} (hp:H p=some (.lst (ks.map kV))) (hr:H r=some (.lst (ks.map kV))) (ok:∀ k∈ks,okP k=true) (q:Q (.bl true) H):bH K (.ref p) (.ref r) H Q:=by
 obtain ⟨h1,h2⟩:=pF ok
 refine .inr (.inl ⟨_,_,.lst (SqL.of hp) (fR ks),.lst (SqL.of hr) (fR ks),h1,h1,?_,?_⟩)
 · show PyData.depthAll (ks.map pyK)+1≤150
   omega
 · have e:(PyData.list (ks.map pyK)).eqv (PyData.list (ks.map pyK))=true:=kJ ks
   rw [e];exact q
theorem AY (K:W.Frag) (A:Adr):Ln (oY K A) 2:=by rintro vs H Q E ⟨f,b,a,ns,g,n,rfl,_⟩;rfl
theorem EX (T : Txt K mg A) : Rd (oY K A) (Hx K A) ["_law_stamper_here", "_law_script", "_law_row", "_law_entries", "_law_k", "_law_cell", "_law_one", "_law_other_here", "_law_caught_here", "_law_due"] := by
  intro vs H Q E h
  obtain ⟨f, b, a, ns, g, n, rfl, s, hn, hs, l63, q⟩ := h
  intro x dx hx hdx ne
  refine ⟨x, dx, f, rfl, ai, fun L D H1 k1 hL hD nLD e1 e2 e3 => ⟨rfl, ?_⟩⟩
  have S1 : aq H H1 := fun z o e => by
    have n1 : z ≠ x := aw e hx
    have n2 : z ≠ dx := aw e hdx
    exact k1 z o n1 (by rw [ao n1, ao n2]; exact e)
  obtain ⟨_, hL0⟩ := cr hL
  obtain ⟨_, hL0⟩ := cr hL0
  obtain ⟨_, hD0⟩ := cr hD
  obtain ⟨_, hD0⟩ := cr hD0
  have r1 : ci A H1 x f L D b [] [] g n := ⟨⟨⟨dx, e1⟩, e2, e3, fun _ h => (nomatch h), Nat.zero_le _⟩, s.same (Nat.le_refl _) S1, fun k v h => (nomatch h), Ne.symm (HY s.bb hD0), Nat.zero_le _⟩
  refine ⟨Nat.zero_le _, fun Ea hEa => ?_⟩
  have hEa0 : H Ea = none := S1.free hEa
  have nLE : L ≠ Ea := aw e2 hEa
  have S2 := aq.upd (o := .lst []) hEa
  have eE : upd H1 Ea (.lst []) Ea = some (.lst (([] : List Key).map kV)) := ai
  generalize upd H1 Ea (.lst []) = H2 at *
  have r2 := r1.same S2 (Nat.le_refl _)
  have sc0 : Scr K a (ns.map V.int) [L, D, b, Ea] H := Scr.of hs fun z hz o e => by
    rcases List.mem_cons.mp hz with rfl | hz
    · rw [hL0] at e; cases e
    rcases List.mem_cons.mp hz with rfl | hz
    · rw [hD0] at e; cases e
    rcases List.mem_cons.mp hz with rfl | hz
    · rcases s.bb with ⟨φ, h⟩ | ⟨kvs, h⟩
      · rw [h] at e; cases e; exact .inl ⟨_, rfl⟩
      · rw [h] at e; cases e; exact .inr ⟨_, rfl⟩
    rw [List.mem_singleton.mp hz, hEa0] at e; cases e
  have scS : ∀ {H' H'' : Hp}, Scr K a (ns.map V.int) [L, D, b, Ea] H' → aq H' H'' → Scr K a (ns.map V.int) [L, D, b, Ea] H'' := fun c S => c.step fun z o _ e => S z o e
  have sc3k : ∀ {H' H'' : Hp}, Scr K a (ns.map V.int) [L, D, b, Ea] H' → gB b D L H' H'' → Scr K a (ns.map V.int) [L, D, b, Ea] H'' := fun c k => c.step fun z o n e => k z o (fun h => n (by simp [h])) (fun h => n (by simp [h])) (fun h => n (by simp [h])) e
  have scL : ∀ {H' : Hp} {o : HO}, Scr K a (ns.map V.int) [L, D, b, Ea] H' → Scr K a (ns.map V.int) [L, D, b, Ea] (upd H' L o) := fun c => c.step fun z o n e => by rw [ao (fun h => n (by simp [h]))]; exact e
  have scE : ∀ {H' : Hp} {o : HO}, Scr K a (ns.map V.int) [L, D, b, Ea] H' → Scr K a (ns.map V.int) [L, D, b, Ea] (upd H' Ea o) := fun c => c.step fun z o n e => by rw [ao (fun h => n (by simp [h]))]; exact e
  have sc2 := scS sc0 (S1.trans S2)
  refine ⟨a, ns, 3, rfl, sc2.sq, by decide, fun z => ⟨by decide, ?_⟩⟩
  have z0 := Int.emod_nonneg z (show (9 : Int) ≠ 0 by decide)
  have z9 := Int.emod_lt_of_pos z (show (0 : Int) < 9 by decide)
  obtain ⟨sz, hsz⟩ := Int.eq_ofNat_of_zero_le z0
  refine ⟨8, 8 + z % 9, rfl, ⟨by decide, by decide, by omega, by omega⟩, ?_⟩
  rw [hsz] at z9 ⊢
  rw [show (8 + (sz : Int) - 8).toNat = sz by omega]
  refine gF (lo := 8) (n := sz) (fun i σ H7 => ∃ (es : List Key) (x4 : Option V), σ = [some (.ref f), some (.ref a), some (.ref x), some (.ref Ea), x4, none, none, none, none, none] ∧ ci A H7 x f L D b es [] g n ∧ H7 Ea = some (.lst (es.map kV)) ∧ es.length = i ∧ Scr K a (ns.map V.int) [L, D, b, Ea] H7) ⟨[], none, rfl, r2, eE, rfl, sc2⟩ ?_ ?_
  · rintro i σ H' hi ⟨es, x4, rfl, r, hE, el, sc⟩
    refine ⟨.inl ⟨rfl, _, SqL.of hE⟩, a, ns, _, rfl, sc.sq, by omega, fun zc => ⟨_, rfl, fun e H3 S3 en => ⟨Ea, _, kV e, rfl, rfl, S3 _ _ hE, by rw [List.length_map]; exact bx (by omega), ?_⟩⟩⟩
    have r3 := (r.same S3 (Nat.le_refl _)).setM (ys := es.map kV ++ [kV e]) (S3 _ _ hE) nLE
    have sc3 := scE (o := .lst (es.map kV ++ [kV e])) (scS sc S3)
    have eE3 : upd H3 Ea (.lst (es.map kV ++ [kV e])) Ea = some (.lst (es.map kV ++ [kV e])) := ai
    generalize upd H3 Ea (.lst (es.map kV ++ [kV e])) = H4 at *
    obtain ⟨dx', hx'⟩ := r3.r.ob
    refine ⟨x, dx', _, rfl, hx', rfl, jW eE3 ?_⟩
    refine ⟨x, f, L, D, es, [], kV e, bB e, rfl, r3.r, by omega, bD e, .inr ⟨e, rfl, en, ?_⟩⟩
    exact ⟨es ++ [e], _, rfl, pG r3 en (by omega), by rw [ao (Ne.symm nLE), eE3, List.map_append]; rfl, by rw [List.length_append, el]; rfl, scL sc3⟩
  rintro σ H' ⟨es, x4, rfl, r, hE, el, sc⟩
  refine .inl (.inl ⟨_, sc.sq, ?_⟩)
  rw [List.length_map]
  obtain ⟨nn, hnn, n12⟩ : ∃ nn : Nat, (if (12 : Int) < (ns.length : Int) then (12 : Int) else (ns.length : Int)) = (nn : Int) ∧ nn ≤ 12 := ⟨min 12 ns.length, by split <;> omega, by omega⟩
  refine ⟨17, 17 + (if (12 : Int) < (ns.length : Int) then (12 : Int) else (ns.length : Int)), rfl, ⟨by decide, by decide, by rw [hnn]; omega, by rw [hnn]; omega⟩, ?_⟩
  rw [hnn, show (17 + (nn : Int) - 17).toNat = nn by omega]
  refine gF (lo := 17) (n := nn) (fun i σ H7 => ∃ (es : List Key) (kvs : List (List Key × Key)) (g' : List Key → Option Key) (x4 x5 x6 x7 x8 x9 : Option V), σ = [some (.ref f), some (.ref a), some (.ref x), some (.ref Ea), x4, x5, x6, x7, x8, x9] ∧ ci A H7 x f L D b es kvs g' (n + 200 * i) ∧ H7 Ea = some (.lst (es.map kV)) ∧ es.length ≤ 9 + i ∧ Scr K a (ns.map V.int) [L, D, b, Ea] H7) ⟨es, [], g, _, none, none, none, none, none, rfl, r, hE, by omega, sc⟩ ?_ ?_
  · rintro i σ H3 hi ⟨es, kvs, g3, x4, x5, x6, x7, x8, x9, rfl, r3, hE3, el3, sc3⟩
    refine ⟨a, ns, _, rfl, sc3.sq, by omega, fun zc => ⟨a, ns, _, rfl, sc3.sq, by omega, fun za => .inl (.inl ⟨_, SqL.of hE3, ?_⟩)⟩⟩
    rw [List.length_map]
    refine ⟨za, es.length, rfl, by omega, fun v1 d1 H4 S4 w1 ns1 => ?_⟩
    refine ⟨a, ns, _, rfl, (scS sc3 S4).sq, by omega, fun zb => ⟨⟨by decide, by decide⟩, .inl (.inl ⟨_, SqL.of (S4 _ _ hE3), ?_⟩)⟩⟩
    rw [List.length_map]
    refine ⟨zb / 3, es.length, rfl, by omega, fun v2 d2 H5 S5 w2 ns2 => ?_⟩
    have S35 := S4.trans S5
    have w1 := w1.mono S5
    have m0 := Int.emod_nonneg zc (show (3 : Int) ≠ 0 by decide)
    have m3 := Int.emod_lt_of_pos zc (show (0 : Int) < 3 by decide)
    have r5 := r3.same S35 (Nat.le_refl _)
    have sc5 := scS sc3 S35
    have hE5 := S35 _ _ hE3
    refine ⟨by decide, zc % 3, x, f, L, D, b, es, kvs, g3, _, v1, v2, d1, d2, rfl, r5, by omega, by omega, w1, w2, ns1, fun u kvs' g' H6 k6 r6 s6 cau => ?_⟩
    obtain ⟨nb, nD⟩ := r5.n2 hE5 (fun _ z => nomatch z) (fun _ z => nomatch z)
    have hE6 := k6 _ _ nb nD (Ne.symm nLE) hE5
    have sc6 := sc3k sc5 k6
    have t1 := rD w1 r5 r6 k6
    have K1 := Kin.of w1 t1
    have K2 := Kin.of w2 (rD w2 r5 r6 k6)
    have tail : ∀ (DD : dU) (dv : Int), dv = qg (dn es (zc % 3) d1 d2) → (∀ σ H7, (∃ (es : List Key) (kvs : List (List Key × Key)) (g' : List Key → Option Key) (x4 x5 x6 x7 x8 x9 : Option V), σ = [some (.ref f), some (.ref a), some (.ref x), some (.ref Ea), x4, x5, x6, x7, x8, x9] ∧ ci A H7 x f L D b es kvs g' (n + 200 * (i + 1)) ∧ H7 Ea = some (.lst (es.map kV)) ∧ es.length ≤ 9 + (i + 1) ∧ Scr K a (ns.map V.int) [L, D, b, Ea] H7) → DD.nx σ H7) →
        ax (aV (cI (bM K (av (gA K A) (fun _ => E0) (ae (af 8) (ae (af 9) (aj)))))) (aG (tC (.bl false))) (aT)) (aV (jz (aZ (tOp (bH K) (tOp (bo) (af 5) (tC (.int 3))) (tC (.int 0)))) (aZ (tOp (mLt) (af 9) (tC (.int 0))))) (cx (tBM K "list" cV (af 3) (ae (af 6) (aj)))) (aT)) DD
          [some (.ref f), some (.ref a), some (.ref x), some (.ref Ea), some (.int (17 + (i : Int))), some (.int zc), some v1, some v2, some u, some (.int dv)] H6 := fun DD dv edv nx => by
      subst edv
      refine ⟨u, _, rfl, cau, fun H7 S7 => Sel.f ?_⟩
      have r7 := r6.same S7 (Nat.le_refl _)
      have hE7 := S7 _ _ hE6
      have sc7 := scS sc6 S7
      have keepE : iL es (zc % 3) d1 = es → DD.nx [some (.ref f), some (.ref a), some (.ref x), some (.ref Ea), some (.int (17 + (i : Int))), some (.int zc), some v1, some v2, some u, some (.int (qg (dn es (zc % 3) d1 d2)))] H7 := fun eg =>
        nx _ _ ⟨es, kvs', g', _, _, _, _, _, _, rfl, by rw [eg] at r7; exact r7.same (aq.refl _) (by omega), hE7, by omega, sc7⟩
      refine ⟨by decide, Sel.dec (fun h0 => ?_) (fun h0 => Sel.f (keepE (rN h0)))⟩
      have h0 : zc % 3 = 0 := h0
      cases hS : aK d1 with
      | false =>
        refine Sel.no ?_ (keepE (rH hS))
        unfold dn; rw [if_pos h0, hS]; rfl
      | true =>
        obtain ⟨j, rfl, hj⟩ := nq hS ns1
        cases w1.int_inv
        have eg : iL es (zc % 3) (.int j) = es ++ [.inl j] := by
          show (if zc % 3 = 0 ∧ 0 ≤ j ∧ j < 10 ^ 60 then _ else _) = _
          rw [if_pos ⟨h0, hj⟩]
        rw [eg] at r7
        refine Sel.yes ?_ ⟨.inl ⟨rfl, _, SqL.of hE7⟩, Ea, _, _, rfl, rfl, hE7, by rw [List.length_map]; exact bx (by omega), nx _ _ ⟨es ++ [.inl j], kvs', g', _, _, _, _, _, _, rfl, (r7.setM hE7 nLE).same (aq.refl _) (by omega), by rw [ai, List.map_append]; rfl, by rw [List.length_append]; show es.length + 1 ≤ _; omega, scE sc7⟩⟩
        unfold dn; rw [if_pos h0, hS]; rfl
    have h3 : zc % 3 = 0 ∨ zc % 3 = 1 ∨ zc % 3 = 2 := by omega
    rcases h3 with h0 | h1 | h2
    · have nos : (!isI (tyD d1) "str") = true := by
        cases d1 with
        | str z => exact absurd rfl (ns1 z)
        | _ => rfl
      refine ⟨by decide, Sel.yes (decide_eq_true h0) ⟨by decide, _, t1, Sel.yes nos ⟨⟨by decide, by decide, by decide⟩, v1, d1, _, rfl, K1, ?_⟩⟩⟩
      rw [pf ns1]
      cases hS : aK d1 with
      | true =>
        refine Sel.no rfl ⟨by decide, Sel.no (decide_eq_false (by omega)) (Sel.f ⟨by decide, Sel.no (decide_eq_false (by omega)) (Sel.f (tail _ _ ?_ fun _ _ h => h))⟩)⟩
        unfold dn; rw [if_pos h0, hS]; rfl
      | false =>
        refine Sel.yes rfl ⟨by decide, Sel.no (decide_eq_false (by omega)) (Sel.f ⟨by decide, Sel.no (decide_eq_false (by omega)) (Sel.f (tail _ _ ?_ fun _ _ h => h))⟩)⟩
        unfold dn; rw [if_pos h0, hS]; rfl
    · have nz : ¬ zc % 3 = 0 := by omega
      refine ⟨by decide, Sel.no (decide_eq_false nz) (Sel.f ⟨by decide, Sel.yes (decide_eq_true h1) (.inl (.inl ⟨_, SqL.of hE6, ?_⟩))⟩)⟩
      rw [List.length_map]
      refine ⟨v1, d1, _, rfl, K1, ?_⟩
      rw [iU (by omega)]
      cases hP : aD (.int (es.length : Int)) d1 with
      | true =>
        refine Sel.no rfl ⟨by decide, Sel.no (decide_eq_false (by omega)) (Sel.f (tail _ _ ?_ fun _ _ h => h))⟩
        unfold dn; rw [if_neg nz, if_pos h1, hP]; rfl
      | false =>
        refine Sel.yes rfl ⟨by decide, Sel.no (decide_eq_false (by omega)) (Sel.f (tail _ _ ?_ fun _ _ h => h))⟩
        unfold dn; rw [if_neg nz, if_pos h1, hP]; rfl
    · have nz : ¬ zc % 3 = 0 := by omega
      have n1 : ¬ zc % 3 = 1 := by omega
      refine ⟨by decide, Sel.no (decide_eq_false nz) (Sel.f ⟨by decide, Sel.no (decide_eq_false n1) (Sel.f ⟨by decide, Sel.yes (decide_eq_true h2) (.inl (.inl ⟨_, SqL.of hE6, ?_⟩))⟩)⟩)⟩
      rw [List.length_map]
      refine ⟨v1, d1, _, rfl, K1, ?_⟩
      cases hW : df ((es.length : Int) + 1) d1 with
      | false =>
        refine Sel.yes rfl (Sel.t (tail _ _ ?_ fun _ _ h => h))
        unfold dn; rw [if_neg nz, if_neg n1]
        have : (aD d1 d2 && leD (es.length : Int) d1) = false := by
          cases d1 with
          | int j => rw [fZ (by omega), hW]; rfl
          | _ => exact xy rfl
        rw [this]; rfl
      | true =>
        cases d1 with
        | int j =>
          cases w1.int_inv
          refine Sel.no rfl ⟨v2, d2, j, rfl, K2, ?_⟩
          cases hV : df j d2 with
          | true =>
            refine Sel.no rfl (tail _ _ ?_ fun _ _ h => h)
            unfold dn; rw [if_neg nz, if_neg n1, fZ (by omega), hW, hV]; rfl
          | false =>
            refine Sel.yes rfl (tail _ _ ?_ fun _ _ h => h)
            unfold dn; rw [if_neg nz, if_neg n1, fZ (by omega), hW, hV]; rfl
        | non => cases hW
        | bl b => cases hW
        | str z => cases hW
        | lst e => cases hW
        | tup e => cases hW
        | dic => cases hW
  · rintro σ H3 ⟨es, kvs, g3, x4, x5, x6, x7, x8, x9, rfl, r3, hE3, el3, sc3⟩
    obtain ⟨dx3, hx3⟩ := r3.r.ob
    refine ⟨x, dx3, _, rfl, hx3, rfl, x, f, L, D, es, kvs, rfl, r3.r, .inl (.inl ⟨_, SqL.of hE3, ?_⟩)⟩
    refine Sel.yes (decide_eq_true (by rw [List.length_map])) ?_
    refine .inl (.inl ⟨_, SqL.of hE3, ?_⟩)
    rw [List.length_map]
    refine ⟨(es.length : Int), rfl, by omega, by omega, ?_⟩
    rw [Int.toNat_natCast]
    intro D0 hD0'
    refine dQ (cS.range (lo := 0) (n := es.length)) (fun j ys H7 => H7 = upd H3 D0 (.lst ys) ∧ ys = (es.take j).map kV) (fun _ _ _ _ _ => trivial) ⟨rfl, rfl⟩ ?_ ?_
    · rintro j ys H7 hj ⟨rfl, rfl⟩
      have r7 := r3.r.same (aq.upd (o := .lst ((es.take j).map kV)) hD0')
      have hyl : ((es.take j).map kV).length = j := by rw [List.length_map, List.length_take]; omega
      refine gH ⟨x, dx3, _, rfl, aq.upd hD0' _ _ hx3, rfl, x, f, L, D, es, kvs, _, .int (0 + (j : Int)), rfl, r7, .int _, fun hF => ?_, fun p e ep ee => ?_⟩
      · rw [iZ (by omega) (by omega) (by omega)] at hF; cases hF
      · have ej : p = j := by
          have : (0 + (j : Int)) = (p : Int) := by injection ep
          omega
        subst ej
        refine ⟨ai, by rw [hyl]; exact bx (by omega), CWd.next hj ⟨by rw [cU], ?_⟩⟩
        rw [List.take_add_one, List.map_append, ee]; rfl
    · rintro ys H7 ⟨rfl, rfl⟩
      rw [List.take_length]
      exact ua ai (aq.upd hD0' _ _ hE3) (fun k hk => (r3.r.en k hk).1) (q _)
theorem CG (K:W.Frag) (A:Adr):Ln (oF K A) 1:=by rintro vs H Q E ⟨a,ns,rfl,_⟩;rfl
theorem Fd (T:Txt K mg A):Rd (oF K A) (HM K A) ["_law_script", "_law_stamper_here", "_law_count", "_law_place", "_law_turns", "_law_marks", "_law_paper", "_law_mark_here"]:=by
 intro vs H Q E h
 obtain ⟨a,ns,rfl,hs,l63,tabs,q⟩:=h
 refine ⟨a,ns,0,rfl,hs,by decide,fun z0=>⟨z0,rfl,tabs,fun f b g Ha kn s0 hb=>?_⟩⟩
 have sca:Scr K a (ns.map V.int) [b] Ha:=by
   rcases hs with (h | ⟨o,h⟩) | h
   · exact .inr ⟨_,fun m=>aw h hb (List.mem_singleton.mp m),kn _ _ h (fun _ z=>nomatch z),fun H' h'=> .inl (.inl h')⟩
   · exact .inr ⟨_,fun m=>aw h hb (List.mem_singleton.mp m),kn _ _ h (fun _ z=>nomatch z),fun H' h'=> .inl (.inr ⟨o,h'⟩)⟩
   · exact .inl fun H'=> .inr h
 have scS:∀ {H' H'':Hp},Scr K a (ns.map V.int) [b] H'→aq H' H''→Scr K a (ns.map V.int) [b] H'':=fun c S=>c.step fun z o _ e=>S z o e
 have scB:∀ {H' H'':Hp},Scr K a (ns.map V.int) [b] H'→aO b H' H''→Scr K a (ns.map V.int) [b] H'':=fun c k=>c.step fun z o n e=>k z o (fun h=>n (by simp [h])) e
 refine ⟨a,ns,1,rfl,sca.sq,by decide,fun z1=>⟨z1,rfl,fun c c1 c2=>?_⟩⟩
 refine ⟨a,ns,2,rfl,sca.sq,by decide,fun z2=>⟨by omega,?_⟩⟩
 have e0:=Int.emod_nonneg z2 (b:=(c:Int)) (by omega)
 have e1:=Int.emod_lt_of_pos z2 (b:=(c:Int)) (by omega)
 show ve K A { nx:=fun _ H'=>Q .non H',rt:=Q } [some (.ref a),some (.ref f),some (.int (c:Int)),some (.int (z2%(c:Int))),none,none,none,none] Ha
 obtain ⟨p,hp⟩:=Int.eq_ofNat_of_zero_le e0
 rw [hp] at e1 ⊢
 have ec:p<c:=by omega
 have tl:(bh c p).length≤60:=pE (by omega)
 have t01:∀ t∈bh c p,t=0∨t=1:=pP _ _ _
 refine ⟨p,c,rfl,ec,by omega,fun W hW=>?_⟩
 have SW:=aq.upd (o:=.lst ((bh c p).map V.int)) hW
 have eW:upd Ha W (.lst ((bh c p).map V.int)) W=some (.lst ((bh c p).map V.int)):=ai
 generalize upd Ha W (.lst ((bh c p).map V.int))=Hb at*
 have scb:=scS sca SW
 have sb:=s0.same (Nat.le_refl _) SW
 refine .inl (.inl ⟨_,SqL.of eW,?_⟩)
 rw [List.length_map]
 refine ⟨((bh c p).length:Int),rfl,by omega,by omega,?_⟩
 rw [Int.toNat_natCast]
 intro C hC
 refine dQ (cS.range (lo:=0) (n:=(bh c p).length)) (fun i ys H'=>∃ es:List Key,ys=es.map kV∧es.length=i∧(∀ e∈es,enK e)∧H' C=some (.lst ys)∧aq Hb H')
   (fun _ _ _ _ _=>trivial) ⟨[],rfl,rfl,(fun _ h=>nomatch h),ai,aq.upd hC⟩ (fun i ys H5 hi h=>?_) (fun ys H5 h=>?_)
 · obtain ⟨es,e1,e2,e3,e4,S⟩:=h
   refine gH ⟨a,ns,_,rfl,(scS scb S).sq,by omega,fun zz=>⟨Cd (by decide) (by decide),_,rfl,fun e H6 S6 en=>⟨S6 _ _ e4,?_,CWd.next hi ⟨es++[e],by rw [e1,List.map_append];rfl,by rw [List.length_append,e2];rfl,fun x hx=>?_,ai,fun z o h=>?_⟩⟩⟩⟩
   · rw [e1,List.length_map,e2];exact bx (by omega)
   · rcases List.mem_append.mp hx with h | h
     · exact e3 x h
     · rw [List.mem_singleton.mp h];exact en
   · rw [ao (aw h hC)];exact S6 _ _ (S _ _ h)
 obtain ⟨ks,rfl,kl,ke,hC5,S5⟩:=h
 refine ⟨a,ns,8,rfl,(scS scb S5).sq,by decide,fun z8=>⟨_,rfl,fun e H6 S6 ee=>⟨C,_,rfl,.inl ⟨SqL.of (S6 _ _ hC5),fun TT hT=>⟨ay (show 2≤1000000 by decide),fun P hP=>?_⟩⟩⟩⟩⟩
 have S7:=S5.trans (S6.trans ((aq.upd (o:=.tup (ks.map kV)) hT).trans (aq.upd (o:=.tup [kV e,.ref TT]) hP)))
 have w:fX (upd (upd H6 TT (.tup (ks.map kV))) P (.tup [kV e,.ref TT])) P TT e ks:=⟨ai,aq.upd hP _ _ ai⟩
 generalize upd (upd H6 TT (.tup (ks.map kV))) P (.tup [kV e,.ref TT])=H7 at*
 have s7:=sb.same (Nat.le_refl _) S7
 have eW7:=S7 _ _ eW
 have sc7:=scS scb S7
 refine ⟨f,b,W,P,TT,c,bh c p,ks,e,g,0,rfl,⟨s7,by decide,c1,c2,tl,t01,kl,ee,ke,w⟩,eW7,fun mk g8 H8 kb8 s8 sub8 okm szm em=>?_⟩
 have w8:=w.kb s7 kb8
 have sc8:=scB sc7 kb8
 refine ⟨f,b,a,P,TT,ns,c,p,ks,e,mk,g8,_,rfl,⟨s8,by decide,c1,c2,tl,t01,kl,ee,ke,w8⟩,ec,by decide,sc8.sq,okm,szm,em,fun g9 H9 kb9 s9 sub9=>Sel.f ?_⟩
 have w9:=w8.kb s8 kb9
 have sc9:=scB sc8 kb9
 refine ⟨ay (show 2≤1000000 by decide),fun hd hh=>?_⟩
 have S10:=aq.upd (o:=.tup [V.int (c:Int),kV mk]) hh
 have eh:upd H9 hd (.tup [V.int (c:Int),kV mk]) hd=some (.tup [V.int (c:Int),kV mk]):=ai
 generalize upd H9 hd (.tup [V.int (c:Int),kV mk])=H10 at*
 have s10:=s9.same (Nat.le_refl _) S10
 have w10:=w9.same S10
 refine ⟨f,b,g9,_,.ref hd,.int (p:Int),.ref P,.tup [.int (c:Int),bB mk],.int (p:Int),.tup [bB e,.tup (ks.map bB)],rfl,⟨s10,by decide,.int _,ef.of w10,by show (ks.map bB).length≤500;rw [List.length_map];omega⟩,.tup eh (.cons (.int _) (.cons (bD mk) .nil)),.inr ⟨c,mk,rfl,c2,okm,fun z=>(by rw [da ec c2] at z;cases z),fun p' ep _=>?_⟩⟩
 cases dy ep
 refine .inr ⟨e,ks,⟨rfl,kl,ke,ee⟩,fun v g11 H11 kb11 s11 sub11 okv szv ev=>⟨fun _=>?_,fun ne=>absurd ?_ ne⟩⟩
 · refine ixT (j:=0) (w10.kb s10 kb11).hP rfl rfl (jh ?_)
   rw [decide_eq_true rfl]
   refine Sel.no rfl ?_
   exact ⟨f,b,a,ns,g11,_,rfl,s11,by decide,(scB (scS sc9 S10) kb11).sq,l63,q⟩
 · rw [ev _ (Ext.refl' g11),←em _ (Ext.of sub9 (Ext.of sub11 (Ext.refl' g11)))]
section
structure TP (P:Program) (w:World) (K:W.Frag) (mg:Str→Option Value) (base:Heap) (A:Adr):Prop extends Txt K mg A where
 B:BM mg base
 C_57:W.CodeHd base A.k_57 A.t_57
 C_40:W.CodeHd base A.k_40 A.t_40
 C_30:W.CodeHd base A.k_30 A.t_30
 C_34:W.CodeHd base A.k_34 A.t_34
variable {P:Program} {w:World} {K:W.Frag} {mg:Str→Option Value} {base:Heap} {A:Adr} (T:TP P w K mg base A)
include T
theorem oZ:aM P w K mg base (CX1 P w) 1 A.a_49 A.d_49 ["thing"] (iD K A):=
 T.f_49.f.okS Gq (BV K A) (DP T.1) fun _ _ _ _ _ _ hr=>
 ap (aB (dh (aE eP T.z_isinstance boot_isinstance (aa (ac 0) (aa (eD T.z_int boot_int) (ag)))) (dM (sS (aE eP T.z_isinstance boot_isinstance (aa (ac 0) (aa (eD T.z_bool boot_bool) (ag))))))))
theorem lf:aM P w K mg base (CX1 P w) 2 A.a_47 A.d_47 ["thing"] (gw K A):=
 T.f_47.f.okS Ga (Az K A) (FC T.1) fun _ _ _ _ _ _ hr=>
 am (aQ (bp (aI (oZ T) hr.le T.f_49 (aa (ac 0) (ag)))) (ap (aB (kg oLe oLt (ak) (ac 0) (ar ml (ak) (ak))))) (aN)) (ap (aB (aE eP T.z_isinstance boot_isinstance (aa (ac 0) (aa (eD T.z_str boot_str) (ag))))))
theorem yt:aM P w K mg base (CX1 P w) 3 A.a_48 A.d_48 ["thing"] (lG K A):=
 T.f_48.f.okS Gp (Bt K A) (GB T.1) fun _ _ _ _ _ _ hr=>
 am (aQ (bQ (bp (aE eP T.z_isinstance boot_isinstance (aa (ac 0) (aa (eD T.z_tuple boot_tuple) (ag)))))) (ap (aB (dm))) (aN)) (am (aQ (bQ (wW oLe oLe (ak) (aE bU T.z_len PySem.boot_len (aa (ac 0) (ag))) (HB T.c_MOST_PARTS))) (ap (aB (dm))) (aN)) (ap (aB (dh (aE eP T.z_isinstance boot_isinstance (aa (bf (aL hr.units1) (ac 0) (ak) (fun _ _=>rfl)) (aa (eD T.z_str boot_str) (ag)))) (dM (aE (Bo rfl) T.z_all L2.uY (aa (gY (ys:=[]) (by exact ⟨rfl,by decide +kernel,by decide +kernel,rfl,by decide +kernel,by decide +kernel⟩) (by exact .nil) (gT (ac 0)) (fun C s H fp=>eS) (fun C s H fp=>(aI (lf T) hr.le T.f_47 (aa (ac 0) (ag))))) (ag))))))))
theorem Ec:aM P w K mg base (CX1 P w) 2 A.a_52 A.d_52 ["part"] (og K A):=
 T.f_52.f.okS yV (AS K A) (En T.1) fun _ _ _ _ _ _ hr=>
 am (aQ (bp (aI (oZ T) hr.le T.f_49 (aa (ac 0) (ag)))) (ap (aB (uH (.cons (tF (ac 0)) (.cons (cB) (.nil)))))) (aN)) (am (aA 1 yV.nd (aE bU T.z_len PySem.boot_len (aa (ac 0) (ag)))) (ap (aB (uH (.cons (tF (ac 1)) (.cons (cB) (.cons (tF (ac 0)) (.nil))))))))
theorem EF:aM P w K mg base (CX1 P w) 4 A.a_59 A.d_59 ["term"] (lc K A):=
 T.f_59.f.okS FU (CO K A) (GU T.1) fun _ _ _ _ _ _ hr=>
 am (aQ (bQ (bp (aI (yt T) hr.le T.f_48 (aa (ac 0) (ag))))) (ap (rq)) (aN)) (ap (aB (ft PySem.F.plainAttrs_str PySem.F.slot_str_join PySem.F.type_str_join rE (cB) (aa (gY (ys:=[]) (by exact ⟨rfl,by decide +kernel,by decide +kernel,rfl,by decide +kernel,by decide +kernel⟩) (by exact .nil) (gT (ac 0)) (fun C s H fp=>eS) (fun C s H fp=>(aI (Ec T) hr.le T.f_52 (aa (ac 0) (ag))))) (ag)))))
theorem Fb (f c:Addr) (cl:List (Str×Addr)) (Ar:Around) (outer:List Env) (s:Shared) (H:Hp) (E:XK)
  (hr:aY 4 (Ar.deeper (W.envX fA.qual fA.scope s.heap.objs.size f (.ref c) cl))):PE (gr P w K mg base ["term"] fA.qual fA.scope f c cl Ar outer s H E).nox (jR xr) (CK K A):=QE.out (
 aI (EF T) hr.le T.f_59 (aa (ac 0) (ag)))
theorem GA:fE P w K mg base 5 fA (si K A):=
 qW rfl FI (fun f c cl Ar outer s H vs cvs Q E hr hl hc h=>by
  obtain ⟨a0,rfl⟩:=L2.dW hl
  obtain rfl:=L2.sL hc
  exact ⟨_,(Fb T f c cl Ar outer s H E hr).nox,Gb T.1 a0 H Q E h⟩)
theorem II:aM P w K mg base (CX1 P w) 4 A.a_2 A.d_2 ["self", "term"] (tG K A):=
 T.f_2.okS Ig (Fw K A) (HN T.1) fun _ _ _ _ _ _ hr=>
 am (aQ (bQ (bp (aI (yt T) hr.le T.f_48 (aa (ac 1) (ag))))) (ap (rq)) (aN)) (am (aQ (aW (qR hr.units150) (ac 1) (dL (ac 0))) (ap (pY hr.units1 (dL (ac 0)) (ac 1) (aE bU T.z_len PySem.boot_len (aa (dL (ac 0)) (ag))))) (aN)) (ap (aB (bf (aL hr.units1) (dL (ac 0)) (ac 1) (fun _ _=>rfl)))))
theorem GI (f c:Addr) (cl:List (Str×Addr)) (Ar:Around) (outer:List Env) (s:Shared) (H:Hp) (E:XK)
  (hr:aY 4 (Ar.deeper (W.envX fM.qual fM.scope s.heap.objs.size f (.ref c) cl))):PE (gr P w K mg base ["term", "numbers"] fM.qual fM.scope f c cl Ar outer s H E).nox (jR xH) (Cs K A):=QE.out (
 cK (ac 1) T.cl_Numbers T.me_Numbers_number_of (II T) hr.le T.b_2 bO (aa (ac 0) (ag)))
theorem Fh:fE P w K mg base 5 fM (sR K A):=
 qW rfl DV (fun f c cl Ar outer s H vs cvs Q E hr hl hc h=>by
  obtain ⟨a0,rfl⟩:=L2.dW hl
  obtain ⟨b0,rfl⟩:=L2.dW hc
  exact ⟨_,(GI T f c cl Ar outer s H E hr).nox,FP T.1 a0 b0 H Q E h⟩)
theorem Ge (f c:Addr) (cl:List (Str×Addr)) (Ar:Around) (outer:List Env) (s:Shared) (H:Hp) (E:XK)
  (hr:aY 0 (Ar.deeper (W.envX fN.qual fN.scope s.heap.objs.size f (.ref c) cl))):PSs (gr P w K mg base ["_law_term", "_law_step", "_law_known"] fN.qual fN.scope f c cl Ar outer s H E).nox (aJ xf) (DF K A):=QSs.out (
 ap (aB (ft PySem.F.plainAttrs_dict PySem.F.slot_dict_setdefault PySem.F.type_dict_setdefault (uZ hr.units1) (ac 2) (aa (ac 0) (aa (ar bj (ar lv (ac 1) (aE bU T.z_len PySem.boot_len (aa (ac 2) (ag)))) (ak)) (ag))))))
theorem Ej:fE P w K mg base 1 fN (sZ K A):=
 uz rfl Fx (fun f c cl Ar outer s H vs cvs Q E hr hl hc h=>by
  obtain ⟨a0,rfl⟩:=L2.dW hl
  obtain ⟨b0,b1,rfl⟩:=L2.sx hc
  exact ⟨_,(Ge T f c cl Ar outer s H E hr).nox,Ef T.1 a0 b0 b1 H Q E h⟩)
theorem Gh (f c:Addr) (cl:List (Str×Addr)) (Ar:Around) (outer:List Env) (s:Shared) (H:Hp) (E:XK)
  (hr:aY 0 (Ar.deeper (W.envX fQ.qual fQ.scope s.heap.objs.size f (.ref c) cl))):PSs (gr P w K mg base ["_law_term", "_law_total", "_law_part", "_law_many"] fQ.qual fQ.scope f c cl Ar outer s H E).nox (aJ xZ) (AV K A):=QSs.out (
 am (aA 1 li.nd (aE bU T.z_len PySem.boot_len (aa (ac 0) (ag)))) (am (ir 2 li.nd (gT (ac 0)) (ap (aQ (bp (aE eP T.z_isinstance boot_isinstance (aa (ac 2) (aa (eD T.z_str boot_str) (ag))))) (ap (aA 1 li.nd (ar bj (ar lv (ak) (ac 1)) (aE bU T.z_len PySem.boot_len (aa (ac 2) (ag)))))) (ap (aA 1 li.nd (ar bj (ar lv (ak) (ac 1)) (ac 2)))))) PassesOwn.never) (ap (aB (ar br (ac 1) (ac 3))))))
theorem FE:fE P w K mg base 1 fQ (sI K A):=
 uz rfl li (fun f c cl Ar outer s H vs cvs Q E hr hl hc h=>by
  obtain ⟨a0,rfl⟩:=L2.dW hl
  obtain ⟨b0,rfl⟩:=L2.dW hc
  exact ⟨_,(Gh T f c cl Ar outer s H E hr).nox,Gv T.1 a0 b0 H Q E h⟩)
theorem DK (B:BM mg base) (C:W.CodeHd base A.k_57 A.t_57) (Ar:Around) (outer:List Env) (s:Shared) (H:Hp) (E:XK)
  (hr:aY 0 (Ar.deeper (envOfC "writing" (al kP) s.heap.objs.size A.a_57 (.ref A.k_57)))):QMs (cy (CX1 P w) P w K mg base [] "writing" (al kP) A.a_57 (.ref A.k_57) Ar outer s H E).nox (aJ kP) (BC K A):=(
 oV (oU (yQ B C rfl (by rfl) (by simp <;> omega) rfl rfl rfl rfl (fun _ _ _ _ us hl=>by obtain ⟨_,rfl⟩:=L2.dW hl;rfl))))
theorem Gc:aM P w K mg base (CX1 P w) 1 A.a_57 A.d_57 [] (oR K A):=
 T.f_57.f.okM (caps:=fun L=>[]) T.kc_57 FK (Bz K A) (fun L p hp=>nomatch hp) (fun L=>by simp) (fun Ar outer s H vs Q E hr h=>⟨_,QMs.nox (DK T T.B T.C_57 Ar outer s H E hr),GR T.1 (by simp) vs H Q E h⟩)
theorem Hf:aM P w K mg base (CX1 P w) 1 A.a_1 A.d_1 ["self"] (sj K A):=
 T.f_1.okS Ic (DJ K A) (IQ T.1) fun _ _ _ _ _ _ hr=>
 ap (iA (ac 0) (ia))
theorem Gd (B:BM mg base) (C:W.CodeHd base A.k_40 A.t_40) (Ar:Around) (outer:List Env) (s:Shared) (H:Hp) (E:XK)
  (hr:aY 2 (Ar.deeper (envOfC "counting" (al kz) s.heap.objs.size A.a_40 (.ref A.k_40)))):QMs (cy (CX1 P w) P w K mg base ["numbers"] "counting" (al kz) A.a_40 (.ref A.k_40) Ar outer s H E).nox (aJ kz) (Bj K A (s.heap.objs.size+1)):=(
 lg (kY (aA 0 yS.nd (xL T.mk_Numbers (Hf T) hr.le T.mc_Numbers T.b_1 bO))) (oV (oU (yQ B C rfl (by rfl) (by simp <;> omega) rfl rfl rfl rfl (fun _ _ _ _ us hl=>by obtain ⟨_,rfl⟩:=L2.dW hl;rfl)))))
theorem GT:aM P w K mg base (CX1 P w) 3 A.a_40 A.d_40 [] (oJ K A):=
 T.f_40.f.okM (caps:=fun L=>[(0,L+1)]) T.kc_40 yS (AA K A) (fun L p hp=>by simp only [List.mem_cons,List.not_mem_nil,or_false] at hp;rcases hp with rfl <;> exact ⟨_,rfl,rfl,rfl⟩) (fun L=>by simp) (fun Ar outer s H vs Q E hr h=>⟨_,QMs.nox (Gd T T.B T.C_40 Ar outer s H E hr),Ed T.1 (s.heap.objs.size+1) (by simp) vs H Q E h⟩)
theorem GH (B:BM mg base) (C:W.CodeHd base A.k_30 A.t_30) (Ar:Around) (outer:List Env) (s:Shared) (H:Hp) (E:XK)
  (hr:aY 0 (Ar.deeper (envOfC "_law_sure" (al kQ) s.heap.objs.size A.a_30 (.ref A.k_30)))):QMs (cy (CX1 P w) P w K mg base ["_law_step", "_law_known", "_law_stamp"] "_law_sure" (al kQ) A.a_30 (.ref A.k_30) Ar outer s H E).nox (aJ kQ) (AL K A (s.heap.objs.size+1) (s.heap.objs.size+1+1)):=(
 lg (kY (aA 1 sQ.nd (ia))) (lg (kY (yu 2 sQ.nd B C rfl (by rfl) (by simp <;> omega) rfl rfl rfl rfl (fun _ _ _ _ _ us hl=>by obtain ⟨_,rfl⟩:=L2.dW hl;rfl))) (oV (oU (ac 2)))))
theorem Er:aM P w K mg base (CX1 P w) 1 A.a_30 A.d_30 ["_law_step"] (oz K A):=
 T.f_30.f.okM (caps:=fun L=>[(0,L+1),(1,L+1+1)]) T.kc_30 sQ (DI K A) (fun L p hp=>by simp only [List.mem_cons,List.not_mem_nil,or_false] at hp;rcases hp with rfl | rfl <;> exact ⟨_,rfl,rfl,rfl⟩) (fun L=>by simp) (fun Ar outer s H vs Q E hr h=>⟨_,QMs.nox (GH T T.B T.C_30 Ar outer s H E hr),Gx T.1 (s.heap.objs.size+1) (s.heap.objs.size+1+1) (by simp) vs H Q E h⟩)
theorem Fv (B:BM mg base) (C:W.CodeHd base A.k_34 A.t_34) (Ar:Around) (outer:List Env) (s:Shared) (H:Hp) (E:XK)
  (hr:aY 0 (Ar.deeper (envOfC "_law_weak" (al kE) s.heap.objs.size A.a_34 (.ref A.k_34)))):QMs (cy (CX1 P w) P w K mg base ["_law_many", "_law_stamp"] "_law_weak" (al kE) A.a_34 (.ref A.k_34) Ar outer s H E).nox (aJ kE) (Ck K A (s.heap.objs.size+1)):=(
 lg (kY (yu 1 yq.nd B C rfl (by rfl) (by simp <;> omega) rfl rfl rfl rfl (fun _ _ _ _ _ us hl=>by obtain ⟨_,rfl⟩:=L2.dW hl;rfl))) (oV (oU (ac 1))))
theorem GS:aM P w K mg base (CX1 P w) 1 A.a_34 A.d_34 ["_law_many"] (oy K A):=
 T.f_34.f.okM (caps:=fun L=>[(0,L+1)]) T.kc_34 yq (BO K A) (fun L p hp=>by simp only [List.mem_cons,List.not_mem_nil,or_false] at hp;rcases hp with rfl <;> exact ⟨_,rfl,rfl,rfl⟩) (fun L=>by simp) (fun Ar outer s H vs Q E hr h=>⟨_,QMs.nox (Fv T T.B T.C_34 Ar outer s H E hr),FH T.1 (s.heap.objs.size+1) (by simp) vs H Q E h⟩)
theorem EI:aM P w K mg base (CX1 P w) 4 A.a_29 A.d_29 ["_law_cell"] (ou K A):=
 T.f_29.f.okS FY (Ct K A) (DU T.1) fun _ _ _ _ _ _ hr=>
 am (aQ (aW (bV hr.units150) (ar br (ac 0) (ak)) (ak)) (ap (aB (pB (Gc T) hr.le T.f_57.m T.f_57.f.kp T.f_57.b bO))) (aN)) (am (aQ (aW (bV hr.units150) (ar br (ac 0) (ak)) (ak)) (ap (aB (pB (GT T) hr.le T.f_40.m T.f_40.f.kp T.f_40.b bO))) (aN)) (am (aQ (aW (bV hr.units150) (ar br (ac 0) (ak)) (ak)) (ap (aB (aI (Er T) hr.le T.f_30 (aa (ar bj (ak) (ar br (ar bF (ac 0) (ak)) (ak))) (ag))))) (aN)) (ap (aB (aI (GS T) hr.le T.f_34 (aa (ar bj (ak) (ar br (ar bF (ac 0) (ak)) (ak))) (ag)))))))
theorem dX:aM P w K mg base (CX1 P w) 1 A.a_13 A.d_13 ["_law_script", "_law_k"] (dj K A):=
 T.f_13.f.okS EQ (BH K A) (GM T.1) fun _ _ _ _ _ _ hr=>
 am (aQ (aW oLt (ac 1) (aE bU T.z_len PySem.boot_len (aa (ac 0) (ag)))) (ap (aB (bf (aL hr.units1) (ac 0) (ac 1) (fun _ _=>rfl)))) (aN)) (ap (aB (ak)))
theorem EC:aM P w K mg base (CX1 P w) 1 A.a_14 A.d_14 ["_law_cell"] (oQ K A):=
 T.f_14.f.okS Ei (CV K A) (EZ T.1) fun _ _ _ _ _ _ hr=>
 am (aQ (aW (bV hr.units150) (ar br (ac 0) (ak)) (ak)) (ap (aB (ar bj (ak) (ar br (ar bF (ac 0) (ak)) (ak))))) (aN)) (am (aQ (aW (bV hr.units150) (ar br (ac 0) (ak)) (ak)) (ap (aB (ar dR (ar bj (ar jj (ak) (ar bj (ak) (ar br (ar bF (ac 0) (ak)) (ak)))) (ar br (ar bF (ac 0) (ak)) (ak))) (ak)))) (aN)) (ap (aB (ar bj (ak) (ar br (ar bF (ac 0) (ak)) (ar dR (ar jj (ak) (ak)) (ak)))))))
theorem DO:aM P w K mg base (CX1 P w) 1 A.a_33 A.d_33 ["_law_place", "_law_many"] (oM K A):=
 T.f_33.f.okS iJ (Br K A) (FX T.1) fun _ _ _ _ _ _ hr=>
 am (aA 2 iJ.nd (bZ (ag))) (am (aA 3 iJ.nd (ar jj (ak) (ak))) (am (mv (aW oGt (ac 1) (ak)) (am (mv (aW oGe (ac 3) (ac 1)) (ap (aA 3 iJ.nd (ar bF (ac 3) (ak)))) PassesOwn.never) (am (cn (ft PySem.F.plainAttrs_list PySem.F.slot_list_append PySem.F.type_list_append cz (ac 2) (aa (dF GY T.z_int L2.BJ (aa (er oGe (ac 0) (ac 3)) (ag))) (ag)))) (ap (aQ (aW oGe (ac 0) (ac 3)) (am (aA 0 iJ.nd (ar dR (ac 0) (ac 3))) (ap (aA 1 iJ.nd (ar dR (ac 1) (ac 3))))) (ap (aA 1 iJ.nd (ac 3))))))) PassesOwn.never) (ap (aB (ac 2)))))
theorem GP:aM P w K mg base (CX1 P w) 1 A.a_32 A.d_32 ["_law_cell"] (ow K A):=
 T.f_32.f.okS sT (BK K A) (FV T.1) fun _ _ _ _ _ _ hr=>
 am (aA 1 sT.nd (cB)) (am (aA 1 sT.nd (ar bj (ac 1) (cB))) (ap (aB (ft PySem.F.plainAttrs_str PySem.F.slot_str_join PySem.F.type_str_join rE (cB) (aa (gY (ys:=["_law_cell", "_law_some"]) (by exact ⟨rfl,by decide +kernel,by decide +kernel,rfl,by decide +kernel,by decide +kernel⟩) (by exact .cons rfl (by first | exact .inl rfl | exact .inr rfl) rfl (.cons rfl (by first | exact .inl rfl | exact .inr rfl) rfl (.nil))) (fq T.z_range (aa (ar br (ac 0) (ak)) (ag))) (fun C s H fp=>eS) (fun C s H fp=>(bf (aL hr.units1) (ac 2) (ar br (ar bj (ar bF (ac 1) (ak)) (ar lv (ac 0) (ar br (ar bF (ac 1) (ak)) (ak)))) (ak)) (fun _ _=>rfl)))) (ag))))))
theorem oH:aM P w K mg base (CX1 P w) 2 A.a_28 A.d_28 ["_law_cell"] (iq K A):=
 T.f_28.f.okS Eg (CT K A) (EY T.1) fun _ _ _ _ _ _ hr=>
 am (aQ (aW (bV hr.units150) (ar br (ac 0) (ak)) (ak)) (ap (aB (aI (GP T) hr.le T.f_32 (aa (ar bF (ac 0) (ak)) (ag))))) (aN)) (am (aQ (aW (bV hr.units150) (ar br (ac 0) (ak)) (ak)) (ap (aB (ar br (ar bF (ac 0) (ak)) (ar ml (ak) (ak))))) (aN)) (ap (aB (ar br (ar bF (ac 0) (ak)) (ak)))))
theorem fF:mr P w K mg base 5 (eU K A):=fun ts hts=>by
 simp only [eU,List.mem_cons,List.not_mem_nil,or_false] at hts
 rcases hts with rfl | rfl | rfl | rfl
 · exact (GA T).mono (by decide)
 · exact (Fh T).mono (by decide)
 · exact (Ej T).mono (by decide)
 · exact (FE T).mono (by decide)
theorem DT:aM P w K mg base (CX1 P w) 6 A.a_18 A.d_18 ["_law_stamper_here", "_law_count", "_law_turns", "_law_paper"] (oo K A):=
 T.f_18.f.okS lV (AW K A) (Ew T.1) fun _ _ _ _ _ _ hr=>
 am (aA 4 lV.nd (fW (fF T) hr.le bO (ac 0) (aa (be (aa (cB) (aa (bf (aL hr.units1) (ac 3) (ak) (fun _ _=>rfl)) (ag)))) (ag)))) (am (vn 5 6 lV.nd (AK T.z_zip T.z_reversed (aa (ac 2) (ag)) (aa (bf (aL hr.units1) (ac 3) (ak) (fun _ _=>rfl)) (ag))) (ap (aQ (aW (bV hr.units150) (ac 5) (ak)) (ap (aA 4 lV.nd (fW (fF T) hr.le bO (ac 0) (aa (be (aa (cB) (aa (ac 6) (aa (ac 4) (ag))))) (ag))))) (ap (aA 4 lV.nd (fW (fF T) hr.le bO (ac 0) (aa (be (aa (cB) (aa (ac 4) (aa (ac 6) (ag))))) (ag))))))) PassesOwn.never) (ap (aB (fW (fF T) hr.le bO (ac 0) (aa (be (aa (cB) (aa (ac 1) (aa (ac 4) (ag))))) (ag))))))
theorem Ee:aM P w K mg base (CX1 P w) 1 A.a_20 A.d_20 ["_law_cell", "_law_count"] (pc K A):=
 T.f_20.f.okS yZ (Bi K A) (EW T.1) fun _ _ _ _ _ _ hr=>
 am (aA 2 yZ.nd (bZ (aa (iG) (aa (dm) (aa (dm) (aa (dF tM T.z_str boot_str (aa (ac 1) (ag))) (aa (ar dR (fD (ak)) (ac 1)) (aa (ar jj (ak) (ak)) (aa (ar bj (ar jj (ak) (ak)) (ac 1)) (aa (be (aa (ac 1) (ag))) (aa (bZ (aa (ac 1) (ag))) (aa (ak) (ag))))))))))))) (ap (aB (bf (aL hr.units1) (ac 2) (ar br (ac 0) (ak)) (fun _ _=>rfl))))
theorem Fz:aM P w K mg base (CX1 P w) 1 A.a_23 A.d_23 ["_law_cell", "_law_count"] (oj K A):=
 T.f_23.f.okS tH (CJ K A) (Fi T.1) fun _ _ _ _ _ _ hr=>
 am (aA 2 tH.nd (ar br (ar bF (ac 0) (ak)) (ar ml (ak) (ak)))) (am (aA 3 tH.nd (bZ (aa (iG) (aa (dm) (aa (dm) (aa (dF tM T.z_str boot_str (aa (ar br (ac 2) (ac 1)) (ag))) (aa (ar dR (fD (ak)) (ac 2)) (aa (ac 1) (aa (ar bj (ac 1) (ac 2)) (aa (be (aa (ar br (ac 2) (ac 1)) (ag))) (aa (bZ (aa (ak) (ag))) (ag)))))))))))) (ap (aB (bf (aL hr.units1) (ac 3) (ar br (ac 0) (ak)) (fun _ _=>rfl)))))
theorem rW:aM P w K mg base (CX1 P w) 1 A.a_24 A.d_24 ["_law_cell"] (jT K A):=
 T.f_24.f.okS sr (CM K A) (GQ T.1) fun _ _ _ _ _ _ hr=>
 am (aA 1 sr.nd (ar br (ar bF (ac 0) (ak)) (ar ml (ak) (ak)))) (am (aA 2 sr.nd (bZ (aa (iG) (aa (dm) (aa (dm) (aa (ar dR (fD (ak)) (ac 1)) (aa (ar bj (ar ml (ak) (ak)) (ac 1)) (aa (be (aa (ac 1) (ag))) (aa (bZ (aa (ac 1) (ag))) (aa (ia) (aa (be (aa (cB) (ag))) (ag)))))))))))) (ap (aB (bf (aL hr.units1) (ac 2) (ar br (ac 0) (ak)) (fun _ _=>rfl)))))
theorem Ek:aM P w K mg base (CX1 P w) 2 A.a_22 A.d_22 ["_law_cell", "_law_paper"] (oG K A):=
 T.f_22.f.okS jX (Aw K A) (DM T.1) fun _ _ _ _ _ _ hr=>
 am (Be 2 3 jX.nd rfl (ac 1)) (am (aA 4 jX.nd (ar br (ar bF (ac 0) (ak)) (aE (IL rfl) T.z_max boot_max (aa (ak) (aa (aE bU T.z_len PySem.boot_len (aa (ac 3) (ag))) (ag)))))) (am (aA 5 jX.nd (aI (rW T) hr.le T.f_24 (aa (ar bF (ac 0) (ak)) (ag)))) (am (aA 6 jX.nd (bZ (aa (ac 5) (aa (bZ (aa (ac 2) (aa (ac 3) (ag)))) (aa (be (aa (ac 2) (aa (ac 3) (aa (ac 2) (ag))))) (aa (be (aa (ac 5) (aa (ac 3) (ag)))) (aa (be (aa (ac 2) (aa (dF Es T.z_list boot_list (aa (ac 3) (ag))) (ag)))) (ag)))))))) (am (aA 6 jX.nd (ar bj (ac 6) (bZ (aa (be (aa (ac 2) (aa (ar bj (ac 3) (be (aa (ac 2) (ag)))) (ag)))) (ag))))) (am (aQ (x_w (om (aW oLt (ar br (ac 0) (ak)) (ak)) (lO (aW (bV hr.units150) (aE bU T.z_len PySem.boot_len (aa (ac 3) (ag))) (ak))))) (ap (aB (bf (aL hr.units1) (ac 6) (ar br (ar br (ac 0) (ak)) (ak)) (fun _ _=>rfl)))) (aN)) (am (aQ (aW (bV hr.units150) (ar br (ar bF (ar bF (ac 0) (ak)) (ak)) (ak)) (ak)) (ap (aB (be (aa (ac 2) (aa (ar bj (jH lb (ac 3) (jO) (kf (ac 4))) (jH lb (ac 3) (kf (ar bj (ac 4) (ak))) (jO))) (ag)))))) (aN)) (ap (aB (be (aa (ac 2) (aa (ar bj (ar bj (jH lb (ac 3) (jO) (kf (ac 4))) (be (aa (ac 5) (ag)))) (jH lb (ac 3) (kf (ar bj (ac 4) (ak))) (jO))) (ag))))))))))))
theorem yI:aM P w K mg base (CX1 P w) 1 A.a_15 A.d_15 ["_law_flags_here"] (jC K A):=
 T.f_15.f.okS yO (Bb K A) (Gr T.1) fun _ _ _ _ _ _ hr=>
 am (ir 1 yO.nd (fq T.z_range (aa (aE bU T.z_len PySem.boot_len (aa (ac 0) (ag))) (ag))) (ap (aQ (bp (bf (aL hr.units1) (ac 0) (ac 1) (fun _ _=>rfl))) (ap (aB (ac 1))) (aN))) PassesOwn.never) (ap (aB (fD (ak))))
theorem FD:aM P w K mg base (CX1 P w) 1 A.a_16 A.d_16 ["_law_caught_here"] (oO K A):=
 T.f_16.f.okS yF (AT K A) (Gg T.1) fun _ _ _ _ _ _ hr=>
 am (aA 1 yF.nd (bZ (aa (aE jD T.z_isinstance boot_isinstance (aa (ac 0) (aa (qf T.mc_NoHead) (ag)))) (aa (aE jD T.z_isinstance boot_isinstance (aa (ac 0) (aa (qf T.mc_NoPlace) (ag)))) (aa (aE jD T.z_isinstance boot_isinstance (aa (ac 0) (aa (qf T.mc_NoPaper) (ag)))) (ag)))))) (ap (aB (ar bj (ac 1) (bZ (aa (aE jD T.z_isinstance boot_isinstance (aa (ac 0) (aa (qf T.mc_Broken) (ag)))) (aa (aE jD T.z_isinstance boot_isinstance (aa (ac 0) (aa (qf T.mc_NoStamp) (ag)))) (aa (aE jD T.z_isinstance boot_isinstance (aa (ac 0) (aa (eD T.z_ValueError nO) (ag)))) (ag))))))))
theorem oK:aM P w K mg base (CX1 P w) 2 A.a_17 A.d_17 ["_law_caught_here", "_law_number"] (gA K A):=
 T.f_17.f.okS Fl (BQ K A) (Gk T.1) fun _ _ _ _ _ _ hr=>
 am (aQ (aW oLt (ac 1) (ak)) (ap (aB (er IT (ac 0) (iG)))) (aN)) (ap (aB (er (bV hr.units150) (aI (FD T) hr.le T.f_16 (aa (ac 0) (ag))) (gY (ys:=["_law_number"]) (by exact ⟨rfl,by decide +kernel,by decide +kernel,rfl,by decide +kernel,by decide +kernel⟩) (by exact .cons rfl (by first | exact .inl rfl | exact .inr rfl) rfl (.nil)) (fq T.z_range (aa (ak) (ag))) (fun C s H fp=>eS) (fun C s H fp=>(Cz (er (bV hr.units150) (ac 0) (ac 1)) (dM (er (bV hr.units150) (ac 0) (ak)))))))))
theorem yD:aM P w K mg base (CX1 P w) 2 A.a_43 A.d_43 ["thing"] (lu K A):=
 T.f_43.f.okS EO (Dj K A) (Ey T.1) fun _ _ _ _ _ _ hr=>
 ap (aB (dh (aI (oZ T) hr.le T.f_49 (aa (ac 0) (ag))) (dM (kg oLe oLt (ak) (ac 0) (ar jj (ak) (ak))))))
theorem yo:aM P w K mg base (CX1 P w) 3 A.a_45 A.d_45 ["count", "place"] (lB K A):=
 T.f_45.f.okS DY (Aq K A) (Ez T.1) fun _ _ _ _ _ _ hr=>
 ap (aB (dh (aI (yD T) hr.le T.f_43 (aa (ac 0) (ag))) (dh (aI (oZ T) hr.le T.f_49 (aa (ac 1) (ag))) (dM (kg oLe oLt (ak) (ac 1) (ac 0))))))
theorem sJ:aM P w K mg base (CX1 P w) 1 A.a_42 A.d_42 ["many"] (jK K A):=
 T.f_42.f.okS EN (CF K A) (Eu T.1) fun _ _ _ _ _ _ hr=>
 ap (aB (ar jj (ak) (ar dR (DZ PySem.F.plainAttrs_int PySem.F.slot_int_bit_length PySem.F.type_int_bit_length Al (ar dR (ac 0) (ak))) (ak))))
theorem yy:aM P w K mg base (CX1 P w) 2 A.a_56 A.d_56 ["place", "many"] (lY K A):=
 T.f_56.f.okS gz (Dw K A) (Ep T.1) fun _ _ _ _ _ _ hr=>
 am (aA 2 gz.nd (bZ (ag))) (am (aA 3 gz.nd (ak)) (am (aA 4 gz.nd (ac 1)) (am (mv (aW oGt (ac 4) (ak)) (am (aA 5 gz.nd (aI (sJ T) hr.le T.f_42 (aa (ac 4) (ag)))) (ap (aQ (aW oLt (ac 0) (ar bj (ac 3) (ac 5))) (am (cn (ft PySem.F.plainAttrs_list PySem.F.slot_list_append PySem.F.type_list_append cz (ac 2) (aa (ak) (ag)))) (ap (aA 4 gz.nd (ac 5)))) (am (cn (ft PySem.F.plainAttrs_list PySem.F.slot_list_append PySem.F.type_list_append cz (ac 2) (aa (ak) (ag)))) (am (aA 3 gz.nd (ar bj (ac 3) (ac 5))) (ap (aA 4 gz.nd (ar dR (ac 4) (ac 5))))))))) PassesOwn.never) (ap (aB (ac 2))))))
theorem DQ:aM P w K mg base (CX1 P w) 3 A.a_38 A.d_38 ["many", "thing"] (oI K A):=
 T.f_38.f.okS Fc (BL K A) (GG T.1) fun _ _ _ _ _ _ hr=>
 ap (aB (dh (aE eP T.z_isinstance boot_isinstance (aa (ac 1) (aa (eD T.z_tuple boot_tuple) (ag)))) (dh (er (bV hr.units150) (aE bU T.z_len PySem.boot_len (aa (ac 1) (ag))) (ac 0)) (dM (aE (Bo rfl) T.z_all L2.uY (aa (gY (ys:=[]) (by exact ⟨rfl,by decide +kernel,by decide +kernel,rfl,by decide +kernel,by decide +kernel⟩) (by exact .nil) (gT (ac 1)) (fun C s H fp=>eS) (fun C s H fp=>(aI (lf T) hr.le T.f_47 (aa (ac 0) (ag))))) (ag)))))))
theorem FJ:aM P w K mg base (CX1 P w) 4 A.a_46 A.d_46 ["turns", "thing"] (oB K A):=
 T.f_46.f.okS FG (BE K A) (FS T.1) fun _ _ _ _ _ _ hr=>
 am (aQ (x_w (om (bQ (bp (aE eP T.z_isinstance boot_isinstance (aa (ac 1) (aa (eD T.z_tuple boot_tuple) (ag)))))) (lO (aW (pQ hr.units150) (aE bU T.z_len PySem.boot_len (aa (ac 1) (ag))) (ak))))) (ap (aB (dm))) (aN)) (ap (aB (dh (aI (lf T) hr.le T.f_47 (aa (bf (aL hr.units1) (ac 1) (ak) (fun _ _=>rfl)) (ag))) (dM (aI (DQ T) hr.le T.f_38 (aa (aE bU T.z_len PySem.boot_len (aa (ac 0) (ag))) (aa (bf (aL hr.units1) (ac 1) (ak) (fun _ _=>rfl)) (ag))))))))
theorem Fu:aM P w K mg base (CX1 P w) 1 A.a_50 A.d_50 ["turn", "own", "aside"] (oS K A):=
 T.f_50.f.okS Eb (De K A) (Fp T.1) fun _ _ _ _ _ _ hr=>
 ap (aB (HZ (aW (bV hr.units150) (ac 0) (ak)) (be (aa (cB) (aa (ac 1) (aa (ac 2) (ag))))) (be (aa (cB) (aa (ac 2) (aa (ac 1) (ag)))))))
theorem Em (cdv:Value) (Ar:Around) (outer:List Env) (s:Shared) (H:Hp) (E:XK)
  (hr:aY 5 (Ar.deeper (envOfC "place_terms" (al lZ) s.heap.objs.size A.a_55 cdv))):PSs (cy (CX1 P w) P w K mg base ["stamper", "count", "place", "paper", "turns", "terms", "step"] "place_terms" (al lZ) A.a_55 cdv Ar outer s H E) (aJ lZ) (BY K A E):=QSs.out (
 am (aQ (bQ (bp (aI (yo T) hr.le T.f_45 (aa (ac 1) (aa (ac 2) (ag)))))) (ap (fV T.er_NoPlace T.mc_NoPlace dD)) (aN)) (am (aA 4 oX.nd (aI (yy T) hr.le T.f_56 (aa (ac 2) (aa (ac 1) (ag))))) (am (aQ (bQ (bp (aI (FJ T) hr.le T.f_46 (aa (ac 4) (aa (ac 3) (ag)))))) (ap (fV T.er_NoPaper T.mc_NoPaper dD)) (aN)) (am (aA 5 oX.nd (bZ (aa (be (aa (cB) (aa (bf (aL hr.units1) (ac 3) (ak) (fun _ _=>rfl)) (ag)))) (ag)))) (am (ir 6 oX.nd (AG T.z_reversed (aa (uT T.z_list T.z_zip rfl (aa (ac 4) (aa (bf (aL hr.units1) (ac 3) (ak) (fun _ _=>rfl)) (ag)))) (ag))) (ap (cn (ft PySem.F.plainAttrs_list PySem.F.slot_list_append PySem.F.type_list_append cz (ac 5) (aa (aI (Fu T) hr.le T.f_50 (aa (bf (aL hr.units1) (ac 6) (ak) (fun _ _=>rfl)) (aa (fW (fF T) hr.le bO (ac 0) (aa (bf (aL hr.units1) (ac 5) (fD (ak)) (fun _ _=>rfl)) (ag))) (aa (bf (aL hr.units1) (ac 6) (ak) (fun _ _=>rfl)) (ag))))) (ag))))) PassesOwn.leaving) (am (cn (ft PySem.F.plainAttrs_list PySem.F.slot_list_append PySem.F.type_list_append cz (ac 5) (aa (be (aa (cB) (aa (ac 1) (aa (fW (fF T) hr.le bO (ac 0) (aa (bf (aL hr.units1) (ac 5) (fD (ak)) (fun _ _=>rfl)) (ag))) (ag))))) (ag)))) (ap (aB (ac 5)))))))))
theorem yY:aM P w K mg base (CX1 P w) 6 A.a_55 A.d_55 ["stamper", "count", "place", "paper"] (lM K A):=
 T.f_55.f.okX oX (AN K A) (fun cdv Ar outer s H vs Q E hr h=>⟨_,Em T cdv Ar outer s H E hr,Ex T.1 vs H Q E h⟩)
theorem EL (cdv:Value) (Ar:Around) (outer:List Env) (s:Shared) (H:Hp) (E:XK)
  (hr:aY 6 (Ar.deeper (envOfC "place_mark" (al mC) s.heap.objs.size A.a_54 cdv))):PSs (cy (CX1 P w) P w K mg base ["stamper", "count", "place", "paper"] "place_mark" (al mC) A.a_54 cdv Ar outer s H E) (aJ mC) (CH K A E):=QSs.out (
 ap (aB (fW (fF T) hr.le bO (ac 0) (aa (bf (aL hr.units1) (fk (yY T) hr.le T.f_55.m T.f_55.f.kp T.f_55.b kq (aa (ac 0) (aa (ac 1) (aa (ac 2) (aa (ac 3) (ag)))))) (fD (ak)) (fun _ _=>rfl)) (ag)))))
theorem ze:aM P w K mg base (CX1 P w) 7 A.a_54 A.d_54 ["stamper", "count", "place", "paper"] (lN K A):=
 T.f_54.f.okX Gf (BD K A) (fun cdv Ar outer s H vs Q E hr h=>⟨_,EL T cdv Ar outer s H E hr,GF T.1 vs H Q E h⟩)
theorem yX:aM P w K mg base (CX1 P w) 3 A.a_44 A.d_44 ["thing"] (lW K A):=
 T.f_44.f.okS FL (Bm K A) (DW T.1) fun _ _ _ _ _ _ hr=>
 ap (aB (dh (aE eP T.z_isinstance boot_isinstance (aa (ac 0) (aa (eD T.z_tuple boot_tuple) (ag)))) (dh (er (bV hr.units150) (aE bU T.z_len PySem.boot_len (aa (ac 0) (ag))) (ak)) (dh (aI (yD T) hr.le T.f_43 (aa (bf (aL hr.units1) (ac 0) (ak) (fun _ _=>rfl)) (ag))) (dM (aI (lf T) hr.le T.f_47 (aa (bf (aL hr.units1) (ac 0) (ak) (fun _ _=>rfl)) (ag))))))))
theorem GN (cdv:Value) (Ar:Around) (outer:List Env) (s:Shared) (H:Hp) (E:XK)
  (hr:aY 3 (Ar.deeper (envOfC "check_head" (al mf) s.heap.objs.size A.a_39 cdv))):PSs (cy (CX1 P w) P w K mg base ["thing"] "check_head" (al mf) A.a_39 cdv Ar outer s H E) (aJ mf) (AC K A E):=QSs.out (
 ap (aQ (bQ (bp (aI (yX T) hr.le T.f_44 (aa (ac 0) (ag))))) (ap (fV T.er_NoHead T.mc_NoHead dD)) (aN)))
theorem EV:aM P w K mg base (CX1 P w) 4 A.a_39 A.d_39 ["thing"] (oE K A):=
 T.f_39.f.okX Gy (Cm K A) (fun cdv Ar outer s H vs Q E hr h=>⟨_,GN T cdv Ar outer s H E hr,FQ T.1 vs H Q E h⟩)
theorem Ip:aM P w K mg base (CX1 P w) 1 A.a_0 A.d_0 ["self", "due", "came"] (sH K A):=
 T.f_0.okS HP (Fe K A) (GV T.1) fun _ _ _ _ _ _ hr=>
 am (vA (ac 0) (ac 1)) (ap (vA (ac 0) (ac 2)))
theorem GK (cdv:Value) (Ar:Around) (outer:List Env) (s:Shared) (H:Hp) (E:XK)
  (hr:aY 7 (Ar.deeper (envOfC "place_answer" (al mw) s.heap.objs.size A.a_53 cdv))):PSs (cy (CX1 P w) P w K mg base ["stamper", "head", "place", "paper", "came"] "place_answer" (al mw) A.a_53 cdv Ar outer s H E) (aJ mw) (AZ K A E):=QSs.out (
 am (cn (fk (EV T) hr.le T.f_39.m T.f_39.f.kp T.f_39.b kq (aa (ac 1) (ag)))) (am (aA 4 yB.nd (fk (ze T) hr.le T.f_54.m T.f_54.f.kp T.f_54.b kq (aa (ac 0) (aa (bf (aL hr.units1) (ac 1) (ak) (fun _ _=>rfl)) (aa (ac 2) (aa (ac 3) (ag))))))) (am (aQ (aW (pQ hr.units150) (ac 4) (bf (aL hr.units1) (ac 1) (ak) (fun _ _=>rfl))) (ap (vD T.em_Broken (Ip T) hr.le T.b_0 T.mc_Broken dD (aa (bf (aL hr.units1) (ac 1) (ak) (fun _ _=>rfl)) (aa (ac 4) (ag))))) (aN)) (ap (aB (bf (aL hr.units1) (ac 3) (ak) (fun _ _=>rfl)))))))
theorem yn:aM P w K mg base (CX1 P w) 8 A.a_53 A.d_53 ["stamper", "head", "place", "paper"] (la K A):=
 T.f_53.f.okX yB (Bk K A) (fun cdv Ar outer s H vs Q E hr h=>⟨_,GK T cdv Ar outer s H E hr,GC T.1 vs H Q E h⟩)
theorem sO:aM P w K mg base (CX1 P w) 9 A.a_12 A.d_12 ["_law_what", "_law_stamper_here", "_law_top", "_law_place", "_law_paper"] (jG K A):=
 T.f_12.f.okS oA (CN K A) (EA T.1) fun _ _ _ _ _ E hr=>
 am (aA 5 oA.nd (iG)) (am (ym (fun pn' E' EH hEH=>ap (aQ (aW (bV hr.units150) (ac 0) (ak)) (ap (cn (fk (yY T) hr.le T.f_55.m T.f_55.f.kp T.f_55.b hEH (aa (ac 1) (aa (ac 2) (aa (ac 3) (aa (ac 4) (ag)))))))) (ap (aQ (aW (bV hr.units150) (ac 0) (ak)) (ap (cn (fk (ze T) hr.le T.f_54.m T.f_54.f.kp T.f_54.b hEH (aa (ac 1) (aa (ac 2) (aa (ac 3) (aa (ac 4) (ag)))))))) (ap (cn (fk (yn T) hr.le T.f_53.m T.f_53.f.kp T.f_53.b hEH (aa (ac 1) (aa (ac 2) (aa (ac 3) (aa (ac 4) (ag)))))))))))) (yM 6 oA.nd T.eo_StampError T.mc_StampError (fun a=>ap (aA 5 oA.nd (ac 6))) (tX)) (aN)) (ap (aB (ac 5))))
theorem EJ:aM P w K mg base (CX1 P w) 3 A.a_25 A.d_25 ["_law_cell", "_law_mark_here"] (oh K A):=
 T.f_25.f.okS FZ (Dt K A) (FF T.1) fun _ _ _ _ _ _ hr=>
 am (aQ (aW oGt (ar br (ac 0) (ak)) (ak)) (ap (aB (aI (oH T) hr.le T.f_28 (aa (ar bF (ac 0) (ak)) (ag))))) (aN)) (am (aQ (bp (aE eP T.z_isinstance boot_isinstance (aa (ac 1) (aa (eD T.z_str boot_str) (ag))))) (ap (aB (ar bj (ac 1) (cB)))) (aN)) (ap (aB (dF tM T.z_str boot_str (aa (ac 1) (ag))))))
theorem Gm:aM P w K mg base (CX1 P w) 2 A.a_21 A.d_21 ["_law_cell", "_law_count", "_law_mark_here"] (nY K A):=
 T.f_21.f.okS sU (Do K A) (GD T.1) fun _ _ _ _ _ _ hr=>
 am (aA 3 sU.nd (bZ (aa (iG) (aa (be (aa (ac 1) (ag))) (aa (be (aa (ac 1) (aa (ac 2) (aa (ac 2) (ag))))) (aa (bZ (aa (ac 1) (aa (ac 2) (ag)))) (aa (be (aa (dm) (aa (ac 2) (ag)))) (aa (be (aa (ar dR (fD (ak)) (ac 1)) (aa (ac 2) (ag)))) (aa (be (aa (ar jj (ak) (ak)) (aa (ac 2) (ag)))) (ag)))))))))) (am (aA 3 sU.nd (ar bj (ac 3) (bZ (aa (be (aa (dF tM T.z_str boot_str (aa (ac 1) (ag))) (aa (ac 2) (ag)))) (aa (be (aa (ac 1) (aa (aI (rW T) hr.le T.f_24 (aa (ar bF (ac 0) (ak)) (ag))) (ag)))) (aa (ac 2) (aa (ia) (ag)))))))) (ap (aB (bf (aL hr.units1) (ac 3) (ar br (ac 0) (ak)) (fun _ _=>rfl)))))
theorem Fg:aM P w K mg base (CX1 P w) 10 A.a_26 A.d_26 ["_law_stamper_here", "_law_script", "_law_count", "_law_place", "_law_paper", "_law_mark_here"] (oa K A):=
 T.f_26.f.okS dc (Dz K A) (FA T.1) fun _ _ _ _ _ _ hr=>
 am (jy (ys:=["_law_script"]) 6 dc.nd (by exact ⟨rfl,by decide +kernel,by decide +kernel,rfl,by decide +kernel,by decide +kernel⟩) (by exact .cons rfl (by first | exact .inl rfl | exact .inr rfl) rfl (.nil)) (iN T.z_range (aa (ak) (aa (ak) (ag)))) (fun C s H fp=>eS) (fun C s H fp=>(er (bV hr.units150) (ar br (aI (dX T) hr.le T.f_13 (aa (ac 1) (aa (ac 0) (ag)))) (ak)) (ak)))) (am (jy (ys:=["_law_script"]) 7 dc.nd (by exact ⟨rfl,by decide +kernel,by decide +kernel,rfl,by decide +kernel,by decide +kernel⟩) (by exact .cons rfl (by first | exact .inl rfl | exact .inr rfl) rfl (.nil)) (iN T.z_range (aa (ak) (aa (ak) (ag)))) (fun C s H fp=>eS) (fun C s H fp=>(ar bF (aI (dX T) hr.le T.f_13 (aa (ac 1) (aa (ac 0) (ag)))) (ak)))) (am (aA 8 dc.nd (ac 2)) (am (aQ (bp (bf (aL hr.units1) (ac 6) (ak) (fun _ _=>rfl))) (ap (aA 8 dc.nd (aI (Ee T) hr.le T.f_20 (aa (bf (aL hr.units1) (ac 7) (ak) (fun _ _=>rfl)) (aa (ac 2) (ag)))))) (aN)) (am (aQ (bp (bf (aL hr.units1) (ac 6) (ak) (fun _ _=>rfl))) (ap (aA 3 dc.nd (aI (Fz T) hr.le T.f_23 (aa (bf (aL hr.units1) (ac 7) (ak) (fun _ _=>rfl)) (aa (ac 2) (ag)))))) (aN)) (am (aQ (bp (bf (aL hr.units1) (ac 6) (ak) (fun _ _=>rfl))) (ap (aA 4 dc.nd (aI (Ek T) hr.le T.f_22 (aa (bf (aL hr.units1) (ac 7) (ak) (fun _ _=>rfl)) (aa (ac 4) (ag)))))) (aN)) (am (aA 9 dc.nd (aI (yI T) hr.le T.f_15 (aa (bZ (aa (dm) (aa (Cz (bf (aL hr.units1) (ac 6) (ak) (fun _ _=>rfl)) (dM (bf (aL hr.units1) (ac 6) (ak) (fun _ _=>rfl)))) (aa (bf (aL hr.units1) (ac 6) (ak) (fun _ _=>rfl)) (ag))))) (ag)))) (am (ir 10 dc.nd (fq T.z_range (aa (ak) (ag))) (ap (aQ (bQ (bp (aI (oK T) hr.le T.f_17 (aa (aI (sO T) hr.le T.f_12 (aa (ac 10) (aa (ac 0) (aa (ac 8) (aa (ac 3) (aa (ac 4) (ag))))))) (aa (ac 9) (ag)))))) (ap (aB (dm))) (aN))) PassesOwn.never) (am (aA 11 dc.nd (be (aa (ac 2) (aa (ac 5) (ag))))) (am (aQ (bp (bf (aL hr.units1) (ac 6) (ak) (fun _ _=>rfl))) (ap (aA 11 dc.nd (be (aa (ac 2) (aa (aI (EJ T) hr.le T.f_25 (aa (bf (aL hr.units1) (ac 7) (ak) (fun _ _=>rfl)) (aa (ac 5) (ag)))) (ag)))))) (aN)) (am (aA 12 dc.nd (er (pQ hr.units150) (bf (aL hr.units1) (ac 11) (ak) (fun _ _=>rfl)) (ac 5))) (am (aQ (bp (bf (aL hr.units1) (ac 6) (ak) (fun _ _=>rfl))) (ap (aA 11 dc.nd (aI (Gm T) hr.le T.f_21 (aa (bf (aL hr.units1) (ac 7) (ak) (fun _ _=>rfl)) (aa (ac 2) (aa (ac 5) (ag))))))) (aN)) (am (vn 13 14 dc.nd (gT (bZ (aa (be (aa (ac 11) (aa (sS (bf (aL hr.units1) (ac 6) (ak) (fun _ _=>rfl))) (ag)))) (aa (be (aa (be (aa (ac 2) (aa (ac 5) (ag)))) (aa (dm) (ag)))) (aa (be (aa (be (aa (ak) (aa (ac 5) (ag)))) (aa (dm) (ag)))) (ag)))))) (am (aA 15 dc.nd (aI (yX T) hr.le T.f_44 (aa (ac 13) (ag)))) (ap (aQ (x_w (om (bQ (bp (aE eP T.z_isinstance boot_isinstance (aa (ac 15) (aa (eD T.z_bool boot_bool) (ag)))))) (lO (aW (pQ hr.units150) (ac 15) (ac 14))))) (ap (aB (dm))) (aN)))) PassesOwn.never) (am (aA 9 dc.nd (aI (yI T) hr.le T.f_15 (aa (bZ (aa (bf (aL hr.units1) (ac 6) (ak) (fun _ _=>rfl)) (aa (bf (aL hr.units1) (ac 6) (ak) (fun _ _=>rfl)) (aa (bf (aL hr.units1) (ac 6) (ak) (fun _ _=>rfl)) (aa (ac 12) (ag)))))) (ag)))) (am (aQ (bQ (bp (aI (oK T) hr.le T.f_17 (aa (aI (sO T) hr.le T.f_12 (aa (ak) (aa (ac 0) (aa (ac 11) (aa (ac 3) (aa (ac 4) (ag))))))) (aa (ac 9) (ag)))))) (ap (aB (dm))) (aN)) (ap (aB (aI (oK T) hr.le T.f_17 (aa (aI (sO T) hr.le T.f_12 (aa (ak) (aa (ac 0) (aa (be (aa (ak) (aa (ac 5) (ag)))) (aa (ak) (aa (be (aa (cB) (aa (be (ag)) (ag)))) (ag))))))) (aa (ak) (ag))))))))))))))))))))
theorem IR:aM P w K mg base (CX1 P w) 1 A.a_3 A.d_3 ["self", "stamper"] (sM K A):=
 T.f_3.okS Hv (ER K A) (Il T.1) fun _ _ _ _ _ _ hr=>
 am (iA (ac 0) (ac 1)) (am (iA (ac 0) (bZ (ag))) (ap (iA (ac 0) (ia))))
theorem Ia (cdv:Value) (Ar:Around) (outer:List Env) (s:Shared) (H:Hp) (E:XK)
  (hr:aY 2 (Ar.deeper (envOfC "Row.add" (al s_4) s.heap.objs.size A.a_4 cdv))):PSs (cy (CX1 P w) P w K mg base ["self", "entry"] "Row.add" (al s_4) A.a_4 cdv Ar outer s H E) (aJ s_4) (T_4 K A E):=QSs.out (
 am (aQ (bQ (bp (aI (lf T) hr.le T.f_47 (aa (ac 1) (ag))))) (ap (fV T.er_NoStamp T.mc_NoStamp dD)) (aN)) (am (cn (ft PySem.F.plainAttrs_list PySem.F.slot_list_append PySem.F.type_list_append cz (dL (ac 0)) (aa (ac 1) (ag)))) (ap (aB (ar dR (aE bU T.z_len PySem.boot_len (aa (dL (ac 0)) (ag))) (ak))))))
theorem AU:aM P w K mg base (CX1 P w) 3 A.a_4 A.d_4 ["self", "entry"] (qk K A):=
 T.f_4.okX HW (GL K A) (fun cdv Ar outer s H vs Q E hr h=>⟨_,Ia T cdv Ar outer s H E hr,HK T.1 vs H Q E h⟩)
theorem yx:aM P w K mg base (CX1 P w) 2 A.a_19 A.d_19 ["_law_cell", "_law_size"] (lJ K A):=
 T.f_19.f.okS EK (DG K A) (Gw T.1) fun _ _ _ _ _ _ hr=>
 am (aQ (aW oGt (ar br (ac 0) (ak)) (ak)) (ap (aB (ar dR (ar br (ar bF (ac 0) (ak)) (ar bj (ac 1) (ak))) (ak)))) (aN)) (ap (aB (aI (rW T) hr.le T.f_24 (aa (ar bF (ac 0) (ak)) (ag)))))
theorem vT:aM P w K mg base (CX1 P w) 1 A.a_8 A.d_8 ["self"] (mq K A):=
 T.f_8.okS ID (Gu K A) (HE T.1) fun _ _ _ _ _ _ hr=>
 ap (aB (aE bU T.z_len PySem.boot_len (aa (dL (ac 0)) (ag))))
theorem BB:aM P w K mg base (CX1 P w) 4 A.a_6 A.d_6 ["self", "count", "place"] (qi K A):=
 T.f_6.okS HL (FN K A) (HF T.1) fun _ _ _ _ _ _ hr=>
 ap (aB (dh (aI (yo T) hr.le T.f_45 (aa (ac 1) (aa (ac 2) (ag)))) (dM (er oLe (ac 1) (kB (ac 0) T.cl_Row T.me_Row_size (vT T) hr.le T.b_8 bO)))))
theorem IU (cdv:Value) (Ar:Around) (outer:List Env) (s:Shared) (H:Hp) (E:XK)
  (hr:aY 4 (Ar.deeper (envOfC "Row.entry" (al s_5) s.heap.objs.size A.a_5 cdv))):PSs (cy (CX1 P w) P w K mg base ["self", "place"] "Row.entry" (al s_5) A.a_5 cdv Ar outer s H E) (aJ s_5) (T_5 K A E):=QSs.out (
 am (aQ (bQ (bp (cK (ac 0) T.cl_Row T.me_Row_has_place (BB T) hr.le T.b_6 bO (aa (kB (ac 0) T.cl_Row T.me_Row_size (vT T) hr.le T.b_8 bO) (aa (ac 1) (ag)))))) (ap (fV T.er_NoPlace T.mc_NoPlace dD)) (aN)) (ap (aB (bf (aL hr.units1) (dL (ac 0)) (ac 1) (fun _ _=>rfl)))))
theorem Di:aM P w K mg base (CX1 P w) 5 A.a_5 A.d_5 ["self", "place"] (pO K A):=
 T.f_5.okX Hq (GE K A) (fun cdv Ar outer s H vs Q E hr h=>⟨_,IU T cdv Ar outer s H E hr,IJ T.1 vs H Q E h⟩)
theorem EU (n:Nat) (G:aM P w K mg base (CX1 P w) (5+2*n) A.a_9 A.d_9 ["self", "first", "many"] (gG K A n)):aM P w K mg base (CX1 P w) (5+2*n+1) A.a_10 A.d_10 ["self", "first", "many"] (oW K A n):=
 T.f_10.okS yr (DE K A n) (Fq T.1 n) fun _ _ _ _ _ _ (hr:aY (5+2*n) _)=>
 am (aQ (aW (bV hr.units150) (ac 2) (ak)) (ap (aB (be (aa (cB) (ag))))) (aN)) (am (aQ (aW (bV hr.units150) (ac 2) (ak)) (ap (aB (be (aa (cB) (aa (bf (aL hr.units1) (dL (ac 0)) (ac 1) (fun _ _=>rfl)) (ag)))))) (aN)) (am (aA 3 yr.nd (aI (sJ T) hr.le T.f_42 (aa (ac 2) (ag)))) (ap (aB (be (aa (cB) (aa (cK (ac 0) T.cl_Row T.me_Row_top_of G hr.le T.b_9 bO (aa (ac 1) (aa (ac 3) (ag)))) (aa (cK (ac 0) T.cl_Row T.me_Row_top_of G hr.le T.b_9 bO (aa (ar bj (ac 1) (ac 3)) (aa (ar dR (ac 2) (ac 3)) (ag)))) (ag)))))))))
theorem wF:∀ n:Nat,aM P w K mg base (CX1 P w) (5+2*n) A.a_9 A.d_9 ["self", "first", "many"] (gG K A n)
 | 0=>⟨fun vs H Q E h=>(AH K A vs H Q E h).elim,fun _ _ _ H _ _ vs Q E _ _ _ _ h=>(AH K A vs H Q E h).elim⟩
 | n+1=>show aM P w K mg base (CX1 P w) (5+2*n+1+1) A.a_9 A.d_9 ["self", "first", "many"] (gG K A (n+1)) from T.f_9.okS Bh (Fy K A (n+1)) (HV T.1 n) fun _ _ _ _ _ _ (hr:aY (5+2*n+1) _)=>
 am (aA 3 Bh.nd (be (aa (ac 1) (aa (ac 2) (ag))))) (am (aQ (aW (qR hr.units150) (ac 3) (dL (ac 0))) (ap (pY hr.units1 (dL (ac 0)) (ac 3) (An (fF T) hr.le bO (ac 0) T.cl_Row T.na_Row_stamper (aa (cK (ac 0) T.cl_Row T.me_Row_top_term (EU T n (wF n)) hr.le T.b_10 bO (aa (ac 1) (aa (ac 2) (ag)))) (ag))))) (aN)) (ap (aB (bf (aL hr.units1) (dL (ac 0)) (ac 3) (fun _ _=>rfl)))))
theorem Hi (cdv:Value) (Ar:Around) (outer:List Env) (s:Shared) (H:Hp) (E:XK)
  (hr:aY 145 (Ar.deeper (envOfC "Row.place_paper" (al s_7) s.heap.objs.size A.a_7 cdv))):PSs (cy (CX1 P w) P w K mg base ["self", "count", "place", "marks", "first", "many", "turn", "ahead"] "Row.place_paper" (al s_7) A.a_7 cdv Ar outer s H E) (aJ s_7) (T_7 K A E):=QSs.out (
 am (aQ (bQ (bp (cK (ac 0) T.cl_Row T.me_Row_has_place (BB T) hr.le T.b_6 bO (aa (ac 1) (aa (ac 2) (ag)))))) (ap (fV T.er_NoPlace T.mc_NoPlace dD)) (aN)) (am (aA 3 iC.nd (bZ (ag))) (am (aA 4 iC.nd (ak)) (am (aA 5 iC.nd (ac 1)) (am (ir 6 iC.nd (gT (aI (yy T) hr.le T.f_56 (aa (ac 2) (aa (ac 1) (ag))))) (am (aA 7 iC.nd (aI (sJ T) hr.le T.f_42 (aa (ac 5) (ag)))) (ap (aQ (aW (bV hr.units150) (ac 6) (ak)) (am (cn (ft PySem.F.plainAttrs_list PySem.F.slot_list_append PySem.F.type_list_append cz (ac 3) (aa (cK (ac 0) T.cl_Row T.me_Row_top_of (wF T 70) hr.le T.b_9 bO (aa (ar bj (ac 4) (ac 7)) (aa (ar dR (ac 5) (ac 7)) (ag)))) (ag)))) (ap (aA 5 iC.nd (ac 7)))) (am (cn (ft PySem.F.plainAttrs_list PySem.F.slot_list_append PySem.F.type_list_append cz (ac 3) (aa (cK (ac 0) T.cl_Row T.me_Row_top_of (wF T 70) hr.le T.b_9 bO (aa (ac 4) (aa (ac 7) (ag)))) (ag)))) (am (aA 4 iC.nd (ar bj (ac 4) (ac 7))) (ap (aA 5 iC.nd (ar dR (ac 5) (ac 7))))))))) PassesOwn.leaving) (ap (aB (be (aa (bf (aL hr.units1) (dL (ac 0)) (ac 2) (fun _ _=>rfl)) (aa (dF uI T.z_tuple boot_tuple (aa (ac 3) (ag))) (ag)))))))))))
theorem Ib:aM P w K mg base (CX1 P w) 146 A.a_7 A.d_7 ["self", "count", "place"] (sB K A):=
 T.f_7.okX iC (ES K A) (fun cdv Ar outer s H vs Q E hr h=>⟨_,Hi T cdv Ar outer s H E hr,IB T.1 vs H Q E h⟩)
theorem Gs:aM P w K mg base (CX1 P w) 147 A.a_11 A.d_11 ["_law_what", "_law_row", "_law_one", "_law_other_here"] (oi K A):=
 T.f_11.f.okS oq (AF K A) (Gj T.1) fun _ _ _ _ _ E hr=>
 am (aA 4 oq.nd (iG)) (am (ym (fun pn' E' EH hEH=>ap (aQ (aW (bV hr.units150) (ac 0) (ak)) (ap (cn (cK (ac 1) T.cl_Row T.me_Row_add (AU T) hr.le T.b_4 hEH (aa (ac 2) (ag))))) (ap (aQ (aW (bV hr.units150) (ac 0) (ak)) (ap (cn (cK (ac 1) T.cl_Row T.me_Row_entry (Di T) hr.le T.b_5 hEH (aa (ac 2) (ag))))) (ap (cn (cK (ac 1) T.cl_Row T.me_Row_place_paper (Ib T) hr.le T.b_7 hEH (aa (ac 2) (aa (ac 3) (ag)))))))))) (yM 5 oq.nd T.eo_StampError T.mc_StampError (fun a=>ap (aA 4 oq.nd (ac 5))) (tX)) (aN)) (ap (aB (ac 4))))
theorem FO:aM P w K mg base (CX1 P w) 1 A.a_36 A.d_36 ["_law_found"] (oN K A):=
 T.f_36.f.okS DN (Cj K A) (FR T.1) fun _ _ _ _ _ _ hr=>
 ap (aB (dh (aE eP T.z_isinstance boot_isinstance (aa (ac 0) (aa (eD T.z_int boot_int) (ag)))) (dM (sS (aE eP T.z_isinstance boot_isinstance (aa (ac 0) (aa (eD T.z_bool boot_bool) (ag))))))))
theorem oP:aM P w K mg base (CX1 P w) 2 A.a_37 A.d_37 ["_law_thing", "_law_many"] (iu K A):=
 T.f_37.f.okS Gn (BG K A) (Eo T.1) fun _ _ _ _ _ _ hr=>
 ap (aB (dh (aI (FO T) hr.le T.f_36 (aa (ac 0) (ag))) (dM (kg oLe oLt (ak) (ac 0) (ac 1)))))
theorem Eh:aM P w K mg base (CX1 P w) 148 A.a_27 A.d_27 ["_law_stamper_here", "_law_script"] (oY K A):=
 T.f_27.f.okS dO (AY K A) (EX T.1) fun _ _ _ _ _ _ hr=>
 am (aA 2 dO.nd (zt T.mk_Row (IR T) hr.le T.mc_Row T.b_3 bO (aa (ac 0) (ag)))) (am (aA 3 dO.nd (bZ (ag))) (am (ir 4 dO.nd (iN T.z_range (aa (ak) (aa (ar bj (ak) (ar br (aI (dX T) hr.le T.f_13 (aa (ac 1) (aa (ak) (ag)))) (ak))) (ag)))) (am (cn (ft PySem.F.plainAttrs_list PySem.F.slot_list_append PySem.F.type_list_append cz (ac 3) (aa (aI (oH T) hr.le T.f_28 (aa (ar bj (aI (dX T) hr.le T.f_13 (aa (ac 1) (aa (ac 4) (ag)))) (ac 4)) (ag))) (ag)))) (ap (cn (cK (ac 2) T.cl_Row T.me_Row_add (AU T) hr.le T.b_4 bO (aa (bf (aL hr.units1) (ac 3) (fD (ak)) (fun _ _=>rfl)) (ag)))))) PassesOwn.never) (am (ir 4 dO.nd (iN T.z_range (aa (ak) (aa (ar bj (ak) (aE (Hc rfl) T.z_min boot_min (aa (aE bU T.z_len PySem.boot_len (aa (ac 1) (ag))) (aa (ak) (ag))))) (ag)))) (am (aA 5 dO.nd (aI (dX T) hr.le T.f_13 (aa (ac 1) (aa (ac 4) (ag))))) (am (aA 6 dO.nd (aI (yx T) hr.le T.f_19 (aa (aI (dX T) hr.le T.f_13 (aa (ac 1) (aa (ar bj (ac 4) (ak)) (ag)))) (aa (aE bU T.z_len PySem.boot_len (aa (ac 3) (ag))) (ag))))) (am (aA 7 dO.nd (aI (yx T) hr.le T.f_19 (aa (ar bF (aI (dX T) hr.le T.f_13 (aa (ac 1) (aa (ar bj (ac 4) (ak)) (ag)))) (ak)) (aa (aE bU T.z_len PySem.boot_len (aa (ac 3) (ag))) (ag))))) (am (aA 8 dO.nd (aI (Gs T) hr.le T.f_11 (aa (ar br (ac 5) (ak)) (aa (ac 2) (aa (ac 6) (aa (ac 7) (ag))))))) (am (aA 9 dO.nd (fD (ak))) (am (aQ (x_w (ju (aW (bV hr.units150) (ar br (ac 5) (ak)) (ak)) (ju (bQ (bp (aE eP T.z_isinstance boot_isinstance (aa (ac 6) (aa (eD T.z_str boot_str) (ag)))))) (jP (bQ (bp (aI (oP T) hr.le T.f_37 (aa (ac 6) (aa (ar ml (ak) (ak)) (ag)))))))))) (ap (aA 9 dO.nd (ak))) (aN)) (am (aQ (x_w (ju (aW (bV hr.units150) (ar br (ac 5) (ak)) (ak)) (jP (bQ (bp (aI (oP T) hr.le T.f_37 (aa (ac 6) (aa (aE bU T.z_len PySem.boot_len (aa (ac 3) (ag))) (ag))))))))) (ap (aA 9 dO.nd (ak))) (aN)) (am (aQ (x_w (ju (aW (bV hr.units150) (ar br (ac 5) (ak)) (ak)) (jP (x_w (om (bQ (bp (aI (oP T) hr.le T.f_37 (aa (ac 6) (aa (ar bj (aE bU T.z_len PySem.boot_len (aa (ac 3) (ag))) (ak)) (ag)))))) (lO (bQ (bp (aI (oP T) hr.le T.f_37 (aa (ac 7) (aa (ac 6) (ag)))))))))))) (ap (aA 9 dO.nd (ak))) (aN)) (am (aQ (bQ (bp (aI (oK T) hr.le T.f_17 (aa (ac 8) (aa (ac 9) (ag)))))) (ap (aB (dm))) (aN)) (ap (aQ (x_w (ju (aW (bV hr.units150) (ar br (ac 5) (ak)) (ak)) (jP (aW oLt (ac 9) (ak))))) (ap (cn (ft PySem.F.plainAttrs_list PySem.F.slot_list_append PySem.F.type_list_append cz (ac 3) (aa (ac 6) (ag))))) (aN)))))))))))) PassesOwn.never) (ap (aB (dh (er (bV hr.units150) (kB (ac 2) T.cl_Row T.me_Row_size (vT T) hr.le T.b_8 bO) (aE bU T.z_len PySem.boot_len (aa (ac 3) (ag)))) (dM (er (bV hr.units150) (gY (ys:=["_law_row"]) (by exact ⟨rfl,by decide +kernel,by decide +kernel,rfl,by decide +kernel,by decide +kernel⟩) (by exact .cons rfl (by first | exact .inl rfl | exact .inr rfl) rfl (.nil)) (fq T.z_range (aa (aE bU T.z_len PySem.boot_len (aa (ac 3) (ag))) (ag))) (fun C s H fp=>eS) (fun C s H fp=>(cK (ac 1) T.cl_Row T.me_Row_entry (Di T) hr.le T.b_5 bO (aa (ac 0) (ag))))) (ac 3)))))))))
theorem FW:aM P w K mg base (CX1 P w) 149 A.a_51 A.d_51 ["_law_script"] (oF K A):=
 T.f_51.f.okS gn (CG K A) (Fd T.1) fun _ _ _ _ _ _ hr=>
 am (aA 1 gn.nd (aI (EI T) hr.le T.f_29 (aa (aI (dX T) hr.le T.f_13 (aa (ac 0) (aa (ak) (ag)))) (ag)))) (am (aA 2 gn.nd (aI (EC T) hr.le T.f_14 (aa (aI (dX T) hr.le T.f_13 (aa (ac 0) (aa (ak) (ag)))) (ag)))) (am (aA 3 gn.nd (ar br (aI (dX T) hr.le T.f_13 (aa (ac 0) (aa (ak) (ag)))) (ac 2))) (am (aA 4 gn.nd (aI (DO T) hr.le T.f_33 (aa (ac 3) (aa (ac 2) (ag))))) (am (jy (ys:=["_law_script"]) 5 gn.nd (by exact ⟨rfl,by decide +kernel,by decide +kernel,rfl,by decide +kernel,by decide +kernel⟩) (by exact .cons rfl (by first | exact .inl rfl | exact .inr rfl) rfl (.nil)) (fq T.z_range (aa (aE bU T.z_len PySem.boot_len (aa (ac 4) (ag))) (ag))) (fun C s H fp=>eS) (fun C s H fp=>(aI (oH T) hr.le T.f_28 (aa (ar bj (aI (dX T) hr.le T.f_13 (aa (ac 1) (aa (ar bj (ak) (ac 0)) (ag)))) (ar lv (ak) (ac 0))) (ag))))) (am (aA 6 gn.nd (be (aa (aI (oH T) hr.le T.f_28 (aa (aI (dX T) hr.le T.f_13 (aa (ac 0) (aa (ak) (ag)))) (ag))) (aa (dF uI T.z_tuple boot_tuple (aa (ac 5) (ag))) (ag))))) (am (aA 7 gn.nd (aI (DT T) hr.le T.f_18 (aa (ac 1) (aa (ac 2) (aa (ac 4) (aa (ac 6) (ag))))))) (am (aQ (bQ (bp (aI (Fg T) hr.le T.f_26 (aa (ac 1) (aa (ac 0) (aa (ac 2) (aa (ac 3) (aa (ac 6) (aa (ac 7) (ag)))))))))) (ap (aB (dm))) (aN)) (am (aQ (aW (pQ hr.units150) (aI (yn T) hr.le T.f_53 (aa (ac 1) (aa (be (aa (ac 2) (aa (ac 7) (ag)))) (aa (ac 3) (aa (ac 6) (ag)))))) (bf (aL hr.units1) (ac 6) (ak) (fun _ _=>rfl))) (ap (aB (dm))) (aN)) (ap (aB (aI (Eh T) hr.le T.f_27 (aa (ac 1) (aa (ac 0) (ag))))))))))))))
omit T
def so (P:Program) (w:World) (K:W.Frag) (mg:Str→Option Value) (fa:Addr):Prop:=∃ (fd:FuncData) (tabs:List (Addr×Addr)) (sp:Sp),(∀ (s:Shared) (v:Value),BindsTo s fd ⟨[v],[]⟩ [("_law_script",v)])∧W.noTabs K=true∧(∀ t∈tabs,∃ y∈(["writing", "counting", "_law_sure", "_law_weak"]:List Str),W.tabIn K y=some t)∧(∀ base:Heap,K.In base→base.Ns mainGlobals mg→BM mg base→(∀ t∈tabs,W.CodeHd base t.1 t.2)→aM P w K mg base (CX1 P w) 149 fa fd ["_law_script"] sp)∧∀ (H:Hp) (a:Addr) (ns:List Int),ns.length≤63→(∀ t∈tabs,H t.2=some (.tbl #[]))→SqL K H a (ns.map V.int)→sp [.ref a] H (fun v _=>v=.bl true) fun _ _ _=>False
theorem Av (T:Txt K mg A) (nt:W.noTabs K=true) (tb_57:W.tabIn K "writing" =some (A.k_57,A.t_57)) (tb_40:W.tabIn K "counting" =some (A.k_40,A.t_40)) (tb_30:W.tabIn K "_law_sure" =some (A.k_30,A.t_30)) (tb_34:W.tabIn K "_law_weak" =some (A.k_34,A.t_34)) (tdn:([A.t_57,A.t_40,A.t_30,A.t_34]:List Addr).Nodup):so P w K mg A.a_51:=by
 refine ⟨A.d_51,[(A.k_57,A.t_57),(A.k_40,A.t_40),(A.k_30,A.t_30),(A.k_34,A.t_34)],oF K A,T.f_51.f.bt,nt,?_,fun base _ _ B C=>?_,fun H a ns hl hO hS=>⟨a,ns,rfl,hS,hl,⟨hO (A.k_57,A.t_57) (by simp),hO (A.k_40,A.t_40) (by simp),hO (A.k_30,A.t_30) (by simp),hO (A.k_34,A.t_34) (by simp),tdn⟩,fun _=>rfl⟩⟩
 · intro t ht
   simp only [List.mem_cons,List.not_mem_nil,or_false] at ht
   rcases ht with rfl | rfl | rfl | rfl
   · exact ⟨"writing",by simp,tb_57⟩
   · exact ⟨"counting",by simp,tb_40⟩
   · exact ⟨"_law_sure",by simp,tb_30⟩
   · exact ⟨"_law_weak",by simp,tb_34⟩
 · exact FW ⟨T,B,C (A.k_57,A.t_57) (by simp),C (A.k_40,A.t_40) (by simp),C (A.k_30,A.t_30) (by simp),C (A.k_34,A.t_34) (by simp)⟩
theorem Cc {h:Heap} {fa:Addr} (X:K.In h) (G:h.Ns mainGlobals mg) (hfa:mg "law" =some (.ref fa)) {x_49 x_47 x_48 x_52 x_59 x_2 x_57 x_1 x_40 x_30 x_34 x_29 x_13 x_14 x_33 x_32 x_28 x_18 x_20 x_23 x_24 x_22 x_15 x_16 x_17 x_43 x_45 x_42 x_56 x_38 x_46 x_50 x_55 x_54 x_44 x_39 x_0 x_53 x_12 x_25 x_21 x_26 x_3 x_4 x_19 x_8 x_6 x_5 x_10 x_9 x_7 x_11 x_36 x_37 x_27 x_51 y_NoStamp y_Broken y_NoPaper y_NoPlace y_NoHead y_StampError y_Numbers y_Row:Addr} {d0 d1 d2 d3 d4 d5 d6 d7 d8 d9 d10 d11 d12 d13 d14 d15 d16 d17 d18 d19 d20 d21 d22 d23 d24 d25 d26 d27 d28 d29 d30 d31 d32 d33 d34 d35 d36 d37 d38 d39 d40 d41 d42 d43 d44 d45 d46 d47 d48 d49 d50 d51 d52 d53 d54 d55:FuncData} {tc0:Tok}
  (bo_Numbers:W.nsIn K mainGlobals "Numbers" =some (some (.ref y_Numbers))) (bo_Row:W.nsIn K mainGlobals "Row" =some (some (.ref y_Row))) (bc_NoStamp:W.nsIn K mainGlobals "NoStamp" =some (some (.ref y_NoStamp))) (bc_Broken:W.nsIn K mainGlobals "Broken" =some (some (.ref y_Broken))) (bc_NoPaper:W.nsIn K mainGlobals "NoPaper" =some (some (.ref y_NoPaper))) (bc_NoPlace:W.nsIn K mainGlobals "NoPlace" =some (some (.ref y_NoPlace))) (bc_NoHead:W.nsIn K mainGlobals "NoHead" =some (some (.ref y_NoHead))) (bc_StampError:W.nsIn K mainGlobals "StampError" =some (some (.ref y_StampError))) (h0:Fa K "is_whole" "is_whole" xt x_49 d0) (h1:Fa K "is_stamp" "is_stamp" xw x_47 d1) (h2:Fa K "is_term" "is_term" vC x_48 d2) (h3:Fa K "part_form" "part_form" xE x_52 d3) (h4:Fa K "written" "written" xu x_59 d4) (a5:W.findIn K (.ref y_Numbers) "number_of" =some (some (.ref x_2))) (h5:Fun K "number_of" "Numbers.number_of" s_2 x_2 d5) (fn5:W.isFn K (.ref x_2)=true) (h6:Fa K "writing" "writing" kP x_57 d6) (tb_57:(W.tabIn K "writing").isSome=true) (a7:W.findIn K (.ref y_Numbers) "__init__" =some (some (.ref x_1))) (h7:Fun K "__init__" "Numbers.__init__" s_1 x_1 d7) (fn7:W.isFn K (.ref x_1)=true) (h8:Fa K "counting" "counting" kz x_40 d8) (tb_40:(W.tabIn K "counting").isSome=true) (h9:Fa K "_law_sure" "_law_sure" kQ x_30 d9) (tb_30:(W.tabIn K "_law_sure").isSome=true) (h10:Fa K "_law_weak" "_law_weak" kE x_34 d10) (tb_34:(W.tabIn K "_law_weak").isSome=true) (h11:Fa K "_law_stamper" "_law_stamper" ye x_29 d11) (h12:Fa K "_law_cell_at" "_law_cell_at" wI x_13 d12) (h13:Fa K "_law_count_by" "_law_count_by" wu x_14 d13) (h14:Fa K "_law_way" "_law_way" xI x_33 d14) (h15:Fa K "_law_text_by" "_law_text_by" xJ x_32 d15) (h16:Fa K "_law_stamp_by" "_law_stamp_by" vJ x_28 d16) (h17:Fa K "_law_mark" "_law_mark" vI x_18 d17) (h18:Fa K "_law_no_count" "_law_no_count" wL x_20 d18) (h19:Fa K "_law_no_place" "_law_no_place" vN x_23 d19) (h20:Fa K "_law_no_stamp" "_law_no_stamp" yi x_24 d20) (h21:Fa K "_law_no_paper" "_law_no_paper" xp x_22 d21) (h22:Fa K "_law_first" "_law_first" xM x_15 d22) (h23:Fa K "_law_flags" "_law_flags" wO x_16 d23) (h24:Fa K "_law_is" "_law_is" wG x_17 d24) (h25:Fa K "is_count" "is_count" vL x_43 d25) (h26:Fa K "is_place" "is_place" xF x_45 d26) (h27:Fa K "half" "half" xk x_42 d27) (h28:Fa K "ways" "ways" xY x_56 d28) (h29:Fa K "are_marks" "are_marks" vO x_38 d29) (h30:Fa K "is_place_paper" "is_place_paper" wa x_46 d30) (h31:Fa K "joint" "joint" xG x_50 d31) (h32:Fa K "place_terms" "place_terms" lZ x_55 d32) (h33:Fa K "place_mark" "place_mark" mC x_54 d33) (h34:Fa K "is_head" "is_head" xA x_44 d34) (h35:Fa K "check_head" "check_head" mf x_39 d35) (a36:W.findIn K (.ref y_Broken) "__init__" =some (some (.ref x_0))) (h36:Fun K "__init__" "Broken.__init__" s_0 x_0 d36) (fn36:W.isFn K (.ref x_0)=true) (h37:Fa K "place_answer" "place_answer" mw x_53 d37) (h38:Fa K "_law_caught" "_law_caught" xQ x_12 d38) (h39:Fa K "_law_other" "_law_other" xC x_25 d39) (h40:Fa K "_law_no_head" "_law_no_head" vG x_21 d40) (h41:Fa K "_law_refused" "_law_refused" vP x_26 d41) (a42:W.findIn K (.ref y_Row) "__init__" =some (some (.ref x_3))) (h42:Fun K "__init__" "Row.__init__" s_3 x_3 d42) (fn42:W.isFn K (.ref x_3)=true) (a43:W.findIn K (.ref y_Row) "add" =some (some (.ref x_4))) (h43:Fun K "add" "Row.add" s_4 x_4 d43) (fn43:W.isFn K (.ref x_4)=true) (h44:Fa K "_law_near" "_law_near" xa x_19 d44) (a45:W.findIn K (.ref y_Row) "size" =some (some (.ref x_8))) (h45:Fun K "size" "Row.size" s_8 x_8 d45) (fn45:W.isFn K (.ref x_8)=true) (a46:W.findIn K (.ref y_Row) "has_place" =some (some (.ref x_6))) (h46:Fun K "has_place" "Row.has_place" s_6 x_6 d46) (fn46:W.isFn K (.ref x_6)=true) (a47:W.findIn K (.ref y_Row) "entry" =some (some (.ref x_5))) (h47:Fun K "entry" "Row.entry" s_5 x_5 d47) (fn47:W.isFn K (.ref x_5)=true) (a48:W.findIn K (.ref y_Row) "top_term" =some (some (.ref x_10))) (h48:Fun K "top_term" "Row.top_term" wg x_10 d48) (fn48:W.isFn K (.ref x_10)=true) (a49:W.findIn K (.ref y_Row) "top_of" =some (some (.ref x_9))) (h49:Fun K "top_of" "Row.top_of" s_9 x_9 d49) (fn49:W.isFn K (.ref x_9)=true) (a50:W.findIn K (.ref y_Row) "place_paper" =some (some (.ref x_7))) (h50:Fun K "place_paper" "Row.place_paper" s_7 x_7 d50) (fn50:W.isFn K (.ref x_7)=true) (h51:Fa K "_law_asked" "_law_asked" xB x_11 d51) (h52:Fa K "_law_whole" "_law_whole" wJ x_36 d52) (h53:Fa K "_law_within" "_law_within" wR x_37 d53) (h54:Fa K "_law_rows" "_law_rows" wK x_27 d54) (h55:Fa K "law" "law" yg x_51 d55) (pg_Numbers:W.plainGet K y_Numbers Str.empty=true) (hd_Numbers:W.hasDictIn K y_Numbers=true) (po_Numbers:W.plainOver K y_Numbers=true) (sa_Numbers:W.findIn K (.ref y_Numbers) "__setattr__" =some (some (.builtin "object.__setattr__"))) (na_Numbers_given:W.findIn K (.ref y_Numbers) "given" =some none) (pg_Row:W.plainGet K y_Row Str.empty=true) (hd_Row:W.hasDictIn K y_Row=true) (po_Row:W.plainOver K y_Row=true) (sa_Row:W.findIn K (.ref y_Row) "__setattr__" =some (some (.builtin "object.__setattr__"))) (na_Row_stamper:W.findIn K (.ref y_Row) "stamper" =some none) (na_Row_entries:W.findIn K (.ref y_Row) "entries" =some none) (na_Row_tops:W.findIn K (.ref y_Row) "tops" =some none) (mk_Numbers:W.makesIn K y_Numbers=true) (kc_Numbers:W.keepIn K (.ref y_Numbers)=true) (mk_Row:W.makesIn K y_Row=true) (kc_Row:W.keepIn K (.ref y_Row)=true) (eo_NoStamp:W.excIn K y_NoStamp veM "ValueError.__new__" =true) (eo2_Broken:kW K y_Broken=true) (eo_NoPaper:W.excIn K y_NoPaper veM "ValueError.__new__" =true) (eo_NoPlace:W.excIn K y_NoPlace veM "ValueError.__new__" =true) (eo_NoHead:W.excIn K y_NoHead veM "ValueError.__new__" =true) (eo_StampError:W.excIn K y_StampError veM "ValueError.__new__" =true) (sa_Broken:W.findIn K (.ref y_Broken) "__setattr__" =some (some (.builtin "object.__setattr__"))) (hd_Broken:W.hasDictIn K y_Broken=true) (na_Broken_came:W.findIn K (.ref y_Broken) "came" =some none) (na_Broken_due:W.findIn K (.ref y_Broken) "due" =some none) (kc_Broken:W.keepIn K (.ref y_Broken)=true) (e0_NoPaper:W.findIn K (.ref y_NoPaper) "__getattribute__" =some (some (.builtin "BaseException.__getattribute__"))) (e1_NoPaper:W.findIn K (.ref y_NoPaper) "__getattr__" =some none) (e2_NoPaper:W.findIn K (.ref y_NoPaper) "__class__" =some (some (.builtin "object.__class__"))) (em0_NoPaper:W.mroIn K y_NoPaper (.type "object")=some true) (em1_NoPaper:W.mroIn K y_NoPaper (.type "BaseException")=some true) (e0_NoPlace:W.findIn K (.ref y_NoPlace) "__getattribute__" =some (some (.builtin "BaseException.__getattribute__"))) (e1_NoPlace:W.findIn K (.ref y_NoPlace) "__getattr__" =some none) (e2_NoPlace:W.findIn K (.ref y_NoPlace) "__class__" =some (some (.builtin "object.__class__"))) (em0_NoPlace:W.mroIn K y_NoPlace (.type "object")=some true) (em1_NoPlace:W.mroIn K y_NoPlace (.type "BaseException")=some true) (e0_NoHead:W.findIn K (.ref y_NoHead) "__getattribute__" =some (some (.builtin "BaseException.__getattribute__"))) (e1_NoHead:W.findIn K (.ref y_NoHead) "__getattr__" =some none) (e2_NoHead:W.findIn K (.ref y_NoHead) "__class__" =some (some (.builtin "object.__class__"))) (em0_NoHead:W.mroIn K y_NoHead (.type "object")=some true) (em1_NoHead:W.mroIn K y_NoHead (.type "BaseException")=some true) (e0_Broken:W.findIn K (.ref y_Broken) "__getattribute__" =some (some (.builtin "BaseException.__getattribute__"))) (e1_Broken:W.findIn K (.ref y_Broken) "__getattr__" =some none) (e2_Broken:W.findIn K (.ref y_Broken) "__class__" =some (some (.builtin "object.__class__"))) (em0_Broken:W.mroIn K y_Broken (.type "object")=some true) (em1_Broken:W.mroIn K y_Broken (.type "BaseException")=some true) (e0_NoStamp:W.findIn K (.ref y_NoStamp) "__getattribute__" =some (some (.builtin "BaseException.__getattribute__"))) (e1_NoStamp:W.findIn K (.ref y_NoStamp) "__getattr__" =some none) (e2_NoStamp:W.findIn K (.ref y_NoStamp) "__class__" =some (some (.builtin "object.__class__"))) (em0_NoStamp:W.mroIn K y_NoStamp (.type "object")=some true) (em1_NoStamp:W.mroIn K y_NoStamp (.type "BaseException")=some true) (sb_NoPaper_StampError:W.mroIn K y_NoPaper (.ref y_StampError)=some true) (sb_NoPlace_StampError:W.mroIn K y_NoPlace (.ref y_StampError)=some true) (sb_NoHead_StampError:W.mroIn K y_NoHead (.ref y_StampError)=some true) (sb_Broken_StampError:W.mroIn K y_Broken (.ref y_StampError)=some true) (sb_NoStamp_StampError:W.mroIn K y_NoStamp (.ref y_StampError)=some true) (ki_NoPaper_ValueError:W.kitOne K (.ref y_NoPaper) (.type "ValueError")=some true) (ki_NoPaper_NoStamp:W.kitOne K (.ref y_NoPaper) (.ref y_NoStamp)=some false) (ki_NoPaper_Broken:W.kitOne K (.ref y_NoPaper) (.ref y_Broken)=some false) (ki_NoPaper_NoPaper:W.kitOne K (.ref y_NoPaper) (.ref y_NoPaper)=some true) (ki_NoPaper_NoPlace:W.kitOne K (.ref y_NoPaper) (.ref y_NoPlace)=some false) (ki_NoPaper_NoHead:W.kitOne K (.ref y_NoPaper) (.ref y_NoHead)=some false) (ki_NoPlace_ValueError:W.kitOne K (.ref y_NoPlace) (.type "ValueError")=some true) (ki_NoPlace_NoStamp:W.kitOne K (.ref y_NoPlace) (.ref y_NoStamp)=some false) (ki_NoPlace_Broken:W.kitOne K (.ref y_NoPlace) (.ref y_Broken)=some false) (ki_NoPlace_NoPaper:W.kitOne K (.ref y_NoPlace) (.ref y_NoPaper)=some false) (ki_NoPlace_NoPlace:W.kitOne K (.ref y_NoPlace) (.ref y_NoPlace)=some true) (ki_NoPlace_NoHead:W.kitOne K (.ref y_NoPlace) (.ref y_NoHead)=some false) (ki_NoHead_ValueError:W.kitOne K (.ref y_NoHead) (.type "ValueError")=some true) (ki_NoHead_NoStamp:W.kitOne K (.ref y_NoHead) (.ref y_NoStamp)=some false) (ki_NoHead_Broken:W.kitOne K (.ref y_NoHead) (.ref y_Broken)=some false) (ki_NoHead_NoPaper:W.kitOne K (.ref y_NoHead) (.ref y_NoPaper)=some false) (ki_NoHead_NoPlace:W.kitOne K (.ref y_NoHead) (.ref y_NoPlace)=some false) (ki_NoHead_NoHead:W.kitOne K (.ref y_NoHead) (.ref y_NoHead)=some true) (ki_Broken_ValueError:W.kitOne K (.ref y_Broken) (.type "ValueError")=some true) (ki_Broken_NoStamp:W.kitOne K (.ref y_Broken) (.ref y_NoStamp)=some false) (ki_Broken_Broken:W.kitOne K (.ref y_Broken) (.ref y_Broken)=some true) (ki_Broken_NoPaper:W.kitOne K (.ref y_Broken) (.ref y_NoPaper)=some false) (ki_Broken_NoPlace:W.kitOne K (.ref y_Broken) (.ref y_NoPlace)=some false) (ki_Broken_NoHead:W.kitOne K (.ref y_Broken) (.ref y_NoHead)=some false) (ki_NoStamp_ValueError:W.kitOne K (.ref y_NoStamp) (.type "ValueError")=some true) (ki_NoStamp_NoStamp:W.kitOne K (.ref y_NoStamp) (.ref y_NoStamp)=some true) (ki_NoStamp_Broken:W.kitOne K (.ref y_NoStamp) (.ref y_Broken)=some false) (ki_NoStamp_NoPaper:W.kitOne K (.ref y_NoStamp) (.ref y_NoPaper)=some false) (ki_NoStamp_NoPlace:W.kitOne K (.ref y_NoStamp) (.ref y_NoPlace)=some false) (ki_NoStamp_NoHead:W.kitOne K (.ref y_NoStamp) (.ref y_NoHead)=some false) (z_ValueError:W.nsIn K mainGlobals "ValueError" =some none) (z_all:W.nsIn K mainGlobals "all" =some none) (z_bool:W.nsIn K mainGlobals "bool" =some none) (z_int:W.nsIn K mainGlobals "int" =some none) (z_isinstance:W.nsIn K mainGlobals "isinstance" =some none) (z_len:W.nsIn K mainGlobals "len" =some none) (z_list:W.nsIn K mainGlobals "list" =some none) (z_max:W.nsIn K mainGlobals "max" =some none) (z_min:W.nsIn K mainGlobals "min" =some none) (z_range:W.nsIn K mainGlobals "range" =some none) (z_reversed:W.nsIn K mainGlobals "reversed" =some none) (z_str:W.nsIn K mainGlobals "str" =some none) (z_tuple:W.nsIn K mainGlobals "tuple" =some none) (z_zip:W.nsIn K mainGlobals "zip" =some none) (c_MOST_PARTS:W.nsIn K mainGlobals "MOST_PARTS" =some (some (.int 8 tc0))) (nt:W.noTabs K=true) (td:mX K ["writing", "counting", "_law_sure", "_law_weak"]=true):so P w K mg fa:=by
 cases hfa.symm.trans (W.mg_of X G h55.m)
 obtain ⟨⟨z_57,t_57⟩,tb_57⟩:=Option.isSome_iff_exists.mp tb_57
 obtain ⟨⟨z_40,t_40⟩,tb_40⟩:=Option.isSome_iff_exists.mp tb_40
 obtain ⟨⟨z_30,t_30⟩,tb_30⟩:=Option.isSome_iff_exists.mp tb_30
 obtain ⟨⟨z_34,t_34⟩,tb_34⟩:=Option.isSome_iff_exists.mp tb_34
 have tdn:([t_57,t_40,t_30,t_34]:List Addr).Nodup:=wX (by unfold mX at td;simp only [List.map_cons,List.map_nil,tb_57,tb_40,tb_30,tb_34,Option.map_some] at td;exact of_decide_eq_true td)
 exact Av (A:=⟨x_49,d0,x_47,d1,x_48,d2,x_52,d3,x_59,d4,x_2,d5,x_57,d6,x_1,d7,x_40,d8,x_30,d9,x_34,d10,x_29,d11,x_13,d12,x_14,d13,x_33,d14,x_32,d15,x_28,d16,x_18,d17,x_20,d18,x_23,d19,x_24,d20,x_22,d21,x_15,d22,x_16,d23,x_17,d24,x_43,d25,x_45,d26,x_42,d27,x_56,d28,x_38,d29,x_46,d30,x_50,d31,x_55,d32,x_54,d33,x_44,d34,x_39,d35,x_0,d36,x_53,d37,x_12,d38,x_25,d39,x_21,d40,x_26,d41,x_3,d42,x_4,d43,x_19,d44,x_8,d45,x_6,d46,x_5,d47,x_10,d48,x_9,d49,x_7,d50,x_11,d51,x_36,d52,x_37,d53,x_27,d54,fa,d55,z_57,t_57,z_40,t_40,z_30,t_30,z_34,t_34,y_NoStamp,y_Broken,y_NoPaper,y_NoPlace,y_NoHead,y_StampError,y_Numbers,y_Row⟩) ⟨h0.fm1 X G,h1.fm1 X G,h2.fm1 X G,h3.fm1 X G,h4.fm1 X G,h5,h5.b2,h6.fm0 X G,h7,h7.b1,h8.fm0 X G,h9.fm1 X G,h10.fm1 X G,h11.fm1 X G,h12.fm2 X G,h13.fm1 X G,h14.fm2 X G,h15.fm1 X G,h16.fm1 X G,h17.fm4 X G,h18.fm2 X G,h19.fm2 X G,h20.fm1 X G,h21.fm2 X G,h22.fm1 X G,h23.fm1 X G,h24.fm2 X G,h25.fm1 X G,h26.fm2 X G,h27.fm1 X G,h28.fm2 X G,h29.fm2 X G,h30.fm2 X G,h31.fm3 X G,h32.fm4 X G,h33.fm4 X G,h34.fm1 X G,h35.fm1 X G,h36,h36.b3,h37.fm4 X G,h38.fm5 X G,h39.fm2 X G,h40.fm3 X G,h41.fm6 X G,h42,h42.b2,h43,h43.b2,h44.fm2 X G,h45,h45.b1,h46,h46.b3,h47,h47.b2,h48,h48.b3,h49,h49.b3,h50,h50.b3,h51.fm4 X G,h52.fm1 X G,h53.fm2 X G,h54.fm2 X G,h55.fm1 X G,W.mg_none_of X G z_ValueError,W.mg_none_of X G z_all,W.mg_none_of X G z_bool,W.mg_none_of X G z_int,W.mg_none_of X G z_isinstance,W.mg_none_of X G z_len,W.mg_none_of X G z_list,W.mg_none_of X G z_max,W.mg_none_of X G z_min,W.mg_none_of X G z_range,W.mg_none_of X G z_reversed,W.mg_none_of X G z_str,W.mg_none_of X G z_tuple,W.mg_none_of X G z_zip,⟨_,W.mg_of X G c_MOST_PARTS⟩,h6.code X G tb_57,h8.code X G tb_40,h9.code X G tb_30,h10.code X G tb_34,W.mg_of X G bc_NoStamp,cN.ok eo_NoStamp,W.mg_of X G bc_Broken,eo2_Broken,W.mg_of X G bc_NoPaper,cN.ok eo_NoPaper,W.mg_of X G bc_NoPlace,cN.ok eo_NoPlace,W.mg_of X G bc_NoHead,cN.ok eo_NoHead,W.mg_of X G bc_StampError,cN.ok eo_StampError,eo_NoPaper,eo_NoPlace,eo_NoHead,eo_NoStamp,⟨e0_NoPaper,e1_NoPaper,e2_NoPaper,em0_NoPaper,em1_NoPaper⟩,⟨e0_NoPlace,e1_NoPlace,e2_NoPlace,em0_NoPlace,em1_NoPlace⟩,⟨e0_NoHead,e1_NoHead,e2_NoHead,em0_NoHead,em1_NoHead⟩,⟨e0_Broken,e1_Broken,e2_Broken,em0_Broken,em1_Broken⟩,⟨e0_NoStamp,e1_NoStamp,e2_NoStamp,em0_NoStamp,em1_NoStamp⟩,⟨eo2_Broken,sa_Broken,⟨e0_Broken,e1_Broken,e2_Broken,em0_Broken,em1_Broken⟩,na_Broken_came,hd_Broken⟩,⟨eo2_Broken,sa_Broken,⟨e0_Broken,e1_Broken,e2_Broken,em0_Broken,em1_Broken⟩,na_Broken_due,hd_Broken⟩,⟨eo2_Broken,a36,fn36,kc_Broken⟩,gh sb_NoPaper_StampError,gh sb_NoPlace_StampError,gh sb_NoHead_StampError,gh sb_Broken_StampError,gh sb_NoStamp_StampError,ki_NoPaper_ValueError,ki_NoPaper_NoStamp,ki_NoPaper_Broken,ki_NoPaper_NoPaper,ki_NoPaper_NoPlace,ki_NoPaper_NoHead,ki_NoPlace_ValueError,ki_NoPlace_NoStamp,ki_NoPlace_Broken,ki_NoPlace_NoPaper,ki_NoPlace_NoPlace,ki_NoPlace_NoHead,ki_NoHead_ValueError,ki_NoHead_NoStamp,ki_NoHead_Broken,ki_NoHead_NoPaper,ki_NoHead_NoPlace,ki_NoHead_NoHead,ki_Broken_ValueError,ki_Broken_NoStamp,ki_Broken_Broken,ki_Broken_NoPaper,ki_Broken_NoPlace,ki_Broken_NoHead,ki_NoStamp_ValueError,ki_NoStamp_NoStamp,ki_NoStamp_Broken,ki_NoStamp_NoPaper,ki_NoStamp_NoPlace,ki_NoStamp_NoHead,W.mg_of X G bo_Numbers,⟨pg_Numbers,hd_Numbers,po_Numbers,sa_Numbers⟩,na_Numbers_given,W.mg_of X G bo_Row,⟨pg_Row,hd_Row,po_Row,sa_Row⟩,na_Row_stamper,na_Row_entries,na_Row_tops,⟨a45,fn45,h45.kp⟩,⟨a46,fn46,h46.kp⟩,⟨a49,fn49,h49.kp⟩,⟨a48,fn48,h48.kp⟩,⟨a43,fn43,h43.kp⟩,⟨a47,fn47,h47.kp⟩,⟨a50,fn50,h50.kp⟩,⟨a5,fn5,h5.kp⟩,⟨mk_Numbers,a7,fn7,kc_Numbers⟩,⟨mk_Row,a42,fn42,kc_Row⟩⟩ nt tb_57 tb_40 tb_30 tb_34 tdn
theorem Iz {l:W.OpenLaw} {q:Program} {loose:List Str} {XP:(Str→Option Value)→Heap→Prop} {YP:World→Heap→Prop} {d:DefRec} {K:Params→W.Frag} (hn:l.most=some 63) (hdf:d.params.defaults=[])
  (hY:∀ (w:World) (h:Heap),YP w h→(K w.params).In h) (hq:∀ y∈(["writing", "counting", "_law_sure", "_law_weak"]:List Str),((PyProof.Rows.recsOf q).find? fun e=>e.name==y).isSome=true)
  (F:∀ (w:World) (mg:Str→Option Value) (fa:Addr) (h:Heap),(K w.params).In h→h.Ns mainGlobals mg→mg d.name=some (.ref fa)→so l.prog w (K w.params) mg fa):
  W.WalkO q loose XP YP l.row.toRowW d [] (fun f vs=>PySem.call f vs):=
 L2.wb (n:=63) (k:=149) (x:= "_law_script") (CX:=fun w=>CX1 l.prog w) hn (by decide) hdf ⟨rfl,by decide,by decide⟩ hY hq F fun _ _ _ _ _ ⟨_,_,_,_,_,_,z⟩=>z
end
end Rs
def PySem.W.Fast.tw11817200003945006293:Unit:=()
def PySem.W.Fast.tw8924388302053408394:Unit:=()
def PySem.W.Fast.tw2855361092107257975:Unit:=()
def PySem.W.Fast.tw12239492117142897453:Unit:=()
def PySem.W.Fast.tw13516500653669949097:Unit:=()
def PySem.W.Fast.tw8864266348488519180:Unit:=()
def PySem.W.Fast.tw12376650366399882935:Unit:=()
def PySem.W.Fast.tw8282267814771284886:Unit:=()
def PySem.W.Fast.tw459794441754979401:Unit:=()
def PySem.W.Fast.tw16237835446122133048:Unit:=()
def PySem.W.Fast.tw2487109937886376119:Unit:=()
def PySem.W.Fast.tw16435668170208399861:Unit:=()
def PySem.W.Fast.tw4219466700766538623:Unit:=()
def PySem.W.Fast.tw3658697585949951050:Unit:=()
def PySem.W.Fast.tw14973423582310398955:Unit:=()
def PySem.W.Fast.tw14475640111835051454:Unit:=()
def PySem.W.Fast.tw16357104689198119091:Unit:=()
def PySem.W.Fast.tw17348613418996915734:Unit:=()
def PySem.W.Fast.tw18364724507840632795:Unit:=()
def PySem.W.Fast.tw15447191736588632981:Unit:=()
def PySem.W.Fast.tw16825610083137949965:Unit:=()
def PySem.W.Fast.tw17028670671485434103:Unit:=()
def PySem.W.Fast.tw8987278356612932729:Unit:=()
def PySem.W.Fast.tw7469129456825707086:Unit:=()
def PySem.W.Fast.tw17331038311898406555:Unit:=()
def PySem.W.Fast.tw11564013416813140619:Unit:=()
def PySem.W.Fast.tw7325182489492105245:Unit:=()
def PySem.W.Fast.tw12400207446153958756:Unit:=()
def PySem.W.Fast.tw125856175468582069:Unit:=()
def PySem.W.Fast.tw5149240903076676938:Unit:=()
def PySem.W.Fast.tw5959970634284102928:Unit:=()
def PySem.W.Fast.tw4332398275047161624:Unit:=()
def PySem.W.Fast.tw50069989026659768:Unit:=()
def PySem.W.Fast.tw4910129415496221262:Unit:=()
def PySem.W.Fast.tw9125936532452265924:Unit:=()
def PySem.W.Fast.tw5274441857808960601:Unit:=()
def PySem.W.Fast.tw9900415295164225112:Unit:=()
def PySem.W.Fast.tw12263125244442874732:Unit:=()
def PySem.W.Fast.tw6799540101199721916:Unit:=()
def PySem.W.Fast.tw10374279823035743820:Unit:=()
def PySem.W.Fast.tw12322145407392174371:Unit:=()
def PySem.W.Fast.tw9046223053492309416:Unit:=()
def PySem.W.Fast.tw9548339064351642017:Unit:=()
def PySem.W.Fast.tw5773695058220751670:Unit:=()
def PySem.W.Fast.tw18225537309692379641:Unit:=()
def PySem.W.Fast.tw14747873541030040782:Unit:=()
def PySem.W.Fast.tw7471101794856501677:Unit:=()
def PySem.W.Fast.tw11571244673648994888:Unit:=()
def PySem.W.Fast.tw6832144875105284441:Unit:=()
def PySem.W.Fast.tw18257956896032665901:Unit:=()
def PySem.W.Fast.tw13870013955065903480:Unit:=()
def PySem.W.Fast.tw13838536498605403825:Unit:=()
def PySem.W.Fast.tw3116320074736606684:Unit:=()
def PySem.W.Fast.tw8724362489007685020:Unit:=()
def PySem.W.Fast.tw10133746865341221476:Unit:=()
def PySem.W.Fast.tw16311128259223050741:Unit:=()
def PySem.W.Fast.tw4482217866771267970:Unit:=()
def PySem.W.Fast.tw11923859589912587207:Unit:=()
def PySem.W.Fast.tw7510878195715426659:Unit:=()
def PySem.W.Fast.tw14061277964202604658:Unit:=()
def PySem.W.Fast.tw7564455119848311845:Unit:=()
def PySem.W.Fast.tw9056349368367232380:Unit:=()
def PySem.W.Fast.tw9891911268451372230:Unit:=()
def PySem.W.Fast.tw10650922029739536304:Unit:=()
def PySem.W.Fast.tw15384059555637857041:Unit:=()
def PySem.W.Fast.tw361295355318349196:Unit:=()
def PySem.W.Fast.tw15659526847488436672:Unit:=()
def PySem.W.Fast.tw9851282943050821164:Unit:=()
def PySem.W.Fast.tw3818817679101102513:Unit:=()
def PySem.W.Fast.tw5159225806850959413:Unit:=()
def PySem.W.Fast.tw1853331939328027345:Unit:=()
def PySem.W.Fast.tw10745945871579177473:Unit:=()
def PySem.W.Fast.tw18328304117411973254:Unit:=()
def PySem.W.Fast.tw3157843665425444924:Unit:=()
def PySem.W.Fast.tw11520410852465068692:Unit:=()
def PySem.W.Fast.tw5652958652303411871:Unit:=()
def PySem.W.Fast.tw1075971210957148863:Unit:=()
def PySem.W.Fast.tw8642340377218358121:Unit:=()
def PySem.W.Fast.tw3224243600105759597:Unit:=()
def PySem.W.Fast.tw10360302682706885365:Unit:=()
def PySem.W.Fast.tw3175671419522416914:Unit:=()
def PySem.W.Fast.tw18141807327066489991:Unit:=()
def PySem.W.Fast.tw8870632314328503989:Unit:=()
def PySem.W.Fast.tw9236100641936034583:Unit:=()
def PySem.W.Fast.tw14376673196178816742:Unit:=()
def PySem.W.Fast.tw13678305823435537227:Unit:=()
def PySem.W.Fast.tw5302270499954636834:Unit:=()
def PySem.W.Fast.tw3852692828070939070:Unit:=()
def PySem.W.Fast.tw7944813366176177560:Unit:=()
def PySem.W.Fast.tw5713461511599060429:Unit:=()
def PySem.W.Fast.tw10719101094026520206:Unit:=()
def PySem.W.Fast.tw4734257045738499894:Unit:=()
def PySem.W.Fast.tw12785283107470128666:Unit:=()
def PySem.W.Fast.tw17377549852385694687:Unit:=()
def PySem.W.Fast.tw9832704455809418332:Unit:=()
def PySem.W.Fast.tw12031870431674005409:Unit:=()
def PySem.W.Fast.tw2993607433844102804:Unit:=()
def PySem.W.Fast.tw12299807116846221805:Unit:=()
def PySem.W.Fast.tw14308383104371918739:Unit:=()
def PySem.W.Fast.tw18362129499201441562:Unit:=()
def PySem.W.Fast.tw3439956447852363411:Unit:=()
def PySem.W.Fast.tw1661534811649836094:Unit:=()
def PySem.W.Fast.tw195953646504554617:Unit:=()
def PySem.W.Fast.tw10254860572379515982:Unit:=()
def PySem.W.Fast.tw17208611235914024169:Unit:=()
def PySem.W.Fast.tw10565116931503141522:Unit:=()
def PySem.W.Fast.tw9244193722355084468:Unit:=()
def PySem.W.Fast.tw1047183088398506797:Unit:=()
def PySem.W.Fast.tw319214883527848678:Unit:=()
def PySem.W.Fast.tw15240721409208141310:Unit:=()
def PySem.W.Fast.tw2358450835388092876:Unit:=()
def PySem.W.Fast.tw3341358618785882491:Unit:=()
def PySem.W.Fast.tw3547000367534116417:Unit:=()
def PySem.W.Fast.tw11929979840558011308:Unit:=()
def PySem.W.Fast.tw10622380184657001833:Unit:=()
def PySem.W.Fast.tw14303651271968773686:Unit:=()
def PySem.W.Fast.tw5915665402603753879:Unit:=()
def PySem.W.Fast.tw14886675805318885241:Unit:=()
def PySem.W.Fast.tw15124085328934521281:Unit:=()
def PySem.W.Fast.tw14409716619682648128:Unit:=()
def PySem.W.Fast.tw3668228718236880241:Unit:=()
def PySem.W.Fast.tw8785013128234409793:Unit:=()
def PySem.W.Fast.tw168226445522442762:Unit:=()
def PySem.W.Fast.tw963626428527053574:Unit:=()
def PySem.W.Fast.tw3703092441344057806:Unit:=()
def PySem.W.Fast.tw1633308719083243483:Unit:=()
def PySem.W.Fast.tw3752259083028694094:Unit:=()
def PySem.W.Fast.tw2112908564303105290:Unit:=()
def PySem.W.Fast.tw16712366435587520194:Unit:=()
def PySem.W.Fast.tw14952637345924390751:Unit:=()
def PySem.W.Fast.tw16323976415798305778:Unit:=()
def PySem.W.Fast.tw18283232024992035385:Unit:=()
def PySem.W.Fast.tw1137090632713407026:Unit:=()
def PySem.W.Fast.tw16604407340821413653:Unit:=()
def PySem.W.Fast.tw7037605844821786573:Unit:=()
def PySem.W.Fast.tw8006075322933574254:Unit:=()
def PySem.W.Fast.tw13932346102744165320:Unit:=()
def PySem.W.Fast.tw16775795940436054188:Unit:=()
def PySem.W.Fast.tw9815795047144741939:Unit:=()
def PySem.W.Fast.tw12524565344748420954:Unit:=()
def PySem.W.Fast.tw8335256587774757604:Unit:=()
def PySem.W.Fast.tw3996582361999743980:Unit:=()
def PySem.W.Fast.tw8969197428157119826:Unit:=()
def PySem.W.Fast.tw5467660199222022220:Unit:=()
def PySem.W.Fast.tw11894329400007892039:Unit:=()
def PySem.W.Fast.tw12360794851096949212:Unit:=()
def PySem.W.Fast.tw10831842318015701570:Unit:=()
def PySem.W.Fast.tw408998247080852124:Unit:=()
def PySem.W.Fast.tw1119920099001113163:Unit:=()
def PySem.W.Fast.tw17673307124334463442:Unit:=()
def PySem.W.Fast.tw2066657109151402428:Unit:=()
def PySem.W.Fast.tw15952849872743570758:Unit:=()
def PySem.W.Fast.tw456654178245559051:Unit:=()
def PySem.W.Fast.tw2217411319235067852:Unit:=()
def PySem.W.Fast.tw5521464537046964417:Unit:=()
def PySem.W.Fast.tw6651753533123878962:Unit:=()
def PySem.W.Fast.tw4761773418835929506:Unit:=()
def PySem.W.Fast.tw13274801136350985645:Unit:=()
def PySem.W.Fast.tw14859428892683789191:Unit:=()
def PySem.W.Fast.tw5998474511055443131:Unit:=()
def PySem.W.Fast.tw14568588726123148652:Unit:=()
def PySem.W.Fast.tw13459366997386132146:Unit:=()
def PySem.W.Fast.tw16053300158063236960:Unit:=()
def PySem.W.Fast.tw369229443828039873:Unit:=()
def PySem.W.Fast.tw14336242049418505420:Unit:=()
def PySem.W.Fast.tw13853767749016638253:Unit:=()
def PySem.W.Fast.tw10084317195352060424:Unit:=()
def PySem.W.Fast.tw12460146707044628513:Unit:=()
def PySem.W.Fast.tw8557312032479486081:Unit:=()
def PySem.W.Fast.tw17929212750316975716:Unit:=()
open PySem PySem.W PyProof.Rows
set_option maxRecDepth 100000 in
set_option maxHeartbeats 0 in
theorem PySem.Challenge.cw_rootstamp_k46_refusals_of_places_holds : PySem.Challenge.rw_rootstamp_k46_refusals_of_places.Holds := by
 w_on; o_law; k_head; (case hw => w_witness2)
 k_fill
 refine Rs.Iz (l := PySem.Challenge.rw_rootstamp_k46_refusals_of_places) rfl rfl (fun w h Y => by first | exact PySem.W.kIn_of Y | exact PySem.W.km_in_of Y) (by decide +kernel) ?F
 case F =>
  intro w mg fa h KX G hmg
  refine' Rs.Cc KX G hmg ?bo_Numbers ?bo_Row ?bc_NoStamp ?bc_Broken ?bc_NoPaper ?bc_NoPlace ?bc_NoHead ?bc_StampError (L2.ba ?a0 ?l0 ?c0 ?k0) (L2.ba ?a1 ?l1 ?c1 ?k1) (L2.ba ?a2 ?l2 ?c2 ?k2) (L2.ba ?a3 ?l3 ?c3 ?k3) (L2.ba ?a4 ?l4 ?c4 ?k4) ?a5 (L2.dw ?l5 ?c5 ?k5) ?fn5 (L2.ba ?a6 ?l6 ?c6 ?k6) ?tb_57 ?a7 (L2.dw ?l7 ?c7 ?k7) ?fn7 (L2.ba ?a8 ?l8 ?c8 ?k8) ?tb_40 (L2.ba ?a9 ?l9 ?c9 ?k9) ?tb_30 (L2.ba ?a10 ?l10 ?c10 ?k10) ?tb_34 (L2.ba ?a11 ?l11 ?c11 ?k11) (L2.ba ?a12 ?l12 ?c12 ?k12) (L2.ba ?a13 ?l13 ?c13 ?k13) (L2.ba ?a14 ?l14 ?c14 ?k14) (L2.ba ?a15 ?l15 ?c15 ?k15) (L2.ba ?a16 ?l16 ?c16 ?k16) (L2.ba ?a17 ?l17 ?c17 ?k17) (L2.ba ?a18 ?l18 ?c18 ?k18) (L2.ba ?a19 ?l19 ?c19 ?k19) (L2.ba ?a20 ?l20 ?c20 ?k20) (L2.ba ?a21 ?l21 ?c21 ?k21) (L2.ba ?a22 ?l22 ?c22 ?k22) (L2.ba ?a23 ?l23 ?c23 ?k23) (L2.ba ?a24 ?l24 ?c24 ?k24) (L2.ba ?a25 ?l25 ?c25 ?k25) (L2.ba ?a26 ?l26 ?c26 ?k26) (L2.ba ?a27 ?l27 ?c27 ?k27) (L2.ba ?a28 ?l28 ?c28 ?k28) (L2.ba ?a29 ?l29 ?c29 ?k29) (L2.ba ?a30 ?l30 ?c30 ?k30) (L2.ba ?a31 ?l31 ?c31 ?k31) (L2.ba ?a32 ?l32 ?c32 ?k32) (L2.ba ?a33 ?l33 ?c33 ?k33) (L2.ba ?a34 ?l34 ?c34 ?k34) (L2.ba ?a35 ?l35 ?c35 ?k35) ?a36 (L2.dw ?l36 ?c36 ?k36) ?fn36 (L2.ba ?a37 ?l37 ?c37 ?k37) (L2.ba ?a38 ?l38 ?c38 ?k38) (L2.ba ?a39 ?l39 ?c39 ?k39) (L2.ba ?a40 ?l40 ?c40 ?k40) (L2.ba ?a41 ?l41 ?c41 ?k41) ?a42 (L2.dw ?l42 ?c42 ?k42) ?fn42 ?a43 (L2.dw ?l43 ?c43 ?k43) ?fn43 (L2.ba ?a44 ?l44 ?c44 ?k44) ?a45 (L2.dw ?l45 ?c45 ?k45) ?fn45 ?a46 (L2.dw ?l46 ?c46 ?k46) ?fn46 ?a47 (L2.dw ?l47 ?c47 ?k47) ?fn47 ?a48 (L2.dw ?l48 ?c48 ?k48) ?fn48 ?a49 (L2.dw ?l49 ?c49 ?k49) ?fn49 ?a50 (L2.dw ?l50 ?c50 ?k50) ?fn50 (L2.ba ?a51 ?l51 ?c51 ?k51) (L2.ba ?a52 ?l52 ?c52 ?k52) (L2.ba ?a53 ?l53 ?c53 ?k53) (L2.ba ?a54 ?l54 ?c54 ?k54) (L2.ba ?a55 ?l55 ?c55 ?k55) ?pg_Numbers ?hd_Numbers ?po_Numbers ?sa_Numbers ?na_Numbers_given ?pg_Row ?hd_Row ?po_Row ?sa_Row ?na_Row_stamper ?na_Row_entries ?na_Row_tops ?mk_Numbers ?kc_Numbers ?mk_Row ?kc_Row ?eo_NoStamp ?eo2_Broken ?eo_NoPaper ?eo_NoPlace ?eo_NoHead ?eo_StampError ?sa_Broken ?hd_Broken ?na_Broken_came ?na_Broken_due ?kc_Broken ?e0_NoPaper ?e1_NoPaper ?e2_NoPaper ?em0_NoPaper ?em1_NoPaper ?e0_NoPlace ?e1_NoPlace ?e2_NoPlace ?em0_NoPlace ?em1_NoPlace ?e0_NoHead ?e1_NoHead ?e2_NoHead ?em0_NoHead ?em1_NoHead ?e0_Broken ?e1_Broken ?e2_Broken ?em0_Broken ?em1_Broken ?e0_NoStamp ?e1_NoStamp ?e2_NoStamp ?em0_NoStamp ?em1_NoStamp ?sb_NoPaper_StampError ?sb_NoPlace_StampError ?sb_NoHead_StampError ?sb_Broken_StampError ?sb_NoStamp_StampError ?ki_NoPaper_ValueError ?ki_NoPaper_NoStamp ?ki_NoPaper_Broken ?ki_NoPaper_NoPaper ?ki_NoPaper_NoPlace ?ki_NoPaper_NoHead ?ki_NoPlace_ValueError ?ki_NoPlace_NoStamp ?ki_NoPlace_Broken ?ki_NoPlace_NoPaper ?ki_NoPlace_NoPlace ?ki_NoPlace_NoHead ?ki_NoHead_ValueError ?ki_NoHead_NoStamp ?ki_NoHead_Broken ?ki_NoHead_NoPaper ?ki_NoHead_NoPlace ?ki_NoHead_NoHead ?ki_Broken_ValueError ?ki_Broken_NoStamp ?ki_Broken_Broken ?ki_Broken_NoPaper ?ki_Broken_NoPlace ?ki_Broken_NoHead ?ki_NoStamp_ValueError ?ki_NoStamp_NoStamp ?ki_NoStamp_Broken ?ki_NoStamp_NoPaper ?ki_NoStamp_NoPlace ?ki_NoStamp_NoHead ?z_ValueError ?z_all ?z_bool ?z_int ?z_isinstance ?z_len ?z_list ?z_max ?z_min ?z_range ?z_reversed ?z_str ?z_tuple ?z_zip ?c_MOST_PARTS ?nt ?td
  case bo_Numbers | bo_Row | bc_NoStamp | bc_Broken | bc_NoPaper | bc_NoPlace | bc_NoHead | bc_StampError | a0 | l0 | c0 | k0 | a1 | l1 | c1 | k1 | a2 | l2 | c2 | k2 | a3 | l3 | c3 | k3 | a4 | l4 | c4 | k4 | a5 | l5 | c5 | k5 | fn5 | a6 | l6 | c6 | k6 => k_is
  case tb_57 => kernel_rfl
  case a7 | l7 | c7 | k7 | fn7 | a8 | l8 | c8 | k8 => k_is
  case tb_40 => kernel_rfl
  case a9 | l9 | c9 | k9 => k_is
  case tb_30 => kernel_rfl
  case a10 | l10 | c10 | k10 => k_is
  case tb_34 => kernel_rfl
  case a11 | l11 | c11 | k11 | a12 | l12 | c12 | k12 | a13 | l13 | c13 | k13 | a14 | l14 | c14 | k14 | a15 | l15 | c15 | k15 | a16 | l16 | c16 | k16 | a17 | l17 | c17 | k17 | a18 | l18 | c18 | k18 | a19 | l19 | c19 | k19 | a20 | l20 | c20 | k20 | a21 | l21 | c21 | k21 | a22 | l22 | c22 | k22 | a23 | l23 | c23 | k23 | a24 | l24 | c24 | k24 | a25 | l25 | c25 | k25 | a26 | l26 | c26 | k26 | a27 | l27 | c27 | k27 | a28 | l28 | c28 | k28 | a29 | l29 | c29 | k29 | a30 | l30 | c30 | k30 | a31 | l31 | c31 | k31 | a32 | l32 | c32 | k32 | a33 | l33 | c33 | k33 | a34 | l34 | c34 | k34 | a35 | l35 | c35 | k35 | a36 | l36 | c36 | k36 | fn36 | a37 | l37 | c37 | k37 | a38 | l38 | c38 | k38 | a39 | l39 | c39 | k39 | a40 | l40 | c40 | k40 | a41 | l41 | c41 | k41 | a42 | l42 | c42 | k42 | fn42 | a43 | l43 | c43 | k43 | fn43 | a44 | l44 | c44 | k44 | a45 | l45 | c45 | k45 | fn45 | a46 | l46 | c46 | k46 | fn46 | a47 | l47 | c47 | k47 | fn47 | a48 | l48 | c48 | k48 | fn48 | a49 | l49 | c49 | k49 | fn49 | a50 | l50 | c50 | k50 | fn50 | a51 | l51 | c51 | k51 | a52 | l52 | c52 | k52 | a53 | l53 | c53 | k53 | a54 | l54 | c54 | k54 | a55 | l55 | c55 | k55 | pg_Numbers | hd_Numbers | po_Numbers | sa_Numbers | na_Numbers_given | pg_Row | hd_Row | po_Row | sa_Row | na_Row_stamper | na_Row_entries | na_Row_tops | mk_Numbers | kc_Numbers | mk_Row | kc_Row => k_is
  case eo_NoStamp => k_exc
  case eo2_Broken => kernel_rfl
  case eo_NoPaper | eo_NoPlace | eo_NoHead | eo_StampError => k_exc
  case sa_Broken | hd_Broken | na_Broken_came | na_Broken_due | kc_Broken | e0_NoPaper | e1_NoPaper | e2_NoPaper | em0_NoPaper | em1_NoPaper | e0_NoPlace | e1_NoPlace | e2_NoPlace | em0_NoPlace | em1_NoPlace | e0_NoHead | e1_NoHead | e2_NoHead | em0_NoHead | em1_NoHead | e0_Broken | e1_Broken | e2_Broken | em0_Broken | em1_Broken | e0_NoStamp | e1_NoStamp | e2_NoStamp | em0_NoStamp | em1_NoStamp | sb_NoPaper_StampError | sb_NoPlace_StampError | sb_NoHead_StampError | sb_Broken_StampError | sb_NoStamp_StampError => k_is
  case ki_NoPaper_ValueError | ki_NoPaper_NoStamp | ki_NoPaper_Broken | ki_NoPaper_NoPaper | ki_NoPaper_NoPlace | ki_NoPaper_NoHead | ki_NoPlace_ValueError | ki_NoPlace_NoStamp | ki_NoPlace_Broken | ki_NoPlace_NoPaper | ki_NoPlace_NoPlace | ki_NoPlace_NoHead | ki_NoHead_ValueError | ki_NoHead_NoStamp | ki_NoHead_Broken | ki_NoHead_NoPaper | ki_NoHead_NoPlace | ki_NoHead_NoHead | ki_Broken_ValueError | ki_Broken_NoStamp | ki_Broken_Broken | ki_Broken_NoPaper | ki_Broken_NoPlace | ki_Broken_NoHead | ki_NoStamp_ValueError | ki_NoStamp_NoStamp | ki_NoStamp_Broken | ki_NoStamp_NoPaper | ki_NoStamp_NoPlace | ki_NoStamp_NoHead => kit_is
  case z_ValueError | z_all | z_bool | z_int | z_isinstance | z_len | z_list | z_max | z_min | z_range | z_reversed | z_str | z_tuple | z_zip | c_MOST_PARTS => k_is
  case nt | td => kernel_rfl

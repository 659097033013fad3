import PyProof.Rows.All
import Wide.All
import OpenK.AllK
import Wide.FinOn
import Lean
import PyProof.EqAt
import PyProof.EqKinds
import PyProof.TupleCall
import PyProof.P3In
import KE.KDictLaws
import KE.KTabLook
import KE.KRevIter
import KE.KItemsList
import PyProof.TupleOfGen
import KE.KSortTup
import KE.KDictSum
import KE.KEqDict
import PyProof.EnumMake
import PyProof.EnumFor
import PyProof.EnumStmt
import PySem.Challenge.RW_rootstamp_k27_slips_refused
set_option Elab.async false
set_option linter.all false
set_option maxRecDepth 100000
set_option maxHeartbeats 4000000
namespace L2
open PySem PySem.Spec PyProof.Rows
abbrev Key:=Sum Int Str
def jh:Key→Value→Bool
 | .inl k,v=>Value.isInt k v
 | .inr x,v=>Value.isStrOf x v
def Hf (w:World):Key→Int
 | .inl k=>hashInt k
 | .inr x=>hashStr w x
theorem cp : ∀ {k : Key} {v : Value}, jh k v = true → (∃ i t, k = Sum.inl i ∧ v = Value.int i t) ∨ (∃ x t, k = Sum.inr x ∧ v = Value.str x t)
  | .inl i, v, h => by
    obtain ⟨t, e⟩ := Value.isInt_shape (k := i) (v := v) h
    exact .inl ⟨i, t, rfl, e⟩
  | .inr x, v, h => by
    obtain ⟨t, e⟩ := Value.isStrOf_shape (x := x) (v := v) h
    exact .inr ⟨x, t, rfl, e⟩
theorem va (i:Int) (t:Tok):jh (.inl i) (.int i t)=true:=by simp [jh,Value.isInt]
theorem tY (x:Str) (t:Tok):jh (.inr x) (.str x t)=true:=by simp [jh,Value.isStrOf]
theorem AX (a b:Int):decide ((Sum.inl a:Key)=Sum.inl b)=(a==b):=by
 by_cases e:a=b
 · subst e;simp
 · have h:¬ (Sum.inl a:Key)=Sum.inl b:=fun q=>e (Sum.inl.inj q)
   rw [decide_eq_false h]
   exact (beq_eq_false_iff_ne.mpr e).symm
theorem Cr (a b:Str):decide ((Sum.inr a:Key)=Sum.inr b)=decide (a=b):=by
 by_cases e:a=b
 · subst e;simp
 · have h:¬ (Sum.inr a:Key)=Sum.inr b:=fun q=>e (Sum.inr.inj q)
   rw [decide_eq_false h,decide_eq_false e]
theorem Cv (a:Int) (b:Str):decide ((Sum.inl a:Key)=Sum.inr b)=false:=decide_eq_false (fun q=>nomatch q)
theorem Aj (a:Str) (b:Int):decide ((Sum.inr a:Key)=Sum.inl b)=false:=decide_eq_false (fun q=>nomatch q)
def ci (prog:Program) (w:World):PySem.KeyKind prog w Key where
 is:=jh
 hash:=Hf w
 inj:=fun v a b ha hb=>by
  rcases cp ha with ⟨i,t,rfl,rfl⟩ | ⟨x,t,rfl,rfl⟩
  · rcases cp hb with ⟨j,u,rfl,e⟩ | ⟨y,u,rfl,e⟩
    · injection e with e1 _;rw [e1]
    · exact nomatch e
  · rcases cp hb with ⟨j,u,rfl,e⟩ | ⟨y,u,rfl,e⟩
    · exact nomatch e
    · injection e with e1 _;rw [e1]
 byValue:=fun k v h=>by
  rcases cp h with ⟨i,t,rfl,rfl⟩ | ⟨x,t,rfl,rfl⟩ <;> rfl
 pyHash:=fun hv h=>by
  rcases cp hv with ⟨i,t,rfl,rfl⟩ | ⟨x,t,rfl,rfl⟩
  · exact wpAny_pyHash_int h
  · exact wpAny_pyHash_str h
 eqBool:=fun hu hv h=>by
  rcases cp hu with ⟨i,t,rfl,rfl⟩ | ⟨x,t,rfl,rfl⟩
  · rcases cp hv with ⟨j,u,rfl,rfl⟩ | ⟨y,u,rfl,rfl⟩
    · rw [AX] at h;exact wpAny_eqBool_int h
    · rw [Cv] at h;exact SeqAt.EqAt.int_str i t y u _ _ _ _ h
  · rcases cp hv with ⟨j,u,rfl,rfl⟩ | ⟨y,u,rfl,rfl⟩
    · rw [Aj] at h;exact SeqAt.EqAt.str_int x t j u _ _ _ _ h
    · rw [Cr] at h;exact wpAny_eqBool_str h
 «strs»:=fun k x t v h=>by
  rcases cp h with ⟨i,u,rfl,e⟩ | ⟨y,u,rfl,e⟩
  · exact nomatch e
  · injection e with e1 _
    subst e1
    cases v <;> rfl
theorem qa (prog:Program) (w:World) (i:Int) (t:Tok):(ci prog w).is (.inl i) (.int i t)=true:=va i t
theorem qd (prog:Program) (w:World) (x:Str) (t:Tok):(ci prog w).is (.inr x) (.str x t)=true:=tY x t
end L2
namespace L2
open PySem PySem.Spec PyProof.Rows
inductive V where
 | non | bl (b:Bool) | int (i:Int) | str (x:Str) | byt (b:Array UInt8) | flt (b:UInt64) | ref (a:Addr) | ty (n:String)
 deriving DecidableEq
def aW:V→Value→Prop
 | .non,u=>u=Value.none
 | .bl b,u=>u=Value.bool b
 | .int i,u=>∃ t,u=Value.int i t
 | .str x,u=>∃ t,u=Value.str x t
 | .byt b,u=>∃ t,u=Value.bytes b t
 | .flt b,u=>∃ t,u=Value.float b t
 | .ref a,u=>u=Value.ref a
 | .ty n,u=>u=Value.type n
abbrev aX:List V→List Value→Prop:=Paired aW
theorem aX.length {xs:List V} {us:List Value} (r:aX xs us):xs.length=us.length:=Paired.length r
theorem aX.get : ∀ {xs : List V} {us : List Value} {i : Nat} {x : V}, aX xs us → xs[i]? = some x → ∃ u, us[i]? = some u ∧ aW x u
  | _, _, _, _, .nil, e => by simp at e
  | _, _, 0, _, .cons r _, e => by simp at e; subst e; exact ⟨_, rfl, r⟩
  | _, _, i + 1, x, .cons _ t, e => by
    obtain ⟨u, h1, h2⟩ := aX.get (i := i) (x := x) t (by simpa using e)
    exact ⟨u, by simpa using h1, h2⟩
theorem aX.set {x:V} {u:Value} (r:aW x u):∀ {xs:List V} {us:List Value} (i:Nat),aX xs us→aX (xs.set i x) (us.set i u)
 | _,_,_,.nil=> .nil
 | _,_,0,.cons _ t=> .cons r t
 | _,_,i+1,.cons q t=> .cons q (aX.set r i t)
theorem aX.append:∀ {xs ys:List V} {us ws:List Value},aX xs us→aX ys ws→aX (xs++ys) (us++ws)
 | _,_,_,_,.nil,s=>s
 | _,_,_,_,.cons r t,s=> .cons r (aX.append t s)
theorem aX.take:∀ {xs:List V} {us:List Value} (n:Nat),aX xs us→aX (xs.take n) (us.take n)
 | _,_,0,_=> .nil
 | _,_,_+1,.nil=> .nil
 | _,_,n+1,.cons r t=> .cons r (aX.take n t)
theorem aX.drop:∀ {xs:List V} {us:List Value} (n:Nat),aX xs us→aX (xs.drop n) (us.drop n)
 | _,_,0,r=>r
 | _,_,_+1,.nil=> .nil
 | _,_,n+1,.cons _ t=>aX.drop n t
def cr:Option V→Option Value→Prop
 | some v,some u=>aW v u
 | none,none=>True
 | _,_=>False
def KV {κ:Type}:List (κ×V)→List (κ×Value)→Prop:=Paired fun (p:κ×V) (q:κ×Value)=>p.1=q.1∧aW p.2 q.2
def kV:Key→V
 | .inl i=> .int i
 | .inr x=> .str x
inductive HO where
 | lst (xs:List V)
 | tup (xs:List V)
 | dK (kvs:List (Key×V)) | dT (kvs:List (List Key×V))
 | set (S:Int→Bool) (n:Nat)
 | ins (C dx:Addr) (fs:List (Str×V))
 | own (x:Addr)
 | xd (fs:List (Str×V))
 | met (f x:Addr)
 | rng (lo hi:Int)
 | frz (o:Obj) (u:HO)
 | tbl (ps:Array Value)
 | ext (φ:Heap→Prop)
abbrev Hp:=Addr→Option HO
def upd (H:Hp) (a:Addr) (o:HO):Hp:=fun b=>if b=a then some o else H b
theorem ap {H:Hp} {a:Addr} {o:HO}:upd H a o a=some o:=by unfold upd;rw [if_pos rfl]
theorem au {H:Hp} {a b:Addr} {o:HO} (h:b≠a):upd H a o b=H b:=by unfold upd;rw [if_neg h]
theorem jq {H:Hp} {a:Addr} {o u:HO}:upd (upd H a o) a u=upd H a u:=by
 funext b;unfold upd;split <;> rfl
theorem dD {H:Hp} {a b:Addr} {o u:HO} (h:H a=some o) (h':H b=some u) (d:o≠u):a≠b:=by
 intro e;subst e;rw [h] at h';exact d (Option.some.inj h')
theorem aD {H:Hp} {a b:Addr} {o:HO} (h:H a=some o) (h':H b=none):a≠b:=by
 intro e;subst e;rw [h] at h';cases h'
section
variable (P:Program) (w:World)
def bc (H:Hp) (h:Heap) (a:Addr):HO→Prop
 | .lst xs=>xs.length≤sizeLine∧∃ (its:List Value) (n:Nat),aX xs its∧h.get? a=some { cls:=.type "list",data:=.seq its.toArray n }
 | .tup xs=>xs.length≤sizeLine∧∃ its:List Value,aX xs its∧IsTup h a its.toArray
 | .dK kvs=>kvs.length≤sizeLine∧(a==sysModules)=false∧∃ vs,KV kvs vs∧h.DictOf (ci P w) a vs
 | .dT kvs=>kvs.length≤sizeLine∧(a==sysModules)=false∧∃ xs:List (List Key×Addr×Value),
  Paired (fun (p:List Key×V) (q:List Key×Addr×Value)=>p.1=q.1∧H q.2.1=some (.tup (p.1.map kV))∧aW p.2 q.2.2) kvs xs∧
  ∃ o es ep,h.get? a=some o∧o.ExactDict∧o.data=.dict es ep∧es.toList=xs.map (entryOfKey (tupleKind (ci P w)))∧(xs.map (·.1)).Nodup
 | .set S n=>h.SetOf (intKind P w) a S n
 | .ins C dx fs=>H dx=some (.own a)∧fs.length≤1000∧dx≠a∧h.get? a=some (W.instObj C dx)∧
  ∃ mA,h.Ns1 dx mA∧(∀ f,cr (fs.lookup f) (mA f))∧PySem.Within mA (fs.map (·.1))
 | .own _=>∃ o,h.get? a=some o
 | .xd fs=>∃ mA,h.Ns1 a mA∧∀ f,cr (fs.lookup f) (mA f)
 | .rng lo hi=>∃ t u v,h.get? a=some { cls:=.type "range",data:=.fields #[.int lo t,.int hi u,.int 1 v] }
 | .frz o u=>h.get? a=some o∧bc H h a u
 | .tbl ps=>h.get? a=some { cls:=.none,data:=.fields ps }
 | .met f x=>h.get? a=some (W.methodObj (.ref f) (.ref x))
 | .ext φ=>φ h∧(∃ o,h.get? a=some o)∧∀ h1 h2:Heap,φ h1→(∀ o,h1.get? a=some o→h2.get? a=some o)→φ h2
def HOk (H:Hp) (h:Heap):Prop:=∀ a o,H a=some o→bc P w H h a o
end
section
variable {P:Program} {w:World} {H H':Hp} {h h':Heap} {a:Addr} {o:HO}
theorem bc.lt (x:bc P w H h a o):a<h.objs.size:=by
 cases o with
 | lst xs=>obtain ⟨_,_,_,_,e⟩:=x;exact Heap.lt_size e
 | tup xs=>obtain ⟨_,_,_,p⟩:=x;exact p.lt
 | dK kvs=>obtain ⟨_,_,_,_,o,_,_,e,_⟩:=x;exact Heap.lt_size e
 | dT kvs=>obtain ⟨_,_,_,_,o,_,_,e,_⟩:=x;exact Heap.lt_size e
 | set S n=>obtain ⟨o,_,_,_,e,_⟩:=x;exact Heap.lt_size e
 | ins C dx fs=>obtain ⟨_,_,_,e,_⟩:=x;exact Heap.lt_size e
 | own y=>obtain ⟨_,e⟩:=x;exact Heap.lt_size e
 | xd fs=>obtain ⟨_,⟨_,_,_,e,_⟩,_⟩:=x;exact Heap.lt_size e
 | rng lo hi=>obtain ⟨_,_,_,e⟩:=x;exact Heap.lt_size e
 | frz ob u=>obtain ⟨e,_⟩:=x;exact Heap.lt_size e
 | tbl ps=>exact Heap.lt_size (show h.get? a=some _ from x)
 | met f y=>exact Heap.lt_size (show h.get? a=some _ from x)
 | ext φ=>obtain ⟨_,⟨_,e⟩,_⟩:=x;exact Heap.lt_size e
theorem Paired.mapP {α β:Type} {F G:α→β→Prop}:∀ {l₁:List α} {l₂:List β},Paired F l₁ l₂→(∀ a b,F a b→G a b)→Paired G l₁ l₂
 | _,_,.nil,_=> .nil
 | _,_,.cons r t,f=> .cons (f _ _ r) (Paired.mapP t f)
theorem Paired.imp' {α β:Type} {F G:α→β→Prop} (f:∀ a b,F a b→G a b) {l₁:List α} {l₂:List β} (r:Paired F l₁ l₂):Paired G l₁ l₂:=Paired.mapP r f
theorem bc.stay (x : bc P w H h a o) (k : ∀ b u, (b = a ∨ H b = some (.own a)) → h.get? b = some u → h'.get? b = some u)
    (ho : ∀ b, H b = some (.own a) → H' b = some (.own a)) (ht : ∀ b xs, H b = some (.tup xs) → H' b = some (.tup xs)) : bc P w H' h' a o := by
  induction o with
  | lst xs => obtain ⟨z, its, n, r, e⟩ := x; exact ⟨z, its, n, r, k _ _ (.inl rfl) e⟩
  | tup xs => obtain ⟨z, its, r, ob, e, c⟩ := x; exact ⟨z, its, r, ob, k _ _ (.inl rfl) e, c⟩
  | dK kvs => obtain ⟨z, y, vs, r, ob, es, ep, e, c⟩ := x; exact ⟨z, y, vs, r, ob, es, ep, k _ _ (.inl rfl) e, c⟩
  | dT kvs =>
    obtain ⟨z, y, xs, r, ob, es, ep, e, c⟩ := x
    exact ⟨z, y, xs, Paired.mapP r fun p q z => ⟨z.1, ht _ _ z.2.1, z.2.2⟩, ob, es, ep, k _ _ (.inl rfl) e, c⟩
  | set S n => obtain ⟨ob, es, ep, t, e, c⟩ := x; exact ⟨ob, es, ep, t, k _ _ (.inl rfl) e, c⟩
  | ins C dx fs =>
    obtain ⟨d, z, ne, e, mA, ⟨od, es, ep, e2, c⟩, r⟩ := x
    exact ⟨ho _ d, z, ne, k _ _ (.inl rfl) e, mA, ⟨od, es, ep, k _ _ (.inr d) e2, c⟩, r⟩
  | own y => obtain ⟨ob, e⟩ := x; exact ⟨ob, k _ _ (.inl rfl) e⟩
  | xd fs => obtain ⟨mA, ⟨od, es, ep, e, c⟩, r⟩ := x; exact ⟨mA, ⟨od, es, ep, k _ _ (.inl rfl) e, c⟩, r⟩
  | rng lo hi => obtain ⟨t, u, v, e⟩ := x; exact ⟨t, u, v, k _ _ (.inl rfl) e⟩
  | frz ob u ih => obtain ⟨e, q⟩ := x; exact ⟨k _ _ (.inl rfl) e, ih q⟩
  | tbl ps =>
    have e : h.get? a = some { cls := .none, data := .fields ps } := x
    show h'.get? a = some { cls := .none, data := .fields ps }
    exact k a _ (.inl rfl) e
  | met f y =>
    have e : h.get? a = some (W.methodObj (.ref f) (.ref y)) := x
    show h'.get? a = some (W.methodObj (.ref f) (.ref y))
    exact k a _ (.inl rfl) e
  | ext φ => obtain ⟨p, ⟨o, e⟩, st⟩ := x; exact ⟨st _ _ p fun o q => k _ _ (.inl rfl) q, ⟨o, k _ _ (.inl rfl) e⟩, st⟩
theorem HOk.lt (x:HOk P w H h) (e:H a=some o):a<h.objs.size:=(x a o e).lt
theorem HOk.fresh (x:HOk P w H h) (e:h.objs.size≤a):H a=none:=by
 cases q:H a with
 | none=>rfl
 | some u=>exact absurd (Nat.lt_of_lt_of_le (x.lt q) e) (Nat.lt_irrefl _)
theorem HOk.kept (x:HOk P w H h) (k:∀ b u,h.get? b=some u→h'.get? b=some u):HOk P w H h':=fun a o e=>
 (x a o e).stay (fun b u _ q=>k b u q) (fun _ q=>q) fun _ _ q=>q
theorem HOk.laid (x:HOk P w H h) (k:∀ b u,h.get? b=some u→h'.get? b=some u) (hp:h.objs.size≤a) (new:bc P w (upd H a o) h' a o):HOk P w (upd H a o) h':=fun b u e=>by
 have hn:=x.fresh hp
 by_cases hb:b=a
 · subst hb;rw [ap] at e;cases e;exact new
 · rw [au hb] at e
   exact (x b u e).stay (fun c v _ q=>k c v q) (fun c q=>by rw [au (aD q hn)];exact q) fun c xs q=>by rw [au (aD q hn)];exact q
end
def Rd (H:Hp) (a:Addr) (u:HO):Prop:=H a=some u∨∃ o,H a=some (.frz o u)
theorem Rd.ok {P:Program} {w:World} {H:Hp} {h:Heap} {a:Addr} {u:HO} (r:Rd H a u) (x:HOk P w H h):bc P w H h a u:=by
 rcases r with r | ⟨o,r⟩
 · exact x a u r
 · obtain ⟨_,q⟩:=x a _ r
   exact q
def Mut:Option HO→Prop
 | some (.lst _)=>True
 | some (.dK _)=>True
 | some (.dT _)=>True
 | some (.set _ _)=>True
 | some (.ins _ _ _)=>True
 | some (.ext _)=>True
 | _=>False
section
variable {P:Program} {w:World} {H:Hp} {h h':Heap} {x e:Addr} {o':HO}
theorem HOk.write (ok:HOk P w H h) (mu:Mut (H x)) (he:e=x∨H e=some (.own x)) (k:∀ b u,b≠e→h.get? b=some u→h'.get? b=some u) (heo:∃ u,h'.get? e=some u)
   (new:bc P w (upd H x o') h' x o'):HOk P w (upd H x o') h':=fun b u q=>by
 have nown:∀ c y,H c=some (.own y)→c≠x:=fun c y r z=>by subst z;rw [r] at mu;exact mu
 have ntup:∀ c xs,H c=some (.tup xs)→c≠x:=fun c xs r z=>by subst z;rw [r] at mu;exact mu
 by_cases hb:b=x
 · subst hb;rw [ap] at q;cases q;exact new
 · rw [au hb] at q
   by_cases hbe:b=e
   · have q':H b=some (.own x):=by
       rcases he with z | z
       · exact absurd (hbe.trans z) hb
       · rw [hbe];exact z
     rw [q] at q';cases q'
     obtain ⟨v,hv⟩:=heo
     exact ⟨v,by rw [hbe];exact hv⟩
   · refine (ok b u q).stay (fun c v hc r=>k c v ?_ r) (fun c r=>by rw [au (nown c b r)];exact r) fun c xs r=>by rw [au (ntup c xs r)];exact r
     rcases hc with rfl | hc
     · exact hbe
     · rintro rfl
       rcases he with z | z
       · exact nown c b hc z
       · rw [hc] at z;cases z;exact hb rfl
end
structure Un (fs ex:List Addr) (H H':Hp) (h h':Heap):Prop where
 keep:∀ b o,h.get? b=some o→H b=none→b∉fs→b∉ex→h'.get? b=some o
 slot:∀ b o,h.get? b=some o→H b=none→b∈fs→b∉ex→∃ sl,h'.get? b=some { o with slots:=sl }
 free:∀ b o,h.get? b=some o→H b=none→b∉ex→H' b=none
 there:∀ b o,h.get? b=some o→b∉ex→∃ o',h'.get? b=some o'
 tups:∀ b xs,H b=some (.tup xs)→H' b=some (.tup xs)
 frzs:∀ b o u,H b=some (.frz o u)→H' b=some (.frz o u)
 tbls:∀ b ps,H b=some (.tbl ps)→∃ more,H' b=some (.tbl (ps++more))
section
variable {fs fs' ex ex':List Addr} {H H1 H2:Hp} {h h1 h2 h':Heap} {a x e:Addr} {o:HO}
theorem Un.any (u:Un fs ex H H1 h h1) {b:Addr} {ob:Obj} (q:h.get? b=some ob) (n:H b=none) (hx:b∉ex):∃ sl,h1.get? b=some { ob with slots:=sl }:=by
 by_cases hb:b∈fs
 · exact u.slot b ob q n hb hx
 · exact ⟨ob.slots,u.keep b ob q n hb hx⟩
theorem Un.trans (a:Un fs ex H H1 h h1) (b:Un fs ex H1 H2 h1 h2):Un fs ex H H2 h h2 where
 keep:=fun c ob q n hc hx=>b.keep c ob (a.keep c ob q n hc hx) (a.free c ob q n hx) hc hx
 slot:=fun c ob q n hc hx=>by
  obtain ⟨sl,e1⟩:=a.slot c ob q n hc hx
  obtain ⟨sl',e2⟩:=b.slot c _ e1 (a.free c ob q n hx) hc hx
  exact ⟨sl',e2⟩
 free:=fun c ob q n hx=>by
  obtain ⟨o',e1⟩:=a.there c ob q hx
  exact b.free c o' e1 (a.free c ob q n hx) hx
 there:=fun c ob q hx=>by
  obtain ⟨o',e1⟩:=a.there c ob q hx
  exact b.there c o' e1 hx
 tups:=fun c xs q=>b.tups c xs (a.tups c xs q)
 frzs:=fun c ob xs q=>b.frzs c ob xs (a.frzs c ob xs q)
 tbls:=fun c ps q=>by
  obtain ⟨m1,e1⟩:=a.tbls c ps q
  obtain ⟨m2,e2⟩:=b.tbls c _ e1
  exact ⟨m1++m2,by rw [e2,Array.append_assoc]⟩
theorem Un.kept (k:∀ b u,h.get? b=some u→h'.get? b=some u):Un fs ex H H h h':=
 ⟨fun b ob q _ _ _=>k b ob q,fun b ob q _ _ _=>⟨ob.slots,k b ob q⟩,fun _ _ _ n _=>n,fun b ob q _=>⟨ob,k b ob q⟩,fun _ _ q=>q,fun _ _ _ q=>q,fun _ ps q=>⟨#[],by rw [q];simp⟩⟩
theorem Un.refl:Un fs ex H H h h:=Un.kept fun _ _ q=>q
theorem Un.laid (k:∀ b u,h.get? b=some u→h'.get? b=some u) (hp:h.objs.size≤a) (hn:H a=none):Un fs ex H (upd H a o) h h' where
 keep:=fun b u q _ _ _=>k b u q
 slot:=fun b u q _ _ _=>⟨u.slots,k b u q⟩
 free:=fun b u q n _=>by rw [au (Nat.ne_of_lt (Nat.lt_of_lt_of_le (Heap.lt_size q) hp))];exact n
 there:=fun b u q _=>⟨u,k b u q⟩
 tups:=fun b xs q=>by rw [au (aD q hn)];exact q
 frzs:=fun b u xs q=>by rw [au (aD q hn)];exact q
 tbls:=fun b ps q=>⟨#[],by rw [au (aD q hn),q];simp⟩
theorem Un.write (mu:Mut (H x)) (he:e=x∨H e=some (.own x)) (k:∀ b u,b≠e→h.get? b=some u→h'.get? b=some u) (heo:∃ u,h'.get? e=some u):Un fs ex H (upd H x o) h h':=by
 have hx:∀ b,H b=none→b≠x:=fun b n z=>by subst z;rw [n] at mu;exact mu
 have hb:∀ b,H b=none→b≠e:=fun b n z=>by
   subst z
   rcases he with r | r
   · exact hx b n r
   · rw [n] at r;cases r
 have hm:∀ b u,H b=some u→¬ Mut (some u)→b≠x:=fun b u q nm z=>by subst z;rw [q] at mu;exact nm mu
 refine ⟨fun b u q n _ _=>k b u (hb b n) q,fun b u q n _ _=>⟨u.slots,k b u (hb b n) q⟩,fun b u q n _=>by rw [au (hx b n)];exact n,fun b u q _=>?_,
   fun b xs q=>by rw [au (hm b _ q fun z=>z)];exact q,fun b u xs q=>by rw [au (hm b _ q fun z=>z)];exact q,fun b ps q=>⟨#[],by rw [au (hm b _ q fun z=>z),q];simp⟩⟩
 by_cases hbe:b=e
 · subst hbe;exact heo
 · exact ⟨u,k b u hbe q⟩
end
def trk (h:Heap) (H:Hp):List Addr:=(List.range h.objs.size).filter fun a=>(H a).isSome
def gk (h:Heap) (H:Hp):Heap:=W.hideAll h (trk h H)
theorem tP (h:Heap) (H:Hp):(gk h H).objs.size=h.objs.size:=W.hideAll_size _ _
theorem wA {h:Heap} {H:Hp} {b:Addr} {o:Obj} (e:h.get? b=some o) (n:H b=none):(gk h H).get? b=some o:=
 W.hideAll_get _ e fun hm=>by
  have q:(H b).isSome=true:=(List.mem_filter.mp hm).2
  rw [n] at q;simp at q
theorem zq {h : Heap} {H : Hp} {b : Addr} {o : Obj} (e : (gk h H).get? b = some o) : h.get? b = some o ∧ H b = none := by
  have e' : h.get? b = some o := W.of_hideAll (trk h H) e
  refine ⟨e', ?_⟩
  cases q : H b with
  | none => rfl
  | some x =>
    have hm : b ∈ trk h H := List.mem_filter.mpr ⟨List.mem_range.mpr (Heap.lt_size e'), by simp [q]⟩
    have z : (gk h H).get? b = none := W.hideAll_none (trk h H) hm
    rw [z] at e; cases e
def yT (g h:Heap) (L:Addr):List (Addr×Obj):=(List.range h.objs.size).filterMap fun a=>if a=L∨(g.get? a).isSome=true then none else (h.get? a).map fun o=>(a,o)
def bS (g h:Heap) (L d:Addr):List (Addr×Obj):=(yT g h L).filter fun p=>decide (p.1≠d)
end L2
namespace L2
open PySem PySem.Spec PyProof.Rows
structure Mod (K:W.Frag) (mg:Str→Option Value) (base:Heap):Prop where
 kin:K.In base
 glob:base.Ns mainGlobals mg
 blt:∃ mb,base.Ns builtinsNs mb∧∀ x:Str,x≠ "__name__" →mb x=bootBuiltins x
 nolimit:base.NoLimit
set_option genInjectivity false in
set_option genSizeOf false in
structure Cx where
 prog:Program
 w:World
 K:W.Frag
 mg:Str→Option Value
 base:Heap
 A:Around
 N:List Str
 s₀:Shared
 H₀:Hp
 env:Env
 outer:List Env
 stack:List Env
 ex:List Addr
 fn:Str→Bool
 calm:Bool
 pn:List (Addr×Obj)
 xe:Value→Shared→Prop
def frs (l:List Env):List Addr:=l.filterMap (·.frame)
abbrev Cx.fs (X:Cx):List Addr:=frs X.outer
def Vis (sc:Scope) (x:Str):Prop:=sc.names.lookup x=some .local∨sc.names.lookup x=some .cell∨sc.names.lookup x=some .free
def Loc (sc:Scope) (x:Str):Prop:=sc.names.lookup x=some .local∨sc.names.lookup x=some .cell
def CH (env:Env) (h:Heap) (m:Str→Option Value) (x:Str) (u:Value):Prop:=
 (env.kindOf x=some .local∧m x=some u)∨((env.kindOf x=some .cell∨env.kindOf x=some .free)∧∃ c,env.cells.lookup x=some c∧h.IsCell c (some u))
set_option genInjectivity false in
set_option genSizeOf false in
structure Cx.Ok (X:Cx):Prop where
 mod:Mod X.K X.mg X.base
 kind:X.env.scope.kind=.function
 glob:X.env.globals=mainGlobals
 blt:X.env.builtins=builtinsNs
 above:X.s₀.heap.objs.size≤X.env.locals
 inj:∀ x y c,X.env.cells.lookup x=some c→X.env.cells.lookup y=some c→x=y
 has:∀ x,(X.env.kindOf x=some .cell∨X.env.kindOf x=some .free)→∃ c,X.env.cells.lookup x=some c
 cab:∀ x c,X.fn x=true→X.env.cells.lookup x=some c→X.s₀.heap.objs.size≤c
 hd:X.calm=true→X.A.handled=none
 frames:X.A.frames=some X.stack
 stk:X.stack=X.outer∨(X.stack=X.env::X.outer∧X.env.frame=some X.env.locals)
 exf:∀ b∈X.ex,b≠X.env.locals∧∀ x c,X.env.cells.lookup x=some c→c≠b
 bs:∀ b o,X.base.get? b=some o→X.s₀.heap.get? b=some o∧X.H₀ b=none
 bsz:X.base.objs.size≤X.s₀.heap.objs.size
 noex:∀ b o,X.base.get? b=some o→b∉X.ex
 exfs:∀ b∈X.ex,b∉X.fs
 funs:X.s₀.heap.FunFrames X.base X.outer
 frf:∀ b∈X.fs,X.H₀ b=none
structure Inv (X:Cx) (pins:List (Addr×Obj)) (σ:List (Option V)) (H:Hp) (s:Shared):Prop where
 ok:X.Ok
 os:s.os=X.s₀.os
 bare:AllBare s.gens
 base:Un X.fs X.ex X.H₀ H X.s₀.heap s.heap
 loc:∃ m,s.heap.Ns X.env.locals m∧∀ (i:Nat) (x:Str) (v:V),X.N[i]?=some x→σ[i]?=some (some v)→Vis X.env.scope x→∃ u,aW v u∧CH X.env s.heap m x u
 cell:∀ x c,X.env.cells.lookup x=some c→∃ v,s.heap.IsCell c v
 free:H X.env.locals=none
 freeC:∀ x c,X.env.cells.lookup x=some c→H c=none
 pin:∀ p∈X.pn++pins,s.heap.get? p.1=some p.2∧H p.1=none∧p.1≠X.env.locals∧p.1∉X.fs∧∀ v,p.2.data≠ .cell v
 hok:HOk X.prog X.w H s.heap
 len:σ.length=X.N.length
section
variable {X:Cx} {pins:List (Addr×Obj)} {σ:List (Option V)} {H H':Hp} {s:Shared} {h':Heap}
theorem Cx.Ok.nofr (ok:X.Ok) {b:Addr} {o:Obj} (e:X.base.get? b=some o):b∉X.fs:=fun hb=>by
 have:=(ok.funs.mem hb).1
 rw [e] at this;cases this
theorem Inv.bs (I:Inv X pins σ H s):∀ b o,X.base.get? b=some o→s.heap.get? b=some o∧H b=none:=fun b o e=>
 ⟨I.base.keep b o (I.ok.bs b o e).1 (I.ok.bs b o e).2 (I.ok.nofr e) (I.ok.noex b o e),I.base.free b o (I.ok.bs b o e).1 (I.ok.bs b o e).2 (I.ok.noex b o e)⟩
theorem Inv.bk (I:Inv X pins σ H s):∀ b o,X.base.get? b=some o→s.heap.get? b=some o:=fun b o e=>(I.bs b o e).1
theorem Inv.mod (I:Inv X pins σ H s):Mod X.K X.mg X.base:=I.ok.mod
theorem Inv.kIn (I:Inv X pins σ H s):X.K.In s.heap:=I.ok.mod.kin.keeps I.bk
theorem Inv.lt (I:Inv X pins σ H s):X.env.locals<s.heap.objs.size:=let ⟨_,hn,_⟩:=I.loc;hn.lt
theorem Inv.sz (I:Inv X pins σ H s):X.s₀.heap.objs.size≤s.heap.objs.size:=Nat.le_trans I.ok.above (Nat.le_of_lt I.lt)
theorem Inv.nofs (I:Inv X pins σ H s) {a:Addr} (h:s.heap.objs.size≤a):a∉X.fs:=fun hb=>by
 obtain ⟨_,o,ho,_⟩:=I.ok.funs.mem hb
 exact absurd (Nat.lt_of_lt_of_le (Heap.lt_size ho) (Nat.le_trans I.sz h)) (Nat.lt_irrefl _)
theorem Inv.cne (I:Inv X pins σ H s):∀ x c,X.env.cells.lookup x=some c→c≠X.env.locals:=fun x c e z=>by
 obtain ⟨v,o,ho,hd⟩:=I.cell x c e
 obtain ⟨m,⟨o',es,ep,ho',hd',_⟩,_⟩:=I.loc
 rw [z,ho'] at ho;cases ho;rw [hd'] at hd;cases hd
theorem Inv.funs (I : Inv X pins σ H s) : s.heap.FunFrames X.base X.outer := by
  have all : ∀ (l : List Env), (∀ b ∈ frs l, b ∈ X.fs) → X.s₀.heap.FunFrames X.base l → s.heap.FunFrames X.base l := by
    intro l
    induction l with
    | nil => intro _ _; trivial
    | cons env r ih =>
      intro hs hl
      obtain ⟨hk, ⟨L, o, hf, hn, ho, hd⟩, hr⟩ := hl
      have hL : L ∈ X.fs := hs L (by unfold frs; rw [List.filterMap_cons, hf]; exact List.mem_cons_self)
      obtain ⟨sl, e⟩ := I.base.slot L o ho (I.ok.frf L hL) hL fun z => I.ok.exfs L z hL
      exact ⟨hk, ⟨L, _, hf, hn, e, hd⟩, ih (fun b hb => hs b (by unfold frs; rw [List.filterMap_cons, hf]; exact List.mem_cons_of_mem _ hb)) hr⟩
  exact all X.outer (fun _ hb => hb) I.ok.funs
theorem Inv.stack (I:Inv X pins σ H s):s.heap.FunFrames X.base X.stack:=by
 rcases I.ok.stk with e | ⟨e,hf⟩
 · rw [e];exact I.funs
 · rw [e]
   obtain ⟨m,hn,_⟩:=I.loc
   refine .cons (by rw [I.ok.kind];decide) hf hn ?_ I.funs
   exact Heap.get?_none_of_le (Nat.le_trans I.ok.bsz I.ok.above)
theorem Inv.stkSub (I:Inv X pins σ H s):∀ b∈frs X.stack,b∈X.env.locals::X.fs:=fun b hb=>by
 rcases I.ok.stk with e | ⟨e,hf⟩
 · rw [e] at hb;exact List.mem_cons_of_mem _ hb
 · rw [e] at hb
   unfold frs at hb
   rw [List.filterMap_cons,hf] at hb
   exact hb
theorem Inv.stkFree (I:Inv X pins σ H s):∀ b∈frs X.stack,H b=none:=fun b hb=>by
 rcases List.mem_cons.mp (I.stkSub b hb) with e | hb
 · rw [e];exact I.free
 · obtain ⟨_,o,ho,_⟩:=I.ok.funs.mem hb
   exact I.base.free b o ho (I.ok.frf b hb) fun z=>I.ok.exfs b z hb
theorem Inv.step {g':Array GenState} {t':Nat} {d':Drawn} {ch:List Addr} (I:Inv X pins σ H s)
   (hch:∀ b∈ch,(b∈X.ex∨X.s₀.heap.objs.size≤b)∧b≠X.env.locals∧(∀ x c,X.env.cells.lookup x=some c→c≠b)∧∀ p∈X.pn++pins,p.1≠b)
   (keep:∀ b o,b≠X.env.locals→b∉X.fs→b∉ch→s.heap.get? b=some o→H b=none→h'.get? b=some o)
   (slot:∀ b o,b≠X.env.locals→b∈X.fs→b∉ch→s.heap.get? b=some o→H b=none→∃ sl,h'.get? b=some { o with slots:=sl }) (free:∀ b o,b∉ch→s.heap.get? b=some o→H b=none→H' b=none)
   (there:∀ b o,b∉ch→s.heap.get? b=some o→∃ o',h'.get? b=some o')
   (tups:∀ b xs,H b=some (.tup xs)→H' b=some (.tup xs)) (frzs:∀ b o u,H b=some (.frz o u)→H' b=some (.frz o u)) (tbls:∀ b ps,H b=some (.tbl ps)→∃ more,H' b=some (.tbl (ps++more)))
   (ns:∀ m,s.heap.Ns X.env.locals m→h'.Ns X.env.locals m) (hok:HOk X.prog X.w H' h') (hg:AllBare g'):
   Inv X pins σ H' { s with heap:=h',gens:=g',drawn:=d',toks:=t' }:=by
 have neL:∀ b o,X.s₀.heap.get? b=some o→b≠X.env.locals:=fun b o e=>Nat.ne_of_lt (Nat.lt_of_lt_of_le (Heap.lt_size e) I.ok.above)
 have neC:∀ b o,X.s₀.heap.get? b=some o→b∉X.ex→b∉ch:=fun b o e hx hb=>by
   rcases (hch b hb).1 with z | z
   · exact hx z
   · exact absurd (Nat.lt_of_lt_of_le (Heap.lt_size e) z) (Nat.lt_irrefl _)
 have cellK:∀ x c,X.env.cells.lookup x=some c→∀ v,s.heap.IsCell c v→h'.IsCell c v:=fun x c e v ⟨o,ho,hd⟩=>by
   have nch:c∉ch:=fun z=>(hch c z).2.2.1 x c e rfl
   by_cases hc:c∈X.fs
   · obtain ⟨sl,q⟩:=slot c o (I.cne x c e) hc nch ho (I.freeC x c e)
     exact ⟨_,q,hd⟩
   · exact ⟨o,keep c o (I.cne x c e) hc nch ho (I.freeC x c e),hd⟩
 refine ⟨I.ok,I.os,hg,⟨fun b o e n hb hx=>?_,fun b o e n hb hx=>?_,fun b o e n hx=>?_,fun b o e hx=>?_,fun b xs e=>tups b xs (I.base.tups b xs e),fun b o xs e=>frzs b o xs (I.base.frzs b o xs e),fun b ps e=>?_⟩,?_,fun x c e=>?_,?_,fun x c e=>?_,fun p hp=>?_,hok,I.len⟩
 · exact keep b o (neL b o e) hb (neC b o e hx) (I.base.keep b o e n hb hx) (I.base.free b o e n hx)
 · obtain ⟨sl,e1⟩:=I.base.slot b o e n hb hx
   obtain ⟨sl',e2⟩:=slot b _ (neL b o e) hb (neC b o e hx) e1 (I.base.free b o e n hx)
   exact ⟨sl',e2⟩
 · obtain ⟨o',e1⟩:=I.base.there b o e hx
   exact free b o' (neC b o e hx) e1 (I.base.free b o e n hx)
 · obtain ⟨o',e1⟩:=I.base.there b o e hx
   exact there b o' (neC b o e hx) e1
 · obtain ⟨m1,e1⟩:=I.base.tbls b ps e
   obtain ⟨m2,e2⟩:=tbls b _ e1
   exact ⟨m1++m2,by rw [e2,Array.append_assoc]⟩
 · obtain ⟨m,hn,hl⟩:=I.loc
   refine ⟨m,ns m hn,fun i x v e1 e2 e3=>?_⟩
   obtain ⟨u,r,l⟩:=hl i x v e1 e2 e3
   refine ⟨u,r,?_⟩
   rcases l with l | ⟨k,c,e,z⟩
   · exact .inl l
   · exact .inr ⟨k,c,e,cellK x c e _ z⟩
 · obtain ⟨v,z⟩:=I.cell x c e
   exact ⟨v,cellK x c e v z⟩
 · obtain ⟨m,⟨o,_,_,ho,_⟩,_⟩:=I.loc
   exact free _ o (fun z=>(hch _ z).2.1 rfl) ho I.free
 · obtain ⟨v,o,ho,hd⟩:=I.cell x c e
   exact free c o (fun z=>(hch c z).2.2.1 x c e rfl) ho (I.freeC x c e)
 · obtain ⟨e,n,ne,nf,d⟩:=I.pin p hp
   have nch:p.1∉ch:=fun z=>(hch p.1 z).2.2.2 p hp rfl
   exact ⟨keep p.1 p.2 ne nf nch e n,free p.1 p.2 nch e n,ne,nf,d⟩
theorem Inv.un {t':Nat} (I:Inv X pins σ H s) (u:Un X.fs [] H H' s.heap h') (hok:HOk X.prog X.w H' h'):Inv X pins σ H' { s with heap:=h',toks:=t' }:=by
 obtain ⟨m,⟨o,es,ep,ho,r⟩,_⟩:=id I.loc
 obtain ⟨sl,hL⟩:=u.any ho I.free (by simp)
 exact I.step (g':=s.gens) (d':=s.drawn) (ch:=[]) (fun _ z=>nomatch z) (fun b o _ hb _ e n=>u.keep b o e n hb (by simp)) (fun b o _ hb _ e n=>u.slot b o e n hb (by simp)) (fun b o _ e n=>u.free b o e n (by simp)) (fun b o _ e=>u.there b o e (by simp)) u.tups u.frzs u.tbls (fun m' hm=>by
  obtain ⟨o',es',ep',ho',r'⟩:=hm
  rw [ho] at ho';cases ho'
  exact ⟨_,es',ep',hL,r'⟩) hok I.bare
theorem Inv.call {g':Array GenState} {t':Nat} {d':Drawn} {ch:List Addr} (I:Inv X pins σ H s) (u:Un (frs X.stack) ch H H' s.heap h') (hok:HOk X.prog X.w H' h') (hg:AllBare g')
  (hch:∀ b∈ch,(b∈X.ex∨X.s₀.heap.objs.size≤b)∧b≠X.env.locals∧(∀ x c,X.env.cells.lookup x=some c→c≠b)∧∀ p∈X.pn++pins,p.1≠b):
  Inv X pins σ H' { s with heap:=h',gens:=g',drawn:=d',toks:=t' }:=by
 obtain ⟨m,⟨o,es,ep,ho,r⟩,_⟩:=id I.loc
 obtain ⟨sl,hL⟩:=u.any ho I.free fun z=>(hch _ z).2.1 rfl
 exact I.step (ch:=ch) hch (fun b o hL hb hc e n=>u.keep b o e n (fun z=>(List.mem_cons.mp (I.stkSub b z)).elim hL hb) hc) (fun b o _ _ hc e n=>u.any e n hc) (fun b o hc e n=>u.free b o e n hc) (fun b o hc e=>u.there b o e hc) u.tups u.frzs u.tbls (fun m' hm=>by
  obtain ⟨o',es',ep',ho',r'⟩:=hm
  rw [ho] at ho';cases ho'
  exact ⟨_,es',ep',hL,r'⟩) hok hg
theorem Inv.turned {t':Nat} {it:Addr} (I:Inv X pins σ H s) (k:∀ b o,b≠it→s.heap.get? b=some o→h'.get? b=some o) (hn:H it=none) (hL:it≠X.env.locals)
   (h1:it∈X.ex∨X.s₀.heap.objs.size≤it) (h2:∀ x c,X.env.cells.lookup x=some c→c≠it) (h3:∀ p∈X.pn++pins,p.1≠it):Inv X pins σ H { s with heap:=h',toks:=t' }:=by
 have nit:∀ b u,H b=some u→b≠it:=fun b u e z=>by rw [z,hn] at e;cases e
 refine I.step (g':=s.gens) (d':=s.drawn) (ch:=[it]) (fun b hb=>?_) (fun b o _ _ hc e _=>k b o (fun z=>hc (by simp [z])) e) (fun b o _ _ hc e _=>⟨o.slots,k b o (fun z=>hc (by simp [z])) e⟩) (fun _ _ _ _ n=>n)
   (fun b o hc e=>⟨o,k b o (fun z=>hc (by simp [z])) e⟩) (fun _ _ e=>e) (fun _ _ _ e=>e) (fun b ps e=>⟨#[],by rw [e];simp⟩) (fun m hm=>?_) (fun b u e=>?_) I.bare
 · have e:b=it:=by simpa using hb
   subst e
   exact ⟨h1,hL,h2,h3⟩
 · obtain ⟨o,es,ep,ho,r⟩:=hm
   exact ⟨o,es,ep,k _ o (Ne.symm hL) ho,r⟩
 · refine (I.hok b u e).stay (fun c v hc q=>k c v ?_ q) (fun _ q=>q) fun _ _ q=>q
   rcases hc with z | z
   · rw [z];exact nit b u e
   · exact nit c _ z
theorem Inv.tok (I:Inv X pins σ H s) (t:Nat):Inv X pins σ H { s with toks:=t }:=I.un (h':=s.heap) (t':=t) Un.refl I.hok
theorem Inv.kept {t':Nat} (I:Inv X pins σ H s) (k:∀ b u,s.heap.get? b=some u→h'.get? b=some u):Inv X pins σ H { s with heap:=h',toks:=t' }:=I.un (Un.kept k) (I.hok.kept k)
theorem Inv.laid {a:Addr} {o:HO} {t':Nat} (I:Inv X pins σ H s) (k:∀ b u,s.heap.get? b=some u→h'.get? b=some u) (hp:s.heap.objs.size≤a) (new:bc X.prog X.w (upd H a o) h' a o):
 Inv X pins σ (upd H a o) { s with heap:=h',toks:=t' }:=I.un (Un.laid k hp (I.hok.fresh hp)) (I.hok.laid k hp new)
theorem Inv.write {x e:Addr} {o:HO} {t':Nat} (I:Inv X pins σ H s) (mu:Mut (H x)) (he:e=x∨H e=some (.own x)) (k:∀ b u,b≠e→s.heap.get? b=some u→h'.get? b=some u) (heo:∃ u,h'.get? e=some u)
 (new:bc X.prog X.w (upd H x o) h' x o):Inv X pins σ (upd H x o) { s with heap:=h',toks:=t' }:=I.un (Un.write mu he k heo) (I.hok.write mu he k heo new)
theorem Inv.pins_of {pins':List (Addr×Obj)} (I:Inv X pins σ H s) (h:∀ p∈pins',s.heap.get? p.1=some p.2∧H p.1=none∧p.1≠X.env.locals∧p.1∉X.fs∧∀ v,p.2.data≠ .cell v):Inv X pins' σ H s:=
 ⟨I.ok,I.os,I.bare,I.base,I.loc,I.cell,I.free,I.freeC,fun p hp=>(List.mem_append.mp hp).elim (fun z=>I.pin p (List.mem_append_left _ z)) (h p),I.hok,I.len⟩
theorem jO {N:List Str} (hN:N.Nodup) {i j:Nat} {x:Str} (a:N[i]?=some x) (b:N[j]?=some x):i=j:=by
 obtain ⟨h1,e1⟩:=List.getElem?_eq_some_iff.mp a
 obtain ⟨h2,e2⟩:=List.getElem?_eq_some_iff.mp b
 exact (List.getElem_inj hN).mp (e1.trans e2.symm)
theorem mB {M:Model} {A:Around} {E:Value→Shared→Prop} {i:Nat} {x:Str} {v:V} {u:Value} {Q:Unit→Shared→Prop} (I:Inv X pins σ H s) (hN:X.N.Nodup) (hi:X.N[i]?=some x) (hx:Loc X.env.scope x) (r:aW v u)
   (h:∀ s',Inv X pins (σ.set i (some v)) H s'→(∃ a,Heap.SameBut a s.heap s'.heap∧(a=X.env.locals∨X.env.cells.lookup x=some a))→Q () s') (hf:X.fn x=true∨X.env.scope.names.lookup x=some .local:=by first | exact .inl rfl | exact .inr rfl | assumption):wpAny M A (storeName X.env x u) Q E s:=by
 obtain ⟨m,hn,hl⟩:=id I.loc
 have hcls:(X.env.scope.kind==.class||(X.env.scope.kind==.module&&X.env.locals !=X.env.globals))=false:=by rw [I.ok.kind];rfl
 have hiσ:i<σ.length:=by rw [I.len];exact (List.getElem?_eq_some_iff.mp hi).1
 have cne:=I.cne
 have tracked:∀ {a:Addr} {h':Heap},(∃ o,s.heap.get? a=some o∧H a=none)→Heap.SameBut a s.heap h'→HOk X.prog X.w H h':=fun {a h'} ha hs b ob e=>by
   obtain ⟨_,_,hfree⟩:=ha
   refine (I.hok b ob e).stay (fun c w' hc q=>(hs.2 c ?_).trans q) (fun _ q=>q) fun _ _ q=>q
   rintro rfl
   rcases hc with rfl | hc
   · rw [hfree] at e;cases e
   · rw [hfree] at hc;cases hc
 rcases hx with hk | hk
 · refine wpAny_storeName_local hk hn (fun h' hn' hs=>?_) hcls
   obtain ⟨oL,_,_,hoL,_⟩:=id hn
   refine h _ ⟨I.ok,I.os,I.bare,⟨fun b o e n hb hx=>?_,fun b o e n hb hx=>?_,I.base.free,fun b o e hx=>?_,I.base.tups,I.base.frzs,I.base.tbls⟩,⟨_,hn',fun j y v' e1 e2 e3=>?_⟩,fun y c e=>?_,I.free,I.freeC,fun p hp=>?_,tracked ⟨oL,hoL,I.free⟩ hs,by simpa using I.len⟩ ⟨_,hs,.inl rfl⟩
   · exact (hs.2 b (Nat.ne_of_lt (Nat.lt_of_lt_of_le (Heap.lt_size e) I.ok.above))).trans (I.base.keep b o e n hb hx)
   · obtain ⟨sl,e1⟩:=I.base.slot b o e n hb hx
     exact ⟨sl,(hs.2 b (Nat.ne_of_lt (Nat.lt_of_lt_of_le (Heap.lt_size e) I.ok.above))).trans e1⟩
   · obtain ⟨o',e1⟩:=I.base.there b o e hx
     exact ⟨o',(hs.2 b (Nat.ne_of_lt (Nat.lt_of_lt_of_le (Heap.lt_size e) I.ok.above))).trans e1⟩
   · by_cases hj:j=i
     · subst hj
       rw [hi] at e1;cases e1
       rw [List.getElem?_set_self hiσ] at e2
       cases e2
       exact ⟨u,r,.inl ⟨hk,by simp⟩⟩
     · rw [List.getElem?_set_ne (Ne.symm hj)] at e2
       obtain ⟨u',r',q⟩:=hl j y v' e1 e2 e3
       refine ⟨u',r',?_⟩
       rcases q with ⟨k,e⟩ | ⟨k,c,e,z⟩
       · refine .inl ⟨k,?_⟩
         have:y≠x:=fun e=>hj (jO hN e1 (e▸hi))
         simp [this,e]
       · exact .inr ⟨k,c,e,z.sameBut hs (cne y c e)⟩
   · obtain ⟨w',z⟩:=I.cell y c e
     exact ⟨w',z.sameBut hs (cne y c e)⟩
   · obtain ⟨e,n,ne,nf,d⟩:=I.pin p hp
     exact ⟨(hs.2 p.1 ne).trans e,n,ne,nf,d⟩
 · have hfn:X.fn x=true:=by
     rcases hf with z | z
     · exact z
     · rw [z] at hk;cases hk
   obtain ⟨c,hc⟩:=I.ok.has x (.inl hk)
   obtain ⟨w',z⟩:=I.cell x c hc
   refine wpAny_storeName_cell I.ok.kind hk hc z (fun h' hc' hs=>?_)
   obtain ⟨oc,hoc,hocd⟩:=id z
   refine h { s with heap:=h' } ⟨I.ok,I.os,I.bare,⟨fun b o e n hb hx=>?_,fun b o e n hb hx=>?_,I.base.free,fun b o e hx=>?_,I.base.tups,I.base.frzs,I.base.tbls⟩,⟨m,hn.sameBut hs (Ne.symm (cne x c hc)),fun j y v' e1 e2 e3=>?_⟩,fun y c' e=>?_,I.free,I.freeC,fun p hp=>?_,tracked ⟨oc,hoc,I.freeC x c hc⟩ hs,by simpa using I.len⟩ ⟨c,hs,.inr hc⟩
   · exact (hs.2 b (Nat.ne_of_lt (Nat.lt_of_lt_of_le (Heap.lt_size e) (I.ok.cab x c hfn hc)))).trans (I.base.keep b o e n hb hx)
   · obtain ⟨sl,e1⟩:=I.base.slot b o e n hb hx
     exact ⟨sl,(hs.2 b (Nat.ne_of_lt (Nat.lt_of_lt_of_le (Heap.lt_size e) (I.ok.cab x c hfn hc)))).trans e1⟩
   · obtain ⟨o',e1⟩:=I.base.there b o e hx
     exact ⟨o',(hs.2 b (Nat.ne_of_lt (Nat.lt_of_lt_of_le (Heap.lt_size e) (I.ok.cab x c hfn hc)))).trans e1⟩
   · by_cases hj:j=i
     · subst hj
       rw [hi] at e1;cases e1
       rw [List.getElem?_set_self hiσ] at e2
       cases e2
       exact ⟨u,r,.inr ⟨.inl hk,c,hc,hc'⟩⟩
     · rw [List.getElem?_set_ne (Ne.symm hj)] at e2
       obtain ⟨u',r',q⟩:=hl j y v' e1 e2 e3
       refine ⟨u',r',?_⟩
       rcases q with q | ⟨k,c',e,z'⟩
       · exact .inl q
       · refine .inr ⟨k,c',e,z'.sameBut hs ?_⟩
         rintro rfl
         exact hj (jO hN e1 (I.ok.inj _ _ _ e hc▸hi))
   · by_cases hcc:c'=c
     · subst hcc;exact ⟨_,hc'⟩
     · obtain ⟨w2,z2⟩:=I.cell y c' e
       exact ⟨w2,z2.sameBut hs hcc⟩
   · obtain ⟨e,n,ne,nf,d⟩:=I.pin p hp
     refine ⟨(hs.2 p.1 ?_).trans e,n,ne,nf,d⟩
     intro q
     rw [q,hoc] at e
     have q':oc=p.2:=Option.some.inj e
     exact d w' (by rw [← q'];exact hocd)
theorem eU {M:Model} {A:Around} {E:Value→Shared→Prop} {i:Nat} {x:Str} {v:V} {u:Value} {Q:Unit→Shared→Prop} (I:Inv X pins σ H s) (hN:X.N.Nodup) (hi:X.N[i]?=some x) (hx:Loc X.env.scope x) (r:aW v u)
  (h:∀ s',Inv X pins (σ.set i (some v)) H s'→Q () s') (hf:X.fn x=true∨X.env.scope.names.lookup x=some .local:=by first | exact .inl rfl | exact .inr rfl | assumption):wpAny M A (storeName X.env x u) Q E s:=
 mB I hN hi hx r (fun s' I' _=>h s' I') hf
theorem Inv.call' {s':Shared} {ch:List Addr} (I:Inv X pins σ H s) (ho:s'.os=s.os) (u:Un (frs X.stack) ch H H' s.heap s'.heap) (hok:HOk X.prog X.w H' s'.heap) (hg:AllBare s'.gens)
  (hch:∀ b∈ch,(b∈X.ex∨X.s₀.heap.objs.size≤b)∧b≠X.env.locals∧(∀ x c,X.env.cells.lookup x=some c→c≠b)∧∀ p∈X.pn++pins,p.1≠b):Inv X pins σ H' s':=by
 obtain ⟨h',g',d',t',o'⟩:=s'
 have e:o'=s.os:=ho
 subst e
 exact I.call (g':=g') (t':=t') (d':=d') u hok hg hch
end
abbrev XK:=Value→Option Addr→Hp→Prop
abbrev St:=List (Option V)
abbrev VK:=V→Hp→Prop
abbrev TE:=St→Hp→VK→Prop
abbrev TT:=St→Hp→(Bool→Hp→Prop)→Prop
abbrev TA:=St→Hp→(List V→Hp→Prop)→Prop
structure eE where
 nx:St→Hp→Prop
 rt:VK
 bk:St→Hp→Prop:=fun _ _=>False
 ct:St→Hp→Prop:=fun _ _=>False
abbrev TS:=eE→St→Hp→Prop
def EP (X:Cx) (pins:List (Addr×Obj)) (σ:St) (Q:VK) (u:Value) (s':Shared):Prop:=∃ v H',Inv X pins σ H' s'∧aW v u∧Q v H'
def TP (X:Cx) (pins:List (Addr×Obj)) (σ:St) (Q:Bool→Hp→Prop) (b:Bool) (s':Shared):Prop:=∃ H',Inv X pins σ H' s'∧Q b H'
def AP (X:Cx) (pins:List (Addr×Obj)) (σ:St) (Q:List V→Hp→Prop) (us:List Value) (s':Shared):Prop:=∃ vs H',Inv X pins σ H' s'∧aX vs us∧Q vs H'
def SP (X:Cx) (pins:List (Addr×Obj)) (D:eE) (f:Flow) (s':Shared):Prop:=
 match f with
 | .next=>∃ σ' H',Inv X pins σ' H' s'∧D.nx σ' H'
 | .brk=>∃ σ' H',Inv X pins σ' H' s'∧D.bk σ' H'
 | .cont=>∃ σ' H',Inv X pins σ' H' s'∧D.ct σ' H'
 | .ret u=>∃ v σ' H',Inv X pins σ' H' s'∧aW v u∧D.rt v H'
def PE (X:Cx) (e:Expr) (t:TE):Prop:=
 ∀ (pins:List (Addr×Obj)) (s:Shared) (σ:St) (H:Hp) (Q:VK),Inv X pins σ H s→t σ H Q→wpAny (model X.prog X.w) X.A (eval e X.env) (EP X pins σ Q) X.xe s
def PT (X:Cx) (e:Expr) (t:TT):Prop:=
 ∀ (pins:List (Addr×Obj)) (s:Shared) (σ:St) (H:Hp) (Q:Bool→Hp→Prop),Inv X pins σ H s→t σ H Q→wpAny (model X.prog X.w) X.A (isTrue e X.env (eval e X.env)) (TP X pins σ Q) X.xe s
def PW (X:Cx) (e:Expr) (t:TT):Prop:=
 ∀ (whole:Sem Value) (pins:List (Addr×Obj)) (s:Shared) (σ:St) (H:Hp) (Q:Bool→Hp→Prop),Inv X pins σ H s→t σ H Q→wpAny (model X.prog X.w) X.A (isTrue e X.env whole) (TP X pins σ Q) X.xe s
theorem PW.pt {X:Cx} {e:Expr} {t:TT} (h:PW X e t):PT X e t:=h _
def PA (X:Cx) (es:List Expr) (t:TA):Prop:=
 ∀ (pos:Pos) (pins:List (Addr×Obj)) (s:Shared) (σ:St) (H:Hp) (Q:List V→Hp→Prop),Inv X pins σ H s→t σ H Q→wpAny (model X.prog X.w) X.A (spliced (backTo pos (starEach es X.env))) (AP X pins σ Q) X.xe s
def PS (X:Cx) (st:Stmt) (t:TS):Prop:=
 ∀ (pins:List (Addr×Obj)) (s:Shared) (σ:St) (H:Hp) (D:eE),Inv X pins σ H s→t D σ H→wpAny (model X.prog X.w) X.A (exec st X.env) (SP X pins D) X.xe s
def PSs (X:Cx) (st:List Stmt) (t:TS):Prop:=
 ∀ (pins:List (Addr×Obj)) (s:Shared) (σ:St) (H:Hp) (D:eE),Inv X pins σ H s→t D σ H→wpAny (model X.prog X.w) X.A (execs st X.env) (SP X pins D) X.xe s
theorem thn {α:Type} {t:Sem α} {Q Q':α→Shared→Prop} {M:Model} {A:Around} {E:Value→Shared→Prop} {s:Shared} (h:wpAny M A t Q E s) (hQ:∀ a s,Q a s→Q' a s):wpAny M A t Q' E s:=wpAny_mono h hQ fun _ _ x=>x
end L2
namespace L2
open PySem PySem.Spec PyProof.Rows
section
variable {X:Cx}
def GV (i:Nat):TE:=fun σ H Q=>∃ v,σ[i]?=some (some v)∧Q v H
def tC (v:V):TE:=fun _ H Q=>Q v H
theorem AJ {i:Nat} {x:Str} {pos:Pos} (hN:X.N[i]?=some x) (hv:Vis X.env.scope x) (hd:(x==("__debug__" :Str))=false:=by decide) (hcd:(x==("__classdict__" :Str))=false:=by decide):PE X (.Name x pos) (GV i):=by
 intro pins s σ H Q I h
 obtain ⟨v,e,h⟩:=h
 obtain ⟨m,hn,hl⟩:=I.loc
 obtain ⟨u,r,l⟩:=hl i x v hN e hv
 have fin:EP X pins σ Q u s:=⟨v,H,I,r,h⟩
 rcases l with ⟨hk,hm⟩ | ⟨hk,c,hc,hcell⟩
 · exact wpAny_Name (wpAny_loadName_local I.ok.kind hk hn hm fin) hd
 · rcases hk with hk | hk
   · exact wpAny_Name (wpAny_loadName_cell I.ok.kind hk hc hcell fin) hd
   · exact wpAny_Name (wpAny_loadName_free I.ok.kind hk hc hcell fin hcd) hd
theorem AI {i j pos}:PE X (.Constant (.int i) j pos) (tC (.int i)):=fun _ _ _ H _ I h=>wpAny_Constant_int ⟨.int i,H,I.tok _,⟨_,rfl⟩,h⟩
theorem Gd {b j pos}:PE X (.Constant (.bool b) j pos) (tC (.bl b)):=fun _ _ _ H _ I h=>Constant_bool ⟨.bl b,H,I,rfl,h⟩
theorem BR {j pos}:PE X (.Constant .none j pos) (tC .non):=fun _ _ _ H _ I h=>Constant_none ⟨.non,H,I,rfl,h⟩
theorem CD {x j pos}:PE X (.Constant (.str x) j pos) (tC (.str x)):=fun _ _ _ H _ I h=>Calls.Constant_str ⟨.str x,H,I.tok _,⟨_,rfl⟩,h⟩
def Gl (X:Cx) (x:Str):Prop:=X.env.kindOf x=some .globalImplicit
theorem eV {E:Value→Shared→Prop} {pins:List (Addr×Obj)} {s:Shared} {σ:St} {H:Hp} {x:Str} {u:Value} {pos:Pos} {Q:Value→Shared→Prop} (I:Inv X pins σ H s) (hg:Gl X x) (hm:X.mg x=some u) (h:Q u s)
  (hd:(x==("__debug__" :Str))=false:=by decide):wpAny (model X.prog X.w) X.A (eval (.Name x pos) X.env) Q E s:=
 Calls.Name_function_global I.ok.kind hg (Calls.loadGlobal_global (by rw [I.ok.glob];exact I.mod.glob.keeps I.bk) hm h) hd
theorem gN {E:Value→Shared→Prop} {pins:List (Addr×Obj)} {s:Shared} {σ:St} {H:Hp} {x:Str} {u:Value} {pos:Pos} {Q:Value→Shared→Prop} (I:Inv X pins σ H s) (hg:Gl X x) (hm:X.mg x=none) (hv:bootBuiltins x=some u) (h:Q u s)
  (hn:x≠ "__name__" :=by decide) (hd:(x==("__debug__" :Str))=false:=by decide):wpAny (model X.prog X.w) X.A (eval (.Name x pos) X.env) Q E s:=by
 obtain ⟨mb,h1,h2⟩:=I.mod.blt
 exact Calls.Name_function_global I.ok.kind hg (Calls.loadGlobal_builtin (by rw [I.ok.glob];exact I.mod.glob.keeps I.bk) hm (by rw [I.ok.blt];exact h1.keeps I.bk) ((h2 x hn).trans hv) h) hd
theorem lO {x:Str} {v:V} {u:Value} {pos:Pos} (hg:Gl X x) (hm:X.mg x=some u) (r:aW v u) (hd:(x==("__debug__" :Str))=false:=by decide):PE X (.Name x pos) (tC v):=
 fun _ _ _ H _ I h=>eV I hg hm ⟨v,H,I,r,h⟩ hd
theorem zm {x:Str} {v:V} {u:Value} {pos:Pos} (hg:Gl X x) (hm:X.mg x=none) (hv:bootBuiltins x=some u) (r:aW v u) (hn:x≠ "__name__" :=by decide) (hd:(x==("__debug__" :Str))=false:=by decide):PE X (.Name x pos) (tC v):=
 fun _ _ _ H _ I h=>gN I hg hm hv ⟨v,H,I,r,h⟩ hn hd
variable {a b:Expr} {ta tb:TE} {pos:Pos}
variable {tA tB':TT} {bS:List Expr}
def bJ (t:TT):TT:=fun σ H Q=>t σ H fun c H1=>Q (!c) H1
theorem zp (ha:PT X a tA):PW X (.BoolOp .And [a] pos) tA:=by
 intro wh pins s σ H Q I h
 refine isTrue_and (thn (ha pins s σ H Q I h) fun c s1 e=>?_)
 cases c with
 | true=>exact isTrue_and_nil e
 | false=>exact e
theorem BP (ha:PT X a tA):PW X (.BoolOp .Or [a] pos) tA:=by
 intro wh pins s σ H Q I h
 refine isTrue_or (thn (ha pins s σ H Q I h) fun c s1 e=>?_)
 cases c with
 | false=>exact isTrue_or_nil e
 | true=>exact e
theorem CZ (ha:PT X a tA):PT X (.UnaryOp .Not a pos) (bJ tA):=by
 intro pins s σ H Q I h
 exact isTrue_not (ha pins s σ H (fun c H1=>Q (!c) H1) I h)
theorem AO {op} {t:TE} (h:PE X a t):PE X (.BoolOp op [a] pos) t:=fun pins s σ H Q I hw=>BoolOp_one (h pins s σ H Q I hw)
end
end L2
namespace L2
open PySem PySem.Spec PyProof.Rows
def SqL (K:W.Frag) (H:Hp) (a:Addr) (xs:List V):Prop:=
 Rd H a (.lst xs)∨
  ∃ (o:Obj) (its:Array Value) (n:Nat),K.lookup a=some o∧o.cls=.type "list" ∧o.dict=none∧o.data=.seq its n∧its.size≤sizeLine∧aX xs its.toList
def SqT (K:W.Frag) (H:Hp) (a:Addr) (xs:List V):Prop:=
 Rd H a (.tup xs)∨
  ∃ (o:Obj) (its:Array Value) (n:Nat),K.lookup a=some o∧o.cls=.type "tuple" ∧o.data=.seq its n∧its.size≤sizeLine∧aX xs its.toList
def Hu:Value→Option V
 | .none=>some .non
 | .bool b=>some (.bl b)
 | .int i _=>some (.int i)
 | .str x _=>some (.str x)
 | .bytes b _=>some (.byt b)
 | .float b _=>some (.flt b)
 | .ref a=>some (.ref a)
 | .type n=>some (.ty n)
 | _=>none
theorem aW.abs {x:V} {u:Value} (r:aW x u):Hu u=some x:=by
 cases x with
 | non=>cases r;rfl
 | bl _=>cases r;rfl
 | int _=>obtain ⟨t,rfl⟩:=r;rfl
 | str _=>obtain ⟨t,rfl⟩:=r;rfl
 | byt _=>obtain ⟨t,rfl⟩:=r;rfl
 | flt _=>obtain ⟨t,rfl⟩:=r;rfl
 | ref _=>cases r;rfl
 | ty _=>cases r;rfl
theorem aW.inj {x y:V} {u:Value} (r:aW x u) (q:aW y u):x=y:=Option.some.inj (r.abs.symm.trans q.abs)
theorem aX.inj:∀ {xs ys:List V} {us:List Value},aX xs us→aX ys us→xs=ys
 | _,_,_,.nil,.nil=>rfl
 | _,_,_,.cons r t,.cons r' t'=>by rw [r.inj r',aX.inj t t']
section
variable {X:Cx} {pins:List (Addr×Obj)} {σ:St} {H:Hp} {s:Shared} {a:Addr} {xs ys:List V}
theorem SqL.of {K:W.Frag} (h:H a=some (.lst xs)):SqL K H a xs:=.inl (.inl h)
theorem SqT.of {K:W.Frag} (h:H a=some (.tup xs)):SqT K H a xs:=.inl (.inl h)
theorem Inv.list (I:Inv X pins σ H s) (h:SqL X.K H a xs):∃ its:List Value,aX xs its∧PlainL s.heap a its.toArray∧xs.length≤sizeLine:=by
 rcases h with h | ⟨o,its,n,hk,hc,hd,hs,hz,r⟩
 · obtain ⟨z,its,n,r,e⟩:=h.ok I.hok
   exact ⟨its,r,⟨_,n,e,rfl,rfl,rfl⟩,z⟩
 · refine ⟨its.toList,r,⟨o,n,I.kIn a o hk,hc,hd,by simpa using hs⟩,?_⟩
   have e:=r.length
   simp only [Array.length_toList] at e
   omega
theorem Inv.tuple (I:Inv X pins σ H s) (h:SqT X.K H a xs):∃ its:List Value,aX xs its∧IsTup s.heap a its.toArray∧xs.length≤sizeLine:=by
 rcases h with h | ⟨o,its,n,hk,hc,hs,hz,r⟩
 · obtain ⟨z,its,r,p⟩:=h.ok I.hok
   exact ⟨its,r,p,z⟩
 · refine ⟨its.toList,r,⟨o,I.kIn a o hk,hc,n,by simpa using hs⟩,?_⟩
   have e:=r.length
   simp only [Array.length_toList] at e
   omega
theorem Inv.list_inj (I:Inv X pins σ H s) (h:SqL X.K H a xs) (h':SqL X.K H a ys):xs=ys:=by
 obtain ⟨its,r,⟨o,n,e,_,_,d⟩,_⟩:=I.list h
 obtain ⟨its',r',⟨o',n',e',_,_,d'⟩,_⟩:=I.list h'
 rw [e] at e';cases e'
 rw [d] at d'
 injection d' with d1 _
 have:its=its':=by simpa using congrArg Array.toList d1
 subst this
 exact r.inj r'
theorem Inv.tuple_inj (I:Inv X pins σ H s) (h:SqT X.K H a xs) (h':SqT X.K H a ys):xs=ys:=by
 obtain ⟨its,r,⟨o,e,_,n,d⟩,_⟩:=I.tuple h
 obtain ⟨its',r',⟨o',e',_,n',d'⟩,_⟩:=I.tuple h'
 rw [e] at e';cases e'
 rw [d] at d'
 injection d' with d1 _
 have:its=its':=by simpa using congrArg Array.toList d1
 subst this
 exact r.inj r'
end
abbrev Cx.wish (X:Cx) (E:Value→Shared→Prop):Cx:={ X with xe:=E }
abbrev Cx.nox (X:Cx):Cx:=X.wish fun _ _=>False
theorem Cx.Ok.wish {X:Cx} (ok:X.Ok) (E:Value→Shared→Prop):(X.wish E).Ok:=
 ⟨ok.mod,ok.kind,ok.glob,ok.blt,ok.above,ok.inj,ok.has,ok.cab,ok.hd,ok.frames,ok.stk,ok.exf,ok.bs,ok.bsz,ok.noex,ok.exfs,ok.funs,ok.frf⟩
theorem Cx.Ok.unwish {X:Cx} {E:Value→Shared→Prop} (ok:(X.wish E).Ok):X.Ok:=
 ⟨ok.mod,ok.kind,ok.glob,ok.blt,ok.above,ok.inj,ok.has,ok.cab,ok.hd,ok.frames,ok.stk,ok.exf,ok.bs,ok.bsz,ok.noex,ok.exfs,ok.funs,ok.frf⟩
section
variable {X:Cx} {pins:List (Addr×Obj)} {σ:St} {H:Hp} {s:Shared} {E:Value→Shared→Prop}
theorem Inv.wish (I:Inv X pins σ H s) (E:Value→Shared→Prop):Inv (X.wish E) pins σ H s:=⟨I.ok.wish E,I.os,I.bare,I.base,I.loc,I.cell,I.free,I.freeC,I.pin,I.hok,I.len⟩
theorem Inv.unwish (I:Inv (X.wish E) pins σ H s):Inv X pins σ H s:=⟨I.ok.unwish,I.os,I.bare,I.base,I.loc,I.cell,I.free,I.freeC,I.pin,I.hok,I.len⟩
theorem SP.unwish {D:eE} {f:Flow} {s':Shared} (h:SP (X.wish E) pins D f s'):SP X pins D f s':=by
 cases f with
 | next=>obtain ⟨σ',H',I,q⟩:=h;exact ⟨σ',H',I.unwish,q⟩
 | brk=>obtain ⟨σ',H',I,q⟩:=h;exact ⟨σ',H',I.unwish,q⟩
 | cont=>obtain ⟨σ',H',I,q⟩:=h;exact ⟨σ',H',I.unwish,q⟩
 | ret u=>obtain ⟨v,σ',H',I,r,q⟩:=h;exact ⟨v,σ',H',I.unwish,r,q⟩
theorem PE.nox {e:Expr} {t:TE} (h:PE X.nox e t):PE X e t:=fun pins s σ H Q I hw=>
 wpAny_mono (h pins s σ H Q (I.wish _) hw) (fun _ _ ⟨v,H',I',r,q⟩=>⟨v,H',I'.unwish,r,q⟩) fun _ _ z=>False.elim z
theorem PSs.nox {st:List Stmt} {t:TS} (h:PSs X.nox st t):PSs X st t:=fun pins s σ H D I hw=>
 wpAny_mono (h pins s σ H D (I.wish _) hw) (fun _ _ q=>q.unwish) fun _ _ z=>False.elim z
end
section
variable {X:Cx} {st:Stmt} {bS:List Stmt} {t u:TS} {e:Expr} {te:TE} {pos:Pos}
def aG:TS:=fun D σ H=>D.nx σ H
def ar (t u:TS):TS:=fun D σ H=>t { D with nx:=u D } σ H
theorem zJ:PSs X [] aG:=fun _ _ σ H _ I h=>wpAny_execs_nil ⟨σ,H,I,h⟩
theorem wm (h1 : PS X st t) (h2 : PSs X bS u) : PSs X (st :: bS) (ar t u) := by
  intro pins s σ H D I h
  refine wpAny_execs_cons (thn (h1 pins s σ H { D with nx := u D } I h) fun f s1 q => ?_)
  cases f with
  | next =>
    obtain ⟨σ', H', I', q⟩ := q
    exact h2 pins s1 σ' H' D I' q
  | ret v => exact q
  | brk => exact q
  | cont => exact q
theorem zQ (h1:PS X st t):PSs X [st] t:=by
 intro pins s σ H D I h
 refine wpAny_execs_cons (thn (h1 pins s σ H D I h) fun f s1 q=>?_)
 cases f with
 | next=>exact wpAny_execs_nil q
 | ret v=>exact q
 | brk=>exact q
 | cont=>exact q
theorem Inv.quiet {pins:List (Addr×Obj)} {σ:St} {H:Hp} {s:Shared} (I:Inv X pins σ H s):interactive X.env=false:=by simp [interactive,I.ok.kind]
def eO (te:TE):TS:=fun D σ H=>te σ H fun _ H1=>D.nx σ H1
theorem ze (he:PE X e te) (hs:swapsWith e none pos.line X.env=pure false:=by rfl):PS X (.Expr e pos) (eO te):=by
 intro pins s σ H D I h
 exact wpAny_Expr_any (thn (he pins s σ H _ I h) fun v s1 ⟨x,H1,I1,r1,q1⟩=>⟨σ,H1,I1,q1⟩) I.quiet hs
def az (te:TE):TS:=fun D σ H=>te σ H D.rt
theorem Bu (he:PE X e te):PS X (.Return (some e) pos) (az te):=by
 intro pins s σ H D I h
 exact wpAny_Return_some (thn (he pins s σ H _ I h) fun v s1 ⟨x,H1,I1,r1,q1⟩=>⟨x,σ,H1,I1,r1,q1⟩)
def iK:TS:=fun _ _ _=>False
theorem wI:PS X st iK:=fun _ _ _ _ _ _ h=>h.elim
end
abbrev TG:=V→St→Hp→(St→Hp→Prop)→Prop
abbrev TGs:=List V→St→Hp→(St→Hp→Prop)→Prop
def PG (X:Cx) (target:Expr) (t:TG):Prop:=
 ∀ (pins:List (Addr×Obj)) (s:Shared) (σ:St) (H:Hp) (v:V) (u:Value) (Q:St→Hp→Prop),Inv X pins σ H s→aW v u→t v σ H Q→
  wpAny (model X.prog X.w) X.A (assign target X.env u) (fun _ s'=>∃ σ' H',Inv X pins σ' H' s'∧Q σ' H') X.xe s
def PGs (X:Cx) (ts:List Expr) (t:TGs):Prop:=
 ∀ (pins:List (Addr×Obj)) (s:Shared) (σ:St) (H:Hp) (vs:List V) (us:List Value) (Q:St→Hp→Prop),Inv X pins σ H s→aX vs us→t vs σ H Q→
  wpAny (model X.prog X.w) X.A (assignInOrder ((assignEach ts X.env).map (·.2)) us) (fun _ s'=>∃ σ' H',Inv X pins σ' H' s'∧Q σ' H') X.xe s
abbrev vF:=V→V→V→Hp→(Hp→Prop)→Prop
def rk (X:Cx) (t:vF):Prop:=
 ∀ (pins:List (Addr×Obj)) (s:Shared) (σ:St) (H:Hp) (o i v:V) (ov iv u:Value) (Q:Hp→Prop),Inv X pins σ H s→aW o ov→aW i iv→aW v u→t o i v H Q→
  wpAny (model X.prog X.w) X.A (setItem ov iv u) (fun _ s'=>∃ H',Inv X pins σ H' s'∧Q H') X.xe s
section
variable {X:Cx} {pos:Pos}
def av (i:Nat):TG:=fun v σ H Q=>Q (σ.set i (some v)) H
theorem gS {i:Nat} {x:Str} (hN:X.N.Nodup) (hi:X.N[i]?=some x) (hx:Loc X.env.scope x) (hf:X.fn x=true∨X.env.scope.names.lookup x=some .local:=by first | exact .inl rfl | exact .inr rfl | assumption):PG X (.Name x pos) (av i):=by
 intro pins s σ H v u Q I r h
 exact wpAny_assign_Name (eU I hN hi hx r (fun s' I'=>⟨_,H,I',h⟩) hf)
def pL:TGs:=fun vs σ H Q=>vs=[]∧Q σ H
def fK (t:TG) (u:TGs):TGs:=fun vs σ H Q=>∃ v r,vs=v::r∧t v σ H fun σ' H'=>u r σ' H' Q
theorem qB:PGs X [] pL:=by
 intro pins s σ H vs us Q I r h
 obtain ⟨e,h⟩:=h
 subst e
 cases r
 exact assignInOrder_nil ⟨σ,H,I,h⟩
theorem ie {e : Expr} {es : List Expr} {t : TG} {u : TGs} (h1 : PG X e t) (h2 : PGs X es u)
    (hs : (assignEach (e :: es) X.env).map (·.2) = assign e X.env :: (assignEach es X.env).map (·.2) := by rfl) : PGs X (e :: es) (fK t u) := by
  intro pins s σ H vs us Q I r h
  obtain ⟨v, vr, e1, h⟩ := h
  subst e1
  cases r with
  | cons r rr =>
    rw [hs]
    refine assignInOrder_cons (thn (h1 pins s σ H _ _ _ I r h) fun _ s1 ⟨σ1, H1, I1, q1⟩ => ?_)
    exact h2 pins s1 σ1 H1 _ _ Q I1 rr q1
def oi (K:W.Frag) (n:Nat) (t:TGs):TG:=fun v σ H Q=>∃ a xs,v=.ref a∧SqT K H a xs∧xs.length=n∧t xs σ H Q
theorem vf {es:List Expr} {k:Nat} {t:TGs} {n:Nat} (hc:X.calm=true) (h:PGs X es t)
  (hn:(assignEach es X.env).length=n:=by rfl) (hst:(assignEach es X.env).findIdx? (·.1)=none:=by rfl):PG X (.Tuple es k pos) (oi X.K n t):=by
 intro pins s σ H v u Q I r hw
 obtain ⟨a,xs,e1,hq,hl,hw⟩:=hw
 subst e1
 cases r
 obtain ⟨its,rv,ht,hz⟩:=I.tuple hq
 refine assign_Tuple_tuple (I.ok.hd hc) ht (by simp [hn,←hl,rv.length]) hst fun h' hx=>?_
 have I1:Inv X pins σ H { s with heap:=h' }:=I.kept (t':=s.toks) fun b o e=>hx b o (Nat.ne_of_lt (Heap.lt_size e)) e
 exact h pins _ σ H xs _ Q I1 (by simpa using rv) hw
def xH (to ti:TE) (t:vF):TG:=fun v σ H Q=>to σ H fun o H1=>ti σ H1 fun i H2=>t o i v H2 fun H3=>Q σ H3
theorem Ae {o i : Expr} {to ti : TE} {t : vF} (ho : PE X o to) (hi : PE X i ti) (hs : rk X t)
  (ha : ∀ v, assign (.Subscript o i pos) X.env v = (do
   let ov ← holding [v] (eval o X.env)
   let iv ← holding [v, ov] (eval i X.env)
   standAt pos
   holding [v, ov, iv] (setItem ov iv v)
   release [v, ov, iv] []) := by intro _; rfl) : PG X (.Subscript o i pos) (xH to ti t) := by
 intro pins s σ H v u Q I r h
 rw [ha]
 refine wpAny_bind (wpAny_holding (thn (ho pins s σ H _ I h) fun ov s1 ⟨x, H1, I1, r1, q1⟩ => ?_))
 refine wpAny_bind (wpAny_holding (thn (hi pins s1 σ H1 _ I1 q1) fun iv s2 ⟨y, H2, I2, r2, q2⟩ => ?_))
 refine wpAny_bind (wpAny_standAt (wpAny_bind (wpAny_holding (thn (hs pins s2 σ H2 x y v ov iv u _ I2 r1 r2 r q2) fun _ s3 ⟨H3, I3, q3⟩ => ?_))))
 exact wpAny_release ⟨σ, H3, I3, q3⟩
def aC (te:TE) (g:TG):TS:=fun D σ H=>te σ H fun x H1=>g x σ H1 D.nx
theorem tZ {tg e:Expr} {te:TE} {g:TG} (he:PE X e te) (hg:PG X tg g) (hs:swapsWithSole [tg] e pos.line X.env=pure false:=by rfl) (hw:swappedStores [tg] e X.env=pure none:=by rfl)
  (h1:(assignEach [tg] X.env).map (·.2)=[assign tg X.env]:=by rfl):PS X (.Assign [tg] e pos) (aC te g):=by
 intro pins s σ H D I h
 refine wpAny_Assign_stores (thn (he pins s σ H _ I h) fun v s1 ⟨x,H1,I1,r1,q1⟩=>?_) hs hw
 rw [h1]
 exact thn (hg pins s1 σ H1 x v _ I1 r1 q1) fun _ s2 q=>q
theorem An {i:Nat} {x:Str} {e:Expr} {te:TE} {pos':Pos} (hN:X.N.Nodup) (hi:X.N[i]?=some x) (hx:Loc X.env.scope x) (he:PE X e te) (hs:swapsWith e (some (.Name x pos')) pos.line X.env=pure false:=by rfl) (hf:X.fn x=true∨X.env.scope.names.lookup x=some .local:=by first | exact .inl rfl | exact .inr rfl | assumption):
  PS X (.Assign [.Name x pos'] e pos) (aC te (av i)):=by
 intro pins s σ H D I h
 refine wpAny_Assign_Name (thn (he pins s σ H _ I h) fun v s1 ⟨y,H1,I1,r1,q1⟩=>?_) hs
 exact eU I1 hN hi hx r1 (fun s2 I2=>⟨_,H1,I2,q1⟩) hf
end
section
variable {X:Cx} {pos:Pos}
def pU (c:TT) (tb:TS):TS:=fun D σ H=>∃ W:Nat→St→Hp→Prop,(∃ m,W m σ H)∧∀ m σ H,W m σ H→
 c σ H fun b H1=>if b=true then ∃ N:St→Hp→Prop,(∀ σ' H',N σ' H'→∃ m',m'<m∧W m' σ' H')∧tb { D with nx:=N,ct:=N,bk:=D.nx } σ H1 else D.nx σ H1
theorem wu {c : Expr} {body : List Stmt} {tc : TT} {tb : TS} (hp : PassesOwn (model X.prog X.w) X.A X.env X.xe) (hc : PT X c tc) (hb : PSs X body tb) : PS X (.While c body [] pos) (pU tc tb) := by
  intro pins s σ H D I h
  obtain ⟨W, ⟨m0, w0⟩, turn⟩ := h
  refine wpAny_While (codeAny_whileLoop (fun n s' => ∃ σ' H', Inv X pins σ' H' s' ∧ W n σ' H') ?_ m0 ⟨σ, H, I, w0⟩)
  rintro n s1 ⟨σ1, H1, I1, w1⟩
  refine wpAny_passesOwn hp (thn (hc pins s1 σ1 H1 _ I1 (turn n σ1 H1 w1)) fun b s2 ⟨H2, I2, q2⟩ => ?_)
  cases b with
  | true =>
    obtain ⟨N, hN, q2⟩ := q2
    rw [if_pos rfl]
    refine wpAny_passesOwn hp (thn (hb pins s2 σ1 H2 _ I2 q2) fun f s3 q3 => ?_)
    cases f with
    | next =>
      obtain ⟨σ3, H3, I3, n3⟩ := q3
      obtain ⟨m', hm, w3⟩ := hN σ3 H3 n3
      exact ⟨m', hm, σ3, H3, I3, w3⟩
    | cont =>
      obtain ⟨σ3, H3, I3, n3⟩ := q3
      obtain ⟨m', hm, w3⟩ := hN σ3 H3 n3
      exact ⟨m', hm, σ3, H3, I3, w3⟩
    | brk => exact q3
    | ret v => exact q3
  | false =>
    rw [if_neg Bool.false_ne_true]
    exact wpAny_execs_nil ⟨σ1, H2, I2, q2⟩
end
structure It where
 go:Nat→Hp→Prop
 yld:Nat→Hp→V→Hp→Prop
 stop:Nat→Hp→Prop
def iM (X:Cx) (pins:List (Addr×Obj)) (H:Hp) (b:Addr):Prop:=
 H b=none∧b≠X.env.locals∧b∉X.fs∧(b∈X.ex∨X.s₀.heap.objs.size≤b)∧(∀ x c,X.env.cells.lookup x=some c→c≠b)∧∀ p∈X.pn++pins,p.1≠b
theorem Inv.fpOk {X:Cx} {pins:List (Addr×Obj)} {σ:St} {H H':Hp} {s:Shared} {b:Addr} (I:Inv X pins σ H s) (hb:s.heap.objs.size≤b) (hn:H' b=none):iM X pins H' b:=by
 refine ⟨hn,Nat.ne_of_gt (Nat.lt_of_lt_of_le I.lt hb),I.nofs hb,.inr (Nat.le_trans I.sz hb),fun x c e z=>?_,fun p hp z=>?_⟩
 · obtain ⟨v,q⟩:=I.cell x c e
   exact absurd (Nat.lt_of_lt_of_le q.lt (by rw [z];exact hb)) (Nat.lt_irrefl _)
 · exact absurd (Nat.lt_of_lt_of_le (Heap.lt_size (I.pin p hp).1) (by rw [z];exact hb)) (Nat.lt_irrefl _)
structure jU (P:Program) (w:World) (K:W.Frag) (tg:Expr) (J:It) (fp:List Addr) (it:Addr) (tn:Nat→Heap→Prop):Prop where
 mem:it∈fp
 obj:∀ i h,tn i h→∀ b∈fp,∃ o,h.get? b=some o∧∀ v,o.data≠ .cell v
 keep:∀ i h h',tn i h→(∀ b∈fp,∀ o,h.get? b=some o→h'.get? b=some o)→tn i h'
 item:∀ (X:Cx),X.prog=P→X.w=w→X.K=K→X.calm=true→∀ (i:Nat) (pins:List (Addr×Obj)) (s:Shared) (σ:St) (H:Hp) (E:Value→Shared→Prop),Inv X pins σ H s→(∀ b∈fp,iM X pins H b)→tn i s.heap→J.go i H→
  wpAny (model P w) X.A (pyNext (.ref it)) (fun r s1=>∃ u,r=some u∧
   wpAny (model P w) X.A (letOwnedTupleGo tg (.ref it) u) (fun _ s2=>∃ x H',Inv X pins σ H' s2∧aW x u∧J.yld i H x H'∧tn (i+1) s2.heap∧∀ b∈fp,H' b=none) E s1) E s
 done:∀ (X:Cx),X.prog=P→X.w=w→X.K=K→X.calm=true→∀ (i:Nat) (pins:List (Addr×Obj)) (s:Shared) (σ:St) (H:Hp) (E:Value→Shared→Prop),Inv X pins σ H s→(∀ b∈fp,iM X pins H b)→tn i s.heap→J.stop i H→
  wpAny (model P w) X.A (pyNext (.ref it)) (fun r s1=>r=none∧Inv X pins σ H s1) E s
 self:∀ (A:Around) (i:Nat) (s:Shared) (Q:Value→Shared→Prop) (E:Value→Shared→Prop),tn i s.heap→Q (.ref it) s→wpAny (model P w) A (pyIter (.ref it)) Q E s
abbrev TI:=St→Hp→(It→Hp→Prop)→Prop
def PIE (X:Cx) (pins:List (Addr×Obj)) (σ:St) (tg:Expr) (R:It→Hp→Prop) (itv:Value) (s2:Shared):Prop:=
 ∃ (it:Addr) (fp:List Addr) (tn:Nat→Heap→Prop) (J:It) (H':Hp),itv=.ref it∧Inv X pins σ H' s2∧jU X.prog X.w X.K tg J fp it tn∧tn 0 s2.heap∧(∀ b∈fp,iM X pins H' b)∧R J H'
def PI (X:Cx) (tg iter:Expr) (wi:TI):Prop:=
 ∀ (pins:List (Addr×Obj)) (s:Shared) (σ:St) (H:Hp) (R:It→Hp→Prop),Inv X pins σ H s→wi σ H R→
  wpAny (model X.prog X.w) X.A (eval iter X.env) (fun v s1=>wpAny (model X.prog X.w) X.A (pyIter v) (PIE X pins σ tg R) X.xe s1) X.xe s
theorem kF {M : Model} {A : Around} {E : Value → Shared → Prop} {s : Shared} {tg : Expr} {it : Addr} {u : Value} {o : Obj} {n : String} {vs : Array Value} {Q : Unit → Shared → Prop} (ho : s.heap.get? it = some o) (hc : o.cls = .type n) (hd : o.data = .fields vs)
    (hn : ["enumerate", "zip", "dict_itemiterator", "dict_reverseitemiterator", "odict_iterator", "itertools.zip_longest", "itertools.pairwise"].contains n = false) (hQ : Q () s) : wpAny M A (letOwnedTupleGo tg (.ref it) u) Q E s := by
  unfold letOwnedTupleGo
  cases tg <;> first
    | exact wpAny_pure hQ
    | (cases u <;> first
        | exact wpAny_pure hQ
        | (refine wpAny_bind (wpAny_load ho ?_)
           rw [hc, hd]
           show wpAny M A (if (["enumerate", "zip", "dict_itemiterator", "dict_reverseitemiterator", "odict_iterator", "itertools.zip_longest", "itertools.pairwise"].contains n && vs[0]? == some (rawInt _)) = true then _ else _) Q E s
           rw [if_neg (by intro h; rw [hn, Bool.false_and] at h; cases h)]
           exact wpAny_pure hQ))
def Itl (K:W.Frag) (a:Addr):It:=
 ⟨fun i H=>∃ xs x,SqL K H a xs∧xs[i]?=some x,fun i H x H'=>H'=H∧∀ xs,SqL K H a xs→xs[i]?=some x,fun i H=>∃ xs,SqL K H a xs∧xs.length≤i⟩
def Itt (K:W.Frag) (a:Addr):It:=
 ⟨fun i H=>∃ xs x,SqT K H a xs∧xs[i]?=some x,fun i H x H'=>H'=H∧∀ xs,SqT K H a xs→xs[i]?=some x,fun i H=>∃ xs,SqT K H a xs∧xs.length≤i⟩
def Itr (lo:Int) (n:Nat):It:=⟨fun i _=>i<n,fun i H x H'=>H'=H∧x=.int (lo+i),fun i _=>n≤i⟩
theorem uQ {P:Program} {w:World} {K:W.Frag} {tg:Expr} (a it:Addr):jU P w K tg (Itl K a) [it] it (fun i h=>h.IsListIter it a i) where
 mem:=by simp
 obj:=fun i h st b hb=>by
  have e:b=it:=by simpa using hb
  subst e
  obtain ⟨o,e,c,d⟩:=st
  exact ⟨o,e,fun v z=>by rw [d] at z;cases z⟩
 keep:=fun i h h' st k=>st.at fun o e=>k it (by simp) o e
 item:=by
  intro X hP hw hK hc i pins s σ H E I hf st hg
  subst hP hw hK
  obtain ⟨xs,x,hq,hx⟩:=hg
  obtain ⟨its,rv,p,hz⟩:=I.list hq
  obtain ⟨u,hu,ru⟩:=rv.get hx
  obtain ⟨f0,f1,f2,f3,f4,f5⟩:=hf it (by simp)
  refine wpAny_pyNext_list_item st p.isList (x:=u) (by simpa using hu) fun h' st' sb=>?_
  have I1:Inv X pins σ H { s with heap:=h' }:=I.turned (t':=s.toks) (fun b o hb e=>(sb.2 b hb).trans e) f0 f1 f3 f4 f5
  obtain ⟨o,e,c,d⟩:=id st'
  exact ⟨u,rfl,kF (s:={ s with heap:=h' }) e c d (by decide) ⟨x,H,I1,ru,⟨rfl,fun ys hy=>by rw [I.list_inj hy hq];exact hx⟩,st',fun b hb=>(hf b hb).1⟩⟩
 done:=by
  intro X hP hw hK hc i pins s σ H E I hf st hg
  subst hP hw hK
  obtain ⟨xs,hq,hx⟩:=hg
  obtain ⟨its,rv,p,hz⟩:=I.list hq
  obtain ⟨f0,f1,f2,f3,f4,f5⟩:=hf it (by simp)
  have hl:=rv.length
  exact wpAny_pyNext_list_end (I.ok.hd hc) st p.isList (by simp;omega) fun h' eb=>⟨rfl,I.turned (t':=s.toks) (fun b o hb e=>eb b o hb e) f0 f1 f3 f4 f5⟩
 self:=fun _ _ _ _ _ st h=>wpAny_pyIter_listiter st h
theorem rh {P:Program} {w:World} {K:W.Frag} {tg:Expr} (a it:Addr):jU P w K tg (Itt K a) [it] it (fun i h=>h.IsTupleIter it a i) where
 mem:=by simp
 obj:=fun i h st b hb=>by
  have e:b=it:=by simpa using hb
  subst e
  obtain ⟨o,e,c,d⟩:=st
  exact ⟨o,e,fun v z=>by rw [d] at z;cases z⟩
 keep:=fun i h h' st k=>st.at fun o e=>k it (by simp) o e
 item:=by
  intro X hP hw hK hc i pins s σ H E I hf st hg
  subst hP hw hK
  obtain ⟨xs,x,hq,hx⟩:=hg
  obtain ⟨its,rv,p,hz⟩:=I.tuple hq
  obtain ⟨u,hu,ru⟩:=rv.get hx
  obtain ⟨f0,f1,f2,f3,f4,f5⟩:=hf it (by simp)
  refine wpAny_pyNext_tuple_item st (show s.heap.IsTuple a its.toArray from p) (x:=u) (by simpa using hu) fun h' st' sb=>?_
  have I1:Inv X pins σ H { s with heap:=h' }:=I.turned (t':=s.toks) (fun b o hb e=>(sb.2 b hb).trans e) f0 f1 f3 f4 f5
  obtain ⟨o,e,c,d⟩:=id st'
  exact ⟨u,rfl,kF (s:={ s with heap:=h' }) e c d (by decide) ⟨x,H,I1,ru,⟨rfl,fun ys hy=>by rw [I.tuple_inj hy hq];exact hx⟩,st',fun b hb=>(hf b hb).1⟩⟩
 done:=by
  intro X hP hw hK hc i pins s σ H E I hf st hg
  subst hP hw hK
  obtain ⟨xs,hq,hx⟩:=hg
  obtain ⟨its,rv,p,hz⟩:=I.tuple hq
  obtain ⟨f0,f1,f2,f3,f4,f5⟩:=hf it (by simp)
  have hl:=rv.length
  exact wpAny_pyNext_tuple_end (I.ok.hd hc) st (show s.heap.IsTuple a its.toArray from p) (by simp;omega) fun h' eb=>⟨rfl,I.turned (t':=s.toks) (fun b o hb e=>eb b o hb e) f0 f1 f3 f4 f5⟩
 self:=fun _ _ _ _ _ st h=>wpAny_pyIter_tupleiter st h
theorem sX {P:Program} {w:World} {K:W.Frag} {tg:Expr} (it:Addr) (lo:Int) (n:Nat):jU P w K tg (Itr lo n) [it] it (fun i h=>IsRangeIter h it (lo+(i:Nat)*1) ((n:Int) - (i:Nat)) 1) where
 mem:=by simp
 obj:=fun i h st b hb=>by
  have e:b=it:=by simpa using hb
  subst e
  exact ⟨_,st,fun v z=>by
   have z':Data.fields _=Data.cell v:=z
   cases z'⟩
 keep:=fun i h h' st k=>k it (by simp) _ st
 item:=by
  intro X hP hw hK hc i pins s σ H E I hf st hg
  subst hP hw hK
  obtain ⟨f0,f1,f2,f3,f4,f5⟩:=hf it (by simp)
  have W:=Walks.range (prog:=X.prog) (w:=X.w) (I.ok.hd hc) it lo 1 n
  refine W.item i s _ _ hg st fun v h' tk hv st' kk=>?_
  obtain ⟨t,rfl⟩:=hv
  have I1:Inv X pins σ H { s with heap:=h',toks:=tk }:=I.turned (fun b o hb e=>kk b o (by simpa using hb) e) f0 f1 f3 f4 f5
  refine ⟨_,rfl,kF (s:={ s with heap:=h',toks:=tk }) (n:= "range_iterator") st' rfl rfl (by decide) ⟨.int (lo+i),H,I1,⟨t,?_⟩,⟨rfl,rfl⟩,st',fun b hb=>(hf b hb).1⟩⟩
  rw [Int.mul_one]
 done:=by
  intro X hP hw hK hc i pins s σ H E I hf st hg
  subst hP hw hK
  obtain ⟨f0,f1,f2,f3,f4,f5⟩:=hf it (by simp)
  exact wpAny_pyNext_range_end (I.ok.hd hc) st (by have:n≤i:=hg;omega) fun h' eb=>⟨rfl,I.turned (t':=s.toks) (fun b o hb e=>eb b o hb e) f0 f1 f3 f4 f5⟩
 self:=fun _ _ _ _ _ st h=>wpAny_pyIter_rangeiter st h
end L2
namespace L2
open PySem PySem.Spec PyProof.Rows
section
variable {X:Cx} {tg:Expr}
theorem pj {pins:List (Addr×Obj)} {σ:St} {H:Hp} {s:Shared} {R:It→Hp→Prop} {E:Value→Shared→Prop} {lo hi:Int} {t u v:Tok} {tk:Nat} (I:Inv X pins σ H s) (h1: -(2^62)≤lo) (h2:lo<2^62) (h3: -(2^62)≤hi) (h4:hi<2^62)
   (q:R (Itr lo (hi - lo).toNat) H):wpAny (model X.prog X.w) X.A (pyIter (.ref s.heap.objs.size)) (PIE X pins σ tg R) E { s with heap:=s.heap.push { cls:=.type "range",data:=.fields #[.int lo t,.int hi u,.int 1 v] },toks:=tk }:=by
 refine wpAny_pyIter_range (IsRange.new ..) (small_one h1 h2 h3 h4) ?_
 have I1:Inv X pins σ H { s with heap:=s.heap.push { cls:=.type "range",data:=.fields #[.int lo t,.int hi u,.int 1 v] },toks:=tk }:=I.kept fun b o e=>Heap.get?_push_of_some _ e
 refine ⟨(s.heap.push { cls:=.type "range",data:=.fields #[.int lo t,.int hi u,.int 1 v] }).objs.size,[(s.heap.push { cls:=.type "range",data:=.fields #[.int lo t,.int hi u,.int 1 v] }).objs.size],_,_,H,rfl,
   I1.kept (t':=tk) fun b o e=>Heap.get?_push_of_some _ e,sX _ lo (hi - lo).toNat,?_,fun b hb=>?_,q⟩
 · have e1:lo+((0:Nat):Int)*1=lo:=by simp
   have e2:(((hi - lo).toNat:Nat):Int) - ((0:Nat):Int)=Builtin.Range.rangeSize lo hi 1:=by rw [rangeSize_one];split <;> omega
   show IsRangeIter _ _ (lo+((0:Nat):Int)*1) ((((hi - lo).toNat:Nat):Int) - ((0:Nat):Int)) 1
   rw [e1,e2]
   exact Heap.get?_push_size _ rfl
 · have e:b=(s.heap.push { cls:=.type "range",data:=.fields #[.int lo t,.int hi u,.int 1 v] }).objs.size:=by simpa using hb
   subst e
   exact I1.fpOk (Nat.le_refl _) (I1.hok.fresh (Nat.le_refl _))
def ir (ta:TA):TI:=fun σ H R=>ta σ H fun vs H1=>∃ j:Int,vs=[.int j]∧ -(2^62)≤j∧j<2^62∧R (Itr 0 j.toNat) H1
def rW (ta:TA):TI:=fun σ H R=>ta σ H fun vs H1=>∃ i j:Int,vs=[.int i,.int j]∧(-(2^62)≤i∧i<2^62∧ -(2^62)≤j∧j<2^62)∧R (Itr i (j - i).toNat) H1
theorem uL {a : Expr} {ta : TA} {p pos : Pos} (hg : Gl X "range") (hm : X.mg "range" = none) (ha : PA X [a] ta) (hs : starEach [a] X.env = [(false, eval a X.env)] := by rfl) : PI X tg (.Call (.Name "range" p) [a] [] pos) (ir ta) := by
  intro pins s σ H R I h
  refine Call_ (gN I hg hm boot_range (PyProof.Rows.callWith_type1 (thn (ha pos pins s σ H _ I h) fun us s1 ⟨vs, H1, I1, r1, q1⟩ => ?_) hs rfl))
  obtain ⟨j, e, q1, q2, q⟩ := q1
  subst e
  cases r1 with
  | cons r rr =>
    cases rr
    obtain ⟨t, rfl⟩ := r
    exact call_range_1 (pj I1 (by omega) (by omega) q1 q2 (by simpa using q))
theorem uD {a b : Expr} {ta : TA} {p pos : Pos} (hg : Gl X "range") (hm : X.mg "range" = none) (ha : PA X [a, b] ta) (hs : starEach [a, b] X.env = [(false, eval a X.env), (false, eval b X.env)] := by rfl) (hs2 : starEach [b] X.env = [(false, eval b X.env)] := by rfl) :
    PI X tg (.Call (.Name "range" p) [a, b] [] pos) (rW ta) := by
  intro pins s σ H R I h
  refine Call_ (gN I hg hm boot_range (PyProof.Rows.callWith_type1 (thn (ha pos pins s σ H _ I h) fun us s1 ⟨vs, H1, I1, r1, q1⟩ => ?_) (by rw [hs, hs2]) (by rw [hs2]; rfl)))
  obtain ⟨i, j, e, ⟨q1, q2, q3, q4⟩, q⟩ := q1
  subst e
  cases r1 with
  | cons r rr =>
    cases rr with
    | cons r' rr =>
      cases rr
      obtain ⟨t, rfl⟩ := r
      obtain ⟨t', rfl⟩ := r'
      exact call_range_2 (pj I1 q1 q2 q3 q4 q)
def dn (wi:TI) (g:TG) (tb:TS):TS:=fun D σ H=>wi σ H fun J H1=>∃ W:Nat→Nat→St→Hp→Prop,(∃ m,W 0 m σ H1)∧∀ i m σ H,W i m σ H→
 (J.stop i H∧D.nx σ H)∨(J.go i H∧∃ N:St→Hp→Prop,(∀ σ' H',N σ' H'→∃ m',m'<m∧W (i+1) m' σ' H')∧∀ x H',J.yld i H x H'→g x σ H' fun σ2 H2=>tb { D with nx:=N,ct:=N,bk:=D.nx } σ2 H2)
def iZ (fp:List Addr) (h:Heap):List (Addr×Obj):=fp.filterMap fun b=>(h.get? b).map fun o=>(b,o)
theorem fJ {fp:List Addr} {h:Heap} {b:Addr} {o:Obj} (hb:b∈fp) (e:h.get? b=some o):(b,o)∈iZ fp h:=List.mem_filterMap.mpr ⟨b,hb,by rw [e];rfl⟩
theorem uJ {fp : List Addr} {h : Heap} {p : Addr × Obj} (hp : p ∈ iZ fp h) : p.1 ∈ fp ∧ h.get? p.1 = some p.2 := by
  obtain ⟨b, hb, e⟩ := List.mem_filterMap.mp hp
  cases q : h.get? b with
  | none => rw [q] at e; cases e
  | some o =>
    rw [q] at e
    have e' : (b, o) = p := Option.some.inj e
    subst e'
    exact ⟨hb, q⟩
theorem Inv.pinned {pins:List (Addr×Obj)} {σ:St} {H:Hp} {s:Shared} {fp:List Addr} (I:Inv X pins σ H s) (hf:∀ b∈fp,iM X pins H b) (ho:∀ b∈fp,∃ o,s.heap.get? b=some o∧∀ v,o.data≠ .cell v):Inv X (pins++iZ fp s.heap) σ H s:=
 I.pins_of fun p hp=>(List.mem_append.mp hp).elim (fun z=>I.pin p (List.mem_append_right _ z)) fun z=>by
  obtain ⟨hb,e⟩:=uJ z
  obtain ⟨f0,f1,f2,_⟩:=hf p.1 hb
  obtain ⟨o,e',d⟩:=ho p.1 hb
  rw [e] at e';cases e'
  exact ⟨e,f0,f1,f2,d⟩
theorem Inv.unpinned {pins pl:List (Addr×Obj)} {σ:St} {H:Hp} {s:Shared} (I:Inv X (pins++pl) σ H s):Inv X pins σ H s:=I.pins_of fun p hp=>I.pin p (List.mem_append_right _ (List.mem_append_left _ hp))
theorem uO {iter:Expr} {body:List Stmt} {wi:TI} {g:TG} {tb:TS} {pos:Pos} (hp:PassesOwn (model X.prog X.w) X.A X.env X.xe) (hc:X.calm=true) (hi:PI X tg iter wi) (hg:PG X tg g) (hb:PSs X body tb)
   (hs:∀ x,foldedSetIterable iter X.env x=pure x:=by intro _;rfl):PS X (.For tg iter body [] pos) (dn wi g tb):=by
 intro pins s σ H D I h
 refine wpAny_For (thn (hi pins s σ H _ I h) fun v s1 h1=>thn h1 fun itv s2 h2=>?_) hs
 obtain ⟨it,fp,tn,J,H2,e,I2,T,st2,f2,W,⟨m0,w0⟩,turn⟩:=h2
 subst e
 have stat:∀ {H':Hp},(∀ b∈fp,H' b=none)→∀ b∈fp,iM X pins H' b:=fun hn b hb=>⟨hn b hb,(f2 b hb).2⟩
 refine codeAny_forLoop_any (fun n s'=>∃ i σ' H',Inv X pins σ' H' s'∧tn i s'.heap∧(∀ b∈fp,H' b=none)∧W i n σ' H') ?_ m0 ⟨0,σ,H2,I2,st2,fun b hb=>(f2 b hb).1,w0⟩
 rintro n s3 ⟨i,σ3,H3,I3,st3,fr3,w3⟩
 rcases turn i n σ3 H3 w3 with ⟨stop,qn⟩ | ⟨go,N,hN,step⟩
 · refine wpAny_passesOwn hp (thn (T.done X rfl rfl rfl hc i pins s3 σ3 H3 X.xe I3 (stat fr3) st3 stop) fun r s4 ⟨hr,I4⟩=>?_)
   subst hr
   exact wpAny_execs_nil ⟨σ3,H3,I4,qn⟩
 · refine wpAny_passesOwn hp (thn (T.item X rfl rfl rfl hc i pins s3 σ3 H3 X.xe I3 (stat fr3) st3 go) fun r s4 ⟨u,hr,h4⟩=>?_)
   subst hr
   refine wpAny_passesOwn hp (thn h4 fun _ s5 ⟨x,H5,I5,r5,y5,st5,fr5⟩=>?_)
   have I5':=I5.pinned (stat fr5) (T.obj _ _ st5)
   refine wpAny_passesOwn hp (thn (hg _ s5 σ3 H5 x u _ I5' r5 (step x H5 y5)) fun _ s6 ⟨σ6,H6,I6,q6⟩=>?_)
   refine wpAny_passesOwn hp (thn (hb _ s6 σ6 H6 _ I6 q6) fun f s7 q7=>?_)
   have again:∀ {σ7:St} {H7:Hp},Inv X (pins++iZ fp s5.heap) σ7 H7 s7→N σ7 H7→∃ m,m<n∧∃ i σ' H',Inv X pins σ' H' s7∧tn i s7.heap∧(∀ b∈fp,H' b=none)∧W i m σ' H':=fun {σ7 H7} I7 n7=>by
    obtain ⟨m',hm,w7⟩:=hN σ7 H7 n7
    refine ⟨m',hm,i+1,σ7,H7,I7.unpinned,T.keep _ _ _ st5 fun b hb o e=>(I7.pin (b,o) (List.mem_append_right _ (List.mem_append_right _ (fJ hb e)))).1,fun b hb=>?_,w7⟩
    obtain ⟨o,e,d⟩:=T.obj _ _ st5 b hb
    exact (I7.pin (b,o) (List.mem_append_right _ (List.mem_append_right _ (fJ hb e)))).2.1
   cases f with
   | next=>obtain ⟨σ7,H7,I7,n7⟩:=q7;exact again I7 n7
   | cont=>obtain ⟨σ7,H7,I7,n7⟩:=q7;exact again I7 n7
   | brk=>obtain ⟨σ7,H7,I7,q7⟩:=q7;exact ⟨σ7,H7,I7.unpinned,q7⟩
   | ret v=>obtain ⟨x7,σ7,H7,I7,r7,q7⟩:=q7;exact ⟨x7,σ7,H7,I7.unpinned,r7,q7⟩
end
theorem ij {K:W.Frag} {a:Addr} {xs:List V} {g:TG} {tb:TS} {D:eE} {σ:St} {H:Hp} (Pv:Nat→St→Hp→Prop) (h0:Pv 0 σ H) (hl:∀ i σ H,i≤xs.length→Pv i σ H→SqL K H a xs)
   (hs:∀ i x σ H,xs[i]?=some x→Pv i σ H→g x σ H fun σ2 H2=>tb { D with nx:=Pv (i+1),ct:=Pv (i+1),bk:=D.nx } σ2 H2) (hd:∀ σ H,Pv xs.length σ H→D.nx σ H):
   ∃ W:Nat→Nat→St→Hp→Prop,(∃ m,W 0 m σ H)∧∀ i m σ H,W i m σ H→
    ((Itl K a).stop i H∧D.nx σ H)∨((Itl K a).go i H∧∃ N:St→Hp→Prop,(∀ σ' H',N σ' H'→∃ m',m'<m∧W (i+1) m' σ' H')∧∀ x H',(Itl K a).yld i H x H'→g x σ H' fun σ2 H2=>tb { D with nx:=N,ct:=N,bk:=D.nx } σ2 H2):=by
 refine ⟨fun i m σ H=>m=xs.length - i∧i≤xs.length∧Pv i σ H,⟨xs.length,by simp,Nat.zero_le _,h0⟩,?_⟩
 rintro i m σ H ⟨rfl,hi,p⟩
 have q:=hl i σ H hi p
 by_cases hlt:i<xs.length
 · refine .inr ⟨⟨xs,xs[i],q,by simp [hlt]⟩,Pv (i+1),fun σ' H' p'=>⟨xs.length - (i+1),by omega,rfl,hlt,p'⟩,fun x H' y=>?_⟩
   obtain ⟨e,y⟩:=y
   subst e
   exact hs i x σ _ (y xs q) p
 · have e:i=xs.length:=by omega
   subst e
   exact .inl ⟨⟨xs,q,Nat.le_refl _⟩,hd σ H p⟩
theorem qp {K:W.Frag} {a:Addr} {xs:List V} {g:TG} {tb:TS} {D:eE} {σ:St} {H:Hp} (Pv:Nat→St→Hp→Prop) (h0:Pv 0 σ H) (hl:∀ i σ H,i≤xs.length→Pv i σ H→SqT K H a xs)
   (hs:∀ i x σ H,xs[i]?=some x→Pv i σ H→g x σ H fun σ2 H2=>tb { D with nx:=Pv (i+1),ct:=Pv (i+1),bk:=D.nx } σ2 H2) (hd:∀ σ H,Pv xs.length σ H→D.nx σ H):
   ∃ W:Nat→Nat→St→Hp→Prop,(∃ m,W 0 m σ H)∧∀ i m σ H,W i m σ H→
    ((Itt K a).stop i H∧D.nx σ H)∨((Itt K a).go i H∧∃ N:St→Hp→Prop,(∀ σ' H',N σ' H'→∃ m',m'<m∧W (i+1) m' σ' H')∧∀ x H',(Itt K a).yld i H x H'→g x σ H' fun σ2 H2=>tb { D with nx:=N,ct:=N,bk:=D.nx } σ2 H2):=by
 refine ⟨fun i m σ H=>m=xs.length - i∧i≤xs.length∧Pv i σ H,⟨xs.length,by simp,Nat.zero_le _,h0⟩,?_⟩
 rintro i m σ H ⟨rfl,hi,p⟩
 have q:=hl i σ H hi p
 by_cases hlt:i<xs.length
 · refine .inr ⟨⟨xs,xs[i],q,by simp [hlt]⟩,Pv (i+1),fun σ' H' p'=>⟨xs.length - (i+1),by omega,rfl,hlt,p'⟩,fun x H' y=>?_⟩
   obtain ⟨e,y⟩:=y
   subst e
   exact hs i x σ _ (y xs q) p
 · have e:i=xs.length:=by omega
   subst e
   exact .inl ⟨⟨xs,q,Nat.le_refl _⟩,hd σ H p⟩
theorem fu {lo:Int} {n:Nat} {g:TG} {tb:TS} {D:eE} {σ:St} {H:Hp} (Pv:Nat→St→Hp→Prop) (h0:Pv 0 σ H)
   (hs:∀ i σ H,i<n→Pv i σ H→g (.int (lo+i)) σ H fun σ2 H2=>tb { D with nx:=Pv (i+1),ct:=Pv (i+1),bk:=D.nx } σ2 H2) (hd:∀ σ H,Pv n σ H→D.nx σ H):
   ∃ W:Nat→Nat→St→Hp→Prop,(∃ m,W 0 m σ H)∧∀ i m σ H,W i m σ H→
    ((Itr lo n).stop i H∧D.nx σ H)∨((Itr lo n).go i H∧∃ N:St→Hp→Prop,(∀ σ' H',N σ' H'→∃ m',m'<m∧W (i+1) m' σ' H')∧∀ x H',(Itr lo n).yld i H x H'→g x σ H' fun σ2 H2=>tb { D with nx:=N,ct:=N,bk:=D.nx } σ2 H2):=by
 refine ⟨fun i m σ H=>m=n - i∧i≤n∧Pv i σ H,⟨n,by simp,Nat.zero_le _,h0⟩,?_⟩
 rintro i m σ H ⟨rfl,hi,p⟩
 by_cases hlt:i<n
 · refine .inr ⟨hlt,Pv (i+1),fun σ' H' p'=>⟨n - (i+1),by omega,rfl,hlt,p'⟩,fun x H' y=>?_⟩
   obtain ⟨e,y⟩:=y
   subst e y
   exact hs i σ _ hlt p
 · have e:i=n:=by omega
   subst e
   exact .inl ⟨Nat.le_refl _,hd σ H p⟩
end L2
namespace L2
open PySem PySem.Spec PyProof.Rows
abbrev R2:=V→V→Hp→VK→Prop
def OpR (X:Cx) (f:Value→Value→Sem Value) (r:R2):Prop:=
 ∀ (pins:List (Addr×Obj)) (s:Shared) (σ:St) (H:Hp) (x y:V) (v u:Value) (Q:VK),Inv X pins σ H s→aW x v→aW y u→r x y H Q→
  wpAny (model X.prog X.w) X.A (f v u) (EP X pins σ Q) X.xe s
def UnR (X:Cx) (f:Value→Sem Value) (r:V→Hp→VK→Prop):Prop:=
 ∀ (pins:List (Addr×Obj)) (s:Shared) (σ:St) (H:Hp) (x:V) (v:Value) (Q:VK),Inv X pins σ H s→aW x v→r x H Q→
  wpAny (model X.prog X.w) X.A (f v) (EP X pins σ Q) X.xe s
def bG (X:Cx) (f:Value) (r:List V→Hp→VK→Prop):Prop:=
 ∀ (pins:List (Addr×Obj)) (s:Shared) (σ:St) (H:Hp) (xs:List V) (us:List Value) (Q:VK),Inv X pins σ H s→aX xs us→r xs H Q→
  wpAny (model X.prog X.w) X.A (call f us) (EP X pins σ Q) X.xe s
def GG (X:Cx) (r:V→Hp→(Bool→Hp→Prop)→Prop):Prop:=
 ∀ (pins:List (Addr×Obj)) (s:Shared) (σ:St) (H:Hp) (x:V) (v:Value) (Q:Bool→Hp→Prop),Inv X pins σ H s→aW x v→r x H Q→
  wpAny (model X.prog X.w) X.A (truthy v) (TP X pins σ Q) X.xe s
def tOp (r:R2) (ta tb:TE):TE:=fun σ H Q=>ta σ H fun x H1=>tb σ H1 fun y H2=>r x y H2 Q
def tUn (r:V→Hp→VK→Prop) (ta:TE):TE:=fun σ H Q=>ta σ H fun x H1=>r x H1 Q
def rI (C:Int→Int→Prop) (g:Int→Int→V):R2:=fun x y H Q=>∃ i j,x=.int i∧y=.int j∧C i j∧Q (g i j) H
def rI0 (g:Int→Int→V):R2:=fun x y H Q=>∃ i j,x=.int i∧y=.int j∧Q (g i j) H
def rU (g:Int→V):V→Hp→VK→Prop:=fun x H Q=>∃ i,x=.int i∧Q (g i) H
section
variable {X:Cx} {a b c:Expr} {ta tb tc:TE} {pos:Pos}
theorem xI (ha:PE X a ta) (hb:PE X b tb) {pins:List (Addr×Obj)} {s:Shared} {σ:St} {H:Hp} {R:V→V→Hp→Prop} (I:Inv X pins σ H s)
  (h:ta σ H fun x H1=>tb σ H1 fun y H2=>R x y H2) {Q:Value→Shared→Prop} {f:Value→Value→Sem Value}
  (hf:∀ v u s2 x y H2,Inv X pins σ H2 s2→aW x v→aW y u→R x y H2→wpAny (model X.prog X.w) X.A (f v u) Q X.xe s2):
  wpAny (model X.prog X.w) X.A (eval a X.env) (fun v s₁=>wpAny (model X.prog X.w) X.A (eval b X.env) (fun u s₂=>wpAny (model X.prog X.w) X.A (f v u) Q X.xe s₂) X.xe s₁) X.xe s:=by
 refine thn (ha pins s σ H _ I h) fun v s1 ⟨x,H1,I1,r1,q1⟩=>?_
 refine thn (hb pins s1 σ H1 _ I1 q1) fun u s2 ⟨y,H2,I2,r2,q2⟩=>?_
 exact hf v u s2 x y H2 I2 r1 r2 q2
theorem Eb {op:Operator} {r:R2} (ho:OpR X (binaryOp op) r) (ha:PE X a ta) (hb:PE X b tb):PE X (.BinOp a op b pos) (tOp r ta tb):=by
 intro pins s σ H Q I h
 exact wpAny_BinOp (xI ha hb I h fun v u s2 x y H2 I2 rx ry q=>ho pins s2 σ H2 x y v u Q I2 rx ry q)
theorem Fx {op:UnaryOp} {r:V→Hp→VK→Prop} (ho:UnR X (unaryOp op) r) (ha:PE X a ta):PE X (.UnaryOp op a pos) (tUn r ta):=by
 intro pins s σ H Q I h
 exact UnaryOp_ (thn (ha pins s σ H _ I h) fun v s1 ⟨x,H1,I1,r1,q1⟩=>ho pins s1 σ H1 x v Q I1 r1 q1)
theorem opI {f:Value→Value→Sem Value} {C:Int→Int→Prop} {g:Int→Int→Int}
  (rule:∀ (i j:Int) (t u:Tok) (s:Shared) (Q:Value→Shared→Prop) (E:Value→Shared→Prop),C i j→Q (.int (g i j) s.toks) { s with toks:=s.toks+1 }→wpAny (model X.prog X.w) X.A (f (.int i t) (.int j u)) Q E s):
  OpR X f (rI C fun i j=> .int (g i j)):=by
 intro pins s σ H x y v u Q I rx ry h
 obtain ⟨i,j,rfl,rfl,hc,q⟩:=h
 obtain ⟨t,rfl⟩:=rx
 obtain ⟨t',rfl⟩:=ry
 exact rule i j t t' s _ _ hc ⟨.int (g i j),H,I.tok _,⟨_,rfl⟩,q⟩
theorem rZ {f:Value→Value→Sem Value} {g:Int→Int→Int}
  (rule:∀ (i j:Int) (t u:Tok) (s:Shared) (Q:Value→Shared→Prop) (E:Value→Shared→Prop),Q (.int (g i j) s.toks) { s with toks:=s.toks+1 }→wpAny (model X.prog X.w) X.A (f (.int i t) (.int j u)) Q E s):
  OpR X f (rI0 fun i j=> .int (g i j)):=by
 intro pins s σ H x y v u Q I rx ry h
 obtain ⟨i,j,rfl,rfl,q⟩:=h
 obtain ⟨t,rfl⟩:=rx
 obtain ⟨t',rfl⟩:=ry
 exact rule i j t t' s _ _ ⟨.int (g i j),H,I.tok _,⟨_,rfl⟩,q⟩
theorem CI {f:Value→Value→Sem Value} {g:Int→Int→Bool}
  (rule:∀ (i j:Int) (t u:Tok) (s:Shared) (Q:Value→Shared→Prop) (E:Value→Shared→Prop),Q (.bool (g i j)) s→wpAny (model X.prog X.w) X.A (f (.int i t) (.int j u)) Q E s):
  OpR X f (rI0 fun i j=> .bl (g i j)):=by
 intro pins s σ H x y v u Q I rx ry h
 obtain ⟨i,j,rfl,rfl,q⟩:=h
 obtain ⟨t,rfl⟩:=rx
 obtain ⟨t',rfl⟩:=ry
 exact rule i j t t' s _ _ ⟨.bl (g i j),H,I,rfl,q⟩
def Cp (i j:Int):Prop:=0≤j∧j≤1000000∧i.natAbs<2^64
theorem tF (k:Nat):(0:Int)≤2^k:=by
 rw [two_pow_cast]
 exact Int.natCast_nonneg _
theorem Au:OpR X (binaryOp .Add) (rI0 fun i j=> .int (i+j)):=rZ fun _ _ _ _ _ _ _ q=>add_int q
theorem BJ:OpR X (binaryOp .Sub) (rI0 fun i j=> .int (i - j)):=rZ fun _ _ _ _ _ _ _ q=>sub_int q
theorem Ay:OpR X (binaryOp .Mod) (rI (fun _ j=>0<j) fun i j=> .int (i%j)):=opI fun i j _ _ _ _ _ hc q=>by
 have h1:(0:Int)<j:=hc
 exact mod_int' (by omega) (by rw [Int.fmod_eq_emod_of_nonneg i (by omega)];exact q)
theorem Ao:OpR X (binaryOp .Pow) (rI Cp fun i j=> .int (i^j.toNat)):=opI fun _ _ _ _ _ _ _ hc q=>pow_int_small hc.1 hc.2.1 hc.2.2 q
theorem AR:OpR X (binaryOp .LShift) (rI Cp fun i j=> .int (i*2^j.toNat)):=opI fun _ _ _ _ _ _ _ hc q=>lshift_int_small hc.1 hc.2.1 hc.2.2 q
theorem Be:OpR X (binaryOp .RShift) (rI (fun _ j=>0≤j) fun i j=> .int (i/2^j.toNat)):=opI fun i j _ _ _ _ _ hc q=>
 rshift_int hc (by rw [Int.fdiv_eq_ediv_of_nonneg i (tF _)];exact q)
theorem AN:OpR X (binaryOp .BitAnd) (rI0 fun i j=> .int (Builtin.bitAnd i j)):=rZ fun _ _ _ _ _ _ _ q=>and_int q
theorem CO:OpR X (binaryOp .BitXor) (rI0 fun i j=> .int (Builtin.bitXor i j)):=rZ fun _ _ _ _ _ _ _ q=>xor_int q
theorem unI {f:Value→Sem Value} {g:Int→Int}
  (rule:∀ (i:Int) (t:Tok) (s:Shared) (Q:Value→Shared→Prop) (E:Value→Shared→Prop),Q (.int (g i) s.toks) { s with toks:=s.toks+1 }→wpAny (model X.prog X.w) X.A (f (.int i t)) Q E s):
  UnR X f (rU fun i=> .int (g i)):=by
 intro pins s σ H x v Q I rx h
 obtain ⟨i,rfl,q⟩:=h
 obtain ⟨t,rfl⟩:=rx
 exact rule i t s _ _ ⟨.int (g i),H,I.tok _,⟨_,rfl⟩,q⟩
theorem Aw:UnR X (unaryOp .USub) (rU fun i=> .int (-i)):=unI fun _ _ _ _ _ q=>neg_int q
end
def zY:V→V→Bool
 | .non,.non=>true | .non,.int _=>true | .int _,.non=>true | .non,.bl _=>true | .bl _,.non=>true | .non,.str _=>true | .str _,.non=>true
 | .int _,.int _=>true | .bl _,.bl _=>true | .str _,.str _=>true | .byt _,.byt _=>true
 | .int _,.str _=>true | .str _,.int _=>true | .bl _,.str _=>true | .str _,.bl _=>true
 | _,_=>false
def rEq:R2:=fun x y H Q=>zY x y=true∧Q (.bl (decide (x=y))) H
def rNe:R2:=fun x y H Q=>zY x y=true∧Q (.bl (!decide (x=y))) H
theorem qP {i j:Int}:decide (V.int i=V.int j)=(i==j):=by
 rw [Bool.eq_iff_iff]
 simp
theorem tU {i j:Bool}:decide (V.bl i=V.bl j)=(i==j):=by
 rw [Bool.eq_iff_iff]
 simp
theorem qH {i j:Str}:decide (V.str i=V.str j)=(i==j):=by
 rw [Bool.eq_iff_iff]
 simp
theorem qS {i j:Array UInt8}:decide (V.byt i=V.byt j)=(i.toList==j.toList):=by
 rw [Bool.eq_iff_iff]
 cases i
 cases j
 simp
section
variable {X:Cx} {a b c:Expr} {ta tb tc:TE} {pos:Pos}
theorem bp {pins:List (Addr×Obj)} {σ:St} {H:Hp} {s:Shared} {Q:VK} {k k':Bool} (I:Inv X pins σ H s) (q:Q (.bl k) H) (e:k=k'):EP X pins σ Q (.bool k') s:=by
 subst e
 exact ⟨.bl k,H,I,rfl,q⟩
theorem Ej : OpR X (compareOp .Eq) rEq := by
  intro pins s σ H x y v u Q I rx ry h
  obtain ⟨hs, q⟩ := h
  cases x with
  | non =>
    cases rx
    cases y with
    | non => cases ry; exact PySem.EqNone.eq_none_none (bp I q (by simp))
    | bl j => cases ry; exact PySem.EqNone.eq_none_bool (bp I q (by simp))
    | int j => obtain ⟨t', rfl⟩ := ry; exact PySem.EqNone.eq_none_int (bp I q (by simp))
    | str j => obtain ⟨t', rfl⟩ := ry; exact PySem.EqNone.eq_none_str (bp I q (by simp))
    | _ => exact absurd (show false = true from hs) Bool.false_ne_true
  | bl i =>
    cases rx
    cases y with
    | non => cases ry; exact PySem.EqNone.eq_bool_none (bp I q (by simp))
    | bl j => cases ry; exact eq_bool (bp I q tU)
    | str j => obtain ⟨t', rfl⟩ := ry; exact PySem.EqMixed.eq_bool_str (bp I q (by simp))
    | _ => exact absurd (show false = true from hs) Bool.false_ne_true
  | int i =>
    obtain ⟨t, rfl⟩ := rx
    cases y with
    | non => cases ry; exact PySem.EqNone.eq_int_none (bp I q (by simp))
    | int j => obtain ⟨t', rfl⟩ := ry; exact eq_int (bp I q qP)
    | str j => obtain ⟨t', rfl⟩ := ry; exact PySem.EqMixed.eq_int_str (bp I q (by simp))
    | _ => exact absurd (show false = true from hs) Bool.false_ne_true
  | str i =>
    obtain ⟨t, rfl⟩ := rx
    cases y with
    | non => cases ry; exact PySem.EqNone.eq_str_none (bp I q (by simp))
    | bl j => cases ry; exact PySem.EqMixed.eq_str_bool (bp I q (by simp))
    | int j => obtain ⟨t', rfl⟩ := ry; exact PySem.EqMixed.eq_str_int (bp I q (by simp))
    | str j => obtain ⟨t', rfl⟩ := ry; exact eq_str (bp I q qH)
    | _ => exact absurd (show false = true from hs) Bool.false_ne_true
  | byt i =>
    obtain ⟨t, rfl⟩ := rx
    cases y with
    | byt j => obtain ⟨t', rfl⟩ := ry; exact W.eq_bytes (bp I q qS)
    | _ => exact absurd (show false = true from hs) Bool.false_ne_true
  | _ => cases y <;> exact absurd (show false = true from hs) Bool.false_ne_true
theorem Gm : OpR X (compareOp .NotEq) rNe := by
  intro pins s σ H x y v u Q I rx ry h
  obtain ⟨hs, q⟩ := h
  cases x with
  | non =>
    cases rx
    cases y with
    | non => cases ry; exact PySem.EqNone.ne_none_none (bp I q (by simp))
    | bl j => cases ry; exact PySem.EqNone.ne_none_bool (bp I q (by simp))
    | int j => obtain ⟨t', rfl⟩ := ry; exact PySem.EqNone.ne_none_int (bp I q (by simp))
    | str j => obtain ⟨t', rfl⟩ := ry; exact PySem.EqNone.ne_none_str (bp I q (by simp))
    | _ => exact absurd (show false = true from hs) Bool.false_ne_true
  | bl i =>
    cases rx
    cases y with
    | non => cases ry; exact PySem.EqNone.ne_bool_none (bp I q (by simp))
    | bl j => cases ry; exact ne_bool (bp I q (congrArg not tU))
    | str j => obtain ⟨t', rfl⟩ := ry; exact PySem.EqMixed.ne_bool_str (bp I q (by simp))
    | _ => exact absurd (show false = true from hs) Bool.false_ne_true
  | int i =>
    obtain ⟨t, rfl⟩ := rx
    cases y with
    | non => cases ry; exact PySem.EqNone.ne_int_none (bp I q (by simp))
    | int j => obtain ⟨t', rfl⟩ := ry; exact ne_int (bp I q (congrArg not qP))
    | str j => obtain ⟨t', rfl⟩ := ry; exact PySem.EqMixed.ne_int_str (bp I q (by simp))
    | _ => exact absurd (show false = true from hs) Bool.false_ne_true
  | str i =>
    obtain ⟨t, rfl⟩ := rx
    cases y with
    | non => cases ry; exact PySem.EqNone.ne_str_none (bp I q (by simp))
    | bl j => cases ry; exact PySem.EqMixed.ne_str_bool (bp I q (by simp))
    | int j => obtain ⟨t', rfl⟩ := ry; exact PySem.EqMixed.ne_str_int (bp I q (by simp))
    | str j => obtain ⟨t', rfl⟩ := ry; exact ne_str (bp I q (congrArg not qH))
    | _ => exact absurd (show false = true from hs) Bool.false_ne_true
  | byt i =>
    obtain ⟨t, rfl⟩ := rx
    cases y with
    | byt j => obtain ⟨t', rfl⟩ := ry; exact W.ne_bytes (bp I q (congrArg not qS))
    | _ => exact absurd (show false = true from hs) Bool.false_ne_true
  | _ => cases y <;> exact absurd (show false = true from hs) Bool.false_ne_true
theorem EL:OpR X (compareOp .Lt) (rI0 fun i j=> .bl (decide (i<j))):=CI fun _ _ _ _ _ _ _ q=>lt_int q
theorem Gj:OpR X (compareOp .LtE) (rI0 fun i j=> .bl (decide (i≤j))):=CI fun _ _ _ _ _ _ _ q=>le_int q
theorem Az:OpR X (compareOp .Is) (fun x y H Q=>y=.non∧Q (.bl (decide (x=.non))) H):=by
 intro pins s σ H x y v u Q I rx ry h
 obtain ⟨rfl,q⟩:=h
 cases ry
 refine is_none_gen (bp I q ?_)
 cases x <;> first
  | (cases rx;rfl)
  | (obtain ⟨t,rfl⟩:=rx;rfl)
theorem OpR.or {f:Value→Value→Sem Value} {r r':R2} (h:OpR X f r) (h':OpR X f r'):OpR X f (fun x y H Q=>r x y H Q∨r' x y H Q):=by
 intro pins s σ H x y v u Q I rx ry q
 rcases q with q | q
 · exact h pins s σ H x y v u Q I rx ry q
 · exact h' pins s σ H x y v u Q I rx ry q
theorem kN (b:Expr) {op:CmpOp} (h:op≠ .In:=by decide) (h2:op≠ .NotIn:=by decide):behindInMarks op b=false:=by
 have e1:(op==CmpOp.In)=false:=by cases op <;> first | rfl | exact absurd rfl h
 have e2:(op==CmpOp.NotIn)=false:=by cases op <;> first | rfl | exact absurd rfl h2
 cases b <;> simp [behindInMarks,e1,e2]
theorem zN {op:CmpOp} {r:R2} (ho:OpR X (compareOp op) r) (ha:PE X a ta) (hb:PE X b tb) (hm:behindInMarks op b=false):PE X (.Compare a [op] [b] pos) (tOp r ta tb):=by
 intro pins s σ H Q I h
 exact wpAny_Compare1 (xI ha hb I h fun v u s2 x y H2 I2 rx ry q=>ho pins s2 σ H2 x y v u Q I2 rx ry q) hm
def CL (K:W.Frag) (x:V) (H:Hp) (k:Bool):Prop:=
 match x with
 | .non=>k=false
 | .bl b=>k=b
 | .int i=>k=(i !=0)
 | .str y=>y.length≤sizeLine∧k=((y.length:Int) !=0)
 | .byt y=>y.size≤sizeLine∧k=((y.size:Int) !=0)
 | .ref p=>(∃ xs,SqL K H p xs∧k= !xs.isEmpty)∨(∃ xs,SqT K H p xs∧k= !xs.isEmpty)∨∃ kvs,H p=some (.dK kvs)∧k= !kvs.isEmpty
 | _=>False
theorem rf {κ:Type} {kvs:List (κ×V)} {vs:List (κ×Value)} (r:KV kvs vs):(!vs.isEmpty)= !kvs.isEmpty:=by
 cases r <;> rfl
theorem kK {xs:List V} {its:List Value} (r:aX xs its):(!its.toArray.isEmpty)= !xs.isEmpty:=by
 cases r <;> simp
theorem gM:(sizeLine:Nat)<2^63:=by rw [sizeLine_eq];decide
theorem Bt : GG X (fun x H Q => ∃ k, CL X.K x H k ∧ Q k H) := by
  intro pins s σ H x v Q I rx h
  obtain ⟨k, e, q⟩ := h
  have hl := gM
  have hs : sizeLine = 16777216 := sizeLine_eq
  cases x with
  | non =>
    cases rx
    have e' : k = false := e
    subst e'
    exact truthy_none ⟨H, I, q⟩
  | bl b =>
    cases rx
    have e' : k = b := e
    subst e'
    exact wpAny_truthy_bool ⟨H, I, q⟩
  | int i =>
    obtain ⟨t, rfl⟩ := rx
    have e' : k = (i != 0) := e
    subst e'
    exact PySem.P.truthy_int ⟨H, I, q⟩
  | str y =>
    obtain ⟨t, rfl⟩ := rx
    obtain ⟨hy, e'⟩ : y.length ≤ sizeLine ∧ k = ((y.length : Int) != 0) := e
    subst e'
    exact PySem.P.truthy_str (by omega) ⟨H, I.tok _, q⟩
  | byt y =>
    obtain ⟨t, rfl⟩ := rx
    obtain ⟨hy, e'⟩ : y.size ≤ sizeLine ∧ k = ((y.size : Int) != 0) := e
    subst e'
    exact W.truthy_bytes (by omega) ⟨H, I.tok _, q⟩
  | ref p =>
    cases rx
    have e' : (∃ xs, SqL X.K H p xs ∧ k = !xs.isEmpty) ∨ (∃ xs, SqT X.K H p xs ∧ k = !xs.isEmpty) ∨ ∃ kvs, H p = some (.dK kvs) ∧ k = !kvs.isEmpty := e
    rcases e' with ⟨xs, hx, e'⟩ | ⟨xs, hx, e'⟩ | ⟨kvs, hx, e'⟩
    · subst e'
      obtain ⟨its, r, pl, hz⟩ := I.list hx
      have hlen := r.length
      exact wpAny_truthy_list pl.isList (by simp only [List.size_toArray]; omega) ⟨H, I.tok _, by rw [kK r]; exact q⟩
    · subst e'
      obtain ⟨its, r, pl, hz⟩ := I.tuple hx
      have hlen := r.length
      exact truthy_tuple pl (by simp only [List.size_toArray]; omega) ⟨H, I.tok _, by rw [kK r]; exact q⟩
    · subst e'
      obtain ⟨hz, hS, vs, r, m⟩ : kvs.length ≤ sizeLine ∧ (p == sysModules) = false ∧ ∃ vs, KV kvs vs ∧ s.heap.DictOf (ci X.prog X.w) p vs := I.hok p _ hx
      have hlen : kvs.length = vs.length := Paired.length r
      exact wpAny_truthy_dict hS m (by omega) ⟨H, I.tok _, by rw [rf r]; exact q⟩
  | _ => exact (show False from e).elim
theorem si:OpR X (binaryOp .Add) (fun x y H Q=>∃ i j,x=.str i∧y=.str j∧i.length+j.length≤sizeLine∧Q (.str (i++j)) H):=by
 intro pins s σ H x y v u Q I rx ry h
 obtain ⟨i,j,rfl,rfl,hz,q⟩:=h
 obtain ⟨t,rfl⟩:=rx
 obtain ⟨t',rfl⟩:=ry
 exact add_str (fun t' tk=>⟨.str (i++j),H,I.tok _,⟨_,rfl⟩,q⟩) hz
theorem fk {x:V} {us:List Value} (r:aX [x] us):∃ u,us=[u]∧aW x u:=by
 cases r with
 | cons r1 r2=>cases r2;exact ⟨_,rfl,r1⟩
theorem nM {x y : V} {us : List Value} (r : aX [x, y] us) : ∃ u w', us = [u, w'] ∧ aW x u ∧ aW y w' := by
  cases r with
  | cons r1 r2 =>
    cases r2 with
    | cons r3 r4 => cases r4; exact ⟨_, _, rfl, r1, r3⟩
theorem iR:bG X (.type "str") (fun xs H Q=>∃ i,xs=[.int i]∧i.natAbs.log2<1920∧Q (.str (toString i)) H):=by
 intro pins s σ H xs us Q I r h
 obtain ⟨i,rfl,hz,q⟩:=h
 obtain ⟨u,rfl,t,rfl⟩:=fk r
 exact PySem.P.str_of_int hz ⟨.str _,H,I.tok _,⟨_,rfl⟩,q⟩
theorem xC:bG X (.builtin "ord") (fun xs H Q=>∃ x,xs=[.str x]∧x.length=1∧Q (.int (x.cps.getD 0 0:Nat)) H):=by
 intro pins s σ H xs us Q I r h
 obtain ⟨x,rfl,hz,q⟩:=h
 obtain ⟨u,rfl,t,rfl⟩:=fk r
 exact ord_of_one hz ⟨.int _,H,I.tok _,⟨_,rfl⟩,q⟩
def HQ (K:W.Frag) (x:V) (H:Hp) (n:Nat):Prop:=
 match x with
 | .str y=>y.length≤sizeLine∧n=y.length
 | .byt y=>y.size≤sizeLine∧n=y.size
 | .ref p=>(∃ xs,SqL K H p xs∧n=xs.length)∨∃ xs,SqT K H p xs∧n=xs.length
 | _=>False
theorem jR : bG X (.builtin "len") (fun xs H Q => ∃ x n, xs = [x] ∧ HQ X.K x H n ∧ Q (.int n) H) := by
  intro pins s σ H xs us Q I r h
  obtain ⟨x, n, rfl, e, q⟩ := h
  obtain ⟨u, rfl, rx⟩ := fk r
  have hl := gM
  have hs : sizeLine = 16777216 := sizeLine_eq
  cases x with
  | str y =>
    obtain ⟨t, rfl⟩ := rx
    obtain ⟨hy, e'⟩ : y.length ≤ sizeLine ∧ n = y.length := e
    subst e'
    exact len_str (by omega) ⟨.int _, H, I.tok _, ⟨_, rfl⟩, q⟩
  | byt y =>
    obtain ⟨t, rfl⟩ := rx
    obtain ⟨hy, e'⟩ : y.size ≤ sizeLine ∧ n = y.size := e
    subst e'
    exact W.len_bytes (by omega) ⟨.int _, H, I.tok _, ⟨_, rfl⟩, q⟩
  | ref p =>
    cases rx
    have e' : (∃ xs, SqL X.K H p xs ∧ n = xs.length) ∨ ∃ xs, SqT X.K H p xs ∧ n = xs.length := e
    rcases e' with ⟨xs, hx, e'⟩ | ⟨xs, hx, e'⟩
    · subst e'
      obtain ⟨its, r', pl, hz⟩ := I.list hx
      have hlen := r'.length
      exact Calls.call_len_list pl.isList (by simp only [List.size_toArray]; omega) ⟨.int xs.length, H, I.tok _, ⟨_, by simp only [List.size_toArray]; rw [hlen]⟩, q⟩
    · subst e'
      obtain ⟨its, r', pl, hz⟩ := I.tuple hx
      have hlen := r'.length
      exact len_tuple pl (by simp only [List.size_toArray]; omega) ⟨.int xs.length, H, I.tok _, ⟨_, by simp only [List.size_toArray]; rw [hlen]⟩, q⟩
  | _ => exact (show False from e).elim
end
end L2
namespace L2
open PySem PySem.Spec PyProof.Rows
structure jP (h:Heap) (x dx C:Addr) (mA:Str→Option Value):Prop where
 obj:h.get? x=some (W.instObj C dx)
 ns:h.Ns1 dx mA
 ne:dx≠x
theorem mG {h:Heap} {dx:Addr} {mA:Str→Option Value} (n:h.Ns1 dx mA):∃ od,h.get? dx=some od∧∀ name,W.lookIn name od=some (mA name):=by
 obtain ⟨o,es,ep,ho,hd,hk,_,hm⟩:=n
 refine ⟨o,ho,fun name=>?_⟩
 have e:=hm name
 unfold nsFind findBy at e
 rw [← Array.find?_toList] at e
 unfold W.lookIn
 rw [hd]
 dsimp only
 split
 · rename_i y q
   rw [q] at e
   exact congrArg some e
 · rename_i q
   rw [q] at e
   have a:es.toList.any (·.refKey)=false:=by
    rw [List.any_eq_false]
    intro y hy
    obtain ⟨z,t,hkey⟩:=hk y (Array.mem_toList_iff.mp hy)
    simp [DictEntry.refKey,hkey]
   have a':¬ es.toList.any (·.refKey)=true:=by rw [a];exact Bool.false_ne_true
   rw [if_neg a']
   exact congrArg some e
theorem jP.look {h:Heap} {x dx C:Addr} {mA:Str→Option Value} (I:jP h x dx C mA):∃ od,W.InstAt h x (W.instObj C dx) C (some od)∧∀ name,W.lookIn name od=some (mA name):=
 let ⟨od,ho,hl⟩:=mG I.ns
 ⟨od,⟨I.obj,rfl,rfl,ho⟩,hl⟩
section
variable {prog:Program} {w:World} {A:Around} {E:Value→Shared→Prop} {s:Shared} {K:W.Frag} {x dx C f:Addr} {mA:Str→Option Value} {name:Str} {v:Value}
theorem yV {expr:Bool} {Q:Value→Shared→Prop} (X:K.In s.heap) (I:jP s.heap x dx C mA) (hg:W.plainGet K C name=true) (hh:W.hasDictIn K C=true)
  (ha:W.findIn K (.ref C) name=some none) (hv:mA name=some v) (hv':W.handedIn v=true) (h:Q v { s with toks:=s.toks+1 }):
  wpAny (model prog w) A (getAttr (.ref x) name expr) Q E s:=by
 obtain ⟨od,J,hl⟩:=I.look
 exact W.get_value X J (W.plainGet_of hg).1 (W.findObj_own hh ha rfl (by rw [hl,hv])) hv' h
theorem vS {pl:Sem Bool} {Q:Value×List Value→Shared→Prop} (X:K.In s.heap) (I:jP s.heap x dx C mA) (hg:W.plainGet K C name=true)
  (hf:W.findIn K (.ref C) name=some (some (.ref f))) (ht:W.isFn K (.ref f)=true) (hv:mA name=none) (h:Q (.ref f,[.ref x]) s):
  wpAny (model prog w) A (getMethod (.ref x) name pl) Q E s:=by
 obtain ⟨od,J,hl⟩:=I.look
 exact W.method_fn X J (W.plainGet_of hg).1 (W.plainGet_of hg).2 hf (beq_iff_eq.mp ht) (by show (W.lookIn name od).map (·.isSome)=some false;rw [hl,hv];rfl) h
theorem yY {ns:List Str} {Q:Unit→Shared→Prop} (X:K.In s.heap) (I:jP s.heap x dx C mA)
  (hs:W.findIn K (.ref C) "__setattr__" =some (some (.builtin "object.__setattr__"))) (hp:W.plainOver K C=true) (ht:W.takerIn K C name=some none) (hh:W.hasDictIn K C=true)
  (hw:PySem.Within mA ns) (hsz:ns.length≤sizeLine)
  (h:∀ h',jP h' x dx C (fun y=>if y=name then some v else mA y)→Heap.SameBut dx s.heap h'→Q () { s with heap:=h',toks:=s.toks+2 }):
  wpAny (model prog w) A (setAttr (.ref x) name v) Q E s:=by
 obtain ⟨od,J,hl⟩:=I.look
 refine W.set_plain X J hs (W.osa_open (s:={ s with toks:=s.toks+1 }) (r:=none) X J hp ht fun b=>?_)
 obtain ⟨cd,hc,hd'⟩:=W.any_some hh
 have hx:s.heap.get? x=some ⟨.ref C,some dx,.plain,#[]⟩:=I.obj
 refine wpAny_bind (wpAny_pure (wpAny_bind (wpAny_bind (wpAny_loadPart hx (wpAny_bind (W.Looks.here (s:={ s with toks:=s.toks+1 }) (W.looks_clsIn X hc) ?_))))))
 rw [hd']
 refine wpAny_pure (a:=some dx) (wpAny_bind (wpAny_pure (wpAny_bind ?_)))
 refine wpAny_nsSet1 (s:={ s with toks:=s.toks+1 }) I.ns fun h' hn2 hs2=>?_
 obtain ⟨oD,esD,epD,hoD,hdD,hcD⟩:=hn2.count (PySem.Within.cons name v hw)
 refine wpAny_bind (wpAny_lookBehind hoD (by rw [hdD];exact pastItsLine_dict (Nat.le_trans hcD (by rw [List.length_cons];omega))) ?_)
 exact wpAny_pure (h _ ⟨(hs2.2 _ (Ne.symm I.ne)).trans I.obj,hn2,I.ne⟩ hs2)
theorem xM {R : Result → Shared → Prop} {vs : List Value} {kw : List (Str × Value)} (X : K.In s.heap) (hm : W.makesIn K C = true)
  (hi : W.findIn K (.ref C) "__init__" = some (some (.ref f))) (hf : W.typeIn K (.ref f) = some (.type "function"))
  (h : codeAny (model prog w) (A.under (.builtin "type.__call__" ⟨.ref C :: vs, kw⟩)) (.call (.ref f) ⟨.ref (s.heap.objs.size + 1) :: vs, kw⟩) (W.InitBack (s.heap.objs.size + 1) R)
   { s with heap := (s.heap.push W.emptyDict).push (W.instObj C s.heap.objs.size) }) :
  codeAny (model prog w) A (.call (.ref C) ⟨vs, kw⟩) R s := by
 obtain ⟨hh, g, d, t, os⟩ := s
 exact W.make_core (W.makes_of X hm) (W.looks_findIn X hi) (fun self => W.bind_fn X self hf) (.inl rfl) h
end
def cy (f:Str) (v:V):List (Str×V)→List (Str×V)
 | []=>[(f,v)]
 | (g,x)::r=>if g=f then (g,v)::r else (g,x)::cy f v r
theorem gB (f g : Str) (v : V) : ∀ fs : List (Str × V), (cy f v fs).lookup g = if g = f then some v else fs.lookup g
  | [] => by
    show List.lookup g [(f, v)] = _
    by_cases h : g = f
    · have hb : (g == f) = true := beq_iff_eq.mpr h
      simp only [List.lookup, hb, if_pos h]
    · have hb : (g == f) = false := beq_eq_false_iff_ne.mpr h
      simp only [List.lookup, hb, if_neg h]
  | (k, x) :: r => by
    have ih := gB f g v r
    rw [show cy f v ((k, x) :: r) = (if k = f then (k, v) :: r else (k, x) :: cy f v r) from rfl]
    by_cases hk : k = f
    · rw [if_pos hk]
      by_cases h : g = k
      · have hb : (g == k) = true := beq_iff_eq.mpr h
        simp only [List.lookup, hb, if_pos (h.trans hk)]
      · have hb : (g == k) = false := beq_eq_false_iff_ne.mpr h
        simp only [List.lookup, hb, if_neg (fun e : g = f => h (e.trans hk.symm))]
    · rw [if_neg hk]
      by_cases h : g = k
      · have hb : (g == k) = true := beq_iff_eq.mpr h
        simp only [List.lookup, hb, if_neg (fun e : g = f => hk (h.symm.trans e))]
      · have hb : (g == k) = false := beq_eq_false_iff_ne.mpr h
        simp only [List.lookup, hb]
        exact ih
theorem iW (f : Str) (v : V) : ∀ fs : List (Str × V), f ∈ (cy f v fs).map (·.1) ∧ ∀ g, g ∈ fs.map (·.1) → g ∈ (cy f v fs).map (·.1)
  | [] => ⟨by simp [cy], fun g h => by simp at h⟩
  | (k, x) :: r => by
    obtain ⟨i1, i2⟩ := iW f v r
    rw [show cy f v ((k, x) :: r) = (if k = f then (k, v) :: r else (k, x) :: cy f v r) from rfl]
    by_cases hk : k = f
    · rw [if_pos hk]
      subst hk
      exact ⟨by simp, fun g h => by simpa using h⟩
    · rw [if_neg hk]
      refine ⟨?_, fun g h => ?_⟩
      · rw [List.map_cons]
        exact List.mem_cons_of_mem _ i1
      · rw [List.map_cons] at h ⊢
        rcases List.mem_cons.mp h with e | e
        · exact List.mem_cons.mpr (.inl e)
        · exact List.mem_cons_of_mem _ (i2 g e)
theorem jM (f : Str) (v : V) : ∀ fs : List (Str × V), (cy f v fs).length ≤ fs.length + 1
  | [] => by simp [cy]
  | (k, x) :: r => by
    have ih := jM f v r
    rw [show cy f v ((k, x) :: r) = (if k = f then (k, v) :: r else (k, x) :: cy f v r) from rfl]
    by_cases hk : k = f
    · rw [if_pos hk, List.length_cons, List.length_cons]; omega
    · rw [if_neg hk, List.length_cons, List.length_cons]; omega
theorem cr.some_of {v:V} {o:Option Value} (r:cr (some v) o):∃ u,o=some u∧aW v u:=by
 cases o with
 | none=>exact (show False from r).elim
 | some u=>exact ⟨u,rfl,r⟩
theorem cr.none_of {o:Option Value} (r:cr none o):o=none:=by
 cases o with
 | none=>rfl
 | some u=>exact (show False from r).elim
theorem mq {v:V} {u:Value} (r:aW v u):W.handedIn u=true:=by
 cases v with
 | non=>cases (show u=Value.none from r);rfl
 | bl b=>cases (show u=Value.bool b from r);rfl
 | int i=>obtain ⟨t,e⟩:=(show ∃ t,u=Value.int i t from r);cases e;rfl
 | str x=>obtain ⟨t,e⟩:=(show ∃ t,u=Value.str x t from r);cases e;rfl
 | byt b=>obtain ⟨t,e⟩:=(show ∃ t,u=Value.bytes b t from r);cases e;rfl
 | flt b=>obtain ⟨t,e⟩:=(show ∃ t,u=Value.float b t from r);cases e;rfl
 | ref a=>cases (show u=Value.ref a from r);rfl
 | ty n=>cases (show u=Value.type n from r);rfl
section
variable {P:Program} {w:World} {H H':Hp} {h h':Heap} {a C dx:Addr} {fs fs':List (Str×V)}
theorem gK (hok:HOk P w H h) (e:H a=some (.ins C dx fs)):∃ mA,jP h a dx C mA∧(∀ f,cr (fs.lookup f) (mA f))∧PySem.Within mA (fs.map (·.1))∧fs.length≤1000∧H dx=some (.own a):=by
 obtain ⟨d,z,ne,ob,mA,n,r,q⟩:=(show bc P w H h a (.ins C dx fs) from hok a _ e)
 exact ⟨mA,⟨ob,n,ne⟩,r,q,z,d⟩
end
structure Cls (K:W.Frag) (C:Addr):Prop where
 pg:W.plainGet K C Str.empty=true
 hd:W.hasDictIn K C=true
 po:W.plainOver K C=true
 sa:W.findIn K (.ref C) "__setattr__" =some (some (.builtin "object.__setattr__"))
theorem Cls.get {K:W.Frag} {C:Addr} (c:Cls K C) (f:Str):W.plainGet K C f=true:=c.pg
def bN (K:W.Frag) (C:Addr) (f:Str):Prop:=W.findIn K (.ref C) f=some none
theorem bN.taker {K:W.Frag} {C:Addr} {f:Str} (n:bN K C f):W.takerIn K C f=some none:=by
 unfold W.takerIn
 rw [show W.findIn K (.ref C) f=some none from n]
 rfl
structure lF (K:W.Frag) (C:Addr) (m:Str) (f:Addr):Prop where
 at_:W.findIn K (.ref C) m=some (some (.ref f))
 fn:W.isFn K (.ref f)=true
 kp:W.keepIn K (.ref f)=true
section
variable {X:Cx} {pins:List (Addr×Obj)} {σ:St} {H:Hp} {s:Shared} {a C dx:Addr} {fs:List (Str×V)} {f:Str} {v:V} {A:Around} {E:Value→Shared→Prop}
theorem sJ {b:Bool} {Q:Value→Shared→Prop} (I:Inv X pins σ H s) (e:H a=some (.ins C dx fs)) (c:Cls X.K C) (n:bN X.K C f) (l:fs.lookup f=some v)
  (h:∀ u s',Inv X pins σ H s'→aW v u→Q u s'):wpAny (model X.prog X.w) A (getAttr (.ref a) f b) Q E s:=by
 obtain ⟨mA,O,r,_,_,_⟩:=gK I.hok e
 obtain ⟨u,hu,ru⟩:=cr.some_of (v:=v) (o:=mA f) (by rw [← l];exact r f)
 exact yV I.kIn O (c.get f) c.hd n hu (mq ru) (h u _ (I.tok _) ru)
theorem rR {m:Str} {g:Addr} {pl:Sem Bool} {Q:Value×List Value→Shared→Prop} (I:Inv X pins σ H s) (e:H a=some (.ins C dx fs)) (c:Cls X.K C) (k:lF X.K C m g) (l:fs.lookup m=none)
  (h:Q (.ref g,[.ref a]) s):wpAny (model X.prog X.w) A (getMethod (.ref a) m pl) Q E s:=by
 obtain ⟨mA,O,r,_,_,_⟩:=gK I.hok e
 have hn:mA m=none:=cr.none_of (by rw [← l];exact r m)
 exact vS I.kIn O (c.get m) k.at_ k.fn hn h
theorem rP {y:V} {u:Value} {Q:Unit→Shared→Prop} (I:Inv X pins σ H s) (e:H a=some (.ins C dx fs)) (c:Cls X.K C) (n:bN X.K C f) (hl:fs.length<1000) (ry:aW y u)
   (h:∀ s',Inv X pins σ (upd H a (.ins C dx (cy f y fs))) s'→Q () s'):wpAny (model X.prog X.w) A (setAttr (.ref a) f u) Q E s:=by
 obtain ⟨mA,O,r,wi,_,ho⟩:=gK I.hok e
 have hz:(fs.map (·.1)).length≤sizeLine:=by rw [List.length_map,sizeLine_eq];omega
 refine yY I.kIn O c.sa c.po n.taker c.hd wi hz fun h' O' sb=>h _ ?_
 have hd:∃ o,h'.get? dx=some o:=let ⟨o,_,_,e',_⟩:=O'.ns;⟨o,e'⟩
 refine I.write (x:=a) (e:=dx) (by rw [e];exact True.intro) (.inr ho) (fun b q hb z=>(sb.2 b hb).trans z) hd ?_
 refine ⟨by rw [au O.ne];exact ho,?_,O.ne,O'.obj,_,O'.ns,fun g=>?_,fun g hg=>?_⟩
 · have:=jM f y fs;omega
 · show cr ((cy f y fs).lookup g) (if g=f then some u else mA g)
   rw [gB]
   by_cases q:g=f
   · rw [if_pos q,if_pos q];exact ry
   · rw [if_neg q,if_neg q];exact r g
 · by_cases q:g=f
   · rw [q];exact (iW f y fs).1
   · refine (iW f y fs).2 g (wi g fun z=>hg ?_)
     show (if g=f then some u else mA g)=none
     rw [if_neg q];exact z
theorem Inv.made (I:Inv X pins σ H s):Inv X pins σ (upd (upd H s.heap.objs.size (.own (s.heap.objs.size+1))) (s.heap.objs.size+1) (.ins C s.heap.objs.size []))
  { s with heap:=(s.heap.push W.emptyDict).push (W.instObj C s.heap.objs.size) }:=by
 have e1:(s.heap.push W.emptyDict).get? s.heap.objs.size=some W.emptyDict:=Heap.get?_push_size s.heap rfl
 have e2:((s.heap.push W.emptyDict).push (W.instObj C s.heap.objs.size)).get? (s.heap.objs.size+1)=some (W.instObj C s.heap.objs.size):=by
  have:=Heap.get?_push_size (s.heap.push W.emptyDict) (o:=W.instObj C s.heap.objs.size) rfl
  rwa [Heap.size_push] at this
 have e3:(s.heap.push W.emptyDict).Ns s.heap.objs.size (fun _=>none):=⟨W.emptyDict,#[],_,e1,rfl,(fun e he=>absurd he (by simp)),fun _=>rfl⟩
 have I1:=I.laid (a:=s.heap.objs.size) (o:=.own (s.heap.objs.size+1)) (h':=s.heap.push W.emptyDict) (t':=s.toks) (fun b u q=>Heap.get?_push_of_some _ q) (Nat.le_refl _) ⟨_,e1⟩
 refine I1.laid (a:=s.heap.objs.size+1) (o:=.ins C s.heap.objs.size []) (t':=s.toks) (fun b u q=>Heap.get?_push_of_some _ q) (Nat.le_of_eq (Heap.size_push _ _)) ?_
 have ne:s.heap.objs.size≠s.heap.objs.size+1:=Nat.ne_of_lt (Nat.lt_succ_self _)
 refine ⟨by rw [au ne,ap],Nat.zero_le _,ne,e2,fun _=>none,(Heap.Ns1.of_empty e3).at fun o q=>Heap.get?_push_of_some _ q,fun _=>True.intro,fun y hy=>absurd rfl hy⟩
theorem qW {prog:Program} {w:World} {env:Env} {e:Expr} {f:Str} {pos:Pos} {s:Shared} {Q:Value→Shared→Prop} (hb:attributeBase e f env (eval e env)=eval e env)
  (h:wpAny (model prog w) A (eval e env) (fun o s₁=>wpAny (model prog w) A (getAttr o f true) Q E s₁) E s):wpAny (model prog w) A (eval (.Attribute e f pos) env) Q E s:=
 Attribute_any_ h (by rw [arm_eval_Attribute,hb])
end
def cQ (K:W.Frag) (ta:TE) (f:Str):TE:=fun σ H Q=>ta σ H fun x H1=>∃ a C dx fs v,x=.ref a∧H1 a=some (.ins C dx fs)∧Cls K C∧bN K C f∧fs.lookup f=some v∧Q v H1
def iI (K:W.Frag) (ta tv:TE) (f:Str):TS:=fun D σ H=>tv σ H fun y H1=>ta σ H1 fun x H2=>∃ a C dx fs,x=.ref a∧H2 a=some (.ins C dx fs)∧Cls K C∧bN K C f∧fs.length<1000∧
 D.nx σ (upd H2 a (.ins C dx (cy f y fs)))
section
variable {X:Cx} {o e value:Expr} {f:Str} {pos pos' tpos:Pos} {ta tv:TE}
theorem CT (he:PE X e ta) (hb:attributeBase e f X.env (eval e X.env)=eval e X.env):PE X (.Attribute e f pos) (cQ X.K ta f):=by
 intro pins s σ H Q I h
 refine qW hb (thn (he pins s σ H _ I h) fun u s1 ⟨x,H1,I1,rx,a,C,dx,fs,v,ex,ea,c,n,l,q⟩=>?_)
 subst ex
 obtain rfl:u=Value.ref a:=rx
 exact sJ I1 ea c n l fun u' s2 I2 ru=>⟨v,H1,I2,ru,q⟩
theorem BS (ha:PE X o ta) (hv:PE X value tv) (hs:swapsWith value (some (.Attribute o f pos')) pos.line X.env=pure false):PS X (.Assign [.Attribute o f pos'] value pos) (iI X.K ta tv f):=by
 intro pins s σ H D I h
 refine plainObj_wpAny_Assign_Attribute (thn (hv pins s σ H _ I h) fun u s1 ⟨y,H1,I1,ry,q⟩=>thn (ha pins s1 σ H1 _ I1 q) fun ov s2 ⟨x,H2,I2,rx,a,C,dx,fs,ex,ea,c,n,l,q2⟩=>?_) hs
 subst ex
 obtain rfl:ov=Value.ref a:=rx
 exact rP I2 ea c n l ry fun s3 I3=>⟨σ,_,I3,q2⟩
end
section
variable {X:Cx} {pins:List (Addr×Obj)} {σ:St} {H:Hp} {s:Shared} {A:Around} {E:Value→Shared→Prop} {Q:Value→Shared→Prop} {c:Value} {b:Bool}
inductive eW (K:W.Frag) (H:Hp):V→Value→Prop where
 | non:eW K H .non (.type "NoneType")
 | bl (x:Bool):eW K H (.bl x) (.type "bool")
 | int (i:Int):eW K H (.int i) (.type "int")
 | str (x:Str):eW K H (.str x) (.type "str")
 | flt (x:UInt64):eW K H (.flt x) (.type "float")
 | lst {a:Addr} {xs:List V} (e:H a=some (.lst xs)):eW K H (.ref a) (.type "list")
 | frz {a:Addr} {o:Obj} {xs:List V} (e:H a=some (.frz o (.lst xs))):eW K H (.ref a) (.type "list")
 | tup {a:Addr} {xs:List V} (e:H a=some (.tup xs)):eW K H (.ref a) (.type "tuple")
 | dK {a:Addr} {kvs:List (Key×V)} (e:H a=some (.dK kvs)):eW K H (.ref a) (.type "dict")
 | dT {a:Addr} {kvs:List (List Key×V)} (e:H a=some (.dT kvs)):eW K H (.ref a) (.type "dict")
 | ins {a C dx:Addr} {fs:List (Str×V)} (e:H a=some (.ins C dx fs)) (cl:Cls K C) (ha:W.findIn K (.ref C) "__class__" =some (some (.builtin "object.__class__")))
  (hn:W.specialIn K (.builtin "object.__class__") "__get__" =some (some (.builtin "getset_descriptor.__get__"))) (htk:W.takesIn K (.builtin "object.__class__")=some true)
  (hm:W.mroIn K C (.type "object")=some true):eW K H (.ref a) (.ref C)
theorem uR {x : V} {u t : Value} (I : Inv X pins σ H s) (rx : aW x u) (ty : eW X.K H x t) (e : W.kitOne X.K t c = some b) (h : ∀ tk, Q (.bool b) { s with toks := tk }) :
    wpAny (model X.prog X.w) A (call (.builtin "isinstance") [u, c]) Q E s := by
  cases ty with
  | non => cases (show u = Value.none from rx); exact W.kia_one W.kitx_none I.kIn True.intro e (fun z => nomatch z) h
  | bl y => cases (show u = Value.bool y from rx); exact W.kia_one W.kitx_bool I.kIn True.intro e (fun z => nomatch z) h
  | int i => obtain ⟨t, q⟩ := (show ∃ t, u = Value.int i t from rx); cases q; exact W.kia_one W.kitx_int I.kIn True.intro e (fun z => nomatch z) h
  | str y => obtain ⟨t, q⟩ := (show ∃ t, u = Value.str y t from rx); cases q; exact W.kia_one W.kitx_str I.kIn True.intro e (fun z => nomatch z) h
  | flt y => obtain ⟨t, q⟩ := (show ∃ t, u = Value.float y t from rx); cases q; exact W.kia_one W.kitx_float I.kIn True.intro e (fun z => nomatch z) h
  | @lst a xs ea =>
    cases (show u = Value.ref a from rx)
    obtain ⟨_, _, n, _, h1⟩ := (show bc X.prog X.w H s.heap a (.lst xs) from I.hok a _ ea)
    exact W.kia_one W.kitx_list I.kIn ⟨_, h1, rfl⟩ e (fun z => nomatch z) h
  | @frz a ob xs ea =>
    cases (show u = Value.ref a from rx)
    obtain ⟨_, _, _, n, _, h1⟩ := (show bc X.prog X.w H s.heap a (.frz ob (.lst xs)) from I.hok a _ ea)
    exact W.kia_one W.kitx_list I.kIn ⟨_, h1, rfl⟩ e (fun z => nomatch z) h
  | @tup a xs ea =>
    cases (show u = Value.ref a from rx)
    obtain ⟨_, _, _, p⟩ := (show bc X.prog X.w H s.heap a (.tup xs) from I.hok a _ ea)
    obtain ⟨o, h1, h2, _⟩ := p
    exact W.kia_one W.kitx_tuple I.kIn ⟨o, h1, h2⟩ e (fun z => nomatch z) h
  | @dK a kvs ea =>
    cases (show u = Value.ref a from rx)
    obtain ⟨_, _, vs, _, p⟩ := (show bc X.prog X.w H s.heap a (.dK kvs) from I.hok a _ ea)
    obtain ⟨o, es, ep, h1, h2, _⟩ := p
    exact W.kia_one W.kitx_dict I.kIn ⟨o, h1, h2.1⟩ e (fun z => nomatch z) h
  | @dT a kvs ea =>
    cases (show u = Value.ref a from rx)
    obtain ⟨_, _, xs, _, o, es, ep, h1, h2, _⟩ := (show bc X.prog X.w H s.heap a (.dT kvs) from I.hok a _ ea)
    exact W.kia_one W.kitx_dict I.kIn ⟨o, h1, h2.1⟩ e (fun z => nomatch z) h
  | @ins a C dx fs ea cl ha hn htk hm =>
    cases (show u = Value.ref a from rx)
    obtain ⟨mA, O, _⟩ := gK I.hok ea
    obtain ⟨od, J, _⟩ := O.look
    exact W.kia_one (W.kitx_own (cl.get _) cl.hd ha hn htk hm) I.kIn J e (fun z => nomatch z) h
end
end L2
namespace L2
open PySem PySem.Spec PyProof.Rows
structure bg (k:Nat) (A:Around):Prop where
 hd:A.handled=none
 dp:A.depth+3*k+5<recursionLimit
 un:A.units+16*k+200<cLine
theorem bg.mono {j k:Nat} {A:Around} (r:bg k A) (h:j≤k):bg j A:=⟨r.hd,by have:=r.dp;omega,by have:=r.un;omega⟩
theorem bg.deeper {k:Nat} {A:Around} (r:bg (k+1) A) (env:Env):bg k (A.deeper env):=
 ⟨r.hd,by have:=r.dp;show A.depth+1+3*k+5<_;omega,by have:=r.un;show A.units+3+16*k+200<_;omega⟩
theorem rM {A:Around} {C:Addr} {us:List Value} {kw:List (Str×Value)}:(A.under (.builtin "type.__call__" ⟨.ref C::us,kw⟩)).depth=A.depth+1:=by
 first | rfl | simp [Around.under,Code.weight,Code.isCreation,Code.isGuard,Code.isCaller,Code.frames,Code.isFrame,guardIds]
theorem sD {A:Around} {C:Addr} {us:List Value} {kw:List (Str×Value)}:(A.under (.builtin "type.__call__" ⟨.ref C::us,kw⟩)).units=A.units+1:=by
 first | rfl | simp [Around.under,Code.cUnits,Code.frames,Code.isFrame]
theorem bg.make {k:Nat} {A:Around} (r:bg (k+1) A) (C:Addr) (us:List Value) (kw:List (Str×Value)):bg k (A.under (.builtin "type.__call__" ⟨.ref C::us,kw⟩)):=
 ⟨r.hd,by have:=r.dp;rw [rM];omega,by have:=r.un;rw [sD];omega⟩
theorem bg.depth {k:Nat} {A:Around} (r:bg k A):A.depth<recursionLimit:=by have:=r.dp;omega
def ag:TA:=fun _ H Q=>Q [] H
def aa (ta:TE) (tr:TA):TA:=fun σ H Q=>ta σ H fun x H1=>tr σ H1 fun xs H2=>Q (x::xs) H2
section
variable {X:Cx} {e:Expr} {es:List Expr} {te:TE} {t:TA} {pos:Pos}
theorem Bl:PA X [] ag:=fun _ _ _ _ H Q I h=>Calls.spliced_nil ⟨[],H,I,.nil,h⟩
theorem zl (ha:PE X e te) (hr:PA X es t) (hs:starEach (e::es) X.env=(false,eval e X.env)::starEach es X.env:=by rfl):PA X (e::es) (aa te t):=by
 intro pos pins s σ H Q I h
 rw [hs]
 show wpAny _ _ (spliced ((false,eval e X.env)::backTo pos (starEach es X.env))) _ _ s
 refine Calls.spliced_cons (thn (ha pins s σ H _ I h) fun u s1 ⟨x,H1,I1,r1,q1⟩=>?_)
 exact thn (hr pos pins s1 σ H1 _ I1 q1) fun us s2 ⟨xs,H2,I2,r2,q2⟩=>⟨x::xs,H2,I2,.cons r1 r2,q2⟩
def bf (t:TA):TE:=fun σ H Q=>t σ H fun xs H1=>xs.length≤sizeLine∧∀ p,H1 p=none→Q (.ref p) (upd H1 p (.tup xs))
def bz (t:TA):TE:=fun σ H Q=>t σ H fun xs H1=>xs.length≤sizeLine∧∀ p,H1 p=none→Q (.ref p) (upd H1 p (.lst xs))
theorem Ci {x1} (h:PA X es t):PE X (.Tuple es x1 pos) (bf t):=by
 intro pins s σ H Q I hq
 refine wpAny_Tuple_spliced (thn (h pos pins s σ H _ I hq) fun us s1 ⟨xs,H1,I1,r,z,q⟩=>⟨by rw [← r.length];exact z,?_⟩)
 have hf:H1 s1.heap.objs.size=none:=I1.hok.fresh (Nat.le_refl _)
 refine ⟨.ref s1.heap.objs.size,upd H1 s1.heap.objs.size (.tup xs),I1.laid (t':=s1.toks) (fun b u e=>Heap.get?_push_of_some _ e) (Nat.le_refl _) ?_,rfl,q _ hf⟩
 exact ⟨z,us,r,⟨_,Heap.get?_push_size _ rfl,rfl,_,rfl⟩⟩
theorem Cj (h:PA X es t):PE X (.List es pos) (bz t):=by
 intro pins s σ H Q I hq
 refine wpAny_List_spliced (thn (h pos pins s σ H _ I hq) fun us s1 ⟨xs,H1,I1,r,z,q⟩=>⟨by rw [← r.length];exact z,?_⟩)
 have hf:H1 s1.heap.objs.size=none:=I1.hok.fresh (Nat.le_refl _)
 refine ⟨.ref s1.heap.objs.size,upd H1 s1.heap.objs.size (.lst xs),I1.laid (t':=s1.toks) (fun b u e=>Heap.get?_push_of_some _ e) (Nat.le_refl _) ?_,rfl,q _ hf⟩
 exact ⟨z,us,0,r,Heap.get?_push_size _ rfl⟩
end
abbrev Sp:=List V→Hp→VK→XK→Prop
abbrev CXT:=List Env→Hp→Shared→XK→Value→Shared→Prop
structure ii (P:Program) (w:World) (K:W.Frag) (mg:Str→Option Value) (base:Heap) (A:Around) (outer:List Env) (s:Shared) (H:Hp):Prop where
 frames:A.frames=some outer
 mod:Mod K mg base
 bs:∀ b o,base.get? b=some o→s.heap.get? b=some o∧H b=none
 bsz:base.objs.size≤s.heap.objs.size
 funs:s.heap.FunFrames base outer
 frf:∀ b∈frs outer,H b=none
 hok:HOk P w H s.heap
 bare:AllBare s.gens
def CE (outer:List Env) (P:Program) (w:World) (H:Hp) (s:Shared) (Q:VK) (u:Value) (s':Shared):Prop:=
 ∃ v H',s'.os=s.os∧AllBare s'.gens∧Un (frs outer) [] H H' s.heap s'.heap∧HOk P w H' s'.heap∧aW v u∧Q v H'
def CR (CX:CXT) (outer:List Env) (P:Program) (w:World) (H:Hp) (s:Shared) (Q:VK) (E:XK) (r:Result) (s':Shared):Prop:=
 match r with
 | .ok (.ret u)=>CE outer P w H s Q u s'
 | .ok _=>False
 | .error e=>CX outer H s E e s'
structure aP (P:Program) (w:World) (K:W.Frag) (mg:Str→Option Value) (base:Heap) (CX:CXT) (k:Nat) (f:Addr) (fd:FuncData) (ps:List Str) (sp:Sp):Prop where
 len:∀ vs H Q E,sp vs H Q E→vs.length=ps.length
 run:∀ (A:Around) (outer:List Env) (s:Shared) (H:Hp) (args:Args) (us:List Value) (vs:List V) (Q:VK) (E:XK),bg k A→ii P w K mg base A outer s H→BindsTo s fd args (ps.zip us)→aX vs us→sp vs H Q E→
  codeAny (model P w) A (.call (.ref f) args) (CR CX outer P w H s Q E) s
theorem ii.make {P:Program} {w:World} {K:W.Frag} {mg:Str→Option Value} {base:Heap} {A:Around} {outer:List Env} {s:Shared} {H:Hp} (e:ii P w K mg base A outer s H) (C:Addr) (us:List Value) (kw:List (Str×Value)):
 ii P w K mg base (A.under (.builtin "type.__call__" ⟨.ref C::us,kw⟩)) outer s H:=⟨by first | exact e.frames | (simpa [Around.under,Code.envs,Code.isFrame,pushEnvs] using e.frames),e.mod,e.bs,e.bsz,e.funs,e.frf,e.hok,e.bare⟩
section
variable {X:Cx} {pins:List (Addr×Obj)} {σ:St} {H:Hp} {s s':Shared}
theorem Inv.env0 (I:Inv X pins σ H s):ii X.prog X.w X.K X.mg X.base X.A X.stack s H:=
 ⟨I.ok.frames,I.ok.mod,I.bs,Nat.le_trans I.ok.bsz I.sz,I.stack,I.stkFree,I.hok,I.bare⟩
theorem Inv.after {Q:VK} {u:Value} (I:Inv X pins σ H s) (h:CE X.stack X.prog X.w H s Q u s'):EP X pins σ Q u s':=by
 obtain ⟨v,H',os,bare,un,hok,r,q⟩:=h
 obtain ⟨hh,g,d,t,os'⟩:=s'
 obtain rfl:os'=s.os:=os
 exact ⟨v,H',I.call (h':=hh) (g':=g) (d':=d) (t':=t) (ch:=[]) un hok bare (fun b z=>absurd z (by simp)),r,q⟩
end
def bH (K:W.Frag) (fd:FuncData) (ps:List Str) (ds:List Value):Prop:=
 ∀ (s:Shared) (us:List Value),K.In s.heap→(us++ds).length=ps.length→BindsTo s fd ⟨us,[]⟩ (ps.zip (us++ds))
theorem bH.all {K:W.Frag} {fd:FuncData} {ps:List Str} (h:∀ us:List Value,us.length=ps.length→bindArgs fd ⟨us,[]⟩=pure (ps.zip us)):bH K fd ps []:=fun s us _ hl=>by
 rw [List.append_nil] at hl ⊢
 exact .of_eq (h us hl)
section
variable {X:Cx} {CX:CXT} {k:Nat} {f C:Addr} {fd:FuncData} {ps:List Str} {sp:Sp} {dvs:List V} {ds:List Value} {E:XK} {x m:Str} {p pos apos:Pos} {e o:Expr} {es:List Expr} {ta:TE} {t:TA}
structure Mk (K:W.Frag) (C f:Addr):Prop where
 makes:W.makesIn K C=true
 init:W.findIn K (.ref C) "__init__" =some (some (.ref f))
 fn:W.isFn K (.ref f)=true
 kp:W.keepIn K (.ref C)=true
end
def PK (X:Cx) (kws:List Keyword) (t:TA):Prop:=
 ∀ (pos:Pos) (pins:List (Addr×Obj)) (s:Shared) (σ:St) (H:Hp) (Q:List V→Hp→Prop),Inv X pins σ H s→t σ H Q→wpAny (model X.prog X.w) X.A (evalAll ((backToKw pos (keywordEach kws X.env)).map (·.2))) (AP X pins σ Q) X.xe s
section
variable {X:Cx} {CX:CXT} {k:Nat} {f C:Addr} {fd:FuncData} {ps ks:List Str} {sp:Sp} {E:XK} {x m:Str} {p pos apos kpos:Pos} {e o:Expr} {es:List Expr} {kws:List Keyword} {te ta:TE} {t tk:TA} {nm:Option Str}
variable {g:List Value→List Value→List Value} {gV:List V→List V→List V}
end
structure aA (N P:List Str) (sc:Scope):Prop where
 kind:sc.kind=.function
 co:sc.isCoroutine=false
 gen:sc.isGenerator=false
 nd:N.Nodup
 pre:N.take P.length=P
 par:∀ x∈P,sc.names.lookup x=some .local∨sc.names.lookup x=some .cell
 nofree:∀ y∈sc.names,y.2≠ .free
theorem my {kindOf : Str → Option NameKind} {x : Str} : ∀ {binds : List (Str × Value)} {m : Str → Option Value}, (∀ v, (x, v) ∉ binds) → bindL kindOf binds m x = m x
  | [], _, _ => rfl
  | (n, v) :: r, m, h => by
    unfold bindL
    rw [my fun w hw => h w (List.mem_cons_of_mem _ hw)]
    split
    · have : x ≠ n := by rintro rfl; exact h v List.mem_cons_self
      simp [this]
    · rfl
theorem mF {kindOf : Str → Option NameKind} {x : Str} : ∀ {binds : List (Str × Value)} {m : Str → Option Value}, (∀ v, (x, v) ∉ binds) → bindC kindOf binds m x = m x
  | [], _, _ => rfl
  | (n, v) :: r, m, h => by
    unfold bindC
    rw [mF fun w hw => h w (List.mem_cons_of_mem _ hw)]
    split
    · rfl
    · have : x ≠ n := by rintro rfl; exact h v List.mem_cons_self
      simp [this]
theorem mC {kindOf : Str → Option NameKind} {x : Str} {v : Value} : ∀ {P : List Str} {vs : List Value} {i : Nat} {m : Str → Option Value}, P.Nodup → P[i]? = some x → vs[i]? = some v → kindOf x = some .local →
    bindL kindOf (P.zip vs) m x = some v
  | [], _, _, _, _, h, _, _ => by simp at h
  | _ :: _, [], _, _, _, _, h, _ => by simp at h
  | p :: P, w :: vs, 0, m, nd, h1, h2, hk => by
    simp at h1 h2; subst h1; subst h2
    show bindL kindOf ((p, w) :: P.zip vs) m p = _
    unfold bindL
    rw [my fun v hv => (List.nodup_cons.mp nd).1 (List.of_mem_zip hv).1, if_pos hk]
    simp
  | p :: P, w :: vs, i + 1, m, nd, h1, h2, hk => by
    show bindL kindOf ((p, w) :: P.zip vs) m x = _
    unfold bindL
    exact mC (i := i) (List.nodup_cons.mp nd).2 (by simpa using h1) (by simpa using h2) hk
theorem mx {kindOf : Str → Option NameKind} {x : Str} {v : Value} : ∀ {P : List Str} {vs : List Value} {i : Nat} {m : Str → Option Value}, P.Nodup → P[i]? = some x → vs[i]? = some v → kindOf x ≠ some .local →
    bindC kindOf (P.zip vs) m x = some v
  | [], _, _, _, _, h, _, _ => by simp at h
  | _ :: _, [], _, _, _, _, h, _ => by simp at h
  | p :: P, w :: vs, 0, m, nd, h1, h2, hk => by
    simp at h1 h2; subst h1; subst h2
    show bindC kindOf ((p, w) :: P.zip vs) m p = _
    unfold bindC
    rw [mF fun v hv => (List.nodup_cons.mp nd).1 (List.of_mem_zip hv).1, if_neg hk]
    simp
  | p :: P, w :: vs, i + 1, m, nd, h1, h2, hk => by
    show bindC kindOf ((p, w) :: P.zip vs) m x = _
    unfold bindC
    exact mx (i := i) (List.nodup_cons.mp nd).2 (by simpa using h1) (by simpa using h2) hk
def bU (N:List Str) (vs:List V):St:=vs.map some++List.replicate (N.length - vs.length) none
def cF (CX:CXT) (P:Program) (w:World) (K:W.Frag) (mg:Str→Option Value) (base:Heap) (N:List Str) (qual:Str) (scope:Scope) (f:Addr) (cd:Value) (A:Around) (outer:List Env) (s:Shared) (H:Hp) (E:XK):Cx where
 prog:=P
 w:=w
 K:=K
 mg:=mg
 base:=base
 A:=A.deeper (envOfC qual scope s.heap.objs.size f cd)
 N:=N
 s₀:=s
 H₀:=H
 env:=envOfC qual scope s.heap.objs.size f cd
 outer:=outer
 stack:=envOfC qual scope s.heap.objs.size f cd::outer
 ex:=[]
 calm:=true
 fn:=fun _=>true
 pn:=[]
 xe:=fun e s'=>wpAny (model P w) (A.deeper (envOfC qual scope s.heap.objs.size f cd)) (leaving (envOfC qual scope s.heap.objs.size f cd) e) (fun _ s''=>CX outer H s E e s'') (fun e' s''=>CX outer H s E e' s'') s'
theorem ow {sc:Scope} {n:Nat} {x:Str} (h:sc.names.lookup x=some .cell):∃ c,(cellsFrom n sc.names []).lookup x=some c:=by
 have q:=W.cellsFrom_some sc.names n [] (.inl h)
 exact Option.isSome_iff_exists.mp q
theorem mi {CX:CXT} {P:Program} {w:World} {K:W.Frag} {mg:Str→Option Value} {base:Heap} {N ps:List Str} {qual:Str} {scope:Scope} {f:Addr} {cd:Value} {A:Around} {outer:List Env} {s s1:Shared} {H:Hp} {E:XK} {us:List Value} {vs:List V}
   (S:aA N ps scope) (hd:A.handled=none) (e0:ii P w K mg base A outer s H) (hl:vs.length=ps.length) (r:aX vs us)
   (x:InCallC s s.heap.objs.size (bindL (envOfC qual scope s.heap.objs.size f cd).kindOf (ps.zip us) fun _=>none) (cellsFrom (s.heap.objs.size+1) scope.names []) (bindC (envOfC qual scope s.heap.objs.size f cd).kindOf (ps.zip us) fun _=>none) s1):
   Inv (cF CX P w K mg base N qual scope f cd A outer s H E) [] (bU N vs) H s1:=by
 have hpl:ps.length≤N.length:=by have:=congrArg List.length S.pre;rw [List.length_take] at this;omega
 obtain ⟨h1,tk,rfl,hk⟩:=x.done
 have noA:∀ b:Addr,b∉(cF CX P w K mg base N qual scope f cd A outer s H E).ex:=fun b z=>absurd (show b∈([]:List Addr) from z) (by simp)
 refine ⟨⟨e0.mod,S.kind,rfl,rfl,Nat.le_refl _,fun y z c h1 h2=>?_,fun y hy=>?_,fun y c _ h=>?_,fun _=>hd,Around.frames_deeper e0.frames,.inr ⟨rfl,rfl⟩,fun b z=>absurd z (noA b),e0.bs,e0.bsz,fun b _ _=>noA b,fun b z=>absurd z (noA b),e0.funs,e0.frf⟩,
   rfl,e0.bare,Un.kept hk,⟨_,x.toInCall.ns,fun i y v h1 h2 h3=>?_⟩,fun y c h=>⟨_,x.cell y c h⟩,e0.hok.fresh (Nat.le_refl _),fun y c h=>?_,fun p hp=>absurd (show p∈([]:List (Addr×Obj)) from hp) (by simp),e0.hok.kept hk,?_⟩
 · exact name_of_addr x.apart (PySem.mem_of_lookup h1) (PySem.mem_of_lookup h2)
 · have hy:scope.names.lookup y=some .cell∨scope.names.lookup y=some .free:=hy
   rcases hy with hy | hy
   · exact ow hy
   · exact absurd rfl (S.nofree _ (PySem.mem_of_lookup hy))
 · exact Nat.le_of_lt (x.above y c (PySem.mem_of_lookup h))
 · have hi:i<vs.length:=by
     unfold bU at h2
     by_cases hi:i<vs.length
     · exact hi
     · rw [List.getElem?_append_right (by simpa using hi)] at h2
       rw [List.getElem?_replicate] at h2
       split at h2 <;> cases h2
   have ha:vs[i]?=some v:=by
     unfold bU at h2
     rw [List.getElem?_append_left (by simpa using hi),List.getElem?_map] at h2
     cases e:vs[i]? with
     | none=>rw [e] at h2;cases h2
     | some a=>rw [e] at h2;cases h2;rfl
   obtain ⟨u,hu,rv⟩:=r.get ha
   have hp:ps[i]?=some y:=by
     rw [← S.pre,List.getElem?_take_of_lt (by omega)];exact h1
   have ndP:ps.Nodup:=by rw [← S.pre];exact S.nd.sublist (List.take_sublist _ _)
   refine ⟨u,rv,?_⟩
   rcases S.par y (List.mem_of_getElem? hp) with k | k
   · exact .inl ⟨k,mC ndP hp hu k⟩
   · obtain ⟨c,e⟩:=ow (n:=s.heap.objs.size+1) k
     refine .inr ⟨.inl k,c,e,?_⟩
     have q:=x.cell y c e
     rw [mx ndP hp hu (by show scope.names.lookup y≠_;rw [k];decide)] at q
     exact q
 · exact e0.hok.fresh (Nat.le_of_lt (x.above y c (PySem.mem_of_lookup h)))
 · unfold bU
   show _=N.length
   rw [List.length_append,List.length_map,List.length_replicate]
   omega
theorem yp {CX : CXT} {P : Program} {w : World} {K : W.Frag} {mg : Str → Option Value} {base : Heap} {k : Nat} {f : Addr} {name qual : Str} {params : Arguments} {body : List Stmt} {scope : Scope} {dV kV doc pm cdv ct oc : Value} {an od : Option Addr}
    {osl : Array (Option Value)} {N ps : List Str} {sp : Sp} (lk : K.lookup f = some ⟨oc, od, .func (W.fnOf name qual params body scope dV kV doc pm an cdv ct), osl⟩) (hcd : W.codeIn K cdv qual = true) (S : aA N ps scope)
    (len : ∀ vs H Q E, sp vs H Q E → vs.length = ps.length)
    (hbody : ∀ (A : Around) (outer : List Env) (s : Shared) (H : Hp) (vs : List V) (Q : VK) (E : XK), bg k (A.deeper (envOfC qual scope s.heap.objs.size f cdv)) → sp vs H Q E →
      ∃ t, PSs (cF CX P w K mg base N qual scope f cdv A outer s H E) body t ∧ t { nx := fun _ H' => Q .non H', rt := Q } (bU N vs) H) :
    aP P w K mg base CX (k + 1) f (W.fnOf name qual params body scope dV kV doc pm an cdv ct) ps sp := by
  refine ⟨len, fun A outer s H args us vs Q E hr e0 hb r hsp => ?_⟩
  have hl := len _ _ _ _ hsp
  have KX : K.In s.heap := e0.mod.kin.keeps fun b o e => (e0.bs b o e).1
  have lim : s.heap.NoLimit := e0.mod.nolimit.keeps fun b o e => (e0.bs b o e).1
  have hkind : ∀ y ∈ ps.zip us, scope.names.lookup y.1 = some .local ∨ (scope.names.lookup y.1 = some .cell ∧ ((cellsFrom (s.heap.objs.size + 1) scope.names []).lookup y.1).isSome = true) := fun ⟨n, v⟩ hy => by
    rcases S.par n (List.of_mem_zip hy).1 with q | q
    · exact .inl q
    · exact .inr ⟨q, W.cellsFrom_some _ _ _ (.inl q)⟩
  refine codeAny_call_function hr.depth (KX _ _ lk) rfl S.co S.gen rfl (W.codeRec_of KX hcd) (hb _ _ _ _ ?_)
  refine wpAny_newFunctionEnv_cells S.kind hkind fun env he s1 x => ?_
  subst he
  refine ⟨lim.keeps x.toInCall.keep, codeAny_func ?_⟩
  obtain ⟨t, ht, hq⟩ := hbody A outer s H vs Q E (hr.deeper _) hsp
  have I : Inv (cF CX P w K mg base N qual scope f cdv A outer s H E) [] (bU N vs) H s1 := mi S hr.hd e0 hl r x
  refine wpAny_mono (ht [] s1 (bU N vs) H _ I hq) (fun fl s' hs => ?_) fun e s' hs => hs
  have fin : ∀ {σ' : St} {H' : Hp} {v : V} {u : Value}, Inv (cF CX P w K mg base N qual scope f cdv A outer s H E) [] σ' H' s' → aW v u → Q v H' → CE outer P w H s Q u s' :=
    fun {σ' H' v u} J rv q => ⟨v, H', J.os, J.bare, J.base, J.hok, rv, q⟩
  cases fl with
  | ret u =>
    obtain ⟨v, σ', H', J, rv, q⟩ := hs
    exact fin J rv q
  | next =>
    obtain ⟨σ', H', J, q⟩ := hs
    exact fin (v := V.non) (u := Value.none) J rfl q
  | brk =>
    obtain ⟨_, _, _, q⟩ := hs
    exact False.elim q
  | cont =>
    obtain ⟨_, _, _, q⟩ := hs
    exact False.elim q
end L2
namespace L2
open PySem PySem.Spec PyProof.Rows
section
variable {X:Cx} {x:Str} {p pos:Pos} {e:Expr} {es:List Expr} {t:TA} {id T:String} {r:List V→Hp→VK→Prop}
def tCB (r:List V→Hp→VK→Prop) (t:TA):TE:=fun σ H Q=>t σ H fun vs H1=>r vs H1 Q
theorem xu (hc:bG X (.builtin id) r) (hg:Gl X x) (hm:X.mg x=none) (hv:bootBuiltins x=some (.builtin id)) (ha:PA X (e::es) t) (hn:x≠ "__name__" :=by decide) (hdb:(x==("__debug__" :Str))=false:=by decide)
  (he:starEach (e::es) X.env=(false,eval e X.env)::starEach es X.env:=by rfl) (hpl:(backTo pos (starEach es X.env)).any (·.1)=false:=by rfl):PE X (.Call (.Name x p) (e::es) [] pos) (tCB r t):=by
 intro pins s σ H Q I h
 refine wpAny_Call_Name_kw (gN I hg hm hv ?_ hn hdb)
 exact PyProof.Rows.callWith_builtin1 (thn (ha pos pins s σ H _ I h) fun us s1 ⟨vs,H1,I1,r1,q1⟩=>hc pins s1 σ H1 vs us Q I1 r1 q1) he hpl
theorem uY (hc:bG X (.type T) r) (hg:Gl X x) (hm:X.mg x=none) (hv:bootBuiltins x=some (.type T)) (ha:PA X (e::es) t) (hn:x≠ "__name__" :=by decide) (hdb:(x==("__debug__" :Str))=false:=by decide)
  (he:starEach (e::es) X.env=(false,eval e X.env)::starEach es X.env:=by rfl) (hpl:(backTo pos (starEach es X.env)).any (·.1)=false:=by rfl):PE X (.Call (.Name x p) (e::es) [] pos) (tCB r t):=by
 intro pins s σ H Q I h
 refine wpAny_Call_Name_kw (gN I hg hm hv ?_ hn hdb)
 exact PyProof.Rows.callWith_type1 (thn (ha pos pins s σ H _ I h) fun us s1 ⟨vs,H1,I1,r1,q1⟩=>hc pins s1 σ H1 vs us Q I1 r1 q1) he hpl
end
end L2
namespace HT
open PySem PyProof.Rows
section
open PySem.SeqAt
open PySem.AutoSeq1 (wpAny_loadPart')
open PySem.MeetsSeq PySem.MeetsSeq2 PySem.MeetsSeq3
end
section
variable {prog:Program} {w:World} {A:Around} {E:Value→Shared→Prop} {s:Shared}
theorem yW {t b:Addr} {vs ws:List Value} {Q:Value→Shared→Prop} (ht:IsTup s.heap t vs.toArray) (hb:IsTup s.heap b ws.toArray) (hv:vs≠[])
   (h1:ws=[]→Q (.ref t) s) (h2:ws≠[]→Q (.ref s.heap.objs.size) { s with heap:=s.heap.push { cls:=.type "tuple",data:=.seq (vs++ws).toArray } })
   (hsz:vs.length+ws.length≤sizeLine):wpAny (model prog w) A (binaryOp .Add (.ref t) (.ref b)) Q E s:=by
 obtain ⟨⟨cls,dd,data,sl⟩,ho,hc,n,hd⟩:=id ht
 obtain ⟨⟨cls2,dd2,data2,sl2⟩,ho2,hc2,n2,hd2⟩:=id hb
 simp only at hc hd hc2 hd2
 subst hc hd hc2 hd2
 have e:vs.toArray++ws.toArray=(vs++ws).toArray:=by simp
 by_cases hw:ws=[]
 · exact concat_meets ⟨_,ho,rfl⟩ ⟨_,ho2,rfl⟩ noFill_tuple_add seq_tuple_add PySem.F.slot_tuple_add PySem.F.entry_tuple_add (PySem.F.args_tuple_add_2 _ _)
    (tuple_addW1 t b vs.toArray ws.toArray n n2 dd dd2 sl sl2 (by simpa using hv) (by simp [hw])) ⟨ho,ho2,h1 hw⟩
 · refine concat_meets ⟨_,ho,rfl⟩ ⟨_,ho2,rfl⟩ noFill_tuple_add seq_tuple_add PySem.F.slot_tuple_add PySem.F.entry_tuple_add (PySem.F.args_tuple_add_2 _ _)
    (tuple_addW2 t b vs.toArray ws.toArray n n2 dd dd2 sl sl2 (by simpa using hv) (by simpa using hw) (by rw [List.size_toArray,List.size_toArray];exact hsz)) ⟨ho,ho2,?_⟩
   rw [e]
   exact h2 hw
def sIx (n d:Nat):Option Int→Nat
 | none=>d
 | some v=>if v<0 then (v+(n:Int)).toNat else min v.toNat n
theorem qR (n d k:Nat):sIx n d (some (k:Int))=min k n:=by
 show (if (k:Int)<0 then ((k:Int)+(n:Int)).toNat else min (k:Int).toNat n)=min k n
 rw [if_neg (by omega),Int.toNat_natCast]
theorem CU (n d : Nat) (hd : d ≤ n) (o : Option Int) : sIx n d o ≤ n := by
  cases o with
  | none => exact hd
  | some v =>
    show (if v < 0 then (v + (n : Int)).toNat else min v.toNat n) ≤ n
    by_cases hv : v < 0
    · rw [if_pos hv]; omega
    · rw [if_neg hv]; exact Nat.min_le_right _ _
theorem qi (v:Int) (n d:Nat):(if v<0 then max (v+(n:Int)) 0 else min v (n:Int))=((sIx n d (some v):Nat):Int):=by
 show (if v<0 then max (v+(n:Int)) 0 else min v (n:Int))=(((if v<0 then (v+(n:Int)).toNat else min v.toNat n):Nat):Int)
 by_cases hv:v<0
 · simp only [if_pos hv];omega
 · simp only [if_neg hv];omega
theorem sr (lo hi:Option Int) (n:Nat):Builtin.Slice.sliceAdjust lo hi 1 (n:Int)=(((sIx n 0 lo:Nat):Int),((sIx n n hi:Nat):Int)):=by
 have h1:¬ ((1:Int)<0):=by omega
 unfold Builtin.Slice.sliceAdjust
 simp only [h1,if_false]
 refine Prod.ext ?_ ?_
 · cases lo with
   | none=>rfl
   | some v=>exact qi v n 0
 · cases hi with
   | none=>rfl
   | some v=>exact qi v n n
theorem sU (i j:Nat):Builtin.Slice.slicePlaces (i:Int) (j:Int) 1=j - i:=by
 unfold Builtin.Slice.slicePlaces
 have h1:(1:Int)>0:=by omega
 simp only [h1,if_true,Int.ediv_one]
 split <;> omega
theorem lm {v:Value} {o:Option Int} {Q:Option Int→Shared→Prop} (p:IsPart v o) (h:Q o s):wpAny (model prog w) A (Builtin.Slice.slicePartIndex v) Q E s:=by
 cases p with
 | none=>exact slicePart_none h
 | int i t=>exact slicePart_int h
theorem fU {sl:Addr} {vl vu:Value} {lo hi:Option Int} {n:Nat} {Q:Int×Int×Nat→Shared→Prop} (hs:s.heap.IsSliceOf sl vl vu .none) (pl:IsPart vl lo) (pu:IsPart vu hi)
  (h:Q (((sIx n 0 lo:Nat):Int),1,sIx n n hi - sIx n 0 lo) s):wpAny (model prog w) A (Builtin.Slice.sliceApplied (.ref sl) (pure (n:Int))) Q E s:=by
 obtain ⟨os,hos,hcs,hds⟩:=id hs
 unfold Builtin.Slice.sliceApplied Builtin.Slice.sliceFields
 refine wpAny_bind (wpAny_bind (wpAny_field hos hds (x:=vl) rfl (wpAny_bind (wpAny_field hos hds (x:=vu) rfl (wpAny_bind (wpAny_field hos hds (x:=.none) rfl (wpAny_pure ?_)))))))
 refine wpAny_bind (slicePart_none ?_)
 show wpAny _ _ (if ((1:Int)==0)=true then _ else _) _ _ s
 rw [if_neg (by decide)]
 refine wpAny_bind (lm pl (wpAny_bind (lm pu (wpAny_bind (wpAny_pure ?_)))))
 show wpAny _ _ (match Builtin.Slice.sliceAdjust lo hi 1 (n:Int) with | (lo,hi)=>pure (lo,(1:Int),Builtin.Slice.slicePlaces lo hi 1)) _ _ s
 rw [sr lo hi n]
 show wpAny _ _ (pure (((sIx n 0 lo:Nat):Int),(1:Int),Builtin.Slice.slicePlaces ((sIx n 0 lo:Nat):Int) ((sIx n n hi:Nat):Int) 1)) _ _ s
 rw [sU]
 exact wpAny_pure h
theorem vI (xs:Array Value) (i k:Nat):((List.range k).filterMap fun (m:Nat)=>xs[((i:Int)+(m:Int)*1).toNat]?).toArray=((xs.toList.drop i).take k).toArray:=by
 have e:(fun (m:Nat)=>xs[((i:Int)+(m:Int)*1).toNat]?)=fun m=>xs[i+m]?:=by
  funext m
  have:((i:Int)+(m:Int)*1).toNat=i+m:=by omega
  rw [this]
 rw [e]
 have:=pick_run xs i k
 rw [List.filterMap_map] at this
 have e2:((fun x=>xs[x]?)∘fun x=>i+x)=fun m=>xs[i+m]?:=rfl
 rw [e2] at this
 rw [this]
theorem jJ {t sl:Addr} {items:Array Value} {vl vu:Value} {lo hi:Option Int} {Q:Value→Shared→Prop} (ht:IsTup s.heap t items) (hs:s.heap.IsSliceOf sl vl vu .none) (pl:IsPart vl lo) (pu:IsPart vu hi)
  (hw:¬ (sIx items.size 0 lo=0∧sIx items.size items.size hi=items.size))
  (h:Q (.ref s.heap.objs.size) { s with heap:=s.heap.push { cls:=.type "tuple",data:=.seq ((items.toList.drop (sIx items.size 0 lo)).take (sIx items.size items.size hi - sIx items.size 0 lo)).toArray } })
  (hsz:items.size≤sizeLine):wpAny (model prog w) A (getItem (.ref t) (.ref sl)) Q E s:=by
 have htake:sizeOk (.seq ((items.toList.drop (sIx items.size 0 lo)).take (sIx items.size items.size hi - sIx items.size 0 lo)).toArray):=by
  show ((items.toList.drop (sIx items.size 0 lo)).take (sIx items.size items.size hi - sIx items.size 0 lo)).toArray.size≤sizeLine
  rw [List.size_toArray,List.length_take,List.length_drop,Array.length_toList]
  omega
 have hj:sIx items.size items.size hi≤items.size:=CU _ _ (Nat.le_refl _) hi
 obtain ⟨os,hos,hcs,hds⟩:=id hs
 have hTs:s.TypeIs (.ref sl) "slice" :=⟨os,hos,hcs⟩
 unfold getItem
 try with_reducible refine wpAny_holding ?_
 first | refine wpAny_bind (wpAny_pure ?_) | skip
 refine wpAny_bind (wpAny_sequenceKey ht.typeIs (by decide) ?_)
 refine wpAny_bind (wpAny_callSpecial?_slot (name:=Str.ofString "__getitem__") ht.typeIs PyProof.Rows.slot_tuple_getitem
  (wpAny_call_entry PyProof.Rows.slot_tuple_getitem ht.typeIs entry_tuple_getitem ?_ (args_tuple_getitem _ _)))
 show wpAny _ _ (Builtin.Tuple.tupleItemsOf (.ref t)>>=_) _ _ s
 refine wpAny_bind (tupleItemsOf_ ht ?_)
 refine wpAny_bind (wpAny_typeOf hTs ?_)
 rw [if_pos (by decide)]
 refine wpAny_bind (fU hs pl pu ?_)
 have hno:¬ ((((sIx items.size 0 lo:Nat):Int)==0&&(1:Int)==1&&(sIx items.size items.size hi - sIx items.size 0 lo)==items.size)=true):=by
  intro q
  rw [Bool.and_eq_true,Bool.and_eq_true] at q
  have q1:((sIx items.size 0 lo:Nat):Int)=0:=eq_of_beq q.1.1
  have q2:sIx items.size items.size hi - sIx items.size 0 lo=items.size:=eq_of_beq q.2
  exact hw ⟨by omega,by omega⟩
 show wpAny _ _ (if (((sIx items.size 0 lo:Nat):Int)==0&&(1:Int)==1&&(sIx items.size items.size hi - sIx items.size 0 lo)==items.size)=true then _ else _) _ _ s
 rw [if_neg hno,vI]
 first
  | exact wpAny_bind (m:=Builtin.Tuple.tupleExact _) (wpAny_newObj_type (wpAny_pure ⟨_,rfl,wpAny_pure h⟩) htake)
  | exact wpAny_bind (m:=Builtin.Tuple.tupleExact _) (wpAny_newObj_type (wpAny_bind (wpAny_pure (wpAny_pure ⟨_,rfl,wpAny_pure h⟩))) htake)
  | exact wpAny_bind (wpAny_bind (m:=Builtin.Tuple.tupleExact _) (wpAny_newObj_type (wpAny_pure (wpAny_pure ⟨_,rfl,wpAny_pure h⟩)) htake))
  | exact wpAny_bind (wpAny_bind (m:=Builtin.Tuple.tupleExact _) (wpAny_newObj_type (wpAny_pure ⟨_,rfl,wpAny_pure h⟩) htake))
end
end HT
namespace L2
open PySem PySem.Spec PyProof.Rows
abbrev TO:=St→Hp→(Option Int→Hp→Prop)→Prop
def PO (X:Cx) (e:Option Expr) (t:TO):Prop:=
 ∀ (pins:List (Addr×Obj)) (s:Shared) (σ:St) (H:Hp) (Q:Option Int→Hp→Prop),Inv X pins σ H s→t σ H Q→
  wpAny (model X.prog X.w) X.A (evalPart e X.env) (fun u s'=>∃ o H',Inv X pins σ H' s'∧IsPart u o∧Q o H') X.xe s
def jt:TO:=fun _ H Q=>Q none H
def gn (t:TE):TO:=fun σ H Q=>t σ H fun x H1=>∃ i,x=.int i∧Q (some i) H1
section
variable {X:Cx} {e:Expr} {te:TE} {lo hi:Option Expr} {tl th:TO} {pos p2:Pos}
theorem zL:PO X none jt:=by
 intro pins s σ H Q I h
 rw [evalPart_none]
 exact wpAny_pure ⟨none,H,I,.none,h⟩
theorem zM (h:PE X e te):PO X (some e) (gn te):=by
 intro pins s σ H Q I hw
 rw [evalPart_some]
 refine thn (h pins s σ H _ I hw) fun u s1 ⟨x,H1,I1,r1,q1⟩=>?_
 obtain ⟨i,rfl,q⟩:=q1
 obtain ⟨t,rfl⟩:=r1
 exact ⟨some i,H1,I1,.int i t,q⟩
def SlR (X:Cx) (r:V→Option Int→Option Int→Hp→VK→Prop):Prop:=
 ∀ (pins:List (Addr×Obj)) (s:Shared) (σ:St) (H:Hp) (x:V) (v vl vu:Value) (lo hi:Option Int) (sl:Addr) (Q:VK),Inv X pins σ H s→aW x v→s.heap.IsSliceOf sl vl vu .none→IsPart vl lo→IsPart vu hi→r x lo hi H Q→
  ∃ T id,typeLookup (.type T) "__getitem__" =pure (some (.builtin id))∧s.TypeIs v T∧wpAny (model X.prog X.w) X.A (getItem v (.ref sl)) (EP X pins σ Q) X.xe s
theorem SlR.or {r r':V→Option Int→Option Int→Hp→VK→Prop} (h:SlR X r) (h':SlR X r'):SlR X (fun x lo hi H Q=>r x lo hi H Q∨r' x lo hi H Q):=by
 intro pins s σ H x v vl vu lo hi sl Q I rx hs pl pu q
 rcases q with q | q
 · exact h pins s σ H x v vl vu lo hi sl Q I rx hs pl pu q
 · exact h' pins s σ H x v vl vu lo hi sl Q I rx hs pl pu q
def tSl (r:V→Option Int→Option Int→Hp→VK→Prop) (te:TE) (tl th:TO):TE:=fun σ H Q=>te σ H fun x H1=>tl σ H1 fun l H2=>th σ H2 fun u H3=>r x l u H3 Q
theorem vA {r:V→Option Int→Option Int→Hp→VK→Prop} (hr:SlR X r) (he:PE X e te) (hl:PO X lo tl) (hu:PO X hi th):PE X (.Subscript e (.Slice lo hi none p2) pos) (tSl r te tl th):=by
 intro pins s σ H Q I h
 refine Subscript_ (thn (he pins s σ H _ I h) fun v s1 ⟨x,H1,I1,r1,q1⟩=>?_)
 refine wpAny_Slice (thn (hl pins s1 σ H1 _ I1 q1) fun vl s2 ⟨l,H2,I2,pl,q2⟩=>thn (hu pins s2 σ H2 _ I2 q2) fun vu s3 ⟨u,H3,I3,pu,q3⟩=>?_)
 rw [evalPart_none]
 refine wpAny_pure ?_
 have I4:Inv X pins σ H3 { s3 with heap:=s3.heap.push { cls:=.type "slice",data:=.fields #[vl,vu,.none] } }:=I3.kept (t':=s3.toks) fun b ob q=>Heap.get?_push_of_some _ q
 obtain ⟨T,id,hT,ht,hg⟩:=hr pins { s3 with heap:=s3.heap.push { cls:=.type "slice",data:=.fields #[vl,vu,.none] } } σ H3 x v vl vu l u s3.heap.objs.size Q I4 r1 (Heap.IsSliceOf.new ..) pl pu q3
 show wpAny (model X.prog X.w) X.A (subscriptTail e (.Slice lo hi none p2) v (.ref s3.heap.objs.size)) (EP X pins σ Q) X.xe { s3 with heap:=s3.heap.push { cls:=.type "slice",data:=.fields #[vl,vu,.none] } }
 exact tail_any (ops:=[.ref s3.heap.objs.size,v]) ht hT hg (by with_unfolding_all rfl)
def cR (xs:List V) (lo hi:Option Int):List V:=(xs.drop (HT.sIx xs.length 0 lo)).take (HT.sIx xs.length xs.length hi - HT.sIx xs.length 0 lo)
theorem jK (xs:List V) (lo hi:Option Int):(cR xs lo hi).length≤xs.length:=by
 unfold cR
 rw [List.length_take,List.length_drop]
 omega
def Hm (K:W.Frag):V→Option Int→Option Int→Hp→VK→Prop:=fun x lo hi H Q=>∃ a xs,x=.ref a∧SqT K H a xs∧
 ¬ (HT.sIx xs.length 0 lo=0∧HT.sIx xs.length xs.length hi=xs.length)∧∀ p,H p=none→Q (.ref p) (upd H p (.tup (cR xs lo hi)))
theorem Bp:SlR X (Hm X.K):=by
 intro pins s σ H x v vl vu lo hi sl Q I rx hs pl pu h
 obtain ⟨a,xs,rfl,hx,hw,q⟩:=h
 cases rx
 obtain ⟨its,r,ht,hz⟩:=I.tuple hx
 have hlen:its.toArray.size=xs.length:=by rw [List.size_toArray];exact r.length.symm
 refine ⟨"tuple",_,PyProof.Rows.slot_tuple_getitem.lookup,ht.typeIs,?_⟩
 refine HT.jJ ht hs pl pu (by rw [hlen];exact hw) ?_ (by rw [hlen];exact hz)
 rw [hlen]
 refine ⟨.ref s.heap.objs.size,_,I.laid (t':=s.toks) (o:=.tup (cR xs lo hi)) (fun b ob q=>Heap.get?_push_of_some _ q) (Nat.le_refl _) ?_,rfl,q _ (I.hok.fresh (Nat.le_refl _))⟩
 exact ⟨Nat.le_trans (jK xs lo hi) hz,_,(r.drop (HT.sIx xs.length 0 lo)).take (HT.sIx xs.length xs.length hi - HT.sIx xs.length 0 lo),IsTup.new _ _⟩
def FX (K:W.Frag):R2:=fun x y H Q=>∃ a b xs ys,x=.ref a∧y=.ref b∧SqT K H a xs∧SqT K H b ys∧xs≠[]∧xs.length+ys.length≤sizeLine∧
 (ys=[]→Q (.ref a) H)∧(ys≠[]→∀ p,H p=none→Q (.ref p) (upd H p (.tup (xs++ys))))
theorem aX.nil_iff {xs:List V} {us:List Value} (r:aX xs us):us=[]↔xs=[]:=by
 cases r with
 | nil=>simp
 | cons _ _=>simp
theorem yS:OpR X (binaryOp .Add) (FX X.K):=by
 intro pins s σ H x y v u Q I rx ry h
 obtain ⟨a,b,xs,ys,rfl,rfl,ha,hb,hx,hz,q1,q2⟩:=h
 cases rx
 cases ry
 obtain ⟨its,r1,p1,_⟩:=I.tuple ha
 obtain ⟨its2,r2,p2,_⟩:=I.tuple hb
 refine HT.yW p1 p2 (fun z=>hx (r1.nil_iff.mp z)) (fun z=>⟨.ref a,H,I,rfl,q1 (r2.nil_iff.mp z)⟩) (fun z=>?_) (by rw [← r1.length,←r2.length];exact hz)
 refine ⟨.ref s.heap.objs.size,_,I.laid (t':=s.toks) (o:=.tup (xs++ys)) (fun b ob q=>Heap.get?_push_of_some _ q) (Nat.le_refl _) ?_,rfl,q2 (fun w=>z (r2.nil_iff.mpr w)) _ (I.hok.fresh (Nat.le_refl _))⟩
 exact ⟨by rw [List.length_append];exact hz,_,r1.append r2,IsTup.new _ _⟩
end
end L2
namespace L2
open PySem PySem.Spec PyProof.Rows
def ixN (n:Nat) (i:Int):Option Nat:=if 0≤i then (if i<n then some i.toNat else none) else if -(n:Int)≤i then some (i+n).toNat else none
def atI {α:Type} (xs:List α) (i:Int):Option α:=(ixN xs.length i).bind fun j=>xs[j]?
theorem qA {n:Nat} {i:Int} {j:Nat} (h:ixN n i=some j):seqIndex? i n=some j∧j<n∧ -(n:Int)≤i∧i<n:=by
 unfold ixN at h
 by_cases h0:0≤i
 · rw [if_pos h0] at h
   by_cases h1:i<n
   · rw [if_pos h1] at h
     have e:i.toNat=j:=Option.some.inj h
     exact ⟨by rw [seqIndex_of h0 h1,e],by omega,by omega,h1⟩
   · rw [if_neg h1] at h;cases h
 · rw [if_neg h0] at h
   by_cases h1: -(n:Int)≤i
   · rw [if_pos h1] at h
     have e:(i+n).toNat=j:=Option.some.inj h
     exact ⟨by rw [seqIndex_neg (by omega) h1,e],by omega,h1,by omega⟩
   · rw [if_neg h1] at h;cases h
theorem fO {α : Type} {xs : List α} {i : Int} {v : α} (h : atI xs i = some v) : ∃ j, seqIndex? i xs.length = some j ∧ xs[j]? = some v ∧ j < xs.length ∧ -(xs.length : Int) ≤ i ∧ i < xs.length := by
  unfold atI at h
  cases e : ixN xs.length i with
  | none => rw [e] at h; cases h
  | some j =>
    rw [e] at h
    obtain ⟨h1, h2, h3, h4⟩ := qA e
    exact ⟨j, h1, h, h2, h3, h4⟩
theorem pF {α:Type} (xs:List α) (v:α):atI (xs++[v]) (-1)=some v:=by
 have hl:(xs++[v]).length=xs.length+1:=by simp
 have e:ixN (xs++[v]).length (-1)=some xs.length:=by
  unfold ixN
  rw [hl,if_neg (by decide),if_pos (by omega)]
  congr 1
  omega
 unfold atI
 rw [e]
 show (xs++[v])[xs.length]?=some v
 simp
def qG (b:Expr):Prop:=∀ o i,subscripted b false o i=operate [o,i] (getItem o i)
def IxR (X:Cx) (r:R2):Prop:=
 ∀ (value slice:Expr) (pins:List (Addr×Obj)) (s:Shared) (σ:St) (H:Hp) (x y:V) (v u:Value) (Q:VK),Inv X pins σ H s→aW x v→aW y u→r x y H Q→
  subscripted slice false v u=operate [v,u] (getItem v u)→wpAny (model X.prog X.w) X.A (subscriptTail value slice v u) (EP X pins σ Q) X.xe s
def MtR (X:Cx) (id:String) (r:V→List V→Hp→VK→Prop):Prop:=
 ∀ (pins:List (Addr×Obj)) (s:Shared) (σ:St) (H:Hp) (x:V) (xs:List V) (v:Value) (us:List Value) (Q:VK),Inv X pins σ H s→aW x v→aX xs us→r x xs H Q→
  wpAny (model X.prog X.w) X.A (call (.builtin id) (v::us)) (EP X pins σ Q) X.xe s
section
variable {X:Cx} {a b:Expr} {ta tb:TE} {pos:Pos}
theorem IxR.or {r r':R2} (h:IxR X r) (h':IxR X r'):IxR X (fun x y H Q=>r x y H Q∨r' x y H Q):=by
 intro value slice pins s σ H x y v u Q I rx ry q hs
 rcases q with q | q
 · exact h value slice pins s σ H x y v u Q I rx ry q hs
 · exact h' value slice pins s σ H x y v u Q I rx ry q hs
theorem Ek {r:R2} (hr:IxR X r) (ha:PE X a ta) (hb:PE X b tb) (hs:qG b):PE X (.Subscript a b pos) (tOp r ta tb):=by
 intro pins s σ H Q I h
 exact Subscript_ (xI ha hb I h fun v u s2 x y H2 I2 rx ry q=>hr a b pins s2 σ H2 x y v u Q I2 rx ry q (hs _ _))
def Ag (K:W.Frag):R2:=fun x y H Q=>∃ p xs i v,x=.ref p∧y=.int i∧SqL K H p xs∧atI xs i=some v∧Q v H
def Aa (K:W.Frag):R2:=fun x y H Q=>∃ p xs i v,x=.ref p∧y=.int i∧SqT K H p xs∧atI xs i=some v∧Q v H
def zV:R2:=fun x y H Q=>∃ z i c,x=.str z∧y=.int i∧z.length≤sizeLine∧atI z.cps.toList i=some c∧Q (.str ⟨#[c]⟩) H
theorem zB:IxR X (Ag X.K):=by
 intro value slice pins s σ H x y v u Q I rx ry h hs
 obtain ⟨p,xs,i,z,rfl,rfl,hq,he,q⟩:=h
 cases rx
 obtain ⟨t,rfl⟩:=ry
 obtain ⟨its,r,pl,hz⟩:=I.list hq
 obtain ⟨j,h1,h2,h3,h4,h5⟩:=fO he
 obtain ⟨w,ew,rw'⟩:=r.get h2
 have hl:=r.length
 have hn:=gM
 have fin:EP X pins σ Q w s:=⟨z,H,I,rw',q⟩
 by_cases h0:0≤i
 · have hj:i.toNat=j:=by
    rw [seqIndex_of h0 h5] at h1
    exact Option.some.inj h1
   exact item_listR pl.isList h0 (by omega) (by rw [hj];simpa using ew) fin hs
 · have hj:(i+(its.toArray.size:Int)).toNat=j:=by
    rw [seqIndex_neg (by omega) h4] at h1
    rw [List.size_toArray,←hl]
    exact Option.some.inj h1
   exact subscriptTail_builtinR (x:=w) pl.isList.typeIs slot_list_getitem.lookup
    (wpAny_getItem_list_neg (Q:=fun r s'=>r=w∧EP X pins σ Q r s') pl.isList (by omega) (by rw [List.size_toArray] <;> omega) (by omega) (by rw [hj];simpa using ew) ⟨rfl,fin⟩) hs
theorem AK:IxR X (Aa X.K):=by
 intro value slice pins s σ H x y v u Q I rx ry h hs
 obtain ⟨p,xs,i,z,rfl,rfl,hq,he,q⟩:=h
 cases rx
 obtain ⟨t,rfl⟩:=ry
 obtain ⟨its,r,pl,hz⟩:=I.tuple hq
 obtain ⟨j,h1,h2,h3,h4,h5⟩:=fO he
 obtain ⟨w,ew,rw'⟩:=r.get h2
 have hl:=r.length
 have hn:=gM
 have fin:EP X pins σ Q w s:=⟨z,H,I,rw',q⟩
 exact subscriptTail_builtinR (x:=w) pl.typeIs slot_tuple_getitem.lookup
  (getItem_tuple (j:=j) (Q:=fun r s'=>r=w∧EP X pins σ Q r s') pl (by omega) (by omega) (by rw [List.size_toArray,←hl];exact h1) (by simpa using ew) ⟨rfl,fin⟩) hs
theorem zU:IxR X zV:=by
 intro value slice pins s σ H x y v u Q I rx ry h hs
 obtain ⟨z,i,c,rfl,rfl,hz,he,q⟩:=h
 obtain ⟨t,rfl⟩:=rx
 obtain ⟨t',rfl⟩:=ry
 obtain ⟨j,h1,h2,h3,h4,h5⟩:=fO he
 have hl:z.cps.toList.length=z.length:=by simp [Str.length]
 rw [hl] at h1 h4 h5
 have hn:=gM
 exact tail_any (typeIs_str s z t) slot_str_getitem.lookup (getItem_str (c:=c) (by
  have e1:decide (i< -(2^63:Int))=false:=decide_eq_false (by omega)
  have e2:decide (i≥2^63)=false:=decide_eq_false (by omega)
  rw [e1,e2,Bool.or_false]) (by rw [h1];simpa using h2) ⟨.str ⟨#[c]⟩,H,I.tok _,⟨_,rfl⟩,q⟩) hs
def rIx (K:W.Frag):R2:=fun x y H Q=>Ag K x y H Q∨Aa K x y H Q∨zV x y H Q
theorem Cq:IxR X (rIx X.K):=zB.or (AK.or zU)
theorem tz (its:List Value) (n j:Nat) (u:Value):Obj.mapSeq (·.setIfInBounds j u) { cls:=.type "list",data:=.seq its.toArray n }={ cls:=.type "list",data:=.seq (its.set j u).toArray n }:=by
 simp [Obj.mapSeq]
theorem Inv.lst {pins:List (Addr×Obj)} {σ:St} {H:Hp} {s:Shared} {p:Addr} {xs:List V} (I:Inv X pins σ H s) (h:H p=some (.lst xs)):
  ∃ (its:List Value) (n:Nat),aX xs its∧s.heap.get? p=some { cls:=.type "list",data:=.seq its.toArray n }∧xs.length≤sizeLine:=by
 obtain ⟨z,its,n,r,e⟩:=I.hok p _ h
 exact ⟨its,n,r,e,z⟩
theorem Inv.lstUpd {pins:List (Addr×Obj)} {σ:St} {H:Hp} {s:Shared} {p:Addr} {xs ys:List V} {its its':List Value} {n n':Nat} {f:Obj→Obj} (I:Inv X pins σ H s) (h:H p=some (.lst xs))
  (ho:s.heap.get? p=some { cls:=.type "list",data:=.seq its.toArray n }) (hf:f { cls:=.type "list",data:=.seq its.toArray n }={ cls:=.type "list",data:=.seq its'.toArray n' }) (r:aX ys its') (hz:ys.length≤sizeLine) (t:Nat):
  Inv X pins σ (upd H p (.lst ys)) { s with heap:=s.heap.update p f,toks:=t }:=by
 have e:(s.heap.update p f).get? p=some { cls:=.type "list",data:=.seq its'.toArray n' }:=by
  rw [Heap.get?_update_self f ho (by rw [hf] <;> rfl),hf]
 refine I.write (x:=p) (e:=p) (by rw [h];trivial) (.inl rfl) (fun b u hb q=>(Heap.get?_update_other _ _ (Ne.symm hb)).trans q) ⟨_,e⟩ ?_
 exact ⟨hz,its',n',r,e⟩
def yw:V→V→V→Hp→(Hp→Prop)→Prop:=fun o i v H Q=>∃ p xs k j,o=.ref p∧i=.int k∧H p=some (.lst xs)∧ixN xs.length k=some j∧Q (upd H p (.lst (xs.set j v)))
theorem wl:rk X yw:=by
 intro pins s σ H o i v ov iv u Q I ro ri rv h
 obtain ⟨p,xs,k,j,rfl,rfl,hp,hj,q⟩:=h
 cases ro
 obtain ⟨t,rfl⟩:=ri
 obtain ⟨its,n,r,ho,hz⟩:=I.lst hp
 obtain ⟨h1,h2,h3,h4⟩:=qA hj
 have hl:=r.length
 have hn:=gM
 have I':Inv X pins σ (upd H p (.lst (xs.set j v))) { s with heap:=s.heap.update p (Obj.mapSeq (·.setIfInBounds j u)) }:=
   I.lstUpd hp ho (tz its n j u) (r.set rv j) (by rw [List.length_set];exact hz) s.toks
 by_cases h0:0≤k
 · have hk:k.toNat=j:=by
    rw [seqIndex_of h0 h4] at h1
    exact Option.some.inj h1
   exact W.ki_setAt ho h0 (by omega) (by rw [List.size_toArray,←hl];exact h4) (by rw [hk];exact ⟨_,I',q⟩)
 · have hk:(k+(its.toArray.size:Int)).toNat=j:=by
    rw [seqIndex_neg (by omega) h3] at h1
    rw [List.size_toArray,←hl]
    exact Option.some.inj h1
   exact W.ki_setBack ho (by omega) (by rw [List.size_toArray,←hl];exact h3) (by omega) (by rw [hk];exact ⟨_,I',q⟩)
theorem oJ (lo hi : Option Int) (n : Nat) : (sliceBounds lo hi none n).1 = ((HT.sIx n 0 lo : Nat) : Int) ∧ (sliceBounds lo hi none n).2.1 = ((HT.sIx n n hi : Nat) : Int) ∧ (sliceBounds lo hi none n).2.2 = 1 := by
  refine ⟨?_, ?_, rfl⟩
  · cases lo with
    | none => simp [sliceBounds, HT.sIx]
    | some i =>
      simp only [sliceBounds, HT.sIx, Option.getD_none, show (1 : Int) > 0 by decide, if_true]
      by_cases h : i < 0
      · simp only [h, if_true] <;> omega
      · simp only [h, if_false] <;> omega
  · cases hi with
    | none => simp [sliceBounds, HT.sIx]
    | some i =>
      simp only [sliceBounds, HT.sIx, Option.getD_none, show (1 : Int) > 0 by decide, if_true]
      by_cases h : i < 0
      · simp only [h, if_true] <;> omega
      · simp only [h, if_false] <;> omega
theorem mT (its:List Value) (lo hi:Option Int):slicePick its.toArray lo hi none=((its.drop (HT.sIx its.length 0 lo)).take (HT.sIx its.length its.length hi - HT.sIx its.length 0 lo)).toArray:=by
 obtain ⟨h1,h2,h3⟩:=oJ lo hi its.toArray.size
 unfold slicePick
 rw [h1,h2,h3]
 simp only [sliceRange_one,pick_run,List.size_toArray] <;> rfl
def Bi (K:W.Frag):V→Option Int→Option Int→Hp→VK→Prop:=fun x lo hi H Q=>∃ a xs,x=.ref a∧SqL K H a xs∧∀ p,H p=none→Q (.ref p) (upd H p (.lst (cR xs lo hi)))
theorem zv:SlR X (Bi X.K):=by
 intro pins s σ H x v vl vu lo hi sl Q I rx hs pl pu h
 obtain ⟨a,xs,rfl,hx,q⟩:=h
 cases rx
 obtain ⟨its,r,ht,hz⟩:=I.list hx
 have hlen:=r.length
 refine ⟨"list",_,slot_list_getitem.lookup,ht.isList.typeIs,?_⟩
 refine wpAny_getItem_list_slice ht.isList hs pl pu .none (by simp) ?_ (by rw [List.size_toArray] <;> omega)
 rw [mT,←hlen]
 refine ⟨.ref s.heap.objs.size,_,I.laid (t':=s.toks) (o:=.lst (cR xs lo hi)) (fun b ob q=>Heap.get?_push_of_some _ q) (Nat.le_refl _) ?_,rfl,q _ (I.hok.fresh (Nat.le_refl _))⟩
 exact ⟨Nat.le_trans (jK xs lo hi) hz,_,0,(r.drop (HT.sIx xs.length 0 lo)).take (HT.sIx xs.length xs.length hi - HT.sIx xs.length 0 lo),Heap.get?_push_size _ rfl⟩
theorem bG.or {f:Value} {r r':List V→Hp→VK→Prop} (h:bG X f r) (h':bG X f r'):bG X f (fun xs H Q=>r xs H Q∨r' xs H Q):=by
 intro pins s σ H xs us Q I rs q
 rcases q with q | q
 · exact h pins s σ H xs us Q I rs q
 · exact h' pins s σ H xs us Q I rs q
theorem mM:bG X (.type "tuple") (fun xs H Q=>∃ p ys,xs=[.ref p]∧((SqL X.K H p ys∧∀ l,H l=none→Q (.ref l) (upd H l (.tup ys)))∨(SqT X.K H p ys∧Q (.ref p) H))):=by
 intro pins s σ H xs us Q I r h
 obtain ⟨p,ys,rfl,h⟩:=h
 obtain ⟨u,rfl,rx⟩:=fk r
 cases rx
 rcases h with ⟨hq,q⟩ | ⟨hq,q⟩
 · obtain ⟨its,r',pl,hz⟩:=I.list hq
   have hlen:=r'.length
   refine call_tuple_list pl.isList (fun h' kp=>?_) (by simp only [List.size_toArray] <;> omega)
   have I1:Inv X pins σ H { s with heap:=h' }:=I.kept (t':=s.toks) kp
   have I2:Inv X pins σ (upd H h'.objs.size (.tup ys)) { s with heap:=h'.push { cls:=.type "tuple",data:=.seq its.toArray } }:=
    I1.laid (t':=s.toks) (fun b o e=>Heap.get?_push_of_some _ e) (Nat.le_refl _) (show bc X.prog X.w _ _ _ (.tup ys) from ⟨hz,its,r',IsTup.new _ _⟩)
   exact ⟨.ref h'.objs.size,_,I2,rfl,q _ (I1.hok.fresh (Nat.le_refl _))⟩
 · obtain ⟨its,r',pl,hz⟩:=I.tuple hq
   exact call_tuple_same pl ⟨.ref p,H,I,rfl,q⟩
def tyV (K:W.Frag) (T:String) (x:V) (H:Hp):Prop:=match x with
 | .str _=>T= "str"
 | .int _=>T= "int"
 | .ref p=>(T= "list" ∧∃ xs,SqL K H p xs)∨(T= "tuple" ∧∃ o,K.lookup p=some o∧o.cls=.type "tuple" ∧o.dict=none)∨
  (T= "dict" ∧((∃ kvs,H p=some (.dK kvs))∨∃ kvs,H p=some (.dT kvs)))∨(T= "set" ∧∃ S n,H p=some (.set S n))
 | _=>False
theorem BE {pins : List (Addr × Obj)} {σ : St} {H : Hp} {s : Shared} {T : String} {x : V} {v : Value} (I : Inv X pins σ H s) (r : aW x v) (ty : tyV X.K T x H) :
    s.TypeIs v T ∧ ∀ a, v = .ref a → ∃ ob, s.heap.get? a = some ob ∧ ob.dict = none := by
  cases x with
  | str z =>
    obtain ⟨t, rfl⟩ := r
    cases (show T = "str" from ty)
    exact ⟨typeIs_str s z t, fun _ e => nomatch e⟩
  | int i =>
    obtain ⟨t, rfl⟩ := r
    cases (show T = "int" from ty)
    exact ⟨typeIs_int s i t, fun _ e => nomatch e⟩
  | ref p =>
    cases r
    rcases ty with ⟨rfl, xs, hq⟩ | ⟨rfl, o, hk, hc, hd⟩ | ⟨rfl, hk⟩ | ⟨rfl, S, n, hk⟩
    · obtain ⟨its, _, pl, _⟩ := I.list hq
      refine ⟨pl.isList.typeIs, fun a e => ?_⟩
      cases e
      obtain ⟨o, n, e, c, hd, _⟩ := pl
      exact ⟨o, e, hd⟩
    · refine ⟨⟨o, I.kIn p o hk, hc⟩, fun a e => ?_⟩
      cases e
      exact ⟨o, I.kIn _ o hk, hd⟩
    · have z : ∃ o, s.heap.get? p = some o ∧ o.ExactDict := by
        rcases hk with ⟨kvs, hk⟩ | ⟨kvs, hk⟩
        · obtain ⟨_, _, _, _, o, _, _, e, ex, _⟩ := I.hok p _ hk
          exact ⟨o, e, ex⟩
        · obtain ⟨_, _, _, _, o, _, _, e, ex, _⟩ := I.hok p _ hk
          exact ⟨o, e, ex⟩
      obtain ⟨o, e, ex⟩ := z
      refine ⟨⟨o, e, ex.1⟩, fun a e2 => ?_⟩
      cases e2
      exact ⟨o, e, ex.2.1⟩
    · obtain ⟨o, _, _, _, e, ex, _⟩ := I.hok p _ hk
      refine ⟨⟨o, e, ex.1⟩, fun a e2 => ?_⟩
      cases e2
      exact ⟨o, e, ex.2.1⟩
  | _ => exact False.elim ty
def tBM (K:W.Frag) (T:String) (r:V→List V→Hp→VK→Prop) (to:TE) (t:TA):TE:=fun σ H Q=>to σ H fun x H1=>tyV K T x H1∧t σ H1 fun xs H2=>r x xs H2 Q
variable {o e:Expr} {es:List Expr} {to:TE} {t:TA} {name:Str} {apos cpos:Pos} {T id:String} {r:V→List V→Hp→VK→Prop}
theorem Fy (pa : PlainAttrs T) (slot : Slot T name id) (hty : typeOf (.builtin id) = pure (.type "method_descriptor")) (hm : MtR X id r) (ho : PE X o to) (ha : PA X (e :: es) t)
  (hbase : attributeBase o name X.env (eval o X.env) = eval o X.env := by rfl)
  (hfew : ((backTo cpos (starEach (e :: es) X.env)).all (fun x => !x.1) && (backToKw cpos (keywordEach [] X.env)).all (fun x => x.1.isSome)
   && decide ((e :: es).length + ([] : List Keyword).length + (if ([] : List Keyword).isEmpty then 0 else 1) < 30)) = true := by rfl)
  (hline : (apos.endLine == cpos.line) = true := by rfl) (hs : starEach (e :: es) X.env = (false, eval e X.env) :: starEach es X.env := by rfl) (hplain : (backTo cpos (starEach es X.env)).any (·.1) = false := by rfl) :
  PE X (.Call (.Attribute o name apos) (e :: es) [] cpos) (tBM X.K T r to t) := by
 intro pins s σ H Q I h
 refine wpAny_Call_method_late hbase hfew hline rfl (thn (ho pins s σ H _ I h) fun v s1 ⟨x, H1, I1, r1, ty, q1⟩ => ?_)
 obtain ⟨h1, h2⟩ := BE I1 r1 ty
 refine ⟨T, id, pa, slot, hty, h1, h2, ?_⟩
 have hA := ha cpos pins s1 σ H1 _ I1 q1
 rw [hs] at hA ⊢
 refine Calls.callWith_builtin (by show (false || (backTo cpos (starEach es X.env)).any (·.1)) = false; rw [hplain] <;> rfl) (Calls.evalArgs_plain ?_)
 exact thn hA fun us s2 ⟨vs, H2, I2, r2, q2⟩ => hm pins s2 σ H2 x vs v us Q I2 r1 r2 q2
end
end L2
namespace L2
open PySem PySem.Spec PyProof.Rows
def MtM (X:Cx) (id:String) (r:V→List V→Hp→VK→Prop):Prop:=
 ∀ (pins:List (Addr×Obj)) (s:Shared) (σ:St) (H:Hp) (x:V) (xs:List V) (v:Value) (us:List Value) (Q:VK),Inv X pins σ H s→aW x v→aX xs us→r x xs H Q→
  wpAny (model X.prog X.w) X.A (call (.builtin id) (v::us)) (EP X pins σ Q) X.xe s
theorem aX.one:∀ {x:V} {us:List Value},aX [x] us→∃ u,us=[u]∧aW x u
 | _,_,.cons r .nil=>⟨_,rfl,r⟩
theorem aX.rep {xs : List V} {us : List Value} (h : aX xs us) : ∀ k : Nat, aX (List.replicate k xs).flatten (List.replicate k us).flatten
  | 0 => .nil
  | k + 1 => by
    rw [List.replicate_succ, List.replicate_succ, List.flatten_cons, List.flatten_cons]
    exact aX.append h (aX.rep h k)
theorem mn (its : List Value) : ∀ (k : Nat) (acc : List Value),
    List.foldl (fun x1 x2 => x1 ++ x2) acc.toArray (List.replicate k its.toArray) = (acc ++ (List.replicate k its).flatten).toArray
  | 0, acc => by simp
  | k + 1, acc => by
    have e : acc.toArray ++ its.toArray = (acc ++ its).toArray := by simp
    have e2 : (acc ++ its) ++ (List.replicate k its).flatten = acc ++ (List.replicate (k + 1) its).flatten := by
      rw [List.replicate_succ, List.flatten_cons, List.append_assoc]
    rw [← e2, ← mn its k (acc ++ its), ← e, List.replicate_succ, List.foldl_cons]
section
variable {X:Cx} {pins:List (Addr×Obj)} {σ:St} {H:Hp} {s:Shared} {l b:Addr} {xs ys zs:List V}
theorem Inv.lset {its its':List Value} {n:Nat} {f:Array Value→Array Value} {t':Nat} (I:Inv X pins σ H s) (hH:H l=some (.lst xs))
  (e:s.heap.get? l=some { cls:=.type "list",data:=.seq its.toArray n }) (hf:f its.toArray=its'.toArray) (hv:aX ys its') (hz:ys.length≤sizeLine):
  Inv X pins σ (upd H l (.lst ys)) { s with heap:=s.heap.update l (Obj.mapSeq f),toks:=t' }:=by
 have q:=PySem.IsL.update e f
 rw [hf] at q
 refine I.write (x:=l) (e:=l) (by rw [hH];exact trivial) (.inl rfl) (fun b' u hb hu=>(Heap.get?_update_other s.heap (Obj.mapSeq f) (Ne.symm hb)).trans hu) ⟨_,q⟩ ?_
 exact ⟨hz,its',_,hv,q⟩
theorem Inv.lnew {its:List Value} {t':Nat} (I:Inv X pins σ H s) (hv:aX ys its) (hz:ys.length≤sizeLine):
  Inv X pins σ (upd H s.heap.objs.size (.lst ys)) { s with heap:=s.heap.push { cls:=.type "list",data:=.seq its.toArray },toks:=t' }:=
 I.laid (fun _ _ q=>Heap.get?_push_of_some _ q) (Nat.le_refl _) ⟨hz,its,0,hv,Heap.get?_push_size _ rfl⟩
theorem Inv.fresh (I:Inv X pins σ H s):H s.heap.objs.size=none:=I.hok.fresh (Nat.le_refl _)
theorem Inv.lstM (I:Inv X pins σ H s) (hH:H l=some (.lst xs)):xs.length≤sizeLine∧∃ (its:List Value) (n:Nat),aX xs its∧xs.length=its.length∧s.heap.get? l=some { cls:=.type "list",data:=.seq its.toArray n }:=by
 obtain ⟨z,its,n,r,e⟩:=I.hok l _ hH
 exact ⟨z,its,n,r,r.length,e⟩
end
section
variable {X:Cx}
def fR:V→List V→Hp→VK→Prop:=fun x vs H Q=>∃ l xs y,x=.ref l∧vs=[y]∧H l=some (.lst xs)∧xs.length<sizeLine∧Q .non (upd H l (.lst (xs++[y])))
theorem eK:MtM X "list.append" fR:=by
 intro pins s σ H x vs v us Q I rx rv h
 obtain ⟨l,xs,y,rfl,rfl,hH,hz,q⟩:=h
 cases rx
 obtain ⟨u,rfl,ru⟩:=rv.one
 obtain ⟨z,its,n,r,hl,e⟩:=I.lstM hH
 refine call_meets F.slot_list_append ⟨_,e,rfl⟩ F.entry_list_append (F.args_list_append_2 _ _) (PySem.list_append l its.toArray n u (by rw [List.size_toArray];omega)) ⟨e,?_⟩
 refine ⟨.non,_,I.lset (its':=its++[u]) hH e (by simp) (r.append (.cons ru .nil)) ?_,rfl,q⟩
 rw [List.length_append,List.length_singleton]
 omega
def Bf:R2:=fun x y H Q=>∃ l b xs zs,x=.ref l∧y=.ref b∧H l=some (.lst xs)∧H b=some (.lst zs)∧xs.length+zs.length≤sizeLine∧∀ p,H p=none→Q (.ref p) (upd H p (.lst (xs++zs)))
theorem By:OpR X (binaryOp .Add) Bf:=by
 intro pins s σ H x y v u Q I rx ry h
 obtain ⟨l,b,xs,zs,rfl,rfl,hH,hB,hz,q⟩:=h
 cases rx
 cases ry
 obtain ⟨z,its,n,r,hl,e⟩:=I.lstM hH
 obtain ⟨z2,its2,n2,r2,hl2,e2⟩:=I.lstM hB
 refine PySem.P.add_list e e2 ?_ (by rw [List.size_toArray,List.size_toArray];omega)
 have ea:its.toArray++its2.toArray=(its++its2).toArray:=by simp
 rw [ea]
 exact ⟨.ref _,_,I.lnew (t':=s.toks) (r.append r2) (by rw [List.length_append];omega),rfl,q _ I.fresh⟩
theorem qu {α:Type} (xs:List α) (k:Nat):(List.replicate k xs).flatten.length=k*xs.length:=by
 induction k with
 | zero=>simp
 | succ k ih=>rw [List.replicate_succ,List.flatten_cons,List.length_append,ih,Nat.succ_mul,Nat.add_comm]
end
section
variable {prog:Program} {w:World} {A:Around} {E:Value→Shared→Prop} {s:Shared}
set_option maxRecDepth 100000 in
end
section
variable {X:Cx}
end
end L2
namespace L2
open PySem PySem.Spec PyProof.Rows
section
variable {κ:Type} [DecidableEq κ]
def bX (kvs:List (κ×V)) (k:κ):Option V:=(kvs.find? fun kv=>decide (kv.1=k)).map (·.2)
def cM (kvs:List (κ×V)) (k:κ) (v:V):List (κ×V):=
 if (kvs.any fun kv=>decide (kv.1=k))=true then kvs.map (fun kv=>if kv.1=k then (kv.1,v) else kv) else kvs++[(k,v)]
theorem cK {p:κ×V} {r:List (κ×V)} {k:κ} (e:p.1=k):bX (p::r) k=some p.2:=by simp [bX,List.find?_cons,e]
theorem cL {p:κ×V} {r:List (κ×V)} {k:κ} (e:¬ p.1=k):bX (p::r) k=bX r k:=by simp [bX,List.find?_cons,e]
theorem gg (k : κ) : ∀ kvs : List (κ × V), (kvs.any fun kv => decide (kv.1 = k)) = (bX kvs k).isSome
  | [] => rfl
  | p :: r => by
    rw [List.any_cons]
    by_cases e : p.1 = k
    · simp only [cK e, decide_eq_true e, Bool.true_or, Option.isSome_some]
    · rw [cL e, decide_eq_false e, Bool.false_or]; exact gg k r
theorem pN (k j : κ) (y : V) : ∀ kvs : List (κ × V), bX (kvs.map fun kv => if kv.1 = k then (kv.1, y) else kv) j = (bX kvs j).map fun x => if j = k then y else x
  | [] => rfl
  | p :: r => by
    have ih := pN k j y r
    rw [List.map_cons]
    by_cases h : p.1 = k
    · rw [if_pos h]
      by_cases e : p.1 = j
      · rw [cK (p := (p.1, y)) e, cK e, Option.map_some, if_pos (e.symm.trans h)]
      · rw [cL (p := (p.1, y)) e, cL e, ih]
    · rw [if_neg h]
      by_cases e : p.1 = j
      · rw [cK (p := p) e, cK e, Option.map_some, if_neg (fun z => h (e.trans z))]
      · rw [cL (p := p) e, cL e, ih]
theorem mI (k j : κ) (y : V) : ∀ kvs : List (κ × V), bX kvs k = none → bX (kvs ++ [(k, y)]) j = if j = k then some y else bX kvs j
  | [], _ => by
    by_cases e : k = j
    · rw [if_pos e.symm]; exact cK (p := (k, y)) e
    · rw [if_neg (fun z => e z.symm)]; exact cL (p := (k, y)) e
  | p :: r, hn => by
    rw [List.cons_append]
    have hk : ¬ p.1 = k := fun z => by rw [cK z] at hn; cases hn
    rw [cL hk] at hn
    have ih := mI k j y r hn
    by_cases e : p.1 = j
    · rw [cK e, cK e, if_neg (fun z => hk (e.trans z))]
    · rw [cL e, cL e, ih]
theorem wJ (kvs:List (κ×V)) (k j:κ) (y:V):bX (cM kvs k y) j=if j=k then some y else bX kvs j:=by
 unfold cM
 by_cases a:(kvs.any fun kv=>decide (kv.1=k))=true
 · rw [if_pos a,pN]
   rw [gg] at a
   by_cases e:j=k
   · obtain ⟨x,hx⟩:=Option.isSome_iff_exists.mp a
     rw [if_pos e,e,hx,Option.map_some,if_pos rfl]
   · rw [if_neg e]
     cases bX kvs j with
     | none=>rfl
     | some x=>rw [Option.map_some,if_neg e]
 · rw [if_neg a]
   refine mI k j y kvs ?_
   rw [gg] at a
   cases q:bX kvs k with
   | none=>rfl
   | some x=>rw [q] at a;exact (a rfl).elim
theorem fi (kvs:List (κ×V)) (k:κ) (v:V):(cM kvs k v).length≤kvs.length+1:=by
 unfold cM
 split
 · rw [List.length_map];omega
 · rw [List.length_append,List.length_cons,List.length_nil];omega
theorem xA {kvs:List (κ×V)} {k:κ} (v:V) (h:bX kvs k=none):cM kvs k v=kvs++[(k,v)]:=by
 unfold cM
 rw [gg,h]
 exact if_neg (by decide)
theorem cr.isSome_eq {o : Option V} {u : Option Value} (r : cr o u) : o.isSome = u.isSome := by
  cases o with
  | none => cases u with
    | none => rfl
    | some _ => exact (show False from r).elim
  | some _ => cases u with
    | none => exact (show False from r).elim
    | some _ => rfl
theorem KV.val {kvs : List (κ × V)} {vs : List (κ × Value)} (r : KV kvs vs) (k : κ) : cr (bX kvs k) (valueAt vs k) := by
  unfold KV at r
  induction r with
  | nil => exact True.intro
  | @cons p q ps qs h t ih =>
    obtain ⟨h1, h2⟩ := h
    by_cases e : p.1 = k
    · have e' : q.1 = k := h1.symm.trans e
      have b : valueAt (q :: qs) k = some q.2 := by simp [valueAt, List.find?_cons, e']
      rw [cK e, b]; exact h2
    · have e' : ¬ q.1 = k := fun z => e (h1.trans z)
      have b : valueAt (q :: qs) k = valueAt qs k := by simp [valueAt, List.find?_cons, e']
      rw [cL e, b]; exact ih
theorem KV.any {kvs:List (κ×V)} {vs:List (κ×Value)} (r:KV kvs vs) (k:κ):(kvs.any fun kv=>decide (kv.1=k))=vs.any fun kv=>decide (kv.1=k):=by
 unfold KV at r
 induction r with
 | nil=>rfl
 | cons h t ih=>rw [List.any_cons,List.any_cons,ih,h.1]
theorem KV.repl {kvs : List (κ × V)} {vs : List (κ × Value)} (r : KV kvs vs) (k : κ) {y : V} {u : Value} (ry : aW y u) :
    KV (kvs.map fun kv => if kv.1 = k then (kv.1, y) else kv) (vs.map fun kv => if kv.1 = k then (kv.1, u) else kv) := by
  unfold KV at r ⊢
  induction r with
  | nil => exact .nil
  | @cons p q ps qs h t ih =>
    rw [List.map_cons, List.map_cons]
    refine .cons ?_ ih
    obtain ⟨h1, h2⟩ := h
    by_cases e : p.1 = k
    · rw [if_pos e, if_pos (h1.symm.trans e)]; exact ⟨h1, ry⟩
    · rw [if_neg e, if_neg (fun z => e (h1.trans z))]; exact ⟨h1, h2⟩
theorem KV.put {kvs:List (κ×V)} {vs:List (κ×Value)} (r:KV kvs vs) (k:κ) {y:V} {u:Value} (ry:aW y u):KV (cM kvs k y) (stored vs k u):=by
 unfold cM stored
 rw [r.any k]
 by_cases e:(vs.any fun kv=>decide (kv.1=k))=true
 · rw [if_pos e,if_pos e];exact r.repl k ry
 · rw [if_neg e,if_neg e];exact Paired.snoc r ⟨rfl,ry⟩
theorem KV.length {kvs:List (κ×V)} {vs:List (κ×Value)} (r:KV kvs vs):kvs.length=vs.length:=Paired.length r
end
theorem jg {P:Program} {w:World} {k:Key} {u:Value} (r:aW (kV k) u):(ci P w).is k u=true:=by
 cases k with
 | inl i=>obtain ⟨t,e⟩:=(show ∃ t,u=Value.int i t from r);subst e;exact qa P w i t
 | inr x=>obtain ⟨t,e⟩:=(show ∃ t,u=Value.str x t from r);subst e;exact qd P w x t
theorem Cd {a b : Key} (e : kV a = kV b) : a = b := by
  cases a with
  | inl i => cases b with
    | inl j => have e' : V.int i = V.int j := e; injection e' with e'; rw [e']
    | inr y => exact nomatch (show V.int i = V.str y from e)
  | inr x => cases b with
    | inl j => exact nomatch (show V.str x = V.int j from e)
    | inr y => have e' : V.str x = V.str y := e; injection e' with e'; rw [e']
theorem qC : ∀ {a b : List Key}, a.map kV = b.map kV → a = b
  | [], [], _ => rfl
  | [], _ :: _, e => by simp at e
  | _ :: _, [], e => by simp at e
  | x :: xs, y :: ys, e => by
    rw [List.map_cons, List.map_cons] at e
    injection e with e1 e2
    rw [Cd e1, qC e2]
theorem lZ {P : Program} {w : World} : ∀ {ks : List Key} {us : List Value}, aX (ks.map kV) us → ItemsAre (ci P w) ks us
  | [], _, r => by rw [List.map_nil] at r; cases r; exact .nil
  | k :: ks, _, r => by
    rw [List.map_cons] at r
    cases r with
    | cons h t => exact .cons (jg h) (lZ t)
abbrev KT (H:Hp):List (List Key×V)→List (List Key×Addr×Value)→Prop:=Paired fun p q=>p.1=q.1∧H q.2.1=some (.tup (p.1.map kV))∧aW p.2 q.2.2
theorem KT.val {H : Hp} {kvs : List (List Key × V)} {xs : List (List Key × Addr × Value)} (r : KT H kvs xs) (k : List Key) : cr (bX kvs k) ((atKey xs k).map (·.2)) := by
  induction r with
  | nil => exact True.intro
  | @cons p q ps qs h t ih =>
    obtain ⟨h1, _, h2⟩ := h
    by_cases e : p.1 = k
    · have e' : q.1 = k := h1.symm.trans e
      have b : atKey (q :: qs) k = some q.2 := by simp [atKey, List.find?_cons, e']
      rw [cK e, b]; exact h2
    · have e' : ¬ q.1 = k := fun z => e (h1.trans z)
      have b : atKey (q :: qs) k = atKey qs k := by simp [atKey, List.find?_cons, e']
      rw [cL e, b]; exact ih
theorem KT.repl {H : Hp} {kvs : List (List Key × V)} {xs : List (List Key × Addr × Value)} (r : KT H kvs xs) (k : List Key) {y : V} {u : Value} (ry : aW y u) :
    KT H (kvs.map fun kv => if kv.1 = k then (kv.1, y) else kv) (xs.map (putAt k u)) := by
  induction r with
  | nil => exact .nil
  | @cons p q ps qs h t ih =>
    rw [List.map_cons, List.map_cons]
    refine .cons ?_ ih
    obtain ⟨h1, h2, h3⟩ := h
    unfold putAt
    by_cases e : p.1 = k
    · rw [if_pos e, if_pos (h1.symm.trans e)]; exact ⟨h1, h2, ry⟩
    · rw [if_neg e, if_neg (fun z => e (h1.trans z))]; exact ⟨h1, h2, h3⟩
theorem KT.put {H:Hp} {kvs:List (List Key×V)} {xs:List (List Key×Addr×Value)} (r:KT H kvs xs) (k:List Key) {b:Addr} {y:V} {u:Value} (hb:H b=some (.tup (k.map kV))) (ry:aW y u):
   KT H (cM kvs k y) (storedH xs k b u):=by
 have e:(kvs.any fun kv=>decide (kv.1=k))=(atKey xs k).isSome:=by
   rw [gg,(r.val k).isSome_eq,Option.isSome_map]
 unfold cM storedH
 rw [e]
 by_cases q:(atKey xs k).isSome=true
 · rw [if_pos q,if_pos q];exact r.repl k ry
 · rw [if_neg q,if_neg q];exact Paired.snoc r ⟨rfl,hb,ry⟩
theorem KT.keeps {H H':Hp} {kvs:List (List Key×V)} {xs:List (List Key×Addr×Value)} (r:KT H kvs xs) (ht:∀ b ys,H b=some (.tup ys)→H' b=some (.tup ys)):KT H' kvs xs:=
 Paired.mapP r fun _ _ z=>⟨z.1,ht _ _ z.2.1,z.2.2⟩
section
variable {P:Program} {w:World} {H:Hp} {h:Heap} {a:Addr}
theorem yH {u:HO} (ok:HOk P w H h) (e:Rd H a u):bc P w H h a u:=e.ok ok
theorem je {kvs:List (Key×V)} (ok:HOk P w H h) (e:Rd H a (.dK kvs)):kvs.length≤sizeLine∧(a==sysModules)=false∧∃ vs,KV kvs vs∧h.DictOf (ci P w) a vs:=
 show bc P w H h a (.dK kvs) from yH ok e
theorem ye {kvs:List (Key×V)} (ok:HOk P w H h) (e:H a=some (.dK kvs)):kvs.length≤sizeLine∧(a==sysModules)=false∧∃ vs,KV kvs vs∧h.DictOf (ci P w) a vs:=je ok (.inl e)
theorem hG {ks:List Key} (ok:HOk P w H h) (e:H a=some (.tup (ks.map kV))):(tupleKind (ci P w)).is h ks a:=by
 obtain ⟨_,its,r,o,h1,h2,n,h3⟩:=(show bc P w H h a (.tup (ks.map kV)) from ok a _ e)
 exact ⟨o,its.toArray,n,h1,h2,h3,by simpa using lZ r⟩
theorem kB {kvs : List (List Key × V)} (ok : HOk P w H h) (e : Rd H a (.dT kvs)) : kvs.length ≤ sizeLine ∧ (a == sysModules) = false ∧
    ∃ xs, KT H kvs xs ∧ h.DictOfH (tupleKind (ci P w)) a xs := by
  obtain ⟨z, y, xs, r, o, es, ep, h1, h2, h3, h4, h5⟩ := (show bc P w H h a (.dT kvs) from yH ok e)
  refine ⟨z, y, xs, r, o, es, ep, h1, h2, h3, h4, fun x hx => ?_, h5⟩
  have all : ∀ {l : List (List Key × V)} {m : List (List Key × Addr × Value)}, KT H l m → ∀ x ∈ m, (tupleKind (ci P w)).is h x.1 x.2.1 := by
    intro l m q
    induction q with
    | nil => intro x hx; exact nomatch hx
    | @cons p q ps qs hq t ih =>
      intro x hx
      rcases List.mem_cons.mp hx with e | hx
      · subst e
        exact hG ok (by rw [← hq.1]; exact hq.2.1)
      · exact ih x hx
  exact all r x hx
theorem rq {kvs:List (List Key×V)} (ok:HOk P w H h) (e:H a=some (.dT kvs)):kvs.length≤sizeLine∧(a==sysModules)=false∧
 ∃ xs,KT H kvs xs∧h.DictOfH (tupleKind (ci P w)) a xs:=kB ok (.inl e)
end
def fz (H:Hp) (a:Addr) (y:V) (r:Option V):Prop:=
 (∃ kvs k,Rd H a (.dK kvs)∧y=kV k∧r=bX kvs k)∨∃ kvs k b,Rd H a (.dT kvs)∧y=.ref b∧H b=some (.tup (k.map kV))∧r=bX kvs k
def vq (H:Hp) (a:Addr) (y v:V) (H':Hp):Prop:=
 (∃ kvs k,H a=some (.dK kvs)∧y=kV k∧kvs.length<sizeLine∧H'=upd H a (.dK (cM kvs k v)))∨
 ∃ kvs k b,H a=some (.dT kvs)∧y=.ref b∧H b=some (.tup (k.map kV))∧kvs.length<sizeLine∧H'=upd H a (.dT (cM kvs k v))
theorem fz.t {H:Hp} {a b:Addr} {kvs:List (List Key×V)} {k:List Key} (e:H a=some (.dT kvs)) (eb:H b=some (.tup (k.map kV))):fz H a (.ref b) (bX kvs k):=.inr ⟨kvs,k,b,.inl e,rfl,eb,rfl⟩
section
variable {X:Cx} {pins:List (Addr×Obj)} {σ:St} {H:Hp} {s:Shared} {a:Addr} {y v:V} {u r:Value} {o:Option V} {A:Around} {E:Value→Shared→Prop}
theorem Inv.big (I:Inv X pins σ H s):sysModules<s.heap.objs.size:=by
 have h:mainGlobals<s.heap.objs.size:=(I.mod.glob.keeps I.bk).lt
 exact Nat.lt_trans (by decide) h
theorem tN {Q:Value→Shared→Prop} (hu:A.units+1<cLine) (I:Inv X pins σ H s) (g:fz H a y (some v)) (ry:aW y u) (h:∀ w' s',Inv X pins σ H s'→aW v w'→Q w' s'):
   wpAny (model X.prog X.w) A (getItem (.ref a) u) Q E s:=by
 rcases g with ⟨kvs,k,e,ey,l⟩ | ⟨kvs,k,b,e,ey,eb,l⟩
 · subst ey
   obtain ⟨z,hd,vs,rel,dd⟩:=je I.hok e
   obtain ⟨w',hw,rw'⟩:=cr.some_of (v:=v) (o:=valueAt vs k) (by rw [l];exact rel.val k)
   exact wpAny_getItem_of (jg ry) dd.mapOf hw (h w' _ (I.tok _) rw')
 · subst ey
   cases (show u=Value.ref b from ry)
   obtain ⟨z,hd,xs,rel,dd⟩:=kB I.hok e
   obtain ⟨w',hw,rw'⟩:=cr.some_of (v:=v) (o:=(atKey xs k).map (·.2)) (by rw [l];exact rel.val k)
   obtain ⟨p,hp,hp2⟩:=Option.map_eq_some_iff.mp hw
   refine wpAny_getItem_heap (tupleKind_room_in1 hu) (hG I.hok eb) dd hp ?_
   rw [hp2]
   exact h w' _ (I.tok _) rw'
theorem yQ {Q:Value→Shared→Prop} (hu:A.units+1<cLine) (I:Inv X pins σ H s) (g:fz H a y o) (ry:aW y u) (h:∀ s',Inv X pins σ H s'→Q (.bool (!o.isSome)) s'):
   wpAny (model X.prog X.w) A (compareOp .NotIn u (.ref a)) Q E s:=by
 rcases g with ⟨kvs,k,e,ey,l⟩ | ⟨kvs,k,b,e,ey,eb,l⟩
 · subst ey
   obtain ⟨z,hd,vs,rel,dd⟩:=je I.hok e
   refine wpAny_notIn_of (jg ry) hd dd.mapOf ?_
   rw [← (rel.val k).isSome_eq,←l]
   exact h _ (I.tok _)
 · subst ey
   cases (show u=Value.ref b from ry)
   obtain ⟨z,hd,xs,rel,dd⟩:=kB I.hok e
   refine wpAny_notIn_heap (tupleKind_room_in1 hu) (hG I.hok eb) hd dd ?_
   have q:=(rel.val k).isSome_eq
   rw [Option.isSome_map] at q
   rw [← q,←l]
   exact h _ (I.tok _)
theorem jc {h':Heap} {t':Nat} {ob:HO} (I:Inv X pins σ H s) (mu:Mut (H a)) (hs:Heap.SameBut a s.heap h') (he:∃ q,h'.get? a=some q) (new:bc X.prog X.w (upd H a ob) h' a ob):
  Inv X pins σ (upd H a ob) { s with heap:=h',toks:=t' }:=
 I.write (x:=a) (e:=a) mu (.inl rfl) (fun b q hb z=>(hs.2 b hb).trans z) he new
theorem uP {P:Program} {w:World} {H':Hp} {h':Heap} {kvs:List (Key×V)} {vs:List (Key×Value)} (z:kvs.length≤sizeLine) (hd:(a==sysModules)=false) (rel:KV kvs vs) (dd:h'.DictOf (ci P w) a vs):
 bc P w H' h' a (.dK kvs):=⟨z,hd,vs,rel,dd⟩
theorem ua {H':Hp} {Q:Unit→Shared→Prop} (hu:A.units+1<cLine) (I:Inv X pins σ H s) (g:vq H a y v H') (ry:aW y u) (rv:aW v r) (h:∀ s',Inv X pins σ H' s'→Q () s'):
   wpAny (model X.prog X.w) A (setItem (.ref a) u r) Q E s:=by
 rcases g with ⟨kvs,k,e,ey,l,eH⟩ | ⟨kvs,k,b,e,ey,eb,l,eH⟩
 · subst ey eH
   obtain ⟨z,hd,vs,rel,dd⟩:=ye I.hok e
   have hz:vs.length≤sizeLine:=by rw [← rel.length];exact z
   have hl:(cM kvs k v).length≤sizeLine:=by have:=fi kvs k v;omega
   refine wpAny_setItem_pairs (hsz:=hz) (jg ry) dd fun h' dd' hs=>h _ ?_
   have he:∃ q,h'.get? a=some q:=let ⟨q,_,_,hq,_⟩:=dd';⟨q,hq⟩
   exact jc I (by rw [e];exact True.intro) hs he (uP hl hd (rel.put k rv) dd')
 · subst ey eH
   cases (show u=Value.ref b from ry)
   obtain ⟨z,hd,xs,rel,dd⟩:=rq I.hok e
   have hz:xs.length≤sizeLine:=by rw [← Paired.length rel];exact z
   have hl:(cM kvs k v).length≤sizeLine:=by have:=fi kvs k v;omega
   refine wpAny_setItem_heap (hsz:=hz) (tupleKind_room_in1 hu) (hG I.hok eb) dd fun h' dd' hs=>h _ ?_
   obtain ⟨q,es,ep,hq,h2,h3,h4,_,h5⟩:=dd'
   refine jc I (by rw [e];exact True.intro) hs ⟨q,hq⟩ ⟨hl,hd,_,(rel.put k eb rv).keeps fun c ys ec=>?_,q,es,ep,hq,h2,h3,h4,h5⟩
   rw [au (dD ec e (fun z=>nomatch z))]
   exact ec
end
section
variable {X:Cx} {pins:List (Addr×Obj)} {σ:St} {H:Hp} {s:Shared} {a:Addr} {kvs:List (Key×V)} {k:Key} {u:Value} {A:Around} {E:Value→Shared→Prop}
theorem EJ {Q:Value→Shared→Prop} (I:Inv X pins σ H s) (e:Rd H a (.dK kvs)) (h:∀ t s',Inv X pins σ H s'→Q (.int kvs.length t) s'):wpAny (model X.prog X.w) A (call (.builtin "len") [.ref a]) Q E s:=by
 obtain ⟨z,hd,vs,rel,dd⟩:=je I.hok e
 refine call_len_dict hd dd (by rw [← rel.length];rw [sizeLine_eq] at z;omega) ?_
 rw [← rel.length]
 exact h _ _ (I.tok _)
end
theorem pZ {X:Cx} {pins:List (Addr×Obj)} {σ:St} {H:Hp} {s:Shared} {a:Addr} {y:V} {o:Option V} (I:Inv X pins σ H s) (g:fz H a y o):s.TypeIs (.ref a) "dict" :=by
 rcases g with ⟨kvs,k,e,_,_⟩ | ⟨kvs,k,b,e,_,_,_⟩
 · obtain ⟨_,_,vs,_,dd⟩:=je I.hok e
   exact dd.typeIs
 · obtain ⟨_,_,xs,_,dd⟩:=kB I.hok e
   exact dd.typeIs
section
variable {X:Cx} {o i e value:Expr} {pos pos' tpos:Pos} {td ty tv:TE}
end
theorem xw {P:Program} {w:World} {H:Hp} (h:Heap) (hb:sysModules<h.objs.size):bc P w H (h.push { cls:=.type "dict",data:=.dict #[] }) h.objs.size (.dK []):=
 ⟨Nat.zero_le _,beq_eq_false_iff_ne.mpr (Ne.symm (Nat.ne_of_lt hb)),[],.nil,Heap.DictOf.new h⟩
theorem wb {P:Program} {w:World} {H:Hp} (h:Heap) (hb:sysModules<h.objs.size):bc P w H (h.push { cls:=.type "dict",data:=.dict #[] }) h.objs.size (.dT []):=
 ⟨Nat.zero_le _,beq_eq_false_iff_ne.mpr (Ne.symm (Nat.ne_of_lt hb)),[],.nil,_,#[],0,Heap.get?_push_size _ rfl,⟨rfl,rfl,rfl⟩,rfl,rfl,List.nodup_nil⟩
def uM:TE:=fun _ H Q=>∀ p,H p=none→Q (.ref p) (upd H p (.dK []))
def uk:TE:=fun _ H Q=>∀ p,H p=none→Q (.ref p) (upd H p (.dT []))
section
variable {X:Cx} {pos:Pos}
theorem xq:PE X (.Dict [] [] pos) uM:=fun pins s σ H Q I h=>
 wpAny_Dict_empty ⟨.ref s.heap.objs.size,_,I.laid (a:=s.heap.objs.size) (o:=.dK []) (t':=s.toks) (fun _ _ q=>Heap.get?_push_of_some _ q) (Nat.le_refl _) (xw s.heap I.big),rfl,h _ (I.hok.fresh (Nat.le_refl _))⟩
theorem wQ:PE X (.Dict [] [] pos) uk:=fun pins s σ H Q I h=>
 wpAny_Dict_empty ⟨.ref s.heap.objs.size,_,I.laid (a:=s.heap.objs.size) (o:=.dT []) (t':=s.toks) (fun _ _ q=>Heap.get?_push_of_some _ q) (Nat.le_refl _) (wb s.heap I.big),rfl,h _ (I.hok.fresh (Nat.le_refl _))⟩
end
section
variable {X:Cx} {pins:List (Addr×Obj)} {σ:St} {H:Hp} {s:Shared} {a:Addr} {y d:V} {u r:Value} {o:Option V} {A:Around} {E:Value→Shared→Prop}
end
section
variable {X:Cx} {o e f:Expr} {apos cpos:Pos} {td ty tx:TE}
end
section
variable {X:Cx} {pins:List (Addr×Obj)} {σ:St} {H:Hp} {s:Shared} {a:Addr} {kvs:List (Key×V)} {A:Around} {E:Value→Shared→Prop}
end
section
variable {X:Cx} {pins:List (Addr×Obj)} {σ:St} {H:Hp} {s:Shared} {a:Addr} {y:V} {u:Value} {A:Around} {E:Value→Shared→Prop}
end
end L2
namespace Att
open PySem PySem.W PySem.Calls PyProof.Rows
theorem ints_of_wellAll {P : Params} {h : Heap} : ∀ (ns : List Int) (vs : List Value), WellAll P h vs (ns.map WData.int) → IntsAre vs ns := by
  intro ns
  induction ns with
  | nil =>
    intro vs w
    rw [List.map_nil] at w
    cases w
    exact .nil
  | cons n ns ih =>
    intro vs w
    rw [List.map_cons] at w
    cases w with
    | cons a b =>
      cases a
      exact .cons _ _ (ih _ b)
theorem script_of {l : OpenLaw} {n : Nat} (hn : l.most = some n) {P : Params} {h : Heap} {args : List WData} {vals : List Value}
    (hpre : l.row.toRowW.claim.pre args = true) (hwl : WellAll P h vals args) :
    ∃ a vs ns, vals = [Value.ref a] ∧ args = [WData.list (ns.map WData.int)] ∧ h.get? a = some { cls := .type "list", data := .seq vs.toArray } ∧ IntsAre vs ns ∧ ns.length ≤ n := by
  have hsh : WShape.hasAll [] args [.list .int] = true := (pre_splitW hpre).1
  have hc : l.pre.holds [] { args := args } = true := (pre_splitW hpre).2
  obtain ⟨d, r, rfl, h1, h2⟩ := hasAllW_cons hsh
  obtain rfl := hasAllW_nil h2
  obtain ⟨xs, rfl, h3⟩ := hasW_list h1
  obtain ⟨ns, rfl⟩ := items_int h3
  have hlen : ns.length ≤ n := by
    unfold OpenLaw.pre at hc
    have h4 : (WTm.not (.lt (.lit (.int (n : Int))) (.len (.arg 0)))).holds [] { args := [.list (ns.map .int)] } = true := by
      have h4 := (holds_andW hc).1
      rw [hn] at h4
      exact h4
    have h5 := condW_of h4 (w_not (w_lt w_lit (w_len_list (w_arg rfl))))
    rw [List.length_map] at h5
    refine Nat.le_of_not_lt fun q => ?_
    have q' : (n : Int) < ((ns.length : Nat) : Int) := by omega
    first
      | (rw [decide_eq_true q'] at h5; exact absurd h5 (by decide))
      | (simp at h5; omega)
  cases hwl with
  | cons w1 w2 =>
    cases w2
    cases w1 with
    | list ho hall => exact ⟨_, _, ns, rfl, rfl, ho, ints_of_wellAll ns _ hall, hlen⟩
theorem post_true (l:OpenLaw) (args:List WData):l.row.toRowW.claim.post args (.bool true) args=true:=
 postW_of (r:=l.row.toRowW) (X:=(true==true))
  (show WShape.has [] (.bool true) .bool=true by first | rfl | decide | simp [WShape.has,WShape.arms,WShape.armsAll])
  (show (WTm.eq .res (.lit (.bool true))).value [] { args:=args,res:=some (.bool true),after:=args }=some (.bool (true==true)) from w_eq_bool (w_res rfl) w_lit) rfl
theorem attach_call {l : OpenLaw} {n : Nat} {q : Program} {loose : List Str} {XP : (Str → Option Value) → Heap → Prop} {YP : World → Heap → Prop} {d : DefRec}
  (hn : l.most = some n) (hdf : d.params.defaults = [])
  (call : ∀ (w : World) (s₀ s₁ : Shared) (mg mb : Str → Option Value) (fa : Addr) (o : Obj) (pm cd doc : Value) (a : Addr) (vs : List Value) (ns : List Int),
   Ground q loose [] XP w s₀ mg mb s₁.heap → YP w s₁.heap →
   s₁.heap.get? fa = some o → o.data = .func (docDef d.name d.params d.body d.scope pm cd doc) → s₁.heap.CodeRec cd d.name → mg d.name = some (.ref fa) →
   s₁.heap.get? a = some { cls := .type "list", data := .seq vs.toArray } → IntsAre vs ns → ns.length ≤ n → s₁.gens = #[] →
   codeAny (model l.prog w) callerA (.call (.ref fa) ⟨[.ref a], []⟩) (fun r s' => r = .ok (.ret (.bool true)) ∧ OldK s₁.heap s'.heap ∧ s'.os = s₁.os ∧ AllBare s'.gens) s₁) :
  WalkO q loose XP YP l.row.toRowW d [] (fun f vs => PySem.call f vs) := by
 intro w s₀ s₁ mg mb G Y fa o pm cd doc dV kV ho hd hcd hD hmg hg args vals as hpre hlay hrd hwl hlo
 obtain rfl : dV = .none := Dflts.none hD hdf
 obtain rfl : kV = .none := Dflts.noKw hD
 obtain ⟨a, vs, ns, rfl, rfl, hobj, hints, hlen⟩ := script_of hn hpre hwl
 refine enter_call (codeAny_mono (call w s₀ s₁ mg mb fa o pm cd doc a vs ns G Y ho (fd_plain hd) hcd hmg hobj hints hlen hg) fun r s' hq => ?_)
 obtain ⟨rfl, h2, h3, h4⟩ := hq
 exact ⟨.inl ⟨.bool true, .bool true, [], rfl, fun _ => rfl, .bool true, post_true l _, fun _ => ⟨List.Pairwise.nil, fun _ hm => (nomatch hm)⟩⟩, h2, h3, h4⟩
section
variable {prog:Program} {w:World} {A:Around} {E:Value→Shared→Prop} {s:Shared} {K:Frag}
end
end Att
namespace L2
open PySem PySem.Spec PyProof.Rows
theorem lU:∀ {vs:List Value} {ns:List Int},IntsAre vs ns→aX (ns.map V.int) vs
 | _,_,.nil=> .nil
 | _,_,.cons n t h=> .cons ⟨t,rfl⟩ (lU h)
end L2
namespace L2
open PySem PySem.Spec PyProof.Rows
end L2
namespace L2
open PySem PySem.Spec PyProof.Rows
def bD (s:Stmt):Arguments:=match s with
 | .FunctionDef _ a _ _ _ _ _ _ _ _=>a
 | _=>{ posonlyargs:=[],args:=[],vararg:=none,kwonlyargs:=[],kw_defaults:=[],kwarg:=none,defaults:=[] }
def aO (s:Stmt):List Stmt:=match s with
 | .FunctionDef _ _ b _ _ _ _ _ _ _=>b
 | _=>[]
def al (s:Stmt):Scope:=match s with
 | .FunctionDef _ _ _ _ _ _ sc _ _ _=>sc
 | _=>{ kind:=.function,names:=[],isGenerator:=false,isCoroutine:=false }
abbrev E0:XK:=fun _ _ _=>False
structure Fun (K:W.Frag) (x qual:Str) (st:Stmt) (f:Addr) (fd:FuncData):Prop where
 ex:∃ (oc:Value) (od:Option Addr) (kV doc pm:Value) (an:Option Addr) (cdv ct:Value) (osl:Array (Option Value)),
  fd=W.fnOf x qual (bD st) (aO st) (al st) .none kV doc pm an cdv ct∧K.lookup f=some ⟨oc,od,.func fd,osl⟩∧W.codeIn K cdv qual=true
 kp:W.keepIn K (.ref f)=true
section
variable {P:Program} {w:World} {K:W.Frag} {mg:Str→Option Value} {base:Heap}
theorem Fun.binds {x qual:Str} {st:Stmt} {f:Addr} {fd:FuncData} {ps:List Str} (F:Fun K x qual st f fd)
  (h:∀ (kV doc pm:Value) (an:Option Addr) (cdv ct:Value) (us:List Value),us.length=ps.length→bindArgs (W.fnOf x qual (bD st) (aO st) (al st) .none kV doc pm an cdv ct) ⟨us,[]⟩=pure (ps.zip us)):bH K fd ps []:=by
 obtain ⟨oc,od,kV,doc,pm,an,cdv,ct,osl,rfl,lk,hcd⟩:=F.ex
 exact .all (h kV doc pm an cdv ct)
theorem dY {x qual:Str} {st:Stmt} {f:Addr} {oc:Value} {od an:Option Addr} {osl:Array (Option Value)} {kV doc pm cdv ct:Value} (l:K.lookup f=some ⟨oc,od,.func (W.fnOf x qual (bD st) (aO st) (al st) .none kV doc pm an cdv ct),osl⟩)
 (c:W.codeIn K cdv qual=true) (k:W.keepIn K (.ref f)=true):Fun K x qual st f (W.fnOf x qual (bD st) (aO st) (al st) .none kV doc pm an cdv ct):=⟨⟨oc,od,kV,doc,pm,an,cdv,ct,osl,rfl,l,c⟩,k⟩
end
theorem gq {n:Nat} (h:n≤1000):n<sizeLine:=Nat.lt_of_le_of_lt h (by decide)
section
variable {X:Cx}
theorem tV:bG X (.builtin "len") (fun xs H Q=>∃ a kvs,xs=[V.ref a]∧H a=some (.dK kvs)∧Q (.int kvs.length) H):=by
 intro pins s σ H xs us Q I r h
 obtain ⟨a,kvs,rfl,ha,q⟩:=h
 obtain ⟨u,rfl,ru⟩:=fk r
 cases ru
 exact EJ I (.inl ha) fun t s' I'=>⟨.int kvs.length,H,I',⟨t,rfl⟩,q⟩
end
theorem vt {A B:Prop} (h:A):if true=true then A else B:=by
 rw [if_pos rfl]
 exact h
def ax (H H':Hp):Prop:=∀ b o,H b=some o→H' b=some o
theorem ax.refl (H:Hp):ax H H:=fun _ _ h=>h
theorem ax.trans {H H1 H2:Hp} (a:ax H H1) (b:ax H1 H2):ax H H2:=fun c o h=>b c o (a c o h)
theorem ax.seq {K:W.Frag} {H H':Hp} {a:Addr} {xs:List V} (e:ax H H') (h:SqL K H a xs):SqL K H' a xs:=by
 rcases h with (h | ⟨o,h⟩) | h
 · exact .inl (.inl (e _ _ h))
 · exact .inl (.inr ⟨o,e _ _ h⟩)
 · exact .inr h
section
variable {κ:Type} [DecidableEq κ]
end
end L2
namespace L2
open PySem PySem.Spec PyProof.Rows
def dk:List (Str×NameKind)→List (Str×Addr)→List (Str×Addr)→List (Str×Addr)
 | [],_,cs=>cs
 | (n,k)::r,cells,cs=>dk r cells (if k==.free then (match cells.lookup n with | some a=>(n,a)::cs | none=>cs) else cs)
theorem pe {scope : Scope} {env : Env} (h : ∀ y ∈ scope.names, y.2 = .free → (env.cells.lookup y.1).isSome = true) : closureFor scope env = pure (dk scope.names env.cells []) := by
  have key : ∀ (l : List (Str × NameKind)) (cs : List (Str × Addr)), (∀ y ∈ l, y.2 = .free → (env.cells.lookup y.1).isSome = true) →
      (forIn l cs (fun (x : Str × NameKind) (cs : List (Str × Addr)) => (if (x.2 == NameKind.free) = true then (do let a ← cellOf env x.1; pure (ForInStep.yield ((x.1, a) :: cs))) else (pure (ForInStep.yield cs) : Sem _))) : Sem (List (Str × Addr))) = pure (dk l env.cells cs) := by
    intro l
    induction l with
    | nil => intro cs _; rfl
    | cons y r ih =>
      intro cs hy
      obtain ⟨n, k⟩ := y
      rw [List.forIn_cons]
      by_cases hk : k = .free
      · subst hk
        have hs := hy (n, .free) List.mem_cons_self rfl
        cases e : env.cells.lookup n with
        | none => rw [e] at hs; cases hs
        | some a =>
          have := ih ((n, a) :: cs) (fun z hz => hy z (List.mem_cons_of_mem _ hz))
          simp only [dk, beq_self_eq_true, if_true, e, cellOf, pure_bind]
          exact this
      · have hb : (k == NameKind.free) = false := by simpa using hk
        have := ih cs (fun z hz => hy z (List.mem_cons_of_mem _ hz))
        simp only [dk, hb, Bool.false_eq_true, if_false, pure_bind]
        exact this
  have := key scope.names [] h
  unfold closureFor
  simpa using this
theorem lX : ∀ {l : List (Str × NameKind)} {cells cs : List (Str × Addr)} {x : Str} {c : Addr}, (∀ x c, cs.lookup x = some c → cells.lookup x = some c) → (dk l cells cs).lookup x = some c → cells.lookup x = some c
  | [], _, _, _, _, h, e => h _ _ e
  | (n, k) :: r, cells, cs, x, c, h, e => by
    refine lX (l := r) (fun y d hy => ?_) e
    split at hy
    · split at hy
      · rename_i a ha
        by_cases hyn : y = n
        · subst hyn
          rw [List.lookup_cons_self] at hy
          rw [← hy]; exact ha
        · rw [List.lookup_cons] at hy
          have : (y == n) = false := by simpa using hyn
          rw [this] at hy
          exact h _ _ hy
      · exact h _ _ hy
    · exact h _ _ hy
theorem kX : ∀ {l : List (Str × NameKind)} {cells cs : List (Str × Addr)} {x : Str}, (cs.lookup x).isSome = true → ((dk l cells cs).lookup x).isSome = true
  | [], _, _, _, h => h
  | (n, k) :: r, cells, cs, x, h => by
    refine kX (l := r) ?_
    split
    · split
      · rw [List.lookup_cons]
        split
        · rfl
        · exact h
      · exact h
    · exact h
theorem iY : ∀ {l : List (Str × NameKind)} {cells cs : List (Str × Addr)} {x : Str}, (x, NameKind.free) ∈ l → (cells.lookup x).isSome = true → ((dk l cells cs).lookup x).isSome = true
  | [], _, _, _, h, _ => by cases h
  | (n, k) :: r, cells, cs, x, h, hs => by
    rcases List.mem_cons.mp h with e | h
    · cases e
      refine kX (l := r) ?_
      simp only [beq_self_eq_true, if_true]
      cases e : cells.lookup n with
      | none => rw [e] at hs; cases hs
      | some a => simp only [List.lookup_cons_self]; rfl
    · exact iY (l := r) h hs
theorem kD {x:Str} {k:NameKind}:∀ {l:List (Str×NameKind)},l.lookup x=some k→(x,k)∈l:=fun h=>PySem.mem_of_lookup h
inductive fw (X:Cx) (scope:Scope):List Str→List Nat→Prop where
 | nil:fw X scope [] []
 | cons {y:Str} {i:Nat} {ys:List Str} {is:List Nat} (h1:X.N[i]?=some y) (h2:X.env.kindOf y=some .cell∨X.env.kindOf y=some .free) (h3:scope.names.lookup y=some .free) (h:fw X scope ys is):fw X scope (y::ys) (i::is)
structure eI (scope:Scope) (x:Str) (ys:List Str):Prop where
 kind:scope.kind=.function
 nocell:∀ y∈scope.names,y.2≠ .cell
 names:∀ y∈scope.names,y.2=.local→scope.names.lookup y.1=some .local
 own:scope.names.lookup x=some .local
 all:∀ y∈scope.names,y.2=.free→y.1∈ys
 nd:(x::ys).Nodup
def bv (X:Cx) (scope:Scope) (C:Addr) (N:List Str) (s:Shared) (H:Hp) (fp:List Addr):Cx:=
 { X with N:=N,s₀:=s,H₀:=H,env:=compEnvC scope (dk scope.names X.env.cells []) C X.env,outer:=X.stack,ex:=fp,fn:=fun _=>false,pn:=[],xe:=fun _ _=>False }
def bI (σ:St) (is:List Nat):St:=is.map fun i=>(σ[i]?).getD none
theorem gH {f : Str × NameKind → Str × NameKind} (hf : ∀ p, (f p).1 = p.1) {x : Str} : ∀ (l : List (Str × NameKind)), (l.map f).lookup x = (l.lookup x).map fun k => (f (x, k)).2
  | [] => rfl
  | (n, k) :: r => by
    have ih := gH hf (x := x) r
    have e : f (n, k) = (n, (f (n, k)).2) := Prod.ext (hf (n, k)) rfl
    rw [List.map_cons, e, List.lookup_cons, List.lookup_cons]
    cases hx : x == n with
    | true =>
      have e' : x = n := by simpa using hx
      subst e'; rfl
    | false => exact ih
theorem iy (scope:Scope) (env:Env) (x:Str):(relabel scope env).names.lookup x=(scope.names.lookup x).map fun k=>if (k==NameKind.free&&env.scope.kind==.function&&env.kindOf x==some .cell) then NameKind.cell else k:=by
 have hf:∀ p:Str×NameKind,((fun (n,k)=>if (k==NameKind.free&&env.scope.kind==.function&&env.kindOf n==some .cell) then (n,NameKind.cell) else (n,k)) p:Str×NameKind).1=p.1:=by
  intro p
  obtain ⟨n,k⟩:=p
  show (if _ then (n,NameKind.cell) else (n,k)).1=n
  split <;> rfl
 have:=gH hf (x:=x) scope.names
 show List.lookup x (List.map _ scope.names)=_
 rw [this]
 congr 1
 funext k
 show (if _ then (x,NameKind.cell) else (x,k)).2=_
 split <;> rfl
theorem gZ {scope : Scope} {env : Env} {x : Str} {k : NameKind} (nc : ∀ y ∈ scope.names, y.2 ≠ .cell) (h : (relabel scope env).names.lookup x = some k) (hk : k = .cell ∨ k = .free) : (x, NameKind.free) ∈ scope.names := by
  rw [iy] at h
  cases q : scope.names.lookup x with
  | none => rw [q] at h; cases h
  | some k' =>
    have hm := kD q
    rw [q] at h
    have h : (if (k' == NameKind.free && env.scope.kind == .function && env.kindOf x == some .cell) then NameKind.cell else k') = k := Option.some.inj h
    by_cases hc : k' = .free
    · subst hc; exact hm
    · have hb : (k' == NameKind.free) = false := by simpa using hc
      rw [hb] at h
      have h : k' = k := h
      subst h
      rcases hk with z | z
      · exact absurd z (nc _ hm)
      · exact absurd z hc
theorem pB {scope:Scope} {env:Env} {x:Str} (h:scope.names.lookup x=some .free):(relabel scope env).names.lookup x=some .cell∨(relabel scope env).names.lookup x=some .free:=by
 rw [iy,h]
 show some (if _ then _ else _)=_∨some (if _ then _ else _)=_
 split
 · exact .inl rfl
 · exact .inr rfl
theorem mO {scope:Scope} {env:Env} {x:Str} (h:scope.names.lookup x=some .local):(relabel scope env).names.lookup x=some .local:=by
 rw [iy,h];rfl
theorem um {X : Cx} {scope : Scope} {ys : List Str} {is : List Nat} {m : Str → Option Value} {h : Heap} {σ : St} (hc : fw X scope ys is)
    (hl : ∀ (i : Nat) (x : Str) (v : V), X.N[i]? = some x → σ[i]? = some (some v) → Vis X.env.scope x → ∃ u, aW v u ∧ CH X.env h m x u) (nd : True) :
    ∀ (j : Nat) (y : Str) (v : V), ys[j]? = some y → (bI σ is)[j]? = some (some v) → ∃ u, aW v u ∧ scope.names.lookup y = some .free ∧ ∃ c, X.env.cells.lookup y = some c ∧ h.IsCell c (some u) := by
  induction hc with
  | nil => intro j y v e; simp at e
  | @cons z i zs js h1 h2 h3 hr ih =>
    intro j y v e1 e2
    cases j with
    | zero =>
      simp at e1; subst e1
      have e2 : (σ[i]?).getD none = some v := by simpa [bI] using e2
      have e3 : σ[i]? = some (some v) := by
        cases q : σ[i]? with
        | none => rw [q] at e2; simp at e2
        | some o => rw [q] at e2; simp at e2; rw [e2]
      have hv : Vis X.env.scope z := by
        rcases h2 with q | q
        · exact .inr (.inl q)
        · exact .inr (.inr q)
      obtain ⟨u, r, l⟩ := hl i z v h1 e3 hv
      refine ⟨u, r, h3, ?_⟩
      rcases l with ⟨k, _⟩ | ⟨_, c, e, ic⟩
      · rcases h2 with q | q
        · rw [q] at k; cases k
        · rw [q] at k; cases k
      · exact ⟨c, e, ic⟩
    | succ j =>
      exact ih j y v (by simpa using e1) (by simpa [bI] using e2)
end L2
namespace L2
open PySem PySem.Spec PyProof.Rows
def sj (is:List Nat) (tc:TT) (te:TE) (σ:St) (D:Addr) (J:It) (H1:Hp) (Q:VK):Prop:=∃ W:Nat→Nat→List V→Hp→Prop,(∃ m,W 0 m [] (upd H1 D (.lst [])))∧
 ∀ i m ys H2,W i m ys H2→(J.stop i H2∧Q (.ref D) H2)∨(J.go i H2∧∀ x H3,J.yld i H2 x H3→tc (some x::bI σ is) H3 fun b H4=>if b=true then
  te (some x::bI σ is) H4 fun y H5=>H5 D=some (.lst ys)∧ys.length<sizeLine∧∃ m',m'<m∧W (i+1) m' (ys++[y]) (upd H5 D (.lst (ys++[y])))
  else ∃ m',m'<m∧W (i+1) m' ys H4)
def ik (is:List Nat) (wi:TI) (tc:TT) (te:TE):TE:=fun σ H Q=>wi σ H fun J H1=>∀ D,H1 D=none→sj is tc te σ D J H1 Q
theorem pV (elt target iter c : Expr) (scope : Scope) (pos : Pos) (it acc : Value) (env : Env) :
    compTurn (.ListComp elt [⟨target, iter, [c], 0⟩] scope pos) 0 it acc env = (standAt iter.pos >>= fun _ => pyNext it >>= fun r => match r with
      | none => pure (.done .next)
      | some v => letOwnedTupleGo target it v >>= fun _ => assign target env v >>= fun _ => isTrue c env (eval c env) >>= fun ok =>
        (if ok = true then (eval elt env >>= fun x => call (.builtin "list.append") [acc, x] >>= fun _ => pure ()) else pure ()) >>= fun _ =>
          again (.compLoop (.ListComp elt [⟨target, iter, [c], 0⟩] scope pos) 0 it acc env)) := by
  unfold compTurn
  simp only [List.forIn_cons, List.forIn_nil, List.getElem?_cons_zero, List.getElem?_cons_succ, List.getElem?_nil, bind_assoc, pure_bind, bne_self_eq_false, Bool.false_eq_true, if_false, if_true]
  congr 1
  funext _
  congr 1
  funext r
  cases r with
  | none => rfl
  | some v =>
    simp only [bind_assoc, pure_bind, if_true]
    congr 1; funext _
    congr 1; funext _
    congr 1; funext b
    cases b <;> simp
section
variable {prog:Program} {w:World} {A:Around} {R:Result→Shared→Prop} {s:Shared}
theorem iG {elt target iter c : Expr} {scope : Scope} {pos : Pos} {it acc : Value} {env : Env} (I : Nat → Shared → Prop)
    (turn : ∀ n s, I n s → wpAny (model prog w) A (pyNext it) (fun r s₁ => match r with
      | none => R (.ok .next) s₁
      | some v => wpAny (model prog w) A (letOwnedTupleGo target it v) (fun _ s₁ => wpAny (model prog w) A (assign target env v) (fun _ s₂ => wpAny (model prog w) A (isTrue c env (eval c env)) (fun ok s₂ => if ok = true then wpAny (model prog w) A (eval elt env) (fun x s₃ =>
          wpAny (model prog w) A (call (.builtin "list.append") [acc, x]) (fun _ s₄ => ∃ m, m < n ∧ I m s₄) (notedBy (model prog w) A env fun e s' => R (.error e) s') s₃)
          (notedBy (model prog w) A env fun e s' => R (.error e) s') s₂ else ∃ m, m < n ∧ I m s₂) (notedBy (model prog w) A env fun e s' => R (.error e) s') s₂) (notedBy (model prog w) A env fun e s' => R (.error e) s') s₁) (notedBy (model prog w) A env fun e s' => R (.error e) s') s₁) (notedBy (model prog w) A env fun e s' => R (.error e) s') s)
    (n : Nat) (h : I n s) :
    codeAny (model prog w) A (.compLoop (.ListComp elt [⟨target, iter, [c], 0⟩] scope pos) 0 it acc env) R s := by
  refine codeAny_loop rfl I (fun n s hI => ?_) n h
  show wpAny _ _ ((compTurn (.ListComp elt [⟨target, iter, [c], 0⟩] scope pos) 0 it acc env).onRaise (fun x => do noteFrame x env; theTreesLotGoes x)) _ _ s
  refine wpAny_noted ?_
  rw [pV]
  refine wpAny_bind (wpAny_standAt (wpAny_bind (wpAny_mono (turn n s hI) (fun r s₁ h₁ => ?_) fun _ _ h' => h')))
  cases r with
  | none => exact wpAny_pure h₁
  | some v =>
    refine wpAny_bind (wpAny_mono h₁ (fun _ s₁ h₁ => wpAny_bind (wpAny_mono h₁ (fun _ s₂ h₂ => wpAny_bind (wpAny_mono h₂ (fun ok s₃ h₃ => ?_) fun _ _ h' => h')) fun _ _ h' => h')) fun _ _ h' => h')
    cases ok with
    | true =>
      rw [if_pos rfl] at h₃
      simp only [if_true]
      exact wpAny_bind (wpAny_bind (wpAny_mono h₃ (fun x s₃ h₃ => wpAny_bind (wpAny_mono h₃ (fun _ s₄ h₄ => wpAny_pure (wpAny_pure ⟨rfl, h₄⟩)) fun _ _ h' => h')) fun _ _ h' => h'))
    | false =>
      rw [if_neg Bool.false_ne_true] at h₃
      simp only [Bool.false_eq_true, if_false]
      exact wpAny_bind (wpAny_pure (wpAny_pure ⟨rfl, h₃⟩))
theorem iD {elt target iter : Expr} {scope : Scope} {pos : Pos} {it acc : Value} {env : Env} (I : Nat → Shared → Prop)
    (turn : ∀ n s, I n s → wpAny (model prog w) A (pyNext it) (fun r s₁ => match r with
      | none => R (.ok .next) s₁
      | some v => wpAny (model prog w) A (letOwnedTupleGo target it v) (fun _ s₁ => wpAny (model prog w) A (assign target env v) (fun _ s₂ => wpAny (model prog w) A (eval elt env) (fun x s₃ =>
          wpAny (model prog w) A (call (.builtin "list.append") [acc, x]) (fun _ s₄ => ∃ m, m < n ∧ I m s₄) (notedBy (model prog w) A env fun e s' => R (.error e) s') s₃)
          (notedBy (model prog w) A env fun e s' => R (.error e) s') s₂) (notedBy (model prog w) A env fun e s' => R (.error e) s') s₁) (notedBy (model prog w) A env fun e s' => R (.error e) s') s₁) (notedBy (model prog w) A env fun e s' => R (.error e) s') s)
    (n : Nat) (h : I n s) :
    codeAny (model prog w) A (.compLoop (.ListComp elt [⟨target, iter, [], 0⟩] scope pos) 0 it acc env) R s := by
  refine codeAny_loop rfl I (fun n s hI => ?_) n h
  show wpAny _ _ ((compTurn (.ListComp elt [⟨target, iter, [], 0⟩] scope pos) 0 it acc env).onRaise (fun x => do noteFrame x env; theTreesLotGoes x)) _ _ s
  refine wpAny_noted ?_
  rw [compTurn_list1]
  refine wpAny_bind (wpAny_standAt (wpAny_bind (wpAny_mono (turn n s hI) (fun r s₁ h₁ => ?_) fun _ _ h' => h')))
  cases r with
  | none => exact wpAny_pure h₁
  | some v =>
    exact wpAny_bind (wpAny_mono h₁ (fun _ s₁ h₁ => wpAny_bind (wpAny_mono h₁ (fun _ s₂ h₂ => wpAny_bind (wpAny_bind (wpAny_mono h₂ (fun x s₃ h₃ => wpAny_bind (wpAny_mono h₃
      (fun _ s₄ h₄ => wpAny_pure (wpAny_pure ⟨rfl, h₄⟩)) fun _ _ h' => h')) fun _ _ h' => h'))) fun _ _ h' => h')) fun _ _ h' => h')
end
def sx (X:Cx) (ifs:List Expr) (tc:TT):Prop:=match ifs with
 | []=>tc=fun _ H Q=>Q true H
 | [c]=>PT X c tc
 | _=>False
section
variable {X:Cx}
theorem wY {scope:Scope} {ys:List Str} {is:List Nat} (h:fw X scope ys is):is.length=ys.length:=by
 induction h with
 | nil=>rfl
 | cons _ _ _ _ ih=>simp [ih]
theorem ma {scope : Scope} {ys : List Str} {is : List Nat} (h : fw X scope ys is) {y : Str} (hy : y ∈ ys) : X.env.kindOf y = some .cell ∨ X.env.kindOf y = some .free := by
  induction h with
  | nil => cases hy
  | cons _ h2 _ _ ih =>
    rcases List.mem_cons.mp hy with e | e
    · rw [e]; exact h2
    · exact ih e
theorem mD {elt iter : Expr} {ifs : List Expr} {x : Str} {px pos : Pos} {scope : Scope} {ys : List Str} {is : List Nat} {tc : TT} {te : TE} {pins : List (Addr × Obj)} {σ : St} {H2 : Hp} {s2 : Shared} {it : Addr} {fp : List Addr} {tn : Nat → Heap → Prop} {J : It} {E : Value → Shared → Prop} {Q : VK} {RR : Value → Addr → Result → Shared → Prop}
    (hc : X.calm = true) (S : eI scope x ys) (hcap : fw X scope ys is)
    (hif : ∀ C s H fp, sx (bv X scope C (x :: ys) s H fp) ifs tc) (he : ∀ C s H fp, PE (bv X scope C (x :: ys) s H fp) elt te)
    (I2 : Inv X pins σ H2 s2) (T : jU X.prog X.w X.K (.Name x px) J fp it tn) (st2 : tn 0 s2.heap) (f2 : ∀ b ∈ fp, iM X pins H2 b)
    (hW : ∀ D, H2 D = none → ∃ W : Nat → Nat → List V → Hp → Prop, (∃ m, W 0 m [] (upd H2 D (.lst []))) ∧
      ∀ i m ys H2, W i m ys H2 → (J.stop i H2 ∧ Q (.ref D) H2) ∨ (J.go i H2 ∧ ∀ x H3, J.yld i H2 x H3 → tc (some x :: bI σ is) H3 fun b H4 => if b = true then
        te (some x :: bI σ is) H4 fun y H5 => H5 D = some (.lst ys) ∧ ys.length < sizeLine ∧ ∃ m', m' < m ∧ W (i + 1) m' (ys ++ [y]) (upd H5 D (.lst (ys ++ [y])))
        else ∃ m', m' < m ∧ W (i + 1) m' ys H4))
    (hRR : ∀ D C H' s', (X.s₀.heap.objs.size ≤ C ∧ ∀ p ∈ X.pn ++ pins, p.1 ≠ C) → (∃ m, s'.heap.Ns C m) → C ≠ X.env.locals → H' C = none → Inv X pins σ H' s' → (∀ h', Heap.SameBut C s'.heap h' → Inv X pins σ H' { s' with heap := h' }) → Q (.ref D) H' → RR (.ref D) C (.ok .next) s') :
    wpAny (model X.prog X.w) X.A (newList []) (fun acc s₃ => wpAny (model X.prog X.w) X.A (newFunctionEnv scope X.env.globals (dk scope.names X.env.cells []) [] X.env.qual none .none (some X.env)) (fun cenv s₄ =>
      codeAny (model X.prog X.w) X.A (.compStart (.ListComp elt [⟨.Name x px, iter, ifs, 0⟩] scope pos) 0 (.ref it) acc { cenv with scope := relabel scope X.env }) (RR acc cenv.locals) s₄) E s₃) E s2 := by
  have hf2 : H2 s2.heap.objs.size = none := I2.fresh
  refine wpAny_newObj_type (wpAny_newFunctionEnv S.nocell (by intro y hy; simp at hy) (fun h₁ hns₁ hsb₁ => ?_) S.kind)
  dsimp only at hns₁ hsb₁ ⊢
  have I3 : Inv X pins σ (upd H2 s2.heap.objs.size (.lst [])) { s2 with heap := s2.heap.push { cls := .type "list", data := .seq ([] : List Value).toArray } } := I2.lnew (t' := s2.toks) (ys := []) .nil (Nat.zero_le _)
  obtain ⟨W, ⟨m0, w0⟩, turn⟩ := hW _ hf2
  generalize hD : s2.heap.objs.size = D at I3 w0 turn hf2 ⊢
  generalize hs3 : ({ s2 with heap := s2.heap.push { cls := .type "list", data := .seq ([] : List Value).toArray } } : Shared) = s3 at I3
  have hp3 : s2.heap.push { cls := .type "list", dict := none, data := .seq ([] : List Value).toArray } = s3.heap := by rw [← hs3]
  rw [hp3] at hns₁ hsb₁ ⊢
  have tk3 : s2.toks = s3.toks := by rw [← hs3]
  generalize hH3 : upd H2 D (.lst []) = H3 at I3 w0
  generalize hC : s3.heap.objs.size = C at hns₁ hsb₁ ⊢
  have keep2 : ∀ b o, s2.heap.get? b = some o → s3.heap.get? b = some o := fun b o e => by rw [← hp3]; exact Heap.get?_push_of_some _ e
  have keep3 : ∀ b o, s3.heap.get? b = some o → h₁.get? b = some o := fun b o e => hsb₁.extBut b o (by rw [← hC]; exact Nat.ne_of_lt (Heap.lt_size e)) (Heap.get?_push_of_some _ e)
  have st3 : tn 0 s3.heap := T.keep _ _ _ st2 fun b _ o e => keep2 b o e
  have st4 : tn 0 h₁ := T.keep _ _ _ st3 fun b _ o e => keep3 b o e
  have fp3 : ∀ b ∈ fp, H3 b = none ∧ b < C := fun b hb => by
    obtain ⟨o, e, _⟩ := T.obj _ _ st2 b hb
    refine ⟨?_, by rw [← hC]; exact Heap.lt_size (keep2 b o e)⟩
    rw [← hH3, au (by rw [← hD]; exact Nat.ne_of_lt (Heap.lt_size e))]
    exact (f2 b hb).1
  have hcells : ∀ {z : Str} {c : Addr}, (dk scope.names X.env.cells []).lookup z = some c → X.env.cells.lookup z = some c := fun h => lX (fun _ _ q => by cases q) h
  have hX : (bv X scope C (x :: ys) s3 H3 fp).Ok := by
    refine ⟨I3.ok.mod, S.kind, I3.ok.glob, I3.ok.blt, Nat.le_of_eq hC, fun y z c h1 h2 => I3.ok.inj y z c (hcells h1) (hcells h2), fun y hy => ?_, fun y c h _ => absurd (show false = true from h) Bool.false_ne_true, I3.ok.hd, I3.ok.frames, .inl rfl, fun b hb => ⟨Nat.ne_of_lt (fp3 b hb).2, fun y c h => (f2 b hb).2.2.2.2.1 y c (hcells h)⟩, fun b o e => I3.bs b o e, Nat.le_trans I3.ok.bsz I3.sz, fun b o e hb => ?_, fun b hb z => ?_, I3.stack, I3.stkFree⟩
    · have hy : (relabel scope X.env).names.lookup y = some .cell ∨ (relabel scope X.env).names.lookup y = some .free := hy
      have hm : (y, NameKind.free) ∈ scope.names := by
        rcases hy with q | q
        · exact gZ S.nocell q (.inl rfl)
        · exact gZ S.nocell q (.inr rfl)
      have hs : ∃ c, X.env.cells.lookup y = some c := by
        by_cases hk : X.env.kindOf y = some .cell ∨ X.env.kindOf y = some .free
        · exact I3.ok.has y hk
        · exact absurd (ma hcap (S.all _ hm rfl)) hk
      exact Option.isSome_iff_exists.mp (iY hm (Option.isSome_iff_exists.mpr hs))
    · rcases (f2 b hb).2.2.2.1 with z | z
      · exact I3.ok.noex b o e z
      · exact absurd (Nat.lt_of_lt_of_le (Heap.lt_size e) (Nat.le_trans I3.ok.bsz z)) (Nat.lt_irrefl _)
    · rcases List.mem_cons.mp (I3.stkSub b z) with q | q
      · exact (f2 b hb).2.1 q
      · exact (f2 b hb).2.2.1 q
  have I4 : Inv (bv X scope C (x :: ys) s3 H3 fp) [] (none :: bI σ is) H3 { s2 with heap := h₁, toks := s2.toks + ([] : List (Str × Value)).length } := by
    obtain ⟨m3, hm3, hl3⟩ := id I3.loc
    refine ⟨hX, ?_, ?_, Un.kept keep3, ⟨_, hns₁, fun i y v e1 e2 e3 => ?_⟩, fun y c e => ?_, ?_, fun y c e => I3.freeC y c (hcells e), fun p hp => absurd (show p ∈ ([] : List (Addr × Obj)) from hp) (by simp), I3.hok.kept keep3, ?_⟩
    · show s2.os = s3.os
      rw [← hs3]
    · have := I2.bare; exact this
    · cases i with
      | zero => simp at e2
      | succ j =>
        obtain ⟨u, r, hfr, c, ec, ic⟩ := um hcap hl3 trivial j y v (by have e1' : (x :: ys)[j + 1]? = some y := e1; simpa using e1') (by simpa using e2)
        have hk := pB (env := X.env) hfr
        obtain ⟨c', ec'⟩ := Option.isSome_iff_exists.mp (iY (cs := []) (kD hfr) (by rw [ec]; rfl) (cells := X.env.cells))
        have : c' = c := by have := hcells ec'; rw [ec] at this; exact (Option.some.inj this).symm
        subst this
        obtain ⟨o, ho, hd⟩ := ic
        exact ⟨u, r, .inr ⟨hk, c', ec', o, keep3 _ _ ho, hd⟩⟩
    · obtain ⟨v, o, ho, hd⟩ := I3.cell y c (hcells e)
      exact ⟨v, o, keep3 _ _ ho, hd⟩
    · have := I3.hok.fresh (a := C) (Nat.le_of_eq hC)
      exact this
    · have := wY hcap
      show (none :: bI σ is).length = (x :: ys).length
      simp [bI, this]
  have lenσ : ∀ v : Option V, (v :: bI σ is).set 0 = fun w => w :: bI σ is := fun v => rfl
  have hown : (relabel scope X.env).names.lookup x = some .local := mO S.own
  have loop : codeAny (model X.prog X.w) X.A (.compLoop (.ListComp elt [⟨.Name x px, iter, ifs, 0⟩] scope pos) 0 (.ref it) (.ref D) (compEnvC scope (dk scope.names X.env.cells []) C X.env)) (RR (.ref D) C)
      { s2 with heap := h₁, toks := s2.toks + ([] : List (Str × Value)).length } := by
    have fin : ∀ {H' : Hp} {v : Option V} {s' : Shared}, Inv (bv X scope C (x :: ys) s3 H3 fp) [] (v :: bI σ is) H' s' → Q (.ref D) H' → RR (.ref D) C (.ok .next) s' := fun {H' v s'} J q => by
      obtain ⟨m', hm', _⟩ := J.loc
      have hCL : C ≠ X.env.locals := Ne.symm (by rw [← hC]; exact Nat.ne_of_lt I3.lt)
      have back : ∀ h', Heap.SameBut C s'.heap h' → Inv X pins σ H' { s' with heap := h' } := fun h' hs' => by
        have os' : s'.os = s3.os := J.os
        refine I3.call' (s' := { s' with heap := h' }) (ch := fp) os' ⟨fun b o e n hb hx => ?_, fun b o e n hb hx => ?_, fun b o e n hx => J.base.free b o e n hx, fun b o e hx => ?_, J.base.tups, J.base.frzs, J.base.tbls⟩ (fun b o e => ?_) J.bare fun b hb => ?_
        · exact hs'.extBut b o (by rw [← hC]; exact Nat.ne_of_lt (Heap.lt_size e)) (J.base.keep b o e n hb hx)
        · obtain ⟨sl, e1⟩ := J.base.slot b o e n hb hx
          exact ⟨sl, hs'.extBut b _ (by rw [← hC]; exact Nat.ne_of_lt (Heap.lt_size e)) e1⟩
        · obtain ⟨o', e1⟩ := J.base.there b o e hx
          exact ⟨o', hs'.extBut b _ (by rw [← hC]; exact Nat.ne_of_lt (Heap.lt_size e)) e1⟩
        · refine (J.hok b o e).stay (fun c w' hc q => (hs'.2 c ?_).trans q) (fun _ q => q) fun _ _ q => q
          have fC : H' C = none := J.free
          rintro rfl
          rcases hc with rfl | hc
          · rw [fC] at e; cases e
          · rw [fC] at hc; cases hc
        · obtain ⟨_, a1, _, a2, a3, a4⟩ := f2 b hb
          exact ⟨a2, a1, a3, a4⟩
      refine hRR D C H' s' ⟨by rw [← hC]; exact I3.sz, fun p hp => by rw [← hC]; exact Nat.ne_of_lt (Heap.lt_size (I3.pin p hp).1)⟩ ⟨m', hm'⟩ hCL J.free ?_ back q
      have := back s'.heap (.refl ..)
      exact this
    have stat : ∀ {H' : Hp}, (∀ b ∈ fp, H' b = none) → ∀ b ∈ fp, iM (bv X scope C (x :: ys) s3 H3 fp) [] H' b := fun hn b hb => by
      obtain ⟨_, a1, a5, a2, a3, a4⟩ := f2 b hb
      refine ⟨hn b hb, Nat.ne_of_lt (fp3 b hb).2, fun z => ?_, .inl hb, fun y c e => a3 y c (hcells e), fun p hp => absurd (show p ∈ ([] : List (Addr × Obj)) from hp) (by simp)⟩
      rcases List.mem_cons.mp (I3.stkSub b z) with q | q
      · exact a1 q
      · exact a5 q
    have turnAt : ∀ n s, (∃ i v ys' H', Inv (bv X scope C (x :: ys) s3 H3 fp) [] (v :: bI σ is) H' s ∧ tn i s.heap ∧ (∀ b ∈ fp, H' b = none) ∧ W i n ys' H') →
        wpAny (model X.prog X.w) X.A (pyNext (.ref it)) (fun r s₁ => match r with
          | none => RR (.ref D) C (.ok .next) s₁
          | some u => wpAny (model X.prog X.w) X.A (letOwnedTupleGo (.Name x px) (.ref it) u) (fun _ s₁ => wpAny (model X.prog X.w) X.A (assign (.Name x px) (compEnvC scope (dk scope.names X.env.cells []) C X.env) u) (fun _ s₂ =>
            ∃ (xx : V) (i : Nat) (ys' : List V) (H3' H6 : Hp) (pl : List (Addr × Obj)), Inv (bv X scope C (x :: ys) s3 H3 fp) ([] ++ pl) (some xx :: bI σ is) H6 s₂ ∧
              (∀ s7 v7 H7, Inv (bv X scope C (x :: ys) s3 H3 fp) ([] ++ pl) (v7 :: bI σ is) H7 s7 → Inv (bv X scope C (x :: ys) s3 H3 fp) [] (v7 :: bI σ is) H7 s7 ∧ tn (i + 1) s7.heap ∧ ∀ b ∈ fp, H7 b = none) ∧
              (tc (some xx :: bI σ is) H6 fun b H4 => if b = true then te (some xx :: bI σ is) H4 fun y H5 => H5 D = some (.lst ys') ∧ ys'.length < sizeLine ∧ ∃ m', m' < n ∧ W (i + 1) m' (ys' ++ [y]) (upd H5 D (.lst (ys' ++ [y])))
                else ∃ m', m' < n ∧ W (i + 1) m' ys' H4)) (fun _ _ => False) s₁) (fun _ _ => False) s₁) (fun _ _ => False) s := by
      rintro n s ⟨i, v, ys', H', J, st, fr, w'⟩
      rcases turn i n ys' H' w' with ⟨stop, qn⟩ | ⟨go, step⟩
      · refine thn (T.done (bv X scope C (x :: ys) s3 H3 fp) rfl rfl rfl hc i [] s _ H' (fun _ _ => False) J (stat fr) st stop) fun r s4 ⟨hr, J4⟩ => ?_
        subst hr
        exact fin J4 qn
      · refine thn (T.item (bv X scope C (x :: ys) s3 H3 fp) rfl rfl rfl hc i [] s _ H' (fun _ _ => False) J (stat fr) st go) fun r s4 ⟨u, hr, h4⟩ => ?_
        subst hr
        refine thn h4 fun _ s5 ⟨xx, H5, J5, r5, y5, st5, fr5⟩ => ?_
        have J5' := J5.pinned (stat fr5) (T.obj _ _ st5)
        refine wpAny_assign_Name (eU (i := 0) J5' S.nd rfl (.inl hown) r5 (fun s6 J6 => ?_) (.inr hown))
        refine ⟨xx, i, ys', H5, H5, iZ fp s5.heap, J6, fun s7 v7 H7 J7 => ⟨J7.unpinned, T.keep _ _ _ st5 fun b hb o e => (J7.pin (b, o) (List.mem_append_right _ (List.mem_append_right _ (fJ hb e)))).1, fun b hb => ?_⟩, step xx H5 y5⟩
        obtain ⟨o, e, d⟩ := T.obj _ _ st5 b hb
        exact (J7.pin (b, o) (List.mem_append_right _ (List.mem_append_right _ (fJ hb e)))).2.1
    have start0 : ∃ i v ys' H', Inv (bv X scope C (x :: ys) s3 H3 fp) [] (v :: bI σ is) H' { s2 with heap := h₁, toks := s2.toks + ([] : List (Str × Value)).length } ∧ tn i h₁ ∧ (∀ b ∈ fp, H' b = none) ∧ W i m0 ys' H' :=
      ⟨0, none, [], H3, I4, st4, fun b hb => (fp3 b hb).1, w0⟩
    have emit : ∀ (n : Nat) (xx : V) (i : Nat) (ys' : List V) (H4 : Hp) (pl : List (Addr × Obj)) (s₂ : Shared), Inv (bv X scope C (x :: ys) s3 H3 fp) ([] ++ pl) (some xx :: bI σ is) H4 s₂ →
        (∀ s7 v7 H7, Inv (bv X scope C (x :: ys) s3 H3 fp) ([] ++ pl) (v7 :: bI σ is) H7 s7 → Inv (bv X scope C (x :: ys) s3 H3 fp) [] (v7 :: bI σ is) H7 s7 ∧ tn (i + 1) s7.heap ∧ ∀ b ∈ fp, H7 b = none) →
        (te (some xx :: bI σ is) H4 fun y H5 => H5 D = some (.lst ys') ∧ ys'.length < sizeLine ∧ ∃ m', m' < n ∧ W (i + 1) m' (ys' ++ [y]) (upd H5 D (.lst (ys' ++ [y])))) →
        wpAny (model X.prog X.w) X.A (eval elt (compEnvC scope (dk scope.names X.env.cells []) C X.env)) (fun y s₃ => wpAny (model X.prog X.w) X.A (call (.builtin "list.append") [.ref D, y]) (fun _ s₄ =>
          ∃ m, m < n ∧ ∃ i v ys' H', Inv (bv X scope C (x :: ys) s3 H3 fp) [] (v :: bI σ is) H' s₄ ∧ tn i s₄.heap ∧ (∀ b ∈ fp, H' b = none) ∧ W i m ys' H') (fun _ _ => False) s₃) (fun _ _ => False) s₂ := by
      intro n xx i ys' H4 pl s₂ J2 back q
      refine thn (he C s3 H3 fp ([] ++ pl) s₂ _ H4 _ J2 q) fun y s₃ ⟨yv, H5, J3, r3, q1, q2, q3⟩ => ?_
      refine thn (eK (X := bv X scope C (x :: ys) s3 H3 fp) ([] ++ pl) s₃ _ H5 (.ref D) [yv] (.ref D) [y] (fun v H7 => v = .non ∧ H7 = upd H5 D (.lst (ys' ++ [yv]))) J3 rfl (.cons r3 .nil) ⟨D, ys', yv, rfl, rfl, q1, q2, rfl, rfl⟩) fun _ s₄ ⟨_, H7, J4, _, _, e7⟩ => ?_
      subst e7
      obtain ⟨m', hm', w'⟩ := q3
      obtain ⟨b1, b2, b3⟩ := back s₄ _ _ J4
      exact ⟨m', hm', i + 1, some xx, ys' ++ [yv], _, b1, b2, b3, w'⟩
    have ex0 : ∀ {α : Type} {t : Sem α} {Q' : α → Shared → Prop} {E' : Value → Shared → Prop} {s : Shared}, wpAny (model X.prog X.w) X.A t Q' (fun _ _ => False) s → wpAny (model X.prog X.w) X.A t Q' E' s := fun h => wpAny_mono h (fun _ _ q => q) fun _ _ q => q.elim
    cases ifs with
    | nil =>
      have htc : tc = fun _ H Q => Q true H := hif C s3 H3 fp
      subst htc
      refine iD (fun n s => ∃ i v ys' H', Inv (bv X scope C (x :: ys) s3 H3 fp) [] (v :: bI σ is) H' s ∧ tn i s.heap ∧ (∀ b ∈ fp, H' b = none) ∧ W i n ys' H') (fun n s hI => ?_) m0 start0
      refine wpAny_mono (turnAt n s hI) (fun r s₁ h₁ => ?_) fun _ _ q => q.elim
      cases r with
      | none => exact h₁
      | some u =>
        refine wpAny_mono h₁ (fun _ s₁ h₁ => wpAny_mono h₁ (fun _ s₂ h₂ => ?_) fun _ _ q => q.elim) fun _ _ q => q.elim
        obtain ⟨xx, i, ys', _, H6, pl, J2, back, q⟩ := h₂
        dsimp only at q
        rw [if_pos rfl] at q
        exact wpAny_mono (emit n xx i ys' H6 pl s₂ J2 back q) (fun y s₃ h₃ => ex0 h₃) fun _ _ q => q.elim
    | cons c r0 =>
      cases r0 with
      | cons _ _ => exact (hif C s3 H3 fp).elim
      | nil =>
        have hpt : PT (bv X scope C (x :: ys) s3 H3 fp) c tc := hif C s3 H3 fp
        refine iG (fun n s => ∃ i v ys' H', Inv (bv X scope C (x :: ys) s3 H3 fp) [] (v :: bI σ is) H' s ∧ tn i s.heap ∧ (∀ b ∈ fp, H' b = none) ∧ W i n ys' H') (fun n s hI => ?_) m0 start0
        refine wpAny_mono (turnAt n s hI) (fun r s₁ h₁ => ?_) fun _ _ q => q.elim
        cases r with
        | none => exact h₁
        | some u =>
          refine wpAny_mono h₁ (fun _ s₁ h₁ => wpAny_mono h₁ (fun _ s₂ h₂ => ?_) fun _ _ q => q.elim) fun _ _ q => q.elim
          obtain ⟨xx, i, ys', _, H6, pl, J2, back, q⟩ := h₂
          refine wpAny_mono (hpt ([] ++ pl) s₂ _ H6 _ J2 q) (fun b s₃ h₃ => ?_) fun _ _ q => q.elim
          obtain ⟨H4, J4, q4⟩ := h₃
          cases b with
          | true =>
            rw [if_pos rfl] at q4 ⊢
            exact wpAny_mono (emit n xx i ys' H4 pl s₃ J4 back q4) (fun y s₃ h₃ => ex0 h₃) fun _ _ q => q.elim
          | false =>
            rw [if_neg Bool.false_ne_true] at q4 ⊢
            obtain ⟨m', hm', w'⟩ := q4
            obtain ⟨b1, b2, b3⟩ := back s₃ _ _ J4
            exact ⟨m', hm', i + 1, some xx, ys', _, b1, b2, b3, w'⟩
  exact codeAny_compStart_list loop (T.self X.A 0 _ _ _ st4 loop)
end
end L2
namespace L2
open PySem PySem.Spec PyProof.Rows
section
variable {X:Cx}
theorem qX {scope:Scope} {x:Str} {ys:List Str} {is:List Nat} (ok:X.Ok) (S:eI scope x ys) (hcap:fw X scope ys is):closureFor scope X.env=pure (dk scope.names X.env.cells []):=
 pe fun y hy hk=>by
  obtain ⟨c,e⟩:=ok.has y.1 (ma hcap (S.all y hy hk))
  rw [e];rfl
theorem yU {elt iter:Expr} {ifs:List Expr} {x:Str} {px pos:Pos} {scope:Scope} {ys:List Str} {is:List Nat} {wi:TI} {tc:TT} {te:TE}
  (hc:X.calm=true) (S:eI scope x ys) (hcap:fw X scope ys is) (hi:PI X (.Name x px) iter wi)
  (hif:∀ C s H fp,sx (bv X scope C (x::ys) s H fp) ifs tc) (he:∀ C s H fp,PE (bv X scope C (x::ys) s H fp) elt te)
  (hs:∀ x,foldedSetIterable iter X.env x=pure x:=by intro _;rfl):PE X (.ListComp elt [⟨.Name x px,iter,ifs,0⟩] scope pos) (ik is wi tc te):=by
 intro pins s σ H Q I h
 rw [eval_ListComp]
 refine wpAny_comprehension_free (use:=none) rfl hs (qX I.ok S hcap) S.kind S.names (thn (hi pins s σ H _ I h) fun v s1 h1=>thn h1 fun itv s2 h2=>?_)
 obtain ⟨it,fp,tn,J,H2,rfl,I2,T,st2,f2,hW⟩:=h2
 refine mD (RR:=fun acc C=>compPost (model X.prog X.w) X.A X.xe none (EP X pins σ Q) acc C) hc S hcap hif he I2 T st2 f2 hW ?_
 intro D C H' s' hlt hns hne hfr I' back q
 obtain ⟨m,hm⟩:=hns
 exact ⟨m,hm,fun h' hs'=>⟨.ref D,H',back h' hs',rfl,q⟩⟩
theorem tw {elt iter:Expr} {ifs:List Expr} {x y:Str} {px py pos spos:Pos} {scope:Scope} {ys:List Str} {is:List Nat} {wi:TI} {tc:TT} {te:TE} {j:Nat}
  (hN:X.N.Nodup) (hj:X.N[j]?=some y) (hy:Loc X.env.scope y)
  (hc:X.calm=true) (S:eI scope x ys) (hcap:fw X scope ys is) (hi:PI X (.Name x px) iter wi)
  (hif:∀ C s H fp,sx (bv X scope C (x::ys) s H fp) ifs tc) (he:∀ C s H fp,PE (bv X scope C (x::ys) s H fp) elt te)
  (hsw:swapsWith (.ListComp elt [⟨.Name x px,iter,ifs,0⟩] scope pos) (some (.Name y py)) spos.line X.env=pure true:=by rfl)
  (hf:X.fn y=true∨X.env.scope.names.lookup y=some .local:=by first | exact .inl rfl | exact .inr rfl | assumption)
  (hs:∀ x,foldedSetIterable iter X.env x=pure x:=by intro _;rfl):PS X (.Assign [.Name y py] (.ListComp elt [⟨.Name x px,iter,ifs,0⟩] scope pos) spos) (aC (ik is wi tc te) (av j)):=by
 intro pins s σ H D I h
 rw [exec_Assign_Name_used _ _ _ _ hsw]
 refine wpAny_bind (wpAny_standAt (wpAny_bind ?_))
 show wpAny _ X.A (do let _←comprehension (.ListComp elt [⟨.Name x px,iter,ifs,0⟩] scope pos) scope X.env _ (newList []) false (eval iter X.env) (some (assign (.Name y py) X.env))) _ _ s
 refine wpAny_bind (wpAny_mono (wpAny_comprehension_free (use:=some (assign (.Name y py) X.env)) (Q:=fun _ s'=>SP X pins D .next s') rfl hs (qX I.ok S hcap) S.kind S.names
  (thn (hi pins s σ H _ I h) fun v s1 h1=>thn h1 fun itv s2 h2=>?_)) (fun _ s' hq=>wpAny_pure (wpAny_pure hq)) fun _ _ e=>e)
 obtain ⟨it,fp,tn,J,H2,rfl,I2,T,st2,f2,hW⟩:=h2
 refine mD (Q:=fun x H1=>av j x σ H1 D.nx) (RR:=fun acc C=>compPost (model X.prog X.w) X.A X.xe (some (assign (.Name y py) X.env)) (fun _ s'=>SP X pins D .next s') acc C) hc S hcap hif he I2 T st2 f2 hW ?_
 intro Da C H' s' hlt hns hne hfr I' back q
 show wpAny _ X.A (assign (.Name y py) X.env (.ref Da)) _ _ _
 obtain ⟨m,hm⟩:=hns
 refine wpAny_assign_Name (mB I' hN hj hy (v:=.ref Da) rfl (fun s2 I2' ⟨a,hsb,ha⟩=>?_) hf)
 have hCa:C≠a:=by
  rcases ha with e | e
  · rw [e];exact hne
  · rintro rfl
    obtain ⟨v,o,ho,hd⟩:=I'.cell y C e
    obtain ⟨o2,es,ep,ho2,hd2,_⟩:=hm
    rw [ho] at ho2;cases ho2;rw [hd] at hd2;cases hd2
 refine ⟨m,hm.sameBut hsb hCa,fun h' hs'=>?_⟩
 have hCn:∀ y c,X.env.cells.lookup y=some c→c≠C:=fun z c e q=>by
  subst q
  obtain ⟨v,o,ho,hd⟩:=I'.cell z c e
  obtain ⟨o2,es,ep,ho2,hd2,_⟩:=hm
  rw [ho] at ho2;cases ho2;rw [hd] at hd2;cases hd2
 have I3:Inv X pins (σ.set j (some (.ref Da))) H' { s2 with heap:=h' }:=by
  refine I2'.step (g':=s2.gens) (d':=s2.drawn) (t':=s2.toks) (ch:=[C]) (fun b hb=>?_) (fun b o _ _ hb e _=>(hs'.2 b (fun z=>hb (by simp [z]))).trans e) (fun b o _ _ hb e _=>⟨o.slots,(hs'.2 b (fun z=>hb (by simp [z]))).trans e⟩) (fun _ _ _ _ n=>n) (fun b o hb e=>⟨o,(hs'.2 b (fun z=>hb (by simp [z]))).trans e⟩)
    (fun _ _ e=>e) (fun _ _ _ e=>e) (fun b ps e=>⟨#[],by rw [e];simp⟩) (fun m' hm'=>hm'.sameBut hs' (Ne.symm hne)) (fun b o e=>?_) I2'.bare
  · have e:b=C:=by simpa using hb
    subst e
    exact ⟨.inr hlt.1,hne,fun z c e=>hCn z c e,hlt.2⟩
  · refine (I2'.hok b o e).stay (fun c w' hc q=>(hs'.2 c ?_).trans q) (fun _ q=>q) fun _ _ q=>q
    rintro rfl
    rcases hc with rfl | hc
    · rw [hfr] at e;cases e
    · rw [hfr] at hc;cases hc
 exact ⟨_,H',I3,q⟩
end
end L2
namespace L2
open PySem PySem.Spec PyProof.Rows
def tyN (H : Hp) : V → Option String
  | .non => some "NoneType"
  | .bl _ => some "bool"
  | .int _ => some "int"
  | .str _ => some "str"
  | .ref a => match H a with
    | some (.lst _) => some "list"
    | some (.frz _ (.lst _)) => some "list"
    | some (.tup _) => some "tuple"
    | some (.dK _) => some "dict"
    | some (.dT _) => some "dict"
    | _ => none
  | _ => none
theorem BD {K : W.Frag} {H : Hp} {x : V} {t : String} (h : tyN H x = some t) : eW K H x (.type t) := by
  cases x with
  | non => cases h; exact .non
  | bl b => cases h; exact .bl b
  | int i => cases h; exact .int i
  | str x => cases h; exact .str x
  | byt _ => cases h
  | flt _ => cases h
  | ty _ => cases h
  | ref a =>
    unfold tyN at h
    dsimp only at h
    split at h
    · rename_i e; cases h; exact .lst e
    · rename_i e; cases h; exact .frz e
    · rename_i e; cases h; exact .tup e
    · rename_i e; cases h; exact .dK e
    · rename_i e; cases h; exact .dT e
    · cases h
def tyL:List String:=["NoneType", "bool", "int", "str", "list", "tuple", "dict"]
theorem As {H : Hp} {x : V} {t : String} (h : tyN H x = some t) : t ∈ tyL := by
  cases x with
  | non => cases h; decide
  | bl b => cases h; decide
  | int i => cases h; decide
  | str x => cases h; decide
  | byt _ => cases h
  | flt _ => cases h
  | ty _ => cases h
  | ref a =>
    unfold tyN at h
    dsimp only at h
    split at h <;> first | (cases h; decide) | cases h
def isI (t T:String):Bool:=t==T||(T== "int" &&t== "bool")
theorem Aq (K:W.Frag):∀ t∈tyL,∀ T∈["int", "bool", "str", "tuple", "list", "dict"],W.kitOne K (.type t) (.type T)=some (isI t T):=by
 intro t ht T hT
 simp only [tyL,List.mem_cons,List.not_mem_nil,or_false] at ht hT
 rcases ht with rfl | rfl | rfl | rfl | rfl | rfl | rfl <;> rcases hT with rfl | rfl | rfl | rfl | rfl | rfl <;> (unfold W.kitOne;first | rfl | decide +kernel | (simp only [W.kitCls];rfl))
section
variable {X:Cx}
theorem wy:bG X (.builtin "isinstance") (fun xs H Q=>∃ x T t,xs=[x,.ty T]∧T∈["int", "bool", "str", "tuple", "list", "dict"]∧tyN H x=some t∧Q (.bl (isI t T)) H):=by
 intro pins s σ H xs us Q I r h
 obtain ⟨x,T,t,rfl,hT,ht,q⟩:=h
 obtain ⟨u,w',rfl,r1,r2⟩:=nM r
 cases r2
 exact uR I r1 (BD ht) (Aq X.K t (As ht) T hT) fun tk=>⟨.bl _,H,I.tok tk,rfl,q⟩
end
end L2
namespace L2
open PySem PySem.Spec PyProof.Rows
section
variable {X:Cx}
theorem qU : ∀ {bs : List Bool} {us : List Value}, aX (bs.map V.bl) us → us = bs.map Value.bool
  | [], _, .nil => rfl
  | b :: bs, _, .cons r t => by
    have e : _ = Value.bool b := r
    rw [qU t, List.map_cons, e]
theorem ug (bs:List Bool):(List.range bs.length).all (fun i=>bs.getD i false)=bs.all id:=by
 rw [Bool.eq_iff_iff,List.all_eq_true,List.all_eq_true]
 constructor
 · intro h b hb
   obtain ⟨i,hi,e⟩:=List.mem_iff_getElem.mp hb
   have:=h i (List.mem_range.mpr hi)
   simp only [List.getD_eq_getElem?_getD,List.getElem?_eq_getElem hi,Option.getD_some] at this
   rw [← e];exact this
 · intro h i hi
   have hi:=List.mem_range.mp hi
   simp only [List.getD_eq_getElem?_getD,List.getElem?_eq_getElem hi,Option.getD_some]
   exact h _ (List.getElem_mem hi)
theorem pY {prog : Program} {w : World} {A : Around} {bs : List Bool} : TruthOf prog w A (fun i v => (bs.map Value.bool).toArray[i]? = some v) (fun i => bs.getD i false) := by
  intro i v s Q E hP hQ
  have hP : (bs.map Value.bool)[i]? = some v := by simpa using hP
  rw [List.getElem?_map] at hP
  cases e : bs[i]? with
  | none => rw [e] at hP; cases hP
  | some b =>
    rw [e] at hP
    cases hP
    have hQ' : Q b s := by
      have e2 : bs.getD i false = b := by rw [List.getD_eq_getElem?_getD, e]; rfl
      have hQ2 : Q (bs.getD i false) s := hQ
      rw [e2] at hQ2; exact hQ2
    exact wpAny_of_eq (a := b) rfl hQ'
theorem xF (hc:X.calm=true):bG X (.builtin "all") (fun xs H Q=>∃ (a:Addr) (bs:List Bool),xs=[.ref a]∧H a=some (.lst (bs.map V.bl))∧Q (.bl (bs.all id)) H):=by
 intro pins s σ H xs us Q I r h
 obtain ⟨a,bs,rfl,hH,q⟩:=h
 obtain ⟨u,rfl,ru⟩:=fk r
 cases ru
 obtain ⟨z,its,n,rv,e⟩:=I.hok a _ hH
 have ei:=qU rv
 subst ei
 have hl:s.heap.IsList a (bs.map Value.bool).toArray:=⟨_,e,rfl,_,rfl⟩
 refine call_all_walk (wpAny_pyIter_list hl ?_)
 have hne:a≠s.heap.objs.size:=Nat.ne_of_lt (Heap.lt_size e)
 refine ⟨s.heap.objs.size,_,_,_,_,_,_,rfl,Walks.list (by show X.A.handled=none;exact I.ok.hd hc) _ a hne (bs.map Value.bool).toArray,⟨⟨_,Heap.get?_push_size _ rfl,rfl,rfl⟩,⟨_,Heap.get?_push_of_some _ e,rfl,_,rfl⟩⟩,pY,fun h' tk hk=>?_⟩
 have e2:((bs.map Value.bool).toArray).size=bs.length:=by simp
 rw [e2,ug]
 refine ⟨.bl _,H,I.kept (t':=tk) fun b o hb=>hk b o ?_ (Heap.get?_push_of_some _ hb),rfl,q⟩
 intro z
 have:b=s.heap.objs.size:=by simpa using z
 rw [this] at hb
 exact absurd (Heap.lt_size hb) (Nat.lt_irrefl _)
theorem qM : ∀ {xs : List Str} {us : List Value}, aX (xs.map V.str) us → StrsAre us xs
  | [], _, .nil => .nil
  | x :: xs, _, .cons r t => by
    obtain ⟨tk, e⟩ := (show ∃ t, _ = Value.str x t from r)
    rw [e]
    exact .cons _ _ (qM t)
def yC:V→List V→Hp→VK→Prop:=fun x vs H Q=>∃ (z:Str) (a:Addr) (xs:List Str),x=.str z∧vs=[.ref a]∧H a=some (.lst (xs.map V.str))∧(xs.map (·.length)).sum+xs.length*z.length≤16777216∧Q (.str (Txt.join z xs)) H
theorem zC:MtM X "str.join" yC:=by
 intro pins s σ H x vs v us Q I rx rv h
 obtain ⟨z,a,xs,rfl,rfl,hH,hz,q⟩:=h
 obtain ⟨t,rfl⟩:=(show ∃ t,v=Value.str z t from rx)
 obtain ⟨u,rfl,ru⟩:=rv.one
 cases ru
 obtain ⟨_,its,n,rv,e⟩:=I.hok a _ hH
 refine join_list (items:=its.toArray) ⟨_,e,rfl,_,rfl⟩ (by simpa using qM rv) hz fun t' k=>⟨.str _,H,I.tok k,⟨_,rfl⟩,q⟩
end
end L2
namespace L2
open PySem PySem.Spec PyProof.Rows
@[irreducible] def Sel (b:Bool) (A B:Prop):Prop:=if b=true then A else B
theorem Sel.mk {b:Bool} {A B:Prop} (h1:b=true→A) (h2:b=false→B):Sel b A B:=by
 unfold Sel
 cases b with
 | true=>exact h1 rfl
 | false=>exact h2 rfl
theorem Sel.t {A B:Prop} (h:A):Sel true A B:=.mk (fun _=>h) fun e=>by cases e
theorem Sel.f {A B:Prop} (h:B):Sel false A B:=.mk (fun e=>by cases e) fun _=>h
theorem Sel.dec {p A B:Prop} [Decidable p] (h1:p→A) (h2:¬ p→B):Sel (decide p) A B:=.mk (fun e=>h1 (of_decide_eq_true e)) fun e=>h2 (of_decide_eq_false e)
theorem Sel.ndec {p A B:Prop} [Decidable p] (h1:¬ p→A) (h2:p→B):Sel (!decide p) A B:=.mk (fun e=>h1 (by simpa using e)) fun e=>h2 (by simpa using e)
theorem Sel.yes {b:Bool} {A B:Prop} (e:b=true) (h:A):Sel b A B:=by rw [e];exact .t h
theorem Sel.no {b:Bool} {A B:Prop} (e:b=false) (h:B):Sel b A B:=by rw [e];exact .f h
theorem dN {b:Bool} {A B:Prop} (h:Sel b A B):if b=true then A else B:=by unfold Sel at h;exact h
def ae (i:Nat):TE:=fun σ H Q=>match σ[i]? with | some (some v)=>Q v H | _=>False
section
variable {X:Cx}
theorem PE.imp {e:Expr} {t t':TE} (h:PE X e t) (i:∀ σ H Q,t' σ H Q→t σ H Q):PE X e t':=fun pins s σ H Q I q=>h pins s σ H Q I (i _ _ _ q)
theorem OpR.imp {f:Value→Value→Sem Value} {r r':R2} (h:OpR X f r) (i:∀ x y H Q,r' x y H Q→r x y H Q):OpR X f r':=fun pins s σ H x y v u Q I rx ry q=>h pins s σ H x y v u Q I rx ry (i _ _ _ _ q)
theorem qv (i:Nat) {x:Str} {pos:Pos} (hN:X.N[i]?=some x:=by rfl) (hv:Vis X.env.scope x:=by first | exact Or.inl rfl | exact Or.inr (Or.inl rfl) | exact Or.inr (Or.inr rfl)) (hd:(x==("__debug__" :Str))=false:=by decide)
   (hcd:(x==("__classdict__" :Str))=false:=by decide):PE X (.Name x pos) (ae i):=(AJ hN hv hd hcd).imp fun σ H Q q=>by
 unfold ae at q
 split at q
 · rename_i v e;exact ⟨v,e,q⟩
 · exact q.elim
theorem qgi {x:Str} {i:Int} {pos:Pos} (hm:∃ t,X.mg x=some (.int i t)) (hg:Gl X x:=by rfl) (hd:(x==("__debug__" :Str))=false:=by decide):PE X (.Name x pos) (tC (.int i)):=by
 obtain ⟨t,e⟩:=hm
 exact lO hg e ⟨t,rfl⟩ hd
def bQ:R2:=fun x y H Q=>match x,y with | .int i,.int j=>Q (.int (i - j)) H | _,_=>False
theorem dm:OpR X (binaryOp .Sub) bQ:=BJ.imp fun x y H Q q=>by
 unfold bQ at q
 split at q
 · exact ⟨_,_,rfl,rfl,q⟩
 · exact q.elim
theorem yO:OpR X (binaryOp .Mult) (rI IntMulOk fun i j=> .int (i*j)):=opI fun _ _ _ _ _ _ _ hc q=>mul_int q hc
def xh:R2:=fun x y H Q=>match x,y with
 | .int i,.int j=>IntMulOk i j∧Q (.int (i*j)) H
 | _,_=>False
theorem HV:OpR X (binaryOp .Mult) xh:=yO.imp fun x y H Q q=>by
 unfold xh at q
 split at q
 · exact ⟨_,_,rfl,rfl,q.1,q.2⟩
 · exact q.elim
def aT:R2:=fun x y H Q=>match x,y with | .int i,.int j=>0<j∧Q (.int (i%j)) H | _,_=>False
theorem bj:OpR X (binaryOp .Mod) aT:=Ay.imp fun x y H Q q=>by
 unfold aT at q
 split at q
 · exact ⟨_,_,rfl,rfl,q.1,q.2⟩
 · exact q.elim
def lS:R2:=fun x y H Q=>match x,y with | .int i,.int j=>(0≤j∧j≤1000000∧i.natAbs<2^64)∧Q (.int (i^j.toNat)) H | _,_=>False
theorem sM:OpR X (binaryOp .Pow) lS:=Ao.imp fun x y H Q q=>by
 unfold lS at q
 split at q
 · exact ⟨_,_,rfl,rfl,q.1,q.2⟩
 · exact q.elim
def dX:R2:=fun x y H Q=>match x,y with | .int i,.int j=>(0≤j∧j≤1000000∧i.natAbs<2^64)∧Q (.int (i*2^j.toNat)) H | _,_=>False
theorem gD:OpR X (binaryOp .LShift) dX:=AR.imp fun x y H Q q=>by
 unfold dX at q
 split at q
 · exact ⟨_,_,rfl,rfl,q.1,q.2⟩
 · exact q.elim
def iS:R2:=fun x y H Q=>match x,y with | .int i,.int j=>0≤j∧Q (.int (i/2^j.toNat)) H | _,_=>False
theorem sw:OpR X (binaryOp .RShift) iS:=Be.imp fun x y H Q q=>by
 unfold iS at q
 split at q
 · exact ⟨_,_,rfl,rfl,q.1,q.2⟩
 · exact q.elim
def wF:R2:=fun x y H Q=>match x,y with | .int i,.int j=>Q (.int (Builtin.bitXor i j)) H | _,_=>False
theorem GQ:OpR X (binaryOp .BitXor) wF:=CO.imp fun x y H Q q=>by
 unfold wF at q
 split at q
 · exact ⟨_,_,rfl,rfl,q⟩
 · exact q.elim
def rC:R2:=fun x y H Q=>match x,y with | .int i,.int j=>Q (.int (Builtin.bitAnd i j)) H | _,_=>False
theorem Fg:OpR X (binaryOp .BitAnd) rC:=AN.imp fun x y H Q q=>by
 unfold rC at q
 split at q
 · exact ⟨_,_,rfl,rfl,q⟩
 · exact q.elim
def mLt:R2:=fun x y H Q=>match x,y with | .int i,.int j=>Q (.bl (decide (i<j))) H | _,_=>False
theorem oLt:OpR X (compareOp .Lt) mLt:=EL.imp fun x y H Q q=>by
 unfold mLt at q
 split at q
 · exact ⟨_,_,rfl,rfl,q⟩
 · exact q.elim
def mLe:R2:=fun x y H Q=>match x,y with | .int i,.int j=>Q (.bl (decide (i≤j))) H | _,_=>False
theorem oLe:OpR X (compareOp .LtE) mLe:=Gj.imp fun x y H Q q=>by
 unfold mLe at q
 split at q
 · exact ⟨_,_,rfl,rfl,q⟩
 · exact q.elim
def mEq:R2:=fun x y H Q=>match x,y with
 | .int i,.int j=>Q (.bl (decide (i=j))) H
 | .str i,.str j=>Q (.bl (decide (i=j))) H
 | .bl i,.bl j=>Q (.bl (decide (i=j))) H
 | .non,.non=>Q (.bl true) H
 | .non,.int _=>Q (.bl false) H | .int _,.non=>Q (.bl false) H | .non,.bl _=>Q (.bl false) H | .bl _,.non=>Q (.bl false) H | .non,.str _=>Q (.bl false) H | .str _,.non=>Q (.bl false) H
 | .int _,.str _=>Q (.bl false) H | .str _,.int _=>Q (.bl false) H | .bl _,.str _=>Q (.bl false) H | .str _,.bl _=>Q (.bl false) H
 | _,_=>False
theorem iL {α:Type} [DecidableEq α] {f:α→V} (hf:∀ a b,f a=f b→a=b) (a b:α):decide (f a=f b)=decide (a=b):=by
 by_cases h:a=b
 · subst h;simp
 · rw [decide_eq_false h,decide_eq_false fun e=>h (hf a b e)]
theorem oEq:OpR X (compareOp .Eq) mEq:=Ej.imp fun x y H Q q=>by
 unfold mEq at q
 split at q
 · exact ⟨rfl,by rw [iL (f:=V.int) fun _ _ e=>V.int.inj e];exact q⟩
 · exact ⟨rfl,by rw [iL (f:=V.str) fun _ _ e=>V.str.inj e];exact q⟩
 · exact ⟨rfl,by rw [iL (f:=V.bl) fun _ _ e=>V.bl.inj e];exact q⟩
 · exact ⟨rfl,by simpa using q⟩
 all_goals first | exact q.elim | exact ⟨rfl,q⟩
def mNe:R2:=fun x y H Q=>match x,y with
 | .int i,.int j=>Q (.bl (!decide (i=j))) H
 | .str i,.str j=>Q (.bl (!decide (i=j))) H
 | .bl i,.bl j=>Q (.bl (!decide (i=j))) H
 | .non,.non=>Q (.bl false) H
 | .non,.int _=>Q (.bl true) H | .int _,.non=>Q (.bl true) H | .non,.bl _=>Q (.bl true) H | .bl _,.non=>Q (.bl true) H | .non,.str _=>Q (.bl true) H | .str _,.non=>Q (.bl true) H
 | .int _,.str _=>Q (.bl true) H | .str _,.int _=>Q (.bl true) H | .bl _,.str _=>Q (.bl true) H | .str _,.bl _=>Q (.bl true) H
 | _,_=>False
theorem oNe:OpR X (compareOp .NotEq) mNe:=Gm.imp fun x y H Q q=>by
 unfold mNe at q
 split at q
 · exact ⟨rfl,by rw [iL (f:=V.int) fun _ _ e=>V.int.inj e];exact q⟩
 · exact ⟨rfl,by rw [iL (f:=V.str) fun _ _ e=>V.str.inj e];exact q⟩
 · exact ⟨rfl,by rw [iL (f:=V.bl) fun _ _ e=>V.bl.inj e];exact q⟩
 · exact ⟨rfl,by simpa using q⟩
 all_goals first | exact q.elim | exact ⟨rfl,q⟩
def vm:R2:=fun x y H Q=>match y with | .non=>Q (.bl (match x with | .non=>true | _=>false)) H | _=>False
theorem oIs:OpR X (compareOp .Is) vm:=Az.imp fun x y H Q q=>by
 unfold vm at q
 split at q
 · refine ⟨rfl,?_⟩
   cases x <;> simpa using q
 · exact q.elim
def aN (t:TE):TT:=fun σ H Q=>t σ H fun x H'=>match x with | .bl k=>Q k H' | _=>False
theorem qtc {op:CmpOp} {r:R2} {a b:Expr} {ta tb:TE} {pos:Pos} (ho:OpR X (compareOp op) r) (ha:PE X a ta) (hb:PE X b tb) (hm:behindInMarks op b=false:=by first | exact kN _ | rfl):PT X (.Compare a [op] [b] pos) (aN (tOp r ta tb)):=by
 intro pins s σ H Q I h
 refine wpAny_isTrue_Compare1 (thn (ha pins s σ H _ I h) fun v s1 ⟨x,H1,I1,r1,q1⟩=>thn (hb pins s1 σ H1 _ I1 q1) fun u s2 ⟨y,H2,I2,r2,q2⟩=>
  thn (ho pins s2 σ H2 x y v u _ I2 r1 r2 q2) fun c s3 ⟨z,H3,I3,r3,q3⟩=>?_) hm
 cases z <;> first | exact q3.elim | (cases r3;exact wpAny_truthy_bool ⟨H3,I3,q3⟩)
theorem qc {op:CmpOp} {r:R2} {a b:Expr} {ta tb:TE} {pos:Pos} (ho:OpR X (compareOp op) r) (ha:PE X a ta) (hb:PE X b tb) (hm:behindInMarks op b=false:=by first | exact kN _ | rfl):PE X (.Compare a [op] [b] pos) (tOp r ta tb):=zN ho ha hb hm
def dI (r r':R2) (ta tb tc:TE):TE:=fun σ H Q=>ta σ H fun x H1=>tb σ H1 fun y H2=>r x y H2 fun z H3=>match z with
 | .bl k=>Sel k (tc σ H3 fun w' H4=>r' y w' H4 Q) (Q (.bl false) H3)
 | _=>False
theorem qch {op op':CmpOp} {r r':R2} {a b c:Expr} {ta tb tc:TE} {pos:Pos} (ho:OpR X (compareOp op) r) (ho':OpR X (compareOp op') r') (ha:PE X a ta) (hb:PE X b tb) (hc:PE X c tc)
  (hm:lastMarks [op,op'] [b,c]=false:=by with_unfolding_all rfl):PE X (.Compare a [op,op'] [b,c] pos) (dI r r' ta tb tc):=by
 intro pins s σ H Q I h
 refine Compare_chain (thn (ha pins s σ H _ I h) fun v s1 ⟨x,H1,I1,r1,q1⟩=>chain_link (thn (hb pins s1 σ H1 _ I1 q1) fun u s2 ⟨y,H2,I2,r2,q2⟩=>
  thn (ho pins s2 σ H2 x y v u _ I2 r1 r2 q2) fun d s3 ⟨z,H3,I3,r3,q3⟩=>?_)) hm
 cases z <;> first | exact q3.elim | skip
 rename_i k
 cases r3
 refine wpAny_truthy_bool ?_
 have q3:=dN q3
 cases k with
 | false=>exact ite_ff ⟨.bl false,H3,I3,rfl,q3⟩
 | true=>exact ite_tt (chain_last (thn (hc pins s3 σ H3 _ I3 q3) fun w' s4 ⟨z',H4,I4,r4,q4⟩=>ho' pins s4 σ H4 y z' u w' Q I4 r2 r4 q4))
theorem GJ {op op' : CmpOp} {r r' : R2} {a b c : Expr} {ta tb tc : TE} {pos : Pos} (ho : OpR X (compareOp op) r) (ho' : OpR X (compareOp op') r') (ha : PE X a ta) (hb : PE X b tb) (hc : PE X c tc)
    (hm : lastMarks [op, op'] [b, c] = false := by with_unfolding_all rfl) : PT X (.Compare a [op, op'] [b, c] pos) (aN (dI r r' ta tb tc)) := by
  intro pins s σ H Q I h
  refine isTrue_chain (thn (ha pins s σ H _ I h) fun v s1 ⟨x, H1, I1, r1, q1⟩ => test_link (thn (hb pins s1 σ H1 _ I1 q1) fun u s2 ⟨y, H2, I2, r2, q2⟩ =>
    thn (ho pins s2 σ H2 x y v u _ I2 r1 r2 q2) fun d s3 ⟨z, H3, I3, r3, q3⟩ => ?_)) hm
  cases z <;> first | exact q3.elim | skip
  rename_i k
  cases r3
  refine wpAny_truthy_bool ?_
  have q3 := dN q3
  cases k with
  | false => exact ite_ff ⟨H3, I3, q3⟩
  | true =>
    refine ite_tt (test_last (thn (hc pins s3 σ H3 _ I3 q3) fun w' s4 ⟨z', H4, I4, r4, q4⟩ => thn (ho' pins s4 σ H4 y z' u w' _ I4 r2 r4 q4) fun d' s5 ⟨z2, H5, I5, r5, q5⟩ => ?_))
    cases z2 <;> first | exact q5.elim | (cases r5; exact wpAny_truthy_bool ⟨H5, I5, q5⟩)
def bC (K:W.Frag) (t:TE):TT:=fun σ H Q=>t σ H fun x H'=>match x with
 | .bl k=>Q k H'
 | .non=>Q false H'
 | .int i=>Q (i !=0) H'
 | x=>∃ k,CL K x H' k∧Q k H'
theorem qtb {e:Expr} {t:TE} (h:PE X e t) (he:∀ whole,isTrue e X.env whole=(do let v←whole;standAt e.pos;holding [v] (truthy v)):=by intro _;rfl):PT X e (bC X.K t):=by
 intro pins s σ H Q I q
 refine isTrue_plain (thn (h pins s σ H _ I q) fun v s1 ⟨x,H1,I1,r1,q1⟩=>Bt pins s1 σ H1 x v Q I1 r1 ?_) (he _)
 cases x <;> first | exact ⟨_,rfl,q1⟩ | exact q1
def iq (t u:TT):TT:=fun σ H Q=>t σ H fun c H1=>Sel c (u σ H1 Q) (Q false H1)
def mOr (t u:TT):TT:=fun σ H Q=>t σ H fun c H1=>Sel c (Q true H1) (u σ H1 Q)
variable {a b c:Expr} {ta tb:TE} {tA tB':TT} {bS:List Expr} {pos:Pos}
theorem zw (ha:PT X a tA):PW X (.BoolOp .And [a] pos) tA:=zp ha
theorem AA (ha:PT X a tA):PW X (.BoolOp .Or [a] pos) tA:=BP ha
theorem BI (ha:PT X a tA) (hb:PW X (.BoolOp .And (b::bS) pos) tB'):PW X (.BoolOp .And (a::b::bS) pos) (iq tA tB'):=by
 intro wh pins s σ H Q I h
 refine isTrue_and (thn (ha pins s σ H _ I h) fun c s1 ⟨H1,I1,q1⟩=>?_)
 have q1:=dN q1
 cases c with
 | true=>exact hb wh pins s1 σ H1 Q I1 q1
 | false=>exact ⟨H1,I1,q1⟩
theorem Dw (ha:PT X a tA) (hb:PW X (.BoolOp .Or (b::bS) pos) tB'):PW X (.BoolOp .Or (a::b::bS) pos) (mOr tA tB'):=by
 intro wh pins s σ H Q I h
 refine isTrue_or (thn (ha pins s σ H _ I h) fun c s1 ⟨H1,I1,q1⟩=>?_)
 have q1:=dN q1
 cases c with
 | true=>exact ⟨H1,I1,q1⟩
 | false=>exact hb wh pins s1 σ H1 Q I1 q1
def dA (ta tb:TE):TE:=fun σ H Q=>ta σ H fun x H1=>match x with | .bl c=>Sel c (tb σ H1 Q) (Q (.bl false) H1) | _=>False
def nN (ta:TE):TE:=fun σ H Q=>ta σ H fun x H1=>match x with | .bl c=>Q (.bl (!c)) H1 | _=>False
theorem Gv (ha:PE X a ta) (hb:PE X (.BoolOp .And (b::bS) pos) tb):PE X (.BoolOp .And (a::b::bS) pos) (dA ta tb):=by
 intro pins s σ H Q I h
 refine BoolOp_and (thn (ha pins s σ H _ I h) fun v s1 ⟨x,H1,I1,r1,q1⟩=>?_)
 cases x <;> first | exact q1.elim | skip
 rename_i c
 cases r1
 refine wpAny_truthy_bool ?_
 have q1:=dN q1
 cases c with
 | true=>exact hb pins s1 σ H1 Q I1 q1
 | false=>exact ⟨.bl false,H1,I1,rfl,q1⟩
theorem Dn (ha:PE X a ta):PE X (.UnaryOp .Not a pos) (nN ta):=by
 intro pins s σ H Q I h
 refine UnaryOp_ (thn (ha pins s σ H _ I h) fun v s1 ⟨x,H1,I1,r1,q1⟩=>?_)
 cases x <;> first | exact q1.elim | skip
 rename_i c
 cases r1
 exact not_of (wpAny_truthy_bool ⟨.bl (!c),H1,I1,rfl,q1⟩)
def mIf (t:TT) (ta tb:TE):TE:=fun σ H Q=>t σ H fun c H1=>Sel c (ta σ H1 Q) (tb σ H1 Q)
theorem HA {c:Expr} (hc:PT X c tA) (ha:PE X a ta) (hb:PE X b tb):PE X (.IfExp c a b pos) (mIf tA ta tb):=by
 intro pins s σ H Q I h
 refine wpAny_IfExp (thn (hc pins s σ H _ I h) fun d s1 ⟨H1,I1,q1⟩=>?_)
 have q1:=dN q1
 cases d with
 | true=>exact ha pins s1 σ H1 Q I1 q1
 | false=>exact hb pins s1 σ H1 Q I1 q1
def aS (c:TT) (t u:TS):TS:=fun D σ H=>c σ H fun b H1=>Sel b (t D σ H1) (u D σ H1)
theorem qif {c:Expr} {l m:List Stmt} {tc:TT} {t u:TS} (hc:PT X c tc) (ha:PSs X l t) (hb:PSs X m u):PS X (.If c l m pos) (aS tc t u):=by
 intro pins s σ H D I h
 refine wpAny_If (thn (hc pins s σ H _ I h) fun d s1 ⟨H1,I1,q1⟩=>?_)
 have q1:=dN q1
 cases d with
 | true=>exact ha pins s1 σ H1 D I1 q1
 | false=>exact hb pins s1 σ H1 D I1 q1
theorem Hb:bG X (.builtin "len") (fun xs H Q=>match xs with
   | [.str y]=>y.length≤sizeLine∧Q (.int y.length) H
   | [.ref p]=>(∃ xs,SqL X.K H p xs∧Q (.int xs.length) H)∨(∃ xs,SqT X.K H p xs∧Q (.int xs.length) H)∨∃ kvs,H p=some (.dK kvs)∧Q (.int kvs.length) H
   | _=>False):=by
 intro pins s σ H xs us Q I r h
 split at h
 · rename_i y
   exact jR pins s σ H _ us Q I r ⟨_,_,rfl,⟨h.1,rfl⟩,h.2⟩
 · rename_i p
   rcases h with ⟨ys,h1,h2⟩ | ⟨ys,h1,h2⟩ | ⟨kvs,h1,h2⟩
   · exact jR pins s σ H _ us Q I r ⟨_,_,rfl,.inl ⟨ys,h1,rfl⟩,h2⟩
   · exact jR pins s σ H _ us Q I r ⟨_,_,rfl,.inr ⟨ys,h1,rfl⟩,h2⟩
   · exact tV pins s σ H _ us Q I r ⟨p,kvs,rfl,h1,h2⟩
 · exact h.elim
end
end L2
namespace L2
open PySem PySem.Spec PyProof.Rows
section
variable {X:Cx} {tg:Expr}
def dh:V→Hp→VK→Prop:=fun x H Q=>match x with | .int i=>Q (.int (-i)) H | _=>False
theorem GB:UnR X (unaryOp .USub) dh:=fun pins s σ H x v Q I rx q=>Aw pins s σ H x v Q I rx (by
 unfold dh at q
 split at q
 · exact ⟨_,rfl,q⟩
 · exact q.elim)
def Ap (K:W.Frag):List V→Hp→VK→Prop:=fun xs H Q=>match xs with
 | [.str y]=>y.length≤sizeLine∧Q (.int y.length) H
 | [.ref p]=>(∃ xs,SqL K H p xs∧Q (.int xs.length) H)∨(∃ xs,SqT K H p xs∧Q (.int xs.length) H)∨∃ kvs,H p=some (.dK kvs)∧Q (.int kvs.length) H
 | _=>False
theorem Ho:bG X (.builtin "len") (Ap X.K):=Hb
def cY:List V→Hp→VK→Prop:=fun xs H Q=>match xs with
 | [x,.ty T]=>T∈["int", "bool", "str", "tuple", "list", "dict"]∧∃ t,tyN H x=some t∧Q (.bl (isI t T)) H
 | _=>False
theorem dg:bG X (.builtin "isinstance") cY:=fun pins s σ H xs us Q I r h=>by
 unfold cY at h
 split at h
 · obtain ⟨h1,t,h2,h3⟩:=h
   exact wy pins s σ H _ us Q I r ⟨_,_,t,rfl,h1,h2,h3⟩
 · exact h.elim
def CK:List V→Hp→VK→Prop:=fun xs H Q=>∃ (a:Addr) (bs:List Bool),xs=[.ref a]∧H a=some (.lst (bs.map V.bl))∧Q (.bl (bs.all id)) H
theorem Hj (hc:X.calm=true):bG X (.builtin "all") CK:=xF hc
def oX (K:W.Frag):List V→Hp→VK→Prop:=fun xs H Q=>∃ p ys,xs=[.ref p]∧((SqL K H p ys∧∀ l,H l=none→Q (.ref l) (upd H l (.tup ys)))∨(SqT K H p ys∧Q (.ref p) H))
theorem uh:bG X (.type "tuple") (oX X.K):=mM
def xO:List V→Hp→VK→Prop:=fun xs H Q=>match xs with
 | [.int i]=>i.natAbs.log2<1920∧Q (.str (toString i)) H
 | _=>False
theorem GC:bG X (.type "str") xO:=fun pins s σ H xs us Q I r h=>by
 unfold xO at h
 split at h
 · exact iR pins s σ H _ us Q I r ⟨_,rfl,h.1,h.2⟩
 · exact h.elim
def vi:List V→Hp→VK→Prop:=fun xs H Q=>match xs with
 | [.str x]=>x.length=1∧Q (.int (x.cps.getD 0 0:Nat)) H
 | _=>False
theorem Gz:bG X (.builtin "ord") vi:=fun pins s σ H xs us Q I r h=>by
 unfold vi at h
 split at h
 · exact xC pins s σ H _ us Q I r ⟨_,rfl,h.1,h.2⟩
 · exact h.elim
end
end L2
namespace L2
open PySem PySem.Spec PyProof.Rows
theorem AB:bootBuiltins "all" =some (.builtin "all"):=by decide +kernel
structure dU (J:It) (n:Nat) (it:Nat→V) (Pv:Hp→Prop):Prop where
 go:∀ i H,i<n→Pv H→J.go i H
 yld:∀ i H x H',i<n→Pv H→J.yld i H x H'→H'=H∧x=it i
 stop:∀ H,Pv H→J.stop n H
theorem dU.tuple {K:W.Frag} {a:Addr} {xs:List V} (d:V):dU (Itt K a) xs.length (fun i=>xs.getD i d) (fun H=>SqT K H a xs) where
 go:=fun i H hi h=>⟨xs,xs[i],h,by simp [hi]⟩
 yld:=fun i H x H' hi h y=>⟨y.1,by have:=y.2 xs h;rw [List.getD_eq_getElem?_getD,this];rfl⟩
 stop:=fun H h=>⟨xs,h,Nat.le_refl _⟩
def CWd (n:Nat) (Pv:Nat→List V→Hp→Prop):Nat→Nat→List V→Hp→Prop:=fun i m ys H=>i≤n∧m=n - i∧Pv i ys H
theorem CWd.next {n i:Nat} {Pv:Nat→List V→Hp→Prop} {ys:List V} {H:Hp} (hi:i<n) (h:Pv (i+1) ys H):∃ m',m'<n - i∧CWd n Pv (i+1) m' ys H:=⟨n - (i+1),by omega,hi,rfl,h⟩
theorem lI {J : It} {n : Nat} {it : Nat → V} {Pk : Hp → Prop} {σ : St} {is : List Nat} {tc : TT} {te : TE} {Q : VK} {H1 : Hp} {D : Addr} (T : dU J n it Pk) (Pv : Nat → List V → Hp → Prop)
   (hk : ∀ i ys H, i ≤ n → Pv i ys H → Pk H) (h0 : Pv 0 [] (upd H1 D (.lst [])))
   (hs : ∀ i ys H2, i < n → Pv i ys H2 → tc (some (it i) :: bI σ is) H2 fun b H4 => if b = true then
    te (some (it i) :: bI σ is) H4 fun y H5 => H5 D = some (.lst ys) ∧ ys.length < sizeLine ∧ ∃ m', m' < n - i ∧ CWd n Pv (i + 1) m' (ys ++ [y]) (upd H5 D (.lst (ys ++ [y])))
    else ∃ m', m' < n - i ∧ CWd n Pv (i + 1) m' ys H4)
   (hd : ∀ ys H, Pv n ys H → Q (.ref D) H) : sj is tc te σ D J H1 Q := by
 refine ⟨CWd n Pv, ⟨n, Nat.zero_le _, rfl, h0⟩, ?_⟩
 rintro i m ys H2 ⟨hi, rfl, p⟩
 by_cases hlt : i < n
 · refine .inr ⟨T.go i H2 hlt (hk i ys H2 hi p), fun x H3 y => ?_⟩
   obtain ⟨rfl, rfl⟩ := T.yld i H2 x H3 hlt (hk i ys H2 hi p) y
   exact hs i ys _ hlt p
 · have e : i = n := by omega
   subst e
   exact .inl ⟨T.stop H2 (hk _ ys H2 hi p), hd ys H2 p⟩
theorem ax.upd {H:Hp} {p:Addr} {o:HO} (h:H p=none):ax H (upd H p o):=fun b u e=>by rw [au (aD e h)];exact e
theorem ul {xs:List V} {i:Int} (h0:0≤i) (h1:i<xs.length):atI xs i=some (xs.getD i.toNat .non):=by
 unfold atI ixN
 rw [if_pos h0,if_pos h1]
 show xs[i.toNat]?=_
 rw [List.getD_eq_getElem?_getD]
 have:i.toNat<xs.length:=by omega
 rw [List.getElem?_eq_getElem this];rfl
end L2
namespace L2
open PySem PySem.Spec PyProof.Rows
def bL:Expr→Bool
 | .Starred _ _=>false
 | _=>true
theorem ba {e:Expr} (h:bL e=true) (bS:List Expr) (env:Env):starEach (e::bS) env=(false,eval e env)::starEach bS env:=by
 cases e <;> first | rfl | cases h
def bh:List Expr→Bool
 | []=>true
 | e::r=>bL e&&bh r
theorem bT : ∀ {es : List Expr} {env : Env} {pos : Pos}, bh es = true → (backTo pos (starEach es env)).any (·.1) = false
  | [], _, _, _ => rfl
  | e :: r, env, pos, h => by
    have h : (bL e && bh r) = true := h
    rw [Bool.and_eq_true] at h
    rw [ba h.1]
    show (false || (backTo pos (starEach r env)).any (·.1)) = false
    rw [bT h.2]; rfl
section
variable {X:Cx} {e:Expr} {es:List Expr} {te:TE} {t:TA} {pos:Pos}
theorem zH (ha:PE X e te) (hr:PA X es t) (hs:bL e=true:=by rfl):PA X (e::es) (aa te t):=zl ha hr (ba hs es X.env)
variable {x:Str} {p apos cpos:Pos} {id T:String} {r:List V→Hp→VK→Prop}
theorem zP (hc:bG X (.builtin id) r) (hg:Gl X x) (hm:X.mg x=none) (hv:bootBuiltins x=some (.builtin id)) (ha:PA X (e::es) t) (hn:x≠ "__name__" :=by decide) (hdb:(x==("__debug__" :Str))=false:=by decide)
  (hs:bh (e::es)=true:=by rfl):PE X (.Call (.Name x p) (e::es) [] pos) (tCB r t):=
 have h:(bL e&&bh es)=true:=hs
 xu hc hg hm hv ha hn hdb (ba (Bool.and_eq_true_iff.mp h).1 es X.env) (bT (Bool.and_eq_true_iff.mp h).2)
theorem wj (hc:bG X (.type T) r) (hg:Gl X x) (hm:X.mg x=none) (hv:bootBuiltins x=some (.type T)) (ha:PA X (e::es) t) (hn:x≠ "__name__" :=by decide) (hdb:(x==("__debug__" :Str))=false:=by decide)
  (hs:bh (e::es)=true:=by rfl):PE X (.Call (.Name x p) (e::es) [] pos) (tCB r t):=
 have h:(bL e&&bh es)=true:=hs
 uY hc hg hm hv ha hn hdb (ba (Bool.and_eq_true_iff.mp h).1 es X.env) (bT (Bool.and_eq_true_iff.mp h).2)
variable {CX:CXT} {k:Nat} {f C:Addr} {fd:FuncData} {ps:List Str} {sp:Sp} {dvs:List V} {ds:List Value} {E:XK} {m:Str} {o:Expr} {ta:TE}
theorem jL : ∀ {es : List Expr} {env : Env} {pos : Pos}, bh es = true → (backTo pos (starEach es env)).all (fun x => !x.1) = true
  | [], _, _, _ => rfl
  | e :: r, env, pos, h => by
    have h : (bL e && bh r) = true := h
    rw [Bool.and_eq_true] at h
    rw [ba h.1]
    show (true && (backTo pos (starEach r env)).all (fun x => !x.1)) = true
    rw [jL h.2]; rfl
variable {to:TE} {name:Str} {rm:V→List V→Hp→VK→Prop}
theorem GY (pa:PlainAttrs T) (slot:Slot T name id) (hty:typeOf (.builtin id)=pure (.type "method_descriptor")) (hm:MtR X id rm) (ho:PE X o to) (ha:PA X (e::es) t)
  (hbase:attributeBase o name X.env (eval o X.env)=eval o X.env:=by rfl) (hfew:decide ((e::es).length<30)=true:=by rfl)
  (hline:(apos.endLine==cpos.line)=true:=by rfl) (hs:bh (e::es)=true:=by rfl):PE X (.Call (.Attribute o name apos) (e::es) [] cpos) (tBM X.K T rm to t):=
 have h:(bL e&&bh es)=true:=hs
 Fy pa slot hty hm ho ha hbase (by rw [jL hs];exact hfew) hline (ba (Bool.and_eq_true_iff.mp h).1 es X.env) (bT (Bool.and_eq_true_iff.mp h).2)
end
end L2
namespace L2
open PySem PySem.Spec PyProof.Rows
structure QE (X:Cx) (e:Expr) (t:TE):Prop where
 out:PE X e t
structure QT (X:Cx) (e:Expr) (t:TT):Prop where
 out:PT X e t
structure QW (X:Cx) (e:Expr) (t:TT):Prop where
 out:PW X e t
structure QA (X:Cx) (e:List Expr) (t:TA):Prop where
 out:PA X e t
structure QS (X:Cx) (e:Stmt) (t:TS):Prop where
 out:PS X e t
structure QSs (X:Cx) (e:List Stmt) (t:TS):Prop where
 out:PSs X e t
structure QI (X:Cx) (tg iter:Expr) (t:TI):Prop where
 out:PI X tg iter t
structure QO (X:Cx) (e:Option Expr) (t:TO):Prop where
 out:PO X e t
structure vy (X:Cx) (e:List Expr) (t:TT):Prop where
 out:sx X e t
section
variable {X:Cx} {a b c e o:Expr} {es bS:List Expr} {ta tb tc te to tv:TE} {tA tB':TT} {t:TA} {pos apos cpos p:Pos} {x y:Str}
theorem af (i:Nat) (hN:X.N[i]?=some x:=by rfl) (hv:Vis X.env.scope x:=by first | exact Or.inl rfl | exact Or.inr (Or.inl rfl) | exact Or.inr (Or.inr rfl)) (hd:(x==("__debug__" :Str))=false:=by decide)
 (hcd:(x==("__classdict__" :Str))=false:=by decide):QE X (.Name x pos) (ae i):=⟨qv i hN hv hd hcd⟩
theorem vp {i:Int} (hm:∃ t,X.mg x=some (.int i t)) (hg:Gl X x:=by rfl) (hd:(x==("__debug__" :Str))=false:=by decide):QE X (.Name x pos) (tC (.int i)):=⟨qgi hm hg hd⟩
theorem de {T:String} (hm:X.mg x=none) (hv:bootBuiltins x=some (.type T)) (hg:Gl X x:=by rfl) (hn:x≠ "__name__" :=by decide) (hd:(x==("__debug__" :Str))=false:=by decide):QE X (.Name x pos) (tC (.ty T)):=⟨zm hg hm hv rfl hn hd⟩
theorem aj {i:Int} {j}:QE X (.Constant (.int i) j pos) (tC (.int i)):=⟨AI⟩
theorem bo {b:Bool} {j}:QE X (.Constant (.bool b) j pos) (tC (.bl b)):=⟨Gd⟩
theorem fc {j}:QE X (.Constant .none j pos) (tC .non):=⟨BR⟩
theorem bx {z:Str} {j}:QE X (.Constant (.str z) j pos) (tC (.str z)):=⟨CD⟩
theorem eP (ha:QE X a ta):QE X (.UnaryOp .USub a pos) (tUn dh ta):=⟨Fx GB ha.out⟩
theorem yG (ha:QE X a ta):QE X (.UnaryOp .Not a pos) (nN ta):=⟨Dn ha.out⟩
theorem aw {op:Operator} {r:R2} (ho:OpR X (binaryOp op) r) (ha:QE X a ta) (hb:QE X b tb):QE X (.BinOp a op b pos) (tOp r ta tb):=⟨Eb ho ha.out hb.out⟩
theorem fL {op:CmpOp} {r:R2} (ho:OpR X (compareOp op) r) (ha:QE X a ta) (hb:QE X b tb) (hm:behindInMarks op b=false:=by first | exact kN _ | rfl):QE X (.Compare a [op] [b] pos) (tOp r ta tb):=⟨qc ho ha.out hb.out hm⟩
theorem jv {op op':CmpOp} {r r':R2} (ho:OpR X (compareOp op) r) (ho':OpR X (compareOp op') r') (ha:QE X a ta) (hb:QE X b tb) (hc:QE X c tc) (hm:lastMarks [op,op'] [b,c]=false:=by with_unfolding_all rfl):
 QE X (.Compare a [op,op'] [b,c] pos) (dI r r' ta tb tc):=⟨qch ho ho' ha.out hb.out hc.out hm⟩
theorem fe {op} (h:QE X a ta):QE X (.BoolOp op [a] pos) ta:=⟨AO h.out⟩
theorem eu (ha:QE X a ta) (hb:QE X (.BoolOp .And (b::bS) pos) tb):QE X (.BoolOp .And (a::b::bS) pos) (dA ta tb):=⟨Gv ha.out hb.out⟩
theorem tu (hc:QT X c tA) (ha:QE X a ta) (hb:QE X b tb):QE X (.IfExp c a b pos) (mIf tA ta tb):=⟨HA hc.out ha.out hb.out⟩
theorem ai:QA X [] ag:=⟨Bl⟩
theorem ac (ha:QE X e te) (hr:QA X es t) (hs:bL e=true:=by rfl):QA X (e::es) (aa te t):=⟨zH ha.out hr.out hs⟩
theorem bV (h:QA X es t):QE X (.List es pos) (bz t):=⟨Cj h.out⟩
theorem bE {x1} (h:QA X es t):QE X (.Tuple es x1 pos) (bf t):=⟨Ci h.out⟩
theorem aY {r:R2} (hr:IxR X r) (ha:QE X a ta) (hb:QE X b tb) (hs:qG b):QE X (.Subscript a b pos) (tOp r ta tb):=⟨Ek hr ha.out hb.out hs⟩
theorem qr:QO X none jt:=⟨zL⟩
theorem jo (h:QE X e te):QO X (some e) (gn te):=⟨zM h.out⟩
theorem lE {r:V→Option Int→Option Int→Hp→VK→Prop} {lo hi:Option Expr} {tl th:TO} {p2:Pos} (hr:SlR X r) (he:QE X e te) (hl:QO X lo tl) (hu:QO X hi th):QE X (.Subscript e (.Slice lo hi none p2) pos) (tSl r te tl th):=⟨vA hr he.out hl.out hu.out⟩
variable {id T:String} {r:List V→Hp→VK→Prop}
theorem aI (hc:bG X (.builtin id) r) (hm:X.mg x=none) (hv:bootBuiltins x=some (.builtin id)) (ha:QA X (e::es) t) (hg:Gl X x:=by rfl) (hn:x≠ "__name__" :=by decide) (hdb:(x==("__debug__" :Str))=false:=by decide)
 (hs:bh (e::es)=true:=by rfl):QE X (.Call (.Name x p) (e::es) [] pos) (tCB r t):=⟨zP hc hg hm hv ha.out hn hdb hs⟩
theorem iw (hc:bG X (.type T) r) (hm:X.mg x=none) (hv:bootBuiltins x=some (.type T)) (ha:QA X (e::es) t) (hg:Gl X x:=by rfl) (hn:x≠ "__name__" :=by decide) (hdb:(x==("__debug__" :Str))=false:=by decide)
 (hs:bh (e::es)=true:=by rfl):QE X (.Call (.Name x p) (e::es) [] pos) (tCB r t):=⟨wj hc hg hm hv ha.out hn hdb hs⟩
variable {CX:CXT} {k:Nat} {f C:Addr} {fd:FuncData} {ps:List Str} {sp:Sp} {dvs:List V} {ds:List Value} {E:XK} {m:Str}
variable {name:Str} {rm:V→List V→Hp→VK→Prop}
theorem jY (pa:PlainAttrs T) (slot:Slot T name id) (hty:typeOf (.builtin id)=pure (.type "method_descriptor")) (hm:MtR X id rm) (ho:QE X o to) (ha:QA X (e::es) t)
 (hbase:attributeBase o name X.env (eval o X.env)=eval o X.env:=by rfl) (hfew:decide ((e::es).length<30)=true:=by rfl)
 (hline:(apos.endLine==cpos.line)=true:=by rfl) (hs:bh (e::es)=true:=by rfl):QE X (.Call (.Attribute o name apos) (e::es) [] cpos) (tBM X.K T rm to t):=⟨GY pa slot hty hm ho.out ha.out hbase hfew hline hs⟩
theorem aQ {op:CmpOp} {r:R2} (ho:OpR X (compareOp op) r) (ha:QE X a ta) (hb:QE X b tb) (hm:behindInMarks op b=false:=by first | exact kN _ | rfl):QT X (.Compare a [op] [b] pos) (aN (tOp r ta tb)):=⟨qtc ho ha.out hb.out hm⟩
theorem jS {op op':CmpOp} {r r':R2} (ho:OpR X (compareOp op) r) (ho':OpR X (compareOp op') r') (ha:QE X a ta) (hb:QE X b tb) (hc:QE X c tc) (hm:lastMarks [op,op'] [b,c]=false:=by with_unfolding_all rfl):
 QT X (.Compare a [op,op'] [b,c] pos) (aN (dI r r' ta tb tc)):=⟨GJ ho ho' ha.out hb.out hc.out hm⟩
theorem be (h:QE X e te) (he:∀ whole,isTrue e X.env whole=(do let v←whole;standAt e.pos;holding [v] (truthy v)):=by intro _;rfl):QT X e (bC X.K te):=⟨qtb h.out he⟩
theorem br (ha:QT X a tA):QT X (.UnaryOp .Not a pos) (bJ tA):=⟨CZ ha.out⟩
theorem x_w (h:QW X e tA):QT X e tA:=⟨h.out.pt⟩
theorem fQ (ha:QT X a tA):QW X (.BoolOp .And [a] pos) tA:=⟨zw ha.out⟩
theorem dZ (ha:QT X a tA):QW X (.BoolOp .Or [a] pos) tA:=⟨AA ha.out⟩
theorem gP (ha:QT X a tA) (hb:QW X (.BoolOp .And (b::bS) pos) tB'):QW X (.BoolOp .And (a::b::bS) pos) (iq tA tB'):=⟨BI ha.out hb.out⟩
theorem eC (ha:QT X a tA) (hb:QW X (.BoolOp .Or (b::bS) pos) tB'):QW X (.BoolOp .Or (a::b::bS) pos) (mOr tA tB'):=⟨Dw ha.out hb.out⟩
variable {tg iter elt:Expr} {wi:TI} {ifs:List Expr} {scope:Scope} {ys:List Str} {is:List Nat} {px py spos:Pos}
theorem ip (hm:X.mg "range" =none) (ha:QA X [a] t) (hg:Gl X "range" :=by rfl) (hs:bL a=true:=by rfl):QI X tg (.Call (.Name "range" p) [a] [] pos) (ir t):=⟨uL hg hm ha.out (ba hs [] X.env)⟩
theorem wC (hm:X.mg "range" =none) (ha:QA X [a,b] t) (hg:Gl X "range" :=by rfl) (hs:bL a=true:=by rfl) (hs2:bL b=true:=by rfl):QI X tg (.Call (.Name "range" p) [a,b] [] pos) (rW t):=
 ⟨uD hg hm ha.out (by rw [ba hs,ba hs2];rfl) (ba hs2 [] X.env)⟩
theorem pH:vy X [] (fun _ H Q=>Q true H):=⟨rfl⟩
theorem ub {tcn:TT} (S:eI scope x ys) (hcap:fw X scope ys is) (hi:QI X (.Name x px) iter wi)
 (hif:∀ C s H fp,vy (bv X scope C (x::ys) s H fp) ifs tcn) (he:∀ C s H fp,QE (bv X scope C (x::ys) s H fp) elt te) (hc:X.calm=true:=by rfl)
 (hs:∀ x,foldedSetIterable iter X.env x=pure x:=by intro _;rfl):QE X (.ListComp elt [⟨.Name x px,iter,ifs,0⟩] scope pos) (ik is wi tcn te):=⟨yU hc S hcap hi.out (fun C s H fp=>(hif C s H fp).out) (fun C s H fp=>(he C s H fp).out) hs⟩
variable {st:Stmt} {sts:List Stmt} {tS uS:TS} {i j:Nat}
theorem aF:QSs X [] aG:=⟨zJ⟩
theorem ao (h:QS X st tS):QSs X [st] tS:=⟨zQ h.out⟩
theorem am (h1:QS X st tS) (h2:QSs X sts uS):QSs X (st::sts) (ar tS uS):=⟨wm h1.out h2.out⟩
theorem ay (h:QE X e te):QS X (.Return (some e) pos) (az te):=⟨Bu h.out⟩
theorem aK {l m:List Stmt} (hc:QT X c tA) (ha:QSs X l tS) (hb:QSs X m uS):QS X (.If c l m pos) (aS tA tS uS):=⟨qif hc.out ha.out hb.out⟩
theorem aH (i:Nat) (hN:X.N.Nodup) (he:QE X e te) (hi:X.N[i]?=some x:=by rfl) (hx:Loc X.env.scope x:=by first | exact .inl rfl | exact .inr rfl)
 (hs:swapsWith e (some (.Name x p)) pos.line X.env=pure false:=by rfl) (hf:X.fn x=true∨X.env.scope.names.lookup x=some .local:=by first | exact .inl rfl | exact .inr rfl):QS X (.Assign [.Name x p] e pos) (aC te (av i)):=⟨An hN hi hx he.out hs hf⟩
theorem tX (j:Nat) {tcn:TT} (hN:X.N.Nodup) (S:eI scope x ys) (hcap:fw X scope ys is) (hi:QI X (.Name x px) iter wi)
  (hif:∀ C s H fp,vy (bv X scope C (x::ys) s H fp) ifs tcn) (he:∀ C s H fp,QE (bv X scope C (x::ys) s H fp) elt te) (hc:X.calm=true:=by rfl)
  (hj:X.N[j]?=some y:=by rfl) (hy:Loc X.env.scope y:=by first | exact .inl rfl | exact .inr rfl)
  (hsw:swapsWith (.ListComp elt [⟨.Name x px,iter,ifs,0⟩] scope pos) (some (.Name y py)) spos.line X.env=pure true:=by rfl) (hf:X.fn y=true∨X.env.scope.names.lookup y=some .local:=by first | exact .inl rfl | exact .inr rfl)
  (hs:∀ x,foldedSetIterable iter X.env x=pure x:=by intro _;rfl):QS X (.Assign [.Name y py] (.ListComp elt [⟨.Name x px,iter,ifs,0⟩] scope pos) spos) (aC (ik is wi tcn te) (av j)):=
 ⟨tw hN hj hy hc S hcap hi.out (fun C s H fp=>(hif C s H fp).out) (fun C s H fp=>(he C s H fp).out) hsw hf hs⟩
theorem eM (h:QE X e te) (hs:swapsWith e none pos.line X.env=pure false:=by rfl):QS X (.Expr e pos) (eO te):=⟨ze h.out hs⟩
theorem eD (i:Nat) (hN:X.N.Nodup) {body:List Stmt} (hi:QI X (.Name x px) iter wi) (hb:QSs X body tS) (hp:PassesOwn (model X.prog X.w) X.A X.env X.xe) (hc:X.calm=true:=by rfl)
 (hj:X.N[i]?=some x:=by rfl) (hx:Loc X.env.scope x:=by first | exact .inl rfl | exact .inr rfl) (hf:X.fn x=true∨X.env.scope.names.lookup x=some .local:=by first | exact .inl rfl | exact .inr rfl)
 (hs:∀ x,foldedSetIterable iter X.env x=pure x:=by intro _;rfl):QS X (.For (.Name x px) iter body [] pos) (dn wi (av i) tS):=⟨uO hp hc hi.out (gS hN hj hx hf) hb.out hs⟩
theorem zh {body:List Stmt} (hc:QT X c tA) (hb:QSs X body tS) (hp:PassesOwn (model X.prog X.w) X.A X.env X.xe):QS X (.While c body [] pos) (pU tA tS):=⟨wu hp hc.out hb.out⟩
theorem lD:QS X st iK:=⟨wI⟩
end
end L2
namespace HT
open PySem PyProof.Rows
structure Hd0 (vs:Array Value) (a0:Value):Prop where
 a:vs[0]?=some a0
 b:vs[2]?=some .none
structure TrD (h base:Heap) (e:Addr) (cls a0:Value) (d:Option Addr) (fl:Value):Prop where
 ex:∃ oe vs T oT ts,h.get? e=some oe∧oe.cls=cls∧oe.dict=d∧oe.data=.fields vs∧Hd0 vs a0∧vs[1]?=some (.ref T)∧base.get? T=none∧T≠e∧h.get? T=some oT∧oT.data=.fields ts∧ts[3]?=some fl
structure kg (base:Heap) (l:List Env) (e:Addr) (cls a0:Value) (d:Option Addr) (fl:Value) (h h':Heap):Prop where
 st:base.StaysIn h'
 fr:h'.FunFrames base l
 tr:TrD h' base e cls a0 d fl
 up:h.UpToSlots h'
theorem lP (o:Obj) (f:Array Value→Array Value):(Obj.mapFields f o).dict=o.dict:=by
 obtain ⟨c,d,dt,sl⟩:=o
 cases dt <;> rfl
section
variable {M:Model} {A:Around} {E:Value→Shared→Prop} {s:Shared} {base:Heap} {env:Env} {outer:List Env} {L e:Addr} {cls a0:Value} {d:Option Addr} {Q:Unit→Shared→Prop}
theorem ui {oe:Obj} {vs:Array Value} {head:Value} {hadNext:Bool} (hfr:A.frames=some (env::outer)) (hl:s.heap.FunFrames base (env::outer)) (hf:env.frame=some L) (he:s.heap.get? e=some oe) (hc:oe.cls=cls) (hdc:oe.dict=d)
   (hkb:base.StaysIn s.heap) (hen:base.get? e=none) (hd:oe.data=.fields vs) (hsz:1<vs.size) (h0:Hd0 vs a0) (h:∀ h',kg base (env::outer) e cls a0 d (rawInt L) s.heap h'→Q () { s with heap:=h' }):
   wpAny M A (do let a←frameOf env;let pl←entryPlaceOf L hadNext;let b←EntryCells.newEntry head a .none (rawInt L) .none pl;setField (.ref e) 1 b) Q E s:=by
 have nfr:e∉(env::outer).filterMap (·.frame):=fun hm=>by
   obtain ⟨_,o,ho,hnf⟩:=hl.mem hm
   rw [he] at ho
   cases ho
   exact hnf vs hd
 refine wpAny_bind (wpAny_frameOf_fun hfr hl hf fun h1 s1=>wpAny_bind (wpAny_entryPlaceOf fun pl hpl=>?_))
 unfold EntryCells.newEntry newFields
 refine wpAny_bind (wpAny_newObj_type ?_ (hpl.sizeOk5 _ _ _ _ _))
 generalize hts:([head,Value.ref L,.none,rawInt L,.none]++(if pl.isEmpty then List.replicate 6 Value.none else pl)).toArray=ts
 have hts3:ts[3]?=some (rawInt L):=by rw [← hts];first | (simp;done) | (rcases hpl with rfl | ⟨_,_,_,_,_,_,_,rfl⟩ <;> simp)
 have e1:h1.get? e=some oe:=(s1.2.1 e nfr).trans he
 have kb1:base.StaysIn h1:=fun b o hbo=>(s1.2.1 b fun hm=>by rw [(hl.mem hm).1] at hbo;cases hbo).trans (hkb b o hbo)
 have e2:(h1.push { cls:=.type "traceback",dict:=none,data:=.fields ts }).get? e=some oe:=Heap.get?_push_of_some _ e1
 have nT:h1.objs.size≠e:=Nat.ne_of_gt (Heap.lt_size e1)
 refine wpAny_setField e2 hd hsz (h _ ?_)
 have d3:=Obj.data_mapFields hd (·.setIfInBounds 1 (Value.ref h1.objs.size))
 have e3:=Heap.get?_update_self (Obj.mapFields (·.setIfInBounds 1 (Value.ref h1.objs.size))) e2 (Obj.isFreed_of_fields d3)
 have kp:∀ b o,b≠e→h1.get? b=some o→((h1.push { cls:=.type "traceback",dict:=none,data:=.fields ts }).update e (Obj.mapFields (·.setIfInBounds 1 (Value.ref h1.objs.size)))).get? b=some o:=fun b o nb eb=>
   (Heap.get?_update_other _ _ (Ne.symm nb)).trans (Heap.get?_push_of_some _ eb)
 have T3:=(Heap.get?_update_other (h1.push { cls:=.type "traceback",dict:=none,data:=.fields ts }) (Obj.mapFields (·.setIfInBounds 1 (Value.ref h1.objs.size))) (Ne.symm nT)).trans (Heap.get?_push_size h1 rfl)
 have nr:∀ b o,s.heap.get? b=some o→(∀ vs,o.data≠ .fields vs)→b≠e:=fun b o hb hnf q=>by
   rw [q,he] at hb
   cases hb
   exact hnf vs hd
 refine ⟨fun b o hbo=>kp b o (fun q=>by rw [q,hen] at hbo;cases hbo) (kb1 b o hbo),hl.of_keeps fun b o hb hnf=>?_,⟨_,_,h1.objs.size,_,ts,e3,(Obj.cls_mapFields ..).trans hc,(lP ..).trans hdc,d3,?_,by simp [hsz],kb1.fresh,nT,T3,rfl,hts3⟩,fun b o hb hnf=>?_⟩
 · obtain ⟨sl,hs⟩:=s1.2.2 b o hb
   exact ⟨_,kp b _ (nr b o hb hnf) hs,rfl⟩
 · exact ⟨by rw [Array.getElem?_setIfInBounds_ne (by decide)];exact h0.a,by rw [Array.getElem?_setIfInBounds_ne (by decide)];exact h0.b⟩
 · obtain ⟨sl,hs⟩:=s1.2.2 b o hb
   exact ⟨sl,kp b _ (nr b o hb hnf) hs⟩
theorem qe {oe:Obj} {vs:Array Value} (hfr:A.frames=some (env::outer)) (hl:s.heap.FunFrames base (env::outer)) (hf:env.frame=some L) (he:s.heap.get? e=some oe) (hc:oe.cls=cls) (hdc:oe.dict=d) (hkb:base.StaysIn s.heap) (hen:base.get? e=none)
  (hd:oe.data=.fields vs) (h1:vs[1]?=some .none) (h0:Hd0 vs a0) (h:∀ h',kg base (env::outer) e cls a0 d (rawInt L) s.heap h'→Q () { s with heap:=h' }):wpAny M A (noteFrame (.ref e) env) Q E s:=by
 unfold noteFrame
 simp only [hf]
 refine wpAny_bind (wpAny_field he hd h1 ?_)
 rw [if_neg (by decide)]
 exact ui hfr hl hf he hc hdc hkb hen hd (Array.getElem?_eq_some_iff.mp h1).1 h0 h
theorem Cm {fl fl':Value} {T:Addr} {oT:Obj} {ts:Array Value} {l:List Env} {oe:Obj} {vs:Array Value} (hkb:base.StaysIn s.heap) (hl:s.heap.FunFrames base l) (he:s.heap.get? e=some oe) (hc:oe.cls=cls) (hdc:oe.dict=d) (hd:oe.data=.fields vs) (h0:Hd0 vs a0)
  (h1:vs[1]?=some (.ref T)) (nT:base.get? T=none) (Te:T≠e) (hT:s.heap.get? T=some oT) (hdT:oT.data=.fields ts) (h3:ts[3]?=some fl) (h:∀ h',kg base l e cls a0 d fl' s.heap h'→(h'.get? e=some oe)→Q () { s with heap:=h' }):wpAny M A (setField (.ref T) 3 fl') Q E s:=by
 have sz:=(Array.getElem?_eq_some_iff.mp h3).1
 have ot:∀ b,b≠T→(s.heap.update T (Obj.mapFields (·.setIfInBounds 3 fl'))).get? b=s.heap.get? b:=fun b hb=>Heap.get?_update_other _ _ (Ne.symm hb)
 have nr:∀ b o,s.heap.get? b=some o→(∀ vs,o.data≠ .fields vs)→b≠T:=fun b o hb hnf q=>by
  rw [q,hT] at hb
  cases hb
  exact hnf ts hdT
 refine wpAny_setField hT hdT sz (h _ ⟨fun b o hbo=>(ot b fun q=>by rw [q,nT] at hbo;cases hbo).trans (hkb b o hbo),hl.of_keeps fun b o hb hnf=>⟨o,(ot b (nr b o hb hnf)).trans hb,rfl⟩,
  ⟨oe,vs,T,_,_,(ot e (Ne.symm Te)).trans he,hc,hdc,hd,h0,h1,nT,Te,Heap.get?_update_self _ hT (Obj.isFreed_of_fields (Obj.data_mapFields hdT _)),Obj.data_mapFields hdT _,by simp [sz]⟩,fun b o hb hnf=>⟨o.slots,(ot b (nr b o hb hnf)).trans hb⟩⟩ ((ot e (Ne.symm Te)).trans he))
theorem ji {fl:Value} {l:List Env} (hkb:base.StaysIn s.heap) (hl:s.heap.FunFrames base l) (ht:TrD s.heap base e cls a0 d fl) (h:∀ h',kg base l e cls a0 d .none s.heap h'→Q () { s with heap:=h' }):wpAny M A (setFlight (.ref e) none) Q E s:=by
 obtain ⟨oe,vs,T,oT,ts,he,hc,hdc,hd,h0,h1,nT,Te,hT,hdT,h3⟩:=ht.ex
 unfold setFlight
 refine wpAny_bind (wpAny_field he hd h1 ?_)
 rw [if_pos (show (Value.ref T !=Value.none)=true from by simp)]
 exact Cm hkb hl he hc hdc hd h0 h1 nT Te hT hdT h3 fun h' n _=>h h' n
theorem kq (hfr:A.frames=some (env::outer)) (hl:s.heap.FunFrames base (env::outer)) (hf:env.frame=some L) (ht:TrD s.heap base e cls a0 d .none) (hkb:base.StaysIn s.heap) (hen:base.get? e=none)
  (h:∀ h',kg base (env::outer) e cls a0 d (rawInt L) s.heap h'→Q () { s with heap:=h' }):wpAny M A (noteFrame (.ref e) env) Q E s:=by
 obtain ⟨oe,vs,T,oT,ts,he,hc,hdc,hd,h0,h1,nT,Te,hT,hdT,h3⟩:=ht.ex
 unfold noteFrame
 simp only [hf]
 refine wpAny_bind (wpAny_field he hd h1 ?_)
 rw [if_pos (show (Value.ref T !=Value.none)=true from by simp)]
 refine wpAny_bind (wpAny_field hT hdT h3 ?_)
 rw [if_neg (show ¬ ((Value.none==rawInt L)=true) from by simp [rawInt])]
 refine wpAny_bind (Cm (fl':=.none) hkb hl he hc hdc hd h0 h1 nT Te hT hdT h3 fun h' n he'=>?_)
 exact ui (s:={ s with heap:=h' }) hfr n.fr hf he' hc hdc n.st hen hd (Array.getElem?_eq_some_iff.mp h1).1 h0 fun h2 n2=>h h2 ⟨n2.st,n2.fr,n2.tr,n.up.trans n2.up⟩
theorem oz {oe:Obj} {vs:Array Value} (hfr:A.frames=some (env::outer)) (hl:s.heap.FunFrames base (env::outer)) (hf:env.frame=some L) (he:s.heap.get? e=some oe) (hc:oe.cls=cls) (hdc:oe.dict=d) (hkb:base.StaysIn s.heap) (hen:base.get? e=none)
  (hd:oe.data=.fields vs) (h1:vs[1]?=some .none) (h0:Hd0 vs a0) (h:∀ h',kg base outer e cls a0 d .none s.heap h'→Q () { s with heap:=h' }):wpAny M A (leaving env (.ref e)) Q E s:=by
 unfold leaving
 refine wpAny_bind (qe hfr hl hf he hc hdc hkb hen hd h1 h0 fun h' n=>?_)
 obtain ⟨n1,⟨_,_,n2⟩,n3,n4⟩:=n
 exact ji (s:={ s with heap:=h' }) n1 n2 n3 fun h2 m=>h h2 ⟨m.st,m.fr,m.tr,n4.trans m.up⟩
theorem pX (hfr:A.frames=some (env::outer)) (hl:s.heap.FunFrames base (env::outer)) (hf:env.frame=some L) (ht:TrD s.heap base e cls a0 d .none) (hkb:base.StaysIn s.heap) (hen:base.get? e=none)
  (h:∀ h',kg base outer e cls a0 d .none s.heap h'→Q () { s with heap:=h' }):wpAny M A (leaving env (.ref e)) Q E s:=by
 unfold leaving
 refine wpAny_bind (kq hfr hl hf ht hkb hen fun h' n=>?_)
 obtain ⟨n1,⟨_,_,n2⟩,n3,n4⟩:=n
 exact ji (s:={ s with heap:=h' }) n1 n2 n3 fun h2 m=>h h2 ⟨m.st,m.fr,m.tr,n4.trans m.up⟩
end
end HT
namespace L2
open PySem PySem.Spec PyProof.Rows
abbrev veM:List Value:=[.type "ValueError",.type "Exception",.type "BaseException",.type "object"]
def cw (K:W.Frag) (C D:Addr):Option Bool:=match K.lookup C with
 | some ⟨_,_,.cls cd,_⟩=>some (cd.mro.contains (.ref D))
 | _=>none
def kY (K : W.Frag) (C : Addr) : Bool := match K.lookup C with
  | some ⟨.type "type", _, .cls cd, sl⟩ => (match cd.mro, sl.toList with
    | .ref C' :: bm, [_, _, _, _, some (.builtin n), _] => C' == C && n == "ValueError.__new__" && !cd.hasDel && W.tailIn K veM bm && W.nsOkIn K cd.ns
    | _, _ => false)
  | _ => false
def bW (K:W.Frag) (C:Addr):Prop:=kY K C=true
def dL (K:W.Frag) (C:Addr):Prop:=W.excIn K C veM "ValueError.__new__" =true
theorem dL.ok {K:W.Frag} {C:Addr} (q:dL K C):bW K C:=by
 unfold dL W.excIn at q
 unfold bW kY
 split at q
 · rename_i dd cd sl ho
   split at q
   · rename_i C' bm k0 k1 k2 k3 n k5 hm hs
     rw [ho]
     simp only [hm,hs]
     simp only [Bool.and_eq_true] at q ⊢
     exact q.1
   · cases q
 · cases q
theorem eJ {K : W.Frag} {h : Heap} {C : Addr} (X : K.In h) (q : bW K C) :
   ∃ bm N nm qn bs hdct sn sub ab col dd k0 k1 k2 k3 k5 mN, h.get? C = some (excClassObj nm qn C N bs bm hdct sn sub ab col dd k0 k1 k2 k3 k5 "ValueError.__new__") ∧ h.Ns N mN ∧ (dL K C → mN "__init__" = none) ∧ OwnTail h veM bm ∧
     ∀ D, cw K C D = some ((Value.ref C :: bm).contains (.ref D)) := by
 have q2 := q
 unfold bW kY at q
 split at q
 · rename_i dd cd sl ho
   split at q
   · rename_i C' bm k0 k1 k2 k3 n k5 hm hs
     simp only [Bool.and_eq_true, beq_iff_eq, Bool.not_eq_true'] at q
     obtain ⟨⟨⟨⟨rfl, rfl⟩, hdel⟩, ht⟩, hok⟩ := q
     obtain ⟨nm, bs, mro, ns, qn, hd, sn, sub, ab, col, del⟩ := cd
     dsimp only at hm hdel hok
     subst hm hdel
     have hsl : sl = #[k0, k1, k2, k3, some (.builtin "ValueError.__new__"), k5] := by
       obtain ⟨l⟩ := sl
       simp only at hs
       rw [hs]
     subst hsl
     refine ⟨bm, ns, nm, qn, bs, hd, sn, sub, ab, col, dd, k0, k1, k2, k3, k5, _, X _ _ ho, .of_isNs (W.isNs_of_in X hok), fun r => ?_, W.tail_of_in X ht, fun D => ?_⟩
     · unfold dL W.excIn at r
       rw [ho] at r
       simp only [Bool.and_eq_true, beq_iff_eq] at r
       exact W.nsMap_none_of_in X hok r.2
     · unfold cw
       rw [ho]
   · cases q
 · cases q
theorem gX {M:Model} {A:Around} {E:Value→Shared→Prop} {s:Shared} {K:W.Frag} {C D e:Addr} {oe:Obj} {Q:Bool→Shared→Prop} {b:Bool} (X:K.In s.heap) (hC:bW K C) (hD:bW K D) (he:s.heap.get? e=some oe) (hcls:oe.cls=.ref C)
  (hs:cw K C D=some b) (hq:Q b s):wpAny M A (excMatches (.ref e) (.ref D)) Q E s:=by
 obtain ⟨bm,N,nm,qn,bs,hdct,sn,sub,ab,col,dd,k0,k1,k2,k3,k5,mN,oC,_,_,_,hsub⟩:=eJ X hC
 obtain ⟨bm',N',nm',qn',bs',hdct',sn',sub',ab',col',dd',k0',k1',k2',k3',k5',mN',oD,_,_,T',_⟩:=eJ X hD
 have hb:(Value.ref C::bm).contains (.ref D)=b:=Option.some.inj ((hsub D).symm.trans hs)
 have hbase:(Value.ref D::bm').contains (.type "BaseException")=true:=by
  rw [List.contains_cons,T'.hasType (X:= "BaseException") (b:=true) (by decide +kernel),Bool.or_true]
 have f:=tc_notTuple
 obtain ⟨hp,g,d,t,os⟩:=s
 unfold excMatches
 repeat (first | (with_reducible refine wpAny_loadPart_at he ?_;rw [hcls]) | with_reducible refine wpAny_loadPart_at oD ?_ | (with_reducible refine wpAny_isSubtype_exc oC ?_;rw [hb]) | (with_reducible refine wpAny_isSubtype_exc oD ?_;rw [hbase]) | wp_step)
 all_goals first | exact hq | (cases b <;> first | exact hq | (repeat (first | exact hq | wp_step)))
structure Fly (P:Program) (w:World) (l:List Env) (H:Hp) (s:Shared) (cls fl:Value) (a:Addr) (d:Option Addr) (H':Hp) (s':Shared):Prop where
 os:s'.os=s.os
 bare:AllBare s'.gens
 un:Un (frs l) [] H H' s.heap s'.heap
 hok:HOk P w H' s'.heap
 new:s.heap.get? a=none
 free:H' a=none
 tr:∃ oe vs a0 T oT ts,s'.heap.get? a=some oe∧oe.cls=cls∧oe.dict=d∧oe.data=.fields vs∧HT.Hd0 vs a0∧vs[1]?=some (.ref T)∧T≠a∧s'.heap.get? T=some oT∧oT.data=.fields ts∧ts[3]?=some fl∧s.heap.get? T=none∧H' T=none
def CX1 (P:Program) (w:World):CXT:=fun outer H s E e s'=>∃ a C d H',e=.ref a∧Fly P w outer H s (.ref C) .none a d H' s'∧E (.ref C) d H'
theorem iu {P:Program} {w:World} {H:Hp} {h:Heap} {a:Addr} {o:HO} (x:bc P w H h a o):∃ u,h.get? a=some u:=by
 cases o with
 | lst xs=>obtain ⟨_,_,_,_,e⟩:=x;exact ⟨_,e⟩
 | tup xs=>obtain ⟨_,_,_,p⟩:=x;obtain ⟨o,e,_⟩:=p;exact ⟨_,e⟩
 | dK kvs=>obtain ⟨_,_,_,_,o,_,_,e,_⟩:=x;exact ⟨_,e⟩
 | dT kvs=>obtain ⟨_,_,_,_,o,_,_,e,_⟩:=x;exact ⟨_,e⟩
 | set S n=>obtain ⟨o,_,_,_,e,_⟩:=x;exact ⟨_,e⟩
 | ins C dx fs=>obtain ⟨_,_,_,e,_⟩:=x;exact ⟨_,e⟩
 | own y=>exact x
 | xd fs=>obtain ⟨_,⟨_,_,_,e,_⟩,_⟩:=x;exact ⟨_,e⟩
 | rng lo hi=>obtain ⟨_,_,_,e⟩:=x;exact ⟨_,e⟩
 | frz ob u=>obtain ⟨e,_⟩:=x;exact ⟨_,e⟩
 | tbl ps=>exact ⟨_,(show h.get? a=some _ from x)⟩
 | met f y=>exact ⟨_,(show h.get? a=some _ from x)⟩
 | ext φ=>obtain ⟨_,e,_⟩:=x;exact e
section
variable {P:Program} {w:World} {l:List Env} {H H':Hp} {s s':Shared} {cls fl fl':Value} {a:Addr} {d:Option Addr} {base:Heap}
def eR (h:Heap) (l:List Env) (a T:Addr):Heap:=W.hideAll h (a::T::frs l)
theorem Fly.frames (F : Fly P w l H s cls fl a d H' s') (ff : s.heap.FunFrames base l) (frf : ∀ b ∈ frs l, H b = none) : s'.heap.FunFrames base l := by
  have all : ∀ (k : List Env), (∀ b ∈ frs k, b ∈ frs l) → s.heap.FunFrames base k → s'.heap.FunFrames base k := by
    intro k
    induction k with
    | nil => intro _ _; trivial
    | cons env r ih =>
      intro hs hl
      obtain ⟨hk, ⟨L, o, hf, hn, ho, hd⟩, hr⟩ := hl
      have hL : L ∈ frs l := hs L (by unfold frs; rw [List.filterMap_cons, hf]; exact List.mem_cons_self)
      obtain ⟨sl, e⟩ := F.un.slot L o ho (frf L hL) hL (by simp)
      exact ⟨hk, ⟨L, _, hf, hn, e, hd⟩, ih (fun b hb => hs b (by unfold frs; rw [List.filterMap_cons, hf]; exact List.mem_cons_of_mem _ hb)) hr⟩
  exact all l (fun _ hb => hb) ff
theorem iQ {h B B':Heap}:∀ {k:List Env},h.FunFrames B k→(∀ b∈frs k,B'.get? b=none)→h.FunFrames B' k
 | [],_,_=>trivial
 | env::r,⟨hk,⟨L,o,hf,hn,ho,hd⟩,hr⟩,hb=>⟨hk,⟨L,o,hf,hb L (by unfold frs;rw [List.filterMap_cons,hf];exact List.mem_cons_self),ho,hd⟩,iQ hr fun b h=>hb b (by unfold frs;rw [List.filterMap_cons,hf];exact List.mem_cons_of_mem _ h)⟩
theorem Fly.moved (F : Fly P w l H s cls fl a d H' s') (ff : s.heap.FunFrames base l) (frf : ∀ b ∈ frs l, H b = none) (ffs : ∀ b ∈ frs l, H' b = none) {T : Addr} {oT : Obj} (hT0 : s.heap.get? T = none) (hT1 : H' T = none) {h' : Heap} {a0 : Value}
    (st : (eR s'.heap l a T).StaysIn h') (up : s'.heap.UpToSlots h') (tr : HT.TrD h' (eR s'.heap l a T) a cls a0 d fl') : Fly P w l H s cls fl' a d H' { s' with heap := h' } := by
  have kp : ∀ b o, s'.heap.get? b = some o → b ≠ a → b ≠ T → b ∉ frs l → h'.get? b = some o := fun b o e h1 h2 h3 => st b o (W.hideAll_get _ e (by simp [h1, h2, h3]))
  have ff' := F.frames ff frf
  have nf : ∀ b ∈ frs l, ∀ o, s'.heap.get? b = some o → ∀ vs, o.data ≠ .fields vs := fun b hb o e vs z => by
    obtain ⟨_, o', ho, hd⟩ := ff'.mem hb
    rw [e] at ho; cases ho
    exact hd vs z
  have old : ∀ b o, s.heap.get? b = some o → b ≠ a ∧ b ≠ T := fun b o e => ⟨fun z => (by rw [z, F.new] at e; cases e), fun z => (by rw [z, hT0] at e; cases e)⟩
  refine ⟨F.os, F.bare, ⟨fun b o e n hb hx => ?_, fun b o e n hb hx => ?_, F.un.free, fun b o e hx => ?_, F.un.tups, F.un.frzs, F.un.tbls⟩, fun b o e => ?_, F.new, F.free, ?_⟩
  · exact kp b o (F.un.keep b o e n hb hx) (old b o e).1 (old b o e).2 hb
  · obtain ⟨sl, e1⟩ := F.un.slot b o e n hb hx
    obtain ⟨sl', e2⟩ := up b _ e1 (nf b hb _ e1)
    exact ⟨sl', e2⟩
  · obtain ⟨o', e1⟩ := F.un.there b o e hx
    by_cases hb : b ∈ frs l
    · obtain ⟨sl', e2⟩ := up b _ e1 (nf b hb _ e1)
      exact ⟨_, e2⟩
    · exact ⟨o', kp b o' e1 (old b o e).1 (old b o e).2 hb⟩
  · refine (F.hok b o e).stay (fun c u hc q => kp c u q ?_ ?_ ?_) (fun _ q => q) fun _ _ q => q
    · rintro rfl
      rcases hc with r | r
      · rw [← r, F.free] at e; cases e
      · rw [F.free] at r; cases r
    · rintro rfl
      rcases hc with r | r
      · rw [← r, hT1] at e; cases e
      · rw [hT1] at r; cases r
    · intro hm
      rcases hc with r | r
      · rw [← r, ffs _ hm] at e; cases e
      · rw [ffs _ hm] at r; cases r
  · obtain ⟨oe, vs, T', oT', ts, he, hc, hdc, hd, h0, h1, hn, hne, hT', hdT, h3⟩ := tr.ex
    have key : s'.heap.get? T' = none ∨ T' = T := by
      cases q : s'.heap.get? T' with
      | none => exact .inl rfl
      | some o =>
        refine .inr (Classical.byContradiction fun hz => ?_)
        by_cases hf : T' ∈ frs l
        · obtain ⟨sl', e2⟩ := up T' o q (nf T' hf o q)
          rw [hT'] at e2; cases e2
          exact nf T' hf o q ts hdT
        · have : (eR s'.heap l a T).get? T' = some o := W.hideAll_get _ q (by simp [hz, hne, hf])
          rw [hn] at this; cases this
    refine ⟨oe, vs, a0, T', oT', ts, he, hc, hdc, hd, h0, h1, hne, hT', hdT, h3, ?_, ?_⟩
    · rcases key with z | z
      · cases q : s.heap.get? T' with
        | none => rfl
        | some o =>
          obtain ⟨o', e⟩ := F.un.there T' o q (by simp)
          rw [z] at e; cases e
      · rw [z]; exact hT0
    · rcases key with z | z
      · cases q : H' T' with
        | none => rfl
        | some o =>
          obtain ⟨o1, e1⟩ := iu (F.hok T' o q)
          rw [z] at e1; cases e1
      · rw [z]; exact hT1
end
end L2
namespace L2
open PySem PySem.Spec PyProof.Rows
section
variable {X:Cx} {pins:List (Addr×Obj)} {σ:St} {H H':Hp} {s s':Shared} {cls fl:Value} {a:Addr} {d:Option Addr}
theorem Fly.inv (I:Inv X pins σ H s) (F:Fly X.prog X.w X.stack H s cls fl a d H' s'):Inv X pins σ H' s':=I.call' (ch:=[]) F.os F.un F.hok F.bare fun b z=>absurd z (by simp)
theorem Fly.up (I : Inv X pins σ H s) (hex : X.ex = []) (F : Fly X.prog X.w X.stack H s cls fl a d H' s') : Fly X.prog X.w X.outer X.H₀ X.s₀ cls fl a d H' s' := by
  have I2 := F.inv I
  have back : ∀ b, s.heap.get? b = none → X.s₀.heap.get? b = none := fun b e => by
    cases q : X.s₀.heap.get? b with
    | none => rfl
    | some o =>
      obtain ⟨o', e'⟩ := I.base.there b o q (by rw [hex]; simp)
      rw [e] at e'; cases e'
  obtain ⟨oe, vs, a0, T, oT, ts, h1, h2, hd, h3, h4, h5, h6, h7, h8, h9, h10, h11⟩ := F.tr
  have b := I2.base
  rw [hex] at b
  exact ⟨I2.os, I2.bare, b, I2.hok, back a F.new, F.free, oe, vs, a0, T, oT, ts, h1, h2, hd, h3, h4, h5, h6, h7, h8, h9, back T h10, h11⟩
theorem Fly.flying (I:Inv X pins σ H s) (F:Fly X.prog X.w X.stack H s cls .none a d H' s'):∃ T a0,s.heap.get? T=none∧H' T=none∧(eR s'.heap X.stack a T).StaysIn s'.heap∧(eR s'.heap X.stack a T).get? a=none∧s'.heap.FunFrames (eR s'.heap X.stack a T) X.stack∧
  HT.TrD s'.heap (eR s'.heap X.stack a T) a cls a0 d .none:=by
 obtain ⟨oe,vs,a0,T,oT,ts,h1,h2,hd,h3,h4,h5,h6,h7,h8,h9,h10,h11⟩:=F.tr
 exact ⟨T,a0,h10,h11,fun b o e=>W.of_hideAll _ e,W.hideAll_none _ (by simp),iQ (F.frames I.stack I.stkFree) fun b hb=>W.hideAll_none _ (by simp [hb]),⟨oe,vs,T,oT,ts,h1,h2,hd,h3,h4,h5,W.hideAll_none _ (by simp),h6,h7,h8,h9⟩⟩
end
structure rH (P:Program) (w:World) (l:List Env) (H:Hp) (s:Shared) (cls:Value) (a:Addr) (d:Option Addr) (H':Hp) (s':Shared):Prop where
 os:s'.os=s.os
 bare:AllBare s'.gens
 un:Un (frs l) [] H H' s.heap s'.heap
 hok:HOk P w H' s'.heap
 new:s.heap.get? a=none
 free:H' a=none
 tr:∃ oe vs a0,s'.heap.get? a=some oe∧oe.cls=cls∧oe.dict=d∧oe.data=.fields vs∧HT.Hd0 vs a0∧vs[1]?=some .none
section
variable {P:Program} {w:World} {l:List Env} {H H':Hp} {s s':Shared} {cls fl':Value} {a:Addr} {d:Option Addr} {base:Heap}
theorem lY (un : Un (frs l) [] H H' s.heap s'.heap) (ff : s.heap.FunFrames base l) (frf : ∀ b ∈ frs l, H b = none) : s'.heap.FunFrames base l := by
  have all : ∀ (k : List Env), (∀ b ∈ frs k, b ∈ frs l) → s.heap.FunFrames base k → s'.heap.FunFrames base k := by
    intro k
    induction k with
    | nil => intro _ _; trivial
    | cons env r ih =>
      intro hs hl
      obtain ⟨hk, ⟨L, o, hf, hn, ho, hd⟩, hr⟩ := hl
      have hL : L ∈ frs l := hs L (by unfold frs; rw [List.filterMap_cons, hf]; exact List.mem_cons_self)
      obtain ⟨sl, e⟩ := un.slot L o ho (frf L hL) hL (by simp)
      exact ⟨hk, ⟨L, _, hf, hn, e, hd⟩, ih (fun b hb => hs b (by unfold frs; rw [List.filterMap_cons, hf]; exact List.mem_cons_of_mem _ hb)) hr⟩
  exact all l (fun _ hb => hb) ff
theorem rH.moved (F : rH P w l H s cls a d H' s') (ff : s.heap.FunFrames base l) (frf : ∀ b ∈ frs l, H b = none) (ffs : ∀ b ∈ frs l, H' b = none) {h' : Heap} {a0 : Value}
    (st : (eR s'.heap l a a).StaysIn h') (up : s'.heap.UpToSlots h') (tr : HT.TrD h' (eR s'.heap l a a) a cls a0 d fl') : Fly P w l H s cls fl' a d H' { s' with heap := h' } := by
  have kp : ∀ b o, s'.heap.get? b = some o → b ≠ a → b ∉ frs l → h'.get? b = some o := fun b o e h1 h3 => st b o (W.hideAll_get _ e (by simp [h1, h3]))
  have ff' := lY F.un ff frf
  have nf : ∀ b ∈ frs l, ∀ o, s'.heap.get? b = some o → ∀ vs, o.data ≠ .fields vs := fun b hb o e vs z => by
    obtain ⟨_, o', ho, hd⟩ := ff'.mem hb
    rw [e] at ho; cases ho
    exact hd vs z
  have old : ∀ b o, s.heap.get? b = some o → b ≠ a := fun b o e z => by rw [z, F.new] at e; cases e
  refine ⟨F.os, F.bare, ⟨fun b o e n hb hx => ?_, fun b o e n hb hx => ?_, F.un.free, fun b o e hx => ?_, F.un.tups, F.un.frzs, F.un.tbls⟩, fun b o e => ?_, F.new, F.free, ?_⟩
  · exact kp b o (F.un.keep b o e n hb hx) (old b o e) hb
  · obtain ⟨sl, e1⟩ := F.un.slot b o e n hb hx
    obtain ⟨sl', e2⟩ := up b _ e1 (nf b hb _ e1)
    exact ⟨sl', e2⟩
  · obtain ⟨o', e1⟩ := F.un.there b o e hx
    by_cases hb : b ∈ frs l
    · obtain ⟨sl', e2⟩ := up b _ e1 (nf b hb _ e1)
      exact ⟨_, e2⟩
    · exact ⟨o', kp b o' e1 (old b o e) hb⟩
  · refine (F.hok b o e).stay (fun c u hc q => kp c u q ?_ ?_) (fun _ q => q) fun _ _ q => q
    · rintro rfl
      rcases hc with r | r
      · rw [← r, F.free] at e; cases e
      · rw [F.free] at r; cases r
    · intro hm
      rcases hc with r | r
      · rw [← r, ffs _ hm] at e; cases e
      · rw [ffs _ hm] at r; cases r
  · obtain ⟨oe, vs, T', oT', ts, he, hc, hdc, hd, h0, h1, hn, hne, hT', hdT, h3⟩ := tr.ex
    have key : s'.heap.get? T' = none := by
      cases q : s'.heap.get? T' with
      | none => rfl
      | some o =>
        by_cases hf : T' ∈ frs l
        · obtain ⟨sl', e2⟩ := up T' o q (nf T' hf o q)
          rw [hT'] at e2; cases e2
          exact (nf T' hf o q ts hdT).elim
        · have : (eR s'.heap l a a).get? T' = some o := W.hideAll_get _ q (by simp [hne, hf])
          rw [hn] at this; cases this
    refine ⟨oe, vs, a0, T', oT', ts, he, hc, hdc, hd, h0, h1, hne, hT', hdT, h3, ?_, ?_⟩
    · cases q : s.heap.get? T' with
      | none => rfl
      | some o =>
        obtain ⟨o', e⟩ := F.un.there T' o q (by simp)
        rw [key] at e; cases e
    · cases q : H' T' with
      | none => rfl
      | some o =>
        obtain ⟨o1, e1⟩ := iu (F.hok T' o q)
        rw [key] at e1; cases e1
end
def dQ (CX:CXT) (X:Cx) (E:St→XK):Prop:=∀ (pins:List (Addr×Obj)) (σ:St) (H:Hp) (s:Shared) (e:Value) (s':Shared),Inv X pins σ H s→CX X.stack H s (E σ) e s'→X.xe e s'
def pK (X:Cx) (E:St→XK):Prop:=∀ (pins:List (Addr×Obj)) (σ:St) (H:Hp) (s:Shared) (C a:Addr) (d:Option Addr) (H2:Hp) (s2:Shared),Inv X pins σ H s→rH X.prog X.w X.stack H s (.ref C) a d H2 s2→E σ (.ref C) d H2→X.xe (.ref a) s2
theorem cU {P:Program} {w:World} {X:Cx}:dQ (CX1 P w) X (fun _=>E0):=fun pins σ H s e s' I ⟨_,_,_,_,_,_,h⟩=>h.elim
section
variable {P:Program} {w:World} {K:W.Frag} {mg:Str→Option Value} {base:Heap} {N:List Str} {qual:Str} {scope:Scope} {f:Addr} {cd:Value} {A:Around} {outer:List Env} {s:Shared} {H:Hp} {E:XK}
theorem eZ:dQ (CX1 P w) (cF (CX1 P w) P w K mg base N qual scope f cd A outer s H E) (fun _=>E):=by
 intro pins σ H1 s1 e s' I hx
 obtain ⟨a,C,d,H',rfl,F,hE⟩:=hx
 obtain ⟨T,a0,hT0,hT1,f1,f2,f3,f4⟩:=F.flying I
 refine HT.pX (I.ok.frames) f3 rfl f4 f1 f2 fun h' n=>?_
 have F2:=F.moved (oT:={ cls:=.none,data:=.dict #[] }) I.stack I.stkFree (F.inv I).stkFree hT0 hT1 n.st n.up n.tr
 exact ⟨a,C,d,H',rfl,F2.up I rfl,hE⟩
theorem gz:pK (cF (CX1 P w) P w K mg base N qual scope f cd A outer s H E) (fun _=>E):=by
 intro pins σ H1 s1 C a d H2 s2 I F hE
 have I2:Inv (cF (CX1 P w) P w K mg base N qual scope f cd A outer s H E) pins σ H2 s2:=I.call' (ch:=[]) F.os F.un F.hok F.bare fun b z=>absurd z (by simp)
 obtain ⟨oe,vs,a0,he,hc,hdc,hd,h0,h1⟩:=F.tr
 refine HT.oz I.ok.frames (iQ (B':=eR s2.heap (cF (CX1 P w) P w K mg base N qual scope f cd A outer s H E).stack a a) (lY F.un I.stack I.stkFree) fun b hb=>W.hideAll_none _ (List.mem_cons_of_mem _ (List.mem_cons_of_mem _ hb))) rfl he hc hdc (fun b o e=>W.of_hideAll _ e) (W.hideAll_none _ (by simp)) hd h1 h0 fun h' n=>?_
 have F2:=F.moved I.stack I.stkFree I2.stkFree n.st n.up n.tr
 exact ⟨a,C,d,H2,rfl,F2.up I rfl,hE⟩
theorem DK {X : Cx} {pins : List (Addr × Obj)} {σ : St} {H : Hp} {s : Shared} {C a : Addr} {h1 : Heap} (I : Inv X pins σ H s) (hm : Heap.MadeExcOf s.heap h1 a (.ref C) []) : rH X.prog X.w X.stack H s (.ref C) a none H { s with heap := h1 } := by
  obtain ⟨t, ht, _, _⟩ := hm.there
  refine ⟨rfl, I.bare, Un.kept hm.keeps, I.hok.kept hm.keeps, hm.new, ?_, ⟨_, _, .ref t, ht, rfl, rfl, rfl, ⟨rfl, rfl⟩, rfl⟩⟩
  cases q : H a with
  | none => rfl
  | some o =>
    obtain ⟨u, e'⟩ := iu (I.hok a o q)
    rw [hm.new] at e'; cases e'
end
def aq (sp:Sp) (E:St→XK) (t:TA):TE:=fun σ H Q=>t σ H fun vs H1=>sp vs H1 Q (E σ)
section
variable {X:Cx} {CX:CXT} {k:Nat} {f:Addr} {fd:FuncData} {ps:List Str} {sp:Sp} {E:St→XK} {x:Str} {p pos:Pos} {e:Expr} {es:List Expr} {t:TA}
theorem jB {pins : List (Addr × Obj)} {σ : St} {H : Hp} {s : Shared} {Q : VK} {us : List Value} {vs : List V} (F : aP X.prog X.w X.K X.mg X.base CX k f fd ps sp) (hr : bg k X.A) (hb : bH X.K fd ps []) (hx : dQ CX X E)
    (I : Inv X pins σ H s) (r : aX vs us) (h : sp vs H Q (E σ)) : wpAny (model X.prog X.w) X.A (call (.ref f) us) (EP X pins σ Q) X.xe s := by
  have hl : us.length = ps.length := by rw [← r.length]; exact F.len _ _ _ _ h
  have hb' := hb s us I.kIn (by rw [List.append_nil]; exact hl)
  rw [List.append_nil] at hb'
  refine wpAny_call (codeAny_mono (F.run X.A X.stack s H ⟨us, []⟩ us vs Q (E σ) hr I.env0 hb' r h) fun r s' hq => ?_)
  cases r with
  | error e => exact hx pins σ H s e s' I hq
  | ok fl =>
    cases fl with
    | ret u => exact I.after hq
    | next => exact False.elim hq
    | brk => exact False.elim hq
    | cont => exact False.elim hq
theorem dz (F:aP X.prog X.w X.K X.mg X.base CX k f fd ps sp) (hr:bg k X.A) (hm:X.mg x=some (.ref f)) (hk:W.keepIn X.K (.ref f)=true) (hb:bH X.K fd ps []) (hx:dQ CX X E)
  (ha:QA X (e::es) t) (hg:Gl X x:=by rfl) (hdb:(x==("__debug__" :Str))=false:=by decide) (hs:bh (e::es)=true:=by rfl):QE X (.Call (.Name x p) (e::es) [] pos) (aq sp E t):=by
 refine ⟨fun pins s σ H Q I h=>?_⟩
 have h':(bL e&&bh es)=true:=hs
 refine wpAny_Call_Name_kw (eV I hg hm ?_ hdb)
 refine W.callWith_K (h₀:=X.base) I.ok.mod.kin hk (thn (ha.out pos pins s σ H _ I h) fun us s1 ⟨vs,H1,I1,r,q⟩=>⟨I1.kIn,?_⟩) (ba (Bool.and_eq_true_iff.mp h').1 es X.env) (bT (Bool.and_eq_true_iff.mp h').2)
 exact jB F hr hb hx I1 r q
theorem oE (F:aP X.prog X.w X.K X.mg X.base CX k f fd ps sp) (hr:bg k X.A) (hm:X.mg x=some (.ref f)) (hk:W.keepIn X.K (.ref f)=true) (hb:bH X.K fd ps []) (hx:dQ CX X E)
  (hg:Gl X x:=by rfl) (hdb:(x==("__debug__" :Str))=false:=by decide):QE X (.Call (.Name x p) [] [] pos) (aq sp E ag):=by
 refine ⟨fun pins s σ H Q I h=>?_⟩
 refine wpAny_Call_Name_kw (eV I hg hm ?_ hdb)
 exact W.callWith_K0 I.kIn hk (jB (us:=[]) F hr hb hx I .nil h)
def kS (C:Addr) (E:St→XK):TS:=fun _ σ H=>E σ (.ref C) none H
theorem lA {C:Addr} {np cpos:Pos} (hC:dL X.K C) (hm:X.mg x=some (.ref C)) (hR:pK X E) (hc:X.calm=true:=by rfl) (hg:Gl X x:=by rfl) (hdb:(x==("__debug__" :Str))=false:=by decide):
  QS X (.Raise (some (.Call (.Name x np) [] [] cpos)) none pos) (kS C E):=by
 refine ⟨fun pins s σ H D I h=>?_⟩
 obtain ⟨bm,N,nm,qn,bs,hdct,sn,sub,ab,col,dd,k0,k1,k2,k3,k5,mN,oC,hN,hni,T,_⟩:=eJ I.kIn hC.ok
 refine wpAny_Raise_call_subU (C:=C) (nm:=nm) (q:=qn) (N:=N) (bs:=bs) (bm:=bm) (hdct:=hdct) (sn:=sn) (sub:=sub) (ab:=ab) (col:=col) (dd:=dd) (k0:=k0) (k1:=k1) (k2:=k2) (k3:=k3) (k5:=k5)
  F.excBase_ValueError (by decide +kernel) F.excBase_ValueError (mN:=mN) (T.hasType F.excBase_ValueError.hasBase) (I.ok.hd hc) rfl (hni hC) (eV I hg hm ⟨rfl,?_⟩ hdb)
 exact evalArgs_empty ⟨rfl,Nat.zero_le _,oC,hN,T,fun h' e hm'=>hR pins σ H s C e none H _ I (DK I hm') h⟩
end
theorem Fun.okX {P : Program} {w : World} {K : W.Frag} {mg : Str → Option Value} {base : Heap} {x qual : Str} {st : Stmt} {f : Addr} {fd : FuncData} {N ps : List Str} {k : Nat} {sp : Sp} (F : Fun K x qual st f fd) (S : aA N ps (al st)) (len : ∀ vs H Q E, sp vs H Q E → vs.length = ps.length)
  (hbody : ∀ (cdv : Value) (A : Around) (outer : List Env) (s : Shared) (H : Hp) (vs : List V) (Q : VK) (E : XK), bg k (A.deeper (envOfC qual (al st) s.heap.objs.size f cdv)) → sp vs H Q E →
   ∃ t, PSs (cF (CX1 P w) P w K mg base N qual (al st) f cdv A outer s H E) (aO st) t ∧ t { nx := fun _ H' => Q .non H', rt := Q } (bU N vs) H) : aP P w K mg base (CX1 P w) (k + 1) f fd ps sp := by
 obtain ⟨oc, od, kV, doc, pm, an, cdv, ct, osl, rfl, lk, hcd⟩ := F.ex
 exact yp lk hcd S len fun A outer s H vs Q E hr hsp => hbody cdv A outer s H vs Q E hr hsp
end L2
namespace L2
open PySem PySem.Spec PyProof.Rows
def gc (C:Addr) (d:Option Addr) (a:Addr):HO:=.ext fun h=>∃ o vs,h.get? a=some o∧o.cls=.ref C∧o.dict=d∧o.data=.fields vs∧vs[2]?=some .none
theorem zj {P:Program} {w:World} {H:Hp} {h:Heap} {C a:Addr} {d:Option Addr} {o:Obj} {vs:Array Value} (e:h.get? a=some o) (hc:o.cls=.ref C) (hdc:o.dict=d) (hd:o.data=.fields vs) (h2:vs[2]?=some .none):bc P w H h a (gc C d a):=
 ⟨⟨o,vs,e,hc,hdc,hd,h2⟩,⟨o,e⟩,fun _ _ ⟨o1,vs1,e1,c1,x1,d1,y1⟩ k=>⟨o1,vs1,k o1 e1,c1,x1,d1,y1⟩⟩
theorem ql {P:Program} {w:World} {H:Hp} {h:Heap} {C a:Addr} {d:Option Addr} (x:bc P w H h a (gc C d a)):∃ o vs,h.get? a=some o∧o.cls=.ref C∧o.dict=d∧o.data=.fields vs∧vs[2]?=some .none:=x.1
section
variable {X:Cx} {pins:List (Addr×Obj)} {σ:St} {H H1 H':Hp} {s s0:Shared} {a:Addr} {o:HO}
theorem Inv.track (I0:Inv X pins σ H1 s0) (hex:X.ex=[]) (I:Inv X pins σ H s) (new:s0.heap.get? a=none) (hn:H a=none) (ok:bc X.prog X.w (upd H a o) s.heap a o):Inv X pins σ (upd H a o) s:=by
 have ne:∀ b u,s0.heap.get? b=some u→b≠a:=fun b u e z=>by rw [z,new] at e;cases e
 have ne0:∀ b u,X.s₀.heap.get? b=some u→b≠a:=fun b u e=>by
   obtain ⟨u',e'⟩:=I0.base.there b u e (by rw [hex];simp)
   exact ne b u' e'
 have nL:X.env.locals≠a:=by
   obtain ⟨m,⟨o',_,_,e,_⟩,_⟩:=I0.loc
   exact ne _ _ e
 refine ⟨I.ok,I.os,I.bare,⟨I.base.keep,I.base.slot,fun b u e n hx=>?_,I.base.there,fun b xs e=>?_,fun b u v e=>?_,fun b ps e=>?_⟩,I.loc,I.cell,?_,fun x c e=>?_,fun p hp=>?_,fun b u e=>?_,I.len⟩
 · rw [au (ne0 b u e)];exact I.base.free b u e n hx
 · have:=I.base.tups b xs e
   rw [au (aD this hn)];exact this
 · have:=I.base.frzs b u v e
   rw [au (aD this hn)];exact this
 · obtain ⟨more,this⟩:=I.base.tbls b ps e
   exact ⟨more,by rw [au (aD this hn)];exact this⟩
 · rw [au nL];exact I.free
 · obtain ⟨v,o',e',_⟩:=I0.cell x c e
   rw [au (ne _ _ e')];exact I.freeC x c e
 · obtain ⟨h1,h2,h3⟩:=I.pin p hp
   exact ⟨h1,by rw [au (ne _ _ (I0.pin p hp).1)];exact h2,h3⟩
 · by_cases hb:b=a
   · subst hb
     rw [ap] at e;cases e
     exact ok
   · rw [au hb] at e
     exact (I.hok b u e).stay (fun c v _ q=>q) (fun c q=>by
      have:c≠a:=aD q hn
      rw [au this];exact q) fun c xs q=>by
      have:c≠a:=aD q hn
      rw [au this];exact q
end
def cxH (X:Cx) (a:Addr):Cx:={ X with A:=X.A.mark (some (.ref a)),calm:=false,xe:=fun _ _=>False }
section
variable {X:Cx} {pins:List (Addr×Obj)} {σ:St} {H:Hp} {s:Shared} {a:Addr}
theorem Cx.Ok.toH (ok:X.Ok):(cxH X a).Ok:=⟨ok.mod,ok.kind,ok.glob,ok.blt,ok.above,ok.inj,ok.has,ok.cab,fun h=>absurd (show false=true from h) Bool.false_ne_true,ok.frames,ok.stk,ok.exf,ok.bs,ok.bsz,ok.noex,ok.exfs,ok.funs,ok.frf⟩
theorem Inv.toH (I:Inv X pins σ H s):Inv (cxH X a) pins σ H s:=⟨I.ok.toH,I.os,I.bare,I.base,I.loc,I.cell,I.free,I.freeC,I.pin,I.hok,I.len⟩
theorem Inv.ofH (ok:X.Ok) (I:Inv (cxH X a) pins σ H s):Inv X pins σ H s:=⟨ok,I.os,I.bare,I.base,I.loc,I.cell,I.free,I.freeC,I.pin,I.hok,I.len⟩
theorem SP.ofH {D:eE} {f:Flow} (ok:X.Ok) (h:SP (cxH X a) pins D f s):SP X pins D f s:=by
 cases f with
 | next=>obtain ⟨σ',H',J,q⟩:=h;exact ⟨σ',H',J.ofH ok,q⟩
 | brk=>obtain ⟨σ',H',J,q⟩:=h;exact ⟨σ',H',J.ofH ok,q⟩
 | cont=>obtain ⟨σ',H',J,q⟩:=h;exact ⟨σ',H',J.ofH ok,q⟩
 | ret u=>obtain ⟨v,σ',H',J,r,q⟩:=h;exact ⟨v,σ',H',J.ofH ok,r,q⟩
end
abbrev TH:=eE→St→Addr→Option Addr→Hp→Prop
def PH (X:Cx) (hs:List ExceptHandler) (t:TH):Prop:=∀ (pins:List (Addr×Obj)) (s0:Shared) (σ:St) (H1 H':Hp) (C a:Addr) (d:Option Addr) (s3:Shared) (D:eE),X.stack=X.env::X.outer→X.env.frame=some X.env.locals→X.ex=[]→
 Inv X pins σ H1 s0→Fly X.prog X.w X.stack H1 s0 (.ref C) .none a d H' s3→bW X.K C→t D σ C d H'→wpAny (model X.prog X.w) X.A (handleBy (.ref a) X.env hs) (SP X pins D) X.xe s3
structure QH (X:Cx) (hs:List ExceptHandler) (t:TH):Prop where
 out:PH X hs t
def oa:TH:=fun _ _ _ _ _=>False
def rS (K:W.Frag) (Dc:Addr) (ts:TS) (r:TH):TH:=fun D σ C d H=>∃ b,cw K C Dc=some b∧Sel b (ts D σ H) (r D σ C d H)
def uW (i:Nat) (D:eE):eE:=⟨fun σ H=>D.nx (σ.set i none) H,D.rt,fun σ H=>D.bk (σ.set i none) H,fun σ H=>D.ct (σ.set i none) H⟩
def hAs (K:W.Frag) (Dc:Addr) (i:Nat) (ts:TS) (r:TH):TH:=fun D σ C d H=>∃ b,cw K C Dc=some b∧Sel b (∀ a,H a=none→ts (uW i D) (σ.set i (some (.ref a))) (upd H a (gc C d a))) (r D σ C d H)
section
variable {X:Cx}
theorem oG:QH X [] oa:=⟨fun _ _ _ _ _ _ _ _ _ _ _ _ _ _ _ _ h=>h.elim⟩
theorem mr {pins:List (Addr×Obj)} {σ:St} {H H':Hp} {s s':Shared} {cls:Value} {a:Addr} {d:Option Addr} {M:Model} {A:Around} {E:Value→Shared→Prop} {Q:Unit→Shared→Prop} (I:Inv X pins σ H s) (F:Fly X.prog X.w X.stack H s cls .none a d H' s')
  (hQ:∀ s'',Fly X.prog X.w X.stack H s cls .none a d H' s''→Q () s''):wpAny M A (setFlight (.ref a) none) Q E s':=by
 obtain ⟨T,a0,hT0,hT1,f1,f2,f3,f4⟩:=F.flying I
 refine HT.ji f1 f3 f4 fun h' n=>?_
 exact hQ _ (F.moved (oT:={ cls:=.none,data:=.dict #[] }) I.stack I.stkFree (F.inv I).stkFree hT0 hT1 n.st n.up n.tr)
variable {x n:Str} {np hp:Pos} {Dc:Addr} {b0:Stmt} {suite:List Stmt} {bS:List ExceptHandler} {ts:TS} {r:TH} {i:Nat}
theorem pI {A:Around} {E:Value→Shared→Prop} {pins:List (Addr×Obj)} {s:Shared} {σ:St} {H:Hp} {u:Value} {pos:Pos} {Q:Value→Shared→Prop} (I:Inv X pins σ H s) (hg:Gl X x) (hm:X.mg x=some u) (h:Q u s)
  (hd:(x==("__debug__" :Str))=false:=by decide):wpAny (model X.prog X.w) A (eval (.Name x pos) X.env) Q E s:=
 Calls.Name_function_global I.ok.kind hg (Calls.loadGlobal_global (by rw [I.ok.glob];exact I.mod.glob.keeps I.bk) hm h) hd
theorem pJ (hD : bW X.K Dc) (hm : X.mg x = some (.ref Dc)) (hs : ∀ a, QSs (cxH X a) (b0 :: suite) ts) (hr : QH X bS r) (hg : Gl X x := by rfl) (hdb : (x == ("__debug__" : Str)) = false := by decide) :
    QH X (.ExceptHandler (some (.Name x np)) none (b0 :: suite) hp :: bS) (rS X.K Dc ts r) := by
  refine ⟨fun pins s0 σ H1 H' C a d s3 D e1 e2 hex I F hC h => ?_⟩
  obtain ⟨b, hb, q⟩ := h
  have I3 := F.inv I
  obtain ⟨oe, vs, _, _, _, _, he, hc, hdc, hd, _⟩ := F.tr
  refine wpAny_handleBy_cons (codeAny_handlers_test (pI I3 hg hm ?_ hdb)) (by intro q; cases q)
  refine gX I3.kIn hC hD he hc hb ?_
  have q := dN q
  cases b with
  | false => exact hr.out pins s0 σ H1 H' C a d s3 D e1 e2 hex I F hC q
  | true =>
    refine codeAny_handlers_suite (mr I F fun s4 F4 => ?_)
    refine wpAny_mono ((hs a).out pins s4 σ H' D (F4.inv I).toH q) (fun f s5 h5 => ?_) fun _ _ z => z.elim
    exact SP.ofH I.ok h5
theorem yd (i : Nat) (hN : X.N.Nodup) (hD : bW X.K Dc) (hm : X.mg x = some (.ref Dc)) (hs : ∀ a, QSs (cxH X a) (b0 :: suite) ts) (hr : QH X bS r) (hg : Gl X x := by rfl) (hdb : (x == ("__debug__" : Str)) = false := by decide)
    (hi : X.N[i]? = some n := by rfl) (hl : X.env.scope.names.lookup n = some .local := by rfl) :
    QH X (.ExceptHandler (some (.Name x np)) (some n) (b0 :: suite) hp :: bS) (hAs X.K Dc i ts r) := by
  refine ⟨fun pins s0 σ H1 H' C a d s3 D e1 e2 hex I F hC h => ?_⟩
  obtain ⟨b, hb, q⟩ := h
  have I3 := F.inv I
  obtain ⟨oe, vs, _, _, _, _, he, hc, hdc, hd, _⟩ := F.tr
  refine wpAny_handleBy_cons (codeAny_handlers_test (pI I3 hg hm ?_ hdb)) (by intro q; cases q)
  refine gX I3.kIn hC hD he hc hb ?_
  have q := dN q
  cases b with
  | false => exact hr.out pins s0 σ H1 H' C a d s3 D e1 e2 hex I F hC q
  | true =>
    refine codeAny_handlers_suite_as (mr I F fun s4 F4 => ?_)
    have I4 := F4.inv I
    obtain ⟨oe4, vs4, _, _, _, _, he4, hc4, hdc4, hd4, h04, _⟩ := F4.tr
    have I5 : Inv X pins σ (upd H' a (gc C d a)) s4 := Inv.track I hex I4 F.new F.free (zj he4 hc4 hdc4 hd4 h04.b)
    have hcls : (X.env.scope.kind == .class || (X.env.scope.kind == .module && X.env.locals != X.env.globals)) = false := by rw [I.ok.kind]; rfl
    refine eU (v := .ref a) I5 hN hi (.inl hl) rfl (fun s6 I6 => ?_) (.inr hl)
    refine wpAny_mono ((hs a).out pins s6 _ _ (uW i D) I6.toH (q a F.free)) (fun f s7 h7 => ?_) fun _ _ z => z.elim
    have h7 := SP.ofH I.ok h7
    have go : ∀ {σ' : St} {H'' : Hp} {Q : Unit → Shared → Prop}, Inv X pins σ' H'' s7 → (∀ s8, Inv X pins (σ'.set i none) H'' s8 → Q () s8) → wpAny (model X.prog X.w) X.A (do bindName X.env n .none; unbindBehindTheSuite X.env n hp) Q X.xe s7 := fun {σ' H'' Q} J hQ => by
      obtain ⟨m, hn, hloc⟩ := id J.loc
      refine wpAny_nameGoes_keeps hl hn hcls fun h' v hn' hs' => hQ _ ?_
      obtain ⟨oL, _, _, hoL, _⟩ := id hn
      refine ⟨J.ok, J.os, J.bare, ⟨fun b o e n hb hx => ?_, fun b o e n hb hx => ?_, J.base.free, fun b o e hx => ?_, J.base.tups, J.base.frzs, J.base.tbls⟩, ⟨_, hn', fun j y v' e1 e2 e3 => ?_⟩, fun y c e => ?_, J.free, J.freeC, fun p hp => ?_, fun b ob e => ?_, by simpa using J.len⟩
      · exact (hs'.2 b (Nat.ne_of_lt (Nat.lt_of_lt_of_le (Heap.lt_size e) J.ok.above))).trans (J.base.keep b o e n hb hx)
      · obtain ⟨sl, e1⟩ := J.base.slot b o e n hb hx
        exact ⟨sl, (hs'.2 b (Nat.ne_of_lt (Nat.lt_of_lt_of_le (Heap.lt_size e) J.ok.above))).trans e1⟩
      · obtain ⟨o', e1⟩ := J.base.there b o e hx
        exact ⟨o', (hs'.2 b (Nat.ne_of_lt (Nat.lt_of_lt_of_le (Heap.lt_size e) J.ok.above))).trans e1⟩
      · have hji : j ≠ i := by
          rintro rfl
          have : j < σ'.length := by rw [J.len]; exact (List.getElem?_eq_some_iff.mp hi).1
          rw [List.getElem?_set_self this] at e2; cases e2
        rw [List.getElem?_set_ne (Ne.symm hji)] at e2
        obtain ⟨u, ru, lk⟩ := hloc j y v' e1 e2 e3
        refine ⟨u, ru, ?_⟩
        rcases lk with ⟨k, e⟩ | ⟨k, c, e, z⟩
        · refine .inl ⟨k, ?_⟩
          have : y ≠ n := fun e => hji (jO hN e1 (e ▸ hi))
          simp [this, e]
        · exact .inr ⟨k, c, e, z.sameBut hs' (J.cne y c e)⟩
      · obtain ⟨w', z⟩ := J.cell y c e
        exact ⟨w', z.sameBut hs' (J.cne y c e)⟩
      · obtain ⟨e, n, ne, nf, d⟩ := J.pin p hp
        exact ⟨(hs'.2 p.1 ne).trans e, n, ne, nf, d⟩
      · refine (J.hok b ob e).stay (fun c w' hc q => (hs'.2 c ?_).trans q) (fun _ q => q) fun _ _ q => q
        rintro rfl
        rcases hc with r | hc
        · rw [← r, J.free] at e; cases e
        · rw [J.free] at hc; cases hc
    cases f with
    | next => obtain ⟨σ', H'', J, q'⟩ := h7; exact go J fun s8 J8 => ⟨_, _, J8, q'⟩
    | brk => obtain ⟨σ', H'', J, q'⟩ := h7; exact go J fun s8 J8 => ⟨_, _, J8, q'⟩
    | cont => obtain ⟨σ', H'', J, q'⟩ := h7; exact go J fun s8 J8 => ⟨_, _, J8, q'⟩
    | ret u => obtain ⟨v, σ', H'', J, rv, q'⟩ := h7; exact go J fun s8 J8 => ⟨v, _, _, J8, rv, q'⟩
end
end L2
namespace L2
open PySem PySem.Spec PyProof.Rows
def sg (K:W.Frag) (tb:(St→XK)→TS) (th:TH) (te:TS):TS:=fun D σ H=>
 tb (fun σ' cls d H'=>∃ C,cls=.ref C∧bW K C∧th D σ' C d H') { D with nx:=te D } σ H
abbrev cxT (X:Cx) (pn:List (Addr×Obj)) (E':Value→Shared→Prop):Cx:={ X with pn:=pn,xe:=E' }
section
variable {X:Cx} {pins pn:List (Addr×Obj)} {σ:St} {H:Hp} {s:Shared} {E':Value→Shared→Prop}
theorem Cx.Ok.toT (ok:X.Ok):(cxT X pn E').Ok:=⟨ok.mod,ok.kind,ok.glob,ok.blt,ok.above,ok.inj,ok.has,ok.cab,ok.hd,ok.frames,ok.stk,ok.exf,ok.bs,ok.bsz,ok.noex,ok.exfs,ok.funs,ok.frf⟩
theorem Inv.toT (I:Inv X pins σ H s):Inv (cxT X (X.pn++pins) E') [] σ H s:=⟨I.ok.toT,I.os,I.bare,I.base,I.loc,I.cell,I.free,I.freeC,fun p hp=>I.pin p (by
 have hp:p∈(X.pn++pins)++[]:=hp
 rwa [List.append_nil] at hp),I.hok,I.len⟩
theorem Inv.ofT {pins':List (Addr×Obj)} (ok:X.Ok) (I:Inv (cxT X (X.pn++pins) E') pins' σ H s):Inv X pins σ H s:=⟨ok,I.os,I.bare,I.base,I.loc,I.cell,I.free,I.freeC,fun p hp=>I.pin p (List.mem_append_left _ hp),I.hok,I.len⟩
theorem sZ {body orelse : List Stmt} {h0 : ExceptHandler} {hs : List ExceptHandler} {pos : Pos} {tb : (St → XK) → TS} {te : TS} {th : TH}
    (hb : ∀ (pn' : List (Addr × Obj)) (E' : Value → Shared → Prop) (EH : St → XK), dQ (CX1 X.prog X.w) (cxT X pn' E') EH → QSs (cxT X pn' E') body (tb EH)) (hh : QH X (h0 :: hs) th) (he : QSs X orelse te)
    (e1 : X.stack = X.env :: X.outer := by rfl) (e2 : X.env.frame = some X.env.locals := by rfl) (hex : X.ex = [] := by rfl) : QS X (.Try body (h0 :: hs) orelse [] pos) (sg X.K tb th te) := by
  refine ⟨fun pins s σ H D I h => ?_⟩
  let E' : Value → Shared → Prop := fun e s1 => ∃ σ1 H1 s0 C a d H', e = .ref a ∧ Inv X pins σ1 H1 s0 ∧ Fly X.prog X.w X.stack H1 s0 (.ref C) .none a d H' s1 ∧ bW X.K C ∧ th D σ1 C d H'
  have pass : dQ (CX1 X.prog X.w) (cxT X (X.pn ++ pins) E') (fun σ' cls d H' => ∃ C, cls = .ref C ∧ bW X.K C ∧ th D σ' C d H') := by
    intro pins' σ1 H1 s0 e s1 I1 hx
    obtain ⟨a, C, d, H', rfl, F, C', ec, hC, ht⟩ := hx
    cases ec
    exact ⟨σ1, H1, s0, C, a, d, H', rfl, I1.ofT I.ok, F, hC, ht⟩
  refine wpAny_Try_except (wpAny_mono ((hb (X.pn ++ pins) E' _ pass).out [] s σ H _ I.toT h) (fun f s1 h1 => ?_) fun e s1 h1 => ?_)
  · cases f with
    | next =>
      obtain ⟨σ', H', J, q⟩ := h1
      exact he.out pins s1 σ' H' D (J.ofT I.ok) q
    | brk => obtain ⟨σ', H', J, q⟩ := h1; exact ⟨σ', H', J.ofT I.ok, q⟩
    | cont => obtain ⟨σ', H', J, q⟩ := h1; exact ⟨σ', H', J.ofT I.ok, q⟩
    | ret u => obtain ⟨v, σ', H', J, rv, q⟩ := h1; exact ⟨v, σ', H', J.ofT I.ok, rv, q⟩
  · obtain ⟨σ1, H1, s0, C, a, d, H', rfl, I1, F, hC, ht⟩ := h1
    obtain ⟨T, a0, hT0, hT1, f1, f2, f3, f4⟩ := F.flying I1
    have hfr := I1.ok.frames
    rw [e1] at hfr
    have f3' := f3
    rw [e1] at f3'
    have f1' := f1
    have f2' := f2
    have f4' := f4
    rw [e1] at f1' f2' f4'
    refine HT.kq hfr f3' e2 f4' f1' f2' fun h' n1 => ?_
    refine HT.ji (s := { s1 with heap := h' }) n1.st n1.fr n1.tr fun h'' n2 => ?_
    have st : (eR s1.heap X.stack a T).StaysIn h'' := by rw [e1]; exact n2.st
    have tr : HT.TrD h'' (eR s1.heap X.stack a T) a (.ref C) a0 d .none := by rw [e1]; exact n2.tr
    have F3 := F.moved (oT := { cls := .none, data := .dict #[] }) I1.stack I1.stkFree (F.inv I1).stkFree hT0 hT1 st (n1.up.trans n2.up) tr
    exact hh.out pins s0 σ1 H1 H' C a d _ D e1 e2 hex I1 F3 hC ht
end
section
variable {X:Cx}
end
end L2
namespace L2
open PySem PySem.Spec PyProof.Rows
structure cJ (K:W.Frag) (C:Addr):Prop where
 ga:W.findIn K (.ref C) "__getattribute__" =some (some (.builtin "BaseException.__getattribute__"))
 na:W.findIn K (.ref C) "__getattr__" =some none
 cl:W.findIn K (.ref C) "__class__" =some (some (.builtin "object.__class__"))
 mo:W.mroIn K C (.type "object")=some true
 mb:W.mroIn K C (.type "BaseException")=some true
section
variable {K:W.Frag} {prog:Program} {w:World} {A:Around} {E:Value→Shared→Prop} {h:Heap} {g:Array GenState} {d:Drawn} {t:Nat} {os:OsState} {a C:Addr} {o:Obj}
theorem zI {M:Model} (hx:h.get? a=some o) (hc:o.cls=.ref C):W.Looks M h (typeOf (.ref a)) (.ref C):=hc▸(W.Looks.ld hx).andThen .now
theorem BK {R:Result→Shared→Prop} (X:K.In h) (G:cJ K C) (hx:h.get? a=some o) (hc:o.cls=.ref C) (hq:R (.ok (.ret (.ref C))) ⟨h,g,d,t,os⟩):
  codeAny (model prog w) A (.call (.builtin "getset_descriptor.__get__") ⟨[.builtin "object.__class__",.ref a,.ref C],[]⟩) R ⟨h,g,d,t,os⟩:=by
 have hT5:(⟨h,g,d,t,os⟩:Shared).TypeIs (.builtin "object.__class__") "getset_descriptor" :=F.typeOf_object_class
 have f8:=W.looks_mroIn (M:=model prog w) X G.mo
 have hcB:(".".intercalate ("object.__class__".cutAt '.').dropLast)= "object" :=F.owner_object_class
 refine codeAny_call_builtin F.slot_gs_get.plain F.entry_gs_get (F.slot_gs_get.check _ _ _ _ _ _ _ _ hT5 (F.args_gs_get _ _ _) ?_)
 repeat (any_goals (first | assumption | (with_reducible refine wpAny_loadPart_at hx ?_;rw [hc]) | (rw [hcB];with_reducible refine f8.at ?_) | wp_step))
 refine ⟨Code.quiet_builtin _ (by decide +kernel),codeAny_builtin F.entry_object_class ?_⟩
 repeat (any_goals (first | assumption | (with_reducible refine wpAny_loadPart_at hx ?_;rw [hc]) | wp_step))
theorem wZ {tk:Tok} {Q:Fin→Shared→Prop} (X:K.In h) (G:cJ K C) (hx:h.get? a=some o) (hc:o.cls=.ref C) (hq:Q (.done (.ret (.ref C))) ⟨h,g,d,t,os⟩):
  wpAny (model prog w) A (Builtin.«object.__getattribute__» ⟨[.ref a,.str "__class__" tk],[]⟩) Q E ⟨h,g,d,t,os⟩:=by
 have hT5:(⟨h,g,d,t,os⟩:Shared).TypeIs (.builtin "object.__class__") "getset_descriptor" :=F.typeOf_object_class
 have f4:=W.looks_findIn (M:=model prog w) X G.cl
 have f5:=F.typeOf_object_class
 have f6:=F.slot_gs_get.lookup
 have f7:=F.slot_gs_set.lookup
 repeat (any_goals (first | assumption | (with_reducible refine wpAny_loadPart_at hx ?_;rw [hc]) | with_reducible refine f4.at ?_ | wp_step))
 refine BK X G hx hc ?_
 repeat (any_goals (first | assumption | wp_step))
theorem pM {M:Model} {nameV:Value} {Q:Unit→Shared→Prop} (X:K.In h) (G:cJ K C) (hx:h.get? a=some o) (hc:o.cls=.ref C) (hq:Q () ⟨h,g,d,t,os⟩):wpAny M A (checkBuiltinCall "BaseException.__getattribute__" ⟨[.ref a,nameV],[]⟩) Q E ⟨h,g,d,t,os⟩:=by
 have hk:builtinKind "BaseException.__getattribute__" =some .slot:=by decide +kernel
 have hsplit:splitId "BaseException.__getattribute__" =some ("BaseException", "__getattribute__"):=by decide +kernel
 have f8:=W.looks_mroIn (M:=M) X G.mb
 have ha:=F.args_bexc_ga (.ref a) nameV
 simp only [checkBuiltinCall,hk,hsplit]
 refine wpAny_bind ?_
 · unfold isInstance
   repeat (first | (with_reducible refine wpAny_loadPart_at hx ?_;rw [hc]) | with_reducible refine f8.at ?_ | wp_step)
   exact hq
theorem zA {tk:Tok} {R:Result→Shared→Prop} (X:K.In h) (G:cJ K C) (hx:h.get? a=some o) (hc:o.cls=.ref C) (hq:R (.ok (.ret (.ref C))) ⟨h,g,d,t,os⟩):
  codeAny (model prog w) A (.call (.builtin "BaseException.__getattribute__") ⟨[.ref a,.str "__class__" tk],[]⟩) R ⟨h,g,d,t,os⟩:=
 codeAny_call_builtin F.excAttr_ValueError.ga.plain F.entry_bexc_ga (pM X G hx hc (wZ X G hx hc hq))
theorem De {tk:Tok} {Q:Value→Shared→Prop} (X:K.In h) (G:cJ K C) (hx:h.get? a=some o) (hc:o.cls=.ref C) (hq:Q (.ref C) ⟨h,g,d,t,os⟩):
  wpAny (model prog w) A (getAttrBy (.ref a) (.str "__class__" tk) false) Q E ⟨h,g,d,t,os⟩:=by
 have f3:=F.excAttr_ValueError.ga.bind (.ref a)
 have f1:=W.looks_findIn (M:=model prog w) X G.ga
 have f2:=W.looks_findIn (M:=model prog w) X G.na
 have hx2:(Value.builtin "BaseException.__getattribute__" ==Value.builtin "object.__getattribute__")=false:=by decide +kernel
 have hx1:(onTheHeap (Value.ref C)&&Value.builtin "BaseException.__getattribute__" ==Value.builtin "object.__getattribute__")=false:=by rw [hx2];rfl
 repeat (any_goals (first | assumption | (with_reducible refine wpAny_loadPart_at hx ?_;rw [hc]) | with_reducible refine f1.at ?_ | with_reducible refine f2.at ?_ | wp_step))
 refine zA X G hx hc ?_
 repeat (any_goals (first | assumption | wp_step))
theorem yM {Q:Option Value→Shared→Prop} (X:K.In h) (G:cJ K C) (hx:h.get? a=some o) (hc:o.cls=.ref C) (hq:Q (some (.ref C)) ⟨h,g,d,t+1,os⟩):
  wpAny (model prog w) A (getAttr? (.ref a) "__class__") Q E ⟨h,g,d,t,os⟩:=by
 unfold getAttr? getAttrBy?
 repeat (any_goals (first | assumption | with_reducible apply De X G hx hc | wp_step))
theorem BA {a C:Addr} (hC:bW K C) (G:cJ K C):W.KitX K (.ref a) (.ref C) (fun h=>∃ o,h.get? a=some o∧o.cls=.ref C) where
 ty:=fun M h X ⟨o,hx,hc⟩=>zI hx hc
 it:=fun M h X _=>by
  obtain ⟨bm,N,nm,qn,bs,hdct,sn,sub,ab,col,dd,k0,k1,k2,k3,k5,mN,oC,_⟩:=eJ X hC
  intro A' Q' E' s' k q
  unfold isType loadHead
  exact wpAny_bind (wpAny_loadPart (k _ _ oC) (wpAny_pure q))
 ne:=fun h tp dd its n sl X htp=>by
  obtain ⟨bm,N,nm,qn,bs,hdct,sn,sub,ab,col,dd,k0,k1,k2,k3,k5,mN,oC,_⟩:=eJ X hC
  refine Bool.eq_false_iff.mpr fun q=>?_
  have e:C=tp:=Value.ref.inj (beq_iff_eq.mp q)
  subst e
  rw [oC] at htp
  have z:Value.type "type" =Value.type "tuple" :=congrArg Obj.cls (Option.some.inj htp)
  exact absurd z (by decide)
 ca:=fun {prog w A E Q s} X ⟨o,hx,hc⟩ k=>by
  obtain ⟨h,g,d,t,os⟩:=s
  exact yM X G hx hc k
end
section
variable {X:Cx}
def kJ (K:W.Frag):List V→Hp→VK→Prop:=fun xs H Q=>∃ a C dd b c cv,xs=[.ref a,c]∧H a=some (gc C dd a)∧bW K C∧cJ K C∧aW c cv∧(∀ u,aW c u→u=cv)∧W.kitOne K (.ref C) cv=some b∧Q (.bl b) H
theorem nI:bG X (.builtin "isinstance") (kJ X.K):=fun pins s σ H xs us Q I r h=>by
 obtain ⟨a,C,dd,b,c,cv,rfl,ha,hC,G,rc,un,hk,q⟩:=h
 obtain ⟨u,w',rfl,r1,r2⟩:=nM r
 cases un _ r2
 cases (show u=Value.ref a from r1)
 obtain ⟨o,vs,ho,hc,_,_⟩:=ql (P:=X.prog) (w:=X.w) (I.hok a _ ha)
 exact W.kia_one (BA hC G) I.kIn ⟨o,ho,hc⟩ hk (fun z=>nomatch z) fun tk=>⟨.bl _,H,I.tok tk,rfl,q⟩
theorem tm {x:Str} {D:Addr} {pos:Pos} (hm:X.mg x=some (.ref D)) (hg:Gl X x:=by rfl) (hd:(x==("__debug__" :Str))=false:=by decide):QE X (.Name x pos) (tC (.ref D)):=⟨lO hg hm rfl hd⟩
end
end L2
namespace HT
open PySem PyProof.Rows
section
variable {prog:Program} {w:World} {A:Around} {E:Value→Shared→Prop} {s:Shared}
theorem iE {t sl:Addr} {items:Array Value} {vl vu:Value} {lo hi:Option Int} {Q:Value→Shared→Prop} (ht:IsTup s.heap t items) (hs:s.heap.IsSliceOf sl vl vu .none) (pl:IsPart vl lo) (pu:IsPart vu hi)
  (hw:sIx items.size 0 lo=0∧sIx items.size items.size hi=items.size) (h:Q (.ref t) s):wpAny (model prog w) A (getItem (.ref t) (.ref sl)) Q E s:=by
 obtain ⟨os,hos,hcs,hds⟩:=id hs
 have hTs:s.TypeIs (.ref sl) "slice" :=⟨os,hos,hcs⟩
 unfold getItem
 try with_reducible refine wpAny_holding ?_
 first | refine wpAny_bind (wpAny_pure ?_) | skip
 refine wpAny_bind (wpAny_sequenceKey ht.typeIs (by decide) ?_)
 refine wpAny_bind (wpAny_callSpecial?_slot (name:=Str.ofString "__getitem__") ht.typeIs PyProof.Rows.slot_tuple_getitem
  (wpAny_call_entry PyProof.Rows.slot_tuple_getitem ht.typeIs entry_tuple_getitem ?_ (args_tuple_getitem _ _)))
 show wpAny _ _ (Builtin.Tuple.tupleItemsOf (.ref t)>>=_) _ _ s
 refine wpAny_bind (tupleItemsOf_ ht ?_)
 refine wpAny_bind (wpAny_typeOf hTs ?_)
 rw [if_pos (by decide)]
 refine wpAny_bind (fU hs pl pu ?_)
 have hyes:(((sIx items.size 0 lo:Nat):Int)==0&&(1:Int)==1&&(sIx items.size items.size hi - sIx items.size 0 lo)==items.size)=true:=by
  rw [hw.1,hw.2];simp
 show wpAny _ _ (if (((sIx items.size 0 lo:Nat):Int)==0&&(1:Int)==1&&(sIx items.size items.size hi - sIx items.size 0 lo)==items.size)=true then _ else _) _ _ s
 rw [if_pos hyes]
 have hte:s.TypeIs (.ref t) "tuple" :=ht.typeIs
 unfold Builtin.Tuple.tupleIsExact
 repeat (first | exact ⟨_,rfl,wpAny_pure h⟩ | (with_reducible refine wpAny_typeOf hte ?_) | wp_step)
end
end HT
namespace HT
open PySem PyProof.Rows
section
variable {prog:Program} {w:World} {A:Around} {E:Value→Shared→Prop} {s:Shared}
theorem xE {t b:Addr} {ws:List Value} {Q:Value→Shared→Prop} (ht:IsTup s.heap t #[]) (hb:IsTup s.heap b ws.toArray) (h1:Q (.ref b) s):wpAny (model prog w) A (binaryOp .Add (.ref t) (.ref b)) Q E s:=by
 obtain ⟨⟨cls,dd,data,sl⟩,ho,hc,n,hd⟩:=id ht
 obtain ⟨⟨cls2,dd2,data2,sl2⟩,ho2,hc2,n2,hd2⟩:=id hb
 simp only at hc hd hc2 hd2
 subst hc hd hc2 hd2
 exact concat_meets ⟨_,ho,rfl⟩ ⟨_,ho2,rfl⟩ noFill_tuple_add seq_tuple_add PySem.F.slot_tuple_add PySem.F.entry_tuple_add (PySem.F.args_tuple_add_2 _ _)
  (tuple_addW0 t b #[] ws.toArray n n2 dd dd2 sl sl2 (by simp)) ⟨ho,ho2,h1⟩
end
end HT
namespace L2
open PySem PySem.Spec PyProof.Rows
theorem ax.rfl' {H:Hp}:ax H H:=fun _ _ e=>e
theorem sI {xs:List V} {lo hi:Option Int} (h:HT.sIx xs.length 0 lo=0∧HT.sIx xs.length xs.length hi=xs.length):cR xs lo hi=xs:=by
 unfold cR
 rw [h.1,h.2,List.drop_zero,Nat.sub_zero,List.take_length]
section
variable {X:Cx}
def yx:V→Option Int→Option Int→Hp→VK→Prop:=fun x lo hi H Q=>∃ a xs,x=.ref a∧H a=some (.tup xs)∧∀ p H',ax H H'→H' p=some (.tup (cR xs lo hi))→Q (.ref p) H'
theorem zi:SlR X yx:=by
 intro pins s σ H x v vl vu lo hi sl Q I rx hs pl pu h
 obtain ⟨a,xs,rfl,hx,q⟩:=h
 have hq:SqT X.K H a xs:=.inl (.inl hx)
 by_cases hw:HT.sIx xs.length 0 lo=0∧HT.sIx xs.length xs.length hi=xs.length
 · cases rx
   obtain ⟨its,r,ht,hz⟩:=I.tuple hq
   have hlen:its.toArray.size=xs.length:=by rw [List.size_toArray];exact r.length.symm
   refine ⟨"tuple",_,PyProof.Rows.slot_tuple_getitem.lookup,ht.typeIs,?_⟩
   refine HT.iE ht hs pl pu (by rw [hlen];exact hw) ?_
   exact ⟨.ref a,H,I,rfl,q a H ax.rfl' (by rw [sI hw];exact hx)⟩
 · exact Bp pins s σ H _ v vl vu lo hi sl Q I rx hs pl pu ⟨a,xs,rfl,hq,hw,fun p hp=>q p _ (ax.upd hp) (ap ..)⟩
def rB:R2:=fun x y H Q=>∃ a b xs ys,x=.ref a∧y=.ref b∧H a=some (.tup xs)∧H b=some (.tup ys)∧xs.length+ys.length≤sizeLine∧∀ p H',ax H H'→H' p=some (.tup (xs++ys))→Q (.ref p) H'
theorem zE:OpR X (binaryOp .Add) rB:=by
 intro pins s σ H x y v u Q I rx ry h
 obtain ⟨a,b,xs,ys,rfl,rfl,ha,hb,hz,q⟩:=h
 by_cases hx:xs=[]
 · subst hx
   cases rx
   cases ry
   obtain ⟨its,r1,p1,_⟩:=I.tuple (.inl (.inl ha))
   obtain ⟨its2,r2,p2,_⟩:=I.tuple (.inl (.inl hb))
   cases r1
   exact HT.xE p1 p2 ⟨.ref b,H,I,rfl,q b H ax.rfl' hb⟩
 · refine yS pins s σ H _ _ v u Q I rx ry ⟨a,b,xs,ys,rfl,rfl,.inl (.inl ha),.inl (.inl hb),hx,hz,fun e=>?_,fun _ p hp=>q p _ (ax.upd hp) (ap ..)⟩
   subst e
   exact q a H ax.rfl' (by rw [List.append_nil];exact ha)
def aV (K:W.Frag):R2:=fun x y H Q=>match x,y with
 | .int i,.int j=>Q (.int (i+j)) H
 | .str i,.str j=>i.length+j.length≤sizeLine∧Q (.str (i++j)) H
 | .ref a,.ref b=>Bf (.ref a) (.ref b) H Q∨rB (.ref a) (.ref b) H Q
 | _,_=>False
theorem bB:OpR X (binaryOp .Add) (aV X.K):=(Au.or (si.or (By.or zE))).imp fun x y H Q q=>by
 unfold aV at q
 split at q
 · exact .inl ⟨_,_,rfl,rfl,q⟩
 · exact .inr (.inl ⟨_,_,rfl,rfl,q.1,q.2⟩)
 · exact .inr (.inr q)
 · exact q.elim
def Al (K:W.Frag):V→Option Int→Option Int→Hp→VK→Prop:=fun x lo hi H Q=>Bi K x lo hi H Q∨yx x lo hi H Q
theorem Av:SlR X (Al X.K):=zv.or zi
def tH (t:TE):TE:=fun σ H Q=>t σ H fun x H'=>match x with
 | .int i=>i.natAbs.log2<1920∧Q (.str (toString i)) H'
 | .str z=>z.length≤sizeLine∧Q (.str z) H'
 | _=>False
theorem rg {e:Expr} {te:TE} {pos:Pos} (h:QE X e te):QE X (.FormattedValue e (-1) none pos) (tH te):=⟨fun pins s σ H Q I q=>by
 refine FormattedValue_plain (thn (h.out pins s σ H _ I q) fun v s1 ⟨x,H1,I1,r1,q1⟩=>?_)
 cases x <;> first | exact q1.elim | skip
 · rename_i i
   obtain ⟨t,rfl⟩:=(show ∃ t,v=Value.int i t from r1)
   exact formatField_int_small q1.1 ⟨.str _,H1,I1.tok _,⟨_,rfl⟩,q1.2⟩
 · rename_i z
   obtain ⟨t,rfl⟩:=(show ∃ t,v=Value.str z t from r1)
   exact formatField_str (fun t' tk=>⟨.str _,H1,I1.tok _,⟨_,rfl⟩,q1.2⟩) q1.1⟩
def mJ : List TE → Str → TE
  | [], acc => fun σ H Q => acc.length ≤ sizeLine ∧ Q (.str acc) H
  | t :: r, acc => fun σ H Q => t σ H fun x H' => match x with
    | .str y => (acc ++ y).length ≤ sizeLine ∧ mJ r (acc ++ y) σ H' Q
    | _ => False
inductive QJ (X:Cx):List Expr→List TE→Prop where
 | nil:QJ X [] []
 | cons {e:Expr} {t:TE} {es:List Expr} {ts:List TE}:QE X e t→QJ X es ts→QJ X (e::es) (t::ts)
theorem Eg {es : List Expr} {ts : List TE} (j : QJ X es ts) : ∀ {pins : List (Addr × Obj)} {s : Shared} {σ : St} {H : Hp} {Q : VK} {acc : Str}, Inv X pins σ H s → mJ ts acc σ H Q → wpAny (model X.prog X.w) X.A (joinParts acc (evalEach es X.env)) (EP X pins σ Q) X.xe s := by
  induction j with
  | nil => intro pins s σ H Q acc I q; exact joinParts_nil ⟨.str _, H, I.tok _, ⟨_, rfl⟩, q.2⟩ q.1
  | cons h _ ih =>
    intro pins s σ H Q acc I q
    refine joinParts_cons (thn (h.out pins s σ H _ I q) fun v s1 ⟨x, H1, I1, r1, q1⟩ => ?_)
    cases x <;> first | exact q1.elim | skip
    rename_i z
    obtain ⟨t, rfl⟩ := (show ∃ t, v = Value.str z t from r1)
    exact ⟨q1.1, ih I1 q1.2⟩
theorem uf {v1 v2:Expr} {bS:List Expr} {ts:List TE} {pos:Pos} (j:QJ X (v1::v2::bS) ts):QE X (.JoinedStr (v1::v2::bS) pos) (mJ ts Str.empty):=⟨fun pins s σ H Q I q=>JoinedStr_many (Eg j I q)⟩
end
end L2
namespace L2
open PySem PySem.Spec PyProof.Rows
theorem mR:bootBuiltins "ValueError" =some (.type "ValueError"):=by decide +kernel
theorem cx {K:W.Frag} {C D:Addr} {b:Bool} (h:W.mroIn K C (.ref D)=some b):cw K C D=some b:=by
 unfold W.mroIn W.clsIn at h
 unfold cw
 split at h
 · rename_i cd sl e
   rw [e]
   dsimp only [Option.bind] at h ⊢
   split at h
   · cases h
   · exact h
 · cases h
theorem Fun.okN {P : Program} {w : World} {K : W.Frag} {mg : Str → Option Value} {base : Heap} {CX : CXT} {x qual : Str} {st : Stmt} {f : Addr} {fd : FuncData} {N ps : List Str} {k : Nat} {sp : Sp} (F : Fun K x qual st f fd) (S : aA N ps (al st)) (len : ∀ vs H Q E, sp vs H Q E → vs.length = ps.length)
  (hbody : ∀ (cdv : Value) (A : Around) (outer : List Env) (s : Shared) (H : Hp) (vs : List V) (Q : VK) (E : XK), bg k (A.deeper (envOfC qual (al st) s.heap.objs.size f cdv)) → sp vs H Q E →
   ∃ t, PSs (cF CX P w K mg base N qual (al st) f cdv A outer s H E).nox (aO st) t ∧ t { nx := fun _ H' => Q .non H', rt := Q } (bU N vs) H) : aP P w K mg base CX (k + 1) f fd ps sp := by
 obtain ⟨oc, od, kV, doc, pm, an, cdv, ct, osl, rfl, lk, hcd⟩ := F.ex
 refine yp lk hcd S len fun A outer s H vs Q E hr hsp => ?_
 obtain ⟨t, h, q⟩ := hbody cdv A outer s H vs Q E hr hsp
 exact ⟨t, h.nox, q⟩
end L2
namespace L2
open PySem PySem.Spec PyProof.Rows
section
variable {X:Cx}
def Br:V→Option Int→Option Int→Hp→VK→Prop:=fun x lo hi H Q=>∃ z,x=.str z∧z.length≤sizeLine∧Q (.str (Txt.slice z lo hi)) H
theorem Bs : SlR X Br := by
  intro pins s σ H x v vl vu lo hi sl Q I rx hs pl pu h
  obtain ⟨z, rfl, hz, q⟩ := h
  obtain ⟨t, rfl⟩ := (show ∃ t, v = Value.str z t from rx)
  refine ⟨"str", _, F.slot_str_getitem.lookup, typeIs_str _ _ _, ?_⟩
  have fin : ∀ (l u : Option (Int × Tok)), l.map (·.1) = lo → u.map (·.1) = hi → s.heap.IsSlice sl l u none → wpAny (model X.prog X.w) X.A (getItem (.str z t) (.ref sl)) (EP X pins σ Q) X.xe s := fun l u e1 e2 hs' => by
    subst e1 e2
    refine wpAny_getItem_str_slice (l := l) (u := u) (st := none) hs' rfl (post_val_or_str ⟨Nat.le_trans (Txt.slice_le z _ _) hz, fun t' k => ⟨.str _, H, I.tok k, ⟨_, rfl⟩, q⟩⟩)
  obtain ⟨os, hos, hcs, hds⟩ := hs
  cases pl with
  | none => cases pu with
    | none => exact fin none none rfl rfl ⟨os, hos, hcs, hds⟩
    | int j tj => exact fin none (some (j, tj)) rfl rfl ⟨os, hos, hcs, hds⟩
  | int i ti => cases pu with
    | none => exact fin (some (i, ti)) none rfl rfl ⟨os, hos, hcs, hds⟩
    | int j tj => exact fin (some (i, ti)) (some (j, tj)) rfl rfl ⟨os, hos, hcs, hds⟩
def pR (K:W.Frag):V→Option Int→Option Int→Hp→VK→Prop:=fun x lo hi H Q=>Al K x lo hi H Q∨Br x lo hi H Q
theorem oA:SlR X (pR X.K):=Av.or Bs
def lr:V→Bool
 | .int _=>true
 | .str _=>true
 | _=>false
theorem rp {A:Around} {s:Shared} {x y:V} {u v:Value} (rx:aW x u) (ry:aW y v) (hx:lr x=true) (hy:lr y=true):PySem.SeqAt.EqAt A s u v (decide (x=y)):=by
 cases x <;> first | cases hx | skip
 all_goals (cases y <;> first | cases hy | skip)
 · obtain ⟨t,rfl⟩:=rx;obtain ⟨t',rfl⟩:=ry
   have e:=PySem.SeqAt.EqAt.int_int (A:=A) (s:=s) ‹Int› t ‹Int› t'
   rename_i i j
   have e2:decide (V.int i=V.int j)=(i==j):=by rw [iL (f:=V.int) fun _ _ e=>V.int.inj e];rfl
   rw [e2];exact PySem.SeqAt.EqAt.int_int i t j t'
 · obtain ⟨t,rfl⟩:=rx;obtain ⟨t',rfl⟩:=ry
   exact PySem.SeqAt.EqAt.int_str _ _ _ _
 · obtain ⟨t,rfl⟩:=rx;obtain ⟨t',rfl⟩:=ry
   exact PySem.SeqAt.EqAt.str_int _ _ _ _
 · obtain ⟨t,rfl⟩:=rx;obtain ⟨t',rfl⟩:=ry
   rename_i i j
   have e2:decide (V.str i=V.str j)=(i==j):=by
    rw [iL (f:=V.str) fun _ _ e=>V.str.inj e]
    by_cases h:i=j
    · rw [h];simp
    · rw [decide_eq_false h];exact (beq_eq_false_iff_ne.mpr h).symm
   rw [e2];exact PySem.SeqAt.EqAt.str_str i t j t'
theorem tJ {xs ys:List V}:decide (xs=ys)=((List.range (min xs.length ys.length)).all (fun j=>decide (xs[j]?=ys[j]?))&&xs.length==ys.length):=by
 by_cases h:xs=ys
 · subst h;simp
 · rw [decide_eq_false h]
   by_cases hl:xs.length=ys.length
   · rw [hl,Nat.min_self,beq_self_eq_true,Bool.and_true]
     symm
     rw [List.all_eq_false]
     apply Classical.byContradiction
     intro hn
     apply h
     apply List.ext_getElem? fun i=>?_
     by_cases hi:i<ys.length
     · apply Classical.byContradiction
       intro hne
       exact hn ⟨i,List.mem_range.mpr hi,by simpa using hne⟩
     · rw [List.getElem?_eq_none (by omega),List.getElem?_eq_none (by omega)]
   · have:(xs.length==ys.length)=false:=by simpa using hl
     rw [this,Bool.and_false]
def zX (K:W.Frag):R2:=fun x y H Q=>∃ a b xs ys,x=.ref a∧y=.ref b∧SqT K H a xs∧SqT K H b ys∧xs.all lr=true∧ys.all lr=true∧Q (.bl (decide (xs=ys))) H
theorem Am (hu:X.A.units<cLine):OpR X (compareOp .Eq) (zX X.K):=by
 intro pins s σ H x y v u Q I rx ry h
 obtain ⟨a,b,xs,ys,rfl,rfl,ha,hb,px,py,q⟩:=h
 cases rx
 cases ry
 obtain ⟨its,r1,p1,_⟩:=I.tuple ha
 obtain ⟨its2,r2,p2,_⟩:=I.tuple hb
 have l1:=r1.length
 have l2:=r2.length
 refine PySem.SeqAt.eq_tupleAt (e:=fun j=>decide (xs[j]?=ys[j]?)) p1 p2 hu (fun j h1 h2=>?_) ?_
 · have h1:j<its.length:=by simpa using h1
   have h2:j<its2.length:=by simpa using h2
   have e1:xs[j]?=some xs[j]:=List.getElem?_eq_getElem (by omega)
   have e2:ys[j]?=some ys[j]:=List.getElem?_eq_getElem (by omega)
   obtain ⟨u1,g1,ru1⟩:=r1.get e1
   obtain ⟨u2,g2,ru2⟩:=r2.get e2
   have g1':its.toArray[j]=u1:=by
    rw [List.getElem?_eq_getElem h1] at g1;simpa using Option.some.inj g1
   have g2':its2.toArray[j]=u2:=by
    rw [List.getElem?_eq_getElem h2] at g2;simpa using Option.some.inj g2
   rw [g1',g2',e1,e2]
   have:decide (some xs[j]=some ys[j])=decide (xs[j]=ys[j]):=by simp
   rw [this]
   exact rp ru1 ru2 (List.all_eq_true.mp px _ (List.getElem_mem _)) (List.all_eq_true.mp py _ (List.getElem_mem _))
 · have e:=tJ (xs:=xs) (ys:=ys)
   rw [l1,l2] at e
   simp only [List.size_toArray]
   rw [← e]
   exact ⟨.bl _,H,I,rfl,q⟩
end
end L2
namespace HT
open PySem PyProof.Rows
section
variable {prog:Program} {w:World} {A:Around} {E:Value→Shared→Prop} {s:Shared}
end
end HT
namespace HT
open PySem PyProof.Rows
section
variable {prog:Program} {w:World} {A:Around} {E:Value→Shared→Prop} {s:Shared}
end
end HT
namespace L2
open PySem PySem.Spec PyProof.Rows
section
variable {X:Cx} {pins:List (Addr×Obj)} {σ:St} {H:Hp} {s:Shared} {h':Heap}
end
section
variable {X:Cx} {pins:List (Addr×Obj)} {σ:St} {H H1:Hp} {s s0:Shared} {a:Addr} {o:HO}
theorem Inv.track2 (I0:Inv X pins σ H1 s0) (I:Inv X pins σ H s) (new:s0.heap.objs.size≤a) (hn:H a=none) (ok:bc X.prog X.w (upd H a o) s.heap a o):Inv X pins σ (upd H a o) s:=by
 have ne:∀ b u,s0.heap.get? b=some u→b≠a:=fun b u e=>Nat.ne_of_lt (Nat.lt_of_lt_of_le (Heap.lt_size e) new)
 have ne0:∀ b u,X.s₀.heap.get? b=some u→b≠a:=fun b u e=>Nat.ne_of_lt (Nat.lt_of_lt_of_le (Heap.lt_size e) (Nat.le_trans I0.sz new))
 have nL:X.env.locals≠a:=by
   obtain ⟨m,⟨o',_,_,e,_⟩,_⟩:=I0.loc
   exact ne _ _ e
 refine ⟨I.ok,I.os,I.bare,⟨I.base.keep,I.base.slot,fun b u e n hx=>?_,I.base.there,fun b xs e=>?_,fun b u v e=>?_,fun b ps e=>?_⟩,I.loc,I.cell,?_,fun x c e=>?_,fun p hp=>?_,fun b u e=>?_,I.len⟩
 · rw [au (ne0 b u e)];exact I.base.free b u e n hx
 · have:=I.base.tups b xs e
   rw [au (aD this hn)];exact this
 · have:=I.base.frzs b u v e
   rw [au (aD this hn)];exact this
 · obtain ⟨more,this⟩:=I.base.tbls b ps e
   exact ⟨more,by rw [au (aD this hn)];exact this⟩
 · rw [au nL];exact I.free
 · obtain ⟨v,o',e',_⟩:=I0.cell x c e
   rw [au (ne _ _ e')];exact I.freeC x c e
 · obtain ⟨h1,h2,h3⟩:=I.pin p hp
   exact ⟨h1,by rw [au (ne _ _ (I0.pin p hp).1)];exact h2,h3⟩
 · by_cases hb:b=a
   · subst hb
     rw [ap] at e;cases e
     exact ok
   · rw [au hb] at e
     exact (I.hok b u e).stay (fun c v _ q=>q) (fun c q=>by
      have:c≠a:=aD q hn
      rw [au this];exact q) fun c xs q=>by
      have:c≠a:=aD q hn
      rw [au this];exact q
end
end L2
namespace L2
open PySem PySem.Spec PyProof.Rows
section
variable {X:Cx} {a b:Expr} {t:TA} {p pos ep:Pos} {elts:List Expr} {ek:Nat}
end
end L2
namespace L2
open PySem PySem.Spec PyProof.Rows
section
variable {X:Cx} {a b:Expr} {t:TA} {p pos ep px py:Pos} {elts:List Expr} {ek:Nat} {x y:Str} {iter:Expr} {wi:TI} {tS:TS}
theorem Ai (i j:Nat) (hN:X.N.Nodup) {body:List Stmt} (hi:QI X (.Tuple [.Name x px,.Name y py] ek ep) iter wi) (hb:QSs X body tS) (hp:PassesOwn (model X.prog X.w) X.A X.env X.xe) (hc:X.calm=true:=by rfl)
  (hj:X.N[i]?=some x:=by rfl) (hx:Loc X.env.scope x:=by first | exact .inl rfl | exact .inr rfl) (hf:X.fn x=true∨X.env.scope.names.lookup x=some .local:=by first | exact .inl rfl | exact .inr rfl)
  (hj2:X.N[j]?=some y:=by rfl) (hx2:Loc X.env.scope y:=by first | exact .inl rfl | exact .inr rfl) (hf2:X.fn y=true∨X.env.scope.names.lookup y=some .local:=by first | exact .inl rfl | exact .inr rfl)
  (hs:∀ x,foldedSetIterable iter X.env x=pure x:=by intro _;rfl):QS X (.For (.Tuple [.Name x px,.Name y py] ek ep) iter body [] pos) (dn wi (oi X.K 2 (fK (av i) (fK (av j) pL))) tS):=
 ⟨uO hp hc hi.out (vf hc (ie (gS hN hj hx hf) (ie (gS hN hj2 hx2 hf2) qB))) hb.out hs⟩
end
end L2
namespace L2
open PySem PySem.Spec PyProof.Rows
def iP (C:Addr) (m:Str) (sp:Sp) (E:St→XK) (ta:TE) (t:TA):TE:=fun σ H Q=>ta σ H fun x H1=>∃ a dx fs,x=.ref a∧H1 a=some (.ins C dx fs)∧fs.lookup m=none∧t σ H1 fun vs H2=>sp (x::vs) H2 Q (E σ)
def iT (C:Addr) (sp:Sp) (E:St→XK) (t:TA):TE:=fun σ H Q=>t σ H fun vs H1=>∀ x dx,H1 x=none→H1 dx=none→dx≠x→
 sp (.ref x::vs) (upd (upd H1 dx (.own x)) x (.ins C dx [])) (fun v H2=>v=.non∧Q (.ref x) H2) (E σ)
section
variable {X:Cx} {CX:CXT} {k:Nat} {f C:Addr} {fd:FuncData} {ps:List Str} {sp:Sp} {E:St→XK} {x m fl:Str} {p pos apos pos':Pos} {e o value:Expr} {es:List Expr} {ta tv to:TE} {t:TA}
theorem cu (he:QE X e ta) (hb:attributeBase e fl X.env (eval e X.env)=eval e X.env:=by rfl):QE X (.Attribute e fl pos) (cQ X.K ta fl):=⟨CT he.out hb⟩
theorem eS (ho:QE X o to) (hv:QE X value tv) (hs:swapsWith value (some (.Attribute o fl pos')) pos.line X.env=pure false:=by rfl):QS X (.Assign [.Attribute o fl pos'] value pos) (iI X.K to tv fl):=⟨BS ho.out hv.out hs⟩
theorem jG {pl : Sem Bool} (he : QE X o ta) (c : Cls X.K C) (hm : lF X.K C m f) (F : aP X.prog X.w X.K X.mg X.base CX k f fd ps sp) (hr : bg k X.A) (hb : bH X.K fd ps []) (hx : dQ CX X E) (ha : QA X (e :: es) t)
  (hs : bh (e :: es) = true := by rfl)
  (ht : eval (.Call (.Attribute o m apos) (e :: es) [] pos) X.env = (do
   let ov ← eval o X.env
   standAt apos.atName
   let (f, first) ← holding [ov] (getMethod ov m pl)
   callWith pos f first (backTo pos (starEach (e :: es) X.env)) (backToKw pos (keywordEach [] X.env))) := by rfl) :
  QE X (.Call (.Attribute o m apos) (e :: es) [] pos) (iP C m sp E ta t) := ⟨fun pins s σ H Q I h => by
 have h' : (bL e && bh es) = true := hs
 refine W.methodCall_KW (pl := pl) (thn (he.out pins s σ H _ I h) fun u s1 ⟨x, H1, I1, rx, a, dx, fs, ex, ea, l, q⟩ => ?_) ht
 subst ex
 obtain rfl : u = Value.ref a := rx
 refine rR I1 ea c hm l ?_
 refine W.callWith_K (first := [.ref a]) (h₀ := X.base) I.ok.mod.kin hm.kp (thn (ha.out pos pins s1 σ H1 _ I1 q) fun us s2 ⟨vs, H2, I2, r, q2⟩ => ⟨I2.kIn, ?_⟩)
  (ba (Bool.and_eq_true_iff.mp h').1 es X.env) (bT (Bool.and_eq_true_iff.mp h').2)
 exact jB (us := .ref a :: us) (vs := .ref a :: vs) F hr hb hx I2 (.cons rfl r) q2⟩
theorem md {pins : List (Addr × Obj)} {σ : St} {H : Hp} {s : Shared} {Q : VK} {us : List Value} {vs : List V} (M : Mk X.K C f) (F : aP X.prog X.w X.K X.mg X.base CX k f fd ps sp) (hr : bg (k + 1) X.A) (hb : bH X.K fd ps [])
    (hx : dQ CX X E) (I : Inv X pins σ H s) (r : aX vs us)
    (h : ∀ x dx, H x = none → H dx = none → dx ≠ x → sp (.ref x :: vs) (upd (upd H dx (.own x)) x (.ins C dx [])) (fun v H2 => v = .non ∧ Q (.ref x) H2) (E σ)) :
    wpAny (model X.prog X.w) X.A (call (.ref C) us) (EP X pins σ Q) X.xe s := by
  have hq := h (s.heap.objs.size + 1) s.heap.objs.size (I.hok.fresh (Nat.le_succ _)) (I.hok.fresh (Nat.le_refl _)) (Nat.ne_of_lt (Nat.lt_succ_self _))
  have I2 := Inv.made (C := C) I
  have r2 : aX (V.ref (s.heap.objs.size + 1) :: vs) (Value.ref (s.heap.objs.size + 1) :: us) := .cons rfl r
  have hl : (Value.ref (s.heap.objs.size + 1) :: us).length = ps.length := by
    have e := r2.length
    rw [F.len _ _ _ _ hq] at e
    exact e.symm
  have hb' := hb _ (Value.ref (s.heap.objs.size + 1) :: us) I2.kIn (by rw [List.append_nil]; exact hl)
  rw [List.append_nil] at hb'
  refine wpAny_call (xM (f := f) I.kIn M.makes M.init (beq_iff_eq.mp M.fn) (codeAny_mono (F.run _ X.stack _ _ ⟨Value.ref (s.heap.objs.size + 1) :: us, []⟩ (Value.ref (s.heap.objs.size + 1) :: us) _ _ (E σ) (hr.make C us [])
    (I2.env0.make C us []) hb' r2 hq) fun r s' hq' => ?_))
  cases r with
  | error e => exact hx pins σ _ _ e s' I2 hq'
  | ok fl =>
    cases fl with
    | ret u =>
      obtain ⟨v, H', I3, rv, ev, q3⟩ := I2.after hq'
      subst ev
      exact ⟨rv, ⟨V.ref (s.heap.objs.size + 1), H', I3, rfl, q3⟩⟩
    | next => exact False.elim hq'
    | brk => exact False.elim hq'
    | cont => exact False.elim hq'
theorem qD (M:Mk X.K C f) (F:aP X.prog X.w X.K X.mg X.base CX k f fd ps sp) (hr:bg (k+1) X.A) (hm:X.mg x=some (.ref C)) (hb:bH X.K fd ps []) (hx:dQ CX X E) (ha:QA X (e::es) t)
  (hg:Gl X x:=by rfl) (hdb:(x==("__debug__" :Str))=false:=by decide) (hs:bh (e::es)=true:=by rfl):QE X (.Call (.Name x p) (e::es) [] pos) (iT C sp E t):=⟨fun pins s σ H Q I h=>by
 have h':(bL e&&bh es)=true:=hs
 refine wpAny_Call_Name_kw (eV I hg hm ?_ hdb)
 refine W.callWith_K (h₀:=X.base) I.ok.mod.kin M.kp (thn (ha.out pos pins s σ H _ I h) fun us s1 ⟨vs,H1,I1,r,q⟩=>⟨I1.kIn,?_⟩) (ba (Bool.and_eq_true_iff.mp h').1 es X.env) (bT (Bool.and_eq_true_iff.mp h').2)
 exact md M F hr hb hx I1 r q⟩
theorem wg (M:Mk X.K C f) (F:aP X.prog X.w X.K X.mg X.base CX k f fd ps sp) (hr:bg (k+1) X.A) (hm:X.mg x=some (.ref C)) (hb:bH X.K fd ps []) (hx:dQ CX X E)
  (hg:Gl X x:=by rfl) (hdb:(x==("__debug__" :Str))=false:=by decide):QE X (.Call (.Name x p) [] [] pos) (iT C sp E ag):=⟨fun pins s σ H Q I h=>by
 refine wpAny_Call_Name_kw (eV I hg hm ?_ hdb)
 exact W.callWith_K0 I.kIn M.kp (md (us:=[]) M F hr hb hx I .nil h)⟩
end
end L2
namespace L2
open PySem PySem.Spec PyProof.Rows
mutual
inductive dG (K:W.Frag) (H:Hp):V→PyData→Prop
 | non:dG K H .non .none
 | bl (b):dG K H (.bl b) (.bool b)
 | int (i):dG K H (.int i) (.int i)
 | str (z):dG K H (.str z) (.str z)
 | lst {a xs ds}:SqL K H a xs→DatVs K H xs ds→dG K H (.ref a) (.list ds)
 | tup {a xs ds}:SqT K H a xs→DatVs K H xs ds→dG K H (.ref a) (.tuple ds)
inductive DatVs (K:W.Frag) (H:Hp):List V→List PyData→Prop
 | nil:DatVs K H [] []
 | cons {x xs d ds}:dG K H x d→DatVs K H xs ds→DatVs K H (x::xs) (d::ds)
end
section
variable {X:Cx}
mutual
theorem cV {pins : List (Addr × Obj)} {σ : St} {H : Hp} {s : Shared} (I : Inv X pins σ H s) : ∀ {x : V} {d : PyData}, dG X.K H x d → ∀ {v : Value}, aW x v → ∃ as, Reads s.heap v d as
  | _, _, .non, _, r => by cases r; exact ⟨_, .none⟩
  | _, _, .bl b, _, r => by cases r; exact ⟨_, .bool b⟩
  | _, _, .int i, _, r => by obtain ⟨t, rfl⟩ := r; exact ⟨_, .int i t⟩
  | _, _, .str z, _, r => by obtain ⟨t, rfl⟩ := r; exact ⟨_, .str z t⟩
  | _, _, .lst h hs, _, r => by
    cases r
    obtain ⟨its, r1, ⟨o, n, h1, h2, _, h3⟩, _⟩ := I.list h
    obtain ⟨as, ra⟩ := datVs_reads I hs r1
    exact ⟨_, .list h1 h2 h3 (by simpa using ra)⟩
  | _, _, .tup h hs, _, r => by
    cases r
    obtain ⟨its, r1, ⟨o, h1, h2, n, h3⟩, _⟩ := I.tuple h
    obtain ⟨as, ra⟩ := datVs_reads I hs r1
    exact ⟨_, .tuple h1 h2 h3 (by simpa using ra)⟩
theorem datVs_reads {pins : List (Addr × Obj)} {σ : St} {H : Hp} {s : Shared} (I : Inv X pins σ H s) : ∀ {xs : List V} {ds : List PyData}, DatVs X.K H xs ds → ∀ {vs : List Value}, aX xs vs → ∃ as, ReadsAll s.heap vs ds as
  | _, _, .nil, _, r => by cases r; exact ⟨_, .nil⟩
  | _, _, .cons h hs, _, r => by
    cases r with
    | cons r1 r2 =>
      obtain ⟨as, a⟩ := cV I h r1
      obtain ⟨bs, b⟩ := datVs_reads I hs r2
      exact ⟨_, .cons a b⟩
end
def pr (K:W.Frag):R2:=fun x y H Q=>∃ d e,dG K H x d∧dG K H y e∧d.canLay0=true∧e.canLay0=true∧d.depth≤150∧Q (.bl (d.eqv e)) H
def wW (K:W.Frag):R2:=fun x y H Q=>∃ d e,dG K H x d∧dG K H y e∧d.canLay0=true∧e.canLay0=true∧d.depth≤150∧Q (.bl (!d.eqv e)) H
theorem BW (hu:X.A.units+150<cLine):OpR X (compareOp .Eq) (pr X.K):=by
 intro pins s σ H x y v u Q I rx ry h
 obtain ⟨d,e,hd,he,cd,ce,dp,q⟩:=h
 obtain ⟨as,ra⟩:=cV I hd rx
 obtain ⟨bs,rb⟩:=cV I he ry
 exact PySem.SeqAt.compareEq_reads ra rb cd ce (by have:=Nat.min_le_left d.depth e.depth;omega) ⟨.bl _,H,I,rfl,q⟩
theorem CB (hu:X.A.units+150<cLine):OpR X (compareOp .NotEq) (wW X.K):=by
 intro pins s σ H x y v u Q I rx ry h
 obtain ⟨d,e,hd,he,cd,ce,dp,q⟩:=h
 obtain ⟨as,ra⟩:=cV I hd rx
 obtain ⟨bs,rb⟩:=cV I he ry
 exact PySem.SeqAt.compareNe_reads ra rb cd ce (by have:=Nat.min_le_left d.depth e.depth;omega) ⟨.bl _,H,I,rfl,q⟩
theorem bg.units150 {k:Nat} {A:Around} (r:bg k A):A.units+150<cLine:=by have:=r.un;omega
def cB (K:W.Frag):R2:=fun x y H Q=>match x,y with
 | .ref a,y=>wW K (.ref a) y H Q
 | x,.ref b=>wW K x (.ref b) H Q
 | x,y=>mNe x y H Q
theorem dM (hu:X.A.units+150<cLine):OpR X (compareOp .NotEq) (cB X.K):=((CB hu).or oNe).imp fun x y H Q q=>by
 unfold cB at q
 split at q
 · exact .inl q
 · exact .inl q
 · exact .inr q
variable {o:Expr} {to:TE} {name:Str} {apos cpos:Pos} {T id:String} {rm:V→List V→Hp→VK→Prop}
end
def ju (ns:List Int):List PyData:=ns.map PyData.int
theorem kL {K:W.Frag} {H:Hp}:∀ ns:List Int,DatVs K H (ns.map V.int) (ju ns)
 | []=> .nil
 | i::r=> .cons (.int i) (kL r)
theorem jN:∀ ns:List Int,(PyData.list (ju ns)).canLay0=true
 | []=>rfl
 | i::r=>jN r
theorem iA:∀ ns:List Int,PyData.depthAll (ju ns)=0
 | []=>rfl
 | i::r=>by show max 0 (PyData.depthAll (ju r))=0;rw [iA r];rfl
theorem sB (ns:List Int):(PyData.list (ju ns)).depth≤150:=by show PyData.depthAll (ju ns)+1≤150;rw [iA];decide
end L2
namespace L2
open PySem PySem.Spec PyProof.Rows
theorem vc:(("" :String):Str)=Str.empty:=by decide
theorem yA : ∀ xs : List Str, Str.join "" xs = xs.foldr (· ++ ·) Str.empty
  | [] => rfl
  | [x] => (Str.append_empty x).symm
  | x :: y :: r => by
    show x ++ (("" : String) : Str) ++ Str.join "" (y :: r) = x ++ (y :: r).foldr (· ++ ·) Str.empty
    rw [yA (y :: r), vc, Str.append_empty]
theorem zg (xs:List Str):Txt.join "" xs=xs.foldr (·++·) Str.empty:=(eq_of_beq (join_plain_closes "" xs)).trans (yA xs)
theorem aB {n:Nat} (h:n≤1000000):n≤sizeLine:=by rw [sizeLine_eq];omega
theorem ig (k:Nat):((2^k:Nat):Int)=(2:Int)^k:=by simp
theorem cZ (k:Nat):(0:Int)<2^k:=by have:=Nat.two_pow_pos k;rw [← ig];omega
theorem jl {k:Nat} (h:k≤60):(2:Int)^k≤2^60:=by
 have b:(2:Nat)^k≤2^60:=Nat.pow_le_pow_right (by decide) h
 rw [← ig k];omega
theorem vh (ns:List Int) (lo hi:Option Int):∃ zs:List Int,cR (ns.map V.int) lo hi=zs.map V.int∧zs.length≤ns.length:=by
 refine ⟨(ns.drop (HT.sIx ns.length 0 lo)).take (HT.sIx ns.length ns.length hi - HT.sIx ns.length 0 lo),?_,?_⟩
 · unfold cR
   rw [List.length_map,List.map_take,List.map_drop]
 · rw [List.length_take,List.length_drop];omega
theorem pD {α:Type} {xs:List α} {i:Int} (h0:0≤i) (h1:i<xs.length):∃ c,atI xs i=some c:=by
 unfold atI ixN
 rw [if_pos h0,if_pos h1]
 have:i.toNat<xs.length:=by omega
 exact ⟨xs[i.toNat],by show xs[i.toNat]?=_;rw [List.getElem?_eq_getElem this]⟩
theorem sF (x y : Nat) : x ||| y = (x &&& y) + (x ^^^ y) := by
  have h : ∀ n, ∀ x y : Nat, x < 2 ^ n → y < 2 ^ n → x ||| y = (x &&& y) + (x ^^^ y) := by
    intro n
    induction n with
    | zero => intro x y hx hy; have : x = 0 := by simpa using hx
              have : y = 0 := by simpa using hy
              subst_vars; rfl
    | succ n ih =>
      intro x y hx hy
      have i := ih (x / 2) (y / 2) (by omega) (by omega)
      rw [← Nat.div_add_mod (x ||| y) 2, ← Nat.div_add_mod (x &&& y) 2, ← Nat.div_add_mod (x ^^^ y) 2]
      rw [Nat.or_div_two, Nat.and_div_two, Nat.xor_div_two, i]
      have hm : (x ||| y) % 2 = (x &&& y) % 2 + (x ^^^ y) % 2 := by
        have a := @Nat.or_mod_two_pow x y 1
        have b := @Nat.and_mod_two_pow x y 1
        have c := @Nat.xor_mod_two_pow x y 1
        rw [Nat.pow_one] at a b c
        rw [a, b, c]
        rcases Nat.mod_two_eq_zero_or_one x with h | h <;> rcases Nat.mod_two_eq_zero_or_one y with h' | h' <;> rw [h, h'] <;> rfl
      omega
  have h2 : max x y < 2 ^ (max x y) := Nat.lt_two_pow_self
  exact h (max x y) x y (by omega) (by omega)
theorem sA (x y:Nat):Builtin.bitXor x y=((x^^^y:Nat):Int):=by
 unfold Builtin.bitXor Builtin.bitOr
 have e1:Builtin.bitAnd x y=((x &&& y:Nat):Int):=by
  unfold Builtin.bitAnd
  rw [decide_eq_true (by omega:(0:Int)≤x),decide_eq_true (by omega:(0:Int)≤y)];rfl
 have n (z:Nat):Builtin.bitNot z<0:=by unfold Builtin.bitNot;omega
 have nn (z:Nat):(Builtin.bitNot (Builtin.bitNot z)).toNat=z:=by unfold Builtin.bitNot;omega
 have e2:Builtin.bitAnd (Builtin.bitNot x) (Builtin.bitNot y)=Builtin.bitNot ((x ||| y:Nat):Int):=by
  unfold Builtin.bitAnd
  rw [decide_eq_false (by have:=n x;omega:¬ 0≤Builtin.bitNot x),decide_eq_false (by have:=n y;omega:¬ 0≤Builtin.bitNot y)]
  show Builtin.bitNot (((Builtin.bitNot (Builtin.bitNot x)).toNat ||| (Builtin.bitNot (Builtin.bitNot y)).toNat:Nat):Int)=_
  rw [nn,nn]
 rw [e1,e2,sF]
 unfold Builtin.bitNot
 omega
theorem rL (x:Nat):Builtin.bitAnd x 1=((x%2:Nat):Int):=by
 unfold Builtin.bitAnd
 rw [decide_eq_true (by omega:(0:Int)≤x),decide_eq_true (by decide:(0:Int)≤1)]
 show (((x:Int).toNat &&& (1:Int).toNat:Nat):Int)=_
 rw [Int.toNat_natCast,show (1:Int).toNat=1 from rfl,Nat.and_one_is_mod]
end L2
namespace L2
open PySem PySem.Spec PyProof.Rows
section
variable {X:Cx}
theorem bg.units1 {k:Nat} {A:Around} (r:bg k A):A.units+1<cLine:=by have:=r.un;omega
def CN:R2:=fun x y H Q=>∃ a v,x=.ref a∧fz H a y (some v)∧Q v H
theorem zt (hu:X.A.units+1<cLine):IxR X CN:=by
 intro value slice pins s σ H x y v u Q I rx ry h hs
 obtain ⟨a,w0,rfl,g,q⟩:=h
 obtain rfl:v=Value.ref a:=rx
 have hT:=pZ I g
 have h2:wpAny (model X.prog X.w) X.A (getItem (.ref a) u) (EP X pins σ Q) X.xe s:=tN hu I g ry fun w' s3 I3 rw'=>⟨w0,H,I3,rw',q⟩
 unfold subscriptTail
 refine wpAny_bind ?_
 rw [getitemInPython_of_ne hT.not_modules]
 refine wpAny_bind (wpAny_specialOf hT PySem.F.slot_dict_getitem.lookup ?_)
 have fin:wpAny (model X.prog X.w) X.A (subscripted slice false (.ref a) u) (fun r s₃=>wpAny (model X.prog X.w) X.A (letTemporaryGo value (.ref a) r>>=fun _=>pure r) (EP X pins σ Q) X.xe s₃) X.xe s:=by
  rw [hs]
  exact wpAny_operating (wpAny_mono h2 (fun r s₃ h₃=>wpAny_bind (wpAny_letTemporaryGo (wpAny_pure h₃))) fun _ _ x=>x)
 first
  | exact wpAny_pure (wpAny_bind fin)
  | exact wpAny_bind (wpAny_pure (wpAny_bind fin))
  | exact wpAny_bind fin
def aM (K:W.Frag):R2:=fun x y H Q=>rIx K x y H Q∨CN x y H Q
theorem aE (hu:X.A.units+1<cLine):IxR X (aM X.K):=Cq.or (zt hu)
def xX:V→V→V→Hp→(Hp→Prop)→Prop:=fun o i v H Q=>∃ a H',o=.ref a∧vq H a i v H'∧Q H'
theorem vE (hu:X.A.units+1<cLine):rk X xX:=by
 intro pins s σ H o i v ov iv u Q I ro ri rv h
 obtain ⟨a,H',rfl,g,q⟩:=h
 obtain rfl:ov=Value.ref a:=ro
 exact ua hu I g ri rv fun s4 I4=>⟨H',I4,q⟩
def rD:V→V→V→Hp→(Hp→Prop)→Prop:=fun o i v H Q=>yw o i v H Q∨xX o i v H Q
theorem zK (hu:X.A.units+1<cLine):rk X rD:=by
 intro pins s σ H o i v ov iv u Q I ro ri rv h
 rcases h with h | h
 · exact wl pins s σ H o i v ov iv u Q I ro ri rv h
 · exact vE hu pins s σ H o i v ov iv u Q I ro ri rv h
variable {o e:Expr} {to te:TE} {p pos:Pos}
theorem xJ {ti:TE} {i:Expr} (hu:X.A.units+1<cLine) (ho:QE X o to) (hi:QE X i ti) (he:QE X e te) (hs:swapsWithSole [.Subscript o i p] e pos.line X.env=pure false:=by rfl) (hw:swappedStores [.Subscript o i p] e X.env=pure none:=by rfl) (ha:∀ v,assign (.Subscript o i p) X.env v=(do let ov←holding [v] (eval o X.env);let iv←holding [v,ov] (eval i X.env);standAt p;holding [v,ov,iv] (setItem ov iv v);release [v,ov,iv] []):=by intro _;rfl):QS X (.Assign [.Subscript o i p] e pos) (aC te (xH to ti rD)):=⟨tZ he.out (Ae ho.out hi.out (zK hu) ha) hs hw⟩
def qy:R2:=fun y x H Q=>∃ a o,x=.ref a∧fz H a y o∧Q (.bl (!o.isSome)) H
theorem tM (hu:X.A.units+1<cLine):OpR X (compareOp .NotIn) qy:=by
 intro pins s σ H x y v u Q I rx ry h
 obtain ⟨a,ov,rfl,g,q⟩:=h
 obtain rfl:u=Value.ref a:=ry
 exact yQ hu I g rx fun s3 I3=>⟨.bl (!ov.isSome),H,I3,rfl,q⟩
def qz (K:W.Frag):R2:=fun y x H Q=>∃ d ds,dG K H y d∧(dG K H x (.list ds)∨dG K H x (.tuple ds))∧PyData.canLayAll0 ds=true∧d.canLay0=true∧d.depth≤140∧Q (.bl (!ds.any fun e=>e.eqv d)) H
theorem uu (hu:X.A.units+150<cLine):OpR X (compareOp .NotIn) (qz X.K):=by
 intro pins s σ H x y v u Q I rx ry h
 obtain ⟨d,ds,hd,hx,c1,c2,dp,q⟩:=h
 obtain ⟨as,ra⟩:=cV I hd rx
 have hm:X.A.units+1+min (PyData.depthAll ds) d.depth<cLine:=by have:=Nat.min_le_right (PyData.depthAll ds) d.depth;omega
 rcases hx with hx | hx
 · obtain ⟨bs,rb⟩:=cV I hx ry
   exact PySem.SeqAt.notIn_list_reads rb ra c1 c2 hm ⟨.bl _,H,I,rfl,q⟩
 · obtain ⟨bs,rb⟩:=cV I hx ry
   exact PySem.SeqAt.notIn_tuple_reads rb ra c1 c2 hm ⟨.bl _,H,I,rfl,q⟩
def qk (K:W.Frag):R2:=fun y x H Q=>qy y x H Q∨qz K y x H Q
theorem yZ (hu:X.A.units+150<cLine):OpR X (compareOp .NotIn) (qk X.K):=(tM (by omega)).or (uu hu)
def fm:TE:=fun σ H Q=>uM σ H Q∨uk σ H Q
theorem jd:QE X (.Dict [] [] pos) fm:=⟨fun pins s σ H Q I h=>h.elim (xq pins s σ H Q I) (wQ pins s σ H Q I)⟩
theorem uo:bG X (.builtin "len") (fun xs H Q=>∃ p kvs,xs=[.ref p]∧H p=some (.dT kvs)∧Q (.int kvs.length) H):=by
 intro pins s σ H xs us Q I r h
 obtain ⟨a,kvs,rfl,e,q⟩:=h
 obtain ⟨u,rfl,r1⟩:=fk r
 cases r1
 obtain ⟨z,hd,ps,rel,dd⟩:=rq I.hok e
 have hl:ps.length=kvs.length:=(Paired.length rel).symm
 have hT:s.TypeIs (.ref a) "dict" :=dd.typeIs
 obtain ⟨o,es,ep,ho,hc,hdat,he,his,hn⟩:=dd
 have hsz:es.size=kvs.length:=by rw [← hl];have:=congrArg List.length he;simpa using this
 have M:MeetsIn X.prog X.w (Builtin.«dict.__len__» ⟨[.ref a],[]⟩) (fun _ R s=>s.heap.get? a=some o∧R (.ok (.ret (.int kvs.length s.toks))) { s with toks:=s.toks+1 }):=
  .of_wp fun A R s ⟨ho,h⟩=>by
   show wpAny _ _ (dictSize a>>=_) _ _ s
   unfold dictSize
   refine wpAny_bind (wpAny_bind (wpAny_dictEntries ho hdat (wpAny_pure ?_)))
   show wpAny _ _ (Builtin.Dict.pendingCount a>>=_) _ _ s
   refine wpAny_bind (wpAny_pendingCount_other hd ?_)
   refine wpAny_ret_mkInt ?_
   rw [Nat.add_zero,hsz];exact h
 refine Calls.call_function_entry kind_len plain_len entry_len (args_len1 _) ?_
 unfold Builtin.«len»
 refine wpAny_bind (m:=oneArg "len" _) (wpAny_pure ?_)
 refine wpAny_bind (m:=callSpecial? (.ref a) (Str.ofString "__len__")) (wpAny_callSpecial?_slot (name:=Str.ofString "__len__") hT F.slot_dict_len
  (call_meetsIn F.slot_dict_len hT F.entry_dict_len (F.args_dict_len_1 _) M ⟨ho,?_⟩))
 show wpAny _ _ _ _ _ { s with toks:=s.toks+1 }
 refine wpAny_bind (wpAny_holding (wpAny_pure ?_))
 refine wpAny_bind (wpAny_letGo ?_)
 have zz:kvs.length≤sizeLine:=z
 rw [sizeLine_eq] at zz
 show wpAny _ _ (if ((kvs.length:Nat):Int)<0 then _ else _) _ _ _
 rw [if_neg (by omega)]
 show wpAny _ _ (if ((kvs.length:Nat):Int)≥2^63 then _ else _) _ _ _
 rw [if_neg (by omega)]
 exact wpAny_bind (wpAny_mkInt (wpAny_pure ⟨_,rfl,⟨.int kvs.length,H,I.tok _,⟨_,rfl⟩,q⟩⟩))
def bM (K:W.Frag):List V→Hp→VK→Prop:=fun xs H Q=>Ap K xs H Q∨∃ p kvs,xs=[.ref p]∧H p=some (.dT kvs)∧Q (.int kvs.length) H
theorem cg:bG X (.builtin "len") (bM X.K):=Ho.or uo
def AL (H:Hp) (a:Addr) (y d:V) (r:V) (H':Hp):Prop:=(fz H a y (some r)∧H'=H)∨(fz H a y none∧vq H a y d H'∧r=d)
theorem eQ {A:Around} {E:Value→Shared→Prop} {s:Shared} {P:Program} {w:World} {K:Type} [DecidableEq K] {knd:HeapKind P w K} {d a:Addr} {xs:List (K×Addr×Value)} {k:K} {v:Value} {Q:Value→Shared→Prop} (hu:knd.room A) (hkey:knd.is s.heap k a) (hm:s.heap.DictOfH knd d xs)
   (hthere:∀ p,atKey xs k=some p→Q p.2 { s with toks:=s.toks+knd.draws k })
   (hQ:atKey xs k=none→∀ h',h'.DictOfH knd d (storedH xs k a v)→Heap.SameBut d s.heap h'→Q v { s with heap:=h',toks:=s.toks+knd.draws k })
   (hsz:xs.length≤sizeLine):
   wpAny (model P w) A (dictSetDefault d (.ref a) v) Q E s:=by
 obtain ⟨o,es,ep,ho,hc,hd,he,his,hn⟩:=hm
 unfold dictSetDefault
 try with_reducible refine wpAny_holding ?_
 refine wpAny_bind (knd.pyHash hu hkey ?_)
 refine wpAny_bind (wpAny_dictFind_heap (s:={ s with toks:=s.toks+knd.draws k }) hu hkey ho hd he his hn ?_ ?_)
 · intro hno
   have hnot:k∉xs.map (·.1):=not_mem_keys_of_get hno
   refine wpAny_bind (wpAny_rule (wpAny_bind (wpAny_updateDictKeys (hz:=by have e:=size_of_entries he;omega) (s:={ s with toks:=s.toks+knd.draws k }) ho hd (wpAny_pure (hQ (atKey_none_of_get hno) _ ⟨_,_,ep+1,Heap.get?_update_self _ ho (Obj.isFreed_of_dict (Obj.data_mapDictKeys hd _)),
     hc.mapDictKeys _,Obj.data_mapDictKeys hd _,?_,?_,?_⟩ (Heap.SameBut.update ..))))))
   · rw [storedH_new (atKey_none_of_get hno)]
     simp [he,entryOfKey]
   · rw [storedH_new (atKey_none_of_get hno)]
     intro x hx
     rcases List.mem_append.mp hx with hx | hx
     · exact knd.keeps (his x hx) ho hd (Heap.SameBut.update ..)
     · simp only [List.mem_singleton] at hx
       subst hx
       exact knd.keeps hkey ho hd (Heap.SameBut.update ..)
   · rw [storedH_new (atKey_none_of_get hno)]
     rw [List.map_append,List.nodup_append]
     refine ⟨hn,by simp,?_⟩
     intro x hx y hy
     simp only [List.map_cons,List.map_nil,List.mem_singleton] at hy
     subst hy
     exact fun e=>hnot (e▸hx)
 · intro j p hj
   refine wpAny_bind (wpAny_dictEntries (s:={ s with toks:=s.toks+knd.draws k }) ho hd ?_)
   rw [entry_at he j,hj]
   exact wpAny_bind (wpAny_rule (wpAny_pure (hthere p (atKey_of_get hn hj))))
end
end L2
namespace L2
open PySem PySem.Spec PyProof.Rows
theorem oM {h:Heap} {a:Addr} {its:Array Value} (p:PlainL h a its):h.IsList a its:=let ⟨o,n,e,c,_,d⟩:=p;⟨o,e,c,n,d⟩
section
variable {X:Cx} {a b:Expr} {t:TA} {p pos ep:Pos} {elts:List Expr} {ek:Nat}
end
end L2
namespace L2
open PySem PySem.Spec PyProof.Rows
set_option genInjectivity false in
set_option genSizeOf false in
structure cN where
 qual:Str
 body:FuncBody
 scope:Scope
 ps:List Str
 ys:List Str
def kA (t:cN) (cs:List Addr) (c:Addr) (fd:FuncData):Prop:=
 fd.qualname=t.qual∧fd.body=t.body∧fd.scope=t.scope∧fd.globals=mainGlobals∧fd.closure=t.ys.zip cs∧fd.code=.ref c∧fd.builtins=builtinsNs∧
  (∀ us:List Value,us.length=t.ps.length→bindArgs fd ⟨us,[]⟩=pure (t.ps.zip us))∧cs.Nodup∧cs.length=t.ys.length
def dc (f:Addr) (t:cN) (cs:List Addr) (c:Addr):HO:=.ext fun h=>∃ od fd sl,h.get? f=some ⟨.type "function",od,.func fd,sl⟩∧kA t cs c fd
def cD (c:Addr) (qual:Str):HO:=.ext fun h=>∃ o vs tk,h.get? c=some o∧o.data=.fields vs∧vs[1]?=some (.str qual tk)
def ck (c:Addr) (v:V):HO:=.ext fun h=>∃ u o,aW v u∧h.get? c=some o∧o.data=.cell (some u)
abbrev cn (H:Hp):List Addr→List V→Prop:=Paired fun c v=>H c=some (ck c v)
structure dB (H:Hp) (f:Addr) (t:cN) (cs:List Addr) (cvs:List V):Prop where
 ex:∃ c,H f=some (dc f t cs c)∧H c=some (cD c t.qual)
 cells:cn H cs cvs
theorem cn.mem {H : Hp} {cs : List Addr} {cvs : List V} (h : cn H cs cvs) : ∀ c ∈ cs, ∃ v, H c = some (ck c v) := by
  induction h with
  | nil => intro c hc; cases hc
  | cons r t ih =>
    intro c hc
    rcases List.mem_cons.mp hc with rfl | hc
    · exact ⟨_, r⟩
    · exact ih c hc
theorem cn.get {H : Hp} {cs : List Addr} {cvs : List V} (h : cn H cs cvs) : ∀ {i : Nat} {v : V}, cvs[i]? = some v → ∃ c, cs[i]? = some c ∧ H c = some (ck c v) := by
  induction h with
  | nil => intro i v e; cases e
  | @cons c w cs ws r t ih =>
    intro i v e
    cases i with
    | zero => cases e; exact ⟨c, rfl, r⟩
    | succ i => exact ih e
def cC (cs:List Addr) (H:Hp):Hp:=fun b=>if b∈cs then none else H b
def cm (cs:List Addr) (H H':Hp):Hp:=fun b=>if b∈cs then H b else H' b
theorem fV {cs:List Addr} {H:Hp} {b:Addr} (h:b∈cs):cC cs H b=none:=if_pos h
theorem cH {cs:List Addr} {H:Hp} {b:Addr} (h:b∉cs):cC cs H b=H b:=if_neg h
theorem ix {cs:List Addr} {H H':Hp} {b:Addr} (h:b∈cs):cm cs H H' b=H b:=if_pos h
theorem cj {cs:List Addr} {H H':Hp} {b:Addr} (h:b∉cs):cm cs H H' b=H' b:=if_neg h
theorem uI {cs:List Addr} {H H':Hp} {d:Addr} {o:HO} (h:d∉cs):cm cs H (upd H' d o)=upd (cm cs H H') d o:=by
 funext b
 by_cases hb:b∈cs
 · have:b≠d:=fun e=>h (e▸hb)
   rw [ix hb,au this,ix hb]
 · rw [cj hb]
   by_cases e:b=d
   · subst e;rw [ap,ap]
   · rw [au e,au e,cj hb]
theorem cn.notin {H:Hp} {cs:List Addr} {cvs:List V} (h:cn H cs cvs) {b:Addr} {o:HO} (e:H b=some o) (hn:∀ φ,o≠ .ext φ):b∉cs:=fun hb=>by
 obtain ⟨v,ev⟩:=h.mem b hb
 rw [e] at ev
 exact hn _ (Option.some.inj ev)
theorem cn.hide {H:Hp} {cs:List Addr} {cvs:List V} (h:cn H cs cvs) {b:Addr} {o:HO} (e:H b=some o) (hn:∀ φ,o≠ .ext φ):cC cs H b=some o:=by
 rw [cH (h.notin e hn)];exact e
theorem ax.hide {H H':Hp} (cs:List Addr) (s:ax (cC cs H) H'):ax H (cm cs H H'):=fun b o e=>by
 by_cases hb:b∈cs
 · rw [ix hb];exact e
 · rw [cj hb];exact s _ _ (by rw [cH hb];exact e)
section
variable {P:Program} {w:World} {fs:List Addr} {H H':Hp} {h h':Heap} {cs:List Addr} {cvs:List V}
theorem zk (hc:cn H cs cvs) (ok:HOk P w H h):HOk P w (cC cs H) h:=fun b o e=>by
 by_cases hb:b∈cs
 · rw [fV hb] at e;cases e
 · rw [cH hb] at e
   exact (ok b o e).stay (fun c u _ q=>q) (fun c q=>hc.hide q fun φ z=>nomatch z) fun c xs q=>hc.hide q fun φ z=>nomatch z
theorem qN (hc:cn H cs cvs) (hfs:∀ b∈fs,H b=none) (ok:HOk P w H h) (u:Un fs [] (cC cs H) H' h h') (ok':HOk P w H' h'):Un fs [] H (cm cs H H') h h'∧HOk P w (cm cs H H') h':=by
 have obj:∀ c∈cs,∃ v o,H c=some (ck c v)∧h.get? c=some o∧h'.get? c=some o∧H' c=none:=fun c hm=>by
   obtain ⟨v,ev⟩:=hc.mem c hm
   obtain ⟨_,⟨o,eo⟩,_⟩:=(show bc P w H h c (ck c v) from ok c _ ev)
   refine ⟨v,o,ev,eo,u.keep c o eo (fV hm) (fun z=>?_) (by simp),u.free c o eo (fV hm) (by simp)⟩
   rw [hfs c z] at ev;cases ev
 have nin:∀ b,H b=none→b∉cs:=fun b e hb=>by
   obtain ⟨v,ev⟩:=hc.mem b hb
   rw [e] at ev;cases ev
 have nin':∀ b o,H' b=some o→b∉cs:=fun b o e hb=>by
   obtain ⟨_,_,_,_,_,z⟩:=obj b hb
   rw [e] at z;cases z
 refine ⟨⟨fun b o e n hb hx=>u.keep b o e (by rw [cH (nin b n)];exact n) hb hx,fun b o e n hb hx=>u.slot b o e (by rw [cH (nin b n)];exact n) hb hx,
   fun b o e n hx=>by rw [cj (nin b n)];exact u.free b o e (by rw [cH (nin b n)];exact n) hx,u.there,fun b xs e=>?_,fun b o v e=>?_,fun b ps e=>?_⟩,fun b o e=>?_⟩
 · have hb:=hc.notin e fun φ z=>nomatch z
   rw [cj hb];exact u.tups b xs (by rw [cH hb];exact e)
 · have hb:=hc.notin e fun φ z=>nomatch z
   rw [cj hb];exact u.frzs b o v (by rw [cH hb];exact e)
 · have hb:=hc.notin e fun φ z=>nomatch z
   rw [cj hb];exact u.tbls b ps (by rw [cH hb];exact e)
 · by_cases hb:b∈cs
   · rw [ix hb] at e
     obtain ⟨v,o',ev,e1,e2,_⟩:=obj b hb
     rw [e] at ev;cases ev
     obtain ⟨φ1,_,φ3⟩:=(show bc P w H h b (ck b v) from ok b _ e)
     exact ⟨φ3 h h' φ1 fun q hq=>by rw [e1] at hq;cases hq;exact e2,⟨o',e2⟩,φ3⟩
   · rw [cj hb] at e
     exact (ok' b o e).stay (fun c u _ q=>q) (fun c q=>by rw [cj (nin' c _ q)];exact q) fun c xs q=>by rw [cj (nin' c _ q)];exact q
theorem CR.back {outer : List Env} {s s' : Shared} {Q : VK} {E : XK} {r : Result} (hc : cn H cs cvs) (hfs : ∀ b ∈ frs outer, H b = none) (ok : HOk P w H s.heap)
    (h : CR (CX1 P w) outer P w (cC cs H) s (fun v H' => Q v (cm cs H H')) (fun c a H' => E c a (cm cs H H')) r s') : CR (CX1 P w) outer P w H s Q E r s' := by
  cases r with
  | error e =>
    obtain ⟨a, C, d, H', rfl, F, q⟩ := h
    obtain ⟨u, k⟩ := qN hc hfs ok F.un F.hok
    have na : a ∉ cs := fun hb => by
      obtain ⟨v, ev⟩ := hc.mem a hb
      obtain ⟨_, ⟨o, eo⟩, _⟩ := (show bc P w H s.heap a (ck a v) from ok a _ ev)
      rw [F.new] at eo; cases eo
    obtain ⟨oe, vs, a0, T, oT, ts, t1, t2, td, t3, t4, t5, t6, t7, t8, t9, t10, t11⟩ := F.tr
    have nT : T ∉ cs := fun hb => by
      obtain ⟨v, ev⟩ := hc.mem T hb
      obtain ⟨_, ⟨o, eo⟩, _⟩ := (show bc P w H s.heap T (ck T v) from ok T _ ev)
      rw [t10] at eo; cases eo
    exact ⟨a, C, d, _, rfl, ⟨F.os, F.bare, u, k, F.new, by rw [cj na]; exact F.free, ⟨oe, vs, a0, T, oT, ts, t1, t2, td, t3, t4, t5, t6, t7, t8, t9, t10, by rw [cj nT]; exact t11⟩⟩, q⟩
  | ok fl =>
    cases fl with
    | ret u =>
      obtain ⟨v, H', os, bare, un, hok, rv, q⟩ := h
      obtain ⟨u', k⟩ := qN hc hfs ok un hok
      exact ⟨v, _, os, bare, u', k, rv, q⟩
    | next => exact False.elim h
    | brk => exact False.elim h
    | cont => exact False.elim h
end
structure fj (P:Program) (w:World) (K:W.Frag) (mg:Str→Option Value) (base:Heap) (k:Nat) (t:cN) (sp:Sp):Prop where
 run:∀ (A:Around) (outer:List Env) (s:Shared) (H:Hp) (f:Addr) (cs:List Addr) (us:List Value) (vs cvs:List V) (Q:VK) (E:XK),bg k A→ii P w K mg base A outer s H→dB H f t cs cvs→aX vs us→vs.length=t.ps.length→
  sp (vs++cvs) (cC cs H) (fun v H'=>Q v (cm cs H H')) (fun c a H'=>E c a (cm cs H H'))→codeAny (model P w) A (.call (.ref f) ⟨us,[]⟩) (CR (CX1 P w) outer P w H s Q E) s
def dF (N:List Str) (vs cvs:List V):St:=vs.map some++(List.replicate (N.length - vs.length - cvs.length) none++cvs.map some)
def gu (P:Program) (w:World) (K:W.Frag) (mg:Str→Option Value) (base:Heap) (N:List Str) (qual:Str) (scope:Scope) (f c:Addr) (cl:List (Str×Addr)) (A:Around) (outer:List Env) (s:Shared) (H:Hp) (E:XK):Cx where
 prog:=P
 w:=w
 K:=K
 mg:=mg
 base:=base
 A:=A.deeper (W.envX qual scope s.heap.objs.size f (.ref c) cl)
 N:=N
 s₀:=s
 H₀:=H
 env:=W.envX qual scope s.heap.objs.size f (.ref c) cl
 outer:=outer
 stack:=W.envX qual scope s.heap.objs.size f (.ref c) cl::outer
 ex:=[]
 calm:=true
 fn:=fun _=>false
 pn:=[]
 xe:=fun e s'=>wpAny (model P w) (A.deeper (W.envX qual scope s.heap.objs.size f (.ref c) cl)) (leaving (W.envX qual scope s.heap.objs.size f (.ref c) cl) e) (fun _ s''=>CX1 P w outer H s E e s'') (fun e' s''=>CX1 P w outer H s E e' s'') s'
structure eF (N ps ys:List Str) (sc:Scope):Prop where
 kind:sc.kind=.function
 co:sc.isCoroutine=false
 gen:sc.isGenerator=false
 nd:N.Nodup
 pre:N.take ps.length=ps
 suf:N.drop (N.length - ys.length)=ys
 le:ps.length+ys.length≤N.length
 par:∀ x∈ps,sc.names.lookup x=some .local
 nocell:∀ x∈sc.names,x.2≠ .cell
 fr:∀ x∈ys,sc.names.lookup x=some .free
 frs:∀ y∈sc.names,y.2=.free→y.1∈ys
theorem lp {ys : List Str} {cs : List Addr} (hl : cs.length = ys.length) (nd : ys.Nodup) : ∀ {i : Nat} {y : Str} {c : Addr}, ys[i]? = some y → cs[i]? = some c → (ys.zip cs).lookup y = some c := by
  induction ys generalizing cs with
  | nil => intro i y c e; cases e
  | cons a r ih =>
    intro i y c e1 e2
    cases cs with
    | nil => cases e2
    | cons b cs =>
      cases i with
      | zero => cases e1; cases e2; show (List.lookup _ ((_, _) :: _)) = _; rw [List.lookup_cons]; simp
      | succ i =>
        have hne : y ≠ a := fun e => (List.nodup_cons.mp nd).1 (e ▸ List.mem_of_getElem? (show r[i]? = some y from e1))
        show (List.lookup y ((a, b) :: r.zip cs)) = _
        rw [List.lookup_cons, show (y == a) = false from by simpa using hne]
        exact ih (by simpa using hl) (List.nodup_cons.mp nd).2 (show r[i]? = some y from e1) (show cs[i]? = some c from e2)
theorem fv {ys : List Str} {cs : List Addr} : ∀ {y : Str} {c : Addr}, (ys.zip cs).lookup y = some c → ∃ i : Nat, ys[i]? = some y ∧ cs[i]? = some c := by
  induction ys generalizing cs with
  | nil => intro y c e; cases e
  | cons a r ih =>
    intro y c e
    cases cs with
    | nil => cases e
    | cons b cs =>
      have e : (List.lookup y ((a, b) :: r.zip cs)) = some c := e
      rw [List.lookup_cons] at e
      by_cases hy : (y == a) = true
      · rw [hy] at e; cases e; exact ⟨0, by simpa using (eq_of_beq hy).symm, rfl⟩
      · rw [show (y == a) = false from by simpa using hy] at e
        obtain ⟨i, h1, h2⟩ := ih e
        exact ⟨i + 1, h1, h2⟩
theorem lN {ps : List Str} {us : List Value} (nd : ps.Nodup) : ∀ {i : Nat} {x : Str} {u : Value}, ps[i]? = some x → us[i]? = some u → (ps.zip us).reverse.lookup x = some u := by
  induction ps generalizing us with
  | nil => intro i x u e; cases e
  | cons a r ih =>
    intro i x u e1 e2
    cases us with
    | nil => cases e2
    | cons b us =>
      show (List.lookup x ((a, b) :: r.zip us).reverse) = _
      rw [List.reverse_cons, List.lookup_append]
      cases i with
      | zero =>
        cases e1; cases e2
        have : (r.zip us).reverse.lookup a = none := by
          rw [List.lookup_eq_none_iff]
          intro p hp
          have := (List.of_mem_zip (List.mem_reverse.mp hp)).1
          simp only [beq_eq_false_iff_ne, ne_eq, bne_iff_ne]
          intro e
          exact (List.nodup_cons.mp nd).1 (by rw [← e] at this; exact this)
        rw [this]; simp
      | succ i =>
        rw [ih (List.nodup_cons.mp nd).2 (show r[i]? = some x from e1) (show us[i]? = some u from e2)]; rfl
end L2
namespace L2
open PySem PySem.Spec PyProof.Rows
section
variable {P:Program} {w:World} {K:W.Frag} {mg:Str→Option Value} {base:Heap} {N ps ys:List Str} {qual:Str} {scope:Scope} {f c:Addr} {A:Around} {outer:List Env} {s:Shared} {H:Hp} {E:XK} {us:List Value} {vs cvs:List V} {cs:List Addr} {h1:Heap} {tk:Nat}
theorem qQ (S:eF N ps ys scope) (hd:A.handled=none) (e0:ii P w K mg base A outer s H) (ca:cn H cs cvs) (hcs:cs.Nodup) (hcl:cs.length=ys.length) (hl:vs.length=ps.length) (r:aX vs us)
   (hns:h1.Ns s.heap.objs.size (fun x=>(ps.zip us).reverse.lookup x)) (hk:∀ b o,s.heap.get? b=some o→h1.get? b=some o):
   Inv (gu P w K mg base N qual scope f c (ys.zip cs) A outer s (cC cs H) E) [] (dF N vs cvs) (cC cs H) { s with heap:=h1,toks:=tk }:=by
 have ndY:ys.Nodup:=by rw [← S.suf];exact S.nd.sublist (List.drop_sublist _ _)
 have ndP:ps.Nodup:=by rw [← S.pre];exact S.nd.sublist (List.take_sublist _ _)
 have lcv:cvs.length=ys.length:=by rw [← hcl];exact (Paired.length ca).symm
 have cellOf:∀ c∈cs,∃ v,h1.IsCell c v:=fun c hm=>by
   obtain ⟨v,ev⟩:=ca.mem c hm
   obtain ⟨⟨u,o,_,eo,hd⟩,_,_⟩:=(show bc P w H s.heap c (ck c v) from e0.hok c _ ev)
   exact ⟨_,o,hk _ _ eo,hd⟩
 have memC:∀ x c,(ys.zip cs).lookup x=some c→c∈cs:=fun x c e=>by
   obtain ⟨i,_,e2⟩:=fv e
   exact List.mem_of_getElem? e2
 have noA:∀ b:Addr,b∉(gu P w K mg base N qual scope f c (ys.zip cs) A outer s (cC cs H) E).ex:=fun b z=>absurd (show b∈([]:List Addr) from z) (by simp)
 have hid:∀ b,H b=none→cC cs H b=none:=fun b e=>by
   by_cases hb:b∈cs
   · exact fV hb
   · rw [cH hb];exact e
 refine ⟨⟨e0.mod,S.kind,rfl,rfl,Nat.le_refl _,fun y z c h1 h2=>?_,fun y hy=>?_,fun y c hf _=>?_,fun _=>hd,Around.frames_deeper e0.frames,.inr ⟨rfl,rfl⟩,fun b z=>absurd z (noA b),fun b o e=>⟨(e0.bs b o e).1,hid b (e0.bs b o e).2⟩,e0.bsz,fun b _ _=>noA b,fun b z=>absurd z (noA b),e0.funs,fun b hb=>hid b (e0.frf b hb)⟩,
   rfl,e0.bare,Un.kept hk,⟨_,hns,fun i y v q1 q2 q3=>?_⟩,fun y c h=>cellOf c (memC y c h),hid _ (e0.hok.fresh (Nat.le_refl _)),fun y c h=>fV (memC y c h),fun p hp=>absurd (show p∈([]:List (Addr×Obj)) from hp) (by simp),(zk ca e0.hok).kept hk,?_⟩
 · obtain ⟨i,e1,e2⟩:=fv (show (ys.zip cs).lookup y=some c from h1)
   obtain ⟨j,e3,e4⟩:=fv (show (ys.zip cs).lookup z=some c from h2)
   have:i=j:=by
     obtain ⟨a1,b1⟩:=List.getElem?_eq_some_iff.mp e2
     obtain ⟨a2,b2⟩:=List.getElem?_eq_some_iff.mp e4
     exact (List.getElem_inj hcs).mp (b1.trans b2.symm)
   subst this
   rw [e1] at e3;exact Option.some.inj e3
 · have hy:scope.names.lookup y=some .cell∨scope.names.lookup y=some .free:=hy
   rcases hy with hy | hy
   · exact absurd rfl (S.nocell _ (PySem.mem_of_lookup hy))
   · obtain ⟨i,hi,e⟩:=List.mem_iff_getElem.mp (S.frs _ (PySem.mem_of_lookup hy) rfl)
     have hi2:i<cs.length:=by omega
     exact ⟨cs[i],lp hcl ndY (List.getElem?_eq_some_iff.mpr ⟨hi,e⟩) (List.getElem?_eq_getElem hi2)⟩
 · exact absurd (show false=true from hf) Bool.false_ne_true
 · unfold dF at q2
   by_cases hi:i<vs.length
   · rw [List.getElem?_append_left (by simpa using hi),List.getElem?_map] at q2
     have ha:vs[i]?=some v:=by
       cases e:vs[i]? with
       | none=>rw [e] at q2;cases q2
       | some a=>rw [e] at q2;cases q2;rfl
     obtain ⟨u,hu,rv⟩:=r.get ha
     have hp:ps[i]?=some y:=by
       rw [← S.pre,List.getElem?_take_of_lt (by omega)];exact q1
     exact ⟨u,rv,.inl ⟨S.par y (List.mem_of_getElem? hp),lN ndP hp hu⟩⟩
   · rw [List.getElem?_append_right (by simpa using hi),List.length_map] at q2
     by_cases hj:i - vs.length<N.length - vs.length - cvs.length
     · rw [List.getElem?_append_left (by simpa using hj),List.getElem?_replicate] at q2
       split at q2 <;> cases q2
     · rw [List.getElem?_append_right (by simpa using hj),List.length_replicate,List.getElem?_map] at q2
       have ha:cvs[i - vs.length - (N.length - vs.length - cvs.length)]?=some v:=by
        cases e:cvs[i - vs.length - (N.length - vs.length - cvs.length)]? with
        | none=>rw [e] at q2;cases q2
        | some a=>rw [e] at q2;cases q2;rfl
       have hle:=S.le
       have hiN:i<N.length:=(List.getElem?_eq_some_iff.mp q1).1
       have hx:i - vs.length - (N.length - vs.length - cvs.length)=i - (N.length - ys.length):=by omega
       rw [hx] at ha
       have hy:ys[i - (N.length - ys.length)]?=some y:=by
        have e1:N.drop (N.length - ys.length)=ys:=S.suf
        have e2:(N.drop (N.length - ys.length))[i - (N.length - ys.length)]?=some y:=by
         rw [List.getElem?_drop]
         rw [show N.length - ys.length+(i - (N.length - ys.length))=i by omega];exact q1
        rw [e1] at e2;exact e2
       obtain ⟨c,ec,hc⟩:=ca.get ha
       obtain ⟨⟨u,o,ru,eo,hdo⟩,_,_⟩:=(show bc P w H s.heap c (ck c v) from e0.hok c _ hc)
       exact ⟨u,ru,.inr ⟨.inr (S.fr y (List.mem_of_getElem? hy)),c,lp hcl ndY hy ec,o,hk _ _ eo,hdo⟩⟩
 · unfold dF
   show _=N.length
   have:=S.le
   rw [List.length_append,List.length_append,List.length_map,List.length_map,List.length_replicate]
   omega
end
section
variable {P:Program} {w:World} {K:W.Frag} {mg:Str→Option Value} {base:Heap} {k:Nat} {t:cN} {N:List Str} {sp:Sp}
theorem uj {body : List Stmt} (hb : t.body = .stmts body) (S : eF N t.ps t.ys t.scope)
    (hbody : ∀ (f c : Addr) (cl : List (Str × Addr)) (A : Around) (outer : List Env) (s : Shared) (H : Hp) (vs cvs : List V) (Q : VK) (E : XK), bg k (A.deeper (W.envX t.qual t.scope s.heap.objs.size f (.ref c) cl)) → vs.length = t.ps.length → cvs.length = t.ys.length → sp (vs ++ cvs) H Q E →
      ∃ td, PSs (gu P w K mg base N t.qual t.scope f c cl A outer s H E) body td ∧ td { nx := fun _ H' => Q .non H', rt := Q } (dF N vs cvs) H) : fj P w K mg base (k + 1) t sp := by
  refine ⟨fun A outer s H f cs us vs cvs Q E hr e0 ca r hl hsp => ?_⟩
  obtain ⟨c, hf, hcc⟩ := ca.ex
  have KX : K.In s.heap := e0.mod.kin.keeps fun b o e => (e0.bs b o e).1
  have lim : s.heap.NoLimit := e0.mod.nolimit.keeps fun b o e => (e0.bs b o e).1
  obtain ⟨⟨od, fd, sl, ho, h1, h2, h3, h4, h5, h6, h7, h8, h9, h10⟩, _, _⟩ := (show bc P w H s.heap f (dc f t cs c) from e0.hok f _ hf)
  obtain ⟨⟨o, vs', tk, hco, hdo, hv⟩, _, _⟩ := (show bc P w H s.heap c (cD c t.qual) from e0.hok c _ hcc)
  have hcd : s.heap.CodeRec fd.code fd.qualname := ⟨c, o, vs', tk, h6, hco, hdo, by rw [h1]; exact hv⟩
  refine codeAny_mono (codeAny_call_function (R := CR (CX1 P w) outer P w (cC cs H) s (fun v H' => Q v (cm cs H H')) (fun c a H' => E c a (cm cs H H'))) hr.depth ho rfl (by rw [h3]; exact S.co) (by rw [h3]; exact S.gen) (h2.trans hb) hcd ?_) fun r s' h => CR.back ca.cells e0.frf e0.hok h
  rw [h8 us (by rw [← r.length]; exact hl), h3, h4, h5, h1, h6, h7]
  refine wpAny_pure (wpAny_newFunctionEnv S.nocell (fun y hy => S.par y.1 (List.of_mem_zip hy).1) (fun h' hns hsb => ⟨lim.fresh _ hsb, ?_⟩) S.kind)
  have hk : ∀ b o, s.heap.get? b = some o → h'.get? b = some o := fun b o e => hsb.extBut b o (Nat.ne_of_lt (Heap.lt_size e)) (Heap.get?_push_of_some _ e)
  have lcv : cvs.length = t.ys.length := by rw [← h10]; exact (Paired.length ca.cells).symm
  obtain ⟨td, ht, hq⟩ := hbody f c (t.ys.zip cs) A outer s (cC cs H) vs cvs _ _ (hr.deeper _) hl lcv hsp
  have I := qQ (tk := s.toks + (t.ps.zip us).length) (qual := t.qual) (f := f) (c := c) (E := fun c a H' => E c a (cm cs H H')) S hr.hd e0 ca.cells h9 h10 hl r hns hk
  show codeAny _ _ (.func body (W.envX t.qual t.scope s.heap.objs.size f (.ref c) (t.ys.zip cs))) _ _
  refine codeAny_func ?_
  refine wpAny_mono (ht [] _ (dF N vs cvs) _ _ I hq) (fun fl s' hs => ?_) fun e s' hs => hs
  cases fl with
  | ret u =>
    obtain ⟨v, σ', H', J, rv, q⟩ := hs
    exact ⟨v, H', J.os, J.bare, J.base, J.hok, rv, q⟩
  | next =>
    obtain ⟨σ', H', J, q⟩ := hs
    exact ⟨V.non, H', J.os, J.bare, J.base, J.hok, rfl, q⟩
  | brk =>
    obtain ⟨_, _, _, q⟩ := hs
    exact False.elim q
  | cont =>
    obtain ⟨_, _, _, q⟩ := hs
    exact False.elim q
theorem qq {body : Expr} (hb : t.body = .expr body) (S : eF N t.ps t.ys t.scope)
  (hbody : ∀ (f c : Addr) (cl : List (Str × Addr)) (A : Around) (outer : List Env) (s : Shared) (H : Hp) (vs cvs : List V) (Q : VK) (E : XK), bg k (A.deeper (W.envX t.qual t.scope s.heap.objs.size f (.ref c) cl)) → vs.length = t.ps.length → cvs.length = t.ys.length → sp (vs ++ cvs) H Q E →
   ∃ te, PE (gu P w K mg base N t.qual t.scope f c cl A outer s H E) body te ∧ te (dF N vs cvs) H Q) : fj P w K mg base (k + 1) t sp := by
 refine ⟨fun A outer s H f cs us vs cvs Q E hr e0 ca r hl hsp => ?_⟩
 obtain ⟨c, hf, hcc⟩ := ca.ex
 have KX : K.In s.heap := e0.mod.kin.keeps fun b o e => (e0.bs b o e).1
 have lim : s.heap.NoLimit := e0.mod.nolimit.keeps fun b o e => (e0.bs b o e).1
 obtain ⟨⟨od, fd, sl, ho, h1, h2, h3, h4, h5, h6, h7, h8, h9, h10⟩, _, _⟩ := (show bc P w H s.heap f (dc f t cs c) from e0.hok f _ hf)
 obtain ⟨⟨o, vs', tk, hco, hdo, hv⟩, _, _⟩ := (show bc P w H s.heap c (cD c t.qual) from e0.hok c _ hcc)
 have hcd : s.heap.CodeRec fd.code fd.qualname := ⟨c, o, vs', tk, h6, hco, hdo, by rw [h1]; exact hv⟩
 refine codeAny_mono (W.kla_callFunE (R := CR (CX1 P w) outer P w (cC cs H) s (fun v H' => Q v (cm cs H H')) (fun c a H' => E c a (cm cs H H'))) hr.depth ho rfl (by rw [h3]; exact S.co) (by rw [h3]; exact S.gen) (h2.trans hb) hcd ?_) fun r s' h => CR.back ca.cells e0.frf e0.hok h
 rw [h8 us (by rw [← r.length]; exact hl), h3, h4, h5, h1, h6, h7]
 refine wpAny_pure (wpAny_newFunctionEnv S.nocell (fun y hy => S.par y.1 (List.of_mem_zip hy).1) (fun h' hns hsb => ⟨lim.fresh _ hsb, ?_⟩) S.kind)
 have hk : ∀ b o, s.heap.get? b = some o → h'.get? b = some o := fun b o e => hsb.extBut b o (Nat.ne_of_lt (Heap.lt_size e)) (Heap.get?_push_of_some _ e)
 have lcv : cvs.length = t.ys.length := by rw [← h10]; exact (Paired.length ca.cells).symm
 obtain ⟨te, ht, hq⟩ := hbody f c (t.ys.zip cs) A outer s (cC cs H) vs cvs _ _ (hr.deeper _) hl lcv hsp
 have I := qQ (tk := s.toks + (t.ps.zip us).length) (qual := t.qual) (f := f) (c := c) (E := fun c a H' => E c a (cm cs H H')) S hr.hd e0 ca.cells h9 h10 hl r hns hk
 show codeAny _ _ (.expr body (W.envX t.qual t.scope s.heap.objs.size f (.ref c) (t.ys.zip cs))) _ _
 refine W.kla_codeExpr ?_
 refine wpAny_mono (ht [] _ (dF N vs cvs) _ _ I hq) (fun v s' hs => ?_) fun e s' hs => hs
 obtain ⟨x, H', J, rv, q⟩ := hs
 exact ⟨x, H', J.os, J.bare, J.base, J.hok, rv, q⟩
end
end L2
namespace L2
open PySem PySem.Spec PyProof.Rows
def BM (mg:Str→Option Value) (h:Heap):Prop:=∃ bm ob,mg "__builtins__" =some (.ref bm)∧bm≠builtinsNs∧h.get? bm=some ob∧ob.cls=.type "module" ∧ob.dict=some builtinsNs∧ob.data=.plain
section
variable {X:Cx} {pins:List (Addr×Obj)} {σ:St} {H:Hp} {s:Shared} {P c:Addr} {ps:Array Value} {t:cN} {cs:List Addr} {h':Heap} {tk:Nat} {fd:FuncData}
theorem pC {more:Array Value} (I:Inv X pins σ H s) (hP:H P=some (.tbl ps)) (hx:Heap.ExtBut P s.heap h') (hge:s.heap.objs.size≤c) (hlt:c<h'.objs.size) (hrec:h'.CodeRec (.ref c) t.qual)
   (htb:h'.get? P=some (W.tabObj (ps++more))) (hfd:kA t cs c fd):
   Inv X pins σ (upd (upd (upd H P (.tbl (ps++more))) c (cD c t.qual)) h'.objs.size (dc h'.objs.size t cs c)) { s with heap:=h'.push { cls:=.type "function",data:=.func fd },toks:=tk }:=by
 have hcn:H c=none:=I.hok.fresh hge
 have hfn:H h'.objs.size=none:=I.hok.fresh (Nat.le_of_lt (Nat.lt_of_le_of_lt hge hlt))
 have ncP:c≠P:=(aD hP hcn).symm
 have nfP:h'.objs.size≠P:=(aD hP hfn).symm
 have ncf:c≠h'.objs.size:=Nat.ne_of_lt hlt
 have old:∀ b o,s.heap.get? b=some o→b≠c∧b≠h'.objs.size:=fun b o e=>⟨Nat.ne_of_lt (Nat.lt_of_lt_of_le (Heap.lt_size e) hge),Nat.ne_of_lt (Nat.lt_of_lt_of_le (Heap.lt_size e) (Nat.le_of_lt (Nat.lt_of_le_of_lt hge hlt)))⟩
 have keepP:∀ b o,b≠P→s.heap.get? b=some o→(h'.push { cls:=.type "function",data:=.func fd }).get? b=some o:=fun b o hb e=>Heap.get?_push_of_some _ (hx b o hb e)
 have neP:∀ b,H b=none→b≠P:=fun b e z=>by rw [z,hP] at e;cases e
 have obj:∀ b o,H b=some o→∃ u,s.heap.get? b=some u:=fun b o e=>iu (I.hok b o e)
 have same:∀ b o,H b=some o→b≠P→(upd (upd (upd H P (.tbl (ps++more))) c (cD c t.qual)) h'.objs.size (dc h'.objs.size t cs c)) b=some o:=fun b o e hb=>by
   rw [au (aD e hfn),au (aD e hcn),au hb];exact e
 refine I.un ⟨fun b o e n hb hx'=>keepP b o (neP b n) e,fun b o e n hb hx'=>⟨o.slots,keepP b o (neP b n) e⟩,fun b o e n hx'=>?_,fun b o e hx'=>?_,fun b xs e=>same b _ e (dD e hP (fun z=>nomatch z)),fun b o u e=>same b _ e (dD e hP (fun z=>nomatch z)),fun b qs e=>?_⟩ fun b o e=>?_
 · rw [au (old b o e).2,au (old b o e).1,au (neP b n)];exact n
 · by_cases hb:b=P
   · subst hb;exact ⟨_,Heap.get?_push_of_some _ htb⟩
   · exact ⟨o,keepP b o hb e⟩
 · by_cases hb:b=P
   · subst hb
     rw [hP] at e;cases e
     exact ⟨more,by rw [au nfP.symm,au ncP.symm,ap]⟩
   · exact ⟨#[],by rw [same b _ e hb];simp⟩
 · by_cases hf:b=h'.objs.size
   · subst hf
     rw [ap] at e;cases e
     refine ⟨⟨_,fd,_,Heap.get?_push_size _ rfl,hfd⟩,⟨_,Heap.get?_push_size _ rfl⟩,?_⟩
     rintro h1 h2 ⟨od,fd',sl,e1,e2⟩ k
     exact ⟨od,fd',sl,k _ e1,e2⟩
   · rw [au hf] at e
     by_cases hc:b=c
     · subst hc
       rw [ap] at e;cases e
       obtain ⟨c2,oc,vs,tq,e0,e1,e2,e3⟩:=hrec
       cases e0
       refine ⟨⟨oc,vs,tq,Heap.get?_push_of_some _ e1,e2,e3⟩,⟨_,Heap.get?_push_of_some _ e1⟩,?_⟩
       rintro h1 h2 ⟨o,vs,tk,a1,a2,a3⟩ k
       exact ⟨o,vs,tk,k _ a1,a2,a3⟩
     · rw [au hc] at e
       by_cases hp:b=P
       · subst hp
         rw [ap] at e;cases e
         exact Heap.get?_push_of_some _ htb
       · rw [au hp] at e
         refine (I.hok b o e).stay (fun a u ha q=>keepP a u ?_ q) (fun a q=>same a _ q (dD q hP (fun z=>nomatch z))) fun a xs q=>same a _ q (dD q hP (fun z=>nomatch z))
         rcases ha with rfl | ha
         · exact hp
         · exact dD ha hP (fun z=>nomatch z)
theorem oQ (I:Inv X pins σ H s) (hk:∀ b o,s.heap.get? b=some o→h'.get? b=some o) (hsz:s.heap.objs.size≤h'.objs.size) (hfd:kA t cs c fd):
  Inv X pins σ (upd H h'.objs.size (dc h'.objs.size t cs c)) { s with heap:=h'.push { cls:=.type "function",data:=.func fd },toks:=tk }:=by
 refine I.laid (a:=h'.objs.size) (o:=dc h'.objs.size t cs c) (fun b u e=>Heap.get?_push_of_some _ (hk b u e)) hsz ⟨⟨_,fd,_,Heap.get?_push_size _ rfl,hfd⟩,⟨_,Heap.get?_push_size _ rfl⟩,?_⟩
 rintro h1 h2 ⟨od,fd',sl,e1,e2⟩ k
 exact ⟨od,fd',sl,k _ e1,e2⟩
end
def lR (P : Addr) (pos : Pos) (t : cN) (cs : List Addr) : TE := fun _ H Q => ∃ ps, H P = some (.tbl ps) ∧ TriplesOk ps.toList ∧
  ((codeAmong pos ps.toList = none ∧ ∀ c f, H c = none → H f = none → c ≠ f → Q (.ref f) (upd (upd (upd H P (.tbl (ps ++ #[rawInt pos.line, rawInt pos.col, .ref c]))) c (cD c t.qual)) f (dc f t cs c))) ∨
   ∃ c, codeAmong pos ps.toList = some (.ref c) ∧ ∀ f, H f = none → Q (.ref f) (upd H f (dc f t cs c)))
section
variable {X:Cx} {c0 P:Addr} {params:Arguments} {scope:Scope} {pos:Pos} {t:cN} {cs:List Addr}
theorem qw {pins:List (Addr×Obj)} {σ:St} {H:Hp} {s:Shared} {ps:Array Value} (I:Inv X pins σ H s) (hP:H P=some (.tbl ps)) (B:BM X.mg X.base):
   s.heap.get? P=some (W.tabObj ps)∧s.heap.Ns mainGlobals X.mg∧mainGlobals≠P∧s.heap.BuiltinsAt X.mg P:=by
 have hPo:s.heap.get? P=some (W.tabObj ps):=I.hok P _ hP
 have hg:s.heap.Ns mainGlobals X.mg:=I.mod.glob.keeps I.bk
 have hgP:mainGlobals≠P:=fun q=>by
   obtain ⟨o,es,ep,e,hd,_⟩:=hg
   rw [q,hPo] at e;cases e;cases hd
 obtain ⟨bm,ob,b1,b2,b3,b4,b5,b6⟩:=B
 have b3':=I.bk _ _ b3
 refine ⟨hPo,hg,hgP,bm,ob,b1,b2,fun q=>?_,fun q=>?_,b3',b4,b5,b6⟩
 · obtain ⟨o,es,ep,e,hd,_⟩:=hg
   rw [q,e] at b3';cases b3';rw [hd] at b6;cases b6
 · rw [q,hPo] at b3';cases b3';cases b4
theorem yg {body:Expr} (B:BM X.mg X.base) (C:W.CodeHd X.base c0 P) (hcode:X.env.code=.ref c0) (hcl:closureFor scope X.env=pure (t.ys.zip cs)) (nd:cs.Nodup) (hl:cs.length=t.ys.length)
   (hq:X.env.qual++ "<lambda>" =t.qual) (hb:t.body=.expr body) (hs:t.scope=scope)
   (hbind:∀ (cl:List (Str×Addr)) (pm cdv ct:Value) (us:List Value),us.length=t.ps.length→bindArgs (W.kla_fn "<lambda>" t.qual params body scope cl pm cdv ct) ⟨us,[]⟩=pure (t.ps.zip us))
   (hdef:defaultsOf params X.env=([],[]):=by rfl):QE X (.Lambda params body scope pos) (lR P pos t cs):=⟨fun pins s σ H Q I h=>by
 obtain ⟨ps,hP,ht,h⟩:=h
 obtain ⟨hPo,hg,hgP,hB⟩:=qw I hP B
 have hfd:∀ (pm ct:Value) (c:Addr),kA t cs c (W.kla_fn "<lambda>" t.qual params body scope (t.ys.zip cs) pm (.ref c) ct):=fun pm ct c=>⟨rfl,hb.symm,hs.symm,rfl,rfl,rfl,rfl,hbind _ _ _ _,nd,hl⟩
 refine W.kla_eval hdef ?_
 rw [hq]
 rcases h with ⟨hn,q⟩ | ⟨c,hf,q⟩
 · refine W.kla_makeFunction hcl I.ok.glob hg hcode (C.keeps I.bk) hPo ht hn hgP hB fun c ctv h' tk hx hge hlt hrec htb=>?_
   exact ⟨.ref h'.objs.size,_,pC I hP hx hge hlt hrec htb (hfd _ _ _),rfl,q c h'.objs.size (I.hok.fresh hge) (I.hok.fresh (Nat.le_of_lt (Nat.lt_of_le_of_lt hge hlt))) (Nat.ne_of_lt hlt)⟩
 · refine W.kla_makeFunctionHit hcl I.ok.glob hg hcode (C.keeps I.bk) hPo ht hf hB fun ctv h' tk hk hsz=>?_
   exact ⟨.ref h'.objs.size,_,oQ I hk hsz (hfd _ _ _),rfl,q h'.objs.size (I.hok.fresh hsz)⟩⟩
theorem yF (i:Nat) {name:Str} {body:List Stmt} (hN:X.N.Nodup) (B:BM X.mg X.base) (C:W.CodeHd X.base c0 P) (hcode:X.env.code=.ref c0) (hcl:closureFor scope X.env=pure (t.ys.zip cs)) (nd:cs.Nodup) (hl:cs.length=t.ys.length)
   (hq:qualnameIn X.env name name=t.qual) (hb:t.body=.stmts body) (hs:t.scope=scope)
   (hbind:∀ (cl:List (Str×Addr)) (doc pm cdv ct:Value) (us:List Value),us.length=t.ps.length→bindArgs (W.fnX name t.qual params body scope cl .none .none doc pm none cdv ct) ⟨us,[]⟩=pure (t.ps.zip us))
   (hi:X.N[i]?=some name:=by rfl) (hx:Loc X.env.scope name:=by first | exact .inl rfl | exact .inr rfl) (hf:X.fn name=true∨X.env.scope.names.lookup name=some .local:=by first | exact .inl rfl | exact .inr rfl)
   (hd0:params.defaults=[]:=by rfl) (hk0:params.kw_defaults=[]:=by rfl) (ha:annTrees params none X.env=[]:=by rfl):
   QS X (.FunctionDef name params body [] none [] scope none name pos) (aC (lR P pos t cs) (av i)):=⟨fun pins s σ H D I h=>by
 obtain ⟨ps,hP,ht,h⟩:=h
 obtain ⟨hPo,hg,hgP,hB⟩:=qw I hP B
 have hfd:∀ (doc pm ct:Value) (c:Addr),kA t cs c (W.fnX name t.qual params body scope (t.ys.zip cs) .none .none doc pm none (.ref c) ct):=fun doc pm ct c=>⟨rfl,hb.symm,hs.symm,rfl,rfl,rfl,rfl,hbind _ _ _ _ _,nd,hl⟩
 refine W.nestDef_K hd0 hk0 ha ?_
 rw [hq]
 rcases h with ⟨hn,q⟩ | ⟨c,hff,q⟩
 · refine W.makeFunction_K hcl I.ok.glob hg hcode (C.keeps I.bk) hPo ht hn hgP hB fun c ctv doc h' tk hx' hge hlt hrec htb=>?_
   have I2:=pC (tk:=tk) (cs:=cs) I hP hx' hge hlt hrec htb (hfd doc ((X.mg "__name__").getD .none) ctv c)
   exact eU I2 hN hi hx (v:=.ref h'.objs.size) rfl (fun s' I3=>⟨_,_,I3,q c h'.objs.size (I.hok.fresh hge) (I.hok.fresh (Nat.le_of_lt (Nat.lt_of_le_of_lt hge hlt))) (Nat.ne_of_lt hlt)⟩) hf
 · refine W.makeFunction_hit hcl I.ok.glob hg hcode (C.keeps I.bk) hPo ht hff hB fun ctv doc h' tk hk hsz=>?_
   have I2:=oQ (tk:=tk) (cs:=cs) I hk hsz (hfd doc ((X.mg "__name__").getD .none) ctv c)
   exact eU I2 hN hi hx (v:=.ref h'.objs.size) rfl (fun s' I3=>⟨_,_,I3,q h'.objs.size (I.hok.fresh hsz)⟩) hf⟩
end
section
variable {X:Cx} {k:Nat} {E:St→XK} {x:Str} {p pos:Pos} {e:Expr} {es:List Expr} {ta:TE}
abbrev li:=List (cN×Sp)
def yo (ks:li) (f:Addr) (vs:List V) (H:Hp) (Q:VK) (E:XK):Prop:=∃ ts∈ks,∃ cs cvs,dB H f ts.1 cs cvs∧vs.length=ts.1.ps.length∧ts.2 (vs++cvs) (cC cs H) (fun v H'=>Q v (cm cs H H')) (fun c a H'=>E c a (cm cs H H'))
def gw (ks:li) (E:St→XK) (ta:TE) (t:TA):TE:=fun σ H Q=>ta σ H fun x H1=>∃ f,x=.ref f∧(∃ ts∈ks,∃ cs cvs,dB H1 f ts.1 cs cvs)∧t σ H1 fun vs H2=>yo ks f vs H2 Q (E σ)
theorem vg {P:Program} {w:World} {H:Hp} {h:Heap} {f:Addr} {t:cN} {cs:List Addr} {cvs:List V} (ok:HOk P w H h) (c:dB H f t cs cvs):W.FnAt f h:=by
 obtain ⟨c',hf,_⟩:=c.ex
 obtain ⟨⟨od,fd,sl,ho,_⟩,_,_⟩:=(show bc P w H h f (dc f t cs c') from ok f _ hf)
 exact ⟨_,_,_,_,ho⟩
def qj (P:Program) (w:World) (K:W.Frag) (mg:Str→Option Value) (base:Heap) (k:Nat) (ks:li):Prop:=∀ ts∈ks,fj P w K mg base k ts.1 ts.2
theorem gT {ks : li} {t : TA} (hk : qj X.prog X.w X.K X.mg X.base k ks) (hr : bg k X.A) (hx : dQ (CX1 X.prog X.w) X E) (hg : QE X (.Name x p) ta) (ha : QA X (e :: es) t) (hs : bh (e :: es) = true := by rfl) :
    QE X (.Call (.Name x p) (e :: es) [] pos) (gw ks E ta t) := ⟨fun pins s σ H Q I h => by
  have h' : (bL e && bh es) = true := hs
  refine wpAny_Call_Name_kw (thn (hg.out pins s σ H _ I h) fun u s1 ⟨y, H1, I1, ry, f, ey, ⟨ts, hts, cs, cvs, ca⟩, q⟩ => ?_)
  subst ey
  obtain rfl : u = Value.ref f := ry
  refine W.callWith_F (vg I1.hok ca) (thn (ha.out pos pins s1 σ H1 _ I1 q) fun us s2 ⟨vs, H2, I2, rv, ts2, hm2, cs2, cvs2, ca2, hl, hsp⟩ => ⟨vg I2.hok ca2, ?_⟩)
    (ba (Bool.and_eq_true_iff.mp h').1 es X.env) (bT (Bool.and_eq_true_iff.mp h').2)
  refine wpAny_call (codeAny_mono ((hk ts2 hm2).run X.A X.stack s2 H2 f cs2 us vs cvs2 Q (E σ) hr I2.env0 ca2 rv hl hsp) fun r s' hq => ?_)
  cases r with
  | error e => exact hx pins σ H2 s2 e s' I2 hq
  | ok fl =>
    cases fl with
    | ret u => exact I2.after hq
    | next => exact False.elim hq
    | brk => exact False.elim hq
    | cont => exact False.elim hq⟩
end
end L2
namespace L2
open PySem PySem.Spec PyProof.Rows
structure kr where
 nx:St→Hp→Prop
 rt:St→VK
abbrev TSM:=kr→St→Hp→Prop
def SPM (X:Cx) (pins:List (Addr×Obj)) (D:kr) (f:Flow) (s':Shared):Prop:=
 match f with
 | .next=>∃ σ' H',Inv X pins σ' H' s'∧D.nx σ' H'
 | .ret u=>∃ v σ' H',Inv X pins σ' H' s'∧aW v u∧D.rt σ' v H'
 | _=>False
structure QM (X:Cx) (st:Stmt) (t:TSM):Prop where
 out:∀ (pins:List (Addr×Obj)) (s:Shared) (σ:St) (H:Hp) (D:kr),Inv X pins σ H s→t D σ H→wpAny (model X.prog X.w) X.A (exec st X.env) (SPM X pins D) X.xe s
structure QMs (X:Cx) (st:List Stmt) (t:TSM):Prop where
 out:∀ (pins:List (Addr×Obj)) (s:Shared) (σ:St) (H:Hp) (D:kr),Inv X pins σ H s→t D σ H→wpAny (model X.prog X.w) X.A (execs st X.env) (SPM X pins D) X.xe s
def oy (t u:TSM):TSM:=fun D σ H=>t { D with nx:=fun σ' H'=>u D σ' H' } σ H
def kR (t:TS):TSM:=fun D σ H=>t { nx:=D.nx,rt:=fun _ _=>False } σ H
def pA (te:TE):TSM:=fun D σ H=>te σ H (D.rt σ)
section
variable {X:Cx} {st:Stmt} {sts l m:List Stmt} {t u:TSM} {tS:TS} {e c:Expr} {te:TE} {tc:TT} {pos:Pos}
theorem kW (h:QS X st tS):QM X st (kR tS):=⟨fun pins s σ H D I hq=>thn (h.out pins s σ H _ I hq) fun f s1 q=>by
 cases f with
 | next=>exact q
 | ret v=>obtain ⟨_,_,_,_,_,z⟩:=q;exact z.elim
 | brk=>obtain ⟨_,_,_,z⟩:=q;exact z.elim
 | cont=>obtain ⟨_,_,_,z⟩:=q;exact z.elim⟩
theorem nJ (h:QE X e te):QM X (.Return (some e) pos) (pA te):=⟨fun pins s σ H D I hq=>
 wpAny_Return_some (thn (h.out pins s σ H _ I hq) fun v s1 ⟨x,H1,I1,r1,q1⟩=>⟨x,σ,H1,I1,r1,q1⟩)⟩
theorem lg (h1 : QM X st t) (h2 : QMs X sts u) : QMs X (st :: sts) (oy t u) := ⟨fun pins s σ H D I h => by
  refine wpAny_execs_cons (thn (h1.out pins s σ H _ I h) fun f s1 q => ?_)
  cases f with
  | next =>
    obtain ⟨σ', H', I', q⟩ := q
    exact h2.out pins s1 σ' H' D I' q
  | ret v => exact q
  | brk => exact q
  | cont => exact q⟩
theorem nH (h1:QM X st t):QMs X [st] t:=⟨fun pins s σ H D I h=>by
 refine wpAny_execs_cons (thn (h1.out pins s σ H D I h) fun f s1 q=>?_)
 cases f with
 | next=>exact wpAny_execs_nil q
 | ret v=>exact q
 | brk=>exact q
 | cont=>exact q⟩
end
def cz : List (Nat × Addr) → St → Hp → Hp
  | [], _, H => H
  | (i, c) :: r, σ, H => match σ[i]? with
    | some (some v) => cz r σ (upd H c (ck c v))
    | _ => cz r σ H
theorem jQ {P : Program} {w : World} {fs : List Addr} {H : Hp} {h h' : Heap} {σ : St} : ∀ (cs : List (Nat × Addr)) (H' : Hp), (cs.map (·.2)).Nodup → (∀ p ∈ cs, H' p.2 = none ∧ h.objs.size ≤ p.2 ∧ ∀ v, σ[p.1]? = some (some v) → ∃ u o, aW v u ∧ h'.get? p.2 = some o ∧ o.data = .cell (some u)) →
    Un fs [] H H' h h' → HOk P w H' h' → Un fs [] H (cz cs σ H') h h' ∧ HOk P w (cz cs σ H') h'
  | [], H', _, _, u, ok => ⟨u, ok⟩
  | (i, c) :: r, H', nd, hc, u, ok => by
    unfold cz
    have ndr := (List.nodup_cons.mp nd).2
    have hcr : ∀ p ∈ r, H' p.2 = none ∧ h.objs.size ≤ p.2 ∧ ∀ v, σ[p.1]? = some (some v) → ∃ u o, aW v u ∧ h'.get? p.2 = some o ∧ o.data = .cell (some u) := fun p hp => hc p (List.mem_cons_of_mem _ hp)
    split
    · rename_i v hv
      obtain ⟨hn, hge, hcell⟩ := hc (i, c) List.mem_cons_self
      have hn : H' c = none := hn
      have hge : h.objs.size ≤ c := hge
      obtain ⟨uv, o, ru, eo, hd⟩ := hcell v hv
      have eo : h'.get? c = some o := eo
      refine jQ r (upd H' c (ck c v)) ndr (fun p hp => ⟨?_, (hcr p hp).2⟩) ⟨u.keep, u.slot, fun b ob e n hx => ?_, u.there, fun b xs e => ?_, fun b ob z e => ?_, fun b ps e => ?_⟩ fun b ob e => ?_
      · have : p.2 ≠ c := fun z => (List.nodup_cons.mp nd).1 (by rw [← z]; exact List.mem_map.mpr ⟨p, hp, rfl⟩)
        rw [au this]; exact (hcr p hp).1
      · rw [au (Nat.ne_of_lt (Nat.lt_of_lt_of_le (Heap.lt_size e) hge))]; exact u.free b ob e n hx
      · have z := u.tups b xs e; rw [au (aD z hn)]; exact z
      · have z := u.frzs b ob _ e; rw [au (aD z hn)]; exact z
      · obtain ⟨more, z⟩ := u.tbls b ps e; exact ⟨more, by rw [au (aD z hn)]; exact z⟩
      · by_cases hb : b = c
        · subst hb
          rw [ap] at e; cases e
          refine ⟨⟨uv, o, ru, eo, hd⟩, ⟨o, eo⟩, ?_⟩
          rintro h1 h2 ⟨u', o', r', e', d'⟩ k
          exact ⟨u', o', r', k _ e', d'⟩
        · rw [au hb] at e
          exact (ok b ob e).stay (fun a q _ z => z) (fun a q => by rw [au (aD q hn)]; exact q) fun a xs q => by rw [au (aD q hn)]; exact q
    · exact jQ r H' ndr hcr u ok
theorem Fun.okM {P : Program} {w : World} {K : W.Frag} {mg : Str → Option Value} {base : Heap} {x qual : Str} {st : Stmt} {f c0 : Addr} {fd : FuncData} {N ps : List Str} {k : Nat} {sp : Sp} {caps : Nat → List (Nat × Addr)} (F : Fun K x qual st f fd) (hcd : fd.code = .ref c0) (S : aA N ps (al st)) (len : ∀ vs H Q E, sp vs H Q E → vs.length = ps.length)
    (hcaps : ∀ (L : Nat) (p : Nat × Addr), p ∈ caps L → ∃ y, N[p.1]? = some y ∧ (al st).names.lookup y = some .cell ∧ (cellsFrom (L + 1) (al st).names []).lookup y = some p.2) (hnd : ∀ L, ((caps L).map (·.2)).Nodup)
    (hbody : ∀ (A : Around) (outer : List Env) (s : Shared) (H : Hp) (vs : List V) (Q : VK) (E : XK), bg k (A.deeper (envOfC qual (al st) s.heap.objs.size f (.ref c0))) → sp vs H Q E →
      ∃ t, QMs (cF (CX1 P w) P w K mg base N qual (al st) f (.ref c0) A outer s H E) (aO st) t ∧ t { nx := fun σ H' => (∀ p ∈ caps s.heap.objs.size, H' p.2 = none) → Q .non (cz (caps s.heap.objs.size) σ H'), rt := fun σ v H' => (∀ p ∈ caps s.heap.objs.size, H' p.2 = none) → Q v (cz (caps s.heap.objs.size) σ H') } (bU N vs) H) : aP P w K mg base (CX1 P w) (k + 1) f fd ps sp := by
  obtain ⟨oc, od, kV, doc, pm, an, cdv, ct, osl, rfl, lk, hcd'⟩ := F.ex
  obtain rfl : cdv = .ref c0 := hcd
  refine ⟨len, fun A outer s H args us vs Q E hr e0 hb r hsp => ?_⟩
  have hl := len _ _ _ _ hsp
  have KX : K.In s.heap := e0.mod.kin.keeps fun b o e => (e0.bs b o e).1
  have lim : s.heap.NoLimit := e0.mod.nolimit.keeps fun b o e => (e0.bs b o e).1
  have hkind : ∀ y ∈ ps.zip us, (al st).names.lookup y.1 = some .local ∨ ((al st).names.lookup y.1 = some .cell ∧ ((cellsFrom (s.heap.objs.size + 1) (al st).names []).lookup y.1).isSome = true) := fun ⟨n, v⟩ hy => by
    rcases S.par n (List.of_mem_zip hy).1 with q | q
    · exact .inl q
    · exact .inr ⟨q, W.cellsFrom_some _ _ _ (.inl q)⟩
  refine codeAny_call_function hr.depth (KX _ _ lk) rfl S.co S.gen rfl (W.codeRec_of KX hcd') (hb _ _ _ _ ?_)
  refine wpAny_newFunctionEnv_cells S.kind hkind fun env he s1 x => ?_
  subst he
  refine ⟨lim.keeps x.toInCall.keep, codeAny_func ?_⟩
  obtain ⟨t, ht, hq⟩ := hbody A outer s H vs Q E (hr.deeper _) hsp
  have I : Inv (cF (CX1 P w) P w K mg base N qual (al st) f (.ref c0) A outer s H E) [] (bU N vs) H s1 := mi S hr.hd e0 hl r x
  refine wpAny_mono (ht.out [] s1 (bU N vs) H _ I hq) (fun fl s' hs => ?_) fun e s' hs => hs
  have fin : ∀ {σ' : St} {H' : Hp} {v : V} {u : Value}, Inv (cF (CX1 P w) P w K mg base N qual (al st) f (.ref c0) A outer s H E) [] σ' H' s' → aW v u → ((∀ p ∈ caps s.heap.objs.size, H' p.2 = none) → Q v (cz (caps s.heap.objs.size) σ' H')) → CE outer P w H s Q u s' :=
    fun {σ' H' v u} J rv q => by
      have free : ∀ p ∈ caps s.heap.objs.size, H' p.2 = none := fun p hp => by
        obtain ⟨y, _, _, hc⟩ := hcaps _ p hp
        exact J.freeC y p.2 hc
      have hcond : ∀ p ∈ caps s.heap.objs.size, H' p.2 = none ∧ s.heap.objs.size ≤ p.2 ∧ ∀ v, σ'[p.1]? = some (some v) → ∃ u o, aW v u ∧ s'.heap.get? p.2 = some o ∧ o.data = .cell (some u) := fun p hp => by
        obtain ⟨y, hy, hk, hc⟩ := hcaps _ p hp
        refine ⟨free p hp, J.ok.cab y p.2 rfl hc, fun v hv => ?_⟩
        obtain ⟨m, _, hloc⟩ := J.loc
        obtain ⟨u', r', lk'⟩ := hloc p.1 y v hy hv (.inr (.inl hk))
        rcases lk' with ⟨z, _⟩ | ⟨_, c, ec, o, eo, hd⟩
        · have z : (al st).names.lookup y = some .local := z
          rw [hk] at z; cases z
        · have ec : (cellsFrom (s.heap.objs.size + 1) (al st).names []).lookup y = some c := ec
          rw [hc] at ec; cases ec
          exact ⟨u', o, r', eo, hd⟩
      obtain ⟨un, ok⟩ := jQ (P := P) (w := w) (σ := σ') (caps s.heap.objs.size) H' (hnd _) hcond J.base J.hok
      exact ⟨v, _, J.os, J.bare, un, ok, rv, q free⟩
  cases fl with
  | ret u =>
    obtain ⟨v, σ', H', J, rv, q⟩ := hs
    exact fin J rv q
  | next =>
    obtain ⟨σ', H', J, q⟩ := hs
    exact fin (v := V.non) (u := Value.none) J rfl q
  | brk => exact False.elim hs
  | cont => exact False.elim hs
end L2
namespace L2
open PySem PySem.Spec PyProof.Rows
theorem ur {P : Program} {w : World} {K : W.Frag} {mg mb : Str → Option Value} {CX : CXT} {k : Nat} {fa a : Addr} {fd : FuncData} {x : Str} {sp : Sp} {s₁ : Shared} {vs : List Value} {ns : List Int} {tabs : List (Addr × Addr)}
    (KX : K.In s₁.heap) (hns : s₁.heap.Ns mainGlobals mg) (hb : s₁.heap.Ns builtinsNs mb) (hbb : ∀ x : Str, x ≠ "__name__" → mb x = bootBuiltins x) (hlim : s₁.heap.NoLimit) (hg : s₁.gens = #[]) (hB : BM mg s₁.heap)
    (hT : ∀ q ∈ tabs, W.CodeHd s₁.heap q.1 q.2 ∧ s₁.heap.get? q.2 = some (W.tabObj #[])) (hKT : W.noTabs K = true)
    (ha : s₁.heap.get? a = some { cls := .type "list", data := .seq vs.toArray }) (hi : IntsAre vs ns) (hl : ns.length ≤ sizeLine) (hr : bg k callerA)
    (F : ∀ base : Heap, K.In base → base.Ns mainGlobals mg → BM mg base → (∀ q ∈ tabs, W.CodeHd base q.1 q.2) → aP P w K mg base CX k fa fd [x] sp) (hbind : ∀ (s : Shared) (u : Value), BindsTo s fd ⟨[u], []⟩ [(x, u)])
    (hsp : ∀ H : Hp, (∀ q ∈ tabs, H q.2 = some (.tbl #[])) → SqL K H a (ns.map V.int) → sp [.ref a] H (fun v _ => v = .bl true) fun _ _ _ => False)
    (hCX : ∀ H e s', CX [] H s₁ (fun _ _ _ => False) e s' → False) :
    codeAny (model P w) callerA (.call (.ref fa) ⟨[.ref a], []⟩) (fun r s' => r = .ok (.ret (.bool true)) ∧ OldK s₁.heap s'.heap ∧ s'.os = s₁.os ∧ AllBare s'.gens) s₁ := by
  have rv := lU hi
  have lenV := hi.length
  have tabK : ∀ q ∈ tabs, K.lookup q.2 = none := fun q hq => by
    cases e : K.lookup q.2 with
    | none => rfl
    | some o =>
      have e2 := KX _ _ e
      rw [(hT q hq).2] at e2; cases e2
      have := List.all_eq_true.mp hKT _ (W.mem_of_lookupK e)
      exact absurd (show false = true from this) Bool.false_ne_true
  have tabA : ∀ q ∈ tabs, q.2 ≠ a := fun q hq e => by
    have e2 := (hT q hq).2
    rw [e, ha] at e2; cases e2
  have core : ∀ H : Hp, (∀ q ∈ tabs, H q.2 = some (.tbl #[])) → SqL K H a (ns.map V.int) → HOk P w H s₁.heap → (∀ b, H b ≠ none → (b = a ∧ ∃ o xs, H b = some (.frz o (.lst xs))) ∨ ∃ q ∈ tabs, q.2 = b) → (∀ b, H b ≠ none → K.lookup b = none) →
      codeAny (model P w) callerA (.call (.ref fa) ⟨[.ref a], []⟩) (fun r s' => r = .ok (.ret (.bool true)) ∧ OldK s₁.heap s'.heap ∧ s'.os = s₁.os ∧ AllBare s'.gens) s₁ := by
    intro H hO hS hok hA hK
    have base_of : ∀ {b : Addr} {o : Obj}, s₁.heap.get? b = some o → H b = none → (gk s₁.heap H).get? b = some o := fun e n => wA e n
    have noA : ∀ {b : Addr} {o : Obj}, s₁.heap.get? b = some o → o.cls ≠ .none → o.cls ≠ .type "list" → H b = none := fun {b o} e c1 c2 => by
      cases q : H b with
      | none => rfl
      | some u =>
        rcases hA b (by rw [q]; simp) with ⟨rfl, _⟩ | ⟨p, hp, rfl⟩
        · rw [ha] at e; cases e; exact absurd rfl c2
        · rw [(hT p hp).2] at e; cases e; exact absurd rfl c1
    have noD : ∀ {b : Addr} {o : Obj} {es : Array DictEntry} {ep : Nat}, s₁.heap.get? b = some o → o.data = .dict es ep → H b = none := fun {b o es ep} e d => by
      cases q : H b with
      | none => rfl
      | some u =>
        rcases hA b (by rw [q]; simp) with ⟨rfl, _⟩ | ⟨p, hp, rfl⟩
        · rw [ha] at e; cases e; cases d
        · rw [(hT p hp).2] at e; cases e; cases d
    have nsK : ∀ {b : Addr} {m : Str → Option Value}, s₁.heap.Ns b m → (gk s₁.heap H).Ns b m := fun {b m} ⟨o, es, ep, e, d, r⟩ => ⟨o, es, ep, base_of e (noD e d), d, r⟩
    have hKb : K.In (gk s₁.heap H) := fun b o e => base_of (KX b o e) (by
      cases q : H b with
      | none => rfl
      | some u => rw [hK b (by rw [q]; simp)] at e; cases e)
    have hBb : BM mg (gk s₁.heap H) := by
      obtain ⟨bm, ob, b1, b2, b3, b4, b5, b6⟩ := hB
      exact ⟨bm, ob, b1, b2, base_of b3 (noA b3 (by rw [b4]; intro z; cases z) (by rw [b4]; intro z; exact absurd (Value.type.inj z) (by decide))), b4, b5, b6⟩
    have hCb : ∀ q ∈ tabs, W.CodeHd (gk s₁.heap H) q.1 q.2 := fun q hq => by
      obtain ⟨o, vs, file, tf, flags, tg, inF, text, tt, e1, e2, r⟩ := (hT q hq).1
      exact ⟨o, vs, file, tf, flags, tg, inF, text, tt, base_of e1 (noA e1 (by rw [e2]; intro z; cases z) (by rw [e2]; intro z; exact absurd (Value.type.inj z) (by decide))), e2, r⟩
    have hM : Mod K mg (gk s₁.heap H) := ⟨hKb, nsK hns, ⟨mb, nsK hb, hbb⟩, let ⟨mc, h1, h2⟩ := hlim; ⟨mc, nsK h1, h2⟩⟩
    have e0 : ii P w K mg (gk s₁.heap H) callerA [] s₁ H := ⟨rfl, hM, fun b o e => zq e, Nat.le_of_eq (tP _ _), trivial, fun b hb => absurd (show b ∈ ([] : List Addr) from hb) (by simp), hok, .of_eq hg⟩
    refine codeAny_mono ((F _ hKb (nsK hns) hBb hCb).run callerA [] s₁ H ⟨[.ref a], []⟩ [.ref a] [.ref a] _ _ hr e0 (hbind s₁ (.ref a)) (.cons rfl .nil) (hsp H hO hS)) fun r s' h => ?_
    cases r with
    | error e => exact (hCX H e s' h).elim
    | ok fl =>
      cases fl with
      | next => exact False.elim h
      | brk => exact False.elim h
      | cont => exact False.elim h
      | ret u =>
        obtain ⟨v, H', os, bare, un, hok', r', q⟩ := h
        have q' : v = .bl true := q
        subst q'
        obtain rfl : u = Value.bool true := r'
        have all : ∀ b o, s₁.heap.get? b = some o → s'.heap.get? b = some o ∨ ∃ q ∈ tabs, q.2 = b ∧ ∃ more, s'.heap.get? b = some (W.tabObj more) := fun b o e => by
          cases q : H b with
          | none => exact .inl (un.keep b o e q (by intro z; exact absurd (show b ∈ ([] : List Addr) from z) (by simp)) (by simp))
          | some u =>
            rcases hA b (by rw [q]; simp) with ⟨rfl, ob, xs, z⟩ | ⟨p, hp, rfl⟩
            · have z2 := un.frzs b ob _ z
              obtain ⟨e1, _⟩ := hok b _ z
              obtain ⟨e2, _⟩ := hok' b _ z2
              rw [e] at e1; cases e1
              exact .inl e2
            · obtain ⟨more, z2⟩ := un.tbls p.2 _ (hO p hp)
              exact .inr ⟨p, hp, rfl, _, hok' p.2 _ z2⟩
        refine ⟨rfl, ⟨fun b o e => ?_, fun b o e => ?_⟩, os, bare⟩
        · rcases all b o e with z | ⟨p, hp, rfl, more, z⟩
          · exact .inl z
          · have e2 := (hT p hp).2
            rw [e] at e2; cases e2
            exact .inr (.inl ⟨((hT p hp).1.tab (hT p hp).2).isCodeTable, rfl, #[], more, rfl, by rw [Array.empty_append]; exact z⟩)
        · rcases all b o e with z | ⟨p, hp, rfl, more, z⟩
          · exact ⟨_, z⟩
          · exact ⟨_, z⟩
  cases hk : K.lookup a with
  | some o =>
    have e := KX a o hk
    rw [ha] at e
    cases e
    refine core (fun b => if b ∈ tabs.map (·.2) then some (.tbl #[]) else none) (fun q hq => if_pos (List.mem_map.mpr ⟨q, hq, rfl⟩)) (.inr ⟨_, vs.toArray, _, hk, rfl, rfl, rfl, by rw [List.size_toArray, lenV]; exact hl, by simpa using rv⟩) (fun b u z => ?_) (fun b z => ?_) fun b z => ?_
    · by_cases hb : b ∈ tabs.map (·.2)
      · have z' := (if_pos hb).symm.trans z
        cases z'
        obtain ⟨q, hq, rfl⟩ := List.mem_map.mp hb
        exact (hT q hq).2
      · have z' := (if_neg hb).symm.trans z
        cases z'
    · by_cases hb : b ∈ tabs.map (·.2)
      · obtain ⟨q, hq, e⟩ := List.mem_map.mp hb
        exact .inr ⟨q, hq, e⟩
      · exact absurd (if_neg hb) z
    · by_cases hb : b ∈ tabs.map (·.2)
      · obtain ⟨q, hq, rfl⟩ := List.mem_map.mp hb
        exact tabK q hq
      · exact absurd (if_neg hb) z
  | none =>
    refine core (fun b => if b = a then some (.frz { cls := .type "list", data := .seq vs.toArray } (.lst (ns.map V.int))) else if b ∈ tabs.map (·.2) then some (.tbl #[]) else none)
      (fun q hq => by show (if q.2 = a then _ else _) = _; rw [if_neg (tabA q hq), if_pos (List.mem_map.mpr ⟨q, hq, rfl⟩)]) (.inl (.inr ⟨{ cls := .type "list", data := .seq vs.toArray }, if_pos rfl⟩)) (fun b u z => ?_) (fun b z => ?_) fun b z => ?_
    · by_cases hb : b = a
      · have z' := (if_pos hb).symm.trans z
        cases z'
        subst hb
        exact ⟨ha, by rw [List.length_map]; exact hl, vs, _, rv, ha⟩
      · have z' : (if b ∈ tabs.map (·.2) then some (HO.tbl #[]) else none) = some u := (if_neg hb).symm.trans z
        by_cases hb2 : b ∈ tabs.map (·.2)
        · rw [if_pos hb2] at z'; cases z'
          obtain ⟨q, hq, rfl⟩ := List.mem_map.mp hb2
          exact (hT q hq).2
        · rw [if_neg hb2] at z'; cases z'
    · by_cases hb : b = a
      · exact .inl ⟨hb, _, _, if_pos hb⟩
      · by_cases hb2 : b ∈ tabs.map (·.2)
        · obtain ⟨q, hq, e⟩ := List.mem_map.mp hb2
          exact .inr ⟨q, hq, e⟩
        · exact absurd ((if_neg hb).trans (if_neg hb2)) z
    · by_cases hb : b = a
      · rw [hb]; exact hk
      · by_cases hb2 : b ∈ tabs.map (·.2)
        · obtain ⟨q, hq, rfl⟩ := List.mem_map.mp hb2
          exact tabK q hq
        · exact absurd ((if_neg hb).trans (if_neg hb2)) z
theorem xy {l : W.OpenLaw} {n k : Nat} {q : Program} {loose : List Str} {XP : (Str → Option Value) → Heap → Prop} {YP : World → Heap → Prop} {d : DefRec} {K : Params → W.Frag} {CX : World → CXT} {x : Str} {names : List Str}
  (hn : l.most = some n) (hn2 : n ≤ sizeLine) (hdf : d.params.defaults = []) (hr : bg k callerA)
  (hY : ∀ (w : World) (h : Heap), YP w h → (K w.params).In h)
  (hq : ∀ y ∈ names, ((PyProof.Rows.recsOf q).find? fun e => e.name == y).isSome = true)
  (F : ∀ (w : World) (mg : Str → Option Value) (fa : Addr) (h : Heap), (K w.params).In h → h.Ns mainGlobals mg → mg d.name = some (.ref fa) →
   ∃ (fd : FuncData) (tabs : List (Addr × Addr)) (sp : Sp), (∀ (s : Shared) (u : Value), BindsTo s fd ⟨[u], []⟩ [(x, u)]) ∧ W.noTabs (K w.params) = true ∧ (∀ t ∈ tabs, ∃ y ∈ names, W.tabIn (K w.params) y = some t) ∧
    (∀ base : Heap, (K w.params).In base → base.Ns mainGlobals mg → BM mg base → (∀ t ∈ tabs, W.CodeHd base t.1 t.2) → aP l.prog w (K w.params) mg base (CX w) k fa fd [x] sp) ∧
    ∀ (H : Hp) (a : Addr) (ns : List Int), ns.length ≤ n → (∀ t ∈ tabs, H t.2 = some (.tbl #[])) → SqL (K w.params) H a (ns.map V.int) → sp [.ref a] H (fun v _ => v = .bl true) fun _ _ _ => False)
  (hCX : ∀ (w : World) (H : Hp) (s : Shared) (e : Value) (s' : Shared), CX w [] H s (fun _ _ _ => False) e s' → False) :
  W.WalkO q loose XP YP l.row.toRowW d [] (fun f vs => PySem.call f vs) := by
 refine Att.attach_call hn hdf fun w s₀ s₁ mg mb fa o pm cd doc a vs ns G Y ho hd hcd hmg hobj hints hlen hg => ?_
 have KX := hY w _ Y
 obtain ⟨fd, tabs, sp, hb, hKT, htabs, hF, hsp⟩ := F w mg fa _ KX G.T.g hmg
 refine ur (tabs := tabs) KX G.T.g G.T.b G.T.builtins G.T.nolimit hg G.T.bmain (fun t ht => ?_) hKT hobj hints (Nat.le_trans hlen hn2) hr hF hb (fun H hO hS => hsp H a ns hlen hO hS) fun H e s' => hCX w H s₁ e s'
 obtain ⟨y, hy, e⟩ := htabs t ht
 obtain ⟨dd, hdd⟩ := Option.isSome_iff_exists.mp (hq y hy)
 exact W.tab_of G.T KX hdd e
end L2
namespace L2
open PySem PySem.Spec PyProof.Rows
section
variable {X:Cx}
theorem SPM.unwish {E:Value→Shared→Prop} {pins:List (Addr×Obj)} {D:kr} {f:Flow} {s':Shared} (h:SPM (X.wish E) pins D f s'):SPM X pins D f s':=by
 cases f with
 | next=>obtain ⟨σ',H',I,q⟩:=h;exact ⟨σ',H',I.unwish,q⟩
 | brk=>exact h
 | cont=>exact h
 | ret u=>obtain ⟨v,σ',H',I,r,q⟩:=h;exact ⟨v,σ',H',I.unwish,r,q⟩
theorem QMs.nox {st:List Stmt} {t:TSM} (h:QMs X.nox st t):QMs X st t:=⟨fun pins s σ H D I hw=>
 wpAny_mono (h.out pins s σ H D (I.wish _) hw) (fun _ _ q=>SPM.unwish q) fun _ _ z=>False.elim z⟩
theorem fj.mono {P:Program} {w:World} {K:W.Frag} {mg:Str→Option Value} {base:Heap} {j k:Nat} {t:cN} {sp:Sp} (F:fj P w K mg base j t sp) (h:j≤k):fj P w K mg base k t sp:=
 ⟨fun A outer s H f cs us vs cvs Q E hr=>F.run A outer s H f cs us vs cvs Q E (hr.mono h)⟩
def qV:V→List V→Hp→VK→Prop:=fun x vs H Q=>∃ a y d r H',x=.ref a∧vs=[y,d]∧AL H a y d r H'∧Q r H'
theorem uT (hu:X.A.units+1<cLine):MtR X "dict.setdefault" qV:=by
 intro pins s σ H x xs v us Q I rx rs h
 obtain ⟨a,y,d,r,H',rfl,rfl,g,q⟩:=h
 obtain rfl:v=Value.ref a:=rx
 obtain ⟨uy,ud,rfl,ry,rd⟩:=nM rs
 rcases g with ⟨g,rfl⟩ | ⟨g,p,rfl⟩
 · rcases g with ⟨kvs,k,e,rfl,l⟩ | ⟨kvs,k,b,e,rfl,eb,l⟩
   · obtain ⟨z,hd,vs,rel,dd⟩:=je I.hok e
     obtain ⟨w',hw,rw'⟩:=cr.some_of (v:=r) (o:=valueAt vs k) (by rw [l];exact rel.val k)
     exact call_meetsIn PySem.F.slot_dict_setdefault dd.typeIs PySem.F.entry_dict_setdefault (PySem.F.args_dict_setdefault_3 _ _ _) (kt_meets_setdefault (ci X.prog X.w) a (jg ry) hd ud)
       ⟨vs,dd,by rw [← rel.length];exact z,(fun v' hv'=>by rw [hw] at hv';cases hv';exact ⟨r,H',I.tok _,rw',q⟩),(fun hn=>by rw [hw] at hn;cases hn)⟩
   · cases (show uy=Value.ref b from ry)
     obtain ⟨z,hd,xs,rel,dd⟩:=kB I.hok e
     obtain ⟨w',hw,rw'⟩:=cr.some_of (v:=r) (o:=(atKey xs k).map (·.2)) (by rw [l];exact rel.val k)
     obtain ⟨pp,hp,hp2⟩:=Option.map_eq_some_iff.mp hw
     refine wpAny_call_entry PySem.F.slot_dict_setdefault dd.typeIs PySem.F.entry_dict_setdefault ?_ (PySem.F.args_dict_setdefault_3 _ _ _)
     unfold Builtin.«dict.setdefault»
     refine wpAny_bind ?_
     unfold Builtin.Dict.keyAndDefault
     refine wpAny_bind (wpAny_notOrdered_dict dd.typeIs ?_)
     show wpAny _ _ (pure (a,Value.ref b,some ud)) _ _ s
     refine wpAny_pure ?_
     show wpAny _ _ (if (a==sysModules)=true then _ else (dictSetDefault a (.ref b) ud>>=_)) _ _ s
     rw [if_neg (by rw [hd];exact Bool.false_ne_true)]
     refine wpAny_bind (eQ (tupleKind_room_in1 hu) (hG I.hok eb) dd (fun p' hp'=>?_) (fun hn=>?_) (by rw [← Paired.length rel];exact z))
     · rw [hp] at hp';cases hp'
       exact wpAny_pure ⟨_,rfl,⟨r,H',I.tok _,by rw [hp2];exact rw',q⟩⟩
     · rw [hp] at hn;cases hn
 · rcases g with ⟨kvs,k,e,rfl,l⟩ | ⟨kvs,k,b,e,rfl,eb,l⟩
   · rcases p with ⟨kvs',k',e',ey,lz,rfl⟩ | ⟨kvs',k',b',e',ey,_⟩
     · have ek:k=k':=by cases k <;> cases k' <;> first | (cases ey;rfl) | cases ey
       subst ek
       obtain ⟨z,hd,vs,rel,dd⟩:=ye I.hok e'
       have ee:kvs=kvs':=by
         rcases e with e | ⟨o,e⟩
         · rw [e'] at e;cases e;rfl
         · rw [e'] at e;cases e
       subst ee
       have hn:valueAt vs k=none:=cr.none_of (by rw [l];exact rel.val k)
       refine call_meetsIn PySem.F.slot_dict_setdefault dd.typeIs PySem.F.entry_dict_setdefault (PySem.F.args_dict_setdefault_3 _ _ _) (kt_meets_setdefault (ci X.prog X.w) a (jg ry) hd ud)
         ⟨vs,dd,by rw [← rel.length];exact z,(fun v' hv'=>by rw [hn] at hv';cases hv'),fun _ h' dd' hs=>?_⟩
       have he:∃ q,h'.get? a=some q:=let ⟨q,_,_,hq,_⟩:=dd';⟨q,hq⟩
       have hl:(cM kvs k r).length≤sizeLine:=by have:=fi kvs k r;omega
       exact ⟨r,_,jc I (by rw [e'];exact True.intro) hs he (uP hl hd (rel.put k rd) dd'),rd,q⟩
     · cases k <;> cases ey
   · rcases p with ⟨kvs',k',e',ey,_⟩ | ⟨kvs',k',b',e',ey,eb',lz,rfl⟩
     · cases k' <;> cases ey
     · cases ey
       have ek:k=k':=qC (HO.tup.inj (Option.some.inj (eb.symm.trans eb')))
       subst ek
       cases (show uy=Value.ref b from ry)
       obtain ⟨z,hd,xs,rel,dd⟩:=rq I.hok e'
       have ee:kvs=kvs':=by
         rcases e with e | ⟨o,e⟩
         · rw [e'] at e;cases e;rfl
         · rw [e'] at e;cases e
       subst ee
       have hn:atKey xs k=none:=by
         have:=cr.none_of (o:=(atKey xs k).map (·.2)) (by rw [l];exact rel.val k)
         exact Option.map_eq_none_iff.mp this
       refine wpAny_call_entry PySem.F.slot_dict_setdefault dd.typeIs PySem.F.entry_dict_setdefault ?_ (PySem.F.args_dict_setdefault_3 _ _ _)
       unfold Builtin.«dict.setdefault»
       refine wpAny_bind ?_
       unfold Builtin.Dict.keyAndDefault
       refine wpAny_bind (wpAny_notOrdered_dict dd.typeIs ?_)
       show wpAny _ _ (pure (a,Value.ref b,some ud)) _ _ s
       refine wpAny_pure ?_
       show wpAny _ _ (if (a==sysModules)=true then _ else (dictSetDefault a (.ref b) ud>>=_)) _ _ s
       rw [if_neg (by rw [hd];exact Bool.false_ne_true)]
       refine wpAny_bind (eQ (tupleKind_room_in1 hu) (hG I.hok eb) dd (fun p' hp'=>?_) (fun _ h' dd' hs=>?_) (by rw [← Paired.length rel];exact z))
       · rw [hn] at hp';cases hp'
       · obtain ⟨q',es,ep,hq,h2,h3,h4,_,h5⟩:=dd'
         have hl:(cM kvs k r).length≤sizeLine:=by have:=fi kvs k r;omega
         refine wpAny_pure ⟨_,rfl,⟨r,_,jc (ob:=.dT (cM kvs k r)) I (by rw [e'];exact True.intro) hs ⟨q',hq⟩ ⟨hl,hd,_,(rel.put k eb rd).keeps fun c ys ec=>?_,q',es,ep,hq,h2,h3,h4,h5⟩,rd,q⟩⟩
         rw [au (dD ec e' (fun z=>nomatch z))]
         exact ec
def Its (z:Str):It:=⟨fun i _=>i<z.length,fun i H x H'=>H'=H∧∃ c,z.cps[i]?=some c∧x=.str ⟨#[c]⟩,fun i _=>z.length≤i⟩
theorem xG {P:Program} {w:World} {K:W.Frag} {tg:Expr} (z:Str) (t:Tok) (it:Addr):jU P w K tg (Its z) [it] it (fun i h=>h.IsStrIter it "str_ascii_iterator" z t i) where
 mem:=by simp
 obj:=fun i h st b hb=>by
  have e:b=it:=by simpa using hb
  subst e
  obtain ⟨o,e,c,d⟩:=st
  exact ⟨o,e,fun v z=>by rw [d] at z;cases z⟩
 keep:=fun i h h' st k=>let ⟨o,ho,r⟩:=st;⟨o,k it (by simp) o ho,r⟩
 item:=by
  intro X hP hw hK hc i pins s σ H E I hf st hg
  subst hP hw hK
  obtain ⟨f0,f1,f2,f3,f4,f5⟩:=hf it (by simp)
  have hi:i<z.cps.size:=hg
  refine wpAny_pyNext_ascii_item st (c:=z.cps[i]) (Array.getElem?_eq_getElem hi) fun h' st' sb=>?_
  have I1:Inv X pins σ H { s with heap:=h',toks:=s.toks+1 }:=I.turned (t':=s.toks+1) (fun b o hb e=>(sb.2 b hb).trans e) f0 f1 f3 f4 f5
  obtain ⟨o,e,c,d⟩:=id st'
  exact ⟨_,rfl,kF (s:={ s with heap:=h',toks:=s.toks+1 }) e c d (by decide) ⟨.str ⟨#[z.cps[i]]⟩,H,I1,⟨_,rfl⟩,⟨rfl,_,Array.getElem?_eq_getElem hi,rfl⟩,st',fun b hb=>(hf b hb).1⟩⟩
 done:=by
  intro X hP hw hK hc i pins s σ H E I hf st hg
  subst hP hw hK
  obtain ⟨f0,f1,f2,f3,f4,f5⟩:=hf it (by simp)
  exact wpAny_pyNext_ascii_end (I.ok.hd hc) st (Array.getElem?_eq_none (show z.cps.size≤i from hg)) fun h' eb=>⟨rfl,I.turned (t':=s.toks) (fun b o hb e=>eb b o hb e) f0 f1 f3 f4 f5⟩
 self:=fun A i s Q E st h=>by
  refine wpAny_pyIter_slot st.typeIs F.slot_str_ascii_iterator_iter (wpAny_call_entry F.slot_str_ascii_iterator_iter st.typeIs F.entry_str_ascii_iterator_iter ?_ (F.args_str_ascii_iterator_iter_1 _))
  show wpAny _ _ (ret (.ref it)) _ _ s
  exact wpAny_pure ⟨_,rfl, "str_ascii_iterator",_,st.typeIs,F.slot_str_ascii_iterator_next.lookup,h⟩
variable {a:Expr} {ta:TE} {tg:Expr}
def ej (K:W.Frag) (tl:TE):TI:=fun σ H R=>tl σ H fun x H1=>match x with
 | .str z=>z.cps.all (·<128)=true∧R (Its z) H1
 | x=>∃ a,x=.ref a∧(((∃ xs,SqL K H1 a xs)∧R (Itl K a) H1)∨((∃ xs,SqT K H1 a xs)∧R (Itt K a) H1))
theorem eL (h : QE X a ta) : QI X tg a (ej X.K ta) := ⟨fun pins s σ H R I hw => by
  refine thn (h.out pins s σ H _ I hw) fun v s1 ⟨x, H1, I1, r1, q1⟩ => ?_
  cases x with
  | str z =>
    obtain ⟨t, rfl⟩ := r1
    refine wpAny_pyIter_ascii q1.1 ?_
    refine ⟨s1.heap.objs.size, [s1.heap.objs.size], _, _, H1, rfl, I1.kept (t' := s1.toks) fun b o e => Heap.get?_push_of_some _ e, xG z t _, ⟨_, Heap.get?_push_size _ rfl, rfl, rfl⟩, fun b hb => ?_, q1.2⟩
    have e : b = s1.heap.objs.size := by simpa using hb
    subst e
    exact I1.fpOk (Nat.le_refl _) (I1.hok.fresh (Nat.le_refl _))
  | ref c =>
    obtain ⟨a, e, q⟩ := q1
    cases e
    cases r1
    rcases q with ⟨⟨xs, hq⟩, q⟩ | ⟨⟨xs, hq⟩, q⟩
    · obtain ⟨its, rv, p, hz⟩ := I1.list hq
      refine wpAny_pyIter_list (oM p) ?_
      refine ⟨s1.heap.objs.size, [s1.heap.objs.size], _, _, H1, rfl, I1.kept (t' := s1.toks) fun b o e => Heap.get?_push_of_some _ e, uQ _ _, ⟨_, Heap.get?_push_size _ rfl, rfl, rfl⟩, fun b hb => ?_, q⟩
      have e : b = s1.heap.objs.size := by simpa using hb
      subst e
      exact I1.fpOk (Nat.le_refl _) (I1.hok.fresh (Nat.le_refl _))
    · obtain ⟨its, rv, p, hz⟩ := I1.tuple hq
      refine wpAny_pyIter_tuple (show s1.heap.IsTuple c its.toArray from p) ?_
      refine ⟨s1.heap.objs.size, [s1.heap.objs.size], _, _, H1, rfl, I1.kept (t' := s1.toks) fun b o e => Heap.get?_push_of_some _ e, rh _ _, ⟨_, Heap.get?_push_size _ rfl, rfl, rfl⟩, fun b hb => ?_, q⟩
      have e : b = s1.heap.objs.size := by simpa using hb
      subst e
      exact I1.fpOk (Nat.le_refl _) (I1.hok.fresh (Nat.le_refl _))
  | _ => obtain ⟨_, e, _⟩ := q1; cases e⟩
theorem yR:OpR X (binaryOp .Mult) (fun x y H Q=>∃ z n,x=.str z∧y=.int n∧(-1000≤n∧n≤1000∧z.length≤1000)∧Q (.str (Txt.mul z n)) H):=by
 intro pins s σ H x y v u Q I rx ry h
 obtain ⟨z,n,rfl,rfl,⟨h1,h2,h3⟩,q⟩:=h
 obtain ⟨t,rfl⟩:=rx
 obtain ⟨t',rfl⟩:=ry
 refine SB.mul ⟨?_,fun hn _=>?_,fun hn _=>?_⟩ fun t' k=>⟨.str _,H,I.tok k,⟨_,rfl⟩,q⟩
 · rw [decide_eq_false (by omega),decide_eq_false (by omega)];rfl
 · intro hgt
   have h5:(1000:Int)≤(2^63 - 1)/n:=Int.le_ediv_of_mul_le (by omega) (by omega)
   omega
 · have h6:z.length*n.toNat≤1000*1000:=Nat.mul_le_mul h3 (by omega)
   exact decide_eq_false (by rw [sizeLine_eq];omega)
end
end L2
namespace L2
open PySem PySem.Spec PyProof.Rows
theorem uc {J:It} {n:Nat} {it:Nat→V} {Pk:Hp→Prop} {g:TG} {tb:TS} {D:eE} {σ:St} {H:Hp} (T:dU J n it Pk) (Pv:Nat→St→Hp→Prop) (h0:Pv 0 σ H) (hl:∀ i σ H,i≤n→Pv i σ H→Pk H)
   (hs:∀ i σ H,i<n→Pv i σ H→g (it i) σ H fun σ2 H2=>tb { D with nx:=Pv (i+1),ct:=Pv (i+1),bk:=D.nx } σ2 H2) (hd:∀ σ H,Pv n σ H→D.nx σ H):
   ∃ W:Nat→Nat→St→Hp→Prop,(∃ m,W 0 m σ H)∧∀ i m σ H,W i m σ H→
    (J.stop i H∧D.nx σ H)∨(J.go i H∧∃ N:St→Hp→Prop,(∀ σ' H',N σ' H'→∃ m',m'<m∧W (i+1) m' σ' H')∧∀ x H',J.yld i H x H'→g x σ H' fun σ2 H2=>tb { D with nx:=N,ct:=N,bk:=D.nx } σ2 H2):=by
 refine ⟨fun i m σ H=>m=n - i∧i≤n∧Pv i σ H,⟨n,by simp,Nat.zero_le _,h0⟩,?_⟩
 rintro i m σ H ⟨rfl,hi,p⟩
 have q:=hl i σ H hi p
 by_cases hlt:i<n
 · refine .inr ⟨T.go i H hlt q,Pv (i+1),fun σ' H' p'=>⟨n - (i+1),by omega,rfl,hlt,p'⟩,fun x H' y=>?_⟩
   obtain ⟨rfl,rfl⟩:=T.yld i H x H' hlt q y
   exact hs i σ _ hlt p
 · have e:i=n:=by omega
   subst e
   exact .inl ⟨T.stop H q,hd σ H p⟩
theorem dU.str (z:Str):dU (Its z) z.length (fun i=> .str ⟨#[z.cps.getD i 0]⟩) (fun _=>True) where
 go:=fun i H hi _=>hi
 yld:=fun i H x H' hi _ y=>⟨y.1,by obtain ⟨_,c,hc,rfl⟩:=y;simp [Array.getD_eq_getD_getElem?,hc]⟩
 stop:=fun H _=>Nat.le_refl _
theorem tI {α β:Type} (f:β→α→β) (b:β) (l:List α) (i:Nat) (x:α) (h:l[i]?=some x):(l.take (i+1)).foldl f b=f ((l.take i).foldl f b) x:=by
 rw [List.take_succ,h];simp
theorem gQ {α β:Type} {f:α→β} {l:List α} {i:Nat} {x:β} (h:(l.map f)[i]?=some x):∃ a,l[i]?=some a∧x=f a:=by
 rw [List.getElem?_map] at h
 cases e:l[i]? with
 | none=>rw [e] at h;cases h
 | some a=>rw [e] at h;cases h;exact ⟨a,rfl,rfl⟩
theorem dB.keep {H H':Hp} {f:Addr} {t:cN} {cs:List Addr} {cvs:List V} (k:∀ b φ,H b=some (.ext φ)→H' b=some (.ext φ)) (c:dB H f t cs cvs):dB H' f t cs cvs:=by
 obtain ⟨⟨a,h1,h2⟩,h3⟩:=c
 refine ⟨⟨a,k _ _ h1,k _ _ h2⟩,?_⟩
 clear h1 h2
 induction h3 with
 | nil=>exact .nil
 | cons r t ih=>exact .cons (k _ _ r) ih
theorem ixL {K:W.Frag} {H:Hp} {Q:VK} {L:Addr} {xs:List V} {x:V} {i:Int} {j:Nat} (hL:H L=some (.lst xs)) (e:i=j) (hx:xs[j]?=some x) (q:Q x H):aM K (.ref L) (.int i) H Q:=by
 subst e
 refine .inl (.inl ⟨L,xs,j,x,rfl,rfl,SqL.of hL,?_,q⟩)
 have hj:=(List.getElem?_eq_some_iff.mp hx).1
 rw [ul (by omega) (by omega)]
 simp [List.getD_eq_getElem?_getD,hx]
def mz (K:W.Frag) (ns:List Str):Bool:=decide ((ns.map fun n=>(W.tabIn K n).map (·.2)).Nodup)
theorem vZ {l:List Addr} (h:(l.map some).Nodup):l.Nodup:=List.Pairwise.of_map some (fun a b h e=>h (congrArg some e)) h
end L2
namespace HT
open PySem PyProof.Rows
theorem fW:fillsNumberSlot (.type "tuple") "mul" =pure false:=
 PySem.fillsNumberSlot_seq (id:= "tuple.__mul__") (r:=some (.builtin "tuple.__rmul__")) F.slot_tuple_mul.lookup (by decide +kernel) F.slot_tuple_rmul.lookup (by decide +kernel)
theorem iH:seqRepeat? (.type "tuple")=pure (some (.builtin "tuple.__mul__")):=by
 unfold seqRepeat?
 rw [PySem.seqSlot_of (T:= "tuple") (name:= "__mul__") (id:= "tuple.__mul__") F.slot_tuple_mul.lookup (by decide +kernel),PySem.seqSlot_of (T:= "tuple") (name:= "__rmul__") (id:= "tuple.__rmul__") F.slot_tuple_rmul.lookup (by decide +kernel)]
 rfl
theorem gI (a:Int) (t:Tok) (l:Addr) (items:Array Value) (n:Nat) (dd:Option Addr) (sl:Array (Option Value)):
  Meets (Builtin.«int.__rmul__» ⟨[.int a t,.ref l],[]⟩) (fun _ R s=>s.heap.get? l=some { cls:=.type "tuple",dict:=dd,data:=.seq items n,slots:=sl }∧R (.ok (.ret Value.notImplemented)) s):=
 .of_wp fun prog w A R s h=>by obtain ⟨hp,g,d,tk,os⟩:=s;obtain ⟨hl,h⟩:=h;wp_walk;exact ⟨_,rfl,h⟩
theorem rn (l:Addr) (items:Array Value) (n:Nat) (x:Int) (u:Tok) (dd:Option Addr) (sl:Array (Option Value)) (h0:(decide (x< -(2^63))||decide (x≥2^63))=false) (h1:(items.isEmpty||x==1)=true):
  Meets (Builtin.«tuple.__mul__» ⟨[.ref l,.int x u],[]⟩) (fun _ R s=>s.heap.get? l=some { cls:=.type "tuple",dict:=dd,data:=.seq items n,slots:=sl }∧R (.ok (.ret (.ref l))) s):=
 .of_wp fun prog w A R s h=>by obtain ⟨hp,g,d,tk,os⟩:=s;obtain ⟨hl,h⟩:=h;have f1:=AutoSeq1.idx_int;have f2:=AutoSeq1.sub_tuple_tuple;wp_walk using wpAny_loadPart' hl;refine wpAny_ite_false (decide_eq_false (by rw [h0];decide)) ?_;wp_walk using wpAny_loadPart' hl;exact ⟨_,rfl,h⟩
theorem sW (l:Addr) (items:Array Value) (n:Nat) (x:Int) (u:Tok) (dd:Option Addr) (sl:Array (Option Value)) (h0:(decide (x< -(2^63))||decide (x≥2^63))=false) (h1:(items.isEmpty||x==1)=false)
  (h2:(decide (x≤0)||items.isEmpty)=false) (h3:¬ ((items.size:Int)*x>(2^63 - 1)/8)) (h4:¬ Builtin.Tuple.tupleTooMany (items.size*x)=true) (h5:(List.foldl (fun x1 x2=>x1++x2) #[] (List.replicate x.toNat items)).size≤sizeLine):
  Meets (Builtin.«tuple.__mul__» ⟨[.ref l,.int x u],[]⟩) (fun _ R s=>s.heap.get? l=some { cls:=.type "tuple",dict:=dd,data:=.seq items n,slots:=sl }∧R (.ok (.ret (Value.ref s.heap.objs.size))) { s with heap:=s.heap.push { cls:=Value.type "tuple",data:=Data.seq (List.foldl (fun x1 x2=>x1++x2) #[] (List.replicate x.toNat items)) },toks:=s.toks }):=
 .of_wp fun prog w A R s h=>by obtain ⟨hp,g,d,tk,os⟩:=s;obtain ⟨hl,h⟩:=h;have f1:=AutoSeq1.idx_int;have f2:=AutoSeq1.sub_tuple_tuple;wp_walk using wpAny_loadPart' hl;refine wpAny_ite_false (decide_eq_false (by rw [h0];decide)) ?_;wp_walk using wpAny_loadPart' hl;refine wpAny_ite_false (decide_eq_false h3) ?_;wp_walk using wpAny_loadPart' hl;exact ⟨_,rfl,h⟩
end HT
namespace L2
open PySem PySem.Spec PyProof.Rows
section
variable {X:Cx}
def yb:R2:=fun x y H Q=>∃ a k xs,x=.ref a∧y=.int k∧H a=some (.tup xs)∧xs≠[]∧1≤k∧k≤1000∧xs.length≤1000∧∀ p H',ax H H'→H' p=some (.tup (List.replicate k.toNat xs).flatten)→Q (.ref p) H'
theorem zG : OpR X (binaryOp .Mult) yb := by
 intro pins s σ H x y v u Q I rx ry h
 obtain ⟨a, k, xs, rfl, rfl, ha, hne, k1, k2, hl, q⟩ := h
 cases rx
 obtain ⟨t, rfl⟩ := ry
 obtain ⟨its, r, p1, hz⟩ := I.tuple (.inl (.inl ha))
 have hlen : its.length = xs.length := r.length.symm
 have hits : its ≠ [] := fun z => hne (r.nil_iff.mp z)
 obtain ⟨⟨cls, dd, data, sl⟩, ho, hc, n, hd⟩ := id p1
 simp only at hc hd
 subst hc hd
 have h0 : (decide (k < -(2 ^ 63)) || decide (k ≥ 2 ^ 63)) = false := by rw [decide_eq_false (by omega), decide_eq_false (by omega)]; rfl
 have hemp : its.toArray.isEmpty = false := by cases its with | nil => exact (hits rfl).elim | cons _ _ => rfl
 by_cases e : k = 1
 · subst e
   refine PySem.wpAny_binaryOp_repeat_ref (T := "tuple") (U := "int") (by decide) ⟨_, ho, rfl⟩ (fun s' => typeIs_int s' 1 t) HT.fW F.fills_int_mul F.slot_int_rmul HT.iH F.slot_int_index.lookup
     (call_meets F.slot_int_rmul (typeIs_int s 1 t) F.entry_int_rmul (F.args_int_rmul_2 _ _) (HT.gI 1 t a its.toArray n dd sl)
      ⟨ho, rfl, ⟨_, ho, rfl⟩, call_meets F.slot_tuple_mul ⟨_, ho, rfl⟩ F.entry_tuple_mul (F.args_tuple_mul_2 _ _) (HT.rn a its.toArray n 1 t dd sl h0 (by rw [hemp]; rfl)) ⟨ho, ?_⟩⟩)
   exact ⟨.ref a, H, I, rfl, q a H ax.rfl' (by rw [ha]; simp)⟩
 · have hsz : its.length * k.toNat ≤ 1000000 := Nat.le_trans (Nat.mul_le_mul (by omega : its.length ≤ 1000) (by omega : k.toNat ≤ 1000)) (by decide)
   have hszI : ((its.toArray.size : Nat) : Int) * k ≤ 1000000 := by
     have e1 : ((its.length * k.toNat : Nat) : Int) = (its.length : Int) * k := by rw [Int.natCast_mul, Int.toNat_of_nonneg (by omega)]
     rw [List.size_toArray, ← e1]; omega
   have hnew : List.foldl (fun x1 x2 => x1 ++ x2) #[] (List.replicate k.toNat its.toArray) = (List.replicate k.toNat its).flatten.toArray := by
     have := mn its k.toNat []
     rw [List.nil_append] at this
     exact this
   refine PySem.wpAny_binaryOp_repeat_ref (T := "tuple") (U := "int") (by decide) ⟨_, ho, rfl⟩ (fun s' => typeIs_int s' k t) HT.fW F.fills_int_mul F.slot_int_rmul HT.iH F.slot_int_index.lookup
     (call_meets F.slot_int_rmul (typeIs_int s k t) F.entry_int_rmul (F.args_int_rmul_2 _ _) (HT.gI k t a its.toArray n dd sl)
      ⟨ho, rfl, ⟨_, ho, rfl⟩, call_meets F.slot_tuple_mul ⟨_, ho, rfl⟩ F.entry_tuple_mul (F.args_tuple_mul_2 _ _) (HT.sW a its.toArray n k t dd sl h0 (by rw [hemp]; simp [e]) (by rw [hemp, decide_eq_false (by omega)]; rfl) (by omega) ?_ ?_) ⟨ho, ?_⟩⟩)
   · unfold Builtin.Tuple.tupleTooMany
     rw [sizeLine_eq]
     simp only [gt_iff_lt, decide_eq_true_eq]
     omega
   · rw [hnew, List.size_toArray, qu, Nat.mul_comm]
     exact aB hsz
   · rw [hnew]
     refine ⟨.ref s.heap.objs.size, _, I.laid (t' := s.toks) (o := .tup (List.replicate k.toNat xs).flatten) (fun b ob q => Heap.get?_push_of_some _ q) (Nat.le_refl _) ?_, rfl, q _ _ (ax.upd (I.hok.fresh (Nat.le_refl _))) ap⟩
     exact ⟨by rw [qu, ← hlen, Nat.mul_comm]; exact aB hsz, _, r.rep k.toNat, IsTup.new _ _⟩
def bZ:R2:=fun x y H Q=>match x,y with
 | .str z,.int n=>(-1000≤n∧n≤1000∧z.length≤1000)∧Q (.str (Txt.mul z n)) H
 | .ref a,.int n=>yb (.ref a) (.int n) H Q
 | x,y=>xh x y H Q
theorem cX:OpR X (binaryOp .Mult) bZ:=(yR.or (zG.or HV)).imp fun x y H Q q=>by
 unfold bZ at q
 split at q
 · exact .inl ⟨_,_,rfl,rfl,q.1,q.2⟩
 · exact .inr (.inl q)
 · exact .inr (.inr q)
end
end L2
namespace L2
open PySem PySem.Spec PyProof.Rows
end L2
namespace L2
open PySem PySem.Spec PyProof.Rows
section
variable {X:Cx}
theorem AG:OpR X (compareOp .Is) (fun x y H Q=>∃ b c,x=.bl b∧y=.bl c∧Q (.bl (decide (b=c))) H):=by
 intro pins s σ H x y v u Q I rx ry h
 obtain ⟨b,c,rfl,rfl,q⟩:=h
 cases rx
 cases ry
 refine wpAny_is_plain (by rfl) (bp I q ?_)
 cases b <;> cases c <;> rfl
def oh:R2:=fun x y H Q=>match x,y with
 | .bl b,.bl c=>Q (.bl (decide (b=c))) H
 | x,y=>vm x y H Q
theorem xK:OpR X (compareOp .Is) oh:=(AG.or oIs).imp fun x y H Q q=>by
 unfold oh at q
 split at q
 · exact .inl ⟨_,_,rfl,rfl,q⟩
 · exact .inr q
theorem BY {x y:Str} {px py ep pos:Pos} {ek:Nat} {e:Expr} {te:TE} (i j:Nat) (hN:X.N.Nodup) (hc:X.calm=true) (he:QE X e te) (hi:X.N[i]?=some x:=by rfl) (hj:X.N[j]?=some y:=by rfl)
  (hx:Loc X.env.scope x:=by first | exact .inl rfl | exact .inr rfl) (hy:Loc X.env.scope y:=by first | exact .inl rfl | exact .inr rfl)
  (fx:X.fn x=true∨X.env.scope.names.lookup x=some .local:=by first | exact .inl rfl | exact .inr rfl) (fy:X.fn y=true∨X.env.scope.names.lookup y=some .local:=by first | exact .inl rfl | exact .inr rfl)
  (hs:swapsWithSole [.Tuple [.Name x px,.Name y py] ek ep] e pos.line X.env=pure false:=by rfl) (hw:swappedStores [.Tuple [.Name x px,.Name y py] ek ep] e X.env=pure none:=by rfl):
  QS X (.Assign [.Tuple [.Name x px,.Name y py] ek ep] e pos) (aC te (oi X.K 2 (fK (av i) (fK (av j) pL)))):=
 ⟨tZ he.out (vf hc (ie (gS hN hi hx fx) (ie (gS hN hj hy fy) qB))) hs hw⟩
end
end L2
namespace HT
open PySem PyProof.Rows
theorem sub_tuple_dict:isSubtype (.type "tuple") (.type "dict")=pure false:=by rw [isSubtype_type];kernel_rfl
theorem lH:isSubtype (.type "dict") (.type "tuple")=pure false:=by rw [isSubtype_type];kernel_rfl
theorem sR (l b:Addr) (o:Obj) (hc:o.cls=.type "dict") (o2:Obj) (hc2:o2.cls=.type "tuple"):
  Meets (Builtin.«dict.__eq__» ⟨[.ref l,.ref b],[]⟩) (fun _ R s=>s.heap.get? l=some o∧s.heap.get? b=some o2∧R (.ok (.ret .notImplemented)) s):=
 .of_wp fun prog w A R s h=>by
  obtain ⟨hp,g,d,tk,os⟩:=s;obtain ⟨hl,hb,h⟩:=h;obtain ⟨cls,dd,data,sl⟩:=o;obtain ⟨cls2,dd2,data2,sl2⟩:=o2
  simp only at hc hc2;subst hc hc2
  have f1:=sub_tuple_dict;wp_walk using wpAny_loadPart' hl,wpAny_loadPart' hb;exact ⟨_,rfl,h⟩
theorem qb (l b:Addr) (o:Obj) (hc:o.cls=.type "tuple") (o2:Obj) (hc2:o2.cls=.type "dict"):
  Meets (Builtin.«tuple.__eq__» ⟨[.ref l,.ref b],[]⟩) (fun _ R s=>s.heap.get? l=some o∧s.heap.get? b=some o2∧R (.ok (.ret .notImplemented)) s):=
 .of_wp fun prog w A R s h=>by
  obtain ⟨hp,g,d,tk,os⟩:=s;obtain ⟨hl,hb,h⟩:=h;obtain ⟨cls,dd,data,sl⟩:=o;obtain ⟨cls2,dd2,data2,sl2⟩:=o2
  simp only at hc hc2;subst hc hc2
  have f1:=lH;wp_walk using wpAny_loadPart' hl,wpAny_loadPart' hb;exact ⟨_,rfl,h⟩
end HT
namespace L2
open PySem PySem.Spec PyProof.Rows
section
variable {X:Cx}
def xQ (K:W.Frag):R2:=fun x y H Q=>∃ a b ys,x=.ref a∧y=.ref b∧((∃ kvs,H a=some (.dK kvs))∨∃ kvs,H a=some (.dT kvs))∧SqT K H b ys∧Q (.bl false) H
theorem za (hu:X.A.units<cLine):OpR X (compareOp .Eq) (xQ X.K):=by
 intro pins s σ H x y v u Q I rx ry h
 obtain ⟨a,b,ys,rfl,rfl,ha,hb,q⟩:=h
 cases rx
 cases ry
 obtain ⟨its,_,p1,_⟩:=I.tuple hb
 obtain ⟨o2,ho2,hc2,_⟩:=id p1
 obtain ⟨o,ho,hc⟩:∃ o,s.heap.get? a=some o∧o.cls=.type "dict" :=by
  rcases ha with ⟨kvs,e⟩ | ⟨kvs,e⟩
  · obtain ⟨_,_,_,_,o,_,_,h1,h2,_⟩:=(show bc X.prog X.w H s.heap a (.dK kvs) from I.hok a _ e)
    exact ⟨o,h1,h2.1⟩
  · obtain ⟨_,_,_,_,o,_,_,h1,h2,_⟩:=(show bc X.prog X.w H s.heap a (.dT kvs) from I.hok a _ e)
    exact ⟨o,h1,h2.1⟩
 have hne:a≠b:=fun e=>by
  subst e
  rw [ho] at ho2;cases ho2
  rw [hc] at hc2;exact absurd hc2 (by simp)
 show wpAny _ _ (richCompare .Eq (.ref a) (.ref b)) _ _ s
 exact SeqAt.rc_eq_decline_or (k:=false) ⟨_,ho,hc⟩ ⟨_,ho2,hc2⟩ (by decide) F.sub_tuple_dict F.slot_dict_eq F.slot_tuple_eq_refl
  (fun _ hq=>call_meets F.slot_dict_eq ⟨_,ho,hc⟩ F.entry_dict_eq (F.args_dict_eq_2 _ _) (HT.sR a b o hc o2 hc2) ⟨ho,ho2,hq⟩)
  (fun _ hq=>call_meets F.slot_tuple_eq_refl ⟨_,ho2,hc2⟩ F.entry_tuple_eq (F.args_tuple_eq_2 _ _) (HT.qb b a o2 hc2 o hc) ⟨ho2,ho,hq⟩)
  (fun _ hq=>wpAny_isSame_ref_other hne ho ho2 (by rw [hc];simp) hq) (.inr hu) ⟨.bl false,H,I,rfl,q⟩
def bF (K:W.Frag):R2:=fun x y H Q=>match x,y with
 | .ref a,.ref b=>zX K (.ref a) (.ref b) H Q∨pr K (.ref a) (.ref b) H Q∨xQ K (.ref a) (.ref b) H Q
 | .ref a,y=>pr K (.ref a) y H Q
 | x,.ref b=>pr K x (.ref b) H Q
 | x,y=>mEq x y H Q
theorem bR (hu:X.A.units+150<cLine):OpR X (compareOp .Eq) (bF X.K):=((Am (by omega)).or ((BW hu).or ((za (by omega)).or oEq))).imp fun x y H Q q=>by
 unfold bF at q
 split at q
 · exact q.elim .inl fun z=>z.elim (fun z=> .inr (.inl z)) fun z=> .inr (.inr (.inl z))
 · exact .inr (.inl q)
 · exact .inr (.inl q)
 · exact .inr (.inr (.inr q))
end
end L2
namespace HT
open PySem PyProof.Rows
theorem jW:typeLookup (.type "tuple") "__reversed__" =pure none:=by rw [typeLookup_type,builtinLookup_eq_fast];kernel_rfl
theorem me:Manifest.owners.lookup (String.ofList ['d','e','s','r','e','v','e','r'].reverse)=some Manifest.sig_reversed:=by kernel_rfl
theorem dq:Slot "reversed" "__next__" "reversed.__next__" :=
 .of (owner:= "reversed") (n:= "__next__") (by rw [typeLookup_type,builtinLookup_eq_fast];kernel_rfl) (by decide +kernel) (by decide +kernel) (by decide +kernel)
  (by first | exact .inl (by decide +kernel) | exact .inr (by decide +kernel)) (by rw [isSubtype_type];kernel_rfl)
theorem gR:entryFor table "reversed.__next__" =some Builtin.«reversed.__next__»:=entryFor_of_tree (by kernel_rfl)
theorem iC (a:Value):argsOk "reversed.__next__" ⟨[a],[]⟩:=by
 unfold argsOk;rw [signature?_of (id:= "reversed.__next__") (n:=['_','_','t','x','e','n','_','_']) (o:=['d','e','s','r','e','v','e','r']) (by kernel_rfl) me];kernel_rfl
theorem iz:Slot "reversed" "__iter__" "reversed.__iter__" :=
 .of (owner:= "reversed") (n:= "__iter__") (by rw [typeLookup_type,builtinLookup_eq_fast];kernel_rfl) (by decide +kernel) (by decide +kernel) (by decide +kernel)
  (by first | exact .inl (by decide +kernel) | exact .inr (by decide +kernel)) (by rw [isSubtype_type];kernel_rfl)
theorem mP (a:Value):argsOk "reversed.__iter__" ⟨[a],[]⟩:=by
 unfold argsOk;rw [signature?_of (id:= "reversed.__iter__") (n:=['_','_','r','e','t','i','_','_']) (o:=['d','e','s','r','e','v','e','r']) (by kernel_rfl) me];kernel_rfl
theorem lK:entryFor table "reversed.__iter__" =some Builtin.«dict_keyiterator.__iter__»:=
 entryFor_alias (id':= "dict_keyiterator.__iter__") (by kernel_rfl) (by first | rfl | decide +kernel | (unfold String.splitOn;simp +decide [String.splitOnAux])) (by decide +kernel) (by kernel_rfl)
theorem mU:Slot "reversed" "__init__" "object.__init__" :=
 .of (owner:= "object") (n:= "__init__") (by rw [typeLookup_type,builtinLookup_eq_fast];kernel_rfl) (by decide +kernel) (by decide +kernel) (by decide +kernel)
  (by first | exact .inl (by decide +kernel) | exact .inr (by decide +kernel)) (by rw [isSubtype_type];kernel_rfl)
theorem sP:TypeCalled "reversed" "reversed.__new__" "object.__init__" :=
 ⟨by decide +kernel,PySem.F.create_reversed,⟨_,_,PySem.F.mro_reversed⟩,PySem.F.made_reversed,by decide +kernel,PySem.F.sub_reversed_self,mU⟩
theorem oW:isSubtype (.type "tuple") (.type "dict")=pure false:=by rw [isSubtype_type];kernel_rfl
def oZ (t:Addr) (i:Int):Obj:={ cls:=.type "reversed",data:=.fields #[.ref t,rawInt i] }
theorem mV (t:Addr) (items:Array Value):Meets (Builtin.«reversed.__new__» ⟨[.type "reversed",.ref t],[]⟩) (fun _ R s=>IsTup s.heap t items∧(items.size:Int)<2^63∧
  R (.ok (.ret (.ref s.heap.objs.size))) { s with heap:=s.heap.push (oZ t ((items.size:Int) - 1)),toks:=s.toks+1+1 }):=
 .of_wp fun prog w A R s h=>by
  obtain ⟨ht,hz,h⟩:=h
  unfold Builtin.«reversed.__new__»
  refine wpAny_bind (wpAny_of_eq (newClass_reversed _) ?_)
  try dsimp only
  refine wpAny_bind (wpAny_of_eq (a:=()) (by first | rfl | kernel_rfl) ?_)
  refine wpAny_bind (wpAny_of_eq (a:=()) (by first | rfl | kernel_rfl) ?_)
  try dsimp only
  refine wpAny_bind (wpAny_specialOf ht.typeIs jW ?_)
  try dsimp only
  refine wpAny_bind (wpAny_bind (wpAny_isInstance (T:= "tuple") (b:=false) ht.typeIs oW ?_))
  rw [if_neg (by simp)]
  refine wpAny_bind (wpAny_specialOf (r:=some (.builtin "tuple.__getitem__")) ht.typeIs slot_tuple_getitem.lookup ?_)
  show wpAny _ _ (if (["tuple.__getitem__", "str.__getitem__", "bytes.__getitem__", "bytearray.__getitem__", "memoryview.__getitem__", "numpy.ndarray.__getitem__", "sqlite3.Row.__getitem__"].contains "tuple.__getitem__")=true then _ else _) _ _ s
  rw [if_pos (by decide)]
  refine wpAny_pure ?_
  rw [if_neg (by simp)]
  refine wpAny_bind (len_tuple ht hz ?_)
  refine wpAny_bind (wpAny_of_eq (a:=some ((items.size:Nat):Int)) rfl ?_)
  show wpAny _ _ (newObj (.type "reversed") (.fields #[.ref t,rawInt ((items.size:Int) - 1)])>>=_) _ _ _
  exact wpAny_bind (wpAny_newObj_type (wpAny_pure ⟨_,rfl,h⟩))
section
variable {prog:Program} {w:World} {A:Around} {E:Value→Shared→Prop} {s:Shared}
theorem iF {t:Addr} {items:Array Value} {Q:Value→Shared→Prop} (ht:IsTup s.heap t items) (hz:(items.size:Int)<2^63)
  (h:Q (.ref s.heap.objs.size) { s with heap:=s.heap.push (oZ t ((items.size:Int) - 1)),toks:=s.toks+1+1 }):wpAny (model prog w) A (call (.type "reversed") [.ref t]) Q E s:=
 callType_new sP (by decide) (PySem.F.typeCall_reversed_1 _) (PySem.F.newCall_reversed_1 _) (fun obj=>PySem.F.args_object_init_2 obj _) PySem.F.entry_reversed_new (mV t items) ⟨ht,hz,⟨_,Heap.get?_push_size _ rfl,rfl⟩,h⟩
def gr (h:Heap) (a t:Addr) (i:Int):Prop:=h.get? a=some (oZ t i)
theorem gr.typeIs {a t:Addr} {i:Int} (x:gr s.heap a t i):s.TypeIs (.ref a) "reversed" :=⟨_,x,rfl⟩
theorem mQ {it t:Addr} {i:Nat} {items:Array Value} {x:Value} {Q:Option Value→Shared→Prop} (hit:gr s.heap it t (i:Int)) (ht:IsTup s.heap t items) (hz:(items.size:Int)<2^63) (hx:items[i]?=some x)
   (hQ:∀ h',gr h' it t ((i:Int) - 1)→Heap.SameBut it s.heap h'→Q (some x) { s with heap:=h',toks:=s.toks+1 }):wpAny (model prog w) A (pyNext (.ref it)) Q E s:=by
 have hi:i<items.size:=by
   rcases Nat.lt_or_ge i items.size with h | h
   · exact h
   · rw [Array.getElem?_eq_none h] at hx;cases hx
 unfold pyNext
 refine wpAny_bind (wpAny_attempt (wpAny_callSpecial?_slot (name:=Str.ofString "__next__") hit.typeIs dq
   (wpAny_call_entry dq hit.typeIs gR ?_ (iC _))))
 unfold Builtin.«reversed.__next__»
 refine wpAny_bind (wpAny_of_eq (a:=(Value.ref it,[])) rfl ?_)
 try dsimp only
 refine wpAny_bind (wpAny_field hit rfl (x:=.ref t) rfl ?_)
 refine wpAny_bind (wpAny_field hit rfl (x:=rawInt (i:Int)) rfl ?_)
 show wpAny _ _ (if (i:Int)<0 then _ else _) _ _ s
 rw [if_neg (by omega)]
 refine wpAny_bind (wpAny_specialOf (r:=some (.builtin "tuple.__getitem__")) ht.typeIs slot_tuple_getitem.lookup ?_)
 rw [if_neg (by simp)]
 refine wpAny_bind (wpAny_mkInt ?_)
 refine wpAny_bind (wpAny_attempt (getItem_tuple (j:=i) (x:=x) ht (by omega) (by omega) ?_ hx ?_))
 · unfold seqIndex?
   simp
   omega
 · refine wpAny_bind (wpAny_field (s:={ s with toks:=s.toks+1 }) hit rfl (x:=rawInt (i:Int)) rfl ?_)
   refine wpAny_bind (wpAny_setField_rec hit (by simp) fun h' y sb=>?_)
   exact wpAny_pure ⟨x,rfl,wpAny_pure (hQ h' y sb)⟩
theorem pf {it t:Addr} {Q:Option Value→Shared→Prop} (hh:A.handled=none) (hit:gr s.heap it t (-1))
  (hQ:∀ h',Heap.ExtBut it s.heap h'→Q none { s with heap:=h' }):wpAny (model prog w) A (pyNext (.ref it)) Q E s:=by
 unfold pyNext
 refine wpAny_bind (wpAny_attempt (wpAny_callSpecial?_slot (name:=Str.ofString "__next__") hit.typeIs dq
  (wpAny_call_entry dq hit.typeIs gR ?_ (iC _))))
 unfold Builtin.«reversed.__next__»
 refine wpAny_bind (wpAny_of_eq (a:=(Value.ref it,[])) rfl ?_)
 try dsimp only
 refine wpAny_bind (wpAny_field hit rfl (x:=.ref t) rfl ?_)
 refine wpAny_bind (wpAny_field hit rfl (x:=rawInt (-1)) rfl ?_)
 show wpAny _ _ (if (-1:Int)<0 then _ else _) _ _ s
 rw [if_pos (by decide)]
 refine wpAny_bind (wpAny_rule ?_)
 refine wpAny_bind (wpAny_bind (wpAny_setField_rec hit (by simp) fun h1 y1 s1=>?_))
 refine wpAny_setField_rec y1 (by simp) fun h2 y2 s2=>?_
 first
 | show wpAny _ _ (newExc (.type "StopIteration") []>>=_) _ _ _
 | (refine wpAny_bind ?_;show wpAny _ _ (newExc (.type "StopIteration") []>>=_) _ _ _)
 refine wpAny_bind ?_
 simp only [newExc,newTuple]
 refine wpAny_bind (wpAny_newObj_type ?_ (by size_fits))
 refine wpAny_bind (m:=firstArgMember _ _) (wpAny_of_eq (a:=Value.none) (by first | rfl | (simp only [firstArgMember];rfl)) ?_)
 refine wpAny_newObj_type ?_ (by size_fits)
 simp only [raiseNew]
 refine wpAny_bind (wpAny_handled ?_)
 first | rw [show A.in1.handled=none from hh] | rw [hh]
 refine wpAny_bind (wpAny_pure (wpAny_throw ?_))
 refine wpAny_bind (wpAny_isInstance (T:= "StopIteration") (b:=true) ⟨_,Heap.get?_push_size _ rfl,rfl⟩ isSubtype_stop ?_)
 have eb:Heap.ExtBut it s.heap h2:=fun c o hc e=>s2.extBut _ _ hc (s1.extBut _ _ hc e)
 exact wpAny_pure (hQ _ ((eb.push _).push _))
theorem pT {it t:Addr} {i:Int} {Q:Value→Shared→Prop} (hit:gr s.heap it t i) (h:Q (.ref it) s):wpAny (model prog w) A (pyIter (.ref it)) Q E s:=by
 refine wpAny_pyIter_slot hit.typeIs iz (wpAny_call_entry iz hit.typeIs lK ?_ (mP _))
 show wpAny _ _ (ret (.ref it)) _ _ s
 exact wpAny_pure ⟨_,rfl, "reversed",_,hit.typeIs,dq.lookup,h⟩
end
end HT
namespace L2
open PySem PySem.Spec PyProof.Rows
def vD (K:W.Frag) (a:Addr) (xs:List V):It:=
 ⟨fun i H=>SqT K H a xs∧i<xs.length,fun i H x H'=>H'=H∧xs.reverse[i]?=some x,fun i _=>xs.length≤i⟩
theorem vB {P:Program} {w:World} {K:W.Frag} {tg:Expr} (a it:Addr) (xs:List V):jU P w K tg (vD K a xs) [it] it (fun i h=>i≤xs.length∧HT.gr h it a ((xs.length:Int) - 1 - i)) where
 mem:=by simp
 obj:=fun i h st b hb=>by
  have e:b=it:=by simpa using hb
  subst e
  exact ⟨_,st.2,fun v z=>by cases z⟩
 keep:=fun i h h' st k=>⟨st.1,k it (by simp) _ st.2⟩
 item:=by
  intro X hP hw hK hc i pins s σ H E I hf st hg
  subst hP hw hK
  obtain ⟨hq,hi⟩:=hg
  obtain ⟨its,rv,p,hz⟩:=I.tuple hq
  obtain ⟨f0,f1,f2,f3,f4,f5⟩:=hf it (by simp)
  have hl:=rv.length
  obtain ⟨x,hx⟩:∃ x,xs[xs.length - 1 - i]?=some x:=⟨_,List.getElem?_eq_getElem (by omega)⟩
  obtain ⟨u,hu,ru⟩:=rv.get hx
  have hrx:xs.reverse[i]?=some x:=by rw [List.getElem?_reverse hi];exact hx
  have e1:(xs.length:Int) - 1 - i=((xs.length - 1 - i:Nat):Int):=by omega
  have st2:=st.2
  rw [e1] at st2
  refine HT.mQ st2 (show IsTup s.heap a its.toArray from p) (by rw [List.size_toArray];rw [sizeLine_eq] at hz;omega) (x:=u) (by simpa using hu) fun h' st' sb=>?_
  have I1:Inv X pins σ H { s with heap:=h',toks:=s.toks+1 }:=I.turned (t':=s.toks+1) (fun b o hb e=>(sb.2 b hb).trans e) f0 f1 f3 f4 f5
  have e2:((xs.length - 1 - i:Nat):Int) - 1=(xs.length:Int) - 1 - ((i+1:Nat):Int):=by omega
  rw [e2] at st'
  exact ⟨u,rfl,kF (s:={ s with heap:=h',toks:=s.toks+1 }) st' rfl rfl (by decide) ⟨x,H,I1,ru,⟨rfl,hrx⟩,⟨hi,st'⟩,fun b hb=>(hf b hb).1⟩⟩
 done:=by
  intro X hP hw hK hc i pins s σ H E I hf st hg
  subst hP hw hK
  obtain ⟨f0,f1,f2,f3,f4,f5⟩:=hf it (by simp)
  have hi:xs.length≤i:=hg
  have e1:(xs.length:Int) - 1 - i= -1:=by have:=st.1;omega
  have st2:=st.2
  rw [e1] at st2
  exact HT.pf (I.ok.hd hc) st2 fun h' eb=>⟨rfl,I.turned (t':=s.toks) (fun b o hb e=>eb b o hb e) f0 f1 f3 f4 f5⟩
 self:=fun A i s Q E st h=>HT.pT st.2 h
theorem pW:bootBuiltins "reversed" =some (.type "reversed"):=by decide +kernel
section
variable {X:Cx} {a:Expr} {t:TA} {p pos:Pos} {tg:Expr}
def xc (K:W.Frag) (t:TA):TI:=fun σ H R=>t σ H fun vs H1=>∃ c xs,vs=[.ref c]∧SqT K H1 c xs∧R (vD K c xs) H1
theorem xS (hm:X.mg "reversed" =none) (ha:QA X [a] t) (hg:Gl X "reversed" :=by rfl) (hs:bh [a]=true:=by rfl):QI X tg (.Call (.Name "reversed" p) [a] [] pos) (xc X.K t):=⟨fun pins s σ H R I h=>by
 have h':(bL a&&bh [])=true:=hs
 refine wpAny_Call_Name_kw (gN I hg hm pW ?_ (by decide) (by decide))
 refine PyProof.Rows.callWith_type1 (thn (ha.out pos pins s σ H _ I h) fun us s1 ⟨vs,H1,I1,r1,q1⟩=>?_)
  (ba (Bool.and_eq_true_iff.mp h').1 [] X.env) (bT (Bool.and_eq_true_iff.mp h').2)
 obtain ⟨c,xs,rfl,hq,q⟩:=q1
 obtain ⟨u,rfl,ru⟩:=fk r1
 cases ru
 obtain ⟨its,rv,p,hz⟩:=I1.tuple hq
 have hl:=rv.length
 refine HT.iF (show IsTup s1.heap c its.toArray from p) (by rw [List.size_toArray];rw [sizeLine_eq] at hz;omega) ?_
 have st:HT.gr (s1.heap.push (HT.oZ c ((its.toArray.size:Int) - 1))) s1.heap.objs.size c ((xs.length:Int) - 1 - ((0:Nat):Int)):=by
  show (s1.heap.push _).get? _=_
  have e:(xs.length:Int) - 1 - ((0:Nat):Int)=(its.toArray.size:Int) - 1:=by rw [List.size_toArray];omega
  rw [e]
  exact Heap.get?_push_size _ rfl
 refine HT.pT (s:={ s1 with heap:=s1.heap.push (HT.oZ c ((its.toArray.size:Int) - 1)),toks:=s1.toks+1+1 }) st ?_
 refine ⟨s1.heap.objs.size,[s1.heap.objs.size],_,_,H1,rfl,I1.kept (t':=s1.toks+1+1) fun b o e=>Heap.get?_push_of_some _ e,vB c _ xs,⟨Nat.zero_le _,st⟩,fun b hb=>?_,q⟩
 have e:b=s1.heap.objs.size:=by simpa using hb
 subst e
 exact I1.fpOk (Nat.le_refl _) (I1.hok.fresh (Nat.le_refl _))⟩
theorem dU.rev {K:W.Frag} {c:Addr} {xs:List V} (d:V):dU (vD K c xs) xs.length (fun i=>xs.reverse.getD i d) (fun H=>SqT K H c xs) where
 go:=fun i H hi h=>⟨h,hi⟩
 yld:=fun i H x H' hi h y=>⟨y.1,by rw [List.getD_eq_getElem?_getD,y.2];rfl⟩
 stop:=fun H h=>Nat.le_refl _
theorem oK : ∀ {ns : List Int} {its : List Value}, aX (ns.map V.int) its → PyProof.Rows.IntsAre its ns
  | [], its, h => by cases h; exact .nil
  | n :: r, its, h => by
    cases h with
    | cons h1 h2 =>
      obtain ⟨t, rfl⟩ := h1
      exact .cons _ _ (oK h2)
def AC (K:W.Frag):List V→Hp→VK→Prop:=fun xs H Q=>∃ (a:Addr) (ns:List Int),xs=[.ref a]∧SqL K H a (ns.map V.int)∧Q (.int ns.sum) H
theorem HH (hc:X.calm=true):bG X (.builtin "sum") (AC X.K):=fun pins s σ H xs us Q I r h=>by
 obtain ⟨a,ns,rfl,hq,q⟩:=h
 obtain ⟨u,rfl,ru⟩:=fk r
 cases ru
 obtain ⟨its,rv,p,hz⟩:=I.list hq
 have hi:=oK rv
 obtain ⟨ys,hy⟩:=hi.allInts.items
 have hl':s.heap.IsList a (intItems ys):=hy▸oM p
 refine sum_intListG (I.ok.hd hc) hl' fun h' tk t' hk=>?_
 have e1:ns=ys.toList.map (·.1):=by
  rw [← nums_intItems,←hy]
  exact (show numsOf its.toArray.toList=ns from hi.numsOf).symm
 have e2:preSum (numAt ys) ys.size=ns.sum:=by
  rw [preSum_eq,List.take_of_length_le (by simp),e1]
 rw [e2]
 exact ⟨.int ns.sum,H,I.kept (t':=tk) hk,⟨_,rfl⟩,q⟩
theorem vG:OpR X (binaryOp .FloorDiv) (rI (fun _ j=>0<j∧j<1267650600228229401496703205376) fun i j=> .int (i/j)):=opI fun i j _ _ _ _ _ hc q=>by
 have h1:(0:Int)<j:=hc.1
 have h2:j<1267650600228229401496703205376:=hc.2
 have h3:j.natAbs.log2<100:=(Nat.log2_lt (by omega)).mpr (Nat.lt_of_lt_of_eq (m:=1267650600228229401496703205376) (by omega) (by decide))
 exact floordiv_int (by omega) (by rw [Int.fdiv_eq_ediv_of_nonneg i (by omega)];exact q) (.inl (PyProof.noPylong_of_log2 (by omega)))
def bw:R2:=fun x y H Q=>match x,y with | .int i,.int j=>(0<j∧j<1267650600228229401496703205376)∧Q (.int (i/j)) H | _,_=>False
theorem cq:OpR X (binaryOp .FloorDiv) bw:=vG.imp fun x y H Q q=>by
 unfold bw at q
 split at q
 · exact ⟨_,_,rfl,rfl,q.1,q.2⟩
 · exact q.elim
end
end L2
namespace L2
open PySem PySem.Spec PyProof.Rows
section
variable {X:Cx}
end
section
variable {α:Type} {l:List α}
theorem tG (h:l.length=0):l=[]:=List.length_eq_zero_iff.mp h
theorem er (h : l.length = 1) : ∃ a0, l = [a0] := by
  cases l with
  | nil => simp at h
  | cons a l =>
    obtain rfl := tG (l := l) (by simpa using h)
    exact ⟨a, rfl⟩
theorem sS (h : l.length = 2) : ∃ a0 a1, l = [a0, a1] := by
  cases l with
  | nil => simp at h
  | cons a l =>
    obtain ⟨b0, rfl⟩ := er (l := l) (by simpa using h)
    exact ⟨a, b0, rfl⟩
theorem yz (h : l.length = 3) : ∃ a0 a1 a2, l = [a0, a1, a2] := by
  cases l with
  | nil => simp at h
  | cons a l =>
    obtain ⟨b0, b1, rfl⟩ := sS (l := l) (by simpa using h)
    exact ⟨a, b0, b1, rfl⟩
theorem yf (h : l.length = 4) : ∃ a0 a1 a2 a3, l = [a0, a1, a2, a3] := by
  cases l with
  | nil => simp at h
  | cons a l =>
    obtain ⟨b0, b1, b2, rfl⟩ := yz (l := l) (by simpa using h)
    exact ⟨a, b0, b1, b2, rfl⟩
theorem yc (h : l.length = 5) : ∃ a0 a1 a2 a3 a4, l = [a0, a1, a2, a3, a4] := by
  cases l with
  | nil => simp at h
  | cons a l =>
    obtain ⟨b0, b1, b2, b3, rfl⟩ := yf (l := l) (by simpa using h)
    exact ⟨a, b0, b1, b2, b3, rfl⟩
theorem yq (h : l.length = 6) : ∃ a0 a1 a2 a3 a4 a5, l = [a0, a1, a2, a3, a4, a5] := by
  cases l with
  | nil => simp at h
  | cons a l =>
    obtain ⟨b0, b1, b2, b3, b4, rfl⟩ := yc (l := l) (by simpa using h)
    exact ⟨a, b0, b1, b2, b3, b4, rfl⟩
theorem FQ (h : l.length = 7) : ∃ a0 a1 a2 a3 a4 a5 a6, l = [a0, a1, a2, a3, a4, a5, a6] := by
  cases l with
  | nil => simp at h
  | cons a l =>
    obtain ⟨b0, b1, b2, b3, b4, b5, rfl⟩ := yq (l := l) (by simpa using h)
    exact ⟨a, b0, b1, b2, b3, b4, b5, rfl⟩
end
end L2
namespace L2
open PySem PySem.Spec PyProof.Rows
section
variable {X:Cx}
end
end L2
namespace L2
open PySem PySem.Spec PyProof.Rows
end L2
namespace L2
open PySem PySem.Spec PyProof.Rows
section
variable {X:Cx} {pos ep px py pz:Pos} {ek:Nat} {x y z:Str} {iter:Expr} {wi:TI} {tS:TS}
end
end L2
namespace L2
open PySem PySem.Spec PyProof.Rows
theorem bg.le {A:Around} {m n:Nat} (h:bg m A) (d:n≤m:=by first | decide | omega):bg n A:=h.mono d
theorem scF {N P:List Str} {sc:Scope} (h1:sc.kind=.function:=by rfl) (h2:sc.isCoroutine=false:=by rfl) (h3:sc.isGenerator=false:=by rfl) (h4:N.Nodup:=by decide +kernel) (h5:N.take P.length=P:=by rfl)
 (h6:∀ x∈P,sc.names.lookup x=some .local∨sc.names.lookup x=some .cell:=by decide +kernel) (h7:∀ y∈sc.names,y.2≠ .free:=by decide +kernel):aA N P sc:=⟨h1,h2,h3,h4,h5,h6,h7⟩
structure Fm (K:W.Frag) (mg:Str→Option Value) (x qual:Str) (st:Stmt) (a:Addr) (d:FuncData) (ps:List Str):Prop where
 f:Fun K x qual st a d
 m:mg x=some (.ref a)
 b:bH K d ps []
structure Fa (K:W.Frag) (x qual:Str) (st:Stmt) (a:Addr) (d:FuncData):Prop where
 m:W.nsIn K mainGlobals x=some (some (.ref a))
 f:Fun K x qual st a d
section
variable {P:Program} {w:World} {K:W.Frag} {mg:Str→Option Value} {base h:Heap} {x qual:Str} {st:Stmt} {a:Addr} {d:FuncData} {ps:List Str}
theorem aZ {oc:Value} {od an:Option Addr} {osl:Array (Option Value)} {kV doc pm cdv ct:Value} (m:W.nsIn K mainGlobals x=some (some (.ref a))) (l:K.lookup a=some ⟨oc,od,.func (W.fnOf x qual (bD st) (aO st) (al st) .none kV doc pm an cdv ct),osl⟩)
 (c:W.codeIn K cdv qual=true) (k:W.keepIn K (.ref a)=true):Fa K x qual st a (W.fnOf x qual (bD st) (aO st) (al st) .none kV doc pm an cdv ct):=⟨m,dY l c k⟩
theorem Fa.code (F:Fa K x qual st a d) (X:K.In h) (G:h.Ns mainGlobals mg) {z t:Addr} (ht:W.tabIn K x=some (z,t)):d.code=.ref z:=by
 obtain ⟨oc,od,kV,doc,pm,an,cdv,ct,osl,e,lk,hcd⟩:=F.f.ex
 exact W.law_code X G ht (W.mg_of X G F.m) (X _ _ lk) rfl
theorem Fun.bt {p:Str} (F:Fun K x qual st a d) (hb:∀ (kV doc pm:Value) (an:Option Addr) (cdv ct v:Value),bindArgs (W.fnOf x qual (bD st) (aO st) (al st) .none kV doc pm an cdv ct) ⟨[v],[]⟩=pure [(p,v)]:=by intros;rfl) (s:Shared) (v:Value):BindsTo s d ⟨[v],[]⟩ [(p,v)]:=by
 obtain ⟨oc,od,kV,doc,pm,an,cdv,ct,osl,rfl,lk,hcd⟩:=F.ex
 exact .of_eq (hb kV doc pm an cdv ct v)
theorem Fun.b0 (F:Fun K x qual st a d) (hb:∀ (kV doc pm:Value) (an:Option Addr) (cdv ct:Value),bindArgs (W.fnOf x qual (bD st) (aO st) (al st) .none kV doc pm an cdv ct) ⟨[],[]⟩=pure (List.zip [] []):=by intros;rfl):bH K d [] []:=F.binds fun kV doc pm an cdv ct us hl=>by
 obtain rfl:=L2.tG hl
 exact hb kV doc pm an cdv ct
theorem Fa.fm0 (F:Fa K x qual st a d) (X:K.In h) (G:h.Ns mainGlobals mg) (hb:∀ (kV doc pm:Value) (an:Option Addr) (cdv ct:Value),bindArgs (W.fnOf x qual (bD st) (aO st) (al st) .none kV doc pm an cdv ct) ⟨[],[]⟩=pure (List.zip [] []):=by intros;rfl):Fm K mg x qual st a d []:=⟨F.f,W.mg_of X G F.m,F.f.b0 hb⟩
theorem Fun.b1 {p0:Str} (F:Fun K x qual st a d) (hb:∀ (kV doc pm:Value) (an:Option Addr) (cdv ct u0:Value),bindArgs (W.fnOf x qual (bD st) (aO st) (al st) .none kV doc pm an cdv ct) ⟨[u0],[]⟩=pure (List.zip [p0] [u0]):=by intros;rfl):bH K d [p0] []:=F.binds fun kV doc pm an cdv ct us hl=>by
 obtain ⟨u0,rfl⟩:=L2.er hl
 exact hb kV doc pm an cdv ct u0
theorem Fa.fm1 {p0:Str} (F:Fa K x qual st a d) (X:K.In h) (G:h.Ns mainGlobals mg) (hb:∀ (kV doc pm:Value) (an:Option Addr) (cdv ct u0:Value),bindArgs (W.fnOf x qual (bD st) (aO st) (al st) .none kV doc pm an cdv ct) ⟨[u0],[]⟩=pure (List.zip [p0] [u0]):=by intros;rfl):Fm K mg x qual st a d [p0]:=⟨F.f,W.mg_of X G F.m,F.f.b1 hb⟩
theorem Fun.b2 {p0 p1:Str} (F:Fun K x qual st a d) (hb:∀ (kV doc pm:Value) (an:Option Addr) (cdv ct u0 u1:Value),bindArgs (W.fnOf x qual (bD st) (aO st) (al st) .none kV doc pm an cdv ct) ⟨[u0,u1],[]⟩=pure (List.zip [p0,p1] [u0,u1]):=by intros;rfl):bH K d [p0,p1] []:=F.binds fun kV doc pm an cdv ct us hl=>by
 obtain ⟨u0,u1,rfl⟩:=L2.sS hl
 exact hb kV doc pm an cdv ct u0 u1
theorem Fa.fm2 {p0 p1:Str} (F:Fa K x qual st a d) (X:K.In h) (G:h.Ns mainGlobals mg) (hb:∀ (kV doc pm:Value) (an:Option Addr) (cdv ct u0 u1:Value),bindArgs (W.fnOf x qual (bD st) (aO st) (al st) .none kV doc pm an cdv ct) ⟨[u0,u1],[]⟩=pure (List.zip [p0,p1] [u0,u1]):=by intros;rfl):Fm K mg x qual st a d [p0,p1]:=⟨F.f,W.mg_of X G F.m,F.f.b2 hb⟩
theorem Fun.b3 {p0 p1 p2:Str} (F:Fun K x qual st a d) (hb:∀ (kV doc pm:Value) (an:Option Addr) (cdv ct u0 u1 u2:Value),bindArgs (W.fnOf x qual (bD st) (aO st) (al st) .none kV doc pm an cdv ct) ⟨[u0,u1,u2],[]⟩=pure (List.zip [p0,p1,p2] [u0,u1,u2]):=by intros;rfl):bH K d [p0,p1,p2] []:=F.binds fun kV doc pm an cdv ct us hl=>by
 obtain ⟨u0,u1,u2,rfl⟩:=L2.yz hl
 exact hb kV doc pm an cdv ct u0 u1 u2
theorem Fa.fm3 {p0 p1 p2:Str} (F:Fa K x qual st a d) (X:K.In h) (G:h.Ns mainGlobals mg) (hb:∀ (kV doc pm:Value) (an:Option Addr) (cdv ct u0 u1 u2:Value),bindArgs (W.fnOf x qual (bD st) (aO st) (al st) .none kV doc pm an cdv ct) ⟨[u0,u1,u2],[]⟩=pure (List.zip [p0,p1,p2] [u0,u1,u2]):=by intros;rfl):Fm K mg x qual st a d [p0,p1,p2]:=⟨F.f,W.mg_of X G F.m,F.f.b3 hb⟩
theorem Fun.b4 {p0 p1 p2 p3:Str} (F:Fun K x qual st a d) (hb:∀ (kV doc pm:Value) (an:Option Addr) (cdv ct u0 u1 u2 u3:Value),bindArgs (W.fnOf x qual (bD st) (aO st) (al st) .none kV doc pm an cdv ct) ⟨[u0,u1,u2,u3],[]⟩=pure (List.zip [p0,p1,p2,p3] [u0,u1,u2,u3]):=by intros;rfl):bH K d [p0,p1,p2,p3] []:=F.binds fun kV doc pm an cdv ct us hl=>by
 obtain ⟨u0,u1,u2,u3,rfl⟩:=L2.yf hl
 exact hb kV doc pm an cdv ct u0 u1 u2 u3
theorem Fa.fm4 {p0 p1 p2 p3:Str} (F:Fa K x qual st a d) (X:K.In h) (G:h.Ns mainGlobals mg) (hb:∀ (kV doc pm:Value) (an:Option Addr) (cdv ct u0 u1 u2 u3:Value),bindArgs (W.fnOf x qual (bD st) (aO st) (al st) .none kV doc pm an cdv ct) ⟨[u0,u1,u2,u3],[]⟩=pure (List.zip [p0,p1,p2,p3] [u0,u1,u2,u3]):=by intros;rfl):Fm K mg x qual st a d [p0,p1,p2,p3]:=⟨F.f,W.mg_of X G F.m,F.f.b4 hb⟩
theorem Fun.b5 {p0 p1 p2 p3 p4:Str} (F:Fun K x qual st a d) (hb:∀ (kV doc pm:Value) (an:Option Addr) (cdv ct u0 u1 u2 u3 u4:Value),bindArgs (W.fnOf x qual (bD st) (aO st) (al st) .none kV doc pm an cdv ct) ⟨[u0,u1,u2,u3,u4],[]⟩=pure (List.zip [p0,p1,p2,p3,p4] [u0,u1,u2,u3,u4]):=by intros;rfl):bH K d [p0,p1,p2,p3,p4] []:=F.binds fun kV doc pm an cdv ct us hl=>by
 obtain ⟨u0,u1,u2,u3,u4,rfl⟩:=L2.yc hl
 exact hb kV doc pm an cdv ct u0 u1 u2 u3 u4
theorem Fa.fm5 {p0 p1 p2 p3 p4:Str} (F:Fa K x qual st a d) (X:K.In h) (G:h.Ns mainGlobals mg) (hb:∀ (kV doc pm:Value) (an:Option Addr) (cdv ct u0 u1 u2 u3 u4:Value),bindArgs (W.fnOf x qual (bD st) (aO st) (al st) .none kV doc pm an cdv ct) ⟨[u0,u1,u2,u3,u4],[]⟩=pure (List.zip [p0,p1,p2,p3,p4] [u0,u1,u2,u3,u4]):=by intros;rfl):Fm K mg x qual st a d [p0,p1,p2,p3,p4]:=⟨F.f,W.mg_of X G F.m,F.f.b5 hb⟩
theorem Fun.b6 {p0 p1 p2 p3 p4 p5:Str} (F:Fun K x qual st a d) (hb:∀ (kV doc pm:Value) (an:Option Addr) (cdv ct u0 u1 u2 u3 u4 u5:Value),bindArgs (W.fnOf x qual (bD st) (aO st) (al st) .none kV doc pm an cdv ct) ⟨[u0,u1,u2,u3,u4,u5],[]⟩=pure (List.zip [p0,p1,p2,p3,p4,p5] [u0,u1,u2,u3,u4,u5]):=by intros;rfl):bH K d [p0,p1,p2,p3,p4,p5] []:=F.binds fun kV doc pm an cdv ct us hl=>by
 obtain ⟨u0,u1,u2,u3,u4,u5,rfl⟩:=L2.yq hl
 exact hb kV doc pm an cdv ct u0 u1 u2 u3 u4 u5
theorem Fa.fm6 {p0 p1 p2 p3 p4 p5:Str} (F:Fa K x qual st a d) (X:K.In h) (G:h.Ns mainGlobals mg) (hb:∀ (kV doc pm:Value) (an:Option Addr) (cdv ct u0 u1 u2 u3 u4 u5:Value),bindArgs (W.fnOf x qual (bD st) (aO st) (al st) .none kV doc pm an cdv ct) ⟨[u0,u1,u2,u3,u4,u5],[]⟩=pure (List.zip [p0,p1,p2,p3,p4,p5] [u0,u1,u2,u3,u4,u5]):=by intros;rfl):Fm K mg x qual st a d [p0,p1,p2,p3,p4,p5]:=⟨F.f,W.mg_of X G F.m,F.f.b6 hb⟩
theorem Fun.b7 {p0 p1 p2 p3 p4 p5 p6:Str} (F:Fun K x qual st a d) (hb:∀ (kV doc pm:Value) (an:Option Addr) (cdv ct u0 u1 u2 u3 u4 u5 u6:Value),bindArgs (W.fnOf x qual (bD st) (aO st) (al st) .none kV doc pm an cdv ct) ⟨[u0,u1,u2,u3,u4,u5,u6],[]⟩=pure (List.zip [p0,p1,p2,p3,p4,p5,p6] [u0,u1,u2,u3,u4,u5,u6]):=by intros;rfl):bH K d [p0,p1,p2,p3,p4,p5,p6] []:=F.binds fun kV doc pm an cdv ct us hl=>by
 obtain ⟨u0,u1,u2,u3,u4,u5,u6,rfl⟩:=L2.FQ hl
 exact hb kV doc pm an cdv ct u0 u1 u2 u3 u4 u5 u6
theorem Fa.fm7 {p0 p1 p2 p3 p4 p5 p6:Str} (F:Fa K x qual st a d) (X:K.In h) (G:h.Ns mainGlobals mg) (hb:∀ (kV doc pm:Value) (an:Option Addr) (cdv ct u0 u1 u2 u3 u4 u5 u6:Value),bindArgs (W.fnOf x qual (bD st) (aO st) (al st) .none kV doc pm an cdv ct) ⟨[u0,u1,u2,u3,u4,u5,u6],[]⟩=pure (List.zip [p0,p1,p2,p3,p4,p5,p6] [u0,u1,u2,u3,u4,u5,u6]):=by intros;rfl):Fm K mg x qual st a d [p0,p1,p2,p3,p4,p5,p6]:=⟨F.f,W.mg_of X G F.m,F.f.b7 hb⟩
theorem Fun.okS {CX:CXT} {N:List Str} {k:Nat} {sp:Sp} {t:TS} (F:Fun K x qual st a d) (S:aA N ps (al st)) (len:∀ vs H Q E,sp vs H Q E→vs.length=ps.length)
  (hrd:∀ (vs:List V) (H:Hp) (Q:VK) (E:XK),sp vs H Q E→t { nx:=fun _ H'=>Q .non H',rt:=Q } (bU N vs) H)
  (hq:∀ (cdv:Value) (A:Around) (outer:List Env) (s:Shared) (H:Hp) (E:XK),bg k (A.deeper (envOfC qual (al st) s.heap.objs.size a cdv))→QSs (cF CX P w K mg base N qual (al st) a cdv A outer s H E).nox (aO st) t):aP P w K mg base CX (k+1) a d ps sp:=
 F.okN S len fun cdv A outer s H vs Q E hr h=>⟨t,(hq cdv A outer s H E hr).out,hrd vs H Q E h⟩
end
section
variable {X:Cx} {x q:Str} {e:Expr} {es:List Expr} {t:TA} {p pos:Pos} {st:Stmt} {f:Addr} {fd:FuncData} {ps:List Str} {k:Nat} {sp:Sp}
theorem aL {P:Program} {w:World} (F:aP X.prog X.w X.K X.mg X.base (CX1 P w) k f fd ps sp) (hr:bg k X.A) (M:Fm X.K X.mg x q st f fd ps)
 (ha:QA X (e::es) t) (hg:Gl X x:=by rfl) (hdb:(x==("__debug__" :Str))=false:=by decide) (hs:bh (e::es)=true:=by rfl):QE X (.Call (.Name x p) (e::es) [] pos) (aq sp (fun _=>E0) t):=dz F hr M.m M.f.kp M.b cU ha hg hdb hs
end
end L2
namespace L2
open PySem PySem.Spec PyProof.Rows
section
variable {X:Cx}
end
end L2
namespace L2
open PySem PySem.Spec PyProof.Rows
section
variable {K:W.Frag} {mg:Str→Option Value} {h:Heap} {x qual:Str} {st:Stmt} {a:Addr} {d:FuncData}
end
end L2
namespace L2
open PySem PySem.Spec PyProof.Rows
section
variable {X:Cx} {pins:List (Addr×Obj)} {σ:St} {H:Hp} {s:Shared} {A:Around} {E:Value→Shared→Prop} {a C dx:Addr} {fs:List (Str×V)} {v:V}
end
section
variable {X:Cx} {k:Nat} {C:Addr} {E:St→XK} {m:Str} {pos apos:Pos} {e o:Expr} {es:List Expr} {ta:TE} {t:TA}
end
end L2
namespace HT
open PySem PyProof.Rows
section
variable {prog:Program} {w:World} {A:Around} {s:Shared} {R:Result→Shared→Prop}
variable {I:Addr} {fp wr:List Addr} {G:Array GenState→Array GenState→Prop} {n:Nat} {P:Nat→Value→Prop} {St:Nat→Shared→Prop}
end
section
variable {prog:Program} {w:World} {A:Around} {E:Value→Shared→Prop} {s:Shared}
variable {I:Addr} {fp wr:List Addr} {G:Array GenState→Array GenState→Prop} {n:Nat} {P:Nat→Value→Prop} {St:Nat→Shared→Prop}
end
end HT
namespace L2
open PySem PySem.Spec PyProof.Rows
section
variable {X:Cx} {pins:List (Addr×Obj)} {σ:St} {H:Hp} {s:Shared}
end
section
variable {X:Cx} {a:Expr} {t:TA} {p1 p2 pos1 pos2:Pos}
end
end L2
namespace L2
open PySem PySem.Spec PyProof.Rows
section
variable {X:Cx} {tg:Expr}
end
section
variable {X:Cx} {a b:Expr} {t:TA} {p pos ep:Pos} {elts:List Expr} {ek:Nat}
end
end L2
namespace HT
open PySem PyProof.Rows
section
variable {prog:Program} {w:World} {A:Around} {E:Value→Shared→Prop} {s:Shared}
end
section
variable {prog:Program} {w:World} {A:Around} {s:Shared} {R:Result→Shared→Prop} {xs ys:Array Value}
end
end HT
namespace HT
open PySem PyProof.Rows
section
variable {prog:Program} {w:World} {A:Around} {s:Shared} {R:Result→Shared→Prop} {xs ys:Array Value} {z TI TO i1 i2 l t S:Addr}
end
section
variable {prog:Program} {w:World} {A:Around} {E:Value→Shared→Prop} {s:Shared} {xs ys:Array Value} {z TI TO i1 i2 l t:Addr}
end
end HT
namespace L2
open PySem PySem.Spec PyProof.Rows
section
variable {X:Cx} {pins:List (Addr×Obj)} {σ:St} {H:Hp} {s:Shared} {h':Heap}
end
section
variable {X:Cx} {a b:Expr} {t:TA} {p1 p2 pos1 pos2:Pos}
end
section
variable {X:Cx} {a:Expr} {t:TA} {p pos:Pos} {tg:Expr}
end
end L2
namespace HT
open PySem PySem.W PyProof.Rows
abbrev kc (C t:Addr) (d:Option Addr):Obj:={ cls:=.ref C,dict:=d,data:=.fields #[.ref t,.none,.none,.none,.bool false,.none] }
abbrev gE (h:Heap) (C:Addr) (us:List Value):Heap:=(h.push { cls:=.type "tuple",data:=.seq us.toArray }).push (kc C h.objs.size none)
section
variable {prog:Program} {w:World} {A:Around} {K:Frag} {C f:Addr} {R:Result→Shared→Prop} {h:Heap} {g:Array GenState} {d:Drawn} {t:Nat} {os:OsState}
theorem wR {us:List Value} (X:K.In h) (hC:L2.bW K C) (hi:findIn K (.ref C) "__init__" =some (some (.ref f))) (hf:typeIn K (.ref f)=some (.type "function")) (hus:us.length≤sizeLine)
  (hq:codeAny (model prog w) (A.under (.builtin "type.__call__" ⟨.ref C::us,[]⟩)) (.call (.ref f) ⟨.ref (h.objs.size+1)::us,[]⟩) (InitBack (h.objs.size+1) R) ⟨gE h C us,g,d,t,os⟩):
  codeAny (model prog w) A (.call (.ref C) ⟨us,[]⟩) R ⟨h,g,d,t,os⟩:=by
 obtain ⟨bm,N,nm,qn,bs,hdct,sn,sub,ab,col,dd,k0,k1,k2,k3,k5,mN,oC,hN,_,T,_⟩:=L2.eJ X hC
 have f1:=tc_lookup
 have f2:=tc_bind (.ref C)
 have hT:(⟨h,g,d,t,os⟩:Shared).TypeIs (.ref C) "type" :=⟨_,oC,rfl⟩
 have FB:=F.excBase_ValueError
 have hBn:(L2.veM).contains (.type "ValueError")=true:=by decide +kernel
 refine codeAny_of_tree ?_
 show wpAny _ _ (callAny (.ref C) _) _ _ _
 repeat (any_goals (first | assumption | with_reducible refine wpAny_loadPart_at oC ?_ | wp_step))
 refine ⟨rfl,?_⟩
 refine codeAny_call_builtin_at (Code.quiet_builtin _ (by decide +kernel)) entry_typeCall (wpAny_check_type_call_sub oC ?_)
 repeat (first | with_reducible refine wpAny_loadPart_at oC ?_ | with_reducible refine wpAny_madeBy_exc oC ?_ | wp_step)
 refine codeAny_call_builtin_code (Code.quiet_builtin _ FB.quiet) (wpAny_check_new_subU FB hBn T oC ?_)
 refine codeAny_exc_new_subU FB hBn FB T oC ?_ hus
 show wpAny _ _ _ _ _ _
 have k:∀ b o,h.get? b=some o→(gE h C us).get? b=some o:=fun b o e=>Heap.get?_push_of_some _ (Heap.get?_push_of_some _ e)
 have hx:(gE h C us).get? (h.objs.size+1)=some (kc C h.objs.size none):=by heap_get
 have oC1:=k _ _ oC
 have hcC:(Value.ref C::bm).contains (.ref C)=true:=by simp
 have t1:Looks (model prog w) (gE h C us) (typeOf (.ref (h.objs.size+1))) (.ref C):=(Looks.ld hx).andThen .now
 have i1:=(looks_findIn (M:=model prog w) X hi).keeps k
 have b1:=(bind_fn (M:=model prog w) X (.ref (h.objs.size+1)) hf).keeps k
 unfold isInstance
 repeat (first | with_reducible refine wpAny_loadPart_at hx ?_ | (with_reducible refine wpAny_isSubtype_exc oC1 ?_;rw [hcC]) | wp_step)
 show wpAny _ _ (isSubtype (.ref C) (.ref C)) _ _ ⟨gE h C us,g,d,t,os⟩
 refine wpAny_isSubtype_exc oC1 ?_
 rw [hcC,if_neg (by decide)]
 unfold callSpecial? specialOf
 repeat (first | with_reducible refine wpAny_call ?_ | lk)
 refine codeAny_mono hq fun r s' z=>?_
 rcases r with e | (v | _ | _ | _) <;> first | exact z | exact z.elim | skip
 obtain ⟨rfl,z⟩:=z
 exact wpAny_pure (wpAny_pure z)
end
end HT
namespace HT
open PySem PySem.W PyProof.Rows
open Builtin Builtin.ObjectAttr
theorem qf (self:Value) {h:Heap} {bm:List Value} (T:OwnTail h L2.veM bm):refuseLoop self "__setattr__" bm=pure ():=by
 induction T with
 | base=>exact PySem.F.store_ValueError.passes self
 | own _ _ _ _ ih=>rw [refuseLoop_ref];exact ih
structure fq (K:Frag) (C:Addr) (name:Str):Prop where
 ok:L2.bW K C
 sa:findIn K (.ref C) "__setattr__" =some (some (.builtin "object.__setattr__"))
 eg:L2.cJ K C
 no:findIn K (.ref C) name=some none
 hd:hasDictIn K C=true
section
variable {prog:Program} {w:World} {A:Around} {E:Value→Shared→Prop} {s:Shared} {K:Frag} {x C:Addr} {name:Str} {v:Value}
theorem qx {ox : Obj} {od : Option Obj} {tk : Tok} {R : Result → Shared → Prop} (X : K.In s.heap) (I : InstAt s.heap x ox C od) (G : fq K C name)
  (h : wpAny (model prog w) A.in1 (storeInOwnDict (.ref x) (.ref C) (.str name tk) name v false)
   (fun fin s' => match fin with | .done f => R (.ok f) s' | .again c' => c'.quiet = true ∧ codeAny (model prog w) A c' R s') (fun e s' => R (.error e) s') s) :
  codeAny (model prog w) A (.call (.builtin "object.__setattr__") ⟨[.ref x, .str name tk, v], []⟩) R s := by
 have SF := PySem.F.store_object
 obtain ⟨bm, N, nm, qn, bs, hdct, sn, sub, ab, col, dd, k0, k1, k2, k3, k5, mN, oC, hN, _, T, _⟩ := L2.eJ X G.ok
 have hm : Looks (model prog w) s.heap (mroOf (.ref C)) (.ref C :: bm) := ((Looks.ld (part := none) oC).andThen .now).andThen .now
 have hsub : Looks (model prog w) s.heap (isSubtype (.ref C) (.type "object")) true := fun A' Q' E' s' k q => by
  obtain ⟨hh, g, d, t, os⟩ := s'
  refine wpAny_isSubtype_exc (k _ _ oC) ?_
  rw [List.contains_cons, T.hasType (X := "object") (b := true) (by decide +kernel), Bool.or_true]; exact q
 have hsub' : Looks (model prog w) s.heap (isInstance (.ref x) (.type "object")) true := I.type.andThen hsub
 refine codeAny_call_builtin SF.slot.plain SF.entry (@check_slot (model prog w) _ _ s "object.__setattr__" "object" "__setattr__" (.ref x) [.str name tk, v] [] _ SF.kind SF.split hsub' (SF.args (.ref x) (.str name tk) v) ?_)
 rw [osa_eq, refuse_eq]
 refine wpAny_bind (wpAny_bind (I.type.here (wpAny_bind (hm.here ?_))))
 rw [refuseLoop_ref, qf _ T]
 exact wpAny_pure (wpAny_bind (I.type.here (wpAny_bind ((looks_findIn X G.no).here (wpAny_bind (wpAny_pure h))))))
theorem zF {ox:Obj} {dx:Addr} {mA:Str→Option Value} {ns:List Str} {Q:Unit→Shared→Prop} (X:K.In s.heap) (hx:s.heap.get? x=some ox) (hc:ox.cls=.ref C) (hdx:ox.dict=some dx) (hf:∃ vs,ox.data=.fields vs) (hn:s.heap.Ns1 dx mA) (ne:dx≠x) (G:fq K C name)
  (hw:Within mA ns) (hsz:ns.length≤sizeLine) (h:∀ h' t',h'.Ns1 dx (fun y=>if y=name then some v else mA y)→Heap.SameBut dx s.heap h'→Q () { s with heap:=h',toks:=t' }):wpAny (model prog w) A (setAttr (.ref x) name v) Q E s:=by
 obtain ⟨vs,hvs⟩:=hf
 obtain ⟨oc,od,odt,osl⟩:=ox
 dsimp only at hc hdx hvs
 subst hc hdx hvs
 obtain ⟨oD0,esD0,epD0,hoD0,_⟩:=id hn
 have J:InstAt s.heap x _ C (some oD0):=⟨hx,rfl,rfl,hoD0⟩
 refine set_plain X J G.sa (qx (s:={ s with toks:=s.toks+1 }) X J G ?_)
 obtain ⟨cd,hcc,hd'⟩:=any_some G.hd
 refine wpAny_bind (wpAny_pure (wpAny_bind (wpAny_bind (wpAny_loadPart hx (wpAny_bind (Looks.here (s:={ s with toks:=s.toks+1 }) (looks_clsIn X hcc) ?_))))))
 rw [hd']
 refine wpAny_pure (a:=some dx) (wpAny_bind (wpAny_pure (wpAny_bind ?_)))
 refine wpAny_nsSet1 (s:={ s with toks:=s.toks+1 }) hn fun h' hn2 hs2=>?_
 obtain ⟨oD,esD,epD,hoD,hdD,hcD⟩:=hn2.count (Within.cons name v hw)
 refine wpAny_bind (wpAny_lookBehind hoD (by rw [hdD];exact pastItsLine_dict (Nat.le_trans hcD (by rw [List.length_cons];omega))) ?_)
 exact wpAny_pure (h _ _ hn2 hs2)
theorem xD {ox:Obj} {Q:Unit→Shared→Prop} (X:K.In s.heap) (hx:s.heap.get? x=some ox) (hc:ox.cls=.ref C) (hdx:ox.dict=none) (hf:∃ vs,ox.data=.fields vs) (G:fq K C name)
  (h:∀ h' t',h'.get? x=some { ox with dict:=some s.heap.objs.size }→h'.Ns1 s.heap.objs.size (fun y=>if y=name then some v else none)→(∀ b o,b≠x→s.heap.get? b=some o→h'.get? b=some o)→Q () { s with heap:=h',toks:=t' }):
  wpAny (model prog w) A (setAttr (.ref x) name v) Q E s:=by
 obtain ⟨vs,hvs⟩:=hf
 obtain ⟨oc,od,odt,osl⟩:=ox
 dsimp only at hc hdx hvs
 subst hc hdx hvs
 have J:InstAt s.heap x _ C none:=⟨hx,rfl,rfl,trivial⟩
 refine set_plain X J G.sa (qx (s:={ s with toks:=s.toks+1 }) X J G ?_)
 obtain ⟨cd,hcc,hd'⟩:=any_some G.hd
 refine wpAny_bind (wpAny_pure (wpAny_bind (wpAny_bind (wpAny_loadPart hx (wpAny_bind (Looks.here (s:={ s with toks:=s.toks+1 }) (looks_clsIn X hcc) ?_))))))
 rw [hd']
 show wpAny _ _ (alloc { cls:=.type "dict",data:=.dict #[] }>>=fun d=>update x (fun o=>{ o with dict:=some d })>>=fun _=>pure (some d)) _ _ _
 have xs:x≠s.heap.objs.size:=Nat.ne_of_lt (Heap.lt_size hx)
 have hx1:(s.heap.push { cls:=.type "dict",data:=.dict #[] }).get? x=some _:=Heap.get?_push_of_some _ hx
 refine wpAny_bind (wpAny_alloc' (wpAny_bind (wpAny_update' hx1 (wpAny_pure ?_))))
 generalize hh2:((s.heap.push { cls:=.type "dict",data:=.dict #[] }).update x fun o=>{ o with dict:=some s.heap.objs.size })=h2
 have hx2:h2.get? x=some ⟨.ref C,some s.heap.objs.size,.fields vs,osl⟩:=by rw [← hh2];exact Heap.get?_update_self _ hx1 rfl
 have hd2:h2.get? s.heap.objs.size=some { cls:=.type "dict",data:=.dict #[] }:=by rw [← hh2];exact (Heap.get?_update_ne _ _ _ _ xs.symm).trans (Heap.get?_push_at rfl rfl)
 have k2:∀ b o,b≠x→s.heap.get? b=some o→h2.get? b=some o:=fun b o nb e=>by rw [← hh2];exact (Heap.get?_update_ne _ _ _ _ nb).trans (Heap.get?_push_of_some _ e)
 have n2:h2.Ns s.heap.objs.size (fun _=>none):=⟨_,#[],_,hd2,rfl,fun e he=>absurd he (by simp),fun _=>rfl⟩
 show wpAny _ _ (storeInDict s.heap.objs.size (.str name s.toks) name v) _ _ { s with heap:=h2,toks:=s.toks+1 }
 unfold storeInDict newKeyGuard
 refine wpAny_bind (wpAny_pure (wpAny_bind (wpAny_nsSet1 (s:={ s with heap:=h2,toks:=s.toks+1 }) (Heap.Ns1.of_empty n2) fun h' hn' hs=>?_)))
 obtain ⟨oD,esD,epD,hoD,hdD,hcD⟩:=hn'.count (Within.cons name v Within.nil)
 refine wpAny_bind (wpAny_lookBehind hoD (by rw [hdD];exact pastItsLine_dict (Nat.le_trans hcD (by rw [List.length_cons,List.length_nil,sizeLine_eq];omega))) ?_)
 exact wpAny_pure (h _ _ ((hs.2 x xs).trans hx2) hn' fun b o nb e=>(hs.2 b (Nat.ne_of_lt (Heap.lt_size e))).trans (k2 b o nb e))
end
end HT
namespace HT
open PySem PySem.W PyProof.Rows
open Builtin Builtin.ObjectAttr
section
variable {prog:Program} {w:World} {A:Around} {E:Value→Shared→Prop} {h:Heap} {g:Array GenState} {d:Drawn} {t:Nat} {os:OsState} {K:Frag} {a C:Addr} {o:Obj} {od:Option Obj} {name:Str} {v:Value}
theorem wX {tk:Tok} {Q:Fin→Shared→Prop} (X:K.In h) (I:InstAt h a o C od) (hf:findObj K C od name=some (.value v)) (hq:Q (.done (.ret v)) ⟨h,g,d,t,os⟩):
  wpAny (model prog w) A (Builtin.«object.__getattribute__» ⟨[.ref a,.str name tk],[]⟩) Q E ⟨h,g,d,t,os⟩:=by
 have L0:=I.type (M:=model prog w)
 have L1:=looks_find (M:=model prog w) X I hf
 unfold Builtin.«object.__getattribute__»
 refine wpAny_bind (wpAny_pure (wpAny_bind (wpAny_pure (wpAny_bind (L0.at (wpAny_bind (L1.at ?_)))))))
 exact wpAny_pure hq
theorem zc {tk:Tok} {R:Result→Shared→Prop} (X:K.In h) (G:L2.cJ K C) (I:InstAt h a o C od) (hf:findObj K C od name=some (.value v)) (hq:R (.ok (.ret v)) ⟨h,g,d,t,os⟩):
  codeAny (model prog w) A (.call (.builtin "BaseException.__getattribute__") ⟨[.ref a,.str name tk],[]⟩) R ⟨h,g,d,t,os⟩:=
 codeAny_call_builtin F.excAttr_ValueError.ga.plain F.entry_bexc_ga (L2.pM X G I.at_ I.cls (wX X I hf hq))
theorem Dm {tk:Tok} {fill expr:Bool} {Q:Value→Shared→Prop} (X:K.In h) (G:L2.cJ K C) (I:InstAt h a o C od) (hf:findObj K C od name=some (.value v)) (hh:handedIn v=true) (hq:Q v ⟨h,g,d,t,os⟩):
  wpAny (model prog w) A (getAttrBy (.ref a) (.str name tk) fill expr) Q E ⟨h,g,d,t,os⟩:=by
 have f3:=F.excAttr_ValueError.ga.bind (.ref a)
 have L0:=I.type (M:=model prog w)
 have L1:=looks_findIn (M:=model prog w) X G.ga
 have L2':=looks_findIn (M:=model prog w) X G.na
 have hx2:(Value.builtin "BaseException.__getattribute__" ==Value.builtin "object.__getattribute__")=false:=by decide +kernel
 have hx0:(expr&&onTheHeap (Value.builtin "BaseException.__getattribute__"))=false:=by cases expr <;> rfl
 unfold getAttrBy
 refine wpAny_holding (wpAny_bind (L0.at (wpAny_bind (L1.at ?_))))
 show wpAny _ _ (if (onTheHeap (Value.ref C)&&Value.builtin "BaseException.__getattribute__" ==Value.builtin "object.__getattribute__")=true then _ else _) _ _ _
 rw [hx2,Bool.and_false,if_neg Bool.false_ne_true]
 unfold getAttrByItsOwn
 refine wpAny_bind ?_
 show wpAny _ _ (typeLookup (.ref C) "__getattr__") _ _ _
 refine L2'.at (wpAny_bind (wpAny_attempt (wpAny_holding ?_)))
 unfold callGetattribute
 rw [hx0,if_neg Bool.false_ne_true]
 unfold boundAndCalled
 rw [f3]
 refine wpAny_bind (wpAny_pure (wpAny_call (zc X G I hf ?_)))
 show wpAny _ _ (handedOut v) _ _ _
 rw [handedOut_of hh];exact wpAny_pure hq
theorem yL {dx:Addr} {mA:Str→Option Value} {expr:Bool} {Q:Value→Shared→Prop} (X:K.In h) (hx:h.get? a=some o) (hc:o.cls=.ref C) (hdx:o.dict=some dx) (hfl:∃ vs,o.data=.fields vs) (hn:h.Ns1 dx mA) (G:fq K C name)
  (hv:mA name=some v) (hh:handedIn v=true) (hq:Q v ⟨h,g,d,t+1,os⟩):wpAny (model prog w) A (getAttr (.ref a) name expr) Q E ⟨h,g,d,t,os⟩:=by
 obtain ⟨vs,hvs⟩:=hfl
 obtain ⟨oc,odd,odt,osl⟩:=o
 dsimp only at hc hdx hvs
 subst hc hdx hvs
 obtain ⟨od,ho,hl⟩:=L2.mG hn
 have J:InstAt h a _ C (some od):=⟨hx,rfl,rfl,ho⟩
 unfold getAttr
 exact wpAny_bind (wpAny_mkText (Dm X G.eg J (findObj_own G.hd G.no rfl (by rw [hl,hv])) hh hq))
end
end HT
namespace L2
open PySem PySem.Spec PyProof.Rows
def eX (C a:Addr) (d:Option Addr):HO:=.ext fun h=>∃ t,h.get? a=some (HT.kc C t d)
theorem qL {P:Program} {w:World} {H:Hp} {h:Heap} {C a t:Addr} {d:Option Addr} (e:h.get? a=some (HT.kc C t d)):bc P w H h a (eX C a d):=⟨⟨t,e⟩,⟨_,e⟩,fun h1 h2 ⟨t1,e1⟩ k=>⟨t1,k _ e1⟩⟩
theorem lu {P:Program} {w:World} {H:Hp} {h:Heap} {C a:Addr} {d:Option Addr} (x:bc P w H h a (eX C a d)):∃ t,h.get? a=some (HT.kc C t d):=x.1
def gC (fs:List (Str×V)) (dx:Addr):HO:=.ext fun h=>∃ mA,h.Ns1 dx mA∧∀ f,cr (fs.lookup f) (mA f)
theorem qJ {P:Program} {w:World} {H:Hp} {h:Heap} {dx:Addr} {fs:List (Str×V)} {mA:Str→Option Value} (n:h.Ns1 dx mA) (r:∀ f,cr (fs.lookup f) (mA f)):bc P w H h dx (gC fs dx):=by
 refine ⟨⟨mA,n,r⟩,?_,fun h1 h2 ⟨m1,n1,r1⟩ k=>⟨m1,?_,r1⟩⟩
 · obtain ⟨o,es,ep,e,_⟩:=n
   exact ⟨o,e⟩
 · obtain ⟨o,es,ep,e,c⟩:=n1
   exact ⟨o,es,ep,k _ e,c⟩
theorem qK {P:Program} {w:World} {H:Hp} {h:Heap} {dx:Addr} {fs:List (Str×V)} (x:bc P w H h dx (gC fs dx)):∃ mA,h.Ns1 dx mA∧∀ f,cr (fs.lookup f) (mA f):=x.1
theorem qh {fs : List (Str × V)} {mA : Str → Option Value} (r : ∀ f, cr (fs.lookup f) (mA f)) : PySem.Within mA (fs.map (·.1)) := fun y h => by
  have ry := r y
  cases e : fs.lookup y with
  | none =>
    rw [e] at ry
    cases q : mA y with
    | none => exact absurd q h
    | some u => rw [q] at ry; exact ry.elim
  | some v =>
    have : ∀ (l : List (Str × V)), l.lookup y = some v → y ∈ l.map (·.1) := by
      intro l
      induction l with
      | nil => intro z; cases z
      | cons p l ih =>
        intro z
        obtain ⟨k, x⟩ := p
        rw [List.lookup_cons] at z
        by_cases hk : (y == k) = true
        · rw [List.map_cons]; exact List.mem_cons.mpr (.inl (beq_iff_eq.mp hk))
        · rw [Bool.not_eq_true] at hk
          rw [hk] at z
          exact List.mem_cons_of_mem _ (ih z)
    exact this fs e
def sO (K : W.Frag) (C : Addr) (ta tv : TE) (f : Str) : TS := fun D σ H => tv σ H fun y H1 => ta σ H1 fun x H2 => ∃ a, x = .ref a ∧ HT.fq K C f ∧
  ((H2 a = some (eX C a none) ∧ ∀ dx, H2 dx = none → dx ≠ a → D.nx σ (upd (upd H2 a (eX C a (some dx))) dx (gC [(f, y)] dx))) ∨
   (∃ dx fs, H2 a = some (eX C a (some dx)) ∧ H2 dx = some (gC fs dx) ∧ dx ≠ a ∧ fs.length < 1000 ∧ D.nx σ (upd H2 dx (gC (cy f y fs) dx))))
def rX (K:W.Frag) (ta:TE) (f:Str):TE:=fun σ H Q=>ta σ H fun x H1=>∃ a C dx fs v,x=.ref a∧H1 a=some (gc C (some dx) a)∧H1 dx=some (gC fs dx)∧HT.fq K C f∧fs.lookup f=some v∧Q v H1
section
variable {X:Cx} {o value:Expr} {ta tv:TE} {f:Str} {pos pos':Pos} {C:Addr}
theorem tO (ho:QE X o ta) (hv:QE X value tv) (hs:swapsWith value (some (.Attribute o f pos')) pos.line X.env=pure false:=by rfl):QS X (.Assign [.Attribute o f pos'] value pos) (sO X.K C ta tv f):=by
 refine ⟨fun pins s σ H D I h=>?_⟩
 refine plainObj_wpAny_Assign_Attribute (thn (hv.out pins s σ H _ I h) fun u s1 ⟨y,H1,I1,ry,q⟩=>thn (ho.out pins s1 σ H1 _ I1 q) fun ov s2 ⟨x,H2,I2,rx,a,ex,G,q2⟩=>?_) hs
 subst ex
 obtain rfl:ov=Value.ref a:=rx
 rcases q2 with ⟨ea,q2⟩ | ⟨dx,fs,ea,ed,ne,hl,q2⟩
 · obtain ⟨t,et⟩:=lu (P:=X.prog) (w:=X.w) (I2.hok a _ ea)
   refine HT.xD I2.kIn et rfl rfl ⟨_,rfl⟩ G fun h' t' e1 e2 k=>?_
   have I3:Inv X pins σ (upd H2 a (eX C a (some s2.heap.objs.size))) { s2 with heap:=h',toks:=t' }:=I2.write (x:=a) (e:=a) (by rw [ea];exact True.intro) (.inl rfl) (fun b u nb e=>k b u nb e) ⟨_,e1⟩ (qL e1)
   have na:s2.heap.objs.size≠a:=Nat.ne_of_gt (Heap.lt_size et)
   have hn:upd H2 a (eX C a (some s2.heap.objs.size)) s2.heap.objs.size=none:=by rw [au na];exact I2.hok.fresh (Nat.le_refl _)
   exact ⟨σ,_,Inv.track2 I2 I3 (Nat.le_refl _) hn (qJ e2 fun g=>by
    show cr (List.lookup g [(f,y)]) (if g=f then some u else none)
    by_cases hg:g=f
    · rw [if_pos hg,hg]
      simp only [List.lookup,beq_self_eq_true];exact ry
    · have hb:(g==f)=false:=beq_eq_false_iff_ne.mpr hg
      rw [if_neg hg]
      simp only [List.lookup,hb];exact True.intro),q2 _ (I2.hok.fresh (Nat.le_refl _)) na⟩
 · obtain ⟨t,et⟩:=lu (P:=X.prog) (w:=X.w) (I2.hok a _ ea)
   obtain ⟨mA,n1,r1⟩:=qK (P:=X.prog) (w:=X.w) (I2.hok dx _ ed)
   refine HT.zF (ns:=fs.map (·.1)) I2.kIn et rfl rfl ⟨_,rfl⟩ n1 ne G (qh r1) (by rw [List.length_map,sizeLine_eq];omega) fun h' t' e2 sb=>?_
   have hd:∃ u,h'.get? dx=some u:=let ⟨o,_,_,e',_⟩:=e2;⟨o,e'⟩
   exact ⟨σ,_,I2.write (x:=dx) (e:=dx) (by rw [ed];exact True.intro) (.inl rfl) (fun b u nb e=>(sb.2 b nb).trans e) hd (qJ e2 fun g=>by
    rw [gB]
    by_cases hg:g=f
    · rw [if_pos hg,if_pos hg];exact ry
    · rw [if_neg hg,if_neg hg];exact r1 g),q2⟩
theorem tT (he:QE X o ta) (hb:attributeBase o f X.env (eval o X.env)=eval o X.env:=by rfl):QE X (.Attribute o f pos) (rX X.K ta f):=by
 refine ⟨fun pins s σ H Q I h=>?_⟩
 refine qW hb (thn (he.out pins s σ H _ I h) fun u s1 ⟨x,H1,I1,rx,a,C,dx,fs,v,ex,ea,ed,G,l,q⟩=>?_)
 subst ex
 obtain rfl:u=Value.ref a:=rx
 obtain ⟨oe,vs,e1,e2,e3,e4,_⟩:=ql (P:=X.prog) (w:=X.w) (I1.hok a _ ea)
 obtain ⟨mA,n1,r1⟩:=qK (P:=X.prog) (w:=X.w) (I1.hok dx _ ed)
 obtain ⟨u,hu,ru⟩:=cr.some_of (v:=v) (o:=mA f) (by rw [← l];exact r1 f)
 obtain ⟨hp,g,d,tk,os⟩:=s1
 exact HT.yL I1.kIn e1 e2 e3 ⟨_,e4⟩ n1 G hu (mq ru) ⟨v,H1,I1.tok _,ru,q⟩
end
def iU (a:Addr) (H:Hp):Hp:=fun b=>if b=a then none else H b
theorem ja {a:Addr} {H:Hp}:iU a H a=none:=by unfold iU;rw [if_pos rfl]
theorem dR {a b:Addr} {H:Hp} (h:b≠a):iU a H b=H b:=by unfold iU;rw [if_neg h]
theorem HOk.off {P:Program} {w:World} {H:Hp} {h:Heap} {a:Addr} {φ:Heap→Prop} (k:HOk P w H h) (ha:H a=some (.ext φ)):HOk P w (iU a H) h:=fun b o e=>by
 by_cases hb:b=a
 · subst hb;rw [ja] at e;cases e
 · rw [dR hb] at e
   exact (k b o e).stay (fun c u _ q=>q) (fun c q=>by rw [dR (fun z=>by rw [z,ha] at q;cases q)];exact q) fun c xs q=>by rw [dR (fun z=>by rw [z,ha] at q;cases q)];exact q
theorem Un.off {fs:List Addr} {H H':Hp} {h h':Heap} {a:Addr} (u:Un fs [] H H' h h') (ha:H a=none):Un fs [] H (iU a H') h h' where
 keep:=u.keep
 slot:=u.slot
 free:=fun b o e n hx=>by
  by_cases hb:b=a
  · rw [hb];exact ja
  · rw [dR hb];exact u.free b o e n hx
 there:=u.there
 tups:=fun b xs e=>by rw [dR (aD e ha)];exact u.tups b xs e
 frzs:=fun b o v e=>by rw [dR (aD e ha)];exact u.frzs b o v e
 tbls:=fun b ps e=>by rw [dR (aD e ha)];exact u.tbls b ps e
end L2
namespace HT
open PySem PyProof.Rows
section
variable {M:Model} {A:Around} {E:Value→Shared→Prop} {env:Env} {K:W.Frag} {C:Addr}
theorem uC {s:Shared} {x:Sem Value} {Q:Flow→Shared→Prop} (hC:L2.bW K C) (hh:A.handled=none)
  (h:wpAny M A x (fun v s₁=>∃ e t d,v=.ref e∧K.In s₁.heap∧s₁.heap.get? e=some (kc C t d)∧E (.ref e) s₁) E s):wpAny M A (raiseStmt env (some x) none) Q E s:=by
 unfold raiseStmt
 refine wpAny_bind (wpAny_mono h (fun v s₁ h₁=>?_) fun _ _ x=>x)
 obtain ⟨e,t,d,rfl,X,he,hE⟩:=h₁
 obtain ⟨bm,N,nm,qn,bs,hdct,sn,sub,ab,col,dd,k0,k1,k2,k3,k5,mN,oC,hN,_,T,_⟩:=L2.eJ X hC
 have hcB:(Value.ref C::bm).contains (.type "BaseException")=true:=by rw [List.contains_cons,T.hasType (X:= "BaseException") (b:=true) (by decide +kernel),Bool.or_true]
 obtain ⟨hp,g,dr,tk,os⟩:=s₁
 repeat (first | with_reducible refine wpAny_loadPart_at he ?_ | with_reducible refine wpAny_loadPart_at oC ?_ | (with_reducible refine wpAny_isSubtype_exc oC ?_;rw [hcB]) | wp_step)
 exact wpAny_raiseNew_none hh hE
theorem uH {prog:Program} {w:World} {A:Around} {K:W.Frag} {C f:Addr} {R:Result→Shared→Prop} {s:Shared} {us:List Value} (X:K.In s.heap) (hC:L2.bW K C) (hi:W.findIn K (.ref C) "__init__" =some (some (.ref f))) (hf:W.typeIn K (.ref f)=some (.type "function")) (hus:us.length≤sizeLine)
  (hq:codeAny (model prog w) (A.under (.builtin "type.__call__" ⟨.ref C::us,[]⟩)) (.call (.ref f) ⟨.ref (s.heap.objs.size+1)::us,[]⟩) (W.InitBack (s.heap.objs.size+1) R) { s with heap:=gE s.heap C us }):
  codeAny (model prog w) A (.call (.ref C) ⟨us,[]⟩) R s:=by
 obtain ⟨h,g,d,t,os⟩:=s
 exact wR X hC hi hf hus hq
end
end HT
namespace L2
open PySem PySem.Spec PyProof.Rows
def qT (C:Addr) (sp:Sp) (E:St→XK) (t:TA):TS:=fun _ σ H=>t σ H fun vs H1=>∀ a,H1 a=none→sp (.ref a::vs) (upd H1 a (eX C a none)) (fun v H2=>v=.non∧∃ d,H2 a=some (eX C a d)∧E σ (.ref C) d (iU a H2)) E0
structure yB (K:W.Frag) (C f:Addr):Prop where
 ok:bW K C
 init:W.findIn K (.ref C) "__init__" =some (some (.ref f))
 fn:W.isFn K (.ref f)=true
 kp:W.keepIn K (.ref C)=true
section
variable {X:Cx} {k:Nat} {f C:Addr} {fd:FuncData} {ps:List Str} {sp:Sp} {E:St→XK} {x:Str} {np cpos pos:Pos} {e:Expr} {es:List Expr} {t:TA}
theorem vX (Y : yB X.K C f) (F : aP X.prog X.w X.K X.mg X.base (CX1 X.prog X.w) k f fd ps sp) (hr : bg (k + 1) X.A) (hb : bH X.K fd ps []) (hm : X.mg x = some (.ref C)) (hR : pK X E) (ha : QA X (e :: es) t)
    (hc : X.calm = true := by rfl) (hg : Gl X x := by rfl) (hdb : (x == ("__debug__" : Str)) = false := by decide) (hs : bh (e :: es) = true := by rfl) (hps : ps.length ≤ 1000 := by decide) : QS X (.Raise (some (.Call (.Name x np) (e :: es) [] cpos)) none pos) (qT C sp E t) := by
  refine ⟨fun pins s σ H D I h => ?_⟩
  have h' : (bL e && bh es) = true := hs
  rw [arm_exec_Raise]
  refine wpAny_bind (wpAny_standAt (HT.uC Y.ok (I.ok.hd hc) ?_))
  refine wpAny_bind (wpAny_mono ?_ (fun v s₃ h₃ => wpAny_bind (wpAny_standAt (wpAny_pure h₃))) fun _ _ x => x)
  refine wpAny_Call_Name_kw (eV I hg hm ?_ hdb)
  refine W.callWith_K (h₀ := X.base) I.ok.mod.kin Y.kp (thn (ha.out cpos pins s σ H _ I h) fun us s1 ⟨vs, H1, I1, r, q⟩ => ⟨I1.kIn, ?_⟩) (ba (Bool.and_eq_true_iff.mp h').1 es X.env) (bT (Bool.and_eq_true_iff.mp h').2)
  have ka : ∀ b u, s1.heap.get? b = some u → (HT.gE s1.heap C us).get? b = some u := fun b u eb => Heap.get?_push_of_some _ (Heap.get?_push_of_some _ eb)
  have ex : (HT.gE s1.heap C us).get? (s1.heap.objs.size + 1) = some (HT.kc C s1.heap.objs.size none) := by heap_get
  have hfr : H1 (s1.heap.objs.size + 1) = none := I1.hok.fresh (Nat.le_succ _)
  have I2 : Inv X pins σ (upd H1 (s1.heap.objs.size + 1) (eX C (s1.heap.objs.size + 1) none)) { s1 with heap := HT.gE s1.heap C us, toks := s1.toks } := I1.laid ka (Nat.le_succ _) (qL ex)
  have hq := q (s1.heap.objs.size + 1) hfr
  have r2 : aX (V.ref (s1.heap.objs.size + 1) :: vs) (Value.ref (s1.heap.objs.size + 1) :: us) := .cons rfl r
  have hl : (Value.ref (s1.heap.objs.size + 1) :: us).length = ps.length := by rw [← r2.length]; exact F.len _ _ _ _ hq
  have hb' := hb { s1 with heap := HT.gE s1.heap C us } (Value.ref (s1.heap.objs.size + 1) :: us) I2.kIn (by rw [List.append_nil]; exact hl)
  rw [List.append_nil] at hb'
  have husz : us.length ≤ sizeLine := by
    rw [List.length_cons] at hl
    rw [sizeLine_eq]; omega
  refine wpAny_call (HT.uH I1.kIn Y.ok Y.init (beq_iff_eq.mp Y.fn) husz (codeAny_mono (F.run _ X.stack _ _ ⟨Value.ref (s1.heap.objs.size + 1) :: us, []⟩ (Value.ref (s1.heap.objs.size + 1) :: us) _ _ _ (hr.make C us []) (I2.env0.make C us []) hb' r2 hq) fun rr s' hq' => ?_))
  cases rr with
  | error e' =>
    obtain ⟨_, _, _, _, _, _, z⟩ := hq'
    exact z.elim
  | ok fl =>
    cases fl with
    | next => exact False.elim hq'
    | brk => exact False.elim hq'
    | cont => exact False.elim hq'
    | ret u =>
      obtain ⟨v, H', os, bare, un, hok, rv, rfl, d, hd, hE⟩ := hq'
      obtain ⟨t, et⟩ := lu (P := X.prog) (w := X.w) (hok _ _ hd)
      have u1 : Un (frs X.stack) [] H1 H' s1.heap s'.heap := (Un.laid (o := eX C (s1.heap.objs.size + 1) none) ka (Nat.le_succ _) hfr).trans un
      have kin : X.K.In s'.heap := by
        have I3 : Inv X pins σ H' s' := I1.call' (ch := []) os u1 hok bare fun b z => absurd z (by simp)
        exact I3.kIn
      refine ⟨rv, s1.heap.objs.size + 1, t, d, rfl, kin, et, hR pins σ H1 s1 C (s1.heap.objs.size + 1) d (iU (s1.heap.objs.size + 1) H') s' I1 ⟨os, bare, u1.off hfr, hok.off hd, Heap.get?_none_of_le (Nat.le_succ _), ja, ⟨_, _, .ref t, et, rfl, rfl, rfl, ⟨rfl, rfl⟩, rfl⟩⟩ hE⟩
end
end L2
namespace HT
open PySem PySem.Spec PyProof.Rows
section
variable {prog:Program} {w:World} {A:Around} {E:Value→Shared→Prop} {s:Shared} {I:Addr} {fp wr:List Addr} {G:Array GenState→Array GenState→Prop} {n:Nat} {P:Nat→Value→Prop} {St:Nat→Shared→Prop}
end
end HT
namespace L2
open PySem PySem.Spec PyProof.Rows
section
variable {X:Cx} {pins:List (Addr×Obj)} {σ:St} {H:Hp} {s:Shared}
end
section
variable {X:Cx} {a:Expr} {t:TA} {p1 p2 pos1 pos2:Pos}
end
end L2
namespace HT
open PySem PyProof.Rows
section
variable {prog:Program} {w:World} {A:Around} {E:Value→Shared→Prop} {s:Shared}
end
end HT
namespace L2
open PySem PySem.Spec PyProof.Rows
section
variable {CX:CXT} {P:Program} {w:World} {K:W.Frag} {mg:Str→Option Value} {base:Heap} {k:Nat} {f:Addr} {N ps:List Str} {sp:Sp}
end
section
variable {X:Cx} {k:Nat} {f:Addr} {fd:FuncData} {ps:List Str} {sp:Sp} {x q:Str} {p pos:Pos} {e:Expr} {es:List Expr} {t:TA} {st:Stmt}
end
section
variable {X:Cx} {tg:Expr} {ah:Addr}
variable {x y:Str} {elt a:Expr} {t:TA} {te:TE} {scope:Scope} {ys:List Str} {is:List Nat} {px py p pos pos2 spos:Pos}
end
end L2
namespace L2
open PySem PySem.Spec PyProof.Rows
structure yt (K:W.Frag) (C:Addr) (m:Str) (f:Addr):Prop where
 ga:W.specialIn K (.ref C) "__getattribute__" =some (some (.builtin "type.__getattribute__"))
 rd:W.readsIn K C (.type "type")=true
 at_:W.findCls K (.ref C) (.type "type") m=some (.val (.ref f))
 ho:W.handedIn (.ref f)=true
 kp:W.keepIn K (.ref f)=true
structure sT (K:W.Frag) (C:Addr):Prop where
 cl:W.findIn K (.ref C) "__class__" =some (some (.builtin "object.__class__"))
 gt:W.specialIn K (.builtin "object.__class__") "__get__" =some (some (.builtin "getset_descriptor.__get__"))
 tk:W.takesIn K (.builtin "object.__class__")=some true
 mo:W.mroIn K C (.type "object")=some true
section
variable {X:Cx} {CX:CXT} {k:Nat} {f C:Addr} {fd:FuncData} {ps:List Str} {sp:Sp} {E:St→XK} {x m:Str} {p pos apos:Pos} {e:Expr} {es:List Expr} {t u:TE} {ta:TA}
theorem Bz {pl : Sem Bool} (hm : X.mg x = some (.ref C)) (c : yt X.K C m f) (F : aP X.prog X.w X.K X.mg X.base CX k f fd ps sp) (hr : bg k X.A) (hb : bH X.K fd ps []) (hx : dQ CX X E) (ha : QA X (e :: es) ta)
  (hg : Gl X x := by rfl) (hd : (x == ("__debug__" : Str)) = false := by decide) (hs : bh (e :: es) = true := by rfl)
  (ht : eval (.Call (.Attribute (.Name x p) m apos) (e :: es) [] pos) X.env = (do
   let ov ← eval (.Name x p) X.env
   standAt apos.atName
   let (f, first) ← holding [ov] (getMethod ov m pl)
   callWith pos f first (backTo pos (starEach (e :: es) X.env)) (backToKw pos (keywordEach [] X.env))) := by rfl) :
  QE X (.Call (.Attribute (.Name x p) m apos) (e :: es) [] pos) (aq sp E ta) := ⟨fun pins s σ H Q I h => by
 have h' : (bL e && bh es) = true := hs
 refine W.methodCall_KW (pl := pl) (thn ((lO (v := .ref C) hg hm rfl hd) pins s σ H (fun v H1 => v = .ref C ∧ H1 = H) I ⟨rfl, rfl⟩) fun u s1 ⟨v, H1, I1, rv, ev, eH⟩ => ?_) ht
 subst ev eH
 obtain rfl : u = Value.ref C := rv
 refine W.method_cls I1.kIn c.ga (W.cls_value I1.kIn c.rd c.at_ c.ho ?_)
 refine W.callWith_K (first := []) (h₀ := X.base) I.ok.mod.kin c.kp (thn (ha.out pos pins _ σ H1 _ (I1.tok _) h) fun us s2 ⟨vs, H2, I2, r, q2⟩ => ⟨I2.kIn, ?_⟩)
  (ba (Bool.and_eq_true_iff.mp h').1 es X.env) (bT (Bool.and_eq_true_iff.mp h').2)
 exact jB F hr hb hx I2 r q2⟩
def xV (K:W.Frag):List V→Hp→VK→Prop:=fun xs H Q=>∃ a C dx fs D b,xs=[.ref a,.ref D]∧H a=some (.ins C dx fs)∧Cls K C∧sT K C∧W.kitOne K (.ref C) (.ref D)=some b∧Q (.bl b) H
theorem Ef:bG X (.builtin "isinstance") (xV X.K):=fun pins s σ H xs us Q I r h=>by
 obtain ⟨a,C,dx,fs,D,b,rfl,ha,hC,G,hk,q⟩:=h
 obtain ⟨u,w',rfl,r1,r2⟩:=nM r
 cases (show w'=Value.ref D from r2)
 cases (show u=Value.ref a from r1)
 obtain ⟨mA,O,_,_,_,_⟩:=gK I.hok ha
 obtain ⟨od,IA,_⟩:=O.look
 exact W.kia_one (W.kitx_own (hC.get _) hC.hd G.cl G.gt G.tk G.mo) I.kIn IA hk (fun z=>nomatch z) fun tk=>⟨.bl _,H,I.tok tk,rfl,q⟩
end
end L2
namespace L2
open PySem PySem.Spec PyProof.Rows PySem.W
section
variable {key:Nat→Int} {n:Nat}
variable (inj:∀ i j,i<n→j<n→key i=key j→i=j)
include inj
omit inj in
omit inj in
omit inj in
end
end L2
namespace HT
open PySem PySem.Calls PySem.W PyProof.Rows L2
section
variable {prog:Program} {w:World} {A:Around} {E:Value→Shared→Prop} {s:Shared}
end
end HT
namespace L2
open PySem PySem.Spec PyProof.Rows PySem.W
section
variable {X:Cx} {pins:List (Addr×Obj)} {σ:St} {H:Hp} {s:Shared} {h':Heap} {tk:Nat}
end
end L2
namespace Rs
abbrev st (B k d:Nat):Nat:=k/2^(B - d)
abbrev sd (B k d:Nat):Nat:=k/2^(B - 1 - d)%2
section
variable {α:Type}
end
end Rs
namespace L2
open PySem PySem.Spec PyProof.Rows
section
variable {X:Cx}
end
end L2
namespace L2
open PySem PySem.Spec PyProof.Rows
section
variable {X:Cx}
end
end L2
namespace L2
open PySem PySem.Spec PyProof.Rows
section
variable {X:Cx} {pins:List (Addr×Obj)} {σ:St} {H:Hp} {s:Shared}
end
section
variable {X:Cx} {tg l:Expr} {tl:TE}
end
section
variable {X:Cx} {o e:Expr} {es:List Expr} {to:TE} {t:TA} {name:Str} {apos cpos:Pos} {id:String} {r:V→List V→Hp→VK→Prop}
end
end L2
namespace L2
open PySem PySem.Spec PyProof.Rows
section
variable {X:Cx} {a:Expr} {t:TA} {p pos ep:Pos} {elts:List Expr} {ek:Nat}
end
end L2
namespace L2
open PySem PySem.Spec PyProof.Rows
section
variable {X:Cx} {pos ep px py pz pu pv:Pos} {ek:Nat} {x y z u v:Str} {iter:Expr} {wi:TI} {tS:TS}
end
end L2
namespace L2
open PySem PySem.Spec PyProof.Rows
section
variable {X:Cx}
inductive jj:List V→Hp→VK→Prop
 | int {i:Int} {H:Hp} {Q:VK} (h:i.natAbs.log2<1920) (q:Q (.str (toString i)) H):jj [.int i] H Q
 | str {z:Str} {H:Hp} {Q:VK} (q:Q (.str z) H):jj [.str z] H Q
theorem Gc : bG X (.type "str") jj := fun pins s σ H xs us Q I r h => by
  cases h with
  | int h q => exact iR pins s σ H _ us Q I r ⟨_, rfl, h, q⟩
  | str q =>
    obtain ⟨u, rfl, t, rfl⟩ := fk r
    exact PySem.P.str_of_str ⟨.str _, H, I, ⟨_, rfl⟩, q⟩
end
end L2
namespace Rs
open PySem PySem.Spec PyProof.Rows L2
def fG (s:Stmt) (j:Nat):Stmt:=match s with
 | .ClassDef _ _ _ b _ _ _ _ _ _ _=>b.getD j (.Pass ⟨0,0,0,0⟩)
 | _=> .Pass ⟨0,0,0,0⟩
def top (i:Nat):Stmt:=PySem.Challenge.pw_rootstamp_k27_slips_refused.main.body.getD i (.Pass ⟨0,0,0,0⟩)
abbrev vH:Stmt:=top 10
abbrev vN:Stmt:=top 11
abbrev vK:Stmt:=top 12
abbrev wL:Stmt:=top 14
abbrev vC:Stmt:=top 13
abbrev s_7:Stmt:=fG (top 41) 1
abbrev vQ:Stmt:=top 48
abbrev vU:Stmt:=top 47
abbrev xk:Stmt:=top 49
abbrev s_6:Stmt:=fG (top 41) 0
abbrev jX:Stmt:=top 43
abbrev ke:Stmt:=top 51
abbrev jZ:Stmt:=top 52
abbrev kf:Stmt:=top 42
abbrev wB:Stmt:=top 53
abbrev wf:Stmt:=top 54
abbrev ww:Stmt:=top 50
abbrev vL:Stmt:=top 56
abbrev wG:Stmt:=top 55
abbrev vn:Stmt:=top 57
abbrev vR:Stmt:=top 60
abbrev xB:Stmt:=top 61
abbrev xi:Stmt:=top 62
abbrev xL:Stmt:=top 19
abbrev wM:Stmt:=top 30
abbrev xf:Stmt:=top 29
abbrev xN:Stmt:=top 22
abbrev wa:Stmt:=top 20
abbrev wq:Stmt:=top 32
abbrev vW:Stmt:=top 33
abbrev vw:Stmt:=top 31
abbrev wn:Stmt:=top 28
abbrev vV:Stmt:=top 21
abbrev vz:Stmt:=top 36
abbrev lw:Stmt:=top 35
abbrev vJ:Stmt:=top 59
abbrev lT:Stmt:=top 37
abbrev s_1:Stmt:=fG (top 7) 0
abbrev xo:Stmt:=top 39
abbrev ly:Stmt:=top 38
abbrev xj:Stmt:=top 58
abbrev xv:Stmt:=top 69
abbrev wO:Stmt:=top 67
abbrev vT:Stmt:=top 68
abbrev s_3:Stmt:=fG (top 26) 1
abbrev s_2:Stmt:=fG (top 26) 3
abbrev s_4:Stmt:=fG (top 26) 2
abbrev lC:Stmt:=top 34
abbrev vx:Stmt:=top 18
abbrev s_5:Stmt:=fG (top 24) 0
abbrev s_0:Stmt:=fG (top 25) 0
abbrev s_8:Stmt:=fG (top 45) 0
abbrev s_9:Stmt:=top 63
abbrev vk:Stmt:=top 64
abbrev wc:Stmt:=top 65
abbrev wo:Stmt:=top 70
abbrev wU:Stmt:=top 66
abbrev vv:Stmt:=top 71
abbrev xp:Stmt:=top 72
def sAt (i:Nat) (l:List Stmt):Stmt:=l.getD i (.Pass ⟨0,0,0,0⟩)
def AT:Stmt→Expr | .Return (some e) _=>e | .Assign _ e _=>e | .Expr e _=>e | _=> .Constant .none 0 ⟨0,0,0,0⟩
def jm:Expr→Expr | .Lambda _ b _ _=>b | e=>e
def pQ:Expr→Scope | .Lambda _ _ sc _=>sc | _=>{ kind:=.function,names:=[],isGenerator:=false,isCoroutine:=false }
abbrev wH:Expr:=(AT (sAt 0 (aO kf)))
def fh:cN:=⟨(("writing" :Str)++ ".<locals>.")++ "<lambda>",.expr (jm wH),pQ wH,["term"],[]⟩
abbrev vY:Expr:=(AT (sAt 1 (aO jX)))
def fB:cN:=⟨(("counting" :Str)++ ".<locals>.")++ "<lambda>",.expr (jm vY),pQ vY,["term"],["numbers"]⟩
abbrev vj:Stmt:=(sAt 1 (aO ke))
def fN:cN:=⟨(("_law_sure" :Str)++ ".<locals>.")++ "_law_number",.stmts (aO vj),al vj,["_law_term"],["_law_known", "_law_first"]⟩
abbrev vO:Stmt:=(sAt 0 (aO jZ))
def fI:cN:=⟨(("_law_weak" :Str)++ ".<locals>.")++ "_law_short",.stmts (aO vO),al vO,["_law_term"],["_law_many"]⟩
set_option genInjectivity false in
set_option genSizeOf false in
abbrev Rd (sp:Sp) (t:TS) (N:List Str):Prop:=∀ (vs:List V) (H:Hp) (Q:VK) (E:XK),sp vs H Q E→t { nx:=fun _ H'=>Q .non H',rt:=Q } (L2.bU N vs) H
abbrev Ln (sp:Sp) (n:Nat):Prop:=∀ vs H Q E,sp vs H Q E→vs.length=n
structure Adr where
 a_49:Addr
 d_49:FuncData
 a_45:Addr
 d_45:FuncData
 a_47:Addr
 d_47:FuncData
 a_51:Addr
 d_51:FuncData
 a_62:Addr
 d_62:FuncData
 a_7:Addr
 d_7:FuncData
 a_11:Addr
 d_11:FuncData
 a_10:Addr
 d_10:FuncData
 a_15:Addr
 d_15:FuncData
 a_6:Addr
 d_6:FuncData
 a_37:Addr
 d_37:FuncData
 a_27:Addr
 d_27:FuncData
 a_34:Addr
 d_34:FuncData
 a_60:Addr
 d_60:FuncData
 a_17:Addr
 d_17:FuncData
 a_26:Addr
 d_26:FuncData
 a_32:Addr
 d_32:FuncData
 a_13:Addr
 d_13:FuncData
 a_22:Addr
 d_22:FuncData
 a_30:Addr
 d_30:FuncData
 a_21:Addr
 d_21:FuncData
 a_29:Addr
 d_29:FuncData
 a_31:Addr
 d_31:FuncData
 a_42:Addr
 d_42:FuncData
 a_46:Addr
 d_46:FuncData
 a_36:Addr
 d_36:FuncData
 a_58:Addr
 d_58:FuncData
 a_48:Addr
 d_48:FuncData
 a_43:Addr
 d_43:FuncData
 a_41:Addr
 d_41:FuncData
 a_40:Addr
 d_40:FuncData
 a_44:Addr
 d_44:FuncData
 a_52:Addr
 d_52:FuncData
 a_59:Addr
 d_59:FuncData
 a_56:Addr
 d_56:FuncData
 a_25:Addr
 d_25:FuncData
 a_54:Addr
 d_54:FuncData
 a_1:Addr
 d_1:FuncData
 a_57:Addr
 d_57:FuncData
 a_53:Addr
 d_53:FuncData
 a_33:Addr
 d_33:FuncData
 a_24:Addr
 d_24:FuncData
 a_19:Addr
 d_19:FuncData
 a_20:Addr
 d_20:FuncData
 a_3:Addr
 d_3:FuncData
 a_2:Addr
 d_2:FuncData
 a_4:Addr
 d_4:FuncData
 a_55:Addr
 d_55:FuncData
 a_39:Addr
 d_39:FuncData
 a_5:Addr
 d_5:FuncData
 a_0:Addr
 d_0:FuncData
 a_8:Addr
 d_8:FuncData
 a_9:Addr
 d_9:FuncData
 a_18:Addr
 d_18:FuncData
 a_16:Addr
 d_16:FuncData
 a_23:Addr
 d_23:FuncData
 a_14:Addr
 d_14:FuncData
 a_12:Addr
 d_12:FuncData
 a_50:Addr
 d_50:FuncData
 k_37:Addr
 t_37:Addr
 k_27:Addr
 t_27:Addr
 k_34:Addr
 t_34:Addr
 k_60:Addr
 t_60:Addr
 c_NoPaper:Addr
 c_NoKey:Addr
 c_Broken:Addr
 c_StampError:Addr
 c_Numbers:Addr
 c_Fork:Addr
 c_Knot:Addr
 c_Bare:Addr
 c_Table:Addr
set_option genInjectivity false in
set_option genSizeOf false in
structure Txt (K:W.Frag) (mg:Str→Option Value) (A:Adr):Prop where
 f_49:Fm K mg "is_whole" "is_whole" vH A.a_49 A.d_49 ["thing"]
 f_45:Fm K mg "is_stamp" "is_stamp" vN A.a_45 A.d_45 ["thing"]
 f_47:Fm K mg "is_term" "is_term" vK A.a_47 A.d_47 ["thing"]
 f_51:Fm K mg "part_form" "part_form" wL A.a_51 A.d_51 ["part"]
 f_62:Fm K mg "written" "written" vC A.a_62 A.d_62 ["term"]
 f_7:Fun K "number_of" "Numbers.number_of" s_7 A.a_7 A.d_7
 b_7:bH K A.d_7 ["self", "term"] []
 f_11:Fm K mg "_law_bits" "_law_bits" vQ A.a_11 A.d_11 ["_law_cell"]
 f_10:Fm K mg "_law_at" "_law_at" vU A.a_10 A.d_10 ["_law_script", "_law_k"]
 f_15:Fm K mg "_law_key" "_law_key" xk A.a_15 A.d_15 ["_law_bits_here", "_law_cell", "_law_others"]
 f_6:Fun K "__init__" "Numbers.__init__" s_6 A.a_6 A.d_6
 b_6:bH K A.d_6 ["self"] []
 f_37:Fm K mg "counting" "counting" jX A.a_37 A.d_37 []
 f_27:Fm K mg "_law_sure" "_law_sure" ke A.a_27 A.d_27 ["_law_first"]
 f_34:Fm K mg "_law_weak" "_law_weak" jZ A.a_34 A.d_34 ["_law_many"]
 f_60:Fm K mg "writing" "writing" kf A.a_60 A.d_60 []
 f_17:Fm K mg "_law_mark" "_law_mark" wB A.a_17 A.d_17 ["_law_number_here"]
 f_26:Fm K mg "_law_steps" "_law_steps" wf A.a_26 A.d_26 ["_law_cell", "_law_low", "_law_bits_here"]
 f_32:Fm K mg "_law_text" "_law_text" ww A.a_32 A.d_32 ["_law_cell"]
 f_13:Fm K mg "_law_end" "_law_end" vL A.a_13 A.d_13 ["_law_cell", "_law_bits_here", "_law_key_here", "_law_low"]
 f_22:Fm K mg "_law_place" "_law_place" wG A.a_22 A.d_22 ["_law_steps_here", "_law_low"]
 f_30:Fm K mg "_law_terms" "_law_terms" vn A.a_30 A.d_30 ["_law_stamper", "_law_bits_here", "_law_key_here", "_law_slip"]
 f_21:Fm K mg "_law_part_alike" "_law_part_alike" vR A.a_21 A.d_21 ["_law_found", "_law_due"]
 f_29:Fm K mg "_law_term_alike" "_law_term_alike" xB A.a_29 A.d_29 ["_law_found", "_law_due"]
 f_31:Fm K mg "_law_terms_alike" "_law_terms_alike" xi A.a_31 A.d_31 ["_law_found", "_law_due"]
 f_42:Fm K mg "is_key" "is_key" xL A.a_42 A.d_42 ["bits", "thing"]
 f_46:Fm K mg "is_step" "is_step" wM A.a_46 A.d_46 ["bits", "least", "thing"]
 f_36:Fm K mg "are_steps" "are_steps" xf A.a_36 A.d_36 ["bits", "thing"]
 f_58:Fm K mg "start" "start" xN A.a_58 A.d_58 ["bits", "key", "depth"]
 f_48:Fm K mg "is_value" "is_value" wa A.a_48 A.d_48 ["thing"]
 f_43:Fm K mg "is_leaf" "is_leaf" wq A.a_43 A.d_43 ["bits", "depth", "begin", "thing"]
 f_41:Fm K mg "is_fork" "is_fork" vW A.a_41 A.d_41 ["bits", "depth", "begin", "thing"]
 f_40:Fm K mg "is_end" "is_end" vw A.a_40 A.d_40 ["bits", "key", "place", "thing"]
 f_44:Fm K mg "is_slip" "is_slip" wn A.a_44 A.d_44 ["bits", "key", "thing"]
 f_52:Fm K mg "side" "side" vV A.a_52 A.d_52 ["bits", "key", "depth"]
 f_59:Fm K mg "step_term" "step_term" vz A.a_59 A.d_59 ["bits", "key", "step", "mark"]
 f_56:Fm K mg "slip_terms" "slip_terms" lw A.a_56 A.d_56 ["stamper", "bits", "key", "slip"]
 f_25:Fm K mg "_law_same" "_law_same" vJ A.a_25 A.d_25 ["_law_found", "_law_due"]
 f_54:Fm K mg "slip_mark" "slip_mark" lT A.a_54 A.d_54 ["stamper", "bits", "key", "slip"]
 f_1:Fun K "__init__" "Broken.__init__" s_1 A.a_1 A.d_1
 b_1:bH K A.d_1 ["self", "due", "came"] []
 f_57:Fm K mg "slip_value" "slip_value" xo A.a_57 A.d_57 ["key", "slip"]
 f_53:Fm K mg "slip_answer" "slip_answer" ly A.a_53 A.d_53 ["stamper", "bits", "mark", "key", "slip"]
 f_33:Fm K mg "_law_told" "_law_told" xj A.a_33 A.d_33 ["_law_key_here", "_law_slip"]
 f_24:Fm K mg "_law_right" "_law_right" xv A.a_24 A.d_24 ["_law_stamper", "_law_bits_here", "_law_key_here", "_law_slip"]
 f_19:Fm K mg "_law_no_keys" "_law_no_keys" wO A.a_19 A.d_19 ["_law_bits_here", "_law_cell"]
 f_20:Fm K mg "_law_no_slips" "_law_no_slips" vT A.a_20 A.d_20 ["_law_bits_here", "_law_slip", "_law_mark_here"]
 f_3:Fun K "leads" "Fork.leads" s_3 A.a_3 A.d_3
 b_3:bH K A.d_3 ["self", "bits", "key"] []
 f_2:Fun K "aside" "Fork.aside" s_2 A.a_2 A.d_2
 b_2:bH K A.d_2 ["self", "bits", "key"] []
 f_4:Fun K "toward" "Fork.toward" s_4 A.a_4 A.d_4
 b_4:bH K A.d_4 ["self", "bits", "key"] []
 f_55:Fm K mg "slip_of" "slip_of" lC A.a_55 A.d_55 ["table", "key"]
 f_39:Fm K mg "is_bits" "is_bits" vx A.a_39 A.d_39 ["thing"]
 f_5:Fun K "__init__" "Knot.__init__" s_5 A.a_5 A.d_5
 b_5:bH K A.d_5 ["self", "stamper", "term"] []
 f_0:Fun K "__init__" "Bare.__init__" s_0 A.a_0 A.d_0
 b_0:bH K A.d_0 ["self", "stamper"] []
 f_8:Fun K "__init__" "Table.__init__" s_8 A.a_8 A.d_8
 b_8:bH K A.d_8 ["self", "stamper", "bits"] []
 f_9:Fm K mg "_law_ask" "_law_ask" s_9 A.a_9 A.d_9 ["_law_way", "_law_stamper", "_law_bits_here", "_law_mark_here", "_law_key_here", "_law_thing"]
 f_18:Fm K mg "_law_name" "_law_name" vk A.a_18 A.d_18 ["_law_way", "_law_stamper", "_law_bits_here", "_law_mark_here", "_law_key_here", "_law_thing"]
 f_16:Fm K mg "_law_kinds" "_law_kinds" wc A.a_16 A.d_16 ["_law_way", "_law_stamper", "_law_bits_here", "_law_mark_here", "_law_key_here", "_law_thing"]
 f_23:Fm K mg "_law_refused_all" "_law_refused_all" wo A.a_23 A.d_23 ["_law_stamper", "_law_bits_here", "_law_marks", "_law_bad_key", "_law_key_here", "_law_bad", "_law_slip"]
 f_14:Fm K mg "_law_fields" "_law_fields" wU A.a_14 A.d_14 ["_law_stamper", "_law_bits_here", "_law_mark_here", "_law_key_here", "_law_thing"]
 f_12:Fm K mg "_law_broken_right" "_law_broken_right" vv A.a_12 A.d_12 ["_law_stamper", "_law_bits_here", "_law_came", "_law_mark_here", "_law_key_here", "_law_slip"]
 f_50:Fm K mg "law" "law" xp A.a_50 A.d_50 ["_law_script"]
 z_ValueError:mg "ValueError" =none
 z_all:mg "all" =none
 z_bool:mg "bool" =none
 z_int:mg "int" =none
 z_isinstance:mg "isinstance" =none
 z_len:mg "len" =none
 z_list:mg "list" =none
 z_ord:mg "ord" =none
 z_range:mg "range" =none
 z_reversed:mg "reversed" =none
 z_str:mg "str" =none
 z_sum:mg "sum" =none
 z_tuple:mg "tuple" =none
 c_MOST_BITS:∃ t,mg "MOST_BITS" =some (.int 60 t)
 c_MOST_PARTS:∃ t,mg "MOST_PARTS" =some (.int 8 t)
 c_MOST_SIGNS:∃ t,mg "MOST_SIGNS" =some (.int 60 t)
 kc_37:A.d_37.code=.ref A.k_37
 kc_27:A.d_27.code=.ref A.k_27
 kc_34:A.d_34.code=.ref A.k_34
 kc_60:A.d_60.code=.ref A.k_60
 mc_NoPaper:mg "NoPaper" =some (.ref A.c_NoPaper)
 eo_NoPaper:bW K A.c_NoPaper
 mc_NoKey:mg "NoKey" =some (.ref A.c_NoKey)
 eo_NoKey:bW K A.c_NoKey
 mc_Broken:mg "Broken" =some (.ref A.c_Broken)
 eo_Broken:bW K A.c_Broken
 mc_StampError:mg "StampError" =some (.ref A.c_StampError)
 eo_StampError:bW K A.c_StampError
 er_NoPaper:dL K A.c_NoPaper
 er_NoKey:dL K A.c_NoKey
 eg_NoPaper:cJ K A.c_NoPaper
 eg_NoKey:cJ K A.c_NoKey
 eg_Broken:cJ K A.c_Broken
 ef_Broken_came:HT.fq K A.c_Broken "came"
 ef_Broken_due:HT.fq K A.c_Broken "due"
 em_Broken:yB K A.c_Broken A.a_1
 sb_NoPaper_Broken:cw K A.c_NoPaper A.c_Broken=some false
 sb_NoPaper_NoPaper:cw K A.c_NoPaper A.c_NoPaper=some true
 sb_NoPaper_NoKey:cw K A.c_NoPaper A.c_NoKey=some false
 sb_NoPaper_StampError:cw K A.c_NoPaper A.c_StampError=some true
 sb_NoKey_Broken:cw K A.c_NoKey A.c_Broken=some false
 sb_NoKey_NoPaper:cw K A.c_NoKey A.c_NoPaper=some false
 sb_NoKey_NoKey:cw K A.c_NoKey A.c_NoKey=some true
 sb_NoKey_StampError:cw K A.c_NoKey A.c_StampError=some true
 sb_Broken_Broken:cw K A.c_Broken A.c_Broken=some true
 sb_Broken_NoPaper:cw K A.c_Broken A.c_NoPaper=some false
 sb_Broken_NoKey:cw K A.c_Broken A.c_NoKey=some false
 sb_Broken_StampError:cw K A.c_Broken A.c_StampError=some true
 ki_NoPaper_Broken:W.kitOne K (.ref A.c_NoPaper) (.ref A.c_Broken)=some false
 ki_NoPaper_NoPaper:W.kitOne K (.ref A.c_NoPaper) (.ref A.c_NoPaper)=some true
 ki_NoPaper_NoKey:W.kitOne K (.ref A.c_NoPaper) (.ref A.c_NoKey)=some false
 ki_NoPaper_ValueError:W.kitOne K (.ref A.c_NoPaper) (.type "ValueError")=some true
 ki_NoKey_Broken:W.kitOne K (.ref A.c_NoKey) (.ref A.c_Broken)=some false
 ki_NoKey_NoPaper:W.kitOne K (.ref A.c_NoKey) (.ref A.c_NoPaper)=some false
 ki_NoKey_NoKey:W.kitOne K (.ref A.c_NoKey) (.ref A.c_NoKey)=some true
 ki_NoKey_ValueError:W.kitOne K (.ref A.c_NoKey) (.type "ValueError")=some true
 ki_Broken_Broken:W.kitOne K (.ref A.c_Broken) (.ref A.c_Broken)=some true
 ki_Broken_NoPaper:W.kitOne K (.ref A.c_Broken) (.ref A.c_NoPaper)=some false
 ki_Broken_NoKey:W.kitOne K (.ref A.c_Broken) (.ref A.c_NoKey)=some false
 ki_Broken_ValueError:W.kitOne K (.ref A.c_Broken) (.type "ValueError")=some true
 mc_Numbers:mg "Numbers" =some (.ref A.c_Numbers)
 cl_Numbers:Cls K A.c_Numbers
 na_Numbers_given:bN K A.c_Numbers "given"
 mc_Fork:mg "Fork" =some (.ref A.c_Fork)
 cl_Fork:Cls K A.c_Fork
 na_Fork_depth:bN K A.c_Fork "depth"
 na_Fork_begin:bN K A.c_Fork "begin"
 na_Fork_left:bN K A.c_Fork "left"
 na_Fork_right:bN K A.c_Fork "right"
 na_Fork_term:bN K A.c_Fork "term"
 na_Fork_mark:bN K A.c_Fork "mark"
 mc_Knot:mg "Knot" =some (.ref A.c_Knot)
 cl_Knot:Cls K A.c_Knot
 na_Knot_term:bN K A.c_Knot "term"
 na_Knot_mark:bN K A.c_Knot "mark"
 mc_Bare:mg "Bare" =some (.ref A.c_Bare)
 cl_Bare:Cls K A.c_Bare
 na_Bare_term:bN K A.c_Bare "term"
 na_Bare_mark:bN K A.c_Bare "mark"
 mc_Table:mg "Table" =some (.ref A.c_Table)
 cl_Table:Cls K A.c_Table
 na_Table_stamper:bN K A.c_Table "stamper"
 na_Table_bits:bN K A.c_Table "bits"
 na_Table_top:bN K A.c_Table "top"
 me_Fork_leads:lF K A.c_Fork "leads" A.a_3
 me_Fork_toward:lF K A.c_Fork "toward" A.a_4
 me_Fork_aside:lF K A.c_Fork "aside" A.a_2
 me_Numbers_number_of:lF K A.c_Numbers "number_of" A.a_7
 mk_Numbers:Mk K A.c_Numbers A.a_6
 mk_Bare:Mk K A.c_Bare A.a_0
 mk_Table:Mk K A.c_Table A.a_8
 cf_Knot:yt K A.c_Knot "__init__" A.a_5
 oi_Fork:sT K A.c_Fork
 oi_Bare:sT K A.c_Bare
 ko_Fork_Fork:W.kitOne K (.ref A.c_Fork) (.ref A.c_Fork)=some true
 ko_Bare_Fork:W.kitOne K (.ref A.c_Bare) (.ref A.c_Fork)=some false
def Fi (A:Adr) (H:Hp):Prop:=H A.t_37=some (.tbl #[])∧H A.t_27=some (.tbl #[])∧H A.t_34=some (.tbl #[])∧H A.t_60=some (.tbl #[])∧([A.t_37,A.t_27,A.t_34,A.t_60]:List Addr).Nodup
theorem Es:eF ["term"] ["term"] [] fh.scope:=⟨rfl,rfl,rfl,by decide +kernel,rfl,rfl,by decide +kernel,by decide +kernel,by decide +kernel,by decide +kernel,by decide +kernel⟩
theorem Du:eF ["term", "numbers"] ["term"] ["numbers"] fB.scope:=⟨rfl,rfl,rfl,by decide +kernel,rfl,rfl,by decide +kernel,by decide +kernel,by decide +kernel,by decide +kernel,by decide +kernel⟩
theorem Dq:eF ["_law_term", "_law_known", "_law_first"] ["_law_term"] ["_law_known", "_law_first"] fN.scope:=⟨rfl,rfl,rfl,by decide +kernel,rfl,rfl,by decide +kernel,by decide +kernel,by decide +kernel,by decide +kernel,by decide +kernel⟩
theorem jw:eF ["_law_term", "_law_total", "_law_part", "_law_signs", "_law_many"] ["_law_term"] ["_law_many"] fI.scope:=⟨rfl,rfl,rfl,by decide +kernel,rfl,rfl,by decide +kernel,by decide +kernel,by decide +kernel,by decide +kernel,by decide +kernel⟩
theorem Dg:aA ["thing"] ["thing"] (al vH):=scF
theorem DU:aA ["thing"] ["thing"] (al vN):=scF
theorem EU:aA ["thing"] ["thing"] (al vK):=scF
theorem yJ:aA ["part", "signs"] ["part"] (al wL):=scF
theorem EI:aA ["term"] ["term"] (al vC):=scF
theorem HR:aA ["self", "term"] ["self", "term"] (al s_7):=scF
theorem Eo:aA ["_law_cell"] ["_law_cell"] (al vQ):=scF
theorem kj:aA ["_law_script", "_law_k", "_law_number_here", "_law_cell"] ["_law_script", "_law_k"] (al vU):=scF
theorem nv:aA ["_law_bits_here", "_law_cell", "_law_others", "_law_many", "_law_number_here", "_law_flip"] ["_law_bits_here", "_law_cell", "_law_others"] (al xk):=scF
theorem HX:aA ["self"] ["self"] (al s_6):=scF
theorem yj:aA ["numbers"] [] (al jX):=scF
theorem se:aA ["_law_first", "_law_known", "_law_number"] ["_law_first"] (al ke):=scF
theorem yn:aA ["_law_many", "_law_short"] ["_law_many"] (al jZ):=scF
theorem Fe:aA [] [] (al kf):=scF
theorem yi:aA ["_law_number_here"] ["_law_number_here"] (al wB):=scF
theorem nW:aA ["_law_cell", "_law_low", "_law_bits_here", "_law_number_here", "_law_found", "_law_depth"] ["_law_cell", "_law_low", "_law_bits_here"] (al wf):=scF
theorem fF:aA ["_law_cell", "_law_signs", "_law_size", "_law_made", "_law_k"] ["_law_cell"] (al ww):=scF
theorem hV:aA ["_law_cell", "_law_bits_here", "_law_key_here", "_law_low", "_law_number_here", "_law_depth", "_law_own", "_law_wide", "_law_rest", "_law_free"] ["_law_cell", "_law_bits_here", "_law_key_here", "_law_low"] (al vL):=scF
theorem Gp:aA ["_law_steps_here", "_law_low"] ["_law_steps_here", "_law_low"] (al wG):=scF
theorem lq:aA ["_law_stamper", "_law_bits_here", "_law_key_here", "_law_slip", "_law_terms_here", "_law_depth", "_law_mark_here", "_law_below", "_law_begin"] ["_law_stamper", "_law_bits_here", "_law_key_here", "_law_slip"] (al vn):=scF
theorem DH:aA ["_law_found", "_law_due"] ["_law_found", "_law_due"] (al vR):=scF
theorem yE:aA ["_law_found", "_law_due", "_law_k"] ["_law_found", "_law_due"] (al xB):=scF
theorem yD:aA ["_law_found", "_law_due", "_law_k"] ["_law_found", "_law_due"] (al xi):=scF
theorem EM:aA ["bits", "thing"] ["bits", "thing"] (al xL):=scF
theorem Gb:aA ["bits", "least", "thing"] ["bits", "least", "thing"] (al wM):=scF
theorem nU:aA ["bits", "thing", "least", "step"] ["bits", "thing"] (al xf):=scF
theorem Ea:aA ["bits", "key", "depth"] ["bits", "key", "depth"] (al xN):=scF
theorem DY:aA ["thing"] ["thing"] (al wa):=scF
theorem Dk:aA ["bits", "depth", "begin", "thing"] ["bits", "depth", "begin", "thing"] (al wq):=scF
theorem EF:aA ["bits", "depth", "begin", "thing"] ["bits", "depth", "begin", "thing"] (al vW):=scF
theorem yl:aA ["bits", "key", "place", "thing", "begin"] ["bits", "key", "place", "thing"] (al vw):=scF
theorem xZ:aA ["bits", "key", "thing", "place"] ["bits", "key", "thing"] (al wn):=scF
theorem DQ:aA ["bits", "key", "depth"] ["bits", "key", "depth"] (al vV):=scF
theorem tD:aA ["bits", "key", "step", "mark", "depth", "begin"] ["bits", "key", "step", "mark"] (al vz):=scF
theorem rT:aA ["stamper", "bits", "key", "slip", "terms", "step"] ["stamper", "bits", "key", "slip"] (al lw):=scF
theorem Gg:aA ["_law_found", "_law_due"] ["_law_found", "_law_due"] (al vJ):=scF
theorem Gh:aA ["stamper", "bits", "key", "slip"] ["stamper", "bits", "key", "slip"] (al lT):=scF
theorem Ig:aA ["self", "due", "came"] ["self", "due", "came"] (al s_1):=scF
theorem yk:aA ["key", "slip", "end"] ["key", "slip"] (al xo):=scF
theorem ya:aA ["stamper", "bits", "mark", "key", "slip", "came"] ["stamper", "bits", "mark", "key", "slip"] (al ly):=scF
theorem Di:aA ["_law_key_here", "_law_slip"] ["_law_key_here", "_law_slip"] (al xj):=scF
theorem sV:aA ["_law_stamper", "_law_bits_here", "_law_key_here", "_law_slip", "_law_due", "_law_mark_here"] ["_law_stamper", "_law_bits_here", "_law_key_here", "_law_slip"] (al xv):=scF
theorem ym:aA ["_law_bits_here", "_law_cell", "_law_far"] ["_law_bits_here", "_law_cell"] (al wO):=scF
theorem ng:aA ["_law_bits_here", "_law_slip", "_law_mark_here", "_law_steps_here", "_law_end_here", "_law_some"] ["_law_bits_here", "_law_slip", "_law_mark_here"] (al vT):=scF
theorem Gy:aA ["self", "bits", "key"] ["self", "bits", "key"] (al s_3):=scF
theorem GN:aA ["self", "bits", "key"] ["self", "bits", "key"] (al s_2):=scF
theorem HK:aA ["self", "bits", "key"] ["self", "bits", "key"] (al s_4):=scF
theorem nh:aA ["table", "key", "steps", "knot"] ["table", "key"] (al lC):=scF
theorem DZ:aA ["thing"] ["thing"] (al vx):=scF
theorem Im:aA ["self", "stamper", "term"] ["self", "stamper", "term"] (al s_5):=scF
theorem Hn:aA ["self", "stamper"] ["self", "stamper"] (al s_0):=scF
theorem Hh:aA ["self", "stamper", "bits"] ["self", "stamper", "bits"] (al s_8):=scF
theorem Hr:aA ["_law_way", "_law_stamper", "_law_bits_here", "_law_mark_here", "_law_key_here", "_law_thing"] ["_law_way", "_law_stamper", "_law_bits_here", "_law_mark_here", "_law_key_here", "_law_thing"] (al s_9):=scF
theorem kC:aA ["_law_way", "_law_stamper", "_law_bits_here", "_law_mark_here", "_law_key_here", "_law_thing", "_law_name_here"] ["_law_way", "_law_stamper", "_law_bits_here", "_law_mark_here", "_law_key_here", "_law_thing"] (al vk):=scF
theorem kZ:aA ["_law_way", "_law_stamper", "_law_bits_here", "_law_mark_here", "_law_key_here", "_law_thing", "_law_kinds_here", "e"] ["_law_way", "_law_stamper", "_law_bits_here", "_law_mark_here", "_law_key_here", "_law_thing"] (al wc):=scF
theorem jp:aA ["_law_stamper", "_law_bits_here", "_law_marks", "_law_bad_key", "_law_key_here", "_law_bad", "_law_slip", "_law_way", "_law_mark_here", "_law_thing", "_law_kinds_here"] ["_law_stamper", "_law_bits_here", "_law_marks", "_law_bad_key", "_law_key_here", "_law_bad", "_law_slip"] (al wo):=scF
theorem nC:aA ["_law_stamper", "_law_bits_here", "_law_mark_here", "_law_key_here", "_law_thing", "_law_found", "e"] ["_law_stamper", "_law_bits_here", "_law_mark_here", "_law_key_here", "_law_thing"] (al wU):=scF
theorem tE:aA ["_law_stamper", "_law_bits_here", "_law_came", "_law_mark_here", "_law_key_here", "_law_slip", "_law_kinds_here", "_law_found"] ["_law_stamper", "_law_bits_here", "_law_came", "_law_mark_here", "_law_key_here", "_law_slip"] (al vv):=scF
theorem da:aA ["_law_script", "_law_bits_here", "_law_key_here", "_law_cell", "_law_some", "_law_stamper", "_law_steps_here", "_law_slip", "_law_came", "_law_bad_keys", "_law_bad_slips", "_law_marks", "_law_bad_key", "_law_bad", "_law_mark_here"] ["_law_script"] (al xp):=scF
end Rs
namespace Rs
open PySem PySem.Spec PyProof.Rows L2
inductive Dat where
 | non
 | bl (b:Bool)
 | int (i:Int)
 | str (z:Str)
 | lst (ds:List Dat)
 | tup (ds:List Dat)
 | dic
mutual
inductive aR (H:Hp):V→Dat→Prop
 | non:aR H .non .non
 | bl (b):aR H (.bl b) (.bl b)
 | int (i):aR H (.int i) (.int i)
 | str (z):aR H (.str z) (.str z)
 | lst {a xs ds}:H a=some (.lst xs)→DatWs H xs ds→aR H (.ref a) (.lst ds)
 | tup {a xs ds}:H a=some (.tup xs)→DatWs H xs ds→aR H (.ref a) (.tup ds)
 | dic {a}:(∃ kvs,H a=some (.dK kvs))→aR H (.ref a) .dic
inductive DatWs (H:Hp):List V→List Dat→Prop
 | nil:DatWs H [] []
 | cons {x xs d ds}:aR H x d→DatWs H xs ds→DatWs H (x::xs) (d::ds)
end
mutual
def df:Dat→PyData
 | .non=> .none
 | .bl b=> .bool b
 | .int i=> .int i
 | .str z=> .str z
 | .lst ds=> .list (toPys ds)
 | .tup ds=> .tuple (toPys ds)
 | .dic=> .none
def toPys:List Dat→List PyData
 | []=>[]
 | d::r=>df d::toPys r
end
def cb (z:Str):Bool:=z.cps.all (·<128)
mutual
def okD:Dat→Bool
 | .str z=>cb z&&decide (z.length≤100000)
 | .lst ds=>okDs ds
 | .tup ds=>okDs ds
 | .dic=>false
 | .non=>true
 | .bl _=>true
 | .int _=>true
def okDs:List Dat→Bool
 | []=>true
 | d::r=>okD d&&okDs r
end
def wk:Dat→Bool
 | .int _=>true
 | _=>false
def bu:Dat→Bool
 | .int i=>decide (0≤i∧i<10^60)
 | .str _=>true
 | _=>false
def cf (w:Str):Dat→Bool
 | .str z=>decide (z=w)
 | _=>false
def cT (bits:Int):Dat→Bool
 | .int i=>decide (0≤i∧i<2^bits.toNat)
 | _=>false
def eG:Dat→Bool
 | .str z=>decide (z.length≤60)
 | _=>false
def aJ (bits key depth:Int):Int:=key/2^(bits - depth).toNat
def du (bits depth begin:Int):Dat→Bool
 | .tup [w,.int k,z]=>cf "leaf" w&&decide (0≤k∧k<2^bits.toNat)&&eG z&&decide (aJ bits k depth=begin)
 | _=>false
def cI (bits depth begin:Int):Dat→Bool
 | .tup [w,.int e,.int b,_,_]=>cf "fork" w&&decide (depth≤e∧e<bits)&&decide (0≤b∧b<2^e.toNat)&&decide (b/2^(e - depth).toNat=begin)
 | _=>false
def fT:Dat→Bool
 | .tup [w]=>cf "bare" w
 | _=>false
def bq (bits least:Int):Dat→Bool
 | .tup [.int d,m]=>decide (least≤d∧d<bits)&&bu m
 | _=>false
def db:Dat→Int
 | .tup (.int d::_)=>d
 | _=>0
def aU (bits:Int):Int→List Dat→Bool
 | _,[]=>true
 | least,s::r=>bq bits least s&&aU bits (db s+1) r
def sE (bits key:Int):Dat→Bool
 | .tup [_,.int e,.int b,m,n]=> !decide (b=aJ bits key e)&&bu m&&bu n
 | _=>false
def bO (bits key place:Int) (d:Dat):Bool:=
 if fT d then decide (place=0)
 else du bits place (aJ bits key place) d||(cI bits place (aJ bits key place) d&&sE bits key d)
def gj (ds:List Dat):Int:=match ds.getLast? with
 | some s=>db s+1
 | none=>0
def dw (bits key:Int):Dat→Bool
 | .tup [.tup ds,e]=>aU bits 0 ds&&bO bits key (gj ds) e
 | _=>false
def fD (d:Dat):Prop:=(okD d=true∧(df d).depth≤140)∨d=.dic
def fg (K:W.Frag) (A:Adr):Sp:=fun vs H Q _=>∃ v d,vs=[v]∧aR H v d∧Q (.bl (wk d)) H
def hU (K:W.Frag) (A:Adr):Sp:=fun vs H Q _=>∃ v d,vs=[v]∧aR H v d∧Q (.bl (bu d)) H
def gy (K:W.Frag) (A:Adr):Sp:=fun vs H Q _=>∃ (b k d:Int),vs=[.int b,.int k,.int d]∧d≤b∧Q (.int (aJ b k d)) H
def jD (K:W.Frag) (A:Adr):Sp:=fun vs H Q _=>∃ (b:Int) (v:V) (d:Dat),vs=[.int b,v]∧0≤b∧b≤60∧aR H v d∧Q (.bl (cT b d)) H
def nP (K:W.Frag) (A:Adr):Sp:=fun vs H Q _=>∃ (v:V) (d:Dat),vs=[v]∧aR H v d∧okD d=true∧Q (.bl (eG d)) H
def mX (K:W.Frag) (A:Adr):Sp:=fun vs H Q _=>∃ (b p g:Int) (v:V) (d:Dat),vs=[.int b,.int p,.int g,v]∧0≤b∧b≤60∧p≤b∧aR H v d∧fD d∧Q (.bl (du b p g d)) H
def mZ (K:W.Frag) (A:Adr):Sp:=fun vs H Q _=>∃ (b p g:Int) (v:V) (d:Dat),vs=[.int b,.int p,.int g,v]∧0≤p∧b≤60∧p≤b∧aR H v d∧fD d∧Q (.bl (cI b p g d)) H
def nE (K:W.Frag) (A:Adr):Sp:=fun vs H Q _=>∃ (b l:Int) (v:V) (d:Dat),vs=[.int b,.int l,v]∧aR H v d∧Q (.bl (bq b l d)) H
def nR (K:W.Frag) (A:Adr):Sp:=fun vs H Q _=>∃ (b:Int) (v:V) (d:Dat),vs=[.int b,v]∧aR H v d∧Q (.bl (match d with | .tup ds=>aU b 0 ds | _=>false)) H
def nQ (K:W.Frag) (A:Adr):Sp:=fun vs H Q _=>∃ (b k p:Int) (v:V) (d:Dat),vs=[.int b,.int k,.int p,v]∧0≤p∧b≤60∧p≤b∧aR H v d∧fD d∧∀ H',ax H H'→Q (.bl (bO b k p d)) H'
def fY:Dat→Prop
 | .tup [_,e]=>fD e
 | _=>True
def nO (K:W.Frag) (A:Adr):Sp:=fun vs H Q _=>∃ (b k:Int) (v:V) (d:Dat),vs=[.int b,.int k,v]∧0≤b∧b≤60∧aR H v d∧fY d∧∀ H',ax H H'→Q (.bl (dw b k d)) H'
def bi:Key→Dat
 | .inl i=> .int i
 | .inr z=> .str z
def szK:Key→Nat
 | .inl _=>62
 | .inr z=>z.length+62
def fX (m:Key):Prop:=bu (bi m)=true∧okD (bi m)=true∧szK m≤1062
def stD (s:Int×Key):Dat:=.tup [.int s.1,bi s.2]
def mh (bits low:Int) (ds:List Dat):Prop:=aU bits low ds=true∧okDs ds=true∧PyData.depthAll (toPys ds)≤1∧∃ st:List (Int×Key),ds=st.map stD∧∀ s∈st,fX s.2
def bK (low:Int) (ds:List Dat):Int:=match ds.getLast? with
 | some s=>db s+1
 | none=>low
def dC (K:W.Frag) (A:Adr):Sp:=fun vs H Q _=>∃ (a:Addr) (ns:List Int) (k:Int),vs=[.ref a,.int k]∧SqL K H a (ns.map V.int)∧0≤k∧∀ (z:Int) (H':Hp),ax H H'→Q (.int z) H'
def og (K:W.Frag) (A:Adr):Sp:=fun vs H Q _=>∃ c:Int,vs=[.int c]∧∀ (b:Int) (H':Hp),ax H H'→1≤b→b≤60→Q (.int b) H'
def kQ (K:W.Frag) (A:Adr):Sp:=fun vs H Q _=>∃ (b c:Int) (o:Addr) (ks:List Int),vs=[.int b,.int c,.ref o]∧1≤b∧b≤60∧H o=some (.lst (ks.map V.int))∧ks.length≤1∧(∀ k∈ks,0≤k∧k<2^b.toNat)∧∀ (k:Int) (H':Hp),ax H H'→0≤k→k<2^b.toNat→Q (.int k) H'
def ib (K:W.Frag) (A:Adr):Sp:=fun vs H Q _=>∃ c:Int,vs=[.int c]∧∀ (z:Str) (H':Hp),ax H H'→z.length≤60→cb z=true→Q (.str z) H'
def eA (K:W.Frag) (A:Adr):Sp:=fun vs H Q _=>∃ c:Int,vs=[.int c]∧∀ m:Key,fX m→Q (kV m) H
def okP:Key→Bool
 | .inl i=>decide (0≤i∧i<10^60)
 | .inr z=>cb z&&decide (z.length≤100000)
def kT:Key→Bool
 | .inr _=>true
 | .inl _=>false
def okT (k:List Key):Bool:=decide (1≤k.length∧k.length≤8)&&(k.head?.map kT).getD false&&k.all okP
def szT (k:List Key):Nat:=(k.map szK).sum
def kM (K:W.Frag) (A:Adr):Sp:=fun vs H Q _=>∃ (c l b:Int),vs=[.int c,.int l,.int b]∧0≤l∧l≤b∧b≤60∧∀ (p:Addr) (ds:List Dat) (H':Hp),ax H H'→aR H' (.ref p) (.tup ds)→mh b l ds→Q (.ref p) H'
def km (K:W.Frag) (A:Adr):Sp:=fun vs H Q _=>∃ (v:V) (ds:List Dat) (l b:Int),vs=[v,.int l]∧aR H v (.tup ds)∧0≤l∧mh b l ds∧∀ H',ax H H'→Q (.int (bK l ds)) H'
def ko (K:W.Frag) (A:Adr):Sp:=fun vs H Q _=>∃ (c b k l:Int),vs=[.int c,.int b,.int k,.int l]∧0≤l∧l≤b∧1≤b∧b≤60∧0≤k∧k<2^b.toNat∧∀ (v:V) (e:List Key) (H':Hp),ax H H'→aR H' v (.tup (e.map bi))→okT e=true→szT e≤2500→bO b k l (.tup (e.map bi))=true→Q v H'
def oH (k:List Key):Key→Prop
 | .inl i=>0≤i∧i<10^60
 | .inr z=>cb z=true∧z.length≤szT k
def gp (t:Int):Key→Int
 | .inr z=>t*7+z.length+2*((PySem.Txt.slice z none (some 2)).cps.toList.map fun c=>((c:Nat):Int)).sum
 | .inl i=>t*5+i
def rE (m:Int) (k:List Key):Key:=.inl (k.foldl gp 0%m)
def eB:Key→Str
 | .inl i=>toString i++ ";"
 | .inr z=>toString (z.length:Int)++ ":" ++z
def fE:List Key→Str
 | []=>Str.empty
 | x::r=>eB x++fE r
def cO (kvs:List (List Key×Key)):List (List Key×V):=kvs.map fun p=>(p.1,kV p.2)
def dj (kvs:List (List Key×Key)) (k:List Key):Option Key:=(kvs.find? fun p=>decide (p.1=k)).map (·.2)
def gL:Key→Prop
 | .inl i=>0≤i∧i<10^60
 | .inr z=>cb z=true∧z.length≤62
def ft (kvs:List (List Key×Key)):Prop:=∀ p∈kvs,gL p.2
structure fH (A:Adr) (H:Hp) (x d:Addr) (kvs:List (List Key×V)):Prop where
 ob:∃ dx,H x=some (.ins A.c_Numbers dx [("given",.ref d)])
 di:H d=some (.dT kvs)
def bd (b:Addr) (H H':Hp):Prop:=∀ x o,x≠b→H x=some o→H' x=some o
inductive Stp (A:Adr) (H:Hp) (f b:Addr) (g:List Key→Option Key) (n:Nat):Prop
 | wri (hc:dB H f fh [] []) (hb:b=f) (hg:g=fun k=>some (.inr (fE k)))
 | cnt (q x:Addr) (kvs:List (List Key×Key)) (hc:dB H f fB [q] [.ref x]) (num:fH A H x b (cO kvs)) (hl:kvs.length≤n) (hs:ft kvs) (hg:g=dj kvs)
 | sur (q0 q1:Addr) (j:Int) (h0:0≤j) (h1:j<1000) (kvs:List (List Key×Key)) (hc:dB H f fN [q1,q0] [.ref b,.int j]) (hb:H b=some (.dT (cO kvs))) (hl:kvs.length≤n) (hs:ft kvs) (hg:g=dj kvs)
 | wea (q:Addr) (m:Int) (h1:1≤m) (h2:m≤9) (hc:dB H f fI [q] [.int m]) (hb:b=f) (hg:g=fun k=>some (rE m k))
def Sub (g g':List Key→Option Key):Prop:=∀ k v,g k=some v→g' k=some v
def Ext (g:List Key→Option Key) (h:List Key→Key):Prop:=∀ k v,g k=some v→h k=v
abbrev PK (H:Hp):List Addr→List (List Key)→Prop:=Paired (fun (p:Addr) (k:List Key)=>H p=some (.tup (k.map kV))∧okT k=true)
def kI (K:W.Frag) (A:Adr):Sp:=fun vs H Q _=>∃ (p:Addr) (k:List Key),vs=[.ref p]∧H p=some (.tup (k.map kV))∧okT k=true∧∀ H',ax H H'→Q (.bl true) H'
def nK (K:W.Frag) (A:Adr):Sp:=fun vs H Q _=>∃ x:Key,vs=[kV x]∧okP x=true∧Q (.str (eB x)) H
def lj (K:W.Frag) (A:Adr):Sp:=fun vs H Q _=>∃ (p:Addr) (k:List Key),vs=[.ref p]∧H p=some (.tup (k.map kV))∧okT k=true∧∀ H',ax H H'→Q (.str (fE k)) H'
def rQ (K:W.Frag) (A:Adr):Sp:=lj K A
def hZ (kvs:List (List Key×V)) (kk:List Key) (d:V):V:=(bX kvs kk).getD d
def ia (H:Hp) (b:Addr) (kvs:List (List Key×V)) (kk:List Key) (d:V):Hp:=if (bX kvs kk).isSome=true then H else upd H b (.dT (cM kvs kk d))
def sG (K:W.Frag) (A:Adr):Sp:=fun vs H Q _=>∃ x dx,vs=[.ref x]∧H x=some (.ins A.c_Numbers dx [])∧∀ d,H d=none→Q .non (upd (upd H d (.dT [])) x (.ins A.c_Numbers dx [("given",.ref d)]))
def rN (K:W.Frag) (A:Adr):Sp:=fun vs H Q _=>∃ (x d p:Addr) (kvs:List (List Key×V)) (k:List Key),vs=[.ref x,.ref p]∧fH A H x d kvs∧kvs.length≤50000∧H p=some (.tup (k.map kV))∧okT k=true∧∀ H',ax H H'→Q (hZ kvs k (.int kvs.length)) (ia H' d kvs k (.int kvs.length))
def sQ (K:W.Frag) (A:Adr):Sp:=fun vs H Q _=>∃ (x d p:Addr) (kvs:List (List Key×V)) (k:List Key),vs=[.ref p,.ref x]∧fH A H x d kvs∧kvs.length≤50000∧H p=some (.tup (k.map kV))∧okT k=true∧∀ H',ax H H'→Q (hZ kvs k (.int kvs.length)) (ia H' d kvs k (.int kvs.length))
def sC (K:W.Frag) (A:Adr):Sp:=fun vs H Q _=>∃ (p b:Addr) (j:Int) (k:List Key) (kvs:List (List Key×V)),vs=[.ref p,.ref b,.int j]∧H p=some (.tup (k.map kV))∧H b=some (.dT kvs)∧kvs.length≤50000∧Q (hZ kvs k (.int (3*(kvs.length:Int)+j))) (ia H b kvs k (.int (3*(kvs.length:Int)+j)))
def sq (K:W.Frag) (A:Adr):Sp:=fun vs H Q _=>∃ (p:Addr) (m:Int) (k:List Key),vs=[.ref p,.int m]∧1≤m∧m≤9∧H p=some (.tup (k.map kV))∧okT k=true∧∀ H',ax H H'→Q (kV (rE m k)) H'
def bA (P:Addr) (H H':Hp):Prop:=∀ b o,H b=some o→b≠P→H' b=some o
def MkQ (A:Adr) (P:Addr) (H:Hp) (Q:VK):Prop:=∀ (f b:Addr) (g:List Key→Option Key) (H':Hp),bA P H H'→Stp A H' f b g 0→H b=none→Q (.ref f) H'
def lc (K:W.Frag) (A:Adr):Sp:=fun vs H Q _=>vs=[]∧H A.t_60=some (.tbl #[])∧MkQ A A.t_60 H Q
def ku (K:W.Frag) (A:Adr):Sp:=fun vs H Q _=>vs=[]∧H A.t_37=some (.tbl #[])∧MkQ A A.t_37 H Q
def kO (K:W.Frag) (A:Adr):Sp:=fun vs H Q _=>∃ j:Int,vs=[.int j]∧0≤j∧j<1000∧H A.t_27=some (.tbl #[])∧MkQ A A.t_27 H Q
def la (K:W.Frag) (A:Adr):Sp:=fun vs H Q _=>∃ m:Int,vs=[.int m]∧1≤m∧m≤9∧H A.t_34=some (.tbl #[])∧MkQ A A.t_34 H Q
def jE (K:W.Frag) (A:Adr):Sp:=fun vs H Q _=>∃ x:Key,vs=[kV x,kV x]∧Q (.bl true) H
def nV (K:W.Frag) (A:Adr):Sp:=fun vs H Q _=>∃ (p r:Addr) (k:List Key),vs=[.ref p,.ref r]∧H p=some (.tup (k.map kV))∧H r=some (.tup (k.map kV))∧k.length≤8∧Q (.bl true) H
def nG (K:W.Frag) (A:Adr):Sp:=fun vs H Q _=>∃ (L M:Addr) (ps rs:List Addr) (ts:List (List Key)),vs=[.ref L,.ref M]∧H L=some (.lst (ps.map V.ref))∧H M=some (.lst (rs.map V.ref))∧PK H ps ts∧PK H rs ts∧ts.length≤1000∧Q (.bl true) H
def cG (b k d:Int) (m s:Key):List Key:=if k/2^(b - d - 1).toNat%2=0 then [.inr "fork",.inl d,.inl (aJ b k d),s,m] else [.inr "fork",.inl d,.inl (aJ b k d),m,s]
def dJ (h:List Key→Key) (b k:Int):List Key→List (Int×Key)→List (List Key)
 | e,[]=>[e]
 | e,s::r=>e::dJ h b k (cG b k s.1 s.2 (h e)) r
def eN (h:List Key→Key) (b k:Int):List Key→List (Int×Key)→List Key
 | e,[]=>e
 | e,s::r=>eN h b k (cG b k s.1 s.2 (h e)) r
def szS (st:List (Int×Key)):Nat:=(st.map fun s=>szK s.2+252).sum
structure fA (b k:Int) (st:List (Int×Key)) (e:List Key):Prop where
 b1:1≤b
 b60:b≤60
 k0:0≤k
 k1:k<2^b.toNat
 gs:aU b 0 (st.map stD)=true
 so:∀ s∈st,okP s.2=true
 et:okT e=true
 en:bO b k (bK 0 (st.map stD)) (.tup (e.map bi))=true
 sz:szT e+szS st≤100000
def cA (H:Hp) (v:V) (b k:Int) (st:List (Int×Key)) (e:List Key):Prop:=aR H v (.tup [.tup (st.map stD),.tup (e.map bi)])∧fA b k st e
def gx (k:Int):List Key→V
 | [.inr w,.inl x,.inr z]=>if w= "leaf" ∧x=k then .str z else .non
 | _=> .non
def jr (K:W.Frag) (A:Adr):Sp:=fun vs H Q _=>∃ (b k d:Int),vs=[.int b,.int k,.int d]∧d<b∧0≤k∧Q (.int (k/2^(b - d - 1).toNat%2)) H
def nj (K:W.Frag) (A:Adr):Sp:=fun vs H Q _=>∃ (b k d:Int) (m s:Key) (p:Addr),vs=[.int b,.int k,.ref p,kV s]∧H p=some (.tup [.int d,kV m])∧d<b∧0≤k∧∀ t,H t=none→Q (.ref t) (upd H t (.tup ((cG b k d m s).map kV)))
def xT (A:Adr) (f b:Addr) (B k:Int) (st:List (Int×Key)) (e:List Key) (g:List Key→Option Key) (n:Nat) (H:Hp) (Q:VK):Prop:=∀ (L:Addr) (ps:List Addr) (ts:List (List Key)) (g':List Key→Option Key) (H':Hp),bd b H H'→Stp A H' f b g' (n+st.length)→Sub g g'→H L=none→H' L=some (.lst (ps.map V.ref))→PK H' ps ts→(∀ k∈ts,szT k≤100000)→(∀ h,Ext g' h→ts=dJ h B k e st.reverse)→Q (.ref L) H'
def jz (K:W.Frag) (A:Adr):Sp:=fun vs H Q _=>∃ (f b:Addr) (B k:Int) (v:V) (st:List (Int×Key)) (e:List Key) (g:List Key→Option Key) (n:Nat),vs=[.ref f,.int B,.int k,v]∧cA H v B k st e∧Stp A H f b g n∧n≤40000∧xT A f b B k st e g n H Q
inductive Ask (A:Adr) (H:Hp) (B:Int) (v w:V) (E:XK) (R:Int→List (Int×Key)→List Key→Prop):Prop
 | key (d:Dat) (hd:aR H v d) (h:cT B d=false) (q:E (.ref A.c_NoKey) none H)
 | paper (k:Int) (e:Dat) (hv:v=.int k) (k0:0≤k) (k1:k<2^B.toNat) (he:aR H w e) (ok:fY e) (h:dw B k e=false) (q:∀ H',ax H H'→E (.ref A.c_NoPaper) none H')
 | good (k:Int) (st:List (Int×Key)) (e:List Key) (hv:v=.int k) (s:cA H w B k st e) (q:R k st e)
def jA (K:W.Frag) (A:Adr):Sp:=fun vs H Q E=>∃ (f b:Addr) (B:Int) (v w:V) (g:List Key→Option Key) (n:Nat),vs=[.ref f,.int B,v,w]∧1≤B∧B≤60∧Stp A H f b g n∧n≤40000∧Ask A H B v w E fun k st e=>xT A f b B k st e g n H Q
def xY (A:Adr) (f b:Addr) (B k:Int) (st:List (Int×Key)) (e:List Key) (g:List Key→Option Key) (n:Nat) (H:Hp) (R:Key→Hp→Prop):Prop:=∀ (x:Key) (g':List Key→Option Key) (H':Hp),bd b H H'→Stp A H' f b g' (n+61)→Sub g g'→okP x=true→(∀ h,Ext g' h→x=h (eN h B k e st.reverse))→R x H'
def lh (K:W.Frag) (A:Adr):Sp:=fun vs H Q E=>∃ (f b:Addr) (B:Int) (v w:V) (g:List Key→Option Key) (n:Nat),vs=[.ref f,.int B,v,w]∧1≤B∧B≤60∧Stp A H f b g n∧n≤40000∧Ask A H B v w E fun k st e=>xY A f b B k st e g n H fun x H'=>Q (kV x) H'
def mY (K:W.Frag) (A:Adr):Sp:=fun vs H Q _=>∃ (b k:Int) (v:V) (st:List (Int×Key)) (e:List Key),vs=[.int k,v]∧cA H v b k st e∧Q (gx k e) H
def ny (K:W.Frag) (A:Adr):Sp:=fun vs H Q _=>∃ (b k:Int) (v:V) (st:List (Int×Key)) (e:List Key),vs=[.int k,v]∧cA H v b k st e∧Q (gx k e) H
def nA (K:W.Frag) (A:Adr):Sp:=fun vs H Q _=>∃ v:V,vs=[v,v]∧(v=.non∨∃ z,v=.str z)∧Q (.bl true) H
def rG (K:W.Frag) (A:Adr):Sp:=fun vs H Q _=>∃ (a:Addr) (x y:V),vs=[.ref a,x,y]∧H a=some (eX A.c_Broken a none)∧∀ dx,H dx=none→Q .non (upd (upd (upd H a (eX A.c_Broken a (some dx))) dx (gC [("due",x)] dx)) dx (gC (cy "came" y [("due",x)]) dx))
def jF (K:W.Frag) (A:Adr):Sp:=fun vs H Q E=>∃ (f b:Addr) (B:Int) (m:Key) (v w:V) (g:List Key→Option Key) (n:Nat),vs=[.ref f,.int B,kV m,v,w]∧1≤B∧B≤60∧Stp A H f b g n∧n≤40000∧Ask A H B v w E fun k st e=>xY A f b B k st e g n H fun x H'=>(x=m→Q (gx k e) H')∧(x≠m→∀ (dx:Addr) (H'':Hp),ax H' H''→H'' dx=some (gC (cy "came" (kV x) [("due",kV m)]) dx)→E (.ref A.c_Broken) (some dx) H'')
def jI:Dat→Bool
 | .int i=>decide (1≤i∧i≤60)
 | _=>false
def nF (K:W.Frag) (A:Adr):Sp:=fun vs H Q _=>∃ (v:V) (d:Dat),vs=[v]∧aR H v d∧Q (.bl (jI d)) H
def ni (b D:Addr) (H H':Hp):Prop:=∀ x o,x≠b→x≠D→H x=some o→H' x=some o
def brT:List Key:=[.inr "bare"]
def sN (K:W.Frag) (A:Adr):Sp:=fun vs H Q _=>∃ (x dx C f b p:Addr) (g:List Key→Option Key) (n:Nat) (k:List Key),vs=[.ref x,.ref f,.ref p]∧H x=some (.ins C dx [])∧Cls K C∧bN K C "term" ∧bN K C "mark" ∧Stp A H f b g n∧n≤45000∧H p=some (.tup (k.map kV))∧okT k=true∧
 ∀ (m:Key) (g':List Key→Option Key) (H':Hp),ni b x H H'→H' x=some (.ins C dx [("term",.ref p),("mark",kV m)])→Stp A H' f b g' (n+1)→Sub g g'→g' k=some m→oH k m→Q .non H'
def sf (K:W.Frag) (A:Adr):Sp:=fun vs H Q _=>∃ (x dx f b:Addr) (g:List Key→Option Key) (n:Nat),vs=[.ref x,.ref f]∧H x=some (.ins A.c_Bare dx [])∧Stp A H f b g n∧n≤45000∧∀ (g':List Key→Option Key) (H':Hp),ni b x H H'→Stp A H' f b g' (n+1)→Sub g g'→Q .non H'
def wt (A:Adr) (H:Hp) (x:Addr) (d b:Nat) (l r:Addr):Prop:=∃ dx t m,H x=some (.ins A.c_Fork dx [("term",.ref t),("mark",kV m),("depth",.int (d:Int)),("begin",.int (b:Int)),("left",.ref l),("right",.ref r)])
def sY (K:W.Frag) (A:Adr):Sp:=fun vs H Q _=>∃ (x l r:Addr) (d b B key:Nat),vs=[.ref x,.int (B:Int),.int (key:Int)]∧wt A H x d b l r∧d<B∧Q (.bl (decide (st B key d=b))) H
def rz (K:W.Frag) (A:Adr):Sp:=fun vs H Q _=>∃ (x l r:Addr) (d b B key:Nat),vs=[.ref x,.int (B:Int),.int (key:Int)]∧wt A H x d b l r∧d<B∧Q (.ref (if sd B key d=0 then l else r)) H
def tB (K:W.Frag) (A:Adr):Sp:=fun vs H Q _=>∃ (x l r:Addr) (d b B key:Nat),vs=[.ref x,.int (B:Int),.int (key:Int)]∧wt A H x d b l r∧d<B∧Q (.ref (if sd B key d=0 then r else l)) H
structure TbN (A:Adr) (H:Hp) (x f:Addr) (B:Nat):Prop where
 ob:∃ dx y,H x=some (.ins A.c_Table dx [("stamper",.ref f),("bits",.int (B:Int)),("top",.ref y)])
def sH (K:W.Frag) (A:Adr):Sp:=fun vs H Q _=>∃ (x dx f b:Addr) (g:List Key→Option Key) (n B:Nat),vs=[.ref x,.ref f,.int (B:Int)]∧H x=some (.ins A.c_Table dx [])∧Stp A H f b g n∧n≤45000∧1≤B∧B≤60∧∀ (g':List Key→Option Key) (H':Hp),ni b x H H'→TbN A H' x f B→Stp A H' f b g' (n+1)→Sub g g'→Q .non H'
def mW (K:W.Frag) (A:Adr):Sp:=fun vs H Q E=>∃ (x f:Addr) (B:Nat) (v:V) (d:Dat),vs=[.ref x,v]∧TbN A H x f B∧B≤60∧aR H v d∧cT B d=false∧E (.ref A.c_NoKey) none H
def im (K:W.Frag) (A:Adr):Sp:=fun vs H Q _=>∃ (f b:Addr) (B k:Int) (v:V) (st:List (Int×Key)) (e:List Key) (g:List Key→Option Key) (n:Nat),vs=[.ref f,.int B,.int k,v]∧cA H v B k st e∧Stp A H f b g n∧n≤30000∧∀ (g':List Key→Option Key) (H':Hp),bd b H H'→Stp A H' f b g' (n+300)→Sub g g'→Q (.bl true) H'
def kE (K:W.Frag) (A:Adr):Sp:=fun vs H Q _=>∃ B c:Int,vs=[.int B,.int c]∧1≤B∧B≤60∧∀ (L:Addr) (xs:List V) (H':Hp),ax H H'→H' L=some (.lst xs)→xs.length=14→(∀ x∈xs,∃ d,aR H' x d∧cT B d=false)→Q (.ref L) H'
def kG (K:W.Frag) (A:Adr):Sp:=fun vs H Q _=>∃ (B k:Int) (v:V) (st:List (Int×Key)) (e:List Key) (m:Key),vs=[.int B,v,kV m]∧cA H v B k st e∧∀ (L:Addr) (xs:List V) (H':Hp),ax H H'→H' L=some (.lst xs)→xs.length=14→(∀ x∈xs,∃ d,aR H' x d∧fY d∧dw B k d=false)→Q (.ref L) H'
inductive Due (H:Hp) (B:Int) (g:List Key→Option Key) (way:Int) (m:Key) (v w:V):Nat→Prop
 | key (d:Dat) (hd:aR H v d) (h:cT B d=false) (hw:way=0∨way=1∨way=2∨way=3):Due H B g way m v w 0
 | paper (k:Int) (e:Dat) (hv:v=.int k) (k0:0≤k) (k1:k<2^B.toNat) (he:aR H w e) (ok:fY e) (h:dw B k e=false) (hw:way=0∨way=1∨way=2):Due H B g way m v w 1
 | broken (k:Int) (st:List (Int×Key)) (e:List Key) (came:Key) (hv:v=.int k) (s:cA H w B k st e) (hw:way=2) (hc:∀ h,Ext g h→came=h (eN h B k e st.reverse)) (ne:came≠m):Due H B g way m v w 2
def cE (A:Adr):Nat→Addr
 | 0=>A.c_NoKey
 | 1=>A.c_NoPaper
 | _=>A.c_Broken
def nmE:Nat→Str
 | 0=> "key"
 | 1=> "paper"
 | _=> "broken"
structure wK (A:Adr) (H:Hp) (vs:List V) (b:Addr) (f:Addr) (g:List Key→Option Key) (n i:Nat):Prop where
 hv:∃ (way B:Int) (m:Key) (v w:V),vs=[.int way,.ref f,.int B,kV m,v,w]∧1≤B∧B≤60∧Due H B g way m v w i
 s:Stp A H f b g n
 hn:n≤30000
def oV (K:W.Frag) (A:Adr):Sp:=fun vs H Q E=>∃ (f b:Addr) (g:List Key→Option Key) (n i:Nat),wK A H vs b f g n i∧∀ (od:Option Addr) (g':List Key→Option Key) (H':Hp),bd b H H'→Stp A H' f b g' (n+70)→Sub g g'→E (.ref (cE A i)) od H'
def jk (K:W.Frag) (A:Adr):Sp:=fun vs H Q _=>∃ (f b:Addr) (g:List Key→Option Key) (n i:Nat),wK A H vs b f g n i∧∀ (g':List Key→Option Key) (H':Hp),bd b H H'→Stp A H' f b g' (n+70)→Sub g g'→Q (.str (nmE i)) H'
def jC (K:W.Frag) (A:Adr):Sp:=fun vs H Q _=>∃ (f b:Addr) (g:List Key→Option Key) (n i:Nat),wK A H vs b f g n i∧∀ (L:Addr) (g':List Key→Option Key) (H':Hp),bd b H H'→Stp A H' f b g' (n+70)→Sub g g'→H' L=some (.lst [.bl true,.bl (i==0),.bl (i==1),.bl (i==2)])→Q (.ref L) H'
def nX (K:W.Frag) (A:Adr):Sp:=fun vs H Q _=>∃ (f b:Addr) (B k:Int) (m came:Key) (w:V) (st:List (Int×Key)) (e:List Key) (g:List Key→Option Key) (n:Nat),vs=[.ref f,.int B,kV m,.int k,w]∧cA H w B k st e∧Stp A H f b g n∧n≤30000∧(∀ h,Ext g h→came=h (eN h B k e st.reverse))∧came≠m∧∀ (p:Addr) (g':List Key→Option Key) (H':Hp),bd b H H'→Stp A H' f b g' (n+70)→Sub g g'→H' p=some (.tup [kV m,kV came])→Q (.ref p) H'
def kH (K:W.Frag) (A:Adr):Sp:=fun vs H Q _=>∃ (f b M:Addr) (B k:Int) (ms:List Key) (x y w:V) (d e:Dat) (st:List (Int×Key)) (en:List Key) (g:List Key→Option Key) (n:Nat),vs=[.ref f,.int B,.ref M,x,.int k,y,w]∧Stp A H f b g n∧n≤20000∧H M=some (.lst (ms.map kV))∧ms.length=5∧aR H x d∧cT B d=false∧aR H y e∧fY e∧dw B k e=false∧cA H w B k st en∧∀ (g':List Key→Option Key) (H':Hp),bd b H H'→Stp A H' f b g' (n+2000)→Sub g g'→Q (.bl true) H'
def kz (K:W.Frag) (A:Adr):Sp:=fun vs H Q _=>∃ (f b:Addr) (B k:Int) (m came:Key) (w:V) (st:List (Int×Key)) (e:List Key) (g:List Key→Option Key) (n:Nat),vs=[.ref f,.int B,kV came,kV m,.int k,w]∧cA H w B k st e∧Stp A H f b g n∧n≤20000∧(∀ h,Ext g h→came=h (eN h B k e st.reverse))∧came≠m∧∀ (g':List Key→Option Key) (H':Hp),bd b H H'→Stp A H' f b g' (n+300)→Sub g g'→Q (.bl true) H'
def nB (K:W.Frag) (A:Adr):Sp:=fun vs H Q _=>∃ (a:Addr) (ns:List Int),vs=[.ref a]∧SqL K H a (ns.map V.int)∧ns.length≤63∧Fi A H∧∀ H',Q (.bl true) H'
end Rs
namespace Rs
open PySem PySem.Spec PyProof.Rows L2
def gi (K:W.Frag) (A:Adr):L2.li:=[(fh,rQ K A),(fB,sQ K A),(fN,sC K A),(fI,sq K A)]
def BV (K:W.Frag) (A:Adr):TE:=aq (lj K A) (fun _=>E0) (aa (ae 0) (ag))
def Cy (K:W.Frag) (A:Adr):TE:=iP A.c_Numbers "number_of" (rN K A) (fun _=>E0) (ae 1) (aa (ae 0) (ag))
def AH (K:W.Frag) (A:Adr):TS:=az (tBM K "dict" qV (ae 1) (aa (ae 0) (aa (tOp (aV K) (tOp (bZ) (tC (.int 3)) (tCB (bM K) (aa (ae 1) (ag)))) (ae 2)) (ag))))
def Cu (K:W.Frag) (A:Adr):TS:=ar (aC (tC (.int 0)) (av 1)) (ar (dn (ej K (ae 0)) (av 2) (aS (bC K (tCB (cY) (aa (ae 2) (aa (tC (.ty "str")) (ag))))) (ar (aC (ik [] (ej K (tSl (pR K) (ae 2) (jt) (gn (tC (.int 2))))) (fun _ H Q=>Q true H) (tCB (vi) (aa (ae 0) (ag)))) (av 3)) (aC (tOp (aV K) (tOp (aV K) (tOp (bZ) (ae 1) (tC (.int 7))) (tCB (bM K) (aa (ae 2) (ag)))) (tOp (bZ) (tC (.int 2)) (tCB (AC K) (aa (ae 3) (ag))))) (av 1))) (aC (tOp (aV K) (tOp (bZ) (ae 1) (tC (.int 5))) (ae 2)) (av 1)))) (az (tOp (aT) (ae 1) (ae 4))))
def HN (K:W.Frag) (A:Adr):TS:=az (dA (tCB (cY) (aa (ae 0) (aa (tC (.ty "int")) (ag)))) (nN (tCB (cY) (aa (ae 0) (aa (tC (.ty "bool")) (ag))))))
def Hw (K:W.Frag) (A:Adr):TS:=ar (aS (bC K (aq (fg K A) (fun _=>E0) (aa (ae 0) (ag)))) (az (dI (mLe) (mLt) (tC (.int 0)) (ae 0) (tOp (lS) (tC (.int 10)) (tC (.int 60))))) (aG)) (az (tCB (cY) (aa (ae 0) (aa (tC (.ty "str")) (ag)))))
def Ia (K:W.Frag) (A:Adr):TS:=ar (aS (bJ (bC K (tCB (cY) (aa (ae 0) (aa (tC (.ty "tuple")) (ag)))))) (az (tC (.bl false))) (aG)) (ar (aS (bJ (aN (dI (mLe) (mLe) (tC (.int 1)) (tCB (bM K) (aa (ae 0) (ag))) (tC (.int 8))))) (az (tC (.bl false))) (aG)) (az (dA (tCB (cY) (aa (tOp (aM K) (ae 0) (tC (.int 0))) (aa (tC (.ty "str")) (ag)))) (tCB (CK) (aa (ik [] (ej K (ae 0)) (fun _ H Q=>Q true H) (aq (hU K A) (fun _=>E0) (aa (ae 0) (ag)))) (ag))))))
def GM (K:W.Frag) (A:Adr):TS:=ar (aS (bC K (aq (fg K A) (fun _=>E0) (aa (ae 0) (ag)))) (az (mJ ((tH (ae 0))::(tC (.str ";"))::[]) Str.empty)) (aG)) (ar (aC (tCB (bM K) (aa (ae 0) (ag))) (av 1)) (az (mJ ((tH (ae 1))::(tC (.str ":"))::(tH (ae 0))::[]) Str.empty)))
def Hx (K:W.Frag) (A:Adr):TS:=ar (aS (bJ (bC K (aq (kI K A) (fun _=>E0) (aa (ae 0) (ag))))) (iK) (aG)) (az (tBM K "str" yC (tC (.str "")) (aa (ik [] (ej K (ae 0)) (fun _ H Q=>Q true H) (aq (nK K A) (fun _=>E0) (aa (ae 0) (ag)))) (ag))))
def T_7 (K:W.Frag) (A:Adr):TS:=ar (aS (bJ (bC K (aq (kI K A) (fun _=>E0) (aa (ae 1) (ag))))) (iK) (aG)) (ar (aS (aN (tOp (qk K) (ae 1) (cQ K (ae 0) "given"))) (aC (tCB (bM K) (aa (cQ K (ae 0) "given") (ag))) (xH (cQ K (ae 0) "given") (ae 1) rD)) (aG)) (az (tOp (aM K) (cQ K (ae 0) "given") (ae 1))))
def GK (K:W.Frag) (A:Adr):TS:=az (tOp (aV K) (tC (.int 1)) (tOp (aT) (tOp (bw) (ae 0) (tC (.int 3))) (tOp (aM K) (bz (aa (tC (.int 60)) (aa (tC (.int 8)) (aa (tC (.int 60)) (ag))))) (tOp (aT) (ae 0) (tC (.int 3))))))
def Hv (K:W.Frag) (A:Adr):TS:=ar (aS (aN (tOp (mLt) (ae 1) (tCB (bM K) (aa (ae 0) (ag))))) (az (tOp (aM K) (ae 0) (ae 1))) (aG)) (ar (aC (tOp (aV K) (tC (.int 17)) (tCB (bM K) (aa (ae 0) (ag)))) (av 2)) (ar (dn (ej K (tSl (pR K) (ae 0) (jt) (gn (tC (.int 5))))) (av 3) (aC (tOp (aT) (tOp (aV K) (tOp (bZ) (ae 2) (tC (.int 31))) (ae 3)) (tC (.int 1000003))) (av 2))) (ar (aC (tOp (aT) (tOp (aV K) (ae 2) (tOp (bZ) (tC (.int 7919)) (ae 1))) (tC (.int 1000003))) (av 2)) (az (tOp (aT) (tOp (bZ) (ae 2) (ae 2)) (tC (.int 2147483629)))))))
def GP (K:W.Frag) (A:Adr):TS:=ar (aC (tOp (dX) (tC (.int 1)) (ae 0)) (av 3)) (ar (aC (tOp (bw) (ae 1) (tC (.int 5))) (av 4)) (ar (aS (aN (tOp (bF K) (tOp (aT) (ae 1) (tC (.int 5))) (tC (.int 0)))) (az (tOp (aT) (ae 4) (ae 3))) (aG)) (ar (aS (aN (tOp (bF K) (tOp (aT) (ae 1) (tC (.int 5))) (tC (.int 1)))) (az (tOp (bQ) (tOp (bQ) (ae 3) (tC (.int 1))) (tOp (aT) (ae 4) (ae 3)))) (aG)) (ar (aS (iq (aN (tOp (bF K) (tOp (aT) (ae 1) (tC (.int 5))) (tC (.int 2)))) (aN (tOp (cB K) (ae 2) (bz (ag))))) (ar (aC (tOp (aT) (tOp (aT) (tOp (bZ) (ae 4) (tC (.int 48271))) (tC (.int 65537))) (ae 0)) (av 5)) (az (tOp (wF) (tOp (aM K) (ae 2) (tOp (aT) (ae 4) (tCB (bM K) (aa (ae 2) (ag))))) (tOp (dX) (tC (.int 1)) (ae 5))))) (aG)) (az (tOp (aT) (tOp (bZ) (ae 4) (tC (.int 1152921504606846883))) (ae 3)))))))
def T_6 (K:W.Frag) (A:Adr):TS:=iI K (ae 0) (fm) "given"
def Ck (K:W.Frag) (A:Adr) (q0:Addr):TSM:=oy (kR (aC (iT A.c_Numbers (sG K A) (fun _=>E0) (ag)) (av 0))) (pA (lR A.t_37 ⟨206,11,206,47⟩ fB [q0]))
def CJ (K:W.Frag) (A:Adr) (q0 q1:Addr):TSM:=oy (kR (aC (fm) (av 1))) (oy (kR (aC (lR A.t_27 ⟨274,4,275,81⟩ fN [q1,q0]) (av 2))) (pA (ae 2)))
def CA (K:W.Frag) (A:Adr) (q0:Addr):TSM:=oy (kR (aC (lR A.t_34 ⟨279,4,287,37⟩ fI [q0]) (av 1))) (pA (ae 1))
def Ba (K:W.Frag) (A:Adr):TSM:=pA (lR A.t_60 ⟨203,11,203,37⟩ fh [])
def HD (K:W.Frag) (A:Adr):TS:=ar (aC (tOp (aT) (tOp (bZ) (ae 0) (tC (.int 69621))) (tC (.int 1000003))) (av 0)) (ar (aS (aN (tOp (bF K) (tOp (aT) (ae 0) (tC (.int 4))) (tC (.int 0)))) (az (tOp (aV K) (tC (.str "m")) (tCB (xO) (aa (tOp (aT) (ae 0) (tC (.int 50))) (ag))))) (aG)) (ar (aS (aN (tOp (bF K) (tOp (aT) (ae 0) (tC (.int 4))) (tC (.int 1)))) (az (tOp (aT) (tOp (bw) (ae 0) (tC (.int 4))) (tC (.int 12)))) (aG)) (ar (aS (aN (tOp (bF K) (tOp (aT) (ae 0) (tC (.int 4))) (tC (.int 2)))) (az (tOp (bZ) (ae 0) (tOp (lS) (tC (.int 10)) (tC (.int 30))))) (aG)) (az (tOp (bQ) (tOp (bQ) (tOp (lS) (tC (.int 10)) (tC (.int 60))) (tC (.int 1))) (ae 0))))))
def HI (K:W.Frag) (A:Adr):TS:=ar (aC (tOp (aT) (tOp (bw) (ae 0) (tC (.int 4))) (tC (.int 65537))) (av 3)) (ar (aC (bz (ag)) (av 4)) (ar (dn (rW (aa (ae 1) (aa (ae 2) (ag)))) (av 5) (aS (aN (tOp (mLt) (tOp (aT) (tOp (aT) (tOp (bZ) (tOp (bZ) (ae 3) (tOp (aV K) (ae 5) (tC (.int 3)))) (tC (.int 48271))) (tC (.int 65537))) (tC (.int 4))) (tOp (aT) (ae 0) (tC (.int 4))))) (eO (tBM K "list" fR (ae 4) (aa (bf (aa (ae 5) (aa (aq (eA K A) (fun _=>E0) (aa (tOp (aV K) (ae 3) (tOp (bZ) (tC (.int 97)) (ae 5))) (ag))) (ag)))) (ag)))) (aG))) (az (tCB (oX K) (aa (ae 4) (ag))))))
def AD (K:W.Frag) (A:Adr):TS:=az (ae 3)
def zS (K:W.Frag) (A:Adr):TS:=ar (dn (ir (aa (ae 2) (ag))) (av 4) (aC (tOp (aV K) (ae 3) (tOp (aM K) (ae 1) (tOp (aT) (tOp (aV K) (tOp (bw) (ae 0) (tC (.int 4))) (tOp (bZ) (ae 4) (tOp (aT) (tOp (bw) (ae 0) (tC (.int 128))) (tC (.int 5))))) (tCB (bM K) (aa (ae 1) (ag)))))) (av 3))) (AD K A)
def ut (K:W.Frag) (A:Adr):TS:=ar (aC (tC (.str "")) (av 3)) (zS K A)
def Cc (K:W.Frag) (A:Adr):TS:=ar (aS (aN (tOp (bF K) (tOp (aT) (tOp (bw) (ae 0) (tC (.int 4))) (tC (.int 8))) (tC (.int 2)))) (aC (tOp (aT) (tOp (bw) (ae 0) (tC (.int 32))) (tC (.int 61))) (av 2)) (aG)) (ut K A)
def HL (K:W.Frag) (A:Adr):TS:=ar (aC (tC (.str " !\"#$&'()*+,-./0123456789:;<=>?@ABCDEFGHIJKLMNOPQRSTUVWXYZ[\\]^_`")) (av 1)) (ar (aC (tOp (aV K) (ae 1) (tC (.str "abcdefghijklmnopqrstuvwxyz{|}~"))) (av 1)) (ar (aC (tOp (aT) (ae 0) (tC (.int 4))) (av 2)) (ar (aS (aN (tOp (bF K) (tOp (aT) (tOp (bw) (ae 0) (tC (.int 4))) (tC (.int 8))) (tC (.int 1)))) (aC (tC (.int 60)) (av 2)) (aG)) (ar (aS (aN (tOp (bF K) (tOp (aT) (tOp (bw) (ae 0) (tC (.int 4))) (tC (.int 8))) (tC (.int 2)))) (aC (tOp (aT) (tOp (bw) (ae 0) (tC (.int 32))) (tC (.int 61))) (av 2)) (aG)) (ar (aC (tC (.str "")) (av 3)) (ar (dn (ir (aa (ae 2) (ag))) (av 4) (aC (tOp (aV K) (ae 3) (tOp (aM K) (ae 1) (tOp (aT) (tOp (aV K) (tOp (bw) (ae 0) (tC (.int 4))) (tOp (bZ) (ae 4) (tOp (aT) (tOp (bw) (ae 0) (tC (.int 128))) (tC (.int 5))))) (tCB (bM K) (aa (ae 1) (ag)))))) (av 3))) (az (ae 3))))))))
def AU (K:W.Frag) (A:Adr):TS:=az (bf (aa (tC (.str "leaf")) (aa (tOp (aV K) (tOp (bQ) (ae 2) (tOp (aT) (ae 2) (ae 9))) (tOp (aT) (tOp (bZ) (ae 4) (tC (.int 982451653))) (ae 9))) (aa (aq (ib K A) (fun _=>E0) (aa (tOp (bw) (ae 4) (tC (.int 3))) (ag))) (ag)))))
def CY (K:W.Frag) (A:Adr):TS:=ar (aS (aN (tOp (bF K) (tOp (aT) (ae 0) (tC (.int 4))) (tC (.int 2)))) (az (bf (aa (tC (.str "leaf")) (aa (ae 2) (aa (aq (ib K A) (fun _=>E0) (aa (ae 4) (ag))) (ag)))))) (aG)) (AU K A)
def uq (K:W.Frag) (A:Adr):TS:=ar (aC (tOp (dX) (tC (.int 1)) (tOp (bQ) (ae 1) (ae 3))) (av 9)) (CY K A)
def AZ (K:W.Frag) (A:Adr):TS:=ar (aS (iq (aN (tOp (bF K) (tOp (aT) (ae 0) (tC (.int 4))) (tC (.int 1)))) (aN (tOp (mLt) (tOp (aV K) (ae 3) (tC (.int 1))) (ae 1)))) (ar (aC (tOp (aV K) (tOp (aV K) (ae 3) (tC (.int 1))) (tOp (aT) (ae 4) (tOp (bQ) (tOp (bQ) (ae 1) (tC (.int 1))) (ae 3)))) (av 5)) (ar (aC (tOp (iS) (ae 2) (tOp (bQ) (ae 1) (ae 5))) (av 6)) (ar (aC (tOp (dX) (tC (.int 1)) (tOp (bQ) (ae 5) (ae 3))) (av 7)) (ar (aC (tOp (aT) (tOp (aV K) (tOp (aV K) (tOp (aT) (ae 6) (ae 7)) (tC (.int 1))) (tOp (aT) (tOp (bZ) (ae 4) (tC (.int 69621))) (tOp (bQ) (ae 7) (tC (.int 1))))) (ae 7)) (av 8)) (az (bf (aa (tC (.str "fork")) (aa (ae 5) (aa (tOp (aV K) (tOp (bQ) (ae 6) (tOp (aT) (ae 6) (ae 7))) (ae 8)) (aa (aq (eA K A) (fun _=>E0) (aa (ae 4) (ag))) (aa (aq (eA K A) (fun _=>E0) (aa (tOp (aV K) (tOp (bw) (ae 4) (tC (.int 7))) (tC (.int 5))) (ag))) (ag)))))))))))) (aG)) (uq K A)
def HP (K:W.Frag) (A:Adr):TS:=ar (aC (tOp (bw) (ae 0) (tC (.int 4))) (av 4)) (ar (aS (iq (aN (tOp (bF K) (tOp (aT) (ae 0) (tC (.int 4))) (tC (.int 0)))) (aN (tOp (bF K) (ae 3) (tC (.int 0))))) (az (bf (aa (tC (.str "bare")) (ag)))) (aG)) (ar (aS (iq (aN (tOp (bF K) (tOp (aT) (ae 0) (tC (.int 4))) (tC (.int 1)))) (aN (tOp (mLt) (tOp (aV K) (ae 3) (tC (.int 1))) (ae 1)))) (ar (aC (tOp (aV K) (tOp (aV K) (ae 3) (tC (.int 1))) (tOp (aT) (ae 4) (tOp (bQ) (tOp (bQ) (ae 1) (tC (.int 1))) (ae 3)))) (av 5)) (ar (aC (tOp (iS) (ae 2) (tOp (bQ) (ae 1) (ae 5))) (av 6)) (ar (aC (tOp (dX) (tC (.int 1)) (tOp (bQ) (ae 5) (ae 3))) (av 7)) (ar (aC (tOp (aT) (tOp (aV K) (tOp (aV K) (tOp (aT) (ae 6) (ae 7)) (tC (.int 1))) (tOp (aT) (tOp (bZ) (ae 4) (tC (.int 69621))) (tOp (bQ) (ae 7) (tC (.int 1))))) (ae 7)) (av 8)) (az (bf (aa (tC (.str "fork")) (aa (ae 5) (aa (tOp (aV K) (tOp (bQ) (ae 6) (tOp (aT) (ae 6) (ae 7))) (ae 8)) (aa (aq (eA K A) (fun _=>E0) (aa (ae 4) (ag))) (aa (aq (eA K A) (fun _=>E0) (aa (tOp (aV K) (tOp (bw) (ae 4) (tC (.int 7))) (tC (.int 5))) (ag))) (ag)))))))))))) (aG)) (ar (aC (tOp (dX) (tC (.int 1)) (tOp (bQ) (ae 1) (ae 3))) (av 9)) (ar (aS (aN (tOp (bF K) (tOp (aT) (ae 0) (tC (.int 4))) (tC (.int 2)))) (az (bf (aa (tC (.str "leaf")) (aa (ae 2) (aa (aq (ib K A) (fun _=>E0) (aa (ae 4) (ag))) (ag)))))) (aG)) (az (bf (aa (tC (.str "leaf")) (aa (tOp (aV K) (tOp (bQ) (ae 2) (tOp (aT) (ae 2) (ae 9))) (tOp (aT) (tOp (bZ) (ae 4) (tC (.int 982451653))) (ae 9))) (aa (aq (ib K A) (fun _=>E0) (aa (tOp (bw) (ae 4) (tC (.int 3))) (ag))) (ag))))))))))
def Il (K:W.Frag) (A:Adr):TS:=ar (aS (aN (tOp (bF K) (ae 0) (bf (ag)))) (az (ae 1)) (aG)) (az (tOp (aV K) (tOp (aM K) (tOp (aM K) (ae 0) (tUn dh (tC (.int 1)))) (tC (.int 0))) (tC (.int 1))))
def HY (K:W.Frag) (A:Adr):TS:=ar (aC (bz (aa (tOp (aM K) (ae 3) (tC (.int 1))) (ag))) (av 4)) (ar (dn (xc K (aa (tOp (aM K) (ae 3) (tC (.int 0))) (ag))) (oi K 2 (fK (av 5) (fK (av 6) pL))) (ar (aC (gw (gi K A) (fun _=>E0) (ae 0) (aa (tOp (aM K) (ae 4) (tUn dh (tC (.int 1)))) (ag))) (av 7)) (ar (aC (tOp (bw) (ae 2) (tOp (dX) (tC (.int 1)) (tOp (bQ) (ae 1) (ae 5)))) (av 8)) (aS (aN (tOp (bF K) (tOp (aT) (tOp (bw) (ae 2) (tOp (dX) (tC (.int 1)) (tOp (bQ) (tOp (bQ) (ae 1) (ae 5)) (tC (.int 1))))) (tC (.int 2))) (tC (.int 0)))) (eO (tBM K "list" fR (ae 4) (aa (bf (aa (tC (.str "fork")) (aa (ae 5) (aa (ae 8) (aa (ae 7) (aa (ae 6) (ag))))))) (ag)))) (eO (tBM K "list" fR (ae 4) (aa (bf (aa (tC (.str "fork")) (aa (ae 5) (aa (ae 8) (aa (ae 6) (aa (ae 7) (ag))))))) (ag)))))))) (az (ae 4)))
def HU (K:W.Frag) (A:Adr):TS:=ar (aS (bC K (tCB (cY) (aa (ae 1) (aa (tC (.ty "str")) (ag))))) (az (dA (tCB (cY) (aa (ae 0) (aa (tC (.ty "str")) (ag)))) (tOp (bF K) (ae 0) (ae 1)))) (aG)) (az (dA (tCB (cY) (aa (ae 0) (aa (tC (.ty "int")) (ag)))) (dA (nN (tCB (cY) (aa (ae 0) (aa (tC (.ty "bool")) (ag))))) (tOp (bF K) (ae 0) (ae 1)))))
def Hy (K:W.Frag) (A:Adr):TS:=ar (aS (mOr (bJ (bC K (tCB (cY) (aa (ae 0) (aa (tC (.ty "tuple")) (ag)))))) (aN (tOp (cB K) (tCB (bM K) (aa (ae 0) (ag))) (tCB (bM K) (aa (ae 1) (ag)))))) (az (tC (.bl false))) (aG)) (ar (dn (ir (aa (tCB (bM K) (aa (ae 1) (ag))) (ag))) (av 2) (aS (bJ (bC K (aq (jE K A) (fun _=>E0) (aa (tOp (aM K) (ae 0) (ae 2)) (aa (tOp (aM K) (ae 1) (ae 2)) (ag)))))) (az (tC (.bl false))) (aG))) (az (tC (.bl true))))
def Gx (K:W.Frag) (A:Adr):TS:=ar (aS (mOr (bJ (bC K (tCB (cY) (aa (ae 0) (aa (tC (.ty "list")) (ag)))))) (aN (tOp (cB K) (tCB (bM K) (aa (ae 0) (ag))) (tCB (bM K) (aa (ae 1) (ag)))))) (az (tC (.bl false))) (aG)) (ar (dn (ir (aa (tCB (bM K) (aa (ae 1) (ag))) (ag))) (av 2) (aS (bJ (bC K (aq (nV K A) (fun _=>E0) (aa (tOp (aM K) (ae 0) (ae 2)) (aa (tOp (aM K) (ae 1) (ae 2)) (ag)))))) (az (tC (.bl false))) (aG))) (az (tC (.bl true))))
def HM (K:W.Frag) (A:Adr):TS:=az (dA (aq (fg K A) (fun _=>E0) (aa (ae 1) (ag))) (dI (mLe) (mLt) (tC (.int 0)) (ae 1) (tOp (dX) (tC (.int 1)) (ae 0))))
def HF (K:W.Frag) (A:Adr):TS:=ar (aS (mOr (bJ (bC K (tCB (cY) (aa (ae 2) (aa (tC (.ty "tuple")) (ag)))))) (aN (tOp (cB K) (tCB (bM K) (aa (ae 2) (ag))) (tC (.int 2))))) (az (tC (.bl false))) (aG)) (az (dA (aq (fg K A) (fun _=>E0) (aa (tOp (aM K) (ae 2) (tC (.int 0))) (ag))) (dA (dI (mLe) (mLt) (ae 1) (tOp (aM K) (ae 2) (tC (.int 0))) (ae 0)) (aq (hU K A) (fun _=>E0) (aa (tOp (aM K) (ae 2) (tC (.int 1))) (ag))))))
def Hg (K:W.Frag) (A:Adr):TS:=ar (aS (bJ (bC K (tCB (cY) (aa (ae 1) (aa (tC (.ty "tuple")) (ag)))))) (az (tC (.bl false))) (aG)) (ar (aC (tC (.int 0)) (av 2)) (ar (dn (ej K (ae 1)) (av 3) (ar (aS (bJ (bC K (aq (nE K A) (fun _=>E0) (aa (ae 0) (aa (ae 2) (aa (ae 3) (ag))))))) (az (tC (.bl false))) (aG)) (aC (tOp (aV K) (tOp (aM K) (ae 3) (tC (.int 0))) (tC (.int 1))) (av 2)))) (az (tC (.bl true)))))
def Gs (K:W.Frag) (A:Adr):TS:=az (tOp (iS) (ae 1) (tOp (bQ) (ae 0) (ae 2)))
def Hq (K:W.Frag) (A:Adr):TS:=az (dA (tCB (cY) (aa (ae 0) (aa (tC (.ty "str")) (ag)))) (tOp (mLe) (tCB (bM K) (aa (ae 0) (ag))) (tC (.int 60))))
def GH (K:W.Frag) (A:Adr):TS:=ar (aS (mOr (bJ (bC K (tCB (cY) (aa (ae 3) (aa (tC (.ty "tuple")) (ag)))))) (mOr (aN (tOp (cB K) (tCB (bM K) (aa (ae 3) (ag))) (tC (.int 3)))) (aN (tOp (cB K) (tOp (aM K) (ae 3) (tC (.int 0))) (tC (.str "leaf")))))) (az (tC (.bl false))) (aG)) (ar (aS (mOr (bJ (bC K (aq (jD K A) (fun _=>E0) (aa (ae 0) (aa (tOp (aM K) (ae 3) (tC (.int 1))) (ag)))))) (bJ (bC K (aq (nP K A) (fun _=>E0) (aa (tOp (aM K) (ae 3) (tC (.int 2))) (ag)))))) (az (tC (.bl false))) (aG)) (az (tOp (bF K) (aq (gy K A) (fun _=>E0) (aa (ae 0) (aa (tOp (aM K) (ae 3) (tC (.int 1))) (aa (ae 1) (ag))))) (ae 2))))
def GD (K:W.Frag) (A:Adr):TS:=ar (aS (mOr (bJ (bC K (tCB (cY) (aa (ae 3) (aa (tC (.ty "tuple")) (ag)))))) (mOr (aN (tOp (cB K) (tCB (bM K) (aa (ae 3) (ag))) (tC (.int 5)))) (aN (tOp (cB K) (tOp (aM K) (ae 3) (tC (.int 0))) (tC (.str "fork")))))) (az (tC (.bl false))) (aG)) (ar (aS (mOr (bJ (bC K (aq (fg K A) (fun _=>E0) (aa (tOp (aM K) (ae 3) (tC (.int 1))) (ag))))) (bJ (aN (dI (mLe) (mLt) (ae 1) (tOp (aM K) (ae 3) (tC (.int 1))) (ae 0))))) (az (tC (.bl false))) (aG)) (ar (aS (mOr (bJ (bC K (aq (fg K A) (fun _=>E0) (aa (tOp (aM K) (ae 3) (tC (.int 2))) (ag))))) (bJ (aN (dI (mLe) (mLt) (tC (.int 0)) (tOp (aM K) (ae 3) (tC (.int 2))) (tOp (dX) (tC (.int 1)) (tOp (aM K) (ae 3) (tC (.int 1)))))))) (az (tC (.bl false))) (aG)) (az (tOp (bF K) (tOp (iS) (tOp (aM K) (ae 3) (tC (.int 2))) (tOp (bQ) (tOp (aM K) (ae 3) (tC (.int 1))) (ae 1))) (ae 2)))))
def HC (K:W.Frag) (A:Adr):TS:=ar (aS (aN (tOp (bF K) (ae 3) (bf (aa (tC (.str "bare")) (ag))))) (az (tOp (bF K) (ae 2) (tC (.int 0)))) (aG)) (ar (aC (aq (gy K A) (fun _=>E0) (aa (ae 0) (aa (ae 1) (aa (ae 2) (ag))))) (av 4)) (ar (aS (bC K (aq (mX K A) (fun _=>E0) (aa (ae 0) (aa (ae 2) (aa (ae 4) (aa (ae 3) (ag))))))) (az (tC (.bl true))) (aG)) (ar (aS (bJ (bC K (aq (mZ K A) (fun _=>E0) (aa (ae 0) (aa (ae 2) (aa (ae 4) (aa (ae 3) (ag)))))))) (az (tC (.bl false))) (aG)) (ar (aS (aN (tOp (bF K) (tOp (aM K) (ae 3) (tC (.int 2))) (aq (gy K A) (fun _=>E0) (aa (ae 0) (aa (ae 1) (aa (tOp (aM K) (ae 3) (tC (.int 1))) (ag))))))) (az (tC (.bl false))) (aG)) (az (dA (aq (hU K A) (fun _=>E0) (aa (tOp (aM K) (ae 3) (tC (.int 3))) (ag))) (aq (hU K A) (fun _=>E0) (aa (tOp (aM K) (ae 3) (tC (.int 4))) (ag)))))))))
def Hc (K:W.Frag) (A:Adr):TS:=ar (aS (mOr (bJ (bC K (tCB (cY) (aa (ae 2) (aa (tC (.ty "tuple")) (ag)))))) (aN (tOp (cB K) (tCB (bM K) (aa (ae 2) (ag))) (tC (.int 2))))) (az (tC (.bl false))) (aG)) (ar (aS (bJ (bC K (aq (nR K A) (fun _=>E0) (aa (ae 0) (aa (tOp (aM K) (ae 2) (tC (.int 0))) (ag)))))) (az (tC (.bl false))) (aG)) (ar (aC (mIf (bC K (tOp (aM K) (ae 2) (tC (.int 0)))) (tOp (aV K) (tOp (aM K) (tOp (aM K) (tOp (aM K) (ae 2) (tC (.int 0))) (tUn dh (tC (.int 1)))) (tC (.int 0))) (tC (.int 1))) (tC (.int 0))) (av 3)) (az (aq (nQ K A) (fun _=>E0) (aa (ae 0) (aa (ae 1) (aa (ae 3) (aa (tOp (aM K) (ae 2) (tC (.int 1))) (ag)))))))))
def GS (K:W.Frag) (A:Adr):TS:=az (tOp (rC) (tOp (iS) (ae 1) (tOp (bQ) (tOp (bQ) (ae 0) (ae 2)) (tC (.int 1)))) (tC (.int 1)))
def GL (K:W.Frag) (A:Adr):TS:=ar (aC (tOp (aM K) (ae 2) (tC (.int 0))) (av 4)) (ar (aC (aq (gy K A) (fun _=>E0) (aa (ae 0) (aa (ae 1) (aa (ae 4) (ag))))) (av 5)) (ar (aS (aN (tOp (bF K) (aq (jr K A) (fun _=>E0) (aa (ae 0) (aa (ae 1) (aa (ae 4) (ag))))) (tC (.int 0)))) (az (bf (aa (tC (.str "fork")) (aa (ae 4) (aa (ae 5) (aa (ae 3) (aa (tOp (aM K) (ae 2) (tC (.int 1))) (ag)))))))) (aG)) (az (bf (aa (tC (.str "fork")) (aa (ae 4) (aa (ae 5) (aa (tOp (aM K) (ae 2) (tC (.int 1))) (aa (ae 3) (ag))))))))))
def Cw (K:W.Frag) (A:Adr) (E:XK):TS:=ar (aS (bJ (bC K (aq (jD K A) (fun _=>E0) (aa (ae 1) (aa (ae 2) (ag)))))) (kS A.c_NoKey (fun _=>E)) (aG)) (ar (aS (bJ (bC K (aq (nO K A) (fun _=>E0) (aa (ae 1) (aa (ae 2) (aa (ae 3) (ag))))))) (kS A.c_NoPaper (fun _=>E)) (aG)) (ar (aC (bz (aa (tOp (aM K) (ae 3) (tC (.int 1))) (ag))) (av 4)) (ar (dn (xc K (aa (tOp (aM K) (ae 3) (tC (.int 0))) (ag))) (av 5) (eO (tBM K "list" fR (ae 4) (aa (aq (nj K A) (fun _=>E0) (aa (ae 1) (aa (ae 2) (aa (ae 5) (aa (gw (gi K A) (fun _=>E0) (ae 0) (aa (tOp (aM K) (ae 4) (tUn dh (tC (.int 1)))) (ag))) (ag)))))) (ag))))) (az (ae 4)))))
def Gu (K:W.Frag) (A:Adr):TS:=ar (aS (aN (tOp (oh) (ae 1) (tC .non))) (az (tOp (oh) (ae 0) (tC .non))) (aG)) (az (dA (tCB (cY) (aa (ae 0) (aa (tC (.ty "str")) (ag)))) (tOp (bF K) (ae 0) (ae 1))))
def CC (K:W.Frag) (A:Adr) (E:XK):TS:=az (gw (gi K A) (fun _=>E0) (ae 0) (aa (tOp (aM K) (aq (jA K A) (fun _=>E) (aa (ae 0) (aa (ae 1) (aa (ae 2) (aa (ae 3) (ag)))))) (tUn dh (tC (.int 1)))) (ag)))
def T_1 (K:W.Frag) (A:Adr):TS:=ar (sO K A.c_Broken (ae 0) (ae 1) "due") (sO K A.c_Broken (ae 0) (ae 2) "came")
def Ie (K:W.Frag) (A:Adr):TS:=ar (aC (tOp (aM K) (ae 1) (tC (.int 1))) (av 2)) (az (mIf (iq (aN (tOp (bF K) (tOp (aM K) (ae 2) (tC (.int 0))) (tC (.str "leaf")))) (aN (tOp (bF K) (tOp (aM K) (ae 2) (tC (.int 1))) (ae 0)))) (tOp (aM K) (ae 2) (tC (.int 2))) (tC .non)))
def CG (K:W.Frag) (A:Adr) (E:XK):TS:=ar (aC (aq (lh K A) (fun _=>E) (aa (ae 0) (aa (ae 1) (aa (ae 3) (aa (ae 4) (ag)))))) (av 5)) (ar (aS (aN (tOp (cB K) (ae 5) (ae 2))) (qT A.c_Broken (rG K A) (fun _=>E) (aa (ae 2) (aa (ae 5) (ag)))) (aG)) (az (aq (mY K A) (fun _=>E0) (aa (ae 3) (aa (ae 4) (ag))))))
def GZ (K:W.Frag) (A:Adr):TS:=ar (aS (iq (aN (tOp (bF K) (tOp (aM K) (tOp (aM K) (ae 1) (tC (.int 1))) (tC (.int 0))) (tC (.str "leaf")))) (aN (tOp (bF K) (tOp (aM K) (tOp (aM K) (ae 1) (tC (.int 1))) (tC (.int 1))) (ae 0)))) (az (tOp (aM K) (tOp (aM K) (ae 1) (tC (.int 1))) (tC (.int 2)))) (aG)) (az (tC .non))
def GF (K:W.Frag) (A:Adr):TS:=ar (aC (aq (jz K A) (fun _=>E0) (aa (ae 0) (aa (ae 1) (aa (ae 2) (aa (ae 3) (ag)))))) (av 4)) (ar (aC (gw (gi K A) (fun _=>E0) (ae 0) (aa (tOp (aM K) (ae 4) (tUn dh (tC (.int 1)))) (ag))) (av 5)) (ar (aS (bJ (bC K (aq (nG K A) (fun _=>E0) (aa (aq (jA K A) (fun _=>E0) (aa (ae 0) (aa (ae 1) (aa (ae 2) (aa (ae 3) (ag)))))) (aa (ae 4) (ag)))))) (az (tC (.bl false))) (aG)) (az (aq (nA K A) (fun _=>E0) (aa (aq (jF K A) (fun _=>E0) (aa (ae 0) (aa (ae 1) (aa (ae 5) (aa (ae 2) (aa (ae 3) (ag))))))) (aa (aq (ny K A) (fun _=>E0) (aa (ae 2) (aa (ae 3) (ag)))) (ag)))))))
def BF (K:W.Frag) (A:Adr):TS:=az (bz (aa (tUn dh (tC (.int 1))) (aa (tOp (dX) (tC (.int 1)) (ae 0)) (aa (ae 2) (aa (tUn dh (ae 2)) (aa (tC (.bl true)) (aa (tC (.bl false)) (aa (tC .non) (aa (tC (.str "0")) (aa (bz (aa (tC (.int 0)) (ag))) (aa (bf (aa (tC (.int 0)) (ag))) (aa (fm) (aa (tC (.str "")) (aa (bz (ag)) (aa (bf (ag)) (ag))))))))))))))))
def Ih (K:W.Frag) (A:Adr):TS:=ar (aC (tOp (aV K) (tOp (dX) (tC (.int 1)) (ae 0)) (tOp (aT) (ae 1) (tOp (lS) (tC (.int 10)) (tC (.int 40))))) (av 2)) (az (bz (aa (tUn dh (tC (.int 1))) (aa (tOp (dX) (tC (.int 1)) (ae 0)) (aa (ae 2) (aa (tUn dh (ae 2)) (aa (tC (.bl true)) (aa (tC (.bl false)) (aa (tC .non) (aa (tC (.str "0")) (aa (bz (aa (tC (.int 0)) (ag))) (aa (bf (aa (tC (.int 0)) (ag))) (aa (fm) (aa (tC (.str "")) (aa (bz (ag)) (aa (bf (ag)) (ag)))))))))))))))))
def ou (K:W.Frag) (A:Adr):TS:=az (tOp (aV K) (ae 5) (bz (aa (bf (aa (ae 3) (aa (ae 4) (aa (bf (ag)) (ag))))) (aa (bf (aa (ae 3) (aa (tC .non) (ag)))) (aa (fm) (aa (bz (ag)) (aa (tC (.bl true)) (aa (bf (aa (ae 3) (aa (bz (aa (tC (.str "bare")) (ag))) (ag)))) (ag)))))))))
def pO (K:W.Frag) (A:Adr):TS:=ar (aC (tOp (aV K) (ae 5) (bz (aa (bf (aa (tOp (aV K) (ae 3) (bf (aa (bf (aa (ae 0) (aa (ae 2) (ag)))) (ag)))) (aa (ae 4) (ag)))) (aa (bf (aa (tOp (aV K) (ae 3) (bf (aa (bf (aa (tC (.int 0)) (aa (tUn dh (tC (.int 1))) (ag)))) (ag)))) (aa (ae 4) (ag)))) (ag))))) (av 5)) (ou K A)
def uN (K:W.Frag) (A:Adr):TS:=ar (aC (bz (aa (bz (aa (ae 3) (aa (ae 4) (ag)))) (aa (bf (aa (ae 3) (ag))) (aa (bf (aa (ae 3) (aa (bf (aa (tC (.str "leave")) (aa (tOp (aM K) (ae 4) (tUn dh (tC (.int 1)))) (aa (tC (.str "a")) (ag))))) (ag)))) (aa (tC .non) (aa (tC (.str "")) (aa (tC (.int 7)) (ag)))))))) (av 5)) (pO K A)
def Hs (K:W.Frag) (A:Adr):TS:=ar (aC (ae 1) (oi K 2 (fK (av 3) (fK (av 4) pL)))) (ar (aC (bz (aa (bz (aa (ae 3) (aa (ae 4) (ag)))) (aa (bf (aa (ae 3) (ag))) (aa (bf (aa (ae 3) (aa (bf (aa (tC (.str "leave")) (aa (tOp (aM K) (ae 4) (tUn dh (tC (.int 1)))) (aa (tC (.str "a")) (ag))))) (ag)))) (aa (tC .non) (aa (tC (.str "")) (aa (tC (.int 7)) (ag)))))))) (av 5)) (ar (aC (tOp (aV K) (ae 5) (bz (aa (bf (aa (tOp (aV K) (ae 3) (bf (aa (bf (aa (ae 0) (aa (ae 2) (ag)))) (ag)))) (aa (ae 4) (ag)))) (aa (bf (aa (tOp (aV K) (ae 3) (bf (aa (bf (aa (tC (.int 0)) (aa (tUn dh (tC (.int 1))) (ag)))) (ag)))) (aa (ae 4) (ag)))) (ag))))) (av 5)) (az (tOp (aV K) (ae 5) (bz (aa (bf (aa (ae 3) (aa (ae 4) (aa (bf (ag)) (ag))))) (aa (bf (aa (ae 3) (aa (tC .non) (ag)))) (aa (fm) (aa (bz (ag)) (aa (tC (.bl true)) (aa (bf (aa (ae 3) (aa (bz (aa (tC (.str "bare")) (ag))) (ag)))) (ag))))))))))))
def T_3 (K:W.Frag) (A:Adr):TS:=az (tOp (bF K) (aq (gy K A) (fun _=>E0) (aa (ae 1) (aa (ae 2) (aa (cQ K (ae 0) "depth") (ag))))) (cQ K (ae 0) "begin"))
def T_2 (K:W.Frag) (A:Adr):TS:=az (mIf (aN (tOp (bF K) (aq (jr K A) (fun _=>E0) (aa (ae 1) (aa (ae 2) (aa (cQ K (ae 0) "depth") (ag))))) (tC (.int 0)))) (cQ K (ae 0) "right") (cQ K (ae 0) "left"))
def T_4 (K:W.Frag) (A:Adr):TS:=az (mIf (aN (tOp (bF K) (aq (jr K A) (fun _=>E0) (aa (ae 1) (aa (ae 2) (aa (cQ K (ae 0) "depth") (ag))))) (tC (.int 0)))) (cQ K (ae 0) "left") (cQ K (ae 0) "right"))
def BG (K:W.Frag) (A:Adr) (E:XK):TS:=ar (aS (bJ (bC K (aq (jD K A) (fun _=>E0) (aa (cQ K (ae 0) "bits") (aa (ae 1) (ag)))))) (kS A.c_NoKey (fun _=>E)) (aG)) (ar (aC (bz (ag)) (av 2)) (ar (aC (cQ K (ae 0) "top") (av 3)) (ar (pU (iq (bC K (tCB (xV K) (aa (ae 3) (aa (tC (.ref A.c_Fork)) (ag))))) (bC K (iP A.c_Fork "leads" (sY K A) (fun _=>E0) (ae 3) (aa (cQ K (ae 0) "bits") (aa (ae 1) (ag)))))) (ar (eO (tBM K "list" fR (ae 2) (aa (bf (aa (cQ K (ae 3) "depth") (aa (cQ K (iP A.c_Fork "aside" (tB K A) (fun _=>E0) (ae 3) (aa (cQ K (ae 0) "bits") (aa (ae 1) (ag)))) "mark") (ag)))) (ag)))) (aC (iP A.c_Fork "toward" (rz K A) (fun _=>E0) (ae 3) (aa (cQ K (ae 0) "bits") (aa (ae 1) (ag)))) (av 3)))) (az (bf (aa (tCB (oX K) (aa (ae 2) (ag))) (aa (cQ K (ae 3) "term") (ag))))))))
def GU (K:W.Frag) (A:Adr):TS:=az (dA (aq (fg K A) (fun _=>E0) (aa (ae 0) (ag))) (dI (mLe) (mLe) (tC (.int 1)) (ae 0) (tC (.int 60))))
def T_5 (K:W.Frag) (A:Adr):TS:=ar (iI K (ae 0) (ae 2) "term") (iI K (ae 0) (gw (gi K A) (fun _=>E0) (ae 1) (aa (ae 2) (ag))) "mark")
def T_0 (K:W.Frag) (A:Adr):TS:=eO (aq (sN K A) (fun _=>E0) (aa (ae 0) (aa (ae 1) (aa (bf (aa (tC (.str "bare")) (ag))) (ag)))))
def T_8 (K:W.Frag) (A:Adr):TS:=ar (aS (bJ (bC K (aq (nF K A) (fun _=>E0) (aa (ae 2) (ag))))) (iK) (aG)) (ar (iI K (ae 0) (ae 1) "stamper") (ar (iI K (ae 0) (ae 2) "bits") (iI K (ae 0) (iT A.c_Bare (sf K A) (fun _=>E0) (aa (ae 1) (ag))) "top")))
def T_9 (K:W.Frag) (A:Adr) (E:XK):TS:=ar (aS (aN (tOp (bF K) (ae 0) (tC (.int 0)))) (az (aq (jA K A) (fun _=>E) (aa (ae 1) (aa (ae 2) (aa (ae 4) (aa (ae 5) (ag))))))) (aG)) (ar (aS (aN (tOp (bF K) (ae 0) (tC (.int 1)))) (az (aq (lh K A) (fun _=>E) (aa (ae 1) (aa (ae 2) (aa (ae 4) (aa (ae 5) (ag))))))) (aG)) (ar (aS (aN (tOp (bF K) (ae 0) (tC (.int 2)))) (az (aq (jF K A) (fun _=>E) (aa (ae 1) (aa (ae 2) (aa (ae 3) (aa (ae 4) (aa (ae 5) (ag)))))))) (aG)) (az (aq (mW K A) (fun _=>E) (aa (iT A.c_Table (sH K A) (fun _=>E0) (aa (ae 1) (aa (ae 2) (ag)))) (aa (ae 4) (ag)))))))
def Ic (K:W.Frag) (A:Adr):TS:=ar (aC (tC (.str "")) (av 6)) (ar (sg K (fun EH=>eO (aq (oV K A) EH (aa (ae 0) (aa (ae 1) (aa (ae 2) (aa (ae 3) (aa (ae 4) (aa (ae 5) (ag))))))))) (rS K A.c_NoKey (aC (tC (.str "key")) (av 6)) (rS K A.c_NoPaper (aC (tC (.str "paper")) (av 6)) (rS K A.c_Broken (aC (tC (.str "broken")) (av 6)) (oa)))) (aG)) (az (ae 6)))
def HJ (K:W.Frag) (A:Adr):TS:=ar (aC (tC .non) (av 6)) (ar (sg K (fun EH=>eO (aq (oV K A) EH (aa (ae 0) (aa (ae 1) (aa (ae 2) (aa (ae 3) (aa (ae 4) (aa (ae 5) (ag))))))))) (hAs K A.c_StampError 7 (ar (aC (bz (aa (tCB (kJ K) (aa (ae 7) (aa (tC (.ty "ValueError")) (ag)))) (aa (tCB (kJ K) (aa (ae 7) (aa (tC (.ref A.c_NoKey)) (ag)))) (ag)))) (av 6)) (aC (tOp (aV K) (ae 6) (bz (aa (tCB (kJ K) (aa (ae 7) (aa (tC (.ref A.c_NoPaper)) (ag)))) (aa (tCB (kJ K) (aa (ae 7) (aa (tC (.ref A.c_Broken)) (ag)))) (ag))))) (av 6))) (oa)) (aG)) (az (ae 6)))
def Ik (K:W.Frag) (A:Adr):TS:=ar (dn (ir (aa (tC (.int 4)) (ag))) (av 7) (ar (aC (tOp (aM K) (ae 2) (tOp (aT) (ae 7) (tCB (bM K) (aa (ae 2) (ag))))) (av 8)) (ar (dn (ej K (bz (aa (ae 6) (aa (ae 5) (ag))))) (av 9) (ar (aS (aN (tOp (cB K) (aq (jk K A) (fun _=>E0) (aa (ae 7) (aa (ae 0) (aa (ae 1) (aa (ae 8) (aa (ae 3) (aa (ae 9) (ag)))))))) (tC (.str "key")))) (az (tC (.bl false))) (aG)) (ar (aC (aq (jC K A) (fun _=>E0) (aa (ae 7) (aa (ae 0) (aa (ae 1) (aa (ae 8) (aa (ae 3) (aa (ae 9) (ag)))))))) (av 10)) (aS (aN (tOp (cB K) (ae 10) (bz (aa (tC (.bl true)) (aa (tC (.bl true)) (aa (tC (.bl false)) (aa (tC (.bl false)) (ag)))))))) (az (tC (.bl false))) (aG))))) (aS (aN (tOp (mLt) (ae 7) (tC (.int 3)))) (ar (aC (aq (jC K A) (fun _=>E0) (aa (ae 7) (aa (ae 0) (aa (ae 1) (aa (ae 8) (aa (ae 4) (aa (ae 5) (ag)))))))) (av 10)) (ar (aS (aN (tOp (cB K) (aq (jk K A) (fun _=>E0) (aa (ae 7) (aa (ae 0) (aa (ae 1) (aa (ae 8) (aa (ae 4) (aa (ae 5) (ag)))))))) (tC (.str "paper")))) (az (tC (.bl false))) (aG)) (aS (aN (tOp (cB K) (ae 10) (bz (aa (tC (.bl true)) (aa (tC (.bl false)) (aa (tC (.bl true)) (aa (tC (.bl false)) (ag)))))))) (az (tC (.bl false))) (aG)))) (aG))))) (az (tC (.bl true)))
def GT (K:W.Frag) (A:Adr):TS:=ar (aC (tC .non) (av 5)) (ar (sg K (fun EH=>eO (aq (jF K A) EH (aa (ae 0) (aa (ae 1) (aa (ae 2) (aa (ae 3) (aa (ae 4) (ag)))))))) (hAs K A.c_Broken 6 (aC (bf (aa (rX K (ae 6) "due") (aa (rX K (ae 6) "came") (ag)))) (av 5)) (oa)) (aG)) (az (ae 5)))
def Hk (K:W.Frag) (A:Adr):TS:=ar (aS (aN (tOp (cB K) (aq (jk K A) (fun _=>E0) (aa (tC (.int 2)) (aa (ae 0) (aa (ae 1) (aa (ae 3) (aa (ae 4) (aa (ae 5) (ag)))))))) (tC (.str "broken")))) (az (tC (.bl false))) (aG)) (ar (aC (aq (jC K A) (fun _=>E0) (aa (tC (.int 2)) (aa (ae 0) (aa (ae 1) (aa (ae 3) (aa (ae 4) (aa (ae 5) (ag)))))))) (av 6)) (ar (aS (aN (tOp (cB K) (ae 6) (bz (aa (tC (.bl true)) (aa (tC (.bl false)) (aa (tC (.bl false)) (aa (tC (.bl true)) (ag)))))))) (az (tC (.bl false))) (aG)) (ar (aC (aq (nX K A) (fun _=>E0) (aa (ae 0) (aa (ae 1) (aa (ae 3) (aa (ae 4) (aa (ae 5) (ag))))))) (av 7)) (ar (aS (mOr (aN (tOp (oh) (ae 7) (tC .non))) (bJ (bC K (aq (jE K A) (fun _=>E0) (aa (tOp (aM K) (ae 7) (tC (.int 0))) (aa (ae 3) (ag))))))) (az (tC (.bl false))) (aG)) (az (aq (jE K A) (fun _=>E0) (aa (tOp (aM K) (ae 7) (tC (.int 1))) (aa (ae 2) (ag)))))))))
def zf (K:W.Frag) (A:Adr):TS:=az (aq (im K A) (fun _=>E0) (aa (ae 5) (aa (ae 1) (aa (ae 2) (aa (ae 7) (ag))))))
def vd (K:W.Frag) (A:Adr):TS:=ar (dn (ej K (tOp (aV K) (tSl (pR K) (ae 0) (gn (tC (.int 5))) (gn (tC (.int 7)))) (bz (aa (aq (dC K A) (fun _=>E0) (aa (ae 0) (aa (tC (.int 20)) (ag)))) (ag))))) (av 3) (ar (aC (aq (kE K A) (fun _=>E0) (aa (ae 1) (aa (ae 3) (ag)))) (av 9)) (ar (aC (aq (kG K A) (fun _=>E0) (aa (ae 1) (aa (ae 7) (aa (ae 8) (ag))))) (av 10)) (ar (aC (bz (aa (ae 8) (aa (aq (eA K A) (fun _=>E0) (aa (tOp (aT) (ae 3) (tC (.int 1000003))) (ag))) (aa (tC (.int 0)) (aa (tC (.str "")) (aa (tCB (jj) (aa (ae 8) (ag))) (ag))))))) (av 11)) (ar (aC (tOp (aM K) (ae 9) (tOp (aT) (ae 3) (tCB (bM K) (aa (ae 9) (ag))))) (av 12)) (ar (aC (tOp (aM K) (ae 10) (tOp (aT) (tOp (bw) (ae 3) (tC (.int 14))) (tCB (bM K) (aa (ae 10) (ag))))) (av 13)) (ar (aS (bJ (bC K (aq (kH K A) (fun _=>E0) (aa (ae 5) (aa (ae 1) (aa (ae 11) (aa (ae 12) (aa (ae 2) (aa (ae 13) (aa (ae 7) (ag))))))))))) (az (tC (.bl false))) (aG)) (dn (ej K (ae 11)) (av 14) (aS (aN (tOp (cB K) (ae 14) (ae 8))) (aS (bJ (bC K (aq (kz K A) (fun _=>E0) (aa (ae 5) (aa (ae 1) (aa (ae 8) (aa (ae 14) (aa (ae 2) (aa (ae 7) (ag)))))))))) (az (tC (.bl false))) (aG)) (aG)))))))))) (zf K A)
def vb (K:W.Frag) (A:Adr):TS:=ar (aS (bJ (bC K (aq (im K A) (fun _=>E0) (aa (ae 5) (aa (ae 1) (aa (ae 2) (aa (ae 7) (ag)))))))) (az (tC (.bl false))) (aG)) (vd K A)
def ux (K:W.Frag) (A:Adr):TS:=ar (aC (gw (gi K A) (fun _=>E0) (ae 5) (aa (tOp (aM K) (aq (jz K A) (fun _=>E0) (aa (ae 5) (aa (ae 1) (aa (ae 2) (aa (ae 7) (ag)))))) (tUn dh (tC (.int 1)))) (ag))) (av 8)) (vb K A)
def uG (K:W.Frag) (A:Adr):TS:=ar (aC (bf (aa (ae 6) (aa (aq (ko K A) (fun _=>E0) (aa (aq (dC K A) (fun _=>E0) (aa (ae 0) (aa (tC (.int 4)) (ag)))) (aa (ae 1) (aa (ae 2) (aa (aq (km K A) (fun _=>E0) (aa (ae 6) (aa (tC (.int 0)) (ag)))) (ag)))))) (ag)))) (av 7)) (ux K A)
def ve (K:W.Frag) (A:Adr):TS:=ar (aC (aq (kM K A) (fun _=>E0) (aa (aq (dC K A) (fun _=>E0) (aa (ae 0) (aa (tC (.int 3)) (ag)))) (aa (tC (.int 0)) (aa (ae 1) (ag))))) (av 6)) (uG K A)
def uX (K:W.Frag) (A:Adr):TS:=ar (aC (tOp (aM K) (ae 4) (tOp (aT) (ae 3) (tC (.int 4)))) (av 5)) (ve K A)
def tQ (K:W.Frag) (A:Adr):TS:=ar (aC (bz (aa (aq (ku K A) (fun _=>E0) ag) (aa (aq (kO K A) (fun _=>E0) (aa (tOp (aT) (tOp (bw) (ae 3) (tC (.int 4))) (tC (.int 90))) (ag))) (aa (aq (la K A) (fun _=>E0) (aa (tOp (aV K) (tC (.int 2)) (tOp (aT) (tOp (bw) (ae 3) (tC (.int 4))) (tC (.int 8)))) (ag))) (aa (aq (lc K A) (fun _=>E0) ag) (ag)))))) (av 4)) (uX K A)
def uA (K:W.Frag) (A:Adr):TS:=ar (aC (aq (dC K A) (fun _=>E0) (aa (ae 0) (aa (tC (.int 2)) (ag)))) (av 3)) (tQ K A)
def Ax (K:W.Frag) (A:Adr):TS:=ar (aC (aq (kQ K A) (fun _=>E0) (aa (ae 1) (aa (aq (dC K A) (fun _=>E0) (aa (ae 0) (aa (tC (.int 1)) (ag)))) (aa (bz (ag)) (ag))))) (av 2)) (uA K A)
def GI (K:W.Frag) (A:Adr):TS:=ar (aC (aq (og K A) (fun _=>E0) (aa (aq (dC K A) (fun _=>E0) (aa (ae 0) (aa (tC (.int 0)) (ag)))) (ag))) (av 1)) (ar (aC (aq (kQ K A) (fun _=>E0) (aa (ae 1) (aa (aq (dC K A) (fun _=>E0) (aa (ae 0) (aa (tC (.int 1)) (ag)))) (aa (bz (ag)) (ag))))) (av 2)) (ar (aC (aq (dC K A) (fun _=>E0) (aa (ae 0) (aa (tC (.int 2)) (ag)))) (av 3)) (ar (aC (bz (aa (aq (ku K A) (fun _=>E0) ag) (aa (aq (kO K A) (fun _=>E0) (aa (tOp (aT) (tOp (bw) (ae 3) (tC (.int 4))) (tC (.int 90))) (ag))) (aa (aq (la K A) (fun _=>E0) (aa (tOp (aV K) (tC (.int 2)) (tOp (aT) (tOp (bw) (ae 3) (tC (.int 4))) (tC (.int 8)))) (ag))) (aa (aq (lc K A) (fun _=>E0) ag) (ag)))))) (av 4)) (ar (aC (tOp (aM K) (ae 4) (tOp (aT) (ae 3) (tC (.int 4)))) (av 5)) (ar (aC (aq (kM K A) (fun _=>E0) (aa (aq (dC K A) (fun _=>E0) (aa (ae 0) (aa (tC (.int 3)) (ag)))) (aa (tC (.int 0)) (aa (ae 1) (ag))))) (av 6)) (ar (aC (bf (aa (ae 6) (aa (aq (ko K A) (fun _=>E0) (aa (aq (dC K A) (fun _=>E0) (aa (ae 0) (aa (tC (.int 4)) (ag)))) (aa (ae 1) (aa (ae 2) (aa (aq (km K A) (fun _=>E0) (aa (ae 6) (aa (tC (.int 0)) (ag)))) (ag)))))) (ag)))) (av 7)) (ar (aC (gw (gi K A) (fun _=>E0) (ae 5) (aa (tOp (aM K) (aq (jz K A) (fun _=>E0) (aa (ae 5) (aa (ae 1) (aa (ae 2) (aa (ae 7) (ag)))))) (tUn dh (tC (.int 1)))) (ag))) (av 8)) (ar (aS (bJ (bC K (aq (im K A) (fun _=>E0) (aa (ae 5) (aa (ae 1) (aa (ae 2) (aa (ae 7) (ag)))))))) (az (tC (.bl false))) (aG)) (ar (dn (ej K (tOp (aV K) (tSl (pR K) (ae 0) (gn (tC (.int 5))) (gn (tC (.int 7)))) (bz (aa (aq (dC K A) (fun _=>E0) (aa (ae 0) (aa (tC (.int 20)) (ag)))) (ag))))) (av 3) (ar (aC (aq (kE K A) (fun _=>E0) (aa (ae 1) (aa (ae 3) (ag)))) (av 9)) (ar (aC (aq (kG K A) (fun _=>E0) (aa (ae 1) (aa (ae 7) (aa (ae 8) (ag))))) (av 10)) (ar (aC (bz (aa (ae 8) (aa (aq (eA K A) (fun _=>E0) (aa (tOp (aT) (ae 3) (tC (.int 1000003))) (ag))) (aa (tC (.int 0)) (aa (tC (.str "")) (aa (tCB (jj) (aa (ae 8) (ag))) (ag))))))) (av 11)) (ar (aC (tOp (aM K) (ae 9) (tOp (aT) (ae 3) (tCB (bM K) (aa (ae 9) (ag))))) (av 12)) (ar (aC (tOp (aM K) (ae 10) (tOp (aT) (tOp (bw) (ae 3) (tC (.int 14))) (tCB (bM K) (aa (ae 10) (ag))))) (av 13)) (ar (aS (bJ (bC K (aq (kH K A) (fun _=>E0) (aa (ae 5) (aa (ae 1) (aa (ae 11) (aa (ae 12) (aa (ae 2) (aa (ae 13) (aa (ae 7) (ag))))))))))) (az (tC (.bl false))) (aG)) (dn (ej K (ae 11)) (av 14) (aS (aN (tOp (cB K) (ae 14) (ae 8))) (aS (bJ (bC K (aq (kz K A) (fun _=>E0) (aa (ae 5) (aa (ae 1) (aa (ae 8) (aa (ae 14) (aa (ae 2) (aa (ae 7) (ag)))))))))) (az (tC (.bl false))) (aG)) (aG)))))))))) (az (aq (im K A) (fun _=>E0) (aa (ae 5) (aa (ae 1) (aa (ae 2) (aa (ae 7) (ag))))))))))))))))
end Rs
namespace Rs
open PySem PySem.Spec PyProof.Rows L2
def tyD:Dat→String
 | .non=> "NoneType"
 | .bl _=> "bool"
 | .int _=> "int"
 | .str _=> "str"
 | .lst _=> "list"
 | .tup _=> "tuple"
 | .dic=> "dict"
theorem aR.ty {H:Hp} {v:V} {d:Dat} (h:aR H v d):tyN H v=some (tyD d):=by
 cases h with
 | lst e _=>unfold tyN;dsimp only;rw [e];rfl
 | tup e _=>unfold tyN;dsimp only;rw [e];rfl
 | dic e=>unfold tyN;dsimp only;obtain ⟨kvs,e⟩:=e;rw [e];rfl
 | _=>rfl
mutual
theorem aR.toV {K:W.Frag} {H:Hp} {v:V} {d:Dat} (h:aR H v d) (ok:okD d=true):dG K H v (df d):=by
 cases h with
 | non=>exact .non
 | bl b=>exact .bl b
 | int i=>exact .int i
 | str z=>exact .str z
 | lst e r=>exact .lst (SqL.of e) (DatWs.toV r ok)
 | tup e r=>exact .tup (SqT.of e) (DatWs.toV r ok)
 | dic e=>cases ok
theorem DatWs.toV {K : W.Frag} {H : Hp} {xs : List V} {ds : List Dat} (h : DatWs H xs ds) (ok : okDs ds = true) : DatVs K H xs (toPys ds) := by
  cases h with
  | nil => exact .nil
  | cons a r =>
    have ok : (okD _ && okDs _) = true := ok
    rw [Bool.and_eq_true] at ok
    exact .cons (aR.toV a ok.1) (DatWs.toV r ok.2)
end
theorem Bm {z:Str} (h:cb z=true):PyData.strOk z=true:=by
 unfold PyData.strOk
 unfold cb at h
 rw [Array.all_eq_true] at h ⊢
 intro i hi
 have:=of_decide_eq_true (h i hi)
 exact decide_eq_true (by omega)
mutual
theorem eT:∀ {d:Dat},okD d=true→(df d).canLay0=true
 | .non,_=>rfl
 | .bl _,_=>rfl
 | .int _,_=>rfl
 | .str z,h=>Bm (Bool.and_eq_true_iff.mp h).1
 | .lst ds,h=>lay_toPys h
 | .tup ds,h=>lay_toPys h
theorem lay_toPys : ∀ {ds : List Dat}, okDs ds = true → PyData.canLayAll0 (toPys ds) = true
  | [], _ => rfl
  | d :: r, h => by
    have h : (okD d && okDs r) = true := h
    rw [Bool.and_eq_true] at h
    show ((df d).canLay0 && PyData.canLayAll0 (toPys r)) = true
    rw [eT h.1, lay_toPys h.2]; rfl
end
theorem DatWs.len {H:Hp}:∀ {xs:List V} {ds:List Dat},DatWs H xs ds→xs.length=ds.length
 | _,_,.nil=>rfl
 | _,_,.cons _ r=>by rw [List.length_cons,List.length_cons,r.len]
theorem DatWs.get {H : Hp} : ∀ {xs : List V} {ds : List Dat}, DatWs H xs ds → ∀ {i : Nat} {x : V}, xs[i]? = some x → ∃ d, ds[i]? = some d ∧ aR H x d
  | _, _, .nil, i, x, e => by cases e
  | _, _, .cons a r, i, x, e => by
    cases i with
    | zero => cases e; exact ⟨_, rfl, a⟩
    | succ i => exact r.get e
mutual
theorem aR.mono {H H':Hp} {v:V} {d:Dat} (s:ax H H') (h:aR H v d):aR H' v d:=by
 cases h with
 | non=>exact .non
 | bl b=>exact .bl b
 | int i=>exact .int i
 | str z=>exact .str z
 | lst e r=>exact .lst (s _ _ e) (DatWs.mono s r)
 | tup e r=>exact .tup (s _ _ e) (DatWs.mono s r)
 | dic e=>exact (let ⟨k,e⟩:=e;.dic ⟨k,s _ _ e⟩)
theorem DatWs.mono {H H':Hp} {xs:List V} {ds:List Dat} (s:ax H H') (h:DatWs H xs ds):DatWs H' xs ds:=by
 cases h with
 | nil=>exact .nil
 | cons a r=>exact .cons (aR.mono s a) (DatWs.mono s r)
end
theorem qO {K:W.Frag} {H:Hp} {v:V} {d:Dat} {w:Str} {Q:VK} (h:aR H v d) (ok:okD d=true) (dp:(df d).depth≤150) (hw:PyData.strOk w=true) (q:Q (.bl (!cf w d)) H):cB K v (.str w) H Q:=by
 have ref:∀ a,v=.ref a→(df d).eqv (.str w)=false→cf w d=false→cB K v (.str w) H Q:=fun a e e1 e2=>by
  subst e
  refine ⟨_,_,h.toV ok,.str w,eT ok,hw,dp,?_⟩
  rw [e1];rw [e2] at q;exact q
 cases h with
 | non=>exact q
 | bl b=>exact q
 | int i=>exact q
 | str z=>exact q
 | lst e r=>exact ref _ rfl rfl rfl
 | tup e r=>exact ref _ rfl rfl rfl
 | dic e=>cases ok
theorem ixT {K:W.Frag} {H:Hp} {Q:VK} {a:Addr} {xs:List V} {x:V} {i:Int} {j:Nat} (ha:H a=some (.tup xs)) (e:i=j) (hx:xs[j]?=some x) (q:Q x H):aM K (.ref a) (.int i) H Q:=by
 subst e
 refine .inl (.inr (.inl ⟨a,xs,j,x,rfl,rfl,SqT.of ha,?_,q⟩))
 have hj:=(List.getElem?_eq_some_iff.mp hx).1
 rw [ul (by omega) (by omega)]
 simp [List.getD_eq_getElem?_getD,hx]
variable {K:W.Frag} {mg:Str→Option Value} {A:Adr}
theorem BH (K:W.Frag) (A:Adr):Ln (fg K A) 1:=by rintro vs H Q E ⟨v,d,rfl,_⟩;rfl
theorem EZ (T:Txt K mg A) (vs:List V) (H:Hp) (Q:VK) (E:XK) (h:fg K A vs H Q E):HN K A { nx:=fun _ H'=>Q .non H',rt:=Q } (bU ["thing"] vs) H:=by
 obtain ⟨v,d,rfl,w,q⟩:=h
 refine ⟨by decide,_,w.ty,?_⟩
 cases d
 case int i=>exact Sel.yes rfl ⟨by decide,_,w.ty,q⟩
 case bl b=>exact Sel.yes rfl ⟨by decide,_,w.ty,q⟩
 all_goals exact Sel.no rfl q
theorem Cg (K:W.Frag) (A:Adr):Ln (hU K A) 1:=by rintro vs H Q E ⟨v,d,rfl,_⟩;rfl
theorem Do (T : Txt K mg A) (vs : List V) (H : Hp) (Q : VK) (E : XK) (h : hU K A vs H Q E) : Hw K A { nx := fun _ H' => Q .non H', rt := Q } (bU ["thing"] vs) H := by
  obtain ⟨v, d, rfl, w, q⟩ := h
  refine ⟨v, d, rfl, w, ?_⟩
  cases w with
  | int i =>
    refine Sel.yes rfl (Sel.dec (fun h0 => ⟨⟨by decide, by decide, by decide⟩, ?_⟩) (fun h0 => ?_))
    · show Q (.bl (decide (i < 10 ^ ((60 : Int).toNat)))) H
      have e : bu (.int i) = decide (i < 10 ^ ((60 : Int).toNat)) := by
        show decide (0 ≤ i ∧ i < 10 ^ 60) = decide (i < 10 ^ 60)
        by_cases h1 : i < 10 ^ 60
        · rw [decide_eq_true h1, decide_eq_true ⟨h0, h1⟩]
        · rw [decide_eq_false h1, decide_eq_false fun z => h1 z.2]
      rw [← e]; exact q
    · have e : bu (.int i) = false := decide_eq_false fun z => h0 z.1
      rw [← e]; exact q
  | non => exact Sel.no rfl ⟨by decide, _, rfl, q⟩
  | bl b => exact Sel.no rfl ⟨by decide, _, rfl, q⟩
  | str z => exact Sel.no rfl ⟨by decide, _, rfl, q⟩
  | lst e r => exact Sel.no rfl ⟨by decide, _, (aR.lst e r).ty, q⟩
  | tup e r => exact Sel.no rfl ⟨by decide, _, (aR.tup e r).ty, q⟩
  | dic e => exact Sel.no rfl ⟨by decide, _, (aR.dic e).ty, q⟩
theorem CW (K:W.Frag) (A:Adr):Ln (gy K A) 3:=by rintro vs H Q E ⟨b,k,d,rfl,_⟩;rfl
theorem EX (T:Txt K mg A):Rd (gy K A) (Gs K A) ["bits", "key", "depth"]:=by
 intro vs H Q E h
 obtain ⟨b,k,d,rfl,hd,q⟩:=h
 exact ⟨by omega,q⟩
theorem Bw (K:W.Frag) (A:Adr):Ln (jD K A) 2:=by rintro vs H Q E ⟨b,v,d,rfl,_⟩;rfl
theorem FM (T : Txt K mg A) : Rd (jD K A) (HM K A) ["bits", "thing"] := by
  intro vs H Q E h
  obtain ⟨b, v, d, rfl, h0, h1, w, q⟩ := h
  refine ⟨v, d, rfl, w, ?_⟩
  cases w with
  | int i =>
    refine Sel.yes rfl (Sel.dec (fun h2 => ⟨⟨h0, by omega, by decide⟩, ?_⟩) (fun h2 => ?_))
    · show Q (.bl (decide (i < 1 * 2 ^ b.toNat))) H
      have e : cT b (.int i) = decide (i < 1 * 2 ^ b.toNat) := by
        show decide (0 ≤ i ∧ i < 2 ^ b.toNat) = _
        rw [Int.one_mul]
        by_cases h1 : i < 2 ^ b.toNat
        · rw [decide_eq_true h1, decide_eq_true ⟨h2, h1⟩]
        · rw [decide_eq_false h1, decide_eq_false fun z => h1 z.2]
      rw [← e]; exact q
    · have e : cT b (.int i) = false := decide_eq_false fun z => h2 z.1
      rw [← e]; exact q
  | _ => exact Sel.no rfl q
theorem Cz (K:W.Frag) (A:Adr):Ln (nP K A) 1:=by rintro vs H Q E ⟨v,d,rfl,_⟩;rfl
theorem ER (T : Txt K mg A) : Rd (nP K A) (Hq K A) ["thing"] := by
  intro vs H Q E h
  obtain ⟨v, d, rfl, w, ok, q⟩ := h
  refine ⟨by decide, _, w.ty, ?_⟩
  cases w with
  | str z =>
    have hl := of_decide_eq_true (Bool.and_eq_true_iff.mp ok).2
    refine Sel.yes rfl (.inl ⟨aB (by omega), ?_⟩)
    have e : eG (.str z) = decide ((z.length : Int) ≤ 60) := by
      show decide (z.length ≤ 60) = _
      by_cases h1 : z.length ≤ 60
      · rw [decide_eq_true h1, decide_eq_true (by omega)]
      · rw [decide_eq_false h1, decide_eq_false (by omega)]
    show Q (.bl (decide ((z.length : Int) ≤ 60))) H
    rw [← e]; exact q
  | _ => exact Sel.no rfl q
theorem iO (b l i:Int) (m:Dat):bq b l (.tup [.int i,m])=(decide (l≤i∧i<b)&&bu m):=rfl
theorem Bg (K:W.Frag) (A:Adr):Ln (nE K A) 3:=by rintro vs H Q E ⟨b,l,v,d,rfl,_⟩;rfl
theorem El (T : Txt K mg A) : Rd (nE K A) (HF K A) ["bits", "least", "thing"] := by
  intro vs H Q E h
  obtain ⟨b, l, v, d, rfl, w, q⟩ := h
  refine ⟨by decide, _, w.ty, ?_⟩
  cases w with
  | @tup a xs ds e r =>
    refine Sel.no rfl (.inl (.inr (.inl ⟨_, SqT.of e, ?_⟩)))
    have el := r.len
    refine Sel.ndec (fun hne => ?_) (fun he => ?_)
    · have e2 : bq b l (.tup ds) = false := by
        unfold bq
        split
        · rename_i heq; cases heq; simp at el; omega
        · rfl
      show Q (.bl false) H
      rw [← e2]; exact q
    · cases r with
      | nil => simp at he
      | cons w0 r =>
        cases r with
        | nil => simp at he
        | cons w1 r =>
          cases r with
          | cons _ _ => simp at he; omega
          | nil =>
            refine ixT (j := 0) e rfl rfl ⟨_, _, rfl, w0, ?_⟩
            cases w0 with
            | int i =>
              refine Sel.yes rfl (ixT (j := 0) e rfl rfl (Sel.dec (fun h1 => ?_) (fun h1 => ?_)))
              · refine Sel.dec (fun h2 => ?_) (fun h2 => ?_)
                · refine ixT (j := 1) e rfl rfl ⟨_, _, rfl, w1, ?_⟩
                  rw [iO, decide_eq_true ⟨h1, h2⟩] at q; exact q
                · rw [iO, decide_eq_false (fun z => h2 z.2)] at q; exact q
              · rw [iO, decide_eq_false (fun z => h1 z.1)] at q; exact Sel.no rfl q
            | _ => exact Sel.no rfl q
  | _ => exact Sel.yes rfl (Sel.t q)
end Rs
namespace Rs
open PySem PySem.Spec PyProof.Rows L2
theorem fZ {b l:Int} {d:Dat} (h:bq b l d=true):∃ i m,d=.tup [.int i,m]:=by
 unfold bq at h
 split at h
 · exact ⟨_,_,rfl⟩
 · cases h
theorem tR {d : Dat} {ds : List Dat} (hm : d ∈ ds) : (df d).depth ≤ PyData.depthAll (toPys ds) := by
  induction ds with
  | nil => cases hm
  | cons x r ih =>
    show _ ≤ max (df x).depth (PyData.depthAll (toPys r))
    rcases List.mem_cons.mp hm with rfl | hm
    · omega
    · have := ih hm; omega
theorem pS {d : Dat} {ds : List Dat} (h : okDs ds = true) (hm : d ∈ ds) : okD d = true := by
  induction ds with
  | nil => cases hm
  | cons x r ih =>
    have h : (okD x && okDs r) = true := h
    rw [Bool.and_eq_true] at h
    rcases List.mem_cons.mp hm with rfl | hm
    · exact h.1
    · exact ih h.2 hm
theorem fD.tup {ds:List Dat} (h:fD (.tup ds)):okDs ds=true∧PyData.depthAll (toPys ds)≤139:=by
 rcases h with ⟨h1,h2⟩ | h
 · exact ⟨h1,by have h2:PyData.depthAll (toPys ds)+1≤140:=h2;omega⟩
 · cases h
theorem zu {K : W.Frag} {H : Hp} {v : V} {d : Dat} {p : Addr} {Q : VK} (w : aR H v d) (ok : fD d) (hp : H p = some (.tup [.str "bare"])) (q : Q (.bl (fT d)) H) : bF K v (.ref p) H Q := by
  have dv : dG K H (.ref p) (.tuple [.str "bare"]) := .tup (SqT.of hp) (.cons (.str _) .nil)
  have lv : (PyData.tuple [.str "bare"]).canLay0 = true := by decide +kernel
  rcases ok with ⟨ok, dp⟩ | rfl
  · have hd : ∀ e : (df d).eqv (.tuple [.str "bare"]) = fT d, pr K v (.ref p) H Q := fun e => ⟨_, _, w.toV ok, dv, eT ok, lv, by omega, by rw [e]; exact q⟩
    cases w with
    | non => exact hd rfl
    | bl b => exact hd rfl
    | int i => exact hd rfl
    | str z => exact hd rfl
    | lst e r => exact .inr (.inl (hd rfl))
    | @tup a xs ds e r =>
      refine .inr (.inl (hd ?_))
      clear hd r ok dp q
      cases ds with
      | nil => rfl
      | cons x rs =>
        cases rs with
        | nil =>
          show ((df x).eqv (.str "bare") && true) = cf "bare" x
          rw [Bool.and_true]
          cases x with
          | str z =>
            show (z == ("bare" : Str)) = decide (z = "bare")
            by_cases h : z = "bare" <;> simp [h]
          | _ => rfl
        | cons y rs =>
          show ((df x).eqv (.str "bare") && false) = false
          rw [Bool.and_false]
    | dic e => cases ok
  · cases w with
    | dic e => exact .inr (.inr ⟨_, p, _, rfl, rfl, .inl e, SqT.of hp, q⟩)
variable {K:W.Frag} {mg:Str→Option Value} {A:Adr}
theorem BQ (K:W.Frag) (A:Adr):Ln (nR K A) 2:=by rintro vs H Q E ⟨b,v,d,rfl,_⟩;rfl
theorem FJ (T : Txt K mg A) : Rd (nR K A) (Hg K A) ["bits", "thing", "least", "step"] := by
  intro vs H Q E h
  obtain ⟨b, v, d, rfl, w, q⟩ := h
  refine ⟨by decide, _, w.ty, ?_⟩
  cases w with
  | @tup a xs ds e r =>
    have q : Q (.bl (aU b 0 ds)) H := q
    refine Sel.no rfl ⟨a, rfl, .inr ⟨⟨_, SqT.of e⟩, ?_⟩⟩
    have el := r.len
    refine qp (xs := xs) (fun i σ H' => H' = H ∧ ∃ l x3, σ = [some (.int b), some (.ref a), some (.int l), x3] ∧ aU b 0 ds = aU b l (ds.drop i)) ⟨rfl, 0, none, rfl, rfl⟩ ?_ ?_ ?_
    · rintro i σ _ _ ⟨rfl, _⟩; exact SqT.of e
    · rintro i x σ _ hx ⟨rfl, l, x3, rfl, eq⟩
      obtain ⟨d, hd, wx⟩ := r.get hx
      have hi : i < ds.length := (List.getElem?_eq_some_iff.mp hd).1
      have dr : ds.drop i = d :: ds.drop (i + 1) := by
        rw [List.drop_eq_getElem_cons hi]
        rw [List.getElem?_eq_getElem hi] at hd; rw [Option.some.inj hd]
      rw [dr] at eq
      have eq : aU b 0 ds = (bq b l d && aU b (db d + 1) (ds.drop (i + 1))) := eq
      refine ⟨b, l, x, d, rfl, wx, Sel.mk (fun hf => ?_) (fun ht => ?_)⟩
      · have hf : bq b l d = false := by simpa using hf
        rw [hf] at eq
        rw [eq] at q; exact q
      · have ht : bq b l d = true := by simpa using ht
        obtain ⟨i0, m, rfl⟩ := fZ ht
        cases wx with
        | tup ex rx =>
          cases rx with
          | cons w0 rx =>
            cases w0
            refine ixT (j := 0) ex rfl rfl ⟨rfl, _, _, rfl, ?_⟩
            rw [ht] at eq; exact eq
    · rintro σ _ ⟨rfl, l, x3, rfl, eq⟩
      rw [List.drop_eq_nil_of_le (by omega)] at eq
      rw [eq] at q; exact q
  | _ => exact Sel.yes rfl q
theorem Ad (K:W.Frag) (A:Adr):Ln (mX K A) 4:=by rintro vs H Q E ⟨b,p,g,v,d,rfl,_⟩;rfl
theorem DT (T : Txt K mg A) : Rd (mX K A) (GH K A) ["bits", "depth", "begin", "thing"] := by
  intro vs H Q E h
  obtain ⟨b, p, g, v, d, rfl, b0, b60, hp, w, ok, q⟩ := h
  refine ⟨by decide, _, w.ty, ?_⟩
  cases w with
  | @tup a xs ds e r =>
    obtain ⟨ok, dp⟩ := ok.tup
    have el := r.len
    refine Sel.no rfl (.inl (.inr (.inl ⟨_, SqT.of e, Sel.ndec (fun ne => Sel.t ?_) (fun he => ?_)⟩)))
    · have e2 : du b p g (.tup ds) = false := by
        unfold du
        split
        · rename_i heq; cases heq; simp at el; omega
        · rfl
      rw [e2] at q; exact q
    · cases r with
      | nil => simp at he
      | @cons x0 _ d0 _ w0 r =>
      cases r with
      | nil => simp at he
      | @cons x1 _ d1 _ w1 r =>
      cases r with
      | nil => simp at he
      | @cons x2 _ d2 _ w2 r =>
      cases r with
      | cons _ _ => simp at he; omega
      | nil =>
      have o0 := pS ok (d := d0) (by simp)
      have p0 := tR (d := d0) (ds := [d0, d1, d2]) (by simp)
      have o2 := pS ok (d := d2) (by simp)
      refine ixT (j := 0) e rfl rfl (qO w0 o0 (by omega) (by decide +kernel) (Sel.mk (fun hn => ?_) (fun hy => ?_)))
      · have hn : cf "leaf" d0 = false := by simpa using hn
        have e2 : du b p g (.tup [d0, d1, d2]) = false := by
          cases d1 <;> first | rfl | (show (cf "leaf" d0 && _ && _ && _) = false; rw [hn]; rfl)
        rw [e2] at q; exact q
      · have hy : cf "leaf" d0 = true := by simpa using hy
        refine ixT (j := 1) e rfl rfl ⟨b, x1, d1, rfl, b0, b60, w1, ?_⟩
        cases w1 with
        | int k =>
          have e2 : du b p g (.tup [d0, .int k, d2]) = (decide (0 ≤ k ∧ k < 2 ^ b.toNat) && eG d2 && decide (aJ b k p = g)) := by
            show (cf "leaf" d0 && _ && _ && _) = _
            rw [hy]; simp
          rw [e2] at q
          refine Sel.mk (fun hk => Sel.t ?_) (fun hk => ?_)
          · have hk : cT b (.int k) = false := by simpa only [Bool.not_eq_true'] using hk
            have hk : decide (0 ≤ k ∧ k < 2 ^ b.toNat) = false := hk
            rw [hk] at q; exact q
          · have hk : cT b (.int k) = true := by simpa only [Bool.not_eq_false'] using hk
            have hk : decide (0 ≤ k ∧ k < 2 ^ b.toNat) = true := hk
            rw [hk, Bool.true_and] at q
            refine ixT (j := 2) e rfl rfl ⟨x2, d2, rfl, w2, o2, ?_⟩
            refine Sel.mk (fun hv => ?_) (fun hv => ?_)
            · have hv : eG d2 = false := by simpa using hv
              rw [hv] at q; exact q
            · have hv : eG d2 = true := by simpa using hv
              rw [hv, Bool.true_and] at q
              exact ixT (j := 1) e rfl rfl ⟨b, k, p, rfl, hp, q⟩
        | _ => exact Sel.t (Sel.t q)
  | _ => exact Sel.yes rfl (Sel.t q)
theorem Ct (K:W.Frag) (A:Adr):Ln (mZ K A) 4:=by rintro vs H Q E ⟨b,p,g,v,d,rfl,_⟩;rfl
theorem Dp (T : Txt K mg A) : Rd (mZ K A) (GD K A) ["bits", "depth", "begin", "thing"] := by
  intro vs H Q E h
  obtain ⟨b, p, g, v, d, rfl, p0, b60, hp, w, ok, q⟩ := h
  refine ⟨by decide, _, w.ty, ?_⟩
  cases w with
  | @tup a xs ds e r =>
    obtain ⟨ok, dp⟩ := ok.tup
    have el := r.len
    refine Sel.no rfl (.inl (.inr (.inl ⟨_, SqT.of e, Sel.ndec (fun ne => Sel.t ?_) (fun he => ?_)⟩)))
    · have e2 : cI b p g (.tup ds) = false := by
        unfold cI
        split
        · rename_i heq; cases heq; simp at el; omega
        · rfl
      rw [e2] at q; exact q
    · cases r with
      | nil => simp at he
      | @cons x0 _ d0 _ w0 r =>
      cases r with
      | nil => simp at he
      | @cons x1 _ d1 _ w1 r =>
      cases r with
      | nil => simp at he
      | @cons x2 _ d2 _ w2 r =>
      cases r with
      | nil => simp at he
      | @cons x3 _ d3 _ w3 r =>
      cases r with
      | nil => simp at he
      | @cons x4 _ d4 _ w4 r =>
      cases r with
      | cons _ _ => simp at he; omega
      | nil =>
      have o0 := pS ok (d := d0) (by simp)
      have pp := tR (d := d0) (ds := [d0, d1, d2, d3, d4]) (by simp)
      refine ixT (j := 0) e rfl rfl (qO w0 o0 (by omega) (by decide +kernel) (Sel.mk (fun hn => ?_) (fun hy => ?_)))
      · have hn : cf "fork" d0 = false := by simpa using hn
        have e2 : cI b p g (.tup [d0, d1, d2, d3, d4]) = false := by
          cases d1 <;> first | rfl | (cases d2 <;> first | rfl | (show (cf "fork" d0 && _ && _ && _) = false; rw [hn]; rfl))
        rw [e2] at q; exact q
      · have hy : cf "fork" d0 = true := by simpa using hy
        refine ixT (j := 1) e rfl rfl ⟨x1, d1, rfl, w1, ?_⟩
        cases w1 with
        | int ee =>
          refine Sel.no rfl (ixT (j := 1) e rfl rfl ?_)
          have bad : decide (p ≤ ee ∧ ee < b) = false → cI b p g (.tup [d0, .int ee, d2, d3, d4]) = false := fun z => by
            cases d2 <;> first | rfl | (show (cf "fork" d0 && _ && _ && _) = false; rw [z]; simp)
          refine Sel.dec (fun h1 => Sel.ndec (fun h2 => ?_) (fun h2 => ?_)) (fun h1 => ?_)
          · rw [bad (decide_eq_false fun z => h2 z.2)] at q; exact q
          · refine ixT (j := 2) e rfl rfl ⟨x2, d2, rfl, w2, ?_⟩
            cases w2 with
            | int bb =>
              have e2 : cI b p g (.tup [d0, .int ee, .int bb, d3, d4]) = (decide (0 ≤ bb ∧ bb < 2 ^ ee.toNat) && decide (bb / 2 ^ (ee - p).toNat = g)) := by
                show (cf "fork" d0 && decide (p ≤ ee ∧ ee < b) && _ && _) = _
                rw [hy, decide_eq_true ⟨h1, h2⟩]; simp
              rw [e2] at q
              refine Sel.no rfl (ixT (j := 2) e rfl rfl ?_)
              refine Sel.dec (fun h3 => ixT (j := 1) e rfl rfl ⟨⟨by omega, by omega, by decide⟩, Sel.mk (fun h4 => ?_) (fun h4 => ?_)⟩) (fun h3 => ?_)
              · rw [Int.one_mul] at h4
                have h4 : ¬ bb < 2 ^ ee.toNat := by simpa using h4
                rw [decide_eq_false (fun z => h4 z.2)] at q; exact q
              · rw [Int.one_mul] at h4
                have h4 : bb < 2 ^ ee.toNat := by simpa using h4
                rw [decide_eq_true ⟨h3, h4⟩, Bool.true_and] at q
                exact ixT (j := 2) e rfl rfl (ixT (j := 1) e rfl rfl ⟨by omega, q⟩)
              · rw [decide_eq_false (fun z => h3 z.1)] at q; exact Sel.yes rfl q
            | _ => exact Sel.yes rfl (Sel.t q)
          · rw [bad (decide_eq_false fun z => h1 z.1)] at q; exact Sel.yes rfl q
        | _ => exact Sel.yes rfl (Sel.t q)
  | _ => exact Sel.yes rfl (Sel.t q)
end Rs
namespace Rs
open PySem PySem.Spec PyProof.Rows L2
theorem oB {b p g:Int} {d:Dat} (h:cI b p g d=true):∃ w e bb m n,d=.tup [w,.int e,.int bb,m,n]∧p≤e∧e<b:=by
 unfold cI at h
 split at h
 · rename_i w e bb m n
   simp only [Bool.and_eq_true,decide_eq_true_eq] at h
   exact ⟨w,e,bb,m,n,rfl,h.1.1.2.1,h.1.1.2.2⟩
 · cases h
variable {K:W.Frag} {mg:Str→Option Value} {A:Adr}
theorem Ac (K:W.Frag) (A:Adr):Ln (nQ K A) 4:=by rintro vs H Q E ⟨b,k,p,v,d,rfl,_⟩;rfl
theorem Dd (T:Txt K mg A):Rd (nQ K A) (HC K A) ["bits", "key", "place", "thing", "begin"]:=by
 intro vs H Q E h
 obtain ⟨b,k,p,v,d,rfl,p0,b60,hp,w,ok,q⟩:=h
 refine ⟨aB (n:=1) (by decide),fun r hr=>?_⟩
 have S:=ax.upd (o:=.tup [V.str "bare"]) hr
 have q:=q _ S
 have w:=w.mono S
 refine zu w ok ap ?_
 generalize upd H r (.tup [V.str "bare"])=H1 at w q ⊢
 unfold bO at q
 refine Sel.mk (fun hb=>?_) (fun hb=>?_)
 · rw [hb,if_pos rfl] at q;exact q
 · rw [hb] at q
   have q:Q (.bl (du b p (aJ b k p) d||(cI b p (aJ b k p) d&&sE b k d))) H1:=q
   refine ⟨b,k,p,rfl,hp,b,p,aJ b k p,v,d,rfl,by omega,b60,hp,w,ok,?_⟩
   refine Sel.mk (fun hl=>?_) (fun hl=>?_)
   · rw [hl,Bool.true_or] at q;exact q
   · rw [hl,Bool.false_or] at q
     refine ⟨b,p,aJ b k p,v,d,rfl,p0,b60,hp,w,ok,?_⟩
     refine Sel.mk (fun hf=>?_) (fun hf=>?_)
     · have hf:cI b p (aJ b k p) d=false:=by simpa only [Bool.not_eq_true'] using hf
       rw [hf,Bool.false_and] at q;exact q
     · have hf:cI b p (aJ b k p) d=true:=by simpa only [Bool.not_eq_false'] using hf
       rw [hf,Bool.true_and] at q
       obtain ⟨w0,e,bb,m,n,rfl,h1,h2⟩:=oB hf
       have q:Q (.bl (!decide (bb=aJ b k e)&&bu m&&bu n)) H1:=q
       cases w with
       | tup ea r=>
       cases r with
       | cons _ r=>
       cases r with
       | cons z1 r=>
       cases r with
       | cons z2 r=>
       cases r with
       | cons z3 r=>
       cases r with
       | cons z4 r=>
       cases r
       cases z1
       cases z2
       refine ixT (j:=2) ea rfl rfl (ixT (j:=1) ea rfl rfl ⟨b,k,e,rfl,by omega,?_⟩)
       refine Sel.dec (fun he=>?_) (fun he=>?_)
       · rw [decide_eq_true he] at q;exact q
       · rw [decide_eq_false he] at q
         refine ixT (j:=3) ea rfl rfl ⟨_,_,rfl,z3,Sel.mk (fun hm=>?_) (fun hm=>?_)⟩
         · rw [hm] at q
           exact ixT (j:=4) ea rfl rfl ⟨_,_,rfl,z4,q⟩
         · rw [hm] at q;exact q
theorem eh {b : Int} : ∀ {ds : List Dat} {l : Int}, 0 ≤ l → aU b l ds = true → ∀ {s}, ds.getLast? = some s → ∃ i m, s = .tup [.int i, m] ∧ 0 ≤ i ∧ i < b
  | [], l, _, _, s, e => by cases e
  | x :: r, l, hl, h, s, e => by
    have h : (bq b l x && aU b (db x + 1) r) = true := h
    rw [Bool.and_eq_true] at h
    obtain ⟨i, m, rfl⟩ := fZ h.1
    have hi : (decide (l ≤ i ∧ i < b) && bu m) = true := h.1
    rw [Bool.and_eq_true, decide_eq_true_eq] at hi
    cases r with
    | nil =>
      cases e
      exact ⟨i, m, rfl, by omega, hi.1.2⟩
    | cons y r =>
      rw [List.getLast?_cons_cons] at e
      exact eh (l := i + 1) (by omega) h.2 e
theorem BC (K:W.Frag) (A:Adr):Ln (nO K A) 3:=by rintro vs H Q E ⟨b,k,v,d,rfl,_⟩;rfl
theorem Fc (T : Txt K mg A) : Rd (nO K A) (Hc K A) ["bits", "key", "thing", "place"] := by
  intro vs H Q E h
  obtain ⟨b, k, v, d, rfl, b0, b60, w, ok, q⟩ := h
  have q0 := q H (.refl H)
  refine ⟨by decide, _, w.ty, ?_⟩
  cases w with
  | @tup a xs ds e r =>
    have el := r.len
    refine Sel.no rfl (.inl (.inr (.inl ⟨_, SqT.of e, Sel.ndec (fun ne => ?_) (fun he => ?_)⟩)))
    · have e2 : dw b k (.tup ds) = false := by
        unfold dw
        split
        · rename_i heq; cases heq; simp at el; omega
        · rfl
      rw [e2] at q0; exact q0
    · cases r with
      | nil => simp at he
      | @cons x0 _ d0 _ w0 r =>
      cases r with
      | nil => simp at he
      | @cons x1 _ d1 _ w1 r =>
      cases r with
      | cons _ _ => simp at he; omega
      | nil =>
      have ok : fD d1 := ok
      refine ixT (j := 0) e rfl rfl ⟨b, x0, d0, rfl, w0, ?_⟩
      cases w0 with
      | @tup a0 ys es e0 r0 =>
        have q : ∀ H', ax H H' → Q (.bl (aU b 0 es && bO b k (gj es) d1)) H' := q
        refine Sel.mk (fun hs => ?_) (fun hs => ?_)
        · have hs : aU b 0 es = false := by simpa only [Bool.not_eq_true'] using hs
          have q := q H (.refl H)
          rw [hs] at q; exact q
        · have hs : aU b 0 es = true := by simpa only [Bool.not_eq_false'] using hs
          rw [hs] at q
          refine ixT (j := 0) e rfl rfl ⟨!ys.isEmpty, .inr (.inl ⟨ys, SqT.of e0, rfl⟩), ?_⟩
          have l0 := r0.len
          cases ys with
          | nil =>
            cases r0
            exact Sel.no rfl (ixT (j := 1) e rfl rfl ⟨b, k, 0, x1, d1, rfl, by decide, b60, b0, w1, ok, q⟩)
          | cons y yr =>
            obtain ⟨s, hsl⟩ : ∃ s, es.getLast? = some s := by
              cases es with
              | nil => simp at l0
              | cons z zr => exact ⟨_, List.getLast?_eq_some_getLast (by simp)⟩
            obtain ⟨i, m, rfl, i0, i1⟩ := eh (Int.le_refl 0) hs hsl
            have hlast : es[es.length - 1]? = some (.tup [.int i, m]) := by rw [← List.getLast?_eq_getElem?]; exact hsl
            have hpl : gj es = i + 1 := by unfold gj; rw [hsl]; rfl
            have hpos : 0 < (y :: yr).length := by simp
            obtain ⟨v', hv'⟩ : ∃ v', (y :: yr)[(y :: yr).length - 1]? = some v' := ⟨_, List.getElem?_eq_getElem (by omega)⟩
            obtain ⟨d', hd', wd'⟩ := r0.get hv'
            rw [l0] at hd'
            rw [hlast] at hd'; cases hd'
            refine Sel.yes rfl (ixT (j := 0) e rfl rfl ?_)
            refine .inl (.inr (.inl ⟨a0, y :: yr, -1, v', rfl, rfl, SqT.of e0, ?_, ?_⟩))
            · unfold atI ixN
              rw [if_neg (by decide), if_pos (by simp; omega)]
              show (y :: yr)[(-1 + ((y :: yr).length : Int)).toNat]? = _
              have : (-1 + ((y :: yr).length : Int)).toNat = (y :: yr).length - 1 := by omega
              rw [this]; exact hv'
            · cases wd' with
              | tup ee rr =>
                cases rr with
                | cons z0 rr =>
                  cases z0
                  refine ixT (j := 0) ee rfl rfl (ixT (j := 1) e rfl rfl ⟨b, k, i + 1, x1, d1, rfl, by omega, b60, by omega, w1, ok, ?_⟩)
                  rw [hpl] at q
                  exact q
      | _ => exact Sel.t q0
  | _ => exact Sel.yes rfl (Sel.t q0)
end Rs
namespace Rs
open PySem PySem.Spec PyProof.Rows L2
theorem uV {x:Int} (h:x.natAbs<2^64):Builtin.Int.intBits x≤64:=by
 unfold Builtin.Int.intBits
 split
 · decide
 · rename_i hx
   have hx:x≠0:=by simpa using hx
   have:x.natAbs.log2<64:=(Nat.log2_lt (by omega)).mpr h
   omega
theorem xt {x y:Int} (h0:0≤x) (h:x<2^64):IntMulOk x y:=IntMulOk.of_left (uV (by omega))
theorem io {x y:Int} (h0:0≤y) (h:y<2^64):IntMulOk x y:=IntMulOk.of_right (uV (by omega))
variable {K:W.Frag} {mg:Str→Option Value} {A:Adr}
theorem zT (K:W.Frag) (A:Adr):Ln (dC K A) 2:=by rintro vs H Q E ⟨a,ns,k,rfl,_⟩;rfl
theorem EO (T:Txt K mg A):Rd (dC K A) (Hv K A) ["_law_script", "_law_k", "_law_number_here", "_law_cell"]:=by
 intro vs H Q E h
 obtain ⟨a,ns,k,rfl,hs,h0,q⟩:=h
 refine .inl (.inl ⟨_,hs,Sel.dec (fun h=>?_) (fun h=>?_)⟩)
 · obtain ⟨v,hv⟩:=pD h0 h
   obtain ⟨j,_,hj,_⟩:=fO hv
   obtain ⟨z,_,rfl⟩:=gQ hj
   exact .inl (.inl ⟨a,_,k,_,rfl,rfl,hs,hv,q z H (.refl H)⟩)
 · obtain ⟨zs,ez,hz⟩:=vh ns none (some 5)
   refine .inl (.inl ⟨_,hs,5,rfl,.inl (.inl ⟨a,_,rfl,hs,fun p hp=>?_⟩)⟩)
   rw [ez]
   refine ⟨p,rfl,.inl ⟨⟨_,SqL.of ap⟩,?_⟩⟩
   refine ij (xs:=zs.map V.int) (fun i σ H'=>H'=upd H p (.lst (zs.map V.int))∧∃ n x3,σ=[some (.ref a),some (.int k),some (.int n),x3]) ⟨rfl,_,none,rfl⟩ ?_ ?_ ?_
   · rintro i σ _ _ ⟨rfl,_⟩;exact SqL.of ap
   · rintro i x σ _ hx ⟨rfl,n,x3,rfl⟩
     obtain ⟨z,_,rfl⟩:=gQ hx
     exact ⟨io (by decide) (by decide),by decide,rfl,_,_,rfl⟩
   · rintro σ _ ⟨rfl,n,x3,rfl⟩
     refine ⟨IntMulOk.of_left (by decide),by decide,?_⟩
     have b0:0≤(n+7919*k)%1000003:=by omega
     have b1:(n+7919*k)%1000003<1000003:=by omega
     exact ⟨xt b0 (by omega),by decide,q _ _ (ax.upd hp)⟩
theorem BB (K:W.Frag) (A:Adr):Ln (og K A) 1:=by rintro vs H Q E ⟨c,rfl,_⟩;rfl
theorem FN (T:Txt K mg A):Rd (og K A) (GK K A) ["_law_cell"]:=by
 intro vs H Q E h
 obtain ⟨c,rfl,q⟩:=h
 refine ⟨⟨by decide,by decide⟩,aB (n:=3) (by decide),fun p hp=>⟨by decide,?_⟩⟩
 have hc:c%3=0∨c%3=1∨c%3=2:=by omega
 have S:=ax.upd (o:=.lst [V.int 60,.int 8,.int 60]) hp
 rcases hc with e | e | e <;> rw [e]
 · exact ixL (j:=0) ap rfl rfl ⟨by decide,q _ _ S (by omega) (by omega)⟩
 · exact ixL (j:=1) ap rfl rfl ⟨by decide,q _ _ S (by omega) (by omega)⟩
 · exact ixL (j:=2) ap rfl rfl ⟨by decide,q _ _ S (by omega) (by omega)⟩
theorem zO {x:Int} {j m:Nat} (x0:0≤x) (hm:j<m) (x1:x<2^m):0≤Builtin.bitXor x (1*2^j)∧Builtin.bitXor x (1*2^j)<2^m:=by
 obtain ⟨y,rfl⟩:=Int.eq_ofNat_of_zero_le x0
 have e:(1:Int)*2^j=((2^j:Nat):Int):=by rw [Int.one_mul,ig]
 rw [e,sA,←ig]
 refine ⟨by omega,?_⟩
 have y1:y<2^m:=by rw [← ig] at x1;exact_mod_cast x1
 have:=Nat.xor_lt_two_pow (n:=m) y1 (Nat.pow_lt_pow_right (by decide:1<2) hm)
 exact_mod_cast this
theorem Co (K:W.Frag) (A:Adr):Ln (kQ K A) 3:=by rintro vs H Q E ⟨b,c,o,ks,rfl,_⟩;rfl
theorem Dt (T : Txt K mg A) : Rd (kQ K A) (GP K A) ["_law_bits_here", "_law_cell", "_law_others", "_law_many", "_law_number_here", "_law_flip"] := by
  intro vs H Q E h
  obtain ⟨b, c, o, ks, rfl, b1, b60, ho, kl, kk, q⟩ := h
  have hp : (0 : Int) < 1 * 2 ^ b.toNat := by rw [Int.one_mul]; exact cZ _
  have e1 : (1 : Int) * 2 ^ b.toNat = 2 ^ b.toNat := Int.one_mul _
  have fin : ∀ (n : Int) (H' : Hp), ax H H' → Q (.int (n % (1 * 2 ^ b.toNat))) H' := fun n H' s => q _ _ s (Int.emod_nonneg _ (Int.ne_of_gt hp)) (Int.lt_of_lt_of_le (Int.emod_lt_of_pos _ hp) (Int.le_of_eq e1))
  refine ⟨⟨by omega, by omega, by decide⟩, ⟨by decide, by decide⟩, by decide, Sel.dec (fun h => ?_) (fun h => ?_)⟩
  · exact ⟨hp, fin _ H (.refl H)⟩
  refine ⟨by decide, Sel.dec (fun h1 => ?_) (fun h1 => ?_)⟩
  · have h2 := Int.emod_nonneg (c / 5) (b := 1 * 2 ^ b.toNat) (by omega)
    have h3 := Int.emod_lt_of_pos (c / 5) hp
    exact ⟨hp, q _ _ (.refl H) (by omega) (Int.lt_of_lt_of_le (b := 1 * 2 ^ b.toNat) (by omega) (Int.le_of_eq e1))⟩
  refine ⟨by decide, Sel.dec (fun h2 => ?_) (fun h2 => Sel.f ?_)⟩
  · refine ⟨aB (n := 0) (by decide), fun p hp' => ⟨_, _, .lst (SqL.of (ax.upd hp' _ _ ho)) (kL ks), .lst (SqL.of ap) .nil, jN ks, rfl, sB ks, ?_⟩⟩
    cases ks with
    | nil => exact Sel.no rfl ⟨io (by decide) (by decide), hp, fin _ _ (ax.upd hp')⟩
    | cons x xr =>
      cases xr with
      | cons y yr => simp at kl
      | nil =>
      refine Sel.yes rfl ⟨io (by decide) (by decide), by decide, by omega, .inl (.inl ⟨_, SqL.of (ax.upd hp' _ _ ho), by simp, ?_⟩)⟩
      have hx := kk x List.mem_cons_self
      have r0 := Int.emod_nonneg (c / 5 * 48271 % 65537) (b := b) (by omega)
      have r1 := Int.emod_lt_of_pos (c / 5 * 48271 % 65537) (b := b) (by omega)
      have fl := zO (j := (c / 5 * 48271 % 65537 % b).toNat) hx.1 (by omega) hx.2
      refine ixL (j := 0) (ax.upd hp' _ _ ho) ?_ rfl ⟨⟨by omega, by omega, by decide⟩, q _ _ (ax.upd hp') fl.1 fl.2⟩
      show c / 5 % 1 = 0
      omega
  · exact ⟨io (by decide) (by decide), hp, fin _ H (.refl H)⟩
theorem AM (K:W.Frag) (A:Adr):Ln (eA K A) 1:=by rintro vs H Q E ⟨c,rfl,_⟩;rfl
theorem Fu:∀ n:Fin 50,okD (.str (("m" :Str)++Str.ofString (toString (((n:Nat):Int)))))=true∧(Str.ofString (toString (((n:Nat):Int)))).length≤2∧szK (.inr (("m" :Str)++Str.ofString (toString (((n:Nat):Int)))))≤1062:=by decide +kernel
theorem oj {i:Int} (h0:0≤i) (h1:i<10^60):fX (.inl i):=⟨decide_eq_true ⟨h0,h1⟩,rfl,by show 62≤1062;decide⟩
theorem Dx (T:Txt K mg A):Rd (eA K A) (HD K A) ["_law_number_here"]:=by
 intro vs H Q E h
 obtain ⟨c,rfl,q⟩:=h
 refine ⟨io (by decide) (by decide),by decide,?_⟩
 have n0:0≤c*69621%1000003:=by omega
 have n1:c*69621%1000003<1000003:=by omega
 show ar _ _ _ [some (V.int (c*69621%1000003))] H
 generalize c*69621%1000003=n at n0 n1 ⊢
 have big:(1000003:Int)*10^30<10^60:=by decide +kernel
 have p30:(0:Int)<10^30:=by decide +kernel
 have p60:(1000003:Int)<10^60:=by decide +kernel
 refine ⟨by decide,Sel.dec (fun h=>?_) (fun h=>?_)⟩
 · have l0:0≤n%50:=by omega
   have l1:n%50<50:=by omega
   obtain ⟨j,hj⟩:=Int.eq_ofNat_of_zero_le l0
   obtain ⟨s1,s2,s3⟩:=Fu ⟨j,by omega⟩
   have s1:okD (.str (("m" :Str)++Str.ofString (toString ((j:Nat):Int))))=true:=s1
   have s2:(Str.ofString (toString ((j:Nat):Int))).length≤2:=s2
   refine ⟨by decide,?_⟩
   rw [hj]
   exact ⟨Nat.lt_of_le_of_lt (Nat.log2_le_self _) (by omega),Nat.le_trans (Nat.add_le_add (Nat.le_refl 1) s2) (aB (by decide)),q (.inr _) ⟨rfl,s1,s3⟩⟩
 refine ⟨by decide,Sel.dec (fun h1=>?_) (fun h1=>?_)⟩
 · exact ⟨⟨by decide,by decide⟩,by decide,q (.inl _) (oj (by omega) (by omega))⟩
 refine ⟨by decide,Sel.dec (fun h2=>?_) (fun h2=>?_)⟩
 · refine ⟨⟨by decide,by decide,by decide⟩,xt n0 (by omega),q (.inl _) (oj ?_ ?_)⟩
   · exact Int.mul_nonneg n0 (Int.le_of_lt p30)
   · have:n*10^30<1000003*10^30:=Int.mul_lt_mul_of_pos_right n1 p30
     show n*10^30<10^60
     omega
 · refine ⟨⟨by decide,by decide,by decide⟩,q (.inl _) (oj ?_ ?_)⟩
   · show 0≤(10:Int)^60 - 1 - n
     omega
   · show (10:Int)^60 - 1 - n<10^60
     omega
end Rs
namespace Rs
open PySem PySem.Spec PyProof.Rows L2
theorem pE {k W t:Int} (hW:0<W) (t0:0≤t) (t1:t<W):(k - k%W+t)/W=k/W:=by
 have e:=Int.mul_ediv_add_emod k W
 have:k - k%W+t=W*(k/W)+t:=by omega
 rw [this,Int.mul_add_ediv_left _ _ (by omega),Int.ediv_eq_zero_of_lt t0 t1,Int.add_zero]
theorem jH {k W t:Int} (hW:0<W) (k0:0≤k) (t0:0≤t):0≤k - k%W+t:=by
 have e:=Int.mul_ediv_add_emod k W
 have h:=Int.mul_nonneg (Int.le_of_lt hW) (Int.ediv_nonneg k0 (Int.le_of_lt hW))
 omega
theorem qI {k W t M:Int} (hW:0<W) (t1:t<W) (hk:k<M*W):k - k%W+t<M*W:=by
 have e:=Int.mul_ediv_add_emod k W
 have h:=Int.ediv_lt_of_lt_mul hW hk
 have h2:W*(k/W+1)≤W*M:=Int.mul_le_mul_of_nonneg_left (by omega) (Int.le_of_lt hW)
 rw [Int.mul_add,Int.mul_one,Int.mul_comm W M] at h2
 omega
theorem zy {r t W:Int} (r0:0≤r) (r1:r<W) (t0:0≤t) (t1:t<W - 1):(r+1+t)%W≠r:=by
 by_cases h:r+1+t<W
 · rw [Int.emod_eq_of_lt (by omega) h];omega
 · have e:(r+1+t)%W=r+1+t - W:=by
    have:=Int.add_emod_right (r+1+t - W) W
    rw [show r+1+t - W+W=r+1+t by omega] at this
    rw [this,Int.emod_eq_of_lt (by omega) (by omega)]
   rw [e];omega
theorem iN {a b:Int} (h0:0≤a) (h:a≤b):(2:Int)^b.toNat=2^a.toNat*2^(b - a).toNat:=by
 rw [← Int.pow_add]
 congr 1
 omega
theorem yP {x y z:Int} (hy:0<y):x/y/z=x/(y*z):=by
 rw [Int.ediv_ediv,if_neg (by omega),Int.sub_zero]
theorem mH {b k e:Int} (e0:0≤e) (h:e≤b) (hk:k<2^b.toNat):aJ b k e<2^e.toNat:=by
 unfold aJ
 refine Int.ediv_lt_of_lt_mul (cZ _) ?_
 rw [← iN e0 h];exact hk
theorem lW {b k e:Int} (k0:0≤k):0≤aJ b k e:=Int.ediv_nonneg k0 (Int.le_of_lt (cZ _))
theorem pq {b k e l:Int} (h1:l≤e) (h2:e≤b):aJ b k e/2^(e - l).toNat=aJ b k l:=by
 unfold aJ
 rw [yP (cZ _),←Int.pow_add]
 congr 2
 omega
theorem oY {b k l x:Int} {z:Str} (l0:0≤l) (hl:l≤b) (x0:0≤x) (x1:x<2^b.toNat) (hs:aJ b x l=aJ b k l) (hz:z.length≤60):bO b k l (.tup [.str "leaf",.int x,.str z])=true:=by
 unfold bO
 have e1:fT (.tup [.str "leaf",.int x,.str z])=false:=rfl
 rw [e1]
 have e2:du b l (aJ b k l) (.tup [.str "leaf",.int x,.str z])=true:=by
  show (decide (("leaf" :Str)= "leaf")&&decide (0≤x∧x<2^b.toNat)&&decide (z.length≤60)&&decide (aJ b x l=aJ b k l))=true
  rw [decide_eq_true rfl,decide_eq_true ⟨x0,x1⟩,decide_eq_true hz,decide_eq_true hs];rfl
 rw [e2];rfl
theorem xb {b k l e bb:Int} {m n:Dat} (hl:l≤e) (he:e<b) (b0:0≤bb) (b1:bb<2^e.toNat) (hs:bb/2^(e - l).toNat=aJ b k l) (hne:bb≠aJ b k e) (hm:bu m=true) (hn:bu n=true):bO b k l (.tup [.str "fork",.int e,.int bb,m,n])=true:=by
 unfold bO
 have e1:fT (.tup [.str "fork",.int e,.int bb,m,n])=false:=rfl
 rw [e1]
 have e2:cI b l (aJ b k l) (.tup [.str "fork",.int e,.int bb,m,n])=true:=by
  show (decide (("fork" :Str)= "fork")&&decide (l≤e∧e<b)&&decide (0≤bb∧bb<2^e.toNat)&&decide (bb/2^(e - l).toNat=aJ b k l))=true
  rw [decide_eq_true rfl,decide_eq_true ⟨hl,he⟩,decide_eq_true ⟨b0,b1⟩,decide_eq_true hs];rfl
 have e3:sE b k (.tup [.str "fork",.int e,.int bb,m,n])=true:=by
  show (!decide (bb=aJ b k e)&&bu m&&bu n)=true
  rw [decide_eq_false hne,hm,hn];rfl
 rw [e2,e3]
 simp
theorem mE {x y:Str} (h1:cb x=true) (h2:cb y=true):cb (x++y)=true:=by
 unfold cb at h1 h2 ⊢
 show (x.cps++y.cps).all _=true
 rw [Array.all_append,h1,h2];rfl
theorem gU (H:Hp) (m:Key):aR H (kV m) (bi m):=by cases m <;> constructor
theorem lL (m:Key):(df (bi m)).depth=0:=by cases m <;> rfl
mutual
def noL:Dat→Bool
 | .lst _=>false
 | .tup ds=>noLs ds
 | .non=>true
 | .bl _=>true
 | .int _=>true
 | .str _=>true
 | .dic=>true
def noLs:List Dat→Bool
 | []=>true
 | d::r=>noL d&&noLs r
end
theorem iB {b e : Int} {m : Dat} (hm : bu m = true) (he : e < b) : ∀ {ds : List Dat} {l : Int}, aU b l ds = true → bK l ds ≤ e → aU b l (ds ++ [.tup [.int e, m]]) = true
  | [], l, _, hp => by
    have hp : l ≤ e := hp
    show ((decide (l ≤ e ∧ e < b) && bu m) && true) = true
    rw [decide_eq_true ⟨hp, he⟩, hm]; rfl
  | s :: r, l, h, hp => by
    have h : (bq b l s && aU b (db s + 1) r) = true := h
    rw [Bool.and_eq_true] at h
    show (bq b l s && aU b (db s + 1) (r ++ [.tup [.int e, m]])) = true
    rw [h.1, iB hm he h.2 ?_]
    · rfl
    · cases r with
      | nil => exact hp
      | cons y r =>
        unfold bK at hp ⊢
        rw [List.getLast?_cons_cons] at hp; exact hp
theorem lJ (l:Int) (ds:List Dat) (e:Int) (m:Dat):bK l (ds++[.tup [.int e,m]])=e+1:=by
 unfold bK
 rw [List.getLast?_append];rfl
theorem DatWs.append {H:Hp}:∀ {xs ys:List V} {ds es:List Dat},DatWs H xs ds→DatWs H ys es→DatWs H (xs++ys) (ds++es)
 | _,_,_,_,.nil,h=>h
 | _,_,_,_,.cons a r,h=> .cons a (r.append h)
theorem oP : ∀ {ds es : List Dat}, okDs ds = true → okDs es = true → okDs (ds ++ es) = true
  | [], _, _, h => h
  | d :: r, es, h, h2 => by
    have h : (okD d && okDs r) = true := h
    rw [Bool.and_eq_true] at h
    show (okD d && okDs (r ++ es)) = true
    rw [h.1, oP h.2 h2]; rfl
theorem mw : ∀ {ds es : List Dat}, PyData.depthAll (toPys (ds ++ es)) = max (PyData.depthAll (toPys ds)) (PyData.depthAll (toPys es))
  | [], es => by show PyData.depthAll (toPys es) = max 0 (PyData.depthAll (toPys es)); omega
  | d :: r, es => by
    show max (df d).depth (PyData.depthAll (toPys (r ++ es))) = max (max (df d).depth (PyData.depthAll (toPys r))) _
    rw [mw]; omega
mutual
theorem aR.keep {H H':Hp} {D:Addr} {v:V} {d:Dat} (h:aR H v d) (hk:∀ b o,H b=some o→b≠D→H' b=some o) (hn:aR H v d→∀ b o,H b=some o→(∀ xs,o≠ .lst xs)→b≠D) (nl:noL d=true):aR H' v d:=by
 cases h with
 | non=>exact .non
 | bl b=>exact .bl b
 | int i=>exact .int i
 | str z=>exact .str z
 | lst e r=>cases nl
 | tup e r=>exact .tup (hk _ _ e (hn (.tup e r) _ _ e (fun _ z=>nomatch z))) (DatWs.keep r hk (hn (.tup e r)) nl)
 | dic e=>exact (let ⟨k,e'⟩:=e;.dic ⟨k,hk _ _ e' (hn (.dic e) _ _ e' (fun _ z=>nomatch z))⟩)
theorem DatWs.keep {H H' : Hp} {D : Addr} {xs : List V} {ds : List Dat} (h : DatWs H xs ds) (hk : ∀ b o, H b = some o → b ≠ D → H' b = some o) (hn : ∀ b o, H b = some o → (∀ xs, o ≠ .lst xs) → b ≠ D) (nl : noLs ds = true) : DatWs H' xs ds := by
  cases h with
  | nil => exact .nil
  | cons a r =>
    have nl : (noL _ && noLs _) = true := nl
    rw [Bool.and_eq_true] at nl
    exact .cons (aR.keep a hk (fun _ => hn) nl.1) (DatWs.keep r hk hn nl.2)
end
theorem CQ {K:W.Frag} {H:Hp} {a:Addr} {ys:List V} {es:List Dat} {d:Dat} {Q:VK} (hl:es.getLast?=some d) (r:DatWs H ys es) (e0:H a=some (.tup ys)) (q:∀ v,aR H v d→Q v H):aM K (.ref a) (.int (-1)) H Q:=by
 have l0:=r.len
 have hpos:0<ys.length:=by
  cases es with
  | nil=>cases hl
  | cons _ _=>rw [l0];simp
 obtain ⟨v',hv'⟩:∃ v',ys[ys.length - 1]?=some v':=⟨_,List.getElem?_eq_getElem (by omega)⟩
 obtain ⟨d',hd',wd'⟩:=r.get hv'
 rw [l0,←List.getLast?_eq_getElem?,hl] at hd'
 cases hd'
 refine .inl (.inr (.inl ⟨a,ys,-1,v',rfl,rfl,SqT.of e0,?_,q v' wd'⟩))
 unfold atI ixN
 rw [if_neg (by decide),if_pos (by omega)]
 show ys[(-1+(ys.length:Int)).toNat]?=_
 have:(-1+(ys.length:Int)).toNat=ys.length - 1:=by omega
 rw [this];exact hv'
end Rs
namespace Rs
open PySem PySem.Spec PyProof.Rows L2
variable {K:W.Frag} {mg:Str→Option Value} {A:Adr}
def sg1:Str:= " !\"#$&'()*+,-./0123456789:;<=>?@ABCDEFGHIJKLMNOPQRSTUVWXYZ[\\]^_`"
def sg2:Str:= "abcdefghijklmnopqrstuvwxyz{|}~"
theorem Bk:(sg1++sg2).length=94∧(sg1++sg2).cps.toList.length=94∧(sg1++sg2).cps.toList.all (·<128)=true:=by decide +kernel
theorem jT : ∀ {ds es : List Dat}, noLs ds = true → noLs es = true → noLs (ds ++ es) = true
  | [], _, _, h => h
  | d :: r, es, h, h2 => by
    have h : (noL d && noLs r) = true := h
    rw [Bool.and_eq_true] at h
    show (noL d && noLs (r ++ es)) = true
    rw [h.1, jT h.2 h2]; rfl
def LE (K:W.Frag) (A:Adr):TS:=ar (aC (tOp (iS) (ae 2) (tOp (bQ) (ae 1) (ae 5))) (av 6)) (ar (aC (tOp (dX) (tC (.int 1)) (tOp (bQ) (ae 5) (ae 3))) (av 7)) (ar (aC (tOp (aT) (tOp (aV K) (tOp (aV K) (tOp (aT) (ae 6) (ae 7)) (tC (.int 1))) (tOp (aT) (tOp (bZ) (ae 4) (tC (.int 69621))) (tOp (bQ) (ae 7) (tC (.int 1))))) (ae 7)) (av 8)) (az (bf (aa (tC (.str "fork")) (aa (ae 5) (aa (tOp (aV K) (tOp (bQ) (ae 6) (tOp (aT) (ae 6) (ae 7))) (ae 8)) (aa (aq (eA K A) (fun _=>E0) (aa (ae 4) (ag))) (aa (aq (eA K A) (fun _=>E0) (aa (tOp (aV K) (tOp (bw) (ae 4) (tC (.int 7))) (tC (.int 5))) (ag))) (ag))))))))))
theorem zW (K:W.Frag) (A:Adr):Ln (ib K A) 1:=by rintro vs H Q E ⟨c,rfl,_⟩;rfl
theorem Fq (T:Txt K mg A):Rd (ib K A) (HL K A) ["_law_cell", "_law_signs", "_law_size", "_law_made", "_law_k"]:=by
 intro vs H Q E h
 obtain ⟨c,rfl,q⟩:=h
 obtain ⟨g1,g2,g3⟩:=Bk
 have bS:∀ sz:Int,0≤sz→sz≤60→ut K A { nx:=fun _ H'=>Q .non H',rt:=Q } [some (.int c),some (.str (sg1++sg2)),some (.int sz),none,none] H:=by
  intro sz s0 s1
  refine ⟨sz,rfl,by omega,by omega,?_⟩
  refine fu (fun i σ H'=>H'=H∧∃ z x4,σ=[some (.int c),some (.str (sg1++sg2)),some (.int sz),some (.str z),x4]∧z.length=i∧cb z=true) ⟨rfl, "",none,rfl,by decide,by decide +kernel⟩ ?_ ?_
  · rintro i σ _ hi ⟨rfl,z,x4,rfl,hz,ho⟩
    refine ⟨⟨by decide,by decide⟩,⟨by decide,by decide⟩,by decide,io (by omega) (by omega),.inl ⟨by rw [g1];exact aB (by decide),by rw [g1];decide,?_⟩⟩
    generalize (c/4+_:Int)=w
    have e94:((sg1++sg2).length:Int)=94:=by rw [g1];rfl
    rw [e94]
    obtain ⟨cc,hcc⟩:=pD (xs:=(sg1++sg2).cps.toList) (i:=w%94) (by omega) (by rw [g2];omega)
    refine .inl (.inr (.inr ⟨_,_,cc,rfl,rfl,by rw [g1];exact aB (by decide),hcc,?_⟩))
    refine ⟨by rw [hz];exact aB (by show i+1≤1000000;omega),rfl,z++⟨#[cc]⟩,_,rfl,by rw [strLen_append,hz];rfl,mE ho ?_⟩
    obtain ⟨j,_,hj,_⟩:=fO hcc
    have:=of_decide_eq_true (List.all_eq_true.mp g3 cc (List.mem_of_getElem? hj))
    unfold cb
    simp
    omega
  · rintro σ _ ⟨rfl,z,x4,rfl,hz,ho⟩
    exact q z _ (.refl _) (by omega) ho
 have rest4:∀ sz:Int,0≤sz→sz≤60→Cc K A { nx:=fun _ H'=>Q .non H',rt:=Q } [some (.int c),some (.str (sg1++sg2)),some (.int sz),none,none] H:=by
  intro sz s0 s1
  refine ⟨⟨by decide,by decide⟩,by decide,Sel.dec (fun h=>?_) (fun h=>bS sz s0 s1)⟩
  exact ⟨⟨by decide,by decide⟩,by decide,bS (c/32%61) (by omega) (by omega)⟩
 refine ⟨aB (by decide +kernel),by decide,⟨by decide,by decide⟩,by decide,Sel.dec (fun h=>rest4 60 (by decide) (by decide)) (fun h=>rest4 (c%4) (by omega) (by omega))⟩
theorem iX {x:Key} (h1:bu (bi x)=true) (h2:okD (bi x)=true):okP x=true:=by
 cases x with
 | inl i=>exact h1
 | inr z=>exact h2
theorem Hl {x y z:Key} (hx:okP x=true) (hy:okP y=true) (hz:okP z=true) (h:kT x=true):okT [x,y,z]=true:=by
 show (true&&kT x&&(okP x&&(okP y&&(okP z&&true))))=true
 rw [h,hx,hy,hz];rfl
theorem vM {x y z u v:Key} (hx:okP x=true) (hy:okP y=true) (hz:okP z=true) (hu:okP u=true) (hv:okP v=true) (h:kT x=true):okT [x,y,z,u,v]=true:=by
 show (true&&kT x&&(okP x&&(okP y&&(okP z&&(okP u&&(okP v&&true))))))=true
 rw [h,hx,hy,hz,hu,hv];rfl
theorem jn:okP (.inr "fork")=true∧okP (.inr "leaf")=true∧okP (.inr "bare")=true:=by decide +kernel
theorem jy:szK (.inr "fork")=66∧szK (.inr "leaf")=66∧szK (.inr "bare")=66:=by decide +kernel
theorem om {i:Int} (h0:0≤i) (h1:i<10^60):okP (.inl i)=true:=decide_eq_true ⟨h0,h1⟩
theorem pw {b k:Int} {z:Str} (b60:b≤60) (k0:0≤k) (k1:k<2^b.toNat) (hz:z.length≤60) (hk:cb z=true):okT [.inr "leaf",.inl k,.inr z]=true∧szT [.inr "leaf",.inl k,.inr z]≤2500:=by
 have q60:(2:Int)^60<10^60:=by decide +kernel
 have hb2:=jl (k:=b.toNat) (by omega)
 refine ⟨Hl jn.2.1 (om k0 (by omega)) (by show (cb z&&decide (z.length≤100000))=true;rw [hk,decide_eq_true (by omega)];rfl) rfl,?_⟩
 show ([szK (.inr "leaf"),62,z.length+62]:List Nat).sum≤2500
 rw [jy.2.1];simp;omega
theorem wD {e x:Int} {m n:Key} (e0:0≤e) (e60:e<60) (x0:0≤x) (x1:x<2^e.toNat) (hm:fX m) (hn:fX n):okT [.inr "fork",.inl e,.inl x,m,n]=true∧szT [.inr "fork",.inl e,.inl x,m,n]≤2500:=by
 have q60:(2:Int)^60<10^60:=by decide +kernel
 have p60:(60:Int)<10^60:=by decide +kernel
 have h5:=jl (k:=e.toNat) (by omega)
 refine ⟨vM jn.1 (om (by omega) (by omega)) (om x0 (by omega)) (iX hm.1 hm.2.1) (iX hn.1 hn.2.1) rfl,?_⟩
 show ([szK (.inr "fork"),62,62,szK m,szK n]:List Nat).sum≤2500
 rw [jy.1];simp;have:=hm.2.2;have:=hn.2.2;omega
theorem Ab (K:W.Frag) (A:Adr):Ln (kM K A) 3:=by rintro vs H Q E ⟨c,l,b,rfl,_⟩;rfl
theorem FW (T:Txt K mg A):Rd (kM K A) (HI K A) ["_law_cell", "_law_low", "_law_bits_here", "_law_number_here", "_law_found", "_law_depth"]:=by
 intro vs H Q E h
 obtain ⟨c,l,b,rfl,l0,lb,b60,q⟩:=h
 refine ⟨⟨by decide,by decide⟩,by decide,aB (n:=0) (by decide),fun D hD=>⟨l,b,rfl,⟨by omega,by omega,by omega,by omega⟩,?_⟩⟩
 have n0:0≤c/4%65537:=by omega
 have n1:c/4%65537<65537:=by omega
 refine fu (fun i σ H'=>∃ xs ds x5,σ=[some (.int c),some (.int l),some (.int b),some (.int (c/4%65537)),some (.ref D),x5]∧ax H H'∧H' D=some (.lst xs)∧DatWs H' xs ds∧aU b l ds=true∧bK l ds≤l+i∧okDs ds=true∧PyData.depthAll (toPys ds)≤1∧noLs ds=true∧ds.length≤i∧∃ st:List (Int×Key),ds=st.map stD∧∀ s∈st,fX s.2)
   ⟨[],[],none,rfl,ax.upd hD,ap,.nil,rfl,by show l≤l+0;omega,rfl,by decide,rfl,Nat.le_refl _,[],rfl,(fun _ z=>nomatch z)⟩ ?_ ?_
 · rintro i σ H1 hi ⟨xs,ds,x5,rfl,S,hD1,w,st,pl,ok,dp,nl,ll,ss,es,hss⟩
   have hi':l+i<b:=by omega
   refine ⟨xt n0 (by omega),io (by decide) (by decide),by decide,by decide,by decide,Sel.dec (fun h=>?_) (fun h=>?_)⟩
   · refine ⟨.inl ⟨rfl,_,SqL.of hD1⟩,IntMulOk.of_left (by decide),_,rfl,fun m hm=>⟨aB (n:=2) (by decide),fun p hp=>?_⟩⟩
     have S2:=ax.upd (o:=.tup [V.int (l+i),kV m]) hp
     have el:=w.len
     refine ⟨D,xs,.ref p,rfl,rfl,S2 _ _ hD1,by rw [el];exact gq (by omega),?_⟩
     have hp2:upd H1 p (.tup [V.int (l+i),kV m]) p=some (.tup [V.int (l+i),kV m]):=ap
     generalize upd H1 p (.tup [V.int (l+i),kV m])=H2 at S2 hp2 ⊢
     have hD2:=S2 _ _ hD1
     have kp:∀ b o,H2 b=some o→b≠D→upd H2 D (.lst (xs++[.ref p])) b=some o:=fun b o e n=>by rw [au n];exact e
     have nD:∀ b o,H2 b=some o→(∀ xs,o≠ .lst xs)→b≠D:=fun b o e n z=>by subst z;rw [hD2] at e;cases e;exact n _ rfl
     have wp:aR H2 (.ref p) (.tup [.int (l+i),bi m]):=.tup hp2 (.cons (.int _) (.cons (gU _ m) .nil))
     refine ⟨xs++[.ref p],ds++[.tup [.int (l+i),bi m]],_,rfl,fun b o e=>?_,ap,?_,iB hm.1 hi' st pl,?_,oP ok ?_,?_,jT nl ?_,by simp;omega,ss++[(l+i,m)],(by rw [es,List.map_append];rfl),(fun s hs=>by rcases List.mem_append.mp hs with z | z;exact hss s z;rw [List.mem_singleton.mp z];exact hm)⟩
     · rw [au (aD e hD)]
       exact S2 _ _ (S _ _ e)
     · exact ((w.mono S2).append (.cons wp .nil)).keep kp nD (jT nl (by cases m <;> rfl))
     · rw [lJ];omega
     · show ((true&&(okD (bi m)&&true))&&true)=true
       rw [hm.2.1];rfl
     · rw [mw]
       have e1:PyData.depthAll (toPys [.tup [.int (l+i),bi m]])=1:=by
        show max (max 0 (max (df (bi m)).depth 0)+1) 0=1
        rw [lL];rfl
       rw [e1];omega
     · cases m <;> rfl
   · exact ⟨xs,ds,_,rfl,S,hD1,w,st,by omega,ok,dp,nl,by omega,ss,es,hss⟩
 · rintro σ H1 ⟨xs,ds,x5,rfl,S,hD1,w,st,pl,ok,dp,nl,ll,ss,es,hss⟩
   refine ⟨D,xs,rfl,.inl ⟨SqL.of hD1,fun p hp=>?_⟩⟩
   have S2:=ax.upd (o:=.tup xs) hp
   exact q p ds _ (S.trans S2) (.tup ap (w.mono S2)) ⟨st,ok,dp,ss,es,hss⟩
theorem Ah (K:W.Frag) (A:Adr):Ln (km K A) 2:=by rintro vs H Q E ⟨v,ds,l,b,rfl,_⟩;rfl
theorem Em (T : Txt K mg A) : Rd (km K A) (Il K A) ["_law_steps_here", "_law_low"] := by
  intro vs H Q E h
  obtain ⟨v, ds, l, b, rfl, w, l0, ⟨st, ok, dp, _⟩, q⟩ := h
  cases w with
  | @tup a xs _ e r =>
    refine ⟨aB (n := 0) (by decide), fun p hp => ?_⟩
    have S := ax.upd (o := .tup []) hp
    have q := q _ S
    have e' := S _ _ e
    have r' := r.mono S
    refine .inr (.inl ⟨_, _, (aR.tup e' r').toV ok, .tup (SqT.of ap) .nil, eT (d := .tup ds) ok, rfl, by show PyData.depthAll (toPys ds) + 1 ≤ 150; omega, ?_⟩)
    cases ds with
    | nil => exact Sel.yes rfl q
    | cons d0 dr =>
      refine Sel.no rfl ?_
      obtain ⟨s, hs⟩ : ∃ s, (d0 :: dr).getLast? = some s := ⟨_, List.getLast?_eq_some_getLast (by simp)⟩
      obtain ⟨i, m, rfl, i0, i1⟩ := eh l0 st hs
      have hpl : bK l (d0 :: dr) = i + 1 := by unfold bK; rw [hs]; rfl
      rw [hpl] at q
      refine CQ hs r' e' fun v' wv => ?_
      cases wv with
      | tup ee rr =>
        cases rr with
        | cons z0 rr =>
          cases z0
          exact ixT (j := 0) ee rfl rfl q
theorem AW (K:W.Frag) (A:Adr):Ln (ko K A) 4:=by rintro vs H Q E ⟨c,b,k,l,rfl,_⟩;rfl
theorem En (T:Txt K mg A):Rd (ko K A) (HP K A) ["_law_cell", "_law_bits_here", "_law_key_here", "_law_low", "_law_number_here", "_law_depth", "_law_own", "_law_wide", "_law_rest", "_law_free"]:=by
 intro vs H Q E h
 obtain ⟨c,b,k,l,rfl,l0,lb,b1,b60,k0,k1,q⟩:=h
 have last:uq K A { nx:=fun _ H'=>Q .non H',rt:=Q } [some (.int c),some (.int b),some (.int k),some (.int l),some (.int (c/4)),none,none,none,none,none] H:=by
  have e1:(1:Int)*2^(b - l).toNat=2^(b - l).toNat:=Int.one_mul _
  have hF:=cZ (b - l).toNat
  have hsp:=iN l0 lb
  refine ⟨⟨by omega,by omega,by decide⟩,by decide,Sel.dec (fun h=>?_) (fun h=>?_)⟩
  · refine ⟨_,rfl,fun z H1 S1 hz hk=>⟨aB (n:=3) (by decide),fun p hp=>?_⟩⟩
    obtain ⟨ol,sl⟩:=pw b60 k0 k1 hz hk
    exact q (.ref p) [.inr "leaf",.inl k,.inr z] _ (S1.trans (ax.upd hp)) (.tup ap (.cons (.str _) (.cons (.int _) (.cons (.str _) .nil)))) ol sl (oY l0 lb k0 k1 rfl hz)
  · rw [e1]
    have t0:=Int.emod_nonneg (c/4*982451653) (Int.ne_of_gt hF)
    have t1:=Int.emod_lt_of_pos (c/4*982451653) hF
    refine ⟨by omega,io (by decide) (by decide),by omega,⟨by decide,by decide⟩,_,rfl,fun z H1 S1 hz hk=>⟨aB (n:=3) (by decide),fun p hp=>?_⟩⟩
    have kb:k - k%2^(b - l).toNat+c/4*982451653%2^(b - l).toNat<2^b.toNat:=by
     rw [hsp]
     rw [hsp] at k1
     exact qI hF t1 k1
    obtain ⟨ol,sl⟩:=pw b60 (jH hF k0 t0) kb hz hk
    exact q (.ref p) [.inr "leaf",.inl (k - k%2^(b - l).toNat+c/4*982451653%2^(b - l).toNat),.inr z] _ (S1.trans (ax.upd hp)) (.tup ap (.cons (.str _) (.cons (.int _) (.cons (.str _) .nil)))) ol sl (oY l0 lb (jH hF k0 t0) kb (pE hF t0 t1) hz)
 have fork:∀ (e:Int) (D:eE),D.rt=Q→l<e→e<b→LE K A D [some (V.int c),some (V.int b),some (V.int k),some (V.int l),some (V.int (c/4)),some (V.int e),none,none,none,none] H:=by
  intro e D hDr le eb
  have hW:=cZ (e - l).toNat
  have hW2:(2:Int)≤2^(e - l).toNat:=by
    obtain ⟨j,hj⟩:∃ j,(e - l).toNat=j+1:=⟨(e - l).toNat - 1,by omega⟩
    rw [hj,Int.pow_succ]
    have:=cZ j
    omega
  refine ⟨by omega,⟨by omega,by omega,by decide⟩,?_⟩
  have e1:(1:Int)*2^(e - l).toNat=2^(e - l).toNat:=Int.one_mul _
  rw [e1]
  have o0:0≤aJ b k e:=lW k0
  have o1:=mH (by omega) (by omega:e≤b) k1
  have r0:=Int.emod_nonneg (aJ b k e) (Int.ne_of_gt hW)
  have r1:=Int.emod_lt_of_pos (aJ b k e) hW
  have t0:=Int.emod_nonneg (c/4*69621) (b:=2^(e - l).toNat - 1) (by omega)
  have t1:=Int.emod_lt_of_pos (c/4*69621) (b:=2^(e - l).toNat - 1) (by omega)
  refine ⟨hW,io (by decide) (by decide),by omega,hW,hW,_,rfl,fun m hm=>⟨⟨by decide,by decide⟩,_,rfl,fun n hn=>⟨aB (n:=5) (by decide),fun p hp=>?_⟩⟩⟩
  have x0:=Int.emod_nonneg (aJ b k e%2^(e - l).toNat+1+c/4*69621%(2^(e - l).toNat - 1)) (Int.ne_of_gt hW)
  have x1:=Int.emod_lt_of_pos (aJ b k e%2^(e - l).toNat+1+c/4*69621%(2^(e - l).toNat - 1)) hW
  have xn:=zy r0 r1 t0 t1
  have es:=pq (k:=k) (Int.le_of_lt le) (Int.le_of_lt eb)
  have sp:(2:Int)^e.toNat=2^l.toNat*2^(e - l).toNat:=iN l0 (Int.le_of_lt le)
  show D.rt (.ref p) (upd H p (.tup [.str "fork",.int e,.int (aJ b k e - aJ b k e%2^(e - l).toNat+(aJ b k e%2^(e - l).toNat+1+c/4*69621%(2^(e - l).toNat - 1))%2^(e - l).toNat),kV m,kV n]))
  generalize (aJ b k e%2^(e - l).toNat+1+c/4*69621%(2^(e - l).toNat - 1))%2^(e - l).toNat=x at x0 x1 xn ⊢
  rw [hDr]
  have fb:aJ b k e - aJ b k e%2^(e - l).toNat+x<2^e.toNat:=by
    rw [sp]
    rw [sp] at o1
    exact qI hW x1 o1
  obtain ⟨ol,sl⟩:=wD (e:=e) (by omega) (by omega) (jH hW o0 x0) fb hm hn
  refine q (.ref p) [.inr "fork",.inl e,.inl (aJ b k e - aJ b k e%2^(e - l).toNat+x),m,n] _ (ax.upd hp) (.tup ap (.cons (.str _) (.cons (.int _) (.cons (.int _) (.cons (gU _ m) (.cons (gU _ n) .nil)))))) ol sl
    (xb (Int.le_of_lt le) eb (jH hW o0 x0) fb ?_ ?_ hm.1 hn.1)
  · rw [pE hW x0 x1];exact es
  · omega
 have mid:AZ K A { nx:=fun _ H'=>Q .non H',rt:=Q } [some (.int c),some (.int b),some (.int k),some (.int l),some (.int (c/4)),none,none,none,none,none] H:=by
  refine ⟨by decide,Sel.dec (fun h=>Sel.dec (fun hlt=>?_) (fun _=>last)) (fun h=>Sel.f last)⟩
  have m0:=Int.emod_nonneg (c/4) (b:=b - 1 - l) (by omega)
  have m1:=Int.emod_lt_of_pos (c/4) (b:=b - 1 - l) (by omega)
  exact ⟨by omega,fork _ _ rfl (by omega) (by omega)⟩
 refine ⟨⟨by decide,by decide⟩,by decide,Sel.dec (fun h=>Sel.dec (fun hl=>?_) (fun _=>mid)) (fun h=>Sel.f mid)⟩
 refine ⟨aB (n:=1) (by decide),fun p hp=>?_⟩
 refine q (.ref p) [.inr "bare"] _ (ax.upd hp) (.tup ap (.cons (.str _) .nil)) (by decide +kernel) (by decide +kernel) ?_
 show bO b k l (.tup [.str "bare"])=true
 unfold bO
 have e1:fT (.tup [.str "bare"])=true:=by show decide (("bare" :Str)= "bare")=true;exact decide_eq_true rfl
 rw [e1,if_pos rfl]
 exact decide_eq_true hl
end Rs
namespace Rs
open PySem PySem.Spec PyProof.Rows L2
variable {K:W.Frag} {mg:Str→Option Value} {A:Adr}
theorem yI {H:Hp} {v:V} {k:Key} (w:aR H v (bi k)):v=kV k:=by cases k <;> (cases w;rfl)
theorem uZ {H : Hp} {v : V} : ∀ {e : List Key} {xs : List V}, DatWs H xs (e.map bi) → xs = e.map kV
  | [], _, h => by cases h; rfl
  | x :: r, _, h => by
    cases h with
    | cons a b => rw [yI a, uZ (v := v) b]; rfl
theorem DN {H:Hp} {v:V} {e:List Key} (h:aR H v (.tup (e.map bi))):∃ a,v=.ref a∧H a=some (.tup (e.map kV)):=by
 cases h with
 | @tup a xs _ ea r=>exact ⟨a,rfl,by rw [ea,uZ (v:=.non) r]⟩
theorem uE {H : Hp} : ∀ {st : List (Int × Key)} {xs : List V}, DatWs H xs (st.map stD) → ∀ {i : Nat} {x : V}, xs[i]? = some x → ∃ s p, st[i]? = some s ∧ x = .ref p ∧ H p = some (.tup [.int s.1, kV s.2])
  | [], _, h, i, x, e => by cases h; cases e
  | s :: r, _, h, i, x, e => by
    cases h with
    | cons a b =>
      cases i with
      | zero =>
        cases e
        have a : aR H x (.tup [.int s.1, bi s.2]) := a
        cases a with
        | @tup p ys _ ea rr =>
          cases rr with
          | cons z0 rr =>
            cases rr with
            | cons z1 rr =>
              cases rr
              cases z0
              exact ⟨s, p, rfl, rfl, by rw [ea, yI z1]⟩
      | succ i => exact uE b e
theorem gJ {H : Hp} {v : V} {b k : Int} {st : List (Int × Key)} {e : List Key} (h : cA H v b k st e) : ∃ (a s t : Addr) (xs : List V), v = .ref a ∧ H a = some (.tup [.ref s, .ref t]) ∧ H s = some (.tup xs) ∧ DatWs H xs (st.map stD) ∧ H t = some (.tup (e.map kV)) := by
  obtain ⟨w, _⟩ := h
  cases w with
  | @tup a xs _ ea r =>
    cases r with
    | cons z0 r =>
      cases r with
      | cons z1 r =>
        cases r
        obtain ⟨t, rfl, ht⟩ := DN z1
        cases z0 with
        | @tup s ys _ es rs => exact ⟨a, s, t, ys, rfl, ea, es, rs, ht⟩
theorem jV {w:Str} {d:Dat} (h:cf w d=true):d=.str w:=by
 cases d <;> first | cases h | skip
 rename_i z
 have:z=w:=of_decide_eq_true h
 rw [this]
theorem vP:∀ {a b:Key},bi a=bi b→a=b
 | .inl i,.inl j,h=>by cases h;rfl
 | .inl i,.inr j,h=>by cases h
 | .inr i,.inl j,h=>by cases h
 | .inr i,.inr j,h=>by cases h;rfl
theorem oS {b k l : Int} {e : List Key} (h : bO b k l (.tup (e.map bi)) = true) : e = [.inr "bare"] ∨ (∃ x z, e = [.inr "leaf", .inl x, .inr z] ∧ z.length ≤ 60) ∨ ∃ d bb m n, e = [.inr "fork", .inl d, .inl bb, m, n] := by
  have key : ∀ {x : Key} {w : Str}, bi x = .str w → x = .inr w := fun {x w} hx => vP (b := .inr w) hx
  unfold bO at h
  split at h
  · rename_i hb
    match e, hb with
    | [x], hb => exact .inl (by rw [key (jV hb)])
  · rw [Bool.or_eq_true] at h
    rcases h with h | h
    · match e, h with
      | [w, .inl x, z], h =>
        have h : (cf "leaf" (bi w) && decide (0 ≤ x ∧ x < 2 ^ b.toNat) && eG (bi z) && decide (aJ b x l = aJ b k l)) = true := h
        simp only [Bool.and_eq_true] at h
        cases z with
        | inl i => cases h.1.2
        | inr z => exact .inr (.inl ⟨x, z, by rw [key (jV h.1.1.1)], of_decide_eq_true h.1.2⟩)
    · rw [Bool.and_eq_true] at h
      have h := h.1
      match e, h with
      | [w, .inl d, .inl bb, m, n], h =>
        have h : (cf "fork" (bi w) && decide (l ≤ d ∧ d < b) && decide (0 ≤ bb ∧ bb < 2 ^ d.toNat) && decide (bb / 2 ^ (d - l).toNat = aJ b k l)) = true := h
        simp only [Bool.and_eq_true] at h
        exact .inr (.inr ⟨d, bb, m, n, by rw [key (jV h.1.1.1)]⟩)
theorem AV (K:W.Frag) (A:Adr):Ln (jr K A) 3:=by rintro vs H Q E ⟨b,k,d,rfl,_⟩;rfl
theorem FC (T:Txt K mg A):Rd (jr K A) (GS K A) ["bits", "key", "depth"]:=by
 intro vs H Q E h
 obtain ⟨b,k,d,rfl,hd,k0,q⟩:=h
 refine ⟨by omega,?_⟩
 show Q (.int (Builtin.bitAnd (k/2^(b - d - 1).toNat) 1)) H
 have h0:0≤k/2^(b - d - 1).toNat:=Int.ediv_nonneg k0 (Int.le_of_lt (cZ _))
 obtain ⟨y,hy⟩:=Int.eq_ofNat_of_zero_le h0
 rw [hy] at q ⊢
 rw [rL]
 have:((y%2:Nat):Int)=(y:Int)%2:=by omega
 rw [this];exact q
theorem AS (K:W.Frag) (A:Adr):Ln (nj K A) 4:=by rintro vs H Q E ⟨b,k,d,m,s,p,rfl,_⟩;rfl
theorem Eu (T:Txt K mg A):Rd (nj K A) (GL K A) ["bits", "key", "step", "mark", "depth", "begin"]:=by
 intro vs H Q E h
 obtain ⟨b,k,d,m,s,p,rfl,hp,hd,k0,q⟩:=h
 refine ixT (j:=0) hp rfl rfl ⟨b,k,d,rfl,by omega,b,k,d,rfl,hd,k0,?_⟩
 unfold cG at q
 refine Sel.dec (fun h=>?_) (fun h=>?_)
 · refine ixT (j:=1) hp rfl rfl ⟨aB (n:=5) (by decide),fun t ht=>?_⟩
   have q:=q t ht
   rw [if_pos h] at q;exact q
 · refine ixT (j:=1) hp rfl rfl ⟨aB (n:=5) (by decide),fun t ht=>?_⟩
   have q:=q t ht
   rw [if_neg h] at q;exact q
theorem lV {k x:Int} {z:Str}:gx k [.inr "leaf",.inl x,.inr z]=if x=k then .str z else .non:=by
 show (if ("leaf" :Str)= "leaf" ∧x=k then V.str z else .non)=_
 by_cases h:x=k
 · rw [if_pos ⟨rfl,h⟩,if_pos h]
 · rw [if_neg (fun z=>h z.2),if_neg h]
theorem oI:decide (("bare" :Str)= "leaf")=false:=by decide +kernel
theorem oN:decide (("fork" :Str)= "leaf")=false:=by decide +kernel
theorem Bn (K:W.Frag) (A:Adr):Ln (mY K A) 2:=by rintro vs H Q E ⟨b,k,v,st,e,rfl,_⟩;rfl
theorem DS (T:Txt K mg A):Rd (mY K A) (Ie K A) ["key", "slip", "end"]:=by
 intro vs H Q E h
 obtain ⟨b,k,v,st,e,rfl,w,q⟩:=h
 obtain ⟨a,s,t,xs,rfl,ha,hs,ws,ht⟩:=gJ w
 refine ixT (j:=1) ha rfl rfl ?_
 rcases oS w.2.en with rfl | ⟨x,z,rfl,_⟩ | ⟨d,bb,m,n,rfl⟩
 · exact ixT (j:=0) ht rfl rfl (Sel.no oI (Sel.f q))
 · refine ixT (j:=0) ht rfl rfl (Sel.yes (decide_eq_true rfl) (ixT (j:=1) ht rfl rfl ?_))
   rw [lV] at q
   refine Sel.dec (fun h=>?_) (fun h=>?_)
   · rw [if_pos h] at q
     exact ixT (j:=2) ht rfl rfl q
   · rw [if_neg h] at q;exact q
 · exact ixT (j:=0) ht rfl rfl (Sel.no oN (Sel.f q))
theorem CF (K:W.Frag) (A:Adr):Ln (nA K A) 2:=by rintro vs H Q E ⟨v,rfl,_⟩;rfl
theorem DB (T:Txt K mg A):Rd (nA K A) (Gu K A) ["_law_found", "_law_due"]:=by
 intro vs H Q E h
 obtain ⟨v,rfl,rfl | ⟨z,rfl⟩,q⟩:=h
 · exact Sel.yes rfl q
 · refine Sel.no rfl ⟨by decide, "str",rfl,Sel.yes rfl ?_⟩
   have e:decide (z=z)=true:=decide_eq_true rfl
   rw [← e] at q;exact q
theorem Bb (K:W.Frag) (A:Adr):Ln (jE K A) 2:=by rintro vs H Q E ⟨x,rfl,_⟩;rfl
theorem Fd (T : Txt K mg A) : Rd (jE K A) (HU K A) ["_law_found", "_law_due"] := by
  intro vs H Q E h
  obtain ⟨x, rfl, q⟩ := h
  cases x with
  | inl i =>
    have e : decide (i = i) = true := decide_eq_true rfl
    rw [← e] at q
    exact ⟨by decide, "int", rfl, Sel.no rfl ⟨by decide, "int", rfl, Sel.yes rfl ⟨by decide, "int", rfl, Sel.yes rfl q⟩⟩⟩
  | inr z =>
    have e : decide (z = z) = true := decide_eq_true rfl
    rw [← e] at q
    exact ⟨by decide, "str", rfl, Sel.yes rfl ⟨by decide, "str", rfl, Sel.yes rfl q⟩⟩
theorem zR (K:W.Frag) (A:Adr):Ln (nV K A) 2:=by rintro vs H Q E ⟨p,r,k,rfl,_⟩;rfl
theorem Gn (T:Txt K mg A):Rd (nV K A) (Hy K A) ["_law_found", "_law_due", "_law_k"]:=by
 intro vs H Q E h
 obtain ⟨p,r,k,rfl,hp,hr,hk,q⟩:=h
 have ty:tyN H (.ref p)=some "tuple" :=by unfold tyN;dsimp only;rw [hp]
 refine ⟨by decide, "tuple",ty,Sel.no rfl (.inl (.inr (.inl ⟨_,SqT.of hp,.inl (.inr (.inl ⟨_,SqT.of hr,?_⟩))⟩)))⟩
 refine Sel.no (by simp) (.inl (.inr (.inl ⟨_,SqT.of hr,_,rfl,by omega,by simp;omega,?_⟩)))
 have hn:(((k.map kV).length:Nat):Int).toNat=k.length:=by simp
 rw [hn]
 refine fu (fun i σ H'=>H'=H∧∃ x2,σ=[some (.ref p),some (.ref r),x2]) ⟨rfl,none,rfl⟩ ?_ ?_
 · rintro i σ _ hi ⟨rfl,x2,rfl⟩
   obtain ⟨x,hx⟩:∃ x,k[i]?=some x:=⟨_,List.getElem?_eq_getElem hi⟩
   have hx2:(k.map kV)[i]?=some (kV x):=by rw [List.getElem?_map,hx];rfl
   refine ixT (j:=i) hp (by omega) hx2 (ixT (j:=i) hr (by omega) hx2 ⟨x,rfl,Sel.no rfl ⟨rfl,_,rfl⟩⟩)
 · rintro σ _ ⟨rfl,x2,rfl⟩
   exact q
theorem oU {H : Hp} {ps : List Addr} {ts : List (List Key)} (h : PK H ps ts) : ∀ {i : Nat} {t : List Key}, ts[i]? = some t → ∃ p, ps[i]? = some p ∧ H p = some (.tup (t.map kV)) ∧ okT t = true := by
  induction h with
  | nil => intro i t e; cases e
  | cons r _ ih =>
    intro i t e
    cases i with
    | zero => cases e; exact ⟨_, rfl, r⟩
    | succ i => exact ih e
theorem kn {H:Hp} {ps:List Addr} {ts:List (List Key)} (h:PK H ps ts):ps.length=ts.length:=Paired.length h
theorem gF {k:List Key} (h:okT k=true):1≤k.length∧k.length≤8:=by
 unfold okT at h
 simp only [Bool.and_eq_true] at h
 exact of_decide_eq_true h.1.1
theorem Ca (K:W.Frag) (A:Adr):Ln (ny K A) 2:=by rintro vs H Q E ⟨b,k,v,st,e,rfl,_⟩;rfl
theorem Dl (T:Txt K mg A):Rd (ny K A) (GZ K A) ["_law_key_here", "_law_slip_here"]:=by
 intro vs H Q E h
 obtain ⟨b,k,v,st,e,rfl,w,q⟩:=h
 obtain ⟨a,s,t,xs,rfl,ha,hs,ws,ht⟩:=gJ w
 refine ixT (j:=1) ha rfl rfl ?_
 rcases oS w.2.en with rfl | ⟨x,z,rfl,_⟩ | ⟨d,bb,m,n,rfl⟩
 · exact ixT (j:=0) ht rfl rfl (Sel.no oI (Sel.f q))
 · refine ixT (j:=0) ht rfl rfl (Sel.yes (decide_eq_true rfl) (ixT (j:=1) ha rfl rfl (ixT (j:=1) ht rfl rfl ?_)))
   rw [lV] at q
   refine Sel.dec (fun h=>?_) (fun h=>?_)
   · rw [if_pos h] at q
     exact ixT (j:=1) ha rfl rfl (ixT (j:=2) ht rfl rfl q)
   · rw [if_neg h] at q;exact q
 · exact ixT (j:=0) ht rfl rfl (Sel.no oN (Sel.f q))
theorem CS (K:W.Frag) (A:Adr):Ln (nG K A) 2:=by rintro vs H Q E ⟨L,M,ps,rs,ts,rfl,_⟩;rfl
theorem Ds (T:Txt K mg A):Rd (nG K A) (Gx K A) ["_law_found", "_law_due", "_law_k"]:=by
 intro vs H Q E h
 obtain ⟨L,M,ps,rs,ts,rfl,hL,hM,w1,w2,hl,q⟩:=h
 have l1:=kn w1
 have l2:=kn w2
 have ty:tyN H (.ref L)=some "list" :=by unfold tyN;dsimp only;rw [hL]
 refine ⟨by decide, "list",ty,Sel.no rfl (.inl (.inl ⟨_,SqL.of hL,.inl (.inl ⟨_,SqL.of hM,?_⟩)⟩))⟩
 refine Sel.no (by simp;omega) (.inl (.inl ⟨_,SqL.of hM,_,rfl,by omega,by simp;omega,?_⟩))
 have hn:(((rs.map V.ref).length:Nat):Int).toNat=ts.length:=by simp;omega
 rw [hn]
 refine fu (fun i σ H'=>H'=H∧∃ x2,σ=[some (.ref L),some (.ref M),x2]) ⟨rfl,none,rfl⟩ ?_ ?_
 · rintro i σ _ hi ⟨rfl,x2,rfl⟩
   obtain ⟨t,ht⟩:∃ t,ts[i]?=some t:=⟨_,List.getElem?_eq_getElem hi⟩
   obtain ⟨p,hp,hp2,ok⟩:=oU w1 ht
   obtain ⟨r,hr,hr2,_⟩:=oU w2 ht
   have e1:(ps.map V.ref)[i]?=some (.ref p):=by rw [List.getElem?_map,hp];rfl
   have e2:(rs.map V.ref)[i]?=some (.ref r):=by rw [List.getElem?_map,hr];rfl
   refine ixL (j:=i) hL (by omega) e1 (ixL (j:=i) hM (by omega) e2 ⟨p,r,t,rfl,hp2,hr2,(gF ok).2,Sel.no rfl ⟨rfl,_,rfl⟩⟩)
 · rintro σ _ ⟨rfl,x2,rfl⟩
   exact q
end Rs
namespace Rs
open PySem PySem.Spec PyProof.Rows L2
variable {K:W.Frag} {mg:Str→Option Value} {A:Adr}
theorem eY {k:List Key} (h:okT k=true):k.all okP=true:=by
 unfold okT at h
 rw [Bool.and_eq_true] at h
 exact h.2
theorem lG {k:List Key} {x:Key} (h:okT k=true) (hx:x∈k):okP x=true:=List.all_eq_true.mp (eY h) x hx
theorem xg {k : List Key} (h : okT k = true) : ∃ z r, k = .inr z :: r := by
  unfold okT at h
  simp only [Bool.and_eq_true] at h
  cases k with
  | nil => cases h.1.2
  | cons x r =>
    cases x with
    | inl i => cases h.1.2
    | inr z => exact ⟨z, r, rfl⟩
theorem xm {x:Key} (h:okP x=true):bu (bi x)=true:=by
 cases x with
 | inl i=>exact h
 | inr z=>rfl
theorem mm {i:Int} (h0:0≤i) (h1:i<10^60):i.natAbs.log2<1920:=by
 by_cases e:i.natAbs=0
 · rw [e];decide
 · refine (Nat.log2_lt e).mpr ?_
   have:i.natAbs<10^60:=by omega
   exact Nat.lt_of_lt_of_le this (by decide +kernel)
theorem fM {i:Int} (h0:0≤i) (h1:i<10^60):((toString i:String):Str).length≤61:=by
 have:i.natAbs<10^60:=by omega
 have:=int_text_length_le10 (k:=60) (by decide) this
 show (Str.ofString _).length≤_
 rw [PySem.ofString_length];exact this
theorem gO (s:String) (h:s.length=1:=by rfl):(s:Str).length=1:=by
 show (Str.ofString s).length=1
 rw [PySem.ofString_length];exact h
theorem mf {x : Key} (h : okP x = true) : (eB x).length ≤ szK x := by
  cases x with
  | inl i =>
    have h := of_decide_eq_true h
    have := fM h.1 h.2
    show (((toString i : String) : Str) ++ ((";" : String) : Str)).length ≤ 62
    rw [strLen_append, gO ";"]; omega
  | inr z =>
    have h := of_decide_eq_true (Bool.and_eq_true_iff.mp h).2
    have := fM (i := (z.length : Int)) (by omega) (by omega)
    show (((toString (z.length : Int) : String) : Str) ++ ((":" : String) : Str) ++ z).length ≤ z.length + 62
    rw [strLen_append, strLen_append, gO ":"]; omega
theorem Bh {x : Key} (h : okP x = true) : szK x ≤ 100062 := by
  cases x with
  | inl i => show 62 ≤ 100062; decide
  | inr z =>
    have h := of_decide_eq_true (Bool.and_eq_true_iff.mp h).2
    show z.length + 62 ≤ 100062; omega
theorem oO:∀ xs:List Key,fE xs=(xs.map eB).foldr (·++·) Str.empty
 | []=>rfl
 | x::r=>by show eB x++fE r=eB x++_;rw [oO r]
theorem mK : ∀ {k : List Key}, k.all okP = true → (fE k).length ≤ szT k
  | [], _ => by show Str.empty.length ≤ 0; decide
  | x :: r, h => by
    rw [List.all_cons, Bool.and_eq_true] at h
    have h1 := mf h.1
    have h2 := mK h.2
    show (eB x ++ fE r).length ≤ ((x :: r).map szK).sum
    rw [strLen_append, List.map_cons, List.sum_cons]
    unfold szT at h2
    omega
theorem jf {x y:Str} (h1:cb x=true) (h2:cb y=true):cb (x++y)=true:=mE h1 h2
theorem pP {z:Str} (h:∀ c∈z.cps.toList,c<128):cb z=true:=by
 unfold cb
 rw [Array.all_eq_true]
 intro i hi
 exact decide_eq_true (h _ (by simp))
theorem pG {z:Str} (h:cb z=true):∀ c∈z.cps.toList,c<128:=by
 intro c hc
 unfold cb at h
 rw [Array.all_eq_true] at h
 obtain ⟨i,hi,e⟩:=List.getElem_of_mem hc
 have:=of_decide_eq_true (h i (by simpa using hi))
 rw [← e]
 simpa using this
theorem zd (n:Nat):cb ((toString (n:Int):String):Str)=true:=by
 refine pP fun c hc=>?_
 rw [W.KIN.signs_num n] at hc
 obtain ⟨ch,hch,e⟩:=List.mem_map.mp hc
 have:=digit_range (Nat.isDigit_of_mem_toDigits (by decide) (by decide) hch)
 rw [← e];omega
theorem qt {i:Int} (h:0≤i):cb ((toString i:String):Str)=true:=by
 obtain ⟨n,rfl⟩:=Int.eq_ofNat_of_zero_le h
 exact zd n
theorem uK {x : Key} (h : okP x = true) : cb (eB x) = true := by
  cases x with
  | inl i =>
    have h := of_decide_eq_true h
    exact jf (qt h.1) (by decide +kernel)
  | inr z =>
    have h := (Bool.and_eq_true_iff.mp h).1
    exact jf (jf (qt (by omega)) (by decide +kernel)) h
theorem mL : ∀ {k : List Key}, k.all okP = true → cb (fE k) = true
  | [], _ => by decide +kernel
  | x :: r, h => by
    rw [List.all_cons, Bool.and_eq_true] at h
    exact jf (uK h.1) (mL h.2)
theorem qZ : ∀ {k : List Key}, k.all okP = true → szT k ≤ k.length * 100062
  | [], _ => by decide
  | x :: r, h => by
    rw [List.all_cons, Bool.and_eq_true] at h
    have h1 := Bh h.1
    have h2 := qZ h.2
    show ((x :: r).map szK).sum ≤ _
    rw [List.map_cons, List.sum_cons, List.length_cons, Nat.succ_mul]
    unfold szT at h2
    omega
theorem oo : ∀ {k : List Key}, k.all okP = true → ((k.map eB).map (·.length)).sum ≤ szT k
  | [], _ => by decide
  | x :: r, h => by
    rw [List.all_cons, Bool.and_eq_true] at h
    have h1 := mf h.1
    have h2 := oo h.2
    show (((x :: r).map eB).map (·.length)).sum ≤ ((x :: r).map szK).sum
    rw [List.map_cons, List.map_cons, List.sum_cons, List.map_cons, List.sum_cons]
    unfold szT at h2
    omega
theorem Bx (K:W.Frag) (A:Adr):Ln (kI K A) 1:=by rintro vs H Q E ⟨p,k,rfl,_⟩;rfl
theorem Ec (T:Txt K mg A):Rd (kI K A) (Ia K A) ["thing"]:=by
 intro vs H Q E h
 obtain ⟨p,k,rfl,hp,ok,q⟩:=h
 obtain ⟨l1,l8⟩:=gF ok
 obtain ⟨z,r,hk⟩:=xg ok
 have ty:tyN H (.ref p)=some "tuple" :=by unfold tyN;dsimp only;rw [hp]
 refine ⟨by decide, "tuple",ty,Sel.no rfl (.inl (.inr (.inl ⟨_,SqT.of hp,?_⟩)))⟩
 refine Sel.dec (fun h1=>?_) (fun h1=>absurd (by simp;omega) h1)
 refine Sel.ndec (fun h8=>absurd (by simp;omega) h8) (fun h8=>?_)
 refine ixT (j:=0) hp rfl (by rw [hk];rfl) ⟨by decide, "str",rfl,Sel.yes rfl ?_⟩
 refine ⟨p,rfl,.inr ⟨⟨_,SqT.of hp⟩,fun D hD=>?_⟩⟩
 have hne:p≠D:=aD hp hD
 have hml:(k.map kV).length=k.length:=by simp
 refine lI (dU.tuple (xs:=k.map kV) .non) (fun i ys H2=>ys=(k.take i).map (fun x=>V.bl true)∧H2=upd H D (.lst ys)) (fun i ys H2 hi ⟨_,e2⟩=>?_) ⟨rfl,rfl⟩ (fun i ys H2 hi ⟨e1,e2⟩=>?_) (fun ys H2 ⟨e1,e2⟩=>?_)
 · rw [e2];exact SqT.of (by rw [au hne];exact hp)
 · subst e2
   have hi':i<k.length:=by omega
   obtain ⟨x,hx⟩:∃ x,k[i]?=some x:=⟨_,List.getElem?_eq_getElem hi'⟩
   have hg:(k.map kV).getD i .non=kV x:=by rw [List.getD_eq_getElem?_getD,List.getElem?_map,hx];rfl
   rw [hg]
   have hs:=xm (lG ok (List.mem_of_getElem? hx))
   refine vt ⟨_,bi x,rfl,gU _ x,?_⟩
   rw [hs]
   have hyl:ys.length=i:=by rw [e1,List.length_map,List.length_take];omega
   refine ⟨ap,by rw [hyl];exact gq (by omega),CWd.next hi ⟨?_,jq⟩⟩
   rw [e1,List.take_add_one,List.map_append,hx];rfl
 · subst e2
   refine ⟨D,k.map fun _=>true,rfl,by rw [ap,e1,hml,List.take_length,List.map_map];rfl,?_⟩
   have:(k.map fun _=>true).all id=true:=by simp
   rw [this];exact q _ (ax.upd hD)
theorem AE (K:W.Frag) (A:Adr):Ln (nK K A) 1:=by rintro vs H Q E ⟨v,rfl,_⟩;rfl
theorem ET (T : Txt K mg A) : Rd (nK K A) (GM K A) ["part", "signs"] := by
  intro vs H Q E h
  obtain ⟨v, rfl, hp, q⟩ := h
  cases v with
  | inl i =>
    have h := of_decide_eq_true hp
    have l := fM h.1 h.2
    refine ⟨.int i, .int i, rfl, .int i, Sel.t ?_⟩
    have e1 : Str.empty ++ ((toString i : String) : Str) = ((toString i : String) : Str) := Str.empty_append _
    have l2 : (((toString i : String) : Str) ++ ((";" : String) : Str)).length ≤ sizeLine := by rw [strLen_append, gO ";"]; exact aB (by omega)
    refine ⟨mm h.1 h.2, by rw [e1]; exact aB (by omega), ?_, ?_, ?_⟩ <;> rw [e1]
    · exact l2
    · exact l2
    · exact q
  | inr z =>
    have h := of_decide_eq_true (Bool.and_eq_true_iff.mp hp).2
    have l := fM (i := (z.length : Int)) (by omega) (by omega)
    refine ⟨.str z, .str z, rfl, .str z, Sel.f ?_⟩
    have e1 : Str.empty ++ ((toString (z.length : Int) : String) : Str) = ((toString (z.length : Int) : String) : Str) := Str.empty_append _
    have l2 : (((toString (z.length : Int) : String) : Str) ++ ((":" : String) : Str)).length ≤ sizeLine := by rw [strLen_append, gO ":"]; exact aB (by omega)
    have l3 : (((toString (z.length : Int) : String) : Str) ++ ((":" : String) : Str) ++ z).length ≤ sizeLine := by rw [strLen_append, strLen_append, gO ":"]; exact aB (by omega)
    refine .inl ⟨aB (by omega), mm (by omega) (by omega), by rw [e1]; exact aB (by omega), ?_, aB (by omega), ?_, ?_, ?_⟩ <;> rw [e1]
    · exact l2
    · exact l3
    · exact l3
    · exact q
theorem Bd (K:W.Frag) (A:Adr):Ln (lj K A) 1:=by rintro vs H Q E ⟨p,k,rfl,_⟩;rfl
theorem Fs (T:Txt K mg A):Rd (lj K A) (Hx K A) ["term"]:=by
 intro vs H Q E h
 obtain ⟨p,k,rfl,hp,ok,q⟩:=h
 refine ⟨p,k,rfl,hp,ok,fun H' s=>Sel.no rfl ?_⟩
 have hp':=s _ _ hp
 have hml:(k.map kV).length=k.length:=by simp
 obtain ⟨l1,l8⟩:=gF ok
 refine ⟨rfl,⟨p,rfl,.inr ⟨⟨_,SqT.of hp'⟩,fun D hD=>?_⟩⟩⟩
 have hne:p≠D:=aD hp' hD
 refine lI (dU.tuple (xs:=k.map kV) .non) (fun i ys H2=>ys=(k.take i).map (fun x=>V.str (eB x))∧H2=upd H' D (.lst ys)) (fun i ys H2 hi ⟨_,e2⟩=>?_) ⟨rfl,rfl⟩ (fun i ys H2 hi ⟨e1,e2⟩=>?_) (fun ys H2 ⟨e1,e2⟩=>?_)
 · rw [e2];exact SqT.of (by rw [au hne];exact hp')
 · subst e2
   have hi':i<k.length:=by omega
   obtain ⟨x,hx⟩:∃ x,k[i]?=some x:=⟨_,List.getElem?_eq_getElem hi'⟩
   have hg:(k.map kV).getD i .non=kV x:=by rw [List.getD_eq_getElem?_getD,List.getElem?_map,hx];rfl
   rw [hg]
   refine vt ⟨x,rfl,lG ok (List.mem_of_getElem? hx),?_⟩
   have hyl:ys.length=i:=by rw [e1,List.length_map,List.length_take];omega
   refine ⟨ap,by rw [hyl];exact gq (by omega),CWd.next hi ⟨?_,jq⟩⟩
   rw [e1,List.take_add_one,List.map_append,hx];rfl
 · subst e2
   refine ⟨"",D,k.map eB,rfl,rfl,by rw [ap,e1,hml,List.take_length,List.map_map];rfl,?_,?_⟩
   · have h1:=oo (eY ok)
     have h2:=qZ (eY ok)
     have e0:(("" :String):Str).length=0:=by decide
     rw [e0]
     have:k.length*100062≤8*100062:=Nat.mul_le_mul_right _ l8
     omega
   · rw [zg,←oO]
     exact q _ (s.trans (ax.upd hD))
theorem Ge (K:W.Frag) (A:Adr):Ln (sG K A) 1:=by rintro vs H Q E ⟨x,dx,rfl,_⟩;rfl
theorem Ht (T:Txt K mg A):Rd (sG K A) (T_6 K A) ["self"]:=by
 intro vs H Q E h
 obtain ⟨x,dx,rfl,hx,q⟩:=h
 exact .inr fun d hd=>⟨x,A.c_Numbers,dx,[],rfl,by rw [au (aD hx hd)];exact hx,T.cl_Numbers,T.na_Numbers_given,by decide,q d hd⟩
theorem fH.mono {H H':Hp} {x d:Addr} {kvs:List (List Key×V)} (s:ax H H') (n:fH A H x d kvs):fH A H' x d kvs:=by
 obtain ⟨⟨dx,h1⟩,h2⟩:=n
 exact ⟨⟨dx,s _ _ h1⟩,s _ _ h2⟩
theorem fH.hide {H:Hp} {x d:Addr} {kvs:List (List Key×V)} {cs:List Addr} {cvs:List V} (hc:cn H cs cvs) (n:fH A H x d kvs):fH A (cC cs H) x d kvs:=by
 obtain ⟨⟨dx,h1⟩,h2⟩:=n
 exact ⟨⟨dx,hc.hide h1 (fun _ z=>nomatch z)⟩,hc.hide h2 (fun _ z=>nomatch z)⟩
theorem DG (K:W.Frag) (A:Adr):Ln (rN K A) 2:=by rintro vs H Q E ⟨x,d,p,kvs,k,rfl,_⟩;rfl
theorem HG (T : Txt K mg A) : Rd (rN K A) (T_7 K A) ["self", "term"] := by
  intro vs H Q E h
  obtain ⟨x, d, a, kvs, k, rfl, nu, hl, hp, ok, q⟩ := h
  refine ⟨a, k, rfl, hp, ok, fun H' s => Sel.no rfl ?_⟩
  have ta' := s _ _ hp
  obtain ⟨⟨dx, hx⟩, hd⟩ := nu.mono s
  have q := q H' s
  have g := fz.t hd ta'
  refine ⟨x, A.c_Numbers, dx, _, .ref d, rfl, hx, T.cl_Numbers, T.na_Numbers_given, rfl, .inl ⟨d, bX kvs k, rfl, g, ?_⟩⟩
  unfold hZ ia at q
  cases e : bX kvs k with
  | some w =>
    rw [e] at q g
    have q : Q w H' := q
    exact Sel.no rfl ⟨x, A.c_Numbers, dx, _, .ref d, rfl, hx, T.cl_Numbers, T.na_Numbers_given, rfl, .inr ⟨d, w, rfl, g, q⟩⟩
  | none =>
    rw [e] at q g
    have q : Q (.int kvs.length) (upd H' d (.dT (cM kvs k (.int kvs.length)))) := q
    have hx' : upd H' d (.dT (cM kvs k (.int kvs.length))) x = some (.ins A.c_Numbers dx [("given", .ref d)]) := by rw [au (dD hx hd (fun z => nomatch z))]; exact hx
    have ha' : upd H' d (.dT (cM kvs k (.int kvs.length))) a = some (.tup (k.map kV)) := by rw [au (dD ta' hd (fun z => nomatch z))]; exact ta'
    refine Sel.yes rfl ⟨x, A.c_Numbers, dx, _, .ref d, rfl, hx, T.cl_Numbers, T.na_Numbers_given, rfl, .inr ⟨d, kvs, rfl, hd, x, A.c_Numbers, dx, _, .ref d, rfl, hx, T.cl_Numbers, T.na_Numbers_given, rfl, .inr ⟨d, _, rfl, .inr ⟨kvs, k, a, hd, rfl, ta', Nat.lt_of_le_of_lt hl (aB (n := 50001) (by decide)), rfl⟩, ?_⟩⟩⟩
    have g2 := fz.t (kvs := cM kvs k (.int kvs.length)) (k := k) ap ha'
    rw [wJ, if_pos rfl] at g2
    exact ⟨x, A.c_Numbers, dx, _, .ref d, rfl, hx', T.cl_Numbers, T.na_Numbers_given, rfl, .inr ⟨d, _, rfl, g2, q⟩⟩
theorem Ey (T:Txt K mg A) (a0:V) (H:Hp) (Q:VK) (E:XK) (h:rQ K A [a0] H Q E):BV K A (dF ["term"] [a0] []) H Q:=h
theorem FO (T:Txt K mg A) (a0 b0:V) (H:Hp) (Q:VK) (E:XK) (h:sQ K A [a0,b0] H Q E):Cy K A (dF ["term", "numbers"] [a0] [b0]) H Q:=by
 obtain ⟨x,d,p,kvs,k,e,nu,hl,hp,ok,h⟩:=h
 cases e
 obtain ⟨dx,hx⟩:=nu.ob
 exact ⟨x,dx,_,rfl,hx,rfl,x,d,p,kvs,k,rfl,nu,hl,hp,ok,h⟩
theorem BX {H:Hp} {b p:Addr} {kvs:List (List Key×V)} {kk:List Key} {d:V} (hb:H b=some (.dT kvs)) (hp:H p=some (.tup (kk.map kV))) (hl:kvs.length≤50000):
  AL H b (.ref p) d (hZ kvs kk d) (ia H b kvs kk d):=by
 unfold hZ ia
 have g:=fz.t hb hp
 cases e:bX kvs kk with
 | some v=>rw [e] at g;exact .inl ⟨g,if_pos rfl⟩
 | none=>rw [e] at g;exact .inr ⟨g,.inr ⟨kvs,kk,p,hb,rfl,hp,Nat.lt_of_le_of_lt hl (aB (n:=50001) (by decide)),if_neg (by decide)⟩,rfl⟩
theorem EB (T:Txt K mg A) (a0 b0 b1:V) (H:Hp) (Q:VK) (E:XK) (h:sC K A [a0,b0,b1] H Q E):AH K A { nx:=fun _ H'=>Q .non H',rt:=Q } (dF ["_law_term", "_law_known", "_law_first"] [a0] [b0,b1]) H:=by
 obtain ⟨p,b,j,k,kvs,e,hp,hb,hl,q⟩:=h
 cases e
 exact ⟨.inr (.inr (.inl ⟨rfl,.inr ⟨_,hb⟩⟩)),.inr ⟨b,kvs,rfl,hb,IntMulOk.of_left (by decide),b,.ref p,_,_,_,rfl,rfl,BX hb hp hl,q⟩⟩
theorem uw {z:Str} (h:cb z=true) (l u:Option Int):cb (PySem.Txt.slice z l u)=true:=by
 refine pP fun c hc=>?_
 unfold PySem.Txt.slice at hc
 split at hc
 · exact pG h c hc
 · simp only [List.toList_toArray,List.mem_filterMap] at hc
   obtain ⟨i,_,e⟩:=hc
   exact pG h c (by rw [← Array.getElem?_toList] at e;exact List.mem_of_getElem? e)
theorem FH (T : Txt K mg A) (a0 b0 : V) (H : Hp) (Q : VK) (E : XK) (h : sq K A [a0, b0] H Q E) : Cu K A { nx := fun _ H' => Q .non H', rt := Q } (dF ["_law_term", "_law_total", "_law_part", "_law_signs", "_law_many"] [a0] [b0]) H := by
  obtain ⟨p, m, k, e, h1, h2, hp, ok, q⟩ := h
  cases e
  refine ⟨p, rfl, .inr ⟨⟨_, SqT.of hp⟩, ?_⟩⟩
  refine qp (xs := k.map kV) (fun i σ H' => ax H H' ∧ ∃ x2 x3, σ = [some (.ref p), some (.int ((k.take i).foldl gp 0)), x2, x3, some (.int m)]) ⟨.refl H, none, none, rfl⟩ ?_ ?_ ?_
  · rintro i σ H' _ ⟨S, _⟩; exact SqT.of (S _ _ hp)
  · rintro i x σ H' hx ⟨S, x2, x3, rfl⟩
    obtain ⟨kk, hk, rfl⟩ := gQ hx
    have okk : okP kk = true := lG ok (List.mem_of_getElem? hk)
    have st := tI gp 0 k i kk hk
    cases kk with
    | inl n =>
      refine ⟨by decide, "int", rfl, Sel.no rfl ⟨IntMulOk.of_right (by decide), S, some (.int n), x3, ?_⟩⟩
      rw [st]; rfl
    | inr z =>
      obtain ⟨hz, hl⟩ := Bool.and_eq_true_iff.mp okk
      have hl := of_decide_eq_true hl
      refine ⟨by decide, "str", rfl, Sel.yes rfl ⟨2, rfl, .inr ⟨z, rfl, aB (by omega), uw hz _ _, fun D hD => ?_⟩⟩⟩
      have hl2 := PySem.Txt.slice_le z none (some 2)
      rw [st]
      show sj _ _ _ _ _ _ _ _
      have est : gp ((k.take i).foldl gp 0) (.inr z) = (k.take i).foldl gp 0 * 7 + z.length + 2 * ((PySem.Txt.slice z none (some 2)).cps.toList.map fun c => ((c : Nat) : Int)).sum := rfl
      rw [est]
      generalize PySem.Txt.slice z none (some 2) = y at hl2 ⊢
      refine lI (dU.str y) (fun j ys H2 => ys = (y.cps.toList.take j).map (fun c => V.int ((c : Nat) : Int)) ∧ H2 = upd H' D (.lst ys)) (fun _ _ _ _ _ => trivial) ⟨rfl, rfl⟩ (fun j ys H2 hj ⟨e1, e2⟩ => ?_) (fun ys H2 ⟨e1, e2⟩ => ?_)
      · subst e2
        have hj' : j < y.cps.toList.length := by rw [Array.length_toList]; exact hj
        refine vt ⟨rfl, ?_⟩
        have hyl : ys.length = j := by rw [e1, List.length_map, List.length_take]; omega
        refine ⟨ap, by rw [hyl]; exact Nat.lt_of_lt_of_le (by omega) (aB (n := 1000000) (by decide)), CWd.next hj ⟨?_, jq⟩⟩
        rw [e1, List.take_add_one, List.map_append, List.getElem?_eq_getElem hj']
        congr 1
        simp [Array.getD_eq_getD_getElem?, show j < y.cps.size from hj]
      · subst e2
        have ee : y.cps.toList.take y.length = y.cps.toList := List.take_of_length_le (by simp [Str.length])
        rw [ee] at e1
        refine ⟨IntMulOk.of_right (by decide), .inl ⟨aB (by omega), D, y.cps.toList.map (fun c => ((c : Nat) : Int)), rfl, SqL.of (by rw [ap, e1, List.map_map]; rfl), IntMulOk.of_left (by decide), S.trans (ax.upd hD), some (.str z), some (.ref D), rfl⟩⟩
  · rintro σ H' ⟨S, x2, x3, rfl⟩
    have e : k.take (k.map kV).length = k := List.take_of_length_le (by simp)
    rw [e]
    exact ⟨by omega, q _ S⟩
theorem bA.trans {P:Addr} {H H1 H2:Hp} (a:bA P H H1) (b:bA P H1 H2):bA P H H2:=fun x o e n=>b x o (a x o e n) n
theorem bA.new {P p:Addr} {H:Hp} {o:HO} (h:H p=none):bA P H (upd H p o):=fun b u e _=>by rw [au (aD e h)];exact e
theorem bA.tab {P:Addr} {H:Hp} {o:HO}:bA P H (upd H P o):=fun b u e n=>by rw [au n];exact e
theorem bY {H:Hp} {P q:Addr} {o:HO} (hP:H P=some o) (hq:H q=none):q≠P:=fun e=>by rw [e,hP] at hq;cases hq
theorem il {H:Hp} {p q:Addr} {o:HO} (h:upd H p o q=none):q≠p∧H q=none:=by
 by_cases e:q=p
 · subst e;rw [ap] at h;cases h
 · rw [au e] at h;exact ⟨e,h⟩
theorem yK {H:Hp} {P c f q:Addr} {o1 o2:HO} {t:cN} {v:V} (hP:H P=some o1) (hc:H c=none) (hf:H f=none) (hne:c≠f) (hq:upd (upd (upd H P o2) c (cD c t.qual)) f (dc f t [q] c) q=none):
  bA P H (upd (upd (upd (upd H P o2) c (cD c t.qual)) f (dc f t [q] c)) q (ck q v))∧dB (upd (upd (upd (upd H P o2) c (cD c t.qual)) f (dc f t [q] c)) q (ck q v)) f t [q] [v]:=by
 have c1:upd H P o2 c=none:=by rw [au (bY hP hc)];exact hc
 have f1:upd (upd H P o2) c (cD c t.qual) f=none:=by rw [au (Ne.symm hne),au (bY hP hf)];exact hf
 have S3:=bA.new (P:=P) (o:=ck q v) hq
 have S2:=(bA.new (P:=P) (o:=dc f t [q] c) f1).trans S3
 have S1:=(bA.new (P:=P) (o:=cD c t.qual) c1).trans S2
 exact ⟨bA.tab.trans S1,⟨⟨c,S3 _ _ ap (bY hP hf),S2 _ _ ap (bY hP hc)⟩,.cons ap .nil⟩⟩
theorem DD {H:Hp} {P c f q0 q1:Addr} {o1 o2:HO} {t:cN} {v0 v1:V} (hP:H P=some o1) (hc:H c=none) (hf:H f=none) (hne:c≠f) (n01:q0≠q1) (h0:upd (upd (upd H P o2) c (cD c t.qual)) f (dc f t [q1,q0] c) q0=none) (h1:upd (upd (upd H P o2) c (cD c t.qual)) f (dc f t [q1,q0] c) q1=none):
  bA P H (upd (upd (upd (upd (upd H P o2) c (cD c t.qual)) f (dc f t [q1,q0] c)) q0 (ck q0 v0)) q1 (ck q1 v1))∧dB (upd (upd (upd (upd (upd H P o2) c (cD c t.qual)) f (dc f t [q1,q0] c)) q0 (ck q0 v0)) q1 (ck q1 v1)) f t [q1,q0] [v1,v0]:=by
 have c1:upd H P o2 c=none:=by rw [au (bY hP hc)];exact hc
 have f1:upd (upd H P o2) c (cD c t.qual) f=none:=by rw [au (Ne.symm hne),au (bY hP hf)];exact hf
 have h1':upd (upd (upd (upd H P o2) c (cD c t.qual)) f (dc f t [q1,q0] c)) q0 (ck q0 v0) q1=none:=by rw [au (Ne.symm n01)];exact h1
 have S4:=bA.new (P:=P) (o:=ck q1 v1) h1'
 have S3:=(bA.new (P:=P) (o:=ck q0 v0) h0).trans S4
 have S2:=(bA.new (P:=P) (o:=dc f t [q1,q0] c) f1).trans S3
 have S1:=(bA.new (P:=P) (o:=cD c t.qual) c1).trans S2
 exact ⟨bA.tab.trans S1,⟨⟨c,S3 _ _ ap (bY hP hf),S2 _ _ ap (bY hP hc)⟩,.cons ap (.cons (by rw [au n01];exact ap) .nil)⟩⟩
theorem oR:ft []:=fun p hp=>nomatch hp
theorem Cb (K:W.Frag) (A:Adr):Ln (lc K A) 0:=by rintro vs H Q E ⟨rfl,_⟩;rfl
theorem EW (T:Txt K mg A) (hnd:([]:List Addr).Nodup) (vs:List V) (H:Hp) (Q:VK) (E:XK) (h:lc K A vs H Q E):Ba K A { nx:=fun σ H'=>(∀ p∈([]:List (Nat×Addr)),H' p.2=none)→Q .non (cz [] σ H'),rt:=fun σ v H'=>(∀ p∈([]:List (Nat×Addr)),H' p.2=none)→Q v (cz [] σ H') } (L2.bU [] vs) H:=by
 obtain ⟨rfl,hP,q⟩:=h
 refine ⟨#[],hP,trivial,.inl ⟨rfl,fun c f hc hf hne _=>?_⟩⟩
 have cP:=bY hP hc
 have fP:=bY hP hf
 have c1:∀ o,upd H A.t_60 o c=none:=fun o=>by rw [au cP];exact hc
 have f1:∀ o,upd (upd H A.t_60 o) c (cD c fh.qual) f=none:=fun o=>by rw [au (Ne.symm hne),au fP];exact hf
 exact q f f _ _ (bA.tab.trans ((bA.new (c1 _)).trans (bA.new (f1 _)))) (.wri ⟨⟨c,ap,(au hne).trans ap⟩,.nil⟩ rfl rfl) hf
theorem Bq (K:W.Frag) (A:Adr):Ln (ku K A) 0:=by rintro vs H Q E ⟨rfl,_⟩;rfl
theorem Df (T:Txt K mg A) (q0:Addr) (hnd:([q0]:List Addr).Nodup) (vs:List V) (H:Hp) (Q:VK) (E:XK) (h:ku K A vs H Q E):Ck K A q0 { nx:=fun σ H'=>(∀ p∈([(0,q0)]:List (Nat×Addr)),H' p.2=none)→Q .non (cz [(0,q0)] σ H'),rt:=fun σ v H'=>(∀ p∈([(0,q0)]:List (Nat×Addr)),H' p.2=none)→Q v (cz [(0,q0)] σ H') } (L2.bU ["numbers"] vs) H:=by
 obtain ⟨rfl,hP,q⟩:=h
 intro x dx hx hdx hne
 refine ⟨x,dx,rfl,ap,fun d hd=>⟨rfl,?_⟩⟩
 obtain ⟨dnx,hd1⟩:=il hd
 obtain ⟨dndx,hd0⟩:=il hd1
 have xP:=bY hP hx
 have dxP:=bY hP hdx
 have dP:=bY hP hd0
 generalize e2:upd (upd (upd (upd H dx (.own x)) x (.ins A.c_Numbers dx [])) d (.dT [])) x (.ins A.c_Numbers dx [("given",.ref d)])=H2
 have S2:bA A.t_37 H H2:=by
  intro b o e n
  have b1:=aD e hx
  have b2:=aD e hdx
  have b3:=aD e hd0
  rw [← e2,au b1,au b3,au b1,au b2];exact e
 have hP2:H2 A.t_37=some (.tbl #[]):=by rw [← e2,au (Ne.symm xP),au (Ne.symm dP),au (Ne.symm xP),au (Ne.symm dxP)];exact hP
 have hx2:H2 x=some (.ins A.c_Numbers dx [("given",.ref d)]):=by rw [← e2,ap]
 have hd2:H2 d=some (.dT []):=by rw [← e2,au dnx,ap]
 refine ⟨#[],hP2,trivial,.inl ⟨rfl,fun c f hc hf hne hq=>?_⟩⟩
 obtain ⟨k,ca⟩:=yK (v:=.ref x) hP2 hc hf hne (hq _ (List.mem_singleton.mpr rfl))
 exact q f d _ _ (S2.trans k) (.cnt q0 x [] ca ⟨⟨dx,k _ _ hx2 xP⟩,k _ _ hd2 dP⟩ (Nat.zero_le _) oR rfl) hd0
theorem Ce (K:W.Frag) (A:Adr):Ln (la K A) 1:=by rintro vs H Q E ⟨m,rfl,_⟩;rfl
theorem Ff (T:Txt K mg A) (q0:Addr) (hnd:([q0]:List Addr).Nodup) (vs:List V) (H:Hp) (Q:VK) (E:XK) (h:la K A vs H Q E):CA K A q0 { nx:=fun σ H'=>(∀ p∈([(0,q0)]:List (Nat×Addr)),H' p.2=none)→Q .non (cz [(0,q0)] σ H'),rt:=fun σ v H'=>(∀ p∈([(0,q0)]:List (Nat×Addr)),H' p.2=none)→Q v (cz [(0,q0)] σ H') } (L2.bU ["_law_many", "_law_short"] vs) H:=by
 obtain ⟨m,rfl,m1,m2,hP,q⟩:=h
 refine ⟨#[],hP,trivial,.inl ⟨rfl,fun c f hc hf hne hq=>?_⟩⟩
 obtain ⟨k,ca⟩:=yK (v:=.int m) hP hc hf hne (hq _ (List.mem_singleton.mpr rfl))
 exact q f f _ _ k (.wea q0 m m1 m2 ca rfl rfl) hf
theorem AQ (K:W.Frag) (A:Adr):Ln (kO K A) 1:=by rintro vs H Q E ⟨j,rfl,_⟩;rfl
theorem FF (T:Txt K mg A) (q0 q1:Addr) (hnd:([q0,q1]:List Addr).Nodup) (vs:List V) (H:Hp) (Q:VK) (E:XK) (h:kO K A vs H Q E):CJ K A q0 q1 { nx:=fun σ H'=>(∀ p∈([(0,q0),(1,q1)]:List (Nat×Addr)),H' p.2=none)→Q .non (cz [(0,q0),(1,q1)] σ H'),rt:=fun σ v H'=>(∀ p∈([(0,q0),(1,q1)]:List (Nat×Addr)),H' p.2=none)→Q v (cz [(0,q0),(1,q1)] σ H') } (L2.bU ["_law_first", "_law_known", "_law_number"] vs) H:=by
 obtain ⟨j,rfl,j0,j1,hP,q⟩:=h
 have n01:q0≠q1:=fun e=>by simp [e] at hnd
 refine .inr fun b hb=>?_
 have bP:b≠A.t_27:=bY hP hb
 have hP1:upd H b (.dT []) A.t_27=some (.tbl #[]):=by rw [au (Ne.symm bP)];exact hP
 have S1:bA A.t_27 H (upd H b (.dT [])):=bA.new hb
 refine ⟨#[],hP1,trivial,.inl ⟨rfl,fun c f hc hf hne hq=>?_⟩⟩
 obtain ⟨k,ca⟩:=DD (v0:=.int j) (v1:=.ref b) hP1 hc hf hne n01 (hq (0,q0) (by simp)) (hq (1,q1) (by simp))
 exact q f b _ _ (S1.trans k) (.sur q0 q1 j j0 j1 [] ca (k _ _ ap bP) (Nat.zero_le _) oR rfl) hb
end Rs
namespace Rs
open PySem PySem.Spec PyProof.Rows L2
variable {K:W.Frag} {mg:Str→Option Value} {A:Adr}
theorem Sub.rfl' {g:List Key→Option Key}:Sub g g:=fun _ _ e=>e
theorem Sub.trans {g g1 g2:List Key→Option Key} (a:Sub g g1) (b:Sub g1 g2):Sub g g2:=fun k v e=>b k v (a k v e)
theorem Ext.of {g g':List Key→Option Key} {h:List Key→Key} (s:Sub g g') (e:Ext g' h):Ext g h:=fun k v z=>e k v (s k v z)
theorem qF (kvs:List (List Key×Key)) (k:List Key):bX (cO kvs) k=(dj kvs k).map kV:=by
 unfold bX cO dj
 rw [List.find?_map]
 simp only [Option.map_map]
 congr 1
theorem tW {kvs:List (List Key×Key)} {k:List Key} {v:Key} {x:List Key×Key} (h:dj kvs k=some v):dj (kvs++[x]) k=some v:=by
 unfold dj at h ⊢
 rw [List.find?_append]
 cases e:kvs.find? fun p=>decide (p.1=k) with
 | none=>rw [e] at h;cases h
 | some y=>rw [e] at h;exact h
theorem wN {kvs:List (List Key×Key)} {k:List Key} {d:Key} (h:dj kvs k=none):dj (kvs++[(k,d)]) k=some d:=by
 unfold dj at h ⊢
 rw [List.find?_append]
 cases e:kvs.find? fun p=>decide (p.1=k) with
 | none=>simp
 | some y=>rw [e] at h;cases h
theorem vo {kvs:List (List Key×Key)} {k:List Key} {v:Key} (h:dj kvs k=some v):bX (cO kvs) k=some (kV v):=by rw [qF,h];rfl
theorem wV {kvs : List (List Key × Key)} {k : List Key} {v : Key} (hs : ft kvs) (h : dj kvs k = some v) : gL v := by
  unfold dj at h
  cases e : kvs.find? fun p => decide (p.1 = k) with
  | none => rw [e] at h; cases h
  | some y =>
    rw [e] at h
    cases h
    exact hs y (List.mem_of_find?_eq_some e)
theorem qg {kvs:List (List Key×Key)} {x:List Key×Key} (h:ft kvs) (hx:gL x.2):ft (kvs++[x]):=fun p hp=>by
 rcases List.mem_append.mp hp with z | z
 · exact h p z
 · rw [List.mem_singleton.mp z];exact hx
theorem ki {k : List Key} {v : Key} (hk : 1 ≤ k.length) (h : gL v) : oH k v := by
  cases v with
  | inl i => exact h
  | inr z =>
    refine ⟨h.1, Nat.le_trans h.2 ?_⟩
    cases k with
    | nil => simp at hk
    | cons x r =>
      show 62 ≤ ((x :: r).map szK).sum
      rw [List.map_cons, List.sum_cons]
      have : 62 ≤ szK x := by cases x with
        | inl i => exact Nat.le_refl 62
        | inr z => show 62 ≤ z.length + 62; omega
      omega
theorem pb {H : Hp} {b : Addr} {cs : List Addr} {cvs : List V} {kvs : List (List Key × Key)} (kk : List Key) (d : Key) (hs : ft kvs) (hd : gL d) (hb : H b = some (.dT (cO kvs))) (hc : cn H cs cvs) (H1 : Hp) (S : ax (cC cs H) H1) :
    ∃ (kvs' : List (List Key × Key)) (v : Key) (H' : Hp), hZ (cO kvs) kk (kV d) = kV v ∧ cm cs H (ia H1 b (cO kvs) kk (kV d)) = H' ∧ H' b = some (.dT (cO kvs')) ∧ (∀ x o, x ≠ b → H x = some o → H' x = some o) ∧ kvs'.length ≤ kvs.length + 1 ∧ ft kvs' ∧ dj kvs' kk = some v ∧ gL v ∧ ∀ k v, dj kvs k = some v → dj kvs' k = some v := by
  have hbc : b ∉ cs := hc.notin hb fun _ z => nomatch z
  have S2 := ax.hide cs S
  cases e : dj kvs kk with
  | some v =>
    have ev := vo e
    refine ⟨kvs, v, cm cs H H1, by unfold hZ; rw [ev]; rfl, ?_, S2 _ _ hb, fun _ _ _ h => S2 _ _ h, Nat.le_succ _, hs, e, wV hs e, fun _ _ h => h⟩
    unfold ia; rw [ev]; rfl
  | none =>
    have ev : bX (cO kvs) kk = none := by rw [qF, e]; rfl
    refine ⟨kvs ++ [(kk, d)], d, upd (cm cs H H1) b (.dT (cO (kvs ++ [(kk, d)]))), by unfold hZ; rw [ev]; rfl, ?_, ap, fun x o n h => by rw [au n]; exact S2 _ _ h, by simp, qg hs hd, wN e, hd, fun _ _ h => tW h⟩
    unfold ia; rw [ev, if_neg (by decide), uI hbc, xA _ ev]
    unfold cO; rw [List.map_append]; rfl
theorem m0 {x:cN×Sp} {l:List (cN×Sp)}:x∈x::l:=List.mem_cons_self
theorem mS {x y:cN×Sp} {l:List (cN×Sp)} (h:x∈l):x∈y::l:=List.mem_cons_of_mem _ h
theorem bd.rfl' {b:Addr} {H:Hp}:bd b H H:=fun _ _ _ e=>e
theorem bd.trans {b:Addr} {H H1 H2:Hp} (a:bd b H H1) (c:bd b H1 H2):bd b H H2:=fun x o n e=>c x o n (a x o n e)
theorem bd.same {b:Addr} {H H':Hp} (S:ax H H'):bd b H H':=fun x o _ e=>S x o e
theorem Stp.clo {H:Hp} {f b:Addr} {g:List Key→Option Key} {n:Nat} (s:Stp A H f b g n):∃ ts∈gi K A,∃ cs cvs,dB H f ts.1 cs cvs:=by
 cases s with
 | wri hc _ _=>exact ⟨_,m0,_,_,hc⟩
 | cnt _ _ _ hc=>exact ⟨_,mS m0,_,_,hc⟩
 | sur _ _ _ _ _ _ hc=>exact ⟨_,mS (mS m0),_,_,hc⟩
 | wea _ _ _ _ hc _ _=>exact ⟨_,mS (mS (mS m0)),_,_,hc⟩
def stO (b z:Addr) (o:HO):Prop:=(∃ φ,o=.ext φ)∨(z=b∧∃ kvs,o=.dT kvs)∨∃ C dx v,o=HO.ins C dx [(("given" :Str),v)]
theorem Stp.keep {H H' : Hp} {f b : Addr} {g : List Key → Option Key} {n m : Nat} (s : Stp A H f b g n) (hn : n ≤ m) (k : ∀ z o, H z = some o → stO b z o → H' z = some o) : Stp A H' f b g m := by
  have kx : ∀ z φ, H z = some (.ext φ) → H' z = some (.ext φ) := fun z φ e => k z _ e (.inl ⟨_, rfl⟩)
  have kd : ∀ xs, H b = some (.dT xs) → H' b = some (.dT xs) := fun φ e => k b _ e (.inr (.inl ⟨rfl, _, rfl⟩))
  cases s with
  | wri hc hb hg => exact .wri (hc.keep kx) hb hg
  | cnt q x kvs hc num hl hs hg =>
    obtain ⟨⟨dx, h1⟩, h2⟩ := num
    exact .cnt q x kvs (hc.keep kx) ⟨⟨dx, k _ _ h1 (.inr (.inr ⟨_, _, _, rfl⟩))⟩, kd _ h2⟩ (Nat.le_trans hl hn) hs hg
  | sur q0 q1 j j0 j1 kvs hc hb hl hs hg => exact .sur q0 q1 j j0 j1 kvs (hc.keep kx) (kd _ hb) (Nat.le_trans hl hn) hs hg
  | wea q m h1 h2 hc hb hg => exact .wea q m h1 h2 (hc.keep kx) hb hg
theorem Stp.put {H:Hp} {f b x:Addr} {g:List Key→Option Key} {n m:Nat} {C dx:Addr} {fs:List (Str×V)} {o:HO} (s:Stp A H f b g n) (hn:n≤m) (e:H x=some (.ins C dx fs)) (h:∀ v,fs≠[(("given" :Str),v)]):Stp A (upd H x o) f b g m:=s.keep hn fun z u ez hz=>by
 rw [au (dD ez e fun q=>?_)]
 · exact ez
 · subst q
   rcases hz with ⟨_,q⟩ | ⟨_,_,q⟩ | ⟨_,_,v,q⟩
   · cases q
   · cases q
   · injection q with _ _ q;exact h v q
theorem Stp.same {H H':Hp} {f b:Addr} {g:List Key→Option Key} {n m:Nat} (s:Stp A H f b g n) (hn:n≤m) (S:ax H H'):Stp A H' f b g m:=s.keep hn fun z o e _=>S z o e
theorem Stp.nb {H:Hp} {f b z:Addr} {g:List Key→Option Key} {n:Nat} {o:HO} (s:Stp A H f b g n) (e:H z=some o) (h:∀ kvs,o≠ .dT kvs) (h2:∀ φ,o≠ .ext φ:=by exact fun _ z=>nomatch z):z≠b:=fun q=>by
 subst q
 cases s with
 | wri hc hb hg=>subst hb;obtain ⟨⟨c,h,_⟩,_⟩:=hc;rw [e] at h;exact h2 _ (Option.some.inj h)
 | cnt q x kvs hc num hl hs hg=>have w:=num.di;rw [e] at w;exact h _ (Option.some.inj w)
 | sur q0 q1 j j0 j1 kvs hc hb hl hs hg=>rw [e] at hb;exact h _ (Option.some.inj hb)
 | wea q m h1 h2' hc hb hg=>subst hb;obtain ⟨⟨c,h,_⟩,_⟩:=hc;rw [e] at h;exact h2 _ (Option.some.inj h)
theorem Stp.tup {H H':Hp} {f b:Addr} {g:List Key→Option Key} {n:Nat} (s:Stp A H f b g n) (k:bd b H H'):∀ x xs,H x=some (.tup xs)→H' x=some (.tup xs):=fun x xs e=>k x _ (s.nb e fun _ z=>nomatch z) e
theorem Stp.lst {H H':Hp} {f b:Addr} {g:List Key→Option Key} {n:Nat} (s:Stp A H f b g n) (k:bd b H H'):∀ x xs,H x=some (.lst xs)→H' x=some (.lst xs):=fun x xs e=>k x _ (s.nb e fun _ z=>nomatch z) e
theorem fS {H : Hp} {f b p : Addr} {g : List Key → Option Key} {n : Nat} {k : List Key} {R : VK} (s : Stp A H f b g n) (hn : n ≤ 45000) (hp : H p = some (.tup (k.map kV))) (ok : okT k = true)
    (q : ∀ (v : Key) (H' : Hp) (g' : List Key → Option Key), bd b H H' → Stp A H' f b g' (n + 1) → Sub g g' → g' k = some v → oH k v → R (kV v) H') : yo (gi K A) f [.ref p] H R E0 := by
  have s0 := s
  have hk := (gF ok).1
  have ll : ∀ kvs : List (List Key × Key), (cO kvs).length = kvs.length := fun kvs => by simp [cO]
  cases s with
  | wri hc hb hg =>
    refine ⟨_, m0, _, _, hc, rfl, p, k, rfl, hc.cells.hide hp (fun _ z => nomatch z), ok, fun H' S => ?_⟩
    have S := ax.hide _ S
    exact q (.inr (fE k)) _ g (bd.same S) (s0.same (Nat.le_succ _) S) Sub.rfl' (by rw [hg]) ⟨mL (eY ok), mK (eY ok)⟩
  | wea c m h1 h2 hc hb hg =>
    refine ⟨_, mS (mS (mS m0)), _, _, hc, rfl, p, m, k, rfl, h1, h2, hc.cells.hide hp (fun _ z => nomatch z), ok, fun H' S => ?_⟩
    have S := ax.hide _ S
    have r0 := Int.emod_nonneg (k.foldl gp 0) (b := m) (by omega)
    have r1 := Int.emod_lt_of_pos (k.foldl gp 0) (b := m) (by omega)
    have p60 : (9 : Int) < 10 ^ 60 := by decide +kernel
    exact q (rE m k) _ g (bd.same S) (s0.same (Nat.le_succ _) S) Sub.rfl' (by rw [hg]) (show 0 ≤ _ ∧ _ < _ from ⟨r0, by omega⟩)
  | cnt c x kvs hc num hl hs hg =>
    have p60 : (50000 : Int) < 10 ^ 60 := by decide +kernel
    refine ⟨_, mS m0, _, _, hc, rfl, x, b, p, cO kvs, k, rfl, num.hide hc.cells, by rw [ll]; omega, hc.cells.hide hp (fun _ z => nomatch z), ok, fun H' S => ?_⟩
    obtain ⟨dx, hx⟩ := num.ob
    obtain ⟨kvs', v, H2, ev, eH, hb', keep, hl', hs', gv, sv, sub⟩ := pb k (.inl ((cO kvs).length : Int)) hs (show 0 ≤ _ ∧ _ < _ from ⟨by omega, by rw [ll]; omega⟩) num.di hc.cells H' S
    rw [show V.int ((cO kvs).length : Int) = kV (.inl ((cO kvs).length : Int)) from rfl, ev, eH]
    refine q v H2 (dj kvs') (fun x o n e => keep x o n e)
      (.cnt c x kvs' (hc.keep fun x φ e => keep x _ (dD e num.di (fun z => nomatch z)) e) ⟨⟨dx, keep _ _ (dD hx num.di (fun z => nomatch z)) hx⟩, hb'⟩ (by omega) hs' rfl) ?_ gv (ki hk sv)
    rw [hg]; exact sub
  | sur q0 q1 j j0 j1 kvs hc hb hl hs hg =>
    have p60 : (200000 : Int) < 10 ^ 60 := by decide +kernel
    obtain ⟨kvs', v, H2, ev, eH, hb', keep, hl', hs', gv, sv, sub⟩ := pb k (.inl (3 * ((cO kvs).length : Int) + j)) hs (show 0 ≤ _ ∧ _ < _ from ⟨by omega, by rw [ll]; omega⟩) hb hc.cells _ (.refl _)
    refine ⟨_, mS (mS m0), _, _, hc, rfl, p, b, j, k, cO kvs, rfl, hc.cells.hide hp (fun _ z => nomatch z), hc.cells.hide hb (fun _ z => nomatch z), by rw [ll]; omega, ?_⟩
    dsimp only
    rw [show V.int (3 * ((cO kvs).length : Int) + j) = kV (.inl (3 * ((cO kvs).length : Int) + j)) from rfl, ev, eH]
    refine q v H2 (dj kvs') (fun x o n e => keep x o n e)
      (.sur q0 q1 j j0 j1 kvs' (hc.keep fun x φ e => keep x _ (dD e hb (fun z => nomatch z)) e) hb' (by omega) hs' rfl) ?_ gv (ki hk sv)
    rw [hg]; exact sub
end Rs
namespace Rs
open PySem PySem.Spec PyProof.Rows L2
variable {K:W.Frag} {mg:Str→Option Value} {A:Adr}
mutual
def GW:Dat→Bool
 | .lst _=>false
 | .tup ds=>tupDs ds
 | .non=>true
 | .bl _=>true
 | .int _=>true
 | .str _=>true
 | .dic=>false
def tupDs:List Dat→Bool
 | []=>true
 | d::r=>GW d&&tupDs r
end
theorem oq {b l:Int} {d:Dat} (hl:0≤l) (h:bq b 0 d=false):bq b l d=false:=by
 unfold bq at h ⊢
 split at h
 · rename_i i m
   rw [Bool.and_eq_false_iff] at h ⊢
   rcases h with h | h
   · left
     have h:=of_decide_eq_false h
     exact decide_eq_false (by omega)
   · exact .inr h
 · rfl
theorem qE {b l:Int} {s:Dat} (hl:0≤l) (h:bq b l s=true):l≤db s∧db s<b:=by
 obtain ⟨i,m,rfl⟩:=fZ h
 have h:(decide (l≤i∧i<b)&&bu m)=true:=h
 rw [Bool.and_eq_true,decide_eq_true_eq] at h
 exact h.1
theorem gf {b : Int} {d : Dat} (h : bq b 0 d = false) : ∀ {ds : List Dat} {l : Int} {j : Nat}, 0 ≤ l → ds[j]? = some d → aU b l ds = false
  | [], l, j, _, e => by cases e
  | s :: r, l, j, hl, e => by
    show (bq b l s && aU b (db s + 1) r) = false
    cases hs : bq b l s with
    | false => rfl
    | true =>
      have := qE hl hs
      cases j with
      | zero =>
        have e : s = d := Option.some.inj e
        rw [e, oq hl h] at hs; cases hs
      | succ j =>
        have e : r[j]? = some d := e
        rw [gf h (by omega) e]; rfl
theorem gh {b : Int} : ∀ {ds : List Dat} {l : Int}, 0 ≤ l → l ≤ b → aU b l ds = true → (ds.length : Int) ≤ b - l
  | [], l, _, h, _ => by simp; omega
  | s :: r, l, hl, hb, h => by
    have h : (bq b l s && aU b (db s + 1) r) = true := h
    rw [Bool.and_eq_true] at h
    have := qE hl h.1
    have := gh (by omega) (by omega) h.2
    rw [List.length_cons]; omega
theorem qY {x:Key} (h:okP x=true):okD (bi x)=true∧bu (bi x)=true:=by
 cases x with
 | inl i=>exact ⟨rfl,h⟩
 | inr z=>exact ⟨h,rfl⟩
theorem mt : ∀ {e : List Key}, e.all okP = true → okDs (e.map bi) = true
  | [], _ => rfl
  | x :: r, h => by
    rw [List.all_cons, Bool.and_eq_true] at h
    show (okD (bi x) && okDs (r.map bi)) = true
    rw [(qY h.1).1, mt h.2]; rfl
theorem qo : ∀ e : List Key, PyData.depthAll (toPys (e.map bi)) = 0
  | [] => rfl
  | x :: r => by
    show max (df (bi x)).depth (PyData.depthAll (toPys (r.map bi))) = 0
    rw [lL, qo r]; rfl
theorem fA.step {b k:Int} {st:List (Int×Key)} {e:List Key} (g:fA b k st e) {i:Nat} {s:Int×Key} (h:st[i]?=some s):0≤s.1∧s.1<b∧okP s.2=true:=by
 have hi:(st.map stD)[i]?=some (stD s):=by rw [List.getElem?_map,h];rfl
 have hs:bq b 0 (stD s)=true:=by
  cases hh:bq b 0 (stD s) with
  | true=>rfl
  | false=>have:=gf hh (Int.le_refl 0) hi;rw [g.gs] at this;cases this
 have hs:(decide (0≤s.1∧s.1<b)&&bu (bi s.2))=true:=hs
 rw [Bool.and_eq_true,decide_eq_true_eq] at hs
 exact ⟨hs.1.1,hs.1.2,g.so s (List.mem_of_getElem? h)⟩
theorem fA.len {b k:Int} {st:List (Int×Key)} {e:List Key} (g:fA b k st e):st.length≤60:=by
 have h1:=gh (Int.le_refl 0) (by have:=g.b1;omega) g.gs
 have h2:=g.b60
 have h3:((st.map stD).length:Int)=st.length:=by simp
 omega
theorem ue {b k d:Int} (d0:0≤d) (hd:d≤b) (hb:b≤60) (k0:0≤k) (k1:k<2^b.toNat):0≤aJ b k d∧aJ b k d<10^60:=by
 refine ⟨lW k0,?_⟩
 have h1:=mH d0 hd k1
 have h2:=jl (k:=d.toNat) (by omega)
 have q60:(2:Int)^60<10^60:=by decide +kernel
 omega
theorem xl {b : Int} {ds : List Dat} (b1 : 1 ≤ b) (h : aU b 0 ds = true) : 0 ≤ bK 0 ds ∧ bK 0 ds ≤ b := by
  unfold bK
  cases e : ds.getLast? with
  | none => exact ⟨Int.le_refl 0, by show (0 : Int) ≤ b; omega⟩
  | some s =>
    obtain ⟨i, m, rfl, i0, i1⟩ := eh (Int.le_refl 0) h e
    exact ⟨by show 0 ≤ i + 1; omega, by show i + 1 ≤ b; omega⟩
theorem lB {k:List Key} {v:Key} (h:oH k v) (hk:szT k≤100000):okP v=true∧szK v≤szT k+62:=by
 cases v with
 | inl i=>exact ⟨decide_eq_true h,by show 62≤_;omega⟩
 | inr z=>exact ⟨by show (cb z&&decide (z.length≤100000))=true;rw [h.1,decide_eq_true (Nat.le_trans h.2 hk)];rfl,by show z.length+62≤_;have:=h.2;omega⟩
theorem xa {b k d:Int} {m s:Key} (hd:okP (.inl d)=true) (hb:okP (.inl (aJ b k d))=true) (hm:okP m=true) (hs:okP s=true):okT (cG b k d m s)=true∧szT (cG b k d m s)=190+szK m+szK s:=by
 unfold cG
 split
 · refine ⟨vM jn.1 hd hb hs hm rfl,?_⟩
   show ([szK (.inr "fork"),62,62,szK s,szK m]:List Nat).sum=_
   rw [jy.1];simp;omega
 · refine ⟨vM jn.1 hd hb hm hs rfl,?_⟩
   show ([szK (.inr "fork"),62,62,szK m,szK s]:List Nat).sum=_
   rw [jy.1];simp;omega
def su (g:List Key→Option Key):List Key→Key:=fun k=>(g k).getD (.inl 0)
theorem cS (g:List Key→Option Key):Ext g (su g):=fun k v e=>by unfold su;rw [e];rfl
theorem chain_last (h : List Key → Key) (b k : Int) : ∀ (r : List (Int × Key)) (e : List Key), ∃ pre, dJ h b k e r = pre ++ [eN h b k e r]
  | [], e => ⟨[], rfl⟩
  | s :: r, e => by
    obtain ⟨pre, hp⟩ := chain_last h b k r (cG b k s.1 s.2 (h e))
    exact ⟨e :: pre, by show e :: dJ h b k _ r = _; rw [hp]; rfl⟩
theorem gA {g:List Key→Option Key} {b k:Int} {e:List Key} {r:List (Int×Key)} {ts:List (List Key)} (h:∀ f,Ext g f→ts=dJ f b k e r):∃ pre cur,ts=pre++[cur]∧∀ f,Ext g f→eN f b k e r=cur:=by
 obtain ⟨pre,hp⟩:=chain_last (su g) b k r e
 have h0:=h _ (cS g)
 refine ⟨pre,eN (su g) b k e r,by rw [h0,hp],fun f hf=>?_⟩
 obtain ⟨pre',hp'⟩:=chain_last f b k r e
 have h1:=h f hf
 rw [hp'] at h1
 rw [hp] at h0
 rw [h0] at h1
 have:=congrArg List.getLast? h1
 simp at this
 exact this.symm
theorem yN {H:Hp} {ps:List Addr} {ts:List (List Key)} {p:Addr} {t:List Key} (h:PK H ps ts) (e:H p=some (.tup (t.map kV))∧okT t=true):PK H (ps++[p]) (ts++[t]):=by
 induction h with
 | nil=>exact .cons e .nil
 | cons r t ih=>exact .cons r ih
theorem jx {H H':Hp} {ps:List Addr} {ts:List (List Key)} (k:∀ b xs,H b=some (.tup xs)→H' b=some (.tup xs)) (h:PK H ps ts):PK H' ps ts:=L2.Paired.imp' (fun p x e=>⟨k _ _ e.1,e.2⟩) h
theorem gY {H:Hp} {ps:List Addr} {pre:List (List Key)} {cur:List Key} (h:PK H ps (pre++[cur])):∃ qs p,ps=qs++[p]∧H p=some (.tup (cur.map kV))∧okT cur=true:=by
 have hl:=kn h
 obtain ⟨p,hp,h2⟩:=oU h (i:=pre.length) (t:=cur) (by simp)
 have hn:ps≠[]:=by intro z;subst z;simp at hl
 refine ⟨ps.dropLast,p,?_,h2⟩
 have:ps.getLast?=some p:=by
  rw [List.getLast?_eq_getElem?]
  have:ps.length - 1=pre.length:=by simp at hl;omega
  rw [this];exact hp
 obtain ⟨ys,hy⟩:=List.getLast?_eq_some_iff.mp this
 rw [hy];simp
theorem gG {K:W.Frag} {H:Hp} {Q:VK} {L:Addr} {qs:List Addr} {p:Addr} (hL:H L=some (.lst ((qs++[p]).map V.ref))) (q:Q (.ref p) H):aM K (.ref L) (.int (-1)) H Q:=by
 refine .inl (.inl ⟨L,_,-1,.ref p,rfl,rfl,SqL.of hL,?_,q⟩)
 rw [List.map_append]
 exact pF _ _
structure At (A:Adr) (H:Hp) (f b:Addr) (B k:Int) (st:List (Int×Key)) (e:List Key) (g:List Key→Option Key) (n:Nat) (L:Addr) (i:Nat) (H':Hp) (ps:List Addr) (pre:List (List Key)) (cur:List Key) (g':List Key→Option Key):Prop where
 kt:bd b H H'
 sp:Stp A H' f b g' (n+i)
 sub:Sub g g'
 hL:H' L=some (.lst (ps.map V.ref))
 pk:PK H' ps (pre++[cur])
 pl:pre.length=i
 sp2:∀ k∈pre,szT k≤100000
 sz:szT cur+szS (st.reverse.drop i)≤100000
 ch:∀ h,Ext g' h→dJ h B k e st.reverse=pre++dJ h B k cur (st.reverse.drop i)
theorem At.next {H:Hp} {f b:Addr} {B k:Int} {st:List (Int×Key)} {e:List Key} {g:List Key→Option Key} {n:Nat} {L:Addr} {i:Nat} {H1 H2:Hp} {ps:List Addr} {pre:List (List Key)} {cur:List Key} {g1 g2:List Key→Option Key} {s:Int×Key} {v:Key} {t:Addr}
   (a:At A H f b B k st e g n L i H1 ps pre cur g1) (gd:fA B k st e) (hi:st.reverse[i]?=some s) (hLn:H L=none) (kt:bd b H1 H2) (sp:Stp A H2 f b g2 (n+i+1)) (sub:Sub g1 g2) (gv:g2 cur=some v) (so:oH cur v) (ht:H2 t=none):
   At A H f b B k st e g n L (i+1) (upd (upd H2 t (.tup ((cG B k s.1 s.2 v).map kV))) L (.lst ((ps++[t]).map V.ref))) (ps++[t]) (pre++[cur]) (cG B k s.1 s.2 v) g2:=by
 have hil:i<st.length:=by
   rcases Nat.lt_or_ge i st.length with h | h
   · exact h
   · rw [List.getElem?_eq_none (by simp;exact h)] at hi;cases hi
 have gl:=gd.len
 have hst:st[st.length - 1 - i]?=some s:=by rw [← hi,List.getElem?_reverse hil]
 obtain ⟨d0,d1,mo⟩:=gd.step hst
 have hd:st.reverse.drop i=s::st.reverse.drop (i+1):=by
   rw [List.drop_eq_getElem_cons (by simp;exact hil)]
   have:st.reverse[i]?=some (st.reverse[i]'(by simp;exact hil)):=List.getElem?_eq_getElem _
   rw [this] at hi;cases hi;rfl
 have sz:szT cur+(szK s.2+252+szS (st.reverse.drop (i+1)))≤100000:=by have:=a.sz;rw [hd] at this;exact this
 have hL2:H2 L=some (.lst (ps.map V.ref)):=a.sp.lst kt _ _ a.hL
 have tL:t≠L:=fun z=>by subst z;rw [hL2] at ht;cases ht
 have S1:=ax.upd (o:=.tup ((cG B k s.1 s.2 v).map kV)) ht
 have hb60:=gd.b60
 have p60:(60:Int)<10^60:=by decide +kernel
 have vs:=lB so (by omega)
 have sd:=ue (b:=B) (k:=k) (d:=s.1) d0 (by omega) gd.b60 gd.k0 gd.k1
 have fo:=xa (b:=B) (k:=k) (om d0 (by omega)) (om sd.1 sd.2) mo vs.1
 have kp:∀ x o,x≠L→upd H2 t (.tup ((cG B k s.1 s.2 v).map kV)) x=some o→upd (upd H2 t (.tup ((cG B k s.1 s.2 v).map kV))) L (.lst ((ps++[t]).map V.ref)) x=some o:=fun x o h z=>by rw [au h];exact z
 have nl:∀ x xs,H2 x=some (.tup xs)→x≠L:=fun x xs h z=>by subst z;rw [hL2] at h;cases h
 have ktt:∀ x xs,H2 x=some (.tup xs)→upd (upd H2 t (.tup ((cG B k s.1 s.2 v).map kV))) L (.lst ((ps++[t]).map V.ref)) x=some (.tup xs):=fun x xs h=>kp _ _ (nl _ _ h) (S1 _ _ h)
 refine ⟨fun x o nd h=>?_,?_,a.sub.trans sub,ap,?_,by simp [a.pl],(fun y hy=>by rcases List.mem_append.mp hy with z | z;exact a.sp2 y z;rw [List.mem_singleton.mp z];omega),?_,fun hh he=>?_⟩
 · exact kp _ _ (aD h hLn) (S1 _ _ (kt _ _ nd (a.kt _ _ nd h)))
 · refine sp.keep (by omega) fun x o h n1=>kp _ _ (fun z=>?_) (S1 _ _ h)
   subst z;rw [hL2] at h;cases h;rcases n1 with ⟨_,q⟩ | ⟨_,_,q⟩ | ⟨_,_,_,q⟩ <;> cases q
 · exact yN (jx ktt (jx (a.sp.tup kt) a.pk)) ⟨kp _ _ tL ap,fo.1⟩
 · rw [fo.2];have:=vs.2;omega
 · rw [a.ch hh (he.of sub)]
   rw [hd]
   show pre++(cur::dJ hh B k (cG B k s.1 s.2 (hh cur)) _)=_
   rw [he cur v gv]
   simp
theorem At.done {H:Hp} {f b:Addr} {B k:Int} {st:List (Int×Key)} {e:List Key} {g:List Key→Option Key} {n:Nat} {L:Addr} {H':Hp} {ps:List Addr} {pre:List (List Key)} {cur:List Key} {g':List Key→Option Key} (a:At A H f b B k st e g n L st.length H' ps pre cur g'):∀ h,Ext g' h→pre++[cur]=dJ h B k e st.reverse:=fun h he=>by
 rw [a.ch h he]
 have:st.reverse.drop st.length=[]:=by rw [List.drop_eq_nil_iff];simp
 rw [this];rfl
theorem uB {H:Hp} {st:List (Int×Key)} {xs:List V} (w:DatWs H xs (st.map stD)) {i:Nat} (hi:i<xs.length):∃ s p,st.reverse[i]?=some s∧xs.reverse.getD i .non=.ref p∧H p=some (.tup [.int s.1,kV s.2]):=by
 have hl:xs.length=st.length:=by rw [w.len];simp
 obtain ⟨x,hx⟩:∃ x,xs[xs.length - 1 - i]?=some x:=⟨_,List.getElem?_eq_getElem (by omega)⟩
 obtain ⟨s,p,hs,rfl,hp⟩:=uE w hx
 refine ⟨s,p,?_,?_,hp⟩
 · rw [List.getElem?_reverse (by omega),←hs,hl]
 · rw [List.getD_eq_getElem?_getD,List.getElem?_reverse hi,hx];rfl
theorem lf {ps:List Addr} {H:Hp} {ts:List (List Key)} (h:PK H ps ts) (ht:ts.length≤100):(ps.map V.ref).length<sizeLine:=by
 rw [List.length_map,kn h];exact gq (by omega)
theorem zD (st:List (Int×Key)):szS st.reverse=szS st:=by unfold szS;rw [List.map_reverse,List.sum_reverse]
theorem fA.okE {b k:Int} {st:List (Int×Key)} {e:List Key} (g:fA b k st e):fD (.tup (e.map bi)):=.inl ⟨mt (eY g.et),by show PyData.depthAll (toPys (e.map bi))+1≤140;rw [qo];decide⟩
theorem fA.slip {b k:Int} {st:List (Int×Key)} {e:List Key} (g:fA b k st e):dw b k (.tup [.tup (st.map stD),.tup (e.map bi)])=true:=by
 show (aU b 0 (st.map stD)&&bO b k (gj (st.map stD)) (.tup (e.map bi)))=true
 have:gj (st.map stD)=bK 0 (st.map stD):=rfl
 rw [g.gs,this,g.en];rfl
theorem At.zero {H H1:Hp} {f b t L:Addr} {B k:Int} {st:List (Int×Key)} {e:List Key} {g:List Key→Option Key} {n:Nat} (S:ax H H1) (gd:fA B k st e) (sp:Stp A H f b g n) (ht:H t=some (.tup (e.map kV))) (hL:H1 L=none):At A H f b B k st e g n L 0 (upd H1 L (.lst [.ref t])) [t] [] e g:=by
 have S2:=S.trans (ax.upd (o:=.lst [V.ref t]) hL)
 exact ⟨bd.same S2,sp.same (Nat.le_refl _) S2,Sub.rfl',ap,.cons ⟨S2 _ _ ht,gd.et⟩ .nil,rfl,(fun _ z=>nomatch z),by rw [List.drop_zero,zD];exact gd.sz,fun h _=>rfl⟩
end Rs
namespace Rs
open PySem PySem.Spec PyProof.Rows L2
variable {K:W.Frag} {mg:Str→Option Value} {A:Adr}
def dO (o:HO):Prop:=(∃ xs,o=.lst xs)∨(∃ xs,o=.tup xs)∨∃ kvs,o=.dK kvs
mutual
theorem aR.kp {H H':Hp} {v:V} {d:Dat} (h:aR H v d) (k:∀ a o,H a=some o→dO o→H' a=some o):aR H' v d:=by
 cases h with
 | non=>exact .non
 | bl b=>exact .bl b
 | int i=>exact .int i
 | str z=>exact .str z
 | lst e r=>exact .lst (k _ _ e (.inl ⟨_,rfl⟩)) (DatWs.kp r k)
 | tup e r=>exact .tup (k _ _ e (.inr (.inl ⟨_,rfl⟩))) (DatWs.kp r k)
 | dic e=>exact (let ⟨kv,e⟩:=e;.dic ⟨kv,k _ _ e (.inr (.inr ⟨_,rfl⟩))⟩)
theorem DatWs.kp {H H':Hp} {xs:List V} {ds:List Dat} (h:DatWs H xs ds) (k:∀ a o,H a=some o→dO o→H' a=some o):DatWs H' xs ds:=by
 cases h with
 | nil=>exact .nil
 | cons a r=>exact .cons (aR.kp a k) (DatWs.kp r k)
end
theorem Stp.dO {H H':Hp} {f b:Addr} {g:List Key→Option Key} {n:Nat} (s:Stp A H f b g n) (k:bd b H H'):∀ a o,H a=some o→Rs.dO o→H' a=some o:=fun a o e h=>by
 rcases h with ⟨_,rfl⟩ | ⟨_,rfl⟩ | ⟨_,rfl⟩ <;> exact k a _ (s.nb e fun _ z=>nomatch z) e
theorem aR.kb {H H':Hp} {f b:Addr} {g:List Key→Option Key} {n:Nat} {v:V} {d:Dat} (h:aR H v d) (s:Stp A H f b g n) (k:bd b H H'):aR H' v d:=h.kp (s.dO k)
theorem cA.kb {H H':Hp} {f b:Addr} {g:List Key→Option Key} {n:Nat} {v:V} {B k:Int} {st:List (Int×Key)} {e:List Key} (h:cA H v B k st e) (s:Stp A H f b g n) (kb:bd b H H'):cA H' v B k st e:=⟨h.1.kb s kb,h.2⟩
theorem cA.same {H H':Hp} {v:V} {B k:Int} {st:List (Int×Key)} {e:List Key} (h:cA H v B k st e) (S:ax H H'):cA H' v B k st e:=⟨h.1.mono S,h.2⟩
theorem re {B k:Int} (k0:0≤k) (k1:k<2^B.toNat):cT B (.int k)=true:=decide_eq_true ⟨k0,k1⟩
theorem At.szs {H:Hp} {f b:Addr} {B k:Int} {st:List (Int×Key)} {e:List Key} {g:List Key→Option Key} {n:Nat} {L:Addr} {i:Nat} {H':Hp} {ps:List Addr} {pre:List (List Key)} {cur:List Key} {g':List Key→Option Key} (a:At A H f b B k st e g n L i H' ps pre cur g'):∀ k∈pre++[cur],szT k≤100000:=fun y hy=>by
 rcases List.mem_append.mp hy with z | z
 · exact a.sp2 y z
 · rw [List.mem_singleton.mp z];have:=a.sz;omega
theorem CP (K:W.Frag) (A:Adr):Ln (jz K A) 4:=by rintro vs H Q E ⟨f,b,B,k,v,st,e,g,n,rfl,_⟩;rfl
theorem Gr (T:Txt K mg A):Rd (jz K A) (HY K A) ["_law_stamper", "_law_bits_here", "_law_key_here", "_law_slip", "_law_terms_here", "_law_depth", "_law_mark_here", "_law_below", "_law_begin"]:=by
 intro vs H Q E h
 obtain ⟨f,b,B,k,v,st,e,g,n,rfl,w,sp,hn,q⟩:=h
 have gd:=w.2
 have gl:=gd.len
 obtain ⟨a,s,t,xs,rfl,ha,hs,ws,ht⟩:=gJ w
 have hxl:xs.length=st.length:=by rw [ws.len];simp
 refine ixT (j:=1) ha rfl rfl ⟨aB (n:=1) (by decide),fun L hL=>?_⟩
 have S1:=ax.upd (o:=.lst [V.ref t]) hL
 have a0:=At.zero (A:=A) (.refl H) gd sp ht hL
 refine ixT (j:=0) (S1 _ _ ha) rfl rfl ⟨s,xs,rfl,SqT.of (S1 _ _ hs),?_⟩
 refine uc (dU.rev .non) (fun i σ H'=>∃ ps pre cur g' x5 x6 x7 x8,σ=[some (.ref f),some (.int B),some (.int k),some (.ref a),some (.ref L),x5,x6,x7,x8]∧At A H f b B k st e g n L i H' ps pre cur g')
   ⟨[t],[],e,g,none,none,none,none,rfl,a0⟩ ?_ ?_ ?_
 · rintro i σ H1 _ ⟨ps,pre,cur,g1,x5,x6,x7,x8,rfl,a1⟩
   exact SqT.of (sp.tup a1.kt _ _ hs)
 · rintro i σ H1 hi ⟨ps,pre,cur,g1,x5,x6,x7,x8,rfl,a1⟩
   obtain ⟨sk,p,hsk,ep,hp⟩:=uB ws hi
   rw [ep]
   have hi':i<st.length:=by omega
   obtain ⟨d0,d1,_⟩:=gd.step (i:=st.length - 1 - i) (s:=sk) (by rw [← hsk,List.getElem?_reverse hi'])
   have hb60:=gd.b60
   obtain ⟨qs,pc,rfl,hpc,okc⟩:=gY a1.pk
   refine ⟨p,_,rfl,SqT.of (sp.tup a1.kt _ _ hp),rfl,_,_,rfl,_,_,rfl,rfl,?_⟩
   refine ⟨f,rfl,a1.sp.clo,gG a1.hL (fS a1.sp (by omega) hpc okc fun v H2 g2 kt sp2 sub gv so=>?_)⟩
   have hL2:H2 L=some (.lst ((qs++[pc]).map V.ref)):=a1.sp.lst kt _ _ a1.hL
   have e1:∀ j:Nat,(1:Int)*2^j=2^j:=fun j=>Int.one_mul _
   have lim:∀ j:Nat,j≤60→(0:Int)<1*2^j∧(1:Int)*2^j<1267650600228229401496703205376:=fun j hj=>by
     rw [e1]
     have h1:=cZ j
     have h2:=jl hj
     have h3:(2:Int)^60<1267650600228229401496703205376:=by decide
     omega
   refine ⟨⟨by omega,by omega,by decide⟩,lim _ (by omega),⟨by omega,by omega,by decide⟩,lim _ (by omega),by decide,?_⟩
   have e2:k/(1*2^(B - sk.1).toNat)=aJ B k sk.1:=by rw [e1];rfl
   have nx:∀ t1,H2 t1=none→At A H f b B k st e g n L (i+1) (upd (upd H2 t1 (.tup ((cG B k sk.1 sk.2 v).map kV))) L (.lst ((qs++[pc]++[t1]).map V.ref))) (qs++[pc]++[t1]) (pre++[cur]) (cG B k sk.1 sk.2 v) g2:=fun t1 h1=>a1.next gd hsk hL kt sp2 sub gv so h1
   have hlen:((qs++[pc]).map V.ref).length<sizeLine:=lf a1.pk (by have:=a1.pl;simp;omega)
   have ml:∀ t1:Addr,(qs++[pc]).map V.ref++[V.ref t1]=(qs++[pc]++[t1]).map V.ref:=fun t1=>by simp
   rw [e2,e1]
   refine Sel.dec (fun h0=>?_) (fun h0=>?_)
   · refine ⟨.inl ⟨rfl,_,SqL.of hL2⟩,aB (n:=5) (by decide),fun t1 h1=>?_⟩
     refine ⟨L,_,.ref t1,rfl,rfl,ax.upd h1 _ _ hL2,hlen,?_⟩
     rw [ml]
     have ef:cG B k sk.1 sk.2 v=[.inr "fork",.inl sk.1,.inl (aJ B k sk.1),v,sk.2]:=if_pos h0
     have nx:=nx t1 h1
     rw [ef] at nx
     exact ⟨_,_,_,g2,_,_,_,_,rfl,nx⟩
   · refine ⟨.inl ⟨rfl,_,SqL.of hL2⟩,aB (n:=5) (by decide),fun t1 h1=>?_⟩
     refine ⟨L,_,.ref t1,rfl,rfl,ax.upd h1 _ _ hL2,hlen,?_⟩
     rw [ml]
     have ef:cG B k sk.1 sk.2 v=[.inr "fork",.inl sk.1,.inl (aJ B k sk.1),sk.2,v]:=if_neg h0
     have nx:=nx t1 h1
     rw [ef] at nx
     exact ⟨_,_,_,g2,_,_,_,_,rfl,nx⟩
 · rintro σ H1 ⟨ps,pre,cur,g1,x5,x6,x7,x8,rfl,a1⟩
   rw [hxl] at a1
   exact q L ps _ g1 H1 a1.kt a1.sp a1.sub hL a1.hL a1.pk a1.szs a1.done
theorem mj {K:W.Frag} {H:Hp} {Q:VK} {a b:Key} (q:Q (.bl (!decide (a=b))) H):cB K (kV a) (kV b) H Q:=by
 cases a <;> cases b
 · rename_i i j
   have e:decide ((Sum.inl i:Key)=Sum.inl j)=decide (i=j):=by simp
   rw [e] at q;exact q
 · have e:∀ (i:Int) (j:Str),decide ((Sum.inl i:Key)=Sum.inr j)=false:=by simp
   rw [e] at q;exact q
 · have e:∀ (i:Int) (j:Str),decide ((Sum.inr j:Key)=Sum.inl i)=false:=by simp
   rw [e] at q;exact q
 · rename_i i j
   have e:decide ((Sum.inr i:Key)=Sum.inr j)=decide (i=j):=by simp
   rw [e] at q;exact q
theorem zZ (K:W.Frag) (A:Adr):Ln (jA K A) 4:=by rintro vs H Q E ⟨f,b,B,v,w,g,n,rfl,_⟩;rfl
theorem ES (T : Txt K mg A) (vs : List V) (H : Hp) (Q : VK) (E : XK) (h : jA K A vs H Q E) : Cw K A E { nx := fun _ H' => Q .non H', rt := Q } (L2.bU ["stamper", "bits", "key", "slip", "terms", "step"] vs) H := by
  obtain ⟨f, b, B, v0, w0, g, n, rfl, B1, B60, sp, hn, ask⟩ := h
  cases ask with
  | key d hd h q => exact ⟨B, _, d, rfl, by omega, B60, hd, by rw [h]; exact Sel.yes rfl q⟩
  | paper k d hv k0 k1 hd ok h q =>
    subst hv
    refine ⟨B, .int k, .int k, rfl, by omega, B60, .int k, by rw [re k0 k1]; exact Sel.no rfl ⟨B, k, w0, d, rfl, by omega, B60, hd, ok, fun H0 S0 => by rw [h]; exact Sel.yes rfl (q H0 S0)⟩⟩
  | good k st e hv w q =>
  subst hv
  have gd := w.2
  have gl := gd.len
  obtain ⟨a, s, t, xs, rfl, ha, hs, ws, ht⟩ := gJ w
  have hxl : xs.length = st.length := by rw [ws.len]; simp
  refine ⟨B, .int k, .int k, rfl, by omega, B60, .int k, ?_⟩
  rw [re gd.k0 gd.k1]
  refine Sel.no rfl ?_
  refine ⟨B, k, .ref a, _, rfl, by omega, B60, w.1, gd.okE, fun H0 S0 => ?_⟩
  rw [gd.slip]
  refine Sel.no rfl ?_
  refine ixT (j := 1) (S0 _ _ ha) rfl rfl ⟨aB (n := 1) (by decide), fun L hL => ?_⟩
  have hLn : H L = none := by
    cases z : H L with
    | none => rfl
    | some o => rw [S0 _ _ z] at hL; cases hL
  have S1 := S0.trans (ax.upd (o := .lst [V.ref t]) hL)
  have a0 := At.zero (A := A) S0 gd sp ht hL
  refine ixT (j := 0) (S1 _ _ ha) rfl rfl ⟨s, xs, rfl, SqT.of (S1 _ _ hs), ?_⟩
  refine uc (dU.rev .non) (fun i σ H' => ∃ ps pre cur g' x5, σ = [some (.ref f), some (.int B), some (.int k), some (.ref a), some (.ref L), x5] ∧ At A H f b B k st e g n L i H' ps pre cur g')
    ⟨[t], [], e, g, none, rfl, a0⟩ ?_ ?_ ?_
  · rintro i σ H1 _ ⟨ps, pre, cur, g1, x5, rfl, a1⟩
    exact SqT.of (sp.tup a1.kt _ _ hs)
  · rintro i σ H1 hi ⟨ps, pre, cur, g1, x5, rfl, a1⟩
    obtain ⟨sk, p, hsk, ep, hp⟩ := uB ws hi
    rw [ep]
    have hi' : i < st.length := by omega
    obtain ⟨d0, d1, _⟩ := gd.step (i := st.length - 1 - i) (s := sk) (by rw [← hsk, List.getElem?_reverse hi'])
    obtain ⟨qs, pc, rfl, hpc, okc⟩ := gY a1.pk
    refine ⟨.inl ⟨rfl, _, SqL.of a1.hL⟩, ?_⟩
    refine ⟨f, rfl, a1.sp.clo, gG a1.hL (fS a1.sp (by omega) hpc okc fun v H2 g2 kt sp2 sub gv so => ?_)⟩
    have hL2 : H2 L = some (.lst ((qs ++ [pc]).map V.ref)) := a1.sp.lst kt _ _ a1.hL
    refine ⟨B, k, sk.1, sk.2, v, p, rfl, a1.sp.tup kt _ _ (sp.tup a1.kt _ _ hp), d1, gd.k0, fun t1 h1 => ?_⟩
    have hlen : ((qs ++ [pc]).map V.ref).length < sizeLine := lf a1.pk (by have := a1.pl; simp; omega)
    refine ⟨L, _, .ref t1, rfl, rfl, ax.upd h1 _ _ hL2, hlen, ?_⟩
    have ml : (qs ++ [pc]).map V.ref ++ [V.ref t1] = (qs ++ [pc] ++ [t1]).map V.ref := by simp
    rw [ml]
    exact ⟨_, _, _, g2, _, rfl, a1.next gd hsk hLn kt sp2 sub gv so h1⟩
  · rintro σ H1 ⟨ps, pre, cur, g1, x5, rfl, a1⟩
    rw [hxl] at a1
    exact q L ps _ g1 H1 a1.kt a1.sp a1.sub hLn a1.hL a1.pk a1.szs a1.done
theorem Ask.imp {H:Hp} {B:Int} {v w:V} {E:XK} {R R':Int→List (Int×Key)→List Key→Prop} (h:Ask A H B v w E R) (f:∀ k st e,v=.int k→cA H w B k st e→R k st e→R' k st e):Ask A H B v w E R':=by
 cases h with
 | key d hd h q=>exact .key d hd h q
 | paper k d hv k0 k1 hd ok h q=>exact .paper k d hv k0 k1 hd ok h q
 | good k st e hv w q=>exact .good k st e hv w (f k st e hv w q)
theorem Bo (K:W.Frag) (A:Adr):Ln (lh K A) 4:=by rintro vs H Q E ⟨f,b,B,v,w,g,n,rfl,_⟩;rfl
theorem Ez (T:Txt K mg A) (vs:List V) (H:Hp) (Q:VK) (E:XK) (h:lh K A vs H Q E):CC K A E { nx:=fun _ H'=>Q .non H',rt:=Q } (L2.bU ["stamper", "bits", "key", "slip"] vs) H:=by
 obtain ⟨f,b,B,v,w,g,n,rfl,B1,B60,sp,hn,ask⟩:=h
 refine ⟨f,rfl,sp.clo,f,b,B,v,w,g,n,rfl,B1,B60,sp,hn,ask.imp fun k st e _ ws q=>fun L ps ts g1 H1 kt sp1 sub hLn hL pk szs ch=>?_⟩
 have gl:=ws.2.len
 obtain ⟨pre,cur,rfl,hc⟩:=gA ch
 obtain ⟨qs,pc,rfl,hpc,okc⟩:=gY pk
 refine gG hL (fS sp1 (by omega) hpc okc fun x H2 g2 kt2 sp2 sub2 gv so=>?_)
 refine q x g2 H2 (kt.trans kt2) (sp2.same (by omega) (.refl _)) (sub.trans sub2) (lB so (szs _ (by simp))).1 fun h he=>?_
 rw [hc h (he.of sub2)]
 exact (he _ _ gv).symm
theorem CV (K:W.Frag) (A:Adr):Ln (jF K A) 5:=by rintro vs H Q E ⟨f,b,B,m,v,w,g,n,rfl,_⟩;rfl
theorem EN (T:Txt K mg A) (vs:List V) (H:Hp) (Q:VK) (E:XK) (h:jF K A vs H Q E):CG K A E { nx:=fun _ H'=>Q .non H',rt:=Q } (L2.bU ["stamper", "bits", "mark", "key", "slip", "came"] vs) H:=by
 obtain ⟨f,b,B,m,v,w,g,n,rfl,B1,B60,sp,hn,ask⟩:=h
 refine ⟨f,b,B,v,w,g,n,rfl,B1,B60,sp,hn,ask.imp fun k st e hv ws q=>fun x g1 H1 kb s1 sub1 okx ex=>?_⟩
 subst hv
 obtain ⟨q1,q2⟩:=q x g1 H1 kb s1 sub1 okx ex
 refine mj ?_
 by_cases exm:x=m
 · exact Sel.no (by rw [decide_eq_true exm];rfl) ⟨B,k,w,st,e,rfl,ws.kb sp kb,q1 exm⟩
 · refine Sel.yes (by rw [decide_eq_false exm];rfl) ?_
   refine fun a ha=>⟨a,kV m,kV x,rfl,ap,fun dx hdx=>⟨rfl,some dx,?_,?_⟩⟩
   · obtain ⟨nd,_⟩:=il hdx
     rw [au (Ne.symm nd),au (Ne.symm nd)];exact ap
   · obtain ⟨nd,hd0⟩:=il hdx
     refine q2 exm dx _ (fun z o ez=>?_) (by rw [dR nd];exact ap)
     have na:=aD ez ha
     have nz:=aD ez hd0
     rw [dR na,au nz,au nz,au na,au na];exact ez
end Rs
namespace Rs
open PySem PySem.Spec PyProof.Rows L2
variable {K:W.Frag} {mg:Str→Option Value} {A:Adr}
theorem Af (B k d:Nat):aJ (B:Int) (k:Int) (d:Int)=((st B k d:Nat):Int):=by
 unfold aJ st
 rw [show ((B:Int) - (d:Int)).toNat=B - d by omega,←ig,←Int.natCast_ediv]
theorem tK {B k d:Nat} (h:d<B):(k:Int)/2^((B:Int) - (d:Int) - 1).toNat%2=((sd B k d:Nat):Int):=by
 unfold sd
 rw [show ((B:Int) - (d:Int) - 1).toNat=B - 1 - d by omega,←ig]
 omega
theorem BL (K:W.Frag) (A:Adr):Ln (nF K A) 1:=by rintro vs H Q E ⟨v,d,rfl,_⟩;rfl
theorem Ee (T : Txt K mg A) : Rd (nF K A) (GU K A) ["thing"] := by
  intro vs H Q E h
  obtain ⟨v, d, rfl, w, q⟩ := h
  refine ⟨v, d, rfl, w, ?_⟩
  cases w with
  | int i =>
    refine Sel.yes rfl (Sel.dec (fun h1 => ?_) (fun h1 => ?_))
    · have e : jI (.int i) = decide (i ≤ 60) := by
        show decide (1 ≤ i ∧ i ≤ 60) = _
        by_cases h2 : i ≤ 60
        · rw [decide_eq_true h2, decide_eq_true ⟨h1, h2⟩]
        · rw [decide_eq_false h2, decide_eq_false fun z => h2 z.2]
      show Q (.bl (decide (i ≤ 60))) H
      rw [← e]; exact q
    · have e : jI (.int i) = false := decide_eq_false fun z => h1 z.1
      rw [← e]; exact q
  | _ => exact Sel.no rfl q
theorem zn {i:Nat} {σ:L2.St} {H:Hp} {Q:List V→Hp→Prop} {v:V} (h:σ[i]?=some (some v)) (q:Q [v] H):aa (ae i) ag σ H Q:=by
 show (match σ[i]? with | some (some v)=>ag σ H fun xs H2=>Q (v::xs) H2 | _=>False)
 rw [h];exact q
theorem EA (K:W.Frag) (A:Adr):Ln (sN K A) 3:=by rintro vs H Q E ⟨x,dx,C,f,b,p,g,n,k,rfl,_⟩;rfl
theorem Gt (T:Txt K mg A):Rd (sN K A) (T_5 K A) ["self", "stamper", "term"]:=by
 intro vs H Q E h
 obtain ⟨x,dx,C,f,b,p,g,n,k,rfl,hx,cl,n1,n2,s,hn,hp,ok,q⟩:=h
 refine ⟨x,C,dx,[],rfl,hx,cl,n1,by decide,?_⟩
 have s1:Stp A (upd H x (.ins C dx (cy "term" (.ref p) []))) f b g n:=s.put (Nat.le_refl _) hx fun v z=>nomatch z
 have px:p≠x:=dD hp hx (fun z=>nomatch z)
 refine ⟨f,rfl,s1.clo,zn (v:=.ref p) rfl ?_⟩
 refine fS s1 hn (by rw [au px];exact hp) ok fun v H2 g2 kb s2 sub gv st=>?_
 have hx1:upd H x (.ins C dx (cy "term" (.ref p) [])) x=some (.ins C dx [(("term" :Str),.ref p)]):=ap
 have hx2:=kb _ _ (s1.nb hx1 fun _ z=>nomatch z) hx1
 refine ⟨x,C,dx,[(("term" :Str),.ref p)],rfl,hx2,cl,n2,by show 1<1000;decide,q v g2 _ (fun z o zb zx e=>?_) ap (s2.put (Nat.le_refl _) hx2 fun v z=>?_) sub gv st⟩
 · rw [au zx];exact kb _ _ zb (by rw [au zx];exact e)
 · injection z with z;injection z with z;exact absurd z (by decide)
theorem Fl (K:W.Frag) (A:Adr):Ln (sf K A) 2:=by rintro vs H Q E ⟨x,dx,f,b,g,n,rfl,_⟩;rfl
theorem Ed:okT brT=true:=by decide +kernel
theorem Ib (T:Txt K mg A):Rd (sf K A) (T_0 K A) ["self", "stamper"]:=by
 intro vs H Q E h
 obtain ⟨x,dx,f,b,g,n,rfl,hx,s,hn,q⟩:=h
 refine ⟨by show 1≤sizeLine;decide,fun p hp=>?_⟩
 have S:=ax.upd (o:=.tup [.str "bare"]) hp
 refine ⟨x,dx,A.c_Bare,f,b,p,g,n,brT,rfl,S _ _ hx,T.cl_Bare,T.na_Bare_term,T.na_Bare_mark,s.same (Nat.le_refl _) S,hn,ap,Ed,fun m g' H' k o s' sub gm st=>?_⟩
 exact q g' H' (fun z u zb zx e=>k z u zb zx (S _ _ e)) s' sub
theorem iJ {H:Hp} {x dx:Addr} {o u:HO} (hx:H x=none) (hdx:H dx=none) (ne:dx≠x):ax H (upd (upd H dx o) x u):=(ax.upd hdx).trans (ax.upd (by rw [au (Ne.symm ne)];exact hx))
theorem FG (K:W.Frag) (A:Adr):Ln (sY K A) 3:=by rintro vs H Q E ⟨x,l,r,d,b,B,key,rfl,_⟩;rfl
theorem GO (T:Txt K mg A):Rd (sY K A) (T_3 K A) ["self", "bits", "key"]:=by
 intro vs H Q E h
 obtain ⟨x,l,r,d,b,B,key,rfl,⟨dx,t,m,o⟩,hd,q⟩:=h
 refine ⟨x,_,dx,_,_,rfl,o,T.cl_Fork,T.na_Fork_depth,rfl,_,_,_,rfl,by omega,x,_,dx,_,_,rfl,o,T.cl_Fork,T.na_Fork_begin,rfl,?_⟩
 have e:decide (((st B key d:Nat):Int)=(b:Int))=decide (st B key d=b):=by
  by_cases h:st B key d=b
  · rw [decide_eq_true h,decide_eq_true (by rw [h])]
  · rw [decide_eq_false h,decide_eq_false (by omega)]
 show Q (.bl (decide (aJ (B:Int) (key:Int) (d:Int)=(b:Int)))) H
 rw [Af,e];exact q
theorem FL (K:W.Frag) (A:Adr):Ln (rz K A) 3:=by rintro vs H Q E ⟨x,l,r,d,b,B,key,rfl,_⟩;rfl
theorem Hi (T:Txt K mg A):Rd (rz K A) (T_4 K A) ["self", "bits", "key"]:=by
 intro vs H Q E h
 obtain ⟨x,l,r,d,b,B,key,rfl,⟨dx,t,m,o⟩,hd,q⟩:=h
 refine ⟨x,_,dx,_,_,rfl,o,T.cl_Fork,T.na_Fork_depth,rfl,_,_,_,rfl,by omega,by omega,?_⟩
 rw [tK hd]
 refine Sel.dec (fun h=>?_) (fun h=>?_)
 · have h:sd B key d=0:=by have h:((sd B key d:Nat):Int)=0:=h;omega
   rw [if_pos h] at q
   exact ⟨x,_,dx,_,_,rfl,o,T.cl_Fork,T.na_Fork_left,rfl,q⟩
 · have h:¬ sd B key d=0:=by have h:¬ ((sd B key d:Nat):Int)=0:=h;omega
   rw [if_neg h] at q
   exact ⟨x,_,dx,_,_,rfl,o,T.cl_Fork,T.na_Fork_right,rfl,q⟩
theorem Fp (K:W.Frag) (A:Adr):Ln (tB K A) 3:=by rintro vs H Q E ⟨x,l,r,d,b,B,key,rfl,_⟩;rfl
theorem Ij (T:Txt K mg A):Rd (tB K A) (T_2 K A) ["self", "bits", "key"]:=by
 intro vs H Q E h
 obtain ⟨x,l,r,d,b,B,key,rfl,⟨dx,t,m,o⟩,hd,q⟩:=h
 refine ⟨x,_,dx,_,_,rfl,o,T.cl_Fork,T.na_Fork_depth,rfl,_,_,_,rfl,by omega,by omega,?_⟩
 rw [tK hd]
 refine Sel.dec (fun h=>?_) (fun h=>?_)
 · have h:sd B key d=0:=by have h:((sd B key d:Nat):Int)=0:=h;omega
   rw [if_pos h] at q
   exact ⟨x,_,dx,_,_,rfl,o,T.cl_Fork,T.na_Fork_right,rfl,q⟩
 · have h:¬ sd B key d=0:=by have h:¬ ((sd B key d:Nat):Int)=0:=h;omega
   rw [if_neg h] at q
   exact ⟨x,_,dx,_,_,rfl,o,T.cl_Fork,T.na_Fork_left,rfl,q⟩
theorem qm {H H':Hp} {x dx b:Addr} {o u:HO} (hx:H x=none) (hdx:H dx=none) (ne:dx≠x) (k:ni b x (upd (upd H dx o) x u) H'):bd b H H':=fun z o zb e=>k z o zb (aD e hx) (iJ hx hdx ne _ _ e)
theorem Dv (K:W.Frag) (A:Adr):Ln (sH K A) 3:=by rintro vs H Q E ⟨x,dx,f,b,g,n,B,rfl,_⟩;rfl
theorem Ha (T:Txt K mg A):Rd (sH K A) (T_8 K A) ["self", "stamper", "bits"]:=by
 intro vs H Q E h
 obtain ⟨x,dx,f,b,g,n,B,rfl,hx,s,hn,B1,B60,q⟩:=h
 refine ⟨_,.int (B:Int),rfl,.int _,?_⟩
 rw [show jI (.int (B:Int))=true from decide_eq_true ⟨by omega,by omega⟩]
 refine Sel.no rfl ⟨x,A.c_Table,dx,[],rfl,hx,T.cl_Table,T.na_Table_stamper,by decide,?_⟩
 refine ⟨x,A.c_Table,dx,_,rfl,ap,T.cl_Table,T.na_Table_bits,by show 1<1000;decide,?_⟩
 rw [jq]
 have e2:cy "bits" (.int (B:Int)) (cy "stamper" (.ref f) [])=([("stamper",.ref f),("bits",.int (B:Int))]:List (Str×V)):=rfl
 rw [e2]
 have hx1:upd H x (.ins A.c_Table dx [("stamper",.ref f),("bits",.int (B:Int))]) x=some (.ins A.c_Table dx [("stamper",.ref f),("bits",.int (B:Int))]):=ap
 have s1:Stp A (upd H x (.ins A.c_Table dx [("stamper",.ref f),("bits",.int (B:Int))])) f b g n:=s.put (Nat.le_refl _) hx fun v z=>nomatch z
 intro y dy hy hdy ne
 refine ⟨y,dy,f,b,g,n,rfl,ap,s1.same (Nat.le_refl _) (iJ hy hdy ne),hn,fun g1 H1 k2 s2 sub=>⟨rfl,?_⟩⟩
 have kb:=qm hy hdy ne k2
 have hx2:=kb _ _ (s1.nb hx1 fun _ z=>nomatch z) hx1
 refine ⟨x,A.c_Table,dx,_,rfl,hx2,T.cl_Table,T.na_Table_top,by show 2<1000;decide,?_⟩
 have e3:cy "top" (.ref y) ([("stamper",.ref f),("bits",.int (B:Int))]:List (Str×V))=([("stamper",.ref f),("bits",.int (B:Int)),("top",.ref y)]:List (Str×V)):=rfl
 rw [e3]
 refine q g1 _ (fun z o zb zx e=>by rw [au zx];exact kb z o zb (by rw [au zx];exact e)) ⟨dx,y,ap⟩ (s2.put (Nat.le_refl _) hx2 fun v z=>?_) sub
 injection z with z;injection z with z;exact absurd z (by decide)
theorem BZ (K:W.Frag) (A:Adr):Ln (mW K A) 2:=by rintro vs H Q E ⟨x,f,B,v,d,rfl,_⟩;rfl
theorem Fk (T:Txt K mg A) (vs:List V) (H:Hp) (Q:VK) (E:XK) (h:mW K A vs H Q E):BG K A E { nx:=fun _ H'=>Q .non H',rt:=Q } (L2.bU ["table", "key", "steps", "knot"] vs) H:=by
 obtain ⟨x,f,B,v,d,rfl,⟨dx,y,o⟩,B60,hd,hk,q⟩:=h
 refine ⟨x,_,dx,_,_,rfl,o,T.cl_Table,T.na_Table_bits,rfl,(B:Int),v,d,rfl,by omega,by omega,hd,?_⟩
 rw [hk]
 exact Sel.yes rfl q
theorem DR (K:W.Frag) (A:Adr):Ln (rG K A) 3:=by rintro vs H Q E ⟨a,x,y,rfl,_⟩;rfl
theorem Hd (T:Txt K mg A):Rd (rG K A) (T_1 K A) ["self", "due", "came"]:=by
 intro vs H Q E h
 obtain ⟨a,x,y,rfl,ha,q⟩:=h
 refine ⟨a,rfl,T.ef_Broken_due,.inl ⟨ha,fun dx hdx ne=>?_⟩⟩
 refine ⟨a,rfl,T.ef_Broken_came,.inr ⟨dx,_,by rw [au (Ne.symm ne)];exact ap,ap,ne,by show 1<1000;decide,?_⟩⟩
 exact q dx hdx
end Rs
namespace Rs
open PySem PySem.Spec PyProof.Rows L2
variable {K:W.Frag} {mg:Str→Option Value} {A:Adr}
theorem Due.lt {H:Hp} {B:Int} {g:List Key→Option Key} {way:Int} {m:Key} {v w:V} {i:Nat} (h:Due H B g way m v w i):i=0∨i=1∨i=2:=by
 cases h
 · exact .inl rfl
 · exact .inr (.inl rfl)
 · exact .inr (.inr rfl)
theorem DM (K:W.Frag) (A:Adr):Ln (oV K A) 6:=by rintro vs H Q E ⟨f,b,g,n,i,⟨⟨way,B,m,v,w,rfl,_⟩,_⟩,_⟩;rfl
theorem Ii (T : Txt K mg A) (vs : List V) (H : Hp) (Q : VK) (E : XK) (h : oV K A vs H Q E) : T_9 K A E { nx := fun _ H' => Q .non H', rt := Q } (L2.bU ["_law_way", "_law_stamper", "_law_bits_here", "_law_mark_here", "_law_key_here", "_law_thing"] vs) H := by
  obtain ⟨f, b, g, n, i, ⟨⟨way, B, m, v, w, rfl, B1, B60, due⟩, s, hn⟩, q⟩ := h
  have qe0 : ∀ od H', ax H H' → E (.ref (cE A i)) od H' := fun od H' S => q od g H' (bd.same S) (s.same (by omega) S) Sub.rfl'
  have ask : way = 0 ∨ way = 1 → ∀ R, Ask A H B v w E R := fun hw R => by
    cases due with
    | key d hd h _ => exact .key d hd h (qe0 none H (.refl H))
    | paper k e hv k0 k1 he ok h _ => exact .paper k e hv k0 k1 he ok h fun H' S => qe0 none H' S
    | broken _ _ _ _ _ _ hw2 _ _ => omega
  refine Sel.dec (fun h0 => ?_) (fun h0 => ?_)
  · exact ⟨f, b, B, v, w, g, n, rfl, B1, B60, s, by omega, ask (.inl h0) _⟩
  refine Sel.dec (fun h1 => ?_) (fun h1 => ?_)
  · exact ⟨f, b, B, v, w, g, n, rfl, B1, B60, s, by omega, ask (.inr h1) _⟩
  refine Sel.dec (fun h2 => ?_) (fun h2 => ?_)
  · refine ⟨f, b, B, m, v, w, g, n, rfl, B1, B60, s, by omega, ?_⟩
    cases due with
    | key d hd h _ => exact .key d hd h (qe0 none H (.refl H))
    | paper k e hv k0 k1 he ok h _ => exact .paper k e hv k0 k1 he ok h fun H' S => qe0 none H' S
    | broken k st e came hv sl hw hc ne =>
      refine .good k st e hv sl fun x g1 H1 kb s1 sub okx ex => ⟨fun exm => ?_, fun _ dx H2 S2 _ => ?_⟩
      · exact absurd (show came = m by rw [hc _ ((cS g1).of sub), ← ex _ (cS g1), exm]) ne
      · exact q (some dx) g1 H2 (kb.trans (bd.same S2)) (s1.same (by omega) S2) sub
  · cases due with
    | key d hd h hw =>
      obtain ⟨N, rfl⟩ : ∃ N : Nat, B = N := ⟨B.toNat, by omega⟩
      intro x dx hx hdx ne
      refine ⟨x, dx, f, b, g, n, N, rfl, ap, s.same (Nat.le_refl _) (iJ hx hdx ne), by omega, by omega, by omega, fun g1 H1 k2 tb s1 sub => ⟨rfl, ?_⟩⟩
      have kb := qm hx hdx ne k2
      exact ⟨x, f, N, v, d, rfl, tb, by omega, hd.kb s kb, h, q none g1 H1 kb (s1.same (by omega) (.refl _)) sub⟩
    | paper _ _ _ _ _ _ _ _ hw => omega
    | broken _ _ _ _ _ _ hw _ _ => omega
theorem eoE (T:Txt K mg A):∀ i:Nat,bW K (cE A i)
 | 0=>T.eo_NoKey
 | 1=>T.eo_NoPaper
 | i+2=>T.eo_Broken
theorem egE (T:Txt K mg A):∀ i:Nat,cJ K (cE A i)
 | 0=>T.eg_NoKey
 | 1=>T.eg_NoPaper
 | i+2=>T.eg_Broken
theorem sbE (T:Txt K mg A):∀ i:Nat,cw K (cE A i) A.c_StampError=some true
 | 0=>T.sb_NoKey_StampError
 | 1=>T.sb_NoPaper_StampError
 | i+2=>T.sb_Broken_StampError
theorem kvE (T:Txt K mg A):∀ i:Nat,W.kitOne K (.ref (cE A i)) (.type "ValueError")=some true
 | 0=>T.ki_NoKey_ValueError
 | 1=>T.ki_NoPaper_ValueError
 | i+2=>T.ki_Broken_ValueError
theorem AY (K:W.Frag) (A:Adr):Ln (jk K A) 6:=by rintro vs H Q E ⟨f,b,g,n,i,⟨⟨way,B,m,v,w,rfl,_⟩,_⟩,_⟩;rfl
theorem EY (T:Txt K mg A):Rd (jk K A) (Ic K A) ["_law_way", "_law_stamper", "_law_bits_here", "_law_mark_here", "_law_key_here", "_law_thing", "_law_name_here"]:=by
 intro vs H Q E h
 obtain ⟨f,b,g,n,i,ak,q⟩:=h
 obtain ⟨way,B,m,v,w,rfl,B1,B60,due⟩:=ak.hv
 refine ⟨f,b,g,n,i,ak,fun od g1 H1 kb s1 sub=>⟨cE A i,rfl,eoE T i,?_⟩⟩
 have q:=q g1 H1 kb s1 sub
 rcases due.lt with rfl | rfl | rfl
 · exact ⟨true,T.sb_NoKey_NoKey,Sel.t q⟩
 · exact ⟨false,T.sb_NoPaper_NoKey,Sel.f ⟨true,T.sb_NoPaper_NoPaper,Sel.t q⟩⟩
 · exact ⟨false,T.sb_Broken_NoKey,Sel.f ⟨false,T.sb_Broken_NoPaper,Sel.f ⟨true,T.sb_Broken_Broken,Sel.t q⟩⟩⟩
theorem AF (K:W.Frag) (A:Adr):Ln (jC K A) 6:=by rintro vs H Q E ⟨f,b,g,n,i,⟨⟨way,B,m,v,w,rfl,_⟩,_⟩,_⟩;rfl
theorem Ei (T:Txt K mg A):Rd (jC K A) (HJ K A) ["_law_way", "_law_stamper", "_law_bits_here", "_law_mark_here", "_law_key_here", "_law_thing", "_law_kinds_here", "e"]:=by
 intro vs H Q E h
 obtain ⟨f,b,g,n,i,ak,q⟩:=h
 obtain ⟨way,B,m,v,w,rfl,B1,B60,due⟩:=ak.hv
 refine ⟨f,b,g,n,i,ak,fun od g1 H1 kb s1 sub=>⟨cE A i,rfl,eoE T i,true,sbE T i,Sel.t fun a ha=>?_⟩⟩
 have k3:W.kitOne K (.ref (cE A i)) (.ref A.c_NoKey)=some (i==0)∧W.kitOne K (.ref (cE A i)) (.ref A.c_NoPaper)=some (i==1)∧W.kitOne K (.ref (cE A i)) (.ref A.c_Broken)=some (i==2):=by
  rcases due.lt with rfl | rfl | rfl
  · exact ⟨T.ki_NoKey_NoKey,T.ki_NoKey_NoPaper,T.ki_NoKey_Broken⟩
  · exact ⟨T.ki_NoPaper_NoKey,T.ki_NoPaper_NoPaper,T.ki_NoPaper_Broken⟩
  · exact ⟨T.ki_Broken_NoKey,T.ki_Broken_NoPaper,T.ki_Broken_Broken⟩
 have S1:=ax.upd (o:=gc (cE A i) od a) ha
 refine ⟨a,cE A i,od,true,_,_,rfl,ap,eoE T i,egE T i,rfl,fun _ h=>h,kvE T i,?_⟩
 refine ⟨a,cE A i,od,_,_,_,rfl,ap,eoE T i,egE T i,rfl,fun _ h=>h,k3.1,?_⟩
 refine ⟨aB (show 2≤1000000 by decide),fun p hp=>?_⟩
 have S2:=ax.upd (o:=.lst [.bl true,.bl (i==0)]) hp
 have ha2:upd (upd H1 a (gc (cE A i) od a)) p (.lst [.bl true,.bl (i==0)]) a=some (gc (cE A i) od a):=S2 _ _ ap
 refine ⟨a,cE A i,od,_,_,_,rfl,ha2,eoE T i,egE T i,rfl,fun _ h=>h,k3.2.1,?_⟩
 refine ⟨a,cE A i,od,_,_,_,rfl,ha2,eoE T i,egE T i,rfl,fun _ h=>h,k3.2.2,?_⟩
 refine ⟨aB (show 2≤1000000 by decide),fun r hr=>?_⟩
 have S3:=ax.upd (o:=.lst [.bl (i==1),.bl (i==2)]) hr
 refine .inl ⟨p,r,_,_,rfl,rfl,S3 _ _ ap,ap,aB (show 4≤1000000 by decide),fun t ht=>?_⟩
 have S:=S1.trans (S2.trans (S3.trans (ax.upd (o:=.lst [.bl true,.bl (i==0),.bl (i==1),.bl (i==2)]) ht)))
 exact q t g1 _ (kb.trans (bd.same S)) (s1.same (Nat.le_refl _) S) sub ap
theorem Ak (K:W.Frag) (A:Adr):Ln (nX K A) 5:=by rintro vs H Q E ⟨f,b,B,k,m,came,w,st,e,g,n,rfl,_⟩;rfl
theorem Et (T:Txt K mg A):Rd (nX K A) (GT K A) ["_law_stamper", "_law_bits_here", "_law_mark_here", "_law_key_here", "_law_thing", "_law_found", "e"]:=by
 intro vs H Q E h
 obtain ⟨f,b,B,k,m,came,w,st,e,g,n,rfl,sl,s,hn,hc,ne,q⟩:=h
 refine ⟨f,b,B,m,.int k,w,g,n,rfl,sl.2.b1,sl.2.b60,s,by omega,.good k st e rfl sl fun x g1 H1 kb s1 sub okx ex=>⟨fun exm=>?_,fun _ dx H2 S2 hdx=>?_⟩⟩
 · exact absurd (show came=m by rw [hc _ ((cS g1).of sub),←ex _ (cS g1),exm]) ne
 · have exc:x=came:=by rw [hc _ ((cS g1).of sub),←ex _ (cS g1)]
   subst exc
   refine ⟨A.c_Broken,rfl,T.eo_Broken,true,T.sb_Broken_Broken,Sel.t fun a ha=>?_⟩
   have nd:dx≠a:=aD hdx ha
   have hx:upd H2 a (gc A.c_Broken (some dx) a) dx=some (gC (cy "came" (kV x) [("due",kV m)]) dx):=by rw [au nd];exact hdx
   refine ⟨a,A.c_Broken,dx,_,kV m,rfl,ap,hx,T.ef_Broken_due,rfl,a,A.c_Broken,dx,_,kV x,rfl,ap,hx,T.ef_Broken_came,rfl,aB (show 2≤1000000 by decide),fun r hr=>?_⟩
   have S:=S2.trans ((ax.upd (o:=gc A.c_Broken (some dx) a) ha).trans (ax.upd (o:=.tup [kV m,kV x]) hr))
   exact q r g1 _ (kb.trans (bd.same S)) (s1.same (by omega) S) sub ap
end Rs
namespace Rs
open PySem PySem.Spec PyProof.Rows L2
variable {K:W.Frag} {mg:Str→Option Value} {A:Adr}
def oF (P:Hp→V→Prop):Prop:=∀ H H' v,ax H H'→P H v→P H' v
def ky (te:TE) (σ:L2.St) (H:Hp) (P:Hp→V→Prop):Prop:=∀ R:VK,(∀ v H',ax H H'→P H' v→R v H')→te σ H R
def iV (t:TA) (σ:L2.St) (H:Hp) (P:Hp→V→Prop) (n:Nat):Prop:=∀ R:List V→Hp→Prop,(∀ xs H',ax H H'→xs.length=n→(∀ x∈xs,P H' x)→R xs H')→t σ H R
theorem kU {σ:L2.St} {H:Hp} {P:Hp→V→Prop}:iV ag σ H P 0:=fun R h=>h [] H (.refl H) rfl (fun x hx=>nomatch hx)
theorem bn {te:TE} {tr:TA} {σ:L2.St} {H:Hp} {P:Hp→V→Prop} {n:Nat} (mo:oF P) (h1:ky te σ H P) (h2:∀ H',ax H H'→iV tr σ H' P n):iV (aa te tr) σ H P (n+1):=fun R h=>
 h1 _ fun v H1 s1 p1=>h2 H1 s1 _ fun xs H2 s2 hl p2=>h (v::xs) H2 (s1.trans s2) (by rw [List.length_cons,hl]) fun x hx=>by
  rcases List.mem_cons.mp hx with rfl | hx
  · exact mo _ _ _ s2 p1
  · exact p2 x hx
theorem nZ {ta:TA} {σ:L2.St} {H:Hp} {P:Hp→V→Prop} (vs:List V) (hl:vs.length≤1000) (ht:∀ R,R vs H→ta σ H R) (hp:∀ p H',ax H H'→H' p=some (.tup vs)→P H' (.ref p)):ky (bf ta) σ H P:=fun R h=>
 ht _ ⟨aB (by omega),fun p hn=>h _ _ (ax.upd hn) (hp p _ (ax.upd hn) ap)⟩
theorem nS {ta:TA} {σ:L2.St} {H:Hp} {P:Hp→V→Prop} (vs:List V) (hl:vs.length≤1000) (ht:∀ R,R vs H→ta σ H R) (hp:∀ p H',ax H H'→H' p=some (.lst vs)→P H' (.ref p)):ky (bz ta) σ H P:=fun R h=>
 ht _ ⟨aB (by omega),fun p hn=>h _ _ (ax.upd hn) (hp p _ (ax.upd hn) ap)⟩
theorem dW {te:TE} {σ:L2.St} {H:Hp} {P:Hp→V→Prop} (v:V) (ht:∀ R,R v H→te σ H R) (hp:P H v):ky te σ H P:=fun R h=>ht _ (h v H (.refl H) hp)
theorem lQ {t:TA} {σ:L2.St} {H:Hp} {P:Hp→V→Prop} {n:Nat} {R:VK} (mo:oF P) (g:iV t σ H P n) (hn:n≤1000) (h:∀ p xs H',ax H H'→H' p=some (.lst xs)→xs.length=n→(∀ x∈xs,P H' x)→R (.ref p) H'):bz t σ H R:=
 g _ fun xs H1 s1 hl p1=>⟨aB (by omega),fun p hn=>h p xs _ (s1.trans (ax.upd hn)) ap hl fun x hx=>mo _ _ _ (ax.upd hn) (p1 x hx)⟩
theorem pd {K:W.Frag} {t:TA} {σ:L2.St} {H:Hp} {P:Hp→V→Prop} {n m:Nat} {i:Nat} {a:Addr} {ys:List V} {R:VK} (mo:oF P) (hi:σ[i]?=some (some (.ref a))) (ha:H a=some (.lst ys)) (hm:ys.length=m) (py:∀ y∈ys,P H y) (g:iV t σ H P n) (hn:m+n≤1000)
   (h:∀ p xs H',ax H H'→H' p=some (.lst xs)→xs.length=m+n→(∀ x∈xs,P H' x)→R (.ref p) H'):tOp (aV K) (ae i) (bz t) σ H R:=by
 unfold tOp ae
 rw [hi]
 refine lQ mo g (by omega) fun p xs H1 s1 hp hl p1=> .inl ⟨a,p,ys,xs,rfl,rfl,s1 _ _ ha,hp,aB (by omega),fun r hr=>?_⟩
 refine h r _ _ (s1.trans (ax.upd hr)) ap (by rw [List.length_append];omega) fun x hx=>mo _ _ _ (ax.upd hr) ?_
 rcases List.mem_append.mp hx with z | z
 · exact mo _ _ _ s1 (py x z)
 · exact p1 x z
def dH (B:Int) (H:Hp) (v:V):Prop:=∃ d,aR H v d∧cT B d=false
theorem dH.mono (B:Int):oF (dH B):=fun _ _ _ s ⟨d,w,h⟩=>⟨d,w.mono s,h⟩
theorem yu {σ:L2.St} {H:Hp} {P:Hp→V→Prop} (hp:∀ p H',ax H H'→H' p=some (.dK [])→P H' (.ref p)):ky fm σ H P:=fun R h=> .inl fun p hn=>h _ _ (ax.upd hn) (hp p _ (ax.upd hn) ap)
theorem BO (K:W.Frag) (A:Adr):Ln (kE K A) 2:=by rintro vs H Q E ⟨B,c,rfl,_⟩;rfl
theorem EK (T:Txt K mg A):Rd (kE K A) (Ih K A) ["_law_bits_here", "_law_cell", "_law_far"]:=by
 intro vs H Q E h
 obtain ⟨B,c,rfl,B1,B60,q⟩:=h
 have sh:(0:Int)≤B∧B.toNat≤100:=⟨by omega,by omega⟩
 refine ⟨⟨by omega,by omega,by decide⟩,⟨by decide,by decide,by decide⟩,by decide,?_⟩
 have p0:=cZ B.toNat
 have m0:0≤c%10^40:=Int.emod_nonneg _ (by decide +kernel)
 have e1:(1:Int)*2^B.toNat=2^B.toNat:=Int.one_mul _
 show BF K A _ [some (.int B),some (.int c),some (.int (1*2^B.toNat+c%10^40))] H
 rw [e1]
 have f0:2^B.toNat≤2^B.toNat+c%10^40:=by omega
 generalize 2^B.toNat+c%10^40=F at f0
 have no:∀ i:Int,(i<0∨2^B.toNat≤i)→cT B (.int i)=false:=fun i h=>decide_eq_false fun z=>by rcases h with h | h <;> omega
 refine lQ (dH.mono B) (n:=14) ?_ (by decide) fun L xs H1 S1 hL hl hx=>q L xs H1 S1 hL hl hx
 refine bn (dH.mono B) (dW (.int (-1)) (fun R h=>h) ⟨_,.int _,no _ (.inl (by decide))⟩) fun H1 S1=>?_
 refine bn (dH.mono B) (dW (.int (1*2^B.toNat)) (fun R h=>⟨⟨by omega,by omega,by decide⟩,h⟩) ⟨_,.int _,no _ (.inr (by omega))⟩) fun H2 S2=>?_
 refine bn (dH.mono B) (dW (.int F) (fun R h=>h) ⟨_,.int _,no _ (.inr f0)⟩) fun H3 S3=>?_
 refine bn (dH.mono B) (dW (.int (-F)) (fun R h=>h) ⟨_,.int _,no _ (.inl (by omega))⟩) fun H4 S4=>?_
 refine bn (dH.mono B) (dW (.bl true) (fun R h=>h) ⟨_,.bl _,rfl⟩) fun H5 S5=>?_
 refine bn (dH.mono B) (dW (.bl false) (fun R h=>h) ⟨_,.bl _,rfl⟩) fun H6 S6=>?_
 refine bn (dH.mono B) (dW .non (fun R h=>h) ⟨_,.non,rfl⟩) fun H7 S7=>?_
 refine bn (dH.mono B) (dW (.str "0") (fun R h=>h) ⟨_,.str _,rfl⟩) fun H8 S8=>?_
 refine bn (dH.mono B) (nS [.int 0] (by simp) (fun R h=>h) fun p H' S hp=>⟨_,.lst hp (.cons (.int 0) .nil),rfl⟩) fun H9 S9=>?_
 refine bn (dH.mono B) (nZ [.int 0] (by simp) (fun R h=>h) fun p H' S hp=>⟨_,.tup hp (.cons (.int 0) .nil),rfl⟩) fun H10 S10=>?_
 refine bn (dH.mono B) (yu fun p H' S hp=>⟨_,.dic ⟨_,hp⟩,rfl⟩) fun H11 S11=>?_
 refine bn (dH.mono B) (dW (.str "") (fun R h=>h) ⟨_,.str _,rfl⟩) fun H12 S12=>?_
 refine bn (dH.mono B) (nS [] (by simp) (fun R h=>h) fun p H' S hp=>⟨_,.lst hp .nil,rfl⟩) fun H13 S13=>?_
 refine bn (dH.mono B) (nZ [] (by simp) (fun R h=>h) fun p H' S hp=>⟨_,.tup hp .nil,rfl⟩) fun H14 S14=>?_
 exact kU
def ph (B k:Int) (H:Hp) (v:V):Prop:=∃ d,aR H v d∧fY d∧dw B k d=false
theorem ph.mono (B k:Int):oF (ph B k):=fun _ _ _ s ⟨d,w,h⟩=>⟨d,w.mono s,h⟩
theorem uF {B k l:Int} {x z:Dat}:bO B k l (.tup [.str "leave",x,z])=false:=by
 have e1:du B l (aJ B k l) (.tup [.str "leave",x,z])=false:=by
  have e0:cf "leaf" (.str "leave")=false:=by decide +kernel
  cases x with
  | int i=>simp only [du,e0,Bool.false_and]
  | _=>rfl
 cases x <;> cases z <;> (unfold bO;rw [e1];rfl)
theorem nw (b:Bool):(b&&false)=false:=by cases b <;> rfl
theorem uz {e:List Key} (h:okT e=true):∃ x,atI (e.map kV) (-1)=some (kV x):=by
 have:=(gF h).1
 obtain ⟨pre,x,rfl⟩:∃ pre x,e=pre++[x]:=⟨e.dropLast,e.getLast (by intro z;subst z;simp at this),(List.dropLast_concat_getLast _).symm⟩
 exact ⟨x,by rw [List.map_append];exact pF _ _⟩
theorem Bj (K:W.Frag) (A:Adr):Ln (kG K A) 3:=by rintro vs H Q E ⟨B,k,v,st,e,m,rfl,_⟩;rfl
theorem FE (T : Txt K mg A) : Rd (kG K A) (Hs K A) ["_law_bits_here", "_law_slip", "_law_mark_here", "_law_steps_here", "_law_end_here", "_law_some"] := by
  intro vs H Q E h
  obtain ⟨B, k, v, st, e, m, rfl, w, q⟩ := h
  have gd := w.2
  have gl := gd.len
  obtain ⟨a, s, t, xs, rfl, ha, hs, ws, ht⟩ := gJ w
  have hxl : xs.length = st.length := by rw [ws.len]; simp
  have dS : ∀ H', ax H H' → aR H' (.ref s) (.tup (st.map stD)) := fun H' S => .tup (S _ _ hs) (ws.mono S)
  have dE : ∀ H', ax H H' → aR H' (.ref t) (.tup (e.map bi)) := fun H' S => by
    cases w.1 with
    | tup hh r =>
      rw [ha] at hh; cases hh
      cases r with
      | cons _ r => cases r with
        | cons r _ => exact r.mono S
  obtain ⟨x, hx⟩ := uz gd.et
  have mo := ph.mono B k
  refine ⟨a, _, rfl, SqT.of ha, rfl, _, _, rfl, _, _, rfl, rfl, ?_⟩
  show uN K A _ [some (.int B), some (.ref a), some (kV m), some (.ref s), some (.ref t), none] H
  unfold uN ar aC
  refine lQ mo (n := 6) ?_ (by decide) fun L1 ys1 H1 S1 hL1 hl1 hy1 => ?_
  · refine bn mo (nS [.ref s, .ref t] (by simp) (fun R h => h) fun p H' S hp => ⟨_, .lst hp (.cons (dS _ S) (.cons (dE _ S) .nil)), trivial, rfl⟩) fun H1 S1 => ?_
    refine bn mo (nZ [.ref s] (by simp) (fun R h => h) fun p H' S hp => ⟨_, .tup hp (.cons (dS _ (S1.trans S)) .nil), trivial, rfl⟩) fun H2 S2 => ?_
    have S12 := S1.trans S2
    refine bn mo (fun R h => ?_) fun H3 S3 => ?_
    · refine .inl (.inr (.inl ⟨t, _, -1, kV x, rfl, rfl, SqT.of (S12 _ _ ht), hx, aB (show 3 ≤ 1000000 by decide), fun p hp => ⟨aB (show 2 ≤ 1000000 by decide), fun r hr => ?_⟩⟩))
      have Sp := ax.upd (o := .tup [.str "leave", kV x, .str "a"]) hp
      have Sr := ax.upd (o := .tup [.ref s, .ref p]) hr
      refine h _ _ (Sp.trans Sr) ⟨.tup [.tup (st.map stD), .tup [.str "leave", bi x, .str "a"]], .tup ap (.cons (dS _ (S12.trans (Sp.trans Sr))) (.cons (.tup (Sr _ _ ap) (.cons (.str _) (.cons (gU _ x) (.cons (.str _) .nil)))) .nil)), .inl ⟨?_, ?_⟩, ?_⟩
      · show (okD (.str "leave") && (okD (bi x) && (okD (.str "a") && true))) = true
        have okx : okP x = true := by
          have := List.all_eq_true.mp (eY gd.et) x
          refine this ?_
          unfold atI at hx
          obtain ⟨j, _, hj⟩ := Option.bind_eq_some_iff.mp hx
          obtain ⟨y, hy, ey⟩ := gQ hj
          have : x = y := by cases x <;> cases y <;> first | (cases ey; rfl) | cases ey
          rw [this]; exact List.mem_of_getElem? hy
        rw [(qY okx).1, show okD (.str "leave") = true by decide +kernel, show okD (.str "a") = true by decide +kernel]; rfl
      · show max 0 (max (df (bi x)).depth (max 0 0)) + 1 ≤ 140
        rw [lL]; decide
      · show (aU B 0 (st.map stD) && bO B k _ _) = false
        rw [uF, nw]
    have S13 := S12.trans S3
    refine bn mo (dW .non (fun R h => h) ⟨_, .non, trivial, rfl⟩) fun H4 S4 => ?_
    refine bn mo (dW (.str "") (fun R h => h) ⟨_, .str _, trivial, rfl⟩) fun H5 S5 => ?_
    refine bn mo (dW (.int 7) (fun R h => h) ⟨_, .int _, trivial, rfl⟩) fun H6 S6 => ?_
    exact kU
  show pO K A _ [some (.int B), some (.ref a), some (kV m), some (.ref s), some (.ref t), some (.ref L1)] H1
  have bad : ∀ (z : Dat) (H2 H3 : Hp) (ys : List V) (p r : Addr), ax H H3 → DatWs H3 ys [z] → H3 p = some (.tup (xs ++ ys)) → H3 r = some (.tup [.ref p, .ref t]) → bq B 0 z = false → ph B k H3 (.ref r) := fun z H2 H3 ys p r S wz hp hr hz => by
    refine ⟨.tup [.tup (st.map stD ++ [z]), .tup (e.map bi)], .tup hr (.cons (.tup hp ((ws.mono S).append wz)) (.cons (dE _ S) .nil)), gd.okE, ?_⟩
    show (aU B 0 (st.map stD ++ [z]) && _) = false
    rw [gf hz (Int.le_refl 0) (j := (st.map stD).length) (by simp)]; rfl
  have gb : ∀ (u1 u2 : V) (z1 z2 : Dat) (p1 p2 : Addr) (H2 : Hp) (R : VK), ax H H2 → H2 p1 = none → upd H2 p1 (.tup [u1, u2]) p2 = none → (∀ H3, aR H3 u1 z1) → (∀ H3, aR H3 u2 z2) → bq B 0 (.tup [z1, z2]) = false → (∀ v H', ax H2 H' → ph B k H' v → R v H') → rB (.ref s) (.ref p2) (upd (upd H2 p1 (.tup [u1, u2])) p2 (.tup [.ref p1])) (fun x H1 => [x, .ref t].length ≤ sizeLine ∧ ∀ p, H1 p = none → R (.ref p) (upd H1 p (.tup [x, .ref t]))) := by
    intro u1 u2 z1 z2 p1 p2 H2 R S2 hp1 hp2 w1 w2 hz h
    have Sa := ax.upd (o := .tup [u1, u2]) hp1
    have Sb := ax.upd (o := .tup [.ref p1]) hp2
    have Sab := Sa.trans Sb
    refine ⟨s, p2, xs, [.ref p1], rfl, rfl, Sab _ _ (S2 _ _ hs), ap, aB (by rw [hxl]; show st.length + 1 ≤ 1000000; omega), fun p H3 S3 hp => ⟨aB (show 2 ≤ 1000000 by decide), fun r hr => ?_⟩⟩
    have Sc := ax.upd (o := .tup [.ref p, .ref t]) hr
    have S := Sab.trans (S3.trans Sc)
    exact h _ _ S (bad (.tup [z1, z2]) H2 _ [.ref p1] p r (S2.trans S) (.cons (.tup (Sb.trans (S3.trans Sc) _ _ ap) (.cons (w1 _) (.cons (w2 _) .nil))) .nil) (Sc _ _ hp) ap hz)
  unfold pO ar aC
  refine pd mo (i := 5) (a := L1) (m := 6) (n := 2) rfl hL1 hl1 hy1 ?_ (by decide) fun L2 ys2 H2 S2 hL2 hl2 hy2 => ?_
  · have z1 : bq B 0 (.tup [.int B, bi m]) = false := by
      show (decide (0 ≤ B ∧ B < B) && _) = false
      rw [decide_eq_false (by omega)]; rfl
    have z2 : bq B 0 (.tup [.int 0, .int (-1)]) = false := by
      show (decide (0 ≤ (0 : Int) ∧ (0 : Int) < B) && decide (0 ≤ (-1 : Int) ∧ (-1 : Int) < 10 ^ 60)) = false
      rw [decide_eq_false (p := 0 ≤ (-1 : Int) ∧ (-1 : Int) < 10 ^ 60) (by omega), nw]
    refine bn mo (fun R h => ⟨aB (show 2 ≤ 1000000 by decide), fun p1 hp1 => ⟨aB (show 1 ≤ 1000000 by decide), fun p2 hp2 => .inr (gb (.int B) (kV m) (.int B) (bi m) p1 p2 H1 R S1 hp1 hp2 (fun H3 => .int _) (fun H3 => gU _ m) z1 h)⟩⟩) fun H3 S3 => ?_
    exact bn mo (fun R h => ⟨aB (show 2 ≤ 1000000 by decide), fun p1 hp1 => ⟨aB (show 1 ≤ 1000000 by decide), fun p2 hp2 => .inr (gb (.int 0) (.int (-1)) (.int 0) (.int (-1)) p1 p2 H3 R (S1.trans S3) hp1 hp2 (fun H3 => .int _) (fun H3 => .int _) z2 h)⟩⟩) fun H4 S4 => kU
  have S12 := S1.trans S2
  show ou K A _ [some (.int B), some (.ref a), some (kV m), some (.ref s), some (.ref t), some (.ref L2)] H2
  have endN : ∀ z, (∀ w, z ≠ .tup w) → bO B k (gj (st.map stD)) z = false := fun z hz => by
    cases z <;> first | rfl | exact absurd rfl (hz _)
  unfold ou az
  refine pd mo (i := 5) (a := L2) (m := 8) (n := 6) rfl hL2 hl2 hy2 ?_ (by decide) fun L3 ys3 H3 S3 hL3 hl3 hy3 => q L3 ys3 H3 (S12.trans S3) hL3 hl3 hy3
  refine bn mo (fun R h => ⟨aB (show 0 ≤ 1000000 by decide), fun p hp => ⟨aB (show 3 ≤ 1000000 by decide), fun r hr => ?_⟩⟩) fun H3 S3 => ?_
  · have Sa := ax.upd (o := .tup []) hp
    have Sb := ax.upd (o := .tup [.ref s, .ref t, .ref p]) hr
    have S := S12.trans (Sa.trans Sb)
    exact h _ _ (Sa.trans Sb) ⟨_, .tup ap (.cons (dS _ S) (.cons (dE _ S) (.cons (.tup (Sb _ _ ap) .nil) .nil))), trivial, rfl⟩
  refine bn mo (nZ [.ref s, .non] (by simp) (fun R h => h) fun p H' S hp => ⟨_, .tup hp (.cons (dS _ (S12.trans (S3.trans S))) (.cons .non .nil)), .inl ⟨rfl, by decide⟩, ?_⟩) fun H4 S4 => ?_
  · show (aU B 0 (st.map stD) && bO B k _ .non) = false
    rw [endN .non (fun _ z => nomatch z), nw]
  refine bn mo (yu fun p H' S hp => ⟨_, .dic ⟨_, hp⟩, trivial, rfl⟩) fun H5 S5 => ?_
  refine bn mo (nS [] (by simp) (fun R h => h) fun p H' S hp => ⟨_, .lst hp .nil, trivial, rfl⟩) fun H6 S6 => ?_
  refine bn mo (dW (.bl true) (fun R h => h) ⟨_, .bl _, trivial, rfl⟩) fun H7 S7 => ?_
  have S37 := S12.trans (S3.trans (S4.trans (S5.trans (S6.trans S7))))
  refine bn mo (fun R h => ⟨aB (show 1 ≤ 1000000 by decide), fun p hp => ⟨aB (show 2 ≤ 1000000 by decide), fun r hr => ?_⟩⟩) fun H8 S8 => kU
  have Sa := ax.upd (o := .lst [.str "bare"]) hp
  have Sb := ax.upd (o := .tup [.ref s, .ref p]) hr
  refine h _ _ (Sa.trans Sb) ⟨.tup [.tup (st.map stD), .lst [.str "bare"]], .tup ap (.cons (dS _ (S37.trans (Sa.trans Sb))) (.cons (.lst (Sb _ _ ap) (.cons (.str _) .nil)) .nil)), .inl ⟨by decide +kernel, by decide⟩, ?_⟩
  show (aU B 0 (st.map stD) && bO B k _ (.lst [.str "bare"])) = false
  rw [endN (.lst [.str "bare"]) (fun _ z => nomatch z), nw]
end Rs
namespace Rs
open PySem PySem.Spec PyProof.Rows L2
variable {K:W.Frag} {mg:Str→Option Value} {A:Adr}
theorem rJ {H:Hp} {Q:VK} {a:Addr} {xs:List V} {i:Int} (ha:H a=some (.lst xs)) (h0:0≤i) (h1:i<xs.length) (q:∀ v∈xs,Q v H):aM K (.ref a) (.int i) H Q:=by
 obtain ⟨v,hv⟩:=pD h0 h1
 obtain ⟨j,_,hj,_⟩:=fO hv
 exact .inl (.inl ⟨a,xs,i,v,rfl,rfl,SqL.of ha,hv,q v (List.mem_of_getElem? hj)⟩)
theorem rl (k:Int) (e:List Key):gx k e=.non∨∃ z,gx k e=.str z:=by
 unfold gx
 split
 · split
   · exact .inr ⟨_,rfl⟩
   · exact .inl rfl
 · exact .inl rfl
theorem mv {h:List Key→Key} {b k:Int}:∀ (r:List (Int×Key)) (e:List Key),(dJ h b k e r).length=r.length+1
 | [],e=>rfl
 | s::r,e=>by show (dJ _ _ _ _ r).length+1=_;rw [mv r];rfl
theorem BU (K:W.Frag) (A:Adr):Ln (im K A) 4:=by rintro vs H Q E ⟨f,b,B,k,v,st,e,g,n,rfl,_⟩;rfl
theorem Dr (T:Txt K mg A):Rd (im K A) (GF K A) ["_law_stamper", "_law_bits_here", "_law_key_here", "_law_slip", "_law_due", "_law_mark_here"]:=by
 intro vs H Q E h
 obtain ⟨f,b,B,k,v,st,e,g,n,rfl,w,sp,hn,q⟩:=h
 have gl:=w.2.len
 refine ⟨f,b,B,k,v,st,e,g,n,rfl,w,sp,by omega,fun L1 ps1 ts g1 H1 kb1 s1 sub1 hn1 hL1 pk1 sz1 ch1=>?_⟩
 have tl:ts.length≤1000:=by rw [ch1 _ (cS g1),mv,List.length_reverse];omega
 obtain ⟨pre,cur,rfl,hc⟩:=gA ch1
 obtain ⟨qs,pc,rfl,hpc,okc⟩:=gY pk1
 refine ⟨f,rfl,s1.clo,gG hL1 (fS s1 (by omega) hpc okc fun x H2 g2 kb2 s2 sub2 gv so=>?_)⟩
 have hx:∀ h,Ext g2 h→x=h (eN h B k e st.reverse):=fun h he=>by
  rw [hc h (he.of sub2)];exact (he _ _ gv).symm
 have w2:=(w.kb sp kb1).kb s1 kb2
 refine ⟨f,b,B,.int k,v,g2,_,rfl,w.2.b1,w.2.b60,s2,by omega,.good k st e rfl w2 fun L2 ps2 ts2 g3 H3 kb3 s3 sub3 hn3 hL3 pk3 sz3 ch3=>?_⟩
 have et:ts2=pre++[cur]:=by rw [ch3 _ (cS g3),ch1 _ (((cS g3).of sub3).of sub2)]
 subst et
 refine ⟨L2,L1,ps2,qs++[pc],pre++[cur],rfl,hL3,s2.lst kb3 _ _ (s1.lst kb2 _ _ hL1),pk3,jx (s2.tup kb3) (jx (s1.tup kb2) pk1),tl,Sel.no rfl ?_⟩
 refine ⟨f,b,B,x,.int k,v,g3,_,rfl,w.2.b1,w.2.b60,s3,by omega,.good k st e rfl (w2.kb s2 kb3) fun y g4 H4 kb4 s4 sub4 oky ey=>?_⟩
 have exy:y=x:=by rw [ey _ (cS g4),hx _ (((cS g4).of sub4).of sub3)]
 refine ⟨fun _=>?_,fun ne=>absurd exy ne⟩
 exact ⟨B,k,v,st,e,rfl,(w2.kb s2 kb3).kb s3 kb4,gx k e,rfl,rl k e,q g4 H4 (kb1.trans (kb2.trans (kb3.trans kb4))) (s4.same (by omega) (.refl _)) (sub1.trans (sub2.trans (sub3.trans sub4)))⟩
theorem rF {H:Hp} {Q:VK} {L p:Addr} {b1 b2 b3 b4:Bool} (hL:H L=some (.lst [.bl b1,.bl b2,.bl b3,.bl b4])) (hp:H p=some (.lst [.bl b1,.bl b2,.bl b3,.bl b4])) (q:Q (.bl false) H):cB K (.ref L) (.ref p) H Q:=by
 have w:∀ a,H a=some (.lst [.bl b1,.bl b2,.bl b3,.bl b4])→aR H (.ref a) (.lst [.bl b1,.bl b2,.bl b3,.bl b4]):=fun a h=> .lst h (.cons (.bl _) (.cons (.bl _) (.cons (.bl _) (.cons (.bl _) .nil))))
 refine ⟨_,_,(w L hL).toV rfl,(w p hp).toV rfl,eT rfl,eT rfl,(by show 1≤150;decide),?_⟩
 have e:(df (.lst [.bl b1,.bl b2,.bl b3,.bl b4])).eqv (df (.lst [.bl b1,.bl b2,.bl b3,.bl b4]))=true:=by cases b1 <;> cases b2 <;> cases b3 <;> cases b4 <;> decide
 rw [e];exact q
theorem Cs (K:W.Frag) (A:Adr):Ln (kH K A) 7:=by rintro vs H Q E ⟨f,b,M,B,k,ms,x,y,w,d,e,st,en,g,n,rfl,_⟩;rfl
theorem Fh (T:Txt K mg A):Rd (kH K A) (Ik K A) ["_law_stamper", "_law_bits_here", "_law_marks", "_law_bad_key", "_law_key_here", "_law_bad", "_law_slip", "_law_way", "_law_mark_here", "_law_thing", "_law_kinds_here"]:=by
 intro vs H Q E h
 obtain ⟨f,b,M,B,k,ms,x,y,w,d,e,st,en,g,n,rfl,s,hn,hM,lM,hd,nk,he,oke,ne,sl,q⟩:=h
 have B1:=sl.2.b1
 have B60:=sl.2.b60
 refine ⟨4,rfl,by decide,by decide,fu (lo:=0) (n:=4) (fun i σ H'=>∃ g' x7 x8 x9 x10,σ=[some (.ref f),some (.int B),some (.ref M),some x,some (.int k),some y,some w,x7,x8,x9,x10]∧bd b H H'∧Stp A H' f b g' (n+450*i)∧Sub g g') ⟨g,none,none,none,none,rfl,bd.rfl',s,Sub.rfl'⟩ ?_ ?_⟩
 · rintro i σ H1 hi ⟨g1,x7,x8,x9,x10,rfl,kb1,s1,sub1⟩
   have hM1:=s.lst kb1 _ _ hM
   have hi4:i<4:=hi
   refine .inl (.inl ⟨_,SqL.of hM1,?_⟩)
   rw [List.length_map,lM]
   refine ⟨by decide,rJ hM1 (by omega) (by rw [List.length_map,lM];omega) fun v hv=>?_⟩
   obtain ⟨m,_,rfl⟩:=List.mem_map.mp hv
   refine ⟨aB (show 2≤1000000 by decide),fun D hD=>⟨D,rfl,.inl ⟨⟨_,SqL.of ap⟩,?_⟩⟩⟩
   have S1:=ax.upd (o:=.lst [w,y]) hD
   have wayE:(0+(i:Int)=0∨0+(i:Int)=1∨0+(i:Int)=2∨0+(i:Int)=3):=by omega
   refine ij (xs:=[w,y]) (fun j σ H'=>∃ g' x9 x10,σ=[some (.ref f),some (.int B),some (.ref M),some x,some (.int k),some y,some w,some (.int (0+(i:Int))),some (kV m),x9,x10]∧bd b H H'∧Stp A H' f b g' (n+450*i+150*j)∧Sub g g'∧H' D=some (.lst [w,y]))
     ⟨g1,x9,x10,rfl,kb1.trans (bd.same S1),s1.same (Nat.le_refl _) S1,sub1,ap⟩ ?_ ?_ ?_
   · rintro j σ H' _ ⟨_,_,_,_,_,_,_,e⟩;exact SqL.of e
   · rintro j u σ H2 hu ⟨g2,y9,y10,rfl,kb2,s2,sub2,hD2⟩
     have hj:j<2:=(List.getElem?_eq_some_iff.mp hu).1
     refine ⟨f,b,g2,_,0,⟨⟨0+(i:Int),B,m,x,u,rfl,B1,B60,.key d (hd.kb s kb2) nk wayE⟩,s2,by omega⟩,fun g3 H3 kb3 s3 sub3=>Sel.no rfl ?_⟩
     have kb3':=kb2.trans kb3
     refine ⟨f,b,g3,_,0,⟨⟨0+(i:Int),B,m,x,u,rfl,B1,B60,.key d (hd.kb s kb3') nk wayE⟩,s3,by omega⟩,fun L g4 H4 kb4 s4 sub4 hL=>?_⟩
     refine ⟨aB (show 4≤1000000 by decide),fun p hp=>rF (ax.upd hp _ _ hL) ap (Sel.no rfl ?_)⟩
     have S5:=ax.upd (o:=.lst [.bl true,.bl true,.bl false,.bl false]) hp
     exact ⟨g4,_,_,rfl,(kb3'.trans kb4).trans (bd.same S5),s4.same (by omega) S5,sub2.trans (sub3.trans sub4),S5 _ _ (s3.lst kb4 _ _ (s2.lst kb3 _ _ hD2))⟩
   · rintro σ H2 ⟨g2,y9,y10,rfl,kb2,s2,sub2,hD2⟩
     have s2:Stp A H2 f b g2 (n+450*i+300):=s2
     refine Sel.dec (fun h3=>?_) (fun h3=>?_)
     · have h3:0+(i:Int)<3:=h3
       have wayP:(0+(i:Int)=0∨0+(i:Int)=1∨0+(i:Int)=2):=by omega
       refine ⟨f,b,g2,_,1,⟨⟨0+(i:Int),B,m,.int k,y,rfl,B1,B60,.paper k e rfl sl.2.k0 sl.2.k1 (he.kb s kb2) oke ne wayP⟩,s2,by omega⟩,fun L g3 H3 kb3 s3 sub3 hL=>?_⟩
       have kb3':=kb2.trans kb3
       refine ⟨f,b,g3,_,1,⟨⟨0+(i:Int),B,m,.int k,y,rfl,B1,B60,.paper k e rfl sl.2.k0 sl.2.k1 (he.kb s kb3') oke ne wayP⟩,s3,by omega⟩,fun g4 H4 kb4 s4 sub4=>Sel.no rfl ?_⟩
       refine ⟨aB (show 4≤1000000 by decide),fun p hp=>rF (ax.upd hp _ _ (s3.lst kb4 _ _ hL)) ap (Sel.no rfl ?_)⟩
       have S5:=ax.upd (o:=.lst [.bl true,.bl false,.bl true,.bl false]) hp
       exact ⟨g4,_,_,_,_,rfl,(kb3'.trans kb4).trans (bd.same S5),s4.same (by omega) S5,sub2.trans (sub3.trans sub4)⟩
     · exact ⟨g2,_,_,_,_,rfl,kb2,s2.same (by omega) (.refl _),sub2⟩
 · rintro σ H1 ⟨g1,x7,x8,x9,x10,rfl,kb1,s1,sub1⟩
   exact q g1 H1 kb1 (s1.same (by omega) (.refl _)) sub1
theorem Bc (K:W.Frag) (A:Adr):Ln (kz K A) 6:=by rintro vs H Q E ⟨f,b,B,k,m,came,w,st,e,g,n,rfl,_⟩;rfl
theorem FS (T:Txt K mg A):Rd (kz K A) (Hk K A) ["_law_stamper", "_law_bits_here", "_law_came", "_law_mark_here", "_law_key_here", "_law_slip", "_law_kinds_here", "_law_found"]:=by
 intro vs H Q E h
 obtain ⟨f,b,B,k,m,came,w,st,e,g,n,rfl,sl,s,hn,hc,ne,q⟩:=h
 have B1:=sl.2.b1
 have B60:=sl.2.b60
 refine ⟨f,b,g,n,2,⟨⟨2,B,m,.int k,w,rfl,B1,B60,.broken k st e came rfl sl rfl hc ne⟩,s,by omega⟩,fun g1 H1 kb1 s1 sub1=>Sel.no rfl ?_⟩
 have sl1:=sl.kb s kb1
 refine ⟨f,b,g1,_,2,⟨⟨2,B,m,.int k,w,rfl,B1,B60,.broken k st e came rfl sl1 rfl (fun h he=>hc h (he.of sub1)) ne⟩,s1,by omega⟩,fun L g2 H2 kb2 s2 sub2 hL=>?_⟩
 have sl2:=sl1.kb s1 kb2
 refine ⟨aB (show 4≤1000000 by decide),fun p hp=>rF (ax.upd hp _ _ hL) ap (Sel.no rfl ?_)⟩
 have S3:=ax.upd (o:=.lst [.bl true,.bl false,.bl false,.bl true]) hp
 refine ⟨f,b,B,k,m,came,w,st,e,g2,_,rfl,sl2.same S3,s2.same (Nat.le_refl _) S3,by omega,fun h he=>hc h ((he.of sub2).of sub1),ne,fun r g4 H4 kb4 s4 sub4 hr=>?_⟩
 refine Sel.f (ixT (j:=0) hr rfl rfl ⟨m,rfl,Sel.no rfl ?_⟩)
 refine ixT (j:=1) hr rfl rfl ⟨came,rfl,?_⟩
 exact q g4 H4 (kb1.trans (kb2.trans ((bd.same S3).trans kb4))) (s4.same (by omega) (.refl _)) (sub1.trans (sub2.trans sub4))
end Rs
namespace Rs
open PySem PySem.Spec PyProof.Rows L2
variable {K:W.Frag} {mg:Str→Option Value} {A:Adr}
theorem bA.seq {P:Addr} {H H':Hp} {a:Addr} {xs:List V} {ps:Array Value} (hP:H P=some (.tbl ps)) (e:bA P H H') (h:SqL K H a xs):SqL K H' a xs:=by
 have ne:∀ o,H a=some o→(∀ ps,o≠ .tbl ps)→a≠P:=fun o h n z=>by subst z;rw [hP] at h;cases h;exact n _ rfl
 rcases h with (h | ⟨o,h⟩) | h
 · exact .inl (.inl (e _ _ h (ne _ h fun _ z=>nomatch z)))
 · exact .inl (.inr ⟨o,e _ _ h (ne _ h fun _ z=>nomatch z)⟩)
 · exact .inr h
theorem Stp.kP {H H':Hp} {f b P:Addr} {g:List Key→Option Key} {n:Nat} {ps:Array Value} (s:Stp A H f b g n) (hP:H P=some (.tbl ps)) (k:bA P H H'):Stp A H' f b g n:=s.keep (Nat.le_refl _) fun z o e hz=>k z o e fun q=>by
 subst q;rw [hP] at e;cases e
 rcases hz with ⟨_,q⟩ | ⟨_,_,q⟩ | ⟨_,_,_,q⟩ <;> cases q
theorem Stp.seq {H H':Hp} {f b a:Addr} {g:List Key→Option Key} {n:Nat} {xs:List V} (s:Stp A H f b g n) (k:bd b H H') (h:SqL K H a xs):SqL K H' a xs:=by
 rcases h with (h | ⟨o,h⟩) | h
 · exact .inl (.inl (s.lst k _ _ h))
 · exact .inl (.inr ⟨o,k _ _ (s.nb h fun _ z=>nomatch z) h⟩)
 · exact .inr h
theorem uU : ∀ st : List (Int × Key), (∀ s ∈ st, szK s.2 ≤ 1062) → szS st ≤ 1314 * st.length
  | [], _ => Nat.le_refl _
  | s :: r, h => by
    have h1 := h s List.mem_cons_self
    have h2 := uU r fun x hx => h x (List.mem_cons_of_mem _ hx)
    show szK s.2 + 252 + szS r ≤ 1314 * (r.length + 1)
    omega
theorem yX {B k:Int} {st:List (Int×Key)} {e:List Key} (B1:1≤B) (B60:B≤60) (k0:0≤k) (k1:k<2^B.toNat) (gs:aU B 0 (st.map stD)=true) (sm:∀ s∈st,fX s.2) (ok:okT e=true) (sz:szT e≤2500) (en:bO B k (bK 0 (st.map stD)) (.tup (e.map bi))=true):fA B k st e:=by
 have h1:=gh (Int.le_refl 0) (by omega) gs
 have h3:((st.map stD).length:Int)=st.length:=by simp
 have h4:=uU st fun s hs=>(sm s hs).2.2
 exact ⟨B1,B60,k0,k1,gs,fun s hs=>iX (sm s hs).1 (sm s hs).2.1,ok,en,by omega⟩
theorem DV (xs:List V):(cR xs (some 5) (some 7)).length≤2:=by
 unfold cR
 rw [List.length_take]
 have e1:HT.sIx xs.length 0 (some 5)=min 5 xs.length:=HT.qR _ _ 5
 have e2:HT.sIx xs.length xs.length (some 7)=min 7 xs.length:=HT.qR _ _ 7
 rw [e1,e2];omega
def sK:Key→Key
 | .inl i=> .inr (toString i)
 | .inr z=> .inr z
theorem zo {H : Hp} {Q : VK} {x : Key} (ok : okP x = true) (q : Q (kV (sK x)) H) : jj [kV x] H Q := by
  cases x with
  | inl i =>
    have h : 0 ≤ i ∧ i < 10 ^ 60 := of_decide_eq_true ok
    exact .int (by
      have h2 : i.natAbs < 10 ^ 60 := by have : (i.natAbs : Int) < 10 ^ 60 := by omega
                                         exact_mod_cast this
      refine Nat.lt_of_le_of_lt ?_ (show 200 < 1920 by decide)
      have : i.natAbs < 2 ^ 200 := Nat.lt_of_lt_of_le h2 (by decide +kernel)
      by_cases z : i.natAbs = 0
      · rw [z]; decide
      · exact Nat.le_of_lt ((Nat.log2_lt z).mpr this)) q
  | inr z => exact .str q
theorem BN (K:W.Frag) (A:Adr):Ln (nB K A) 1:=by rintro vs H Q E ⟨a,ns,rfl,_⟩;rfl
theorem DF (T:Txt K mg A):Rd (nB K A) (GI K A) ["_law_script", "_law_bits_here", "_law_key_here", "_law_cell", "_law_some", "_law_stamper", "_law_steps_here", "_law_slip", "_law_came", "_law_bad_keys", "_law_bad_slips", "_law_marks", "_law_bad_key", "_law_bad", "_law_mark_here"]:=by
 intro vs H Q E h
 obtain ⟨a,ns,rfl,hs,hlen,⟨t1,t2,t3,t4,nd⟩,q⟩:=h
 refine ⟨a,ns,0,rfl,hs,by decide,fun z0 H0 S0=>⟨z0,rfl,fun B H1 S1 B1 B60=>?_⟩⟩
 have S1:=S0.trans S1
 show Ax K A _ [some (.ref a),some (.int B),none,none,none,none,none,none,none,none,none,none,none,none,none] H1
 refine ⟨a,ns,1,rfl,S1.seq hs,by decide,fun z1 H2 S2=>⟨aB (n:=0) (by decide),fun o ho=>⟨B,z1,o,[],rfl,B1,B60,ap,Nat.zero_le _,(fun _ h=>nomatch h),fun k H3 S3 k0 k1=>?_⟩⟩⟩
 have S3:=(S1.trans S2).trans ((ax.upd ho).trans S3)
 show uA K A _ [some (.ref a),some (.int B),some (.int k),none,none,none,none,none,none,none,none,none,none,none,none] H3
 refine ⟨a,ns,2,rfl,S3.seq hs,by decide,fun c H4 S4=>?_⟩
 have S4:=S3.trans S4
 show tQ K A _ [some (.ref a),some (.int B),some (.int k),some (.int c),none,none,none,none,none,none,none,none,none,none,none] H4
 have hs4:=S4.seq hs
 have t1:=S4 _ _ t1
 have t2:=S4 _ _ t2
 have t3:=S4 _ _ t3
 have t4:=S4 _ _ t4
 have ne:A.t_37≠A.t_27∧A.t_37≠A.t_34∧A.t_37≠A.t_60∧A.t_27≠A.t_34∧A.t_27≠A.t_60∧A.t_34≠A.t_60:=by
   simp only [List.nodup_cons,List.mem_cons,List.not_mem_nil,or_false,not_or] at nd
   exact ⟨nd.1.1,nd.1.2.1,nd.1.2.2,nd.2.1.1,nd.2.1.2,nd.2.2.1⟩
 clear S4 S3 S1 S0 S2 hs nd
 refine ⟨rfl,t1,fun f1 b1 g1 H5 k5 s1 _=>?_⟩
 refine ⟨⟨by decide,by decide⟩,by decide,c/4%90,rfl,by omega,by omega,k5 _ _ t2 (Ne.symm ne.1),fun f2 b2 g2 H6 k6 s2 _=>?_⟩
 refine ⟨⟨by decide,by decide⟩,by decide,2+c/4%8,rfl,by omega,by omega,k6 _ _ (k5 _ _ t3 (Ne.symm ne.2.1)) (Ne.symm ne.2.2.2.1),fun f3 b3 g3 H7 k7 s3 _=>?_⟩
 refine ⟨rfl,k7 _ _ (k6 _ _ (k5 _ _ t4 (Ne.symm ne.2.2.1)) (Ne.symm ne.2.2.2.2.1)) (Ne.symm ne.2.2.2.2.2),fun f4 b4 g4 H8 k8 s4 _=>?_⟩
 have p2:=k5 _ _ t2 (Ne.symm ne.1)
 have p3:=k6 _ _ (k5 _ _ t3 (Ne.symm ne.2.1)) (Ne.symm ne.2.2.2.1)
 have p4:=k7 _ _ (k6 _ _ (k5 _ _ t4 (Ne.symm ne.2.2.1)) (Ne.symm ne.2.2.2.2.1)) (Ne.symm ne.2.2.2.2.2)
 have hs8:=bA.seq p4 k8 (bA.seq p3 k7 (bA.seq p2 k6 (bA.seq t1 k5 hs4)))
 have s1:=((s1.kP p2 k6).kP p3 k7).kP p4 k8
 have s2:=(s2.kP p3 k7).kP p4 k8
 have s3:=s3.kP p4 k8
 clear k5 k6 k7 k8 p2 p3 p4 t1 t2 t3 t4 ne hs4
 refine ⟨aB (show 4≤1000000 by decide),fun L hL=>?_⟩
 have S9:=ax.upd (o:=.lst [.ref f1,.ref f2,.ref f3,.ref f4]) hL
 have hs9:=S9.seq hs8
 show uX K A _ [some (.ref a),some (.int B),some (.int k),some (.int c),some (.ref L),none,none,none,none,none,none,none,none,none,none] _
 refine ⟨by decide,rJ ap (by omega) (by show c%4<4;omega) fun v hv=>?_⟩
 obtain ⟨f,b,g,rfl,sp⟩:∃ f b g,v=.ref f∧Stp A (upd H8 L (.lst [.ref f1,.ref f2,.ref f3,.ref f4])) f b g 0:=by
   simp only [List.mem_cons,List.not_mem_nil,or_false] at hv
   rcases hv with rfl | rfl | rfl | rfl
   · exact ⟨_,_,_,rfl,s1.same (Nat.le_refl _) S9⟩
   · exact ⟨_,_,_,rfl,s2.same (Nat.le_refl _) S9⟩
   · exact ⟨_,_,_,rfl,s3.same (Nat.le_refl _) S9⟩
   · exact ⟨_,_,_,rfl,s4.same (Nat.le_refl _) S9⟩
 show ve K A _ [some (.ref a),some (.int B),some (.int k),some (.int c),some (.ref L),some (.ref f),none,none,none,none,none,none,none,none,none] _
 generalize upd H8 L (.lst [.ref f1,.ref f2,.ref f3,.ref f4])=G at hs9 sp
 clear s1 s2 s3 s4 S9 hs8 hL hv
 refine ⟨a,ns,3,rfl,hs9,by decide,fun z3 G1 S1=>⟨z3,0,B,rfl,by decide,by omega,B60,fun ps ds G2 S2 ws gd=>?_⟩⟩
 have S2:=S1.trans S2
 show uG K A _ [some (.ref a),some (.int B),some (.int k),some (.int c),some (.ref L),some (.ref f),some (.ref ps),none,none,none,none,none,none,none,none] G2
 obtain ⟨ga,go,gdp,st,rfl,gst⟩:=gd
 have hpl:=xl B1 ga
 refine ⟨a,ns,4,rfl,S2.seq hs9,by decide,fun z4 G3 S3=>⟨.ref ps,st.map stD,0,B,rfl,ws.mono S3,by decide,⟨ga,go,gdp,st,rfl,gst⟩,fun G4 S4=>?_⟩⟩
 refine ⟨z4,B,k,bK 0 (st.map stD),rfl,by omega,by omega,B1,B60,k0,k1,fun v e G5 S5 we oe sze ee=>?_⟩
 refine ⟨aB (n:=2) (by decide),fun r hr=>?_⟩
 have S6:=ax.upd (o:=.tup [V.ref ps,v]) hr
 have S36:=S3.trans (S4.trans (S5.trans S6))
 have sl:cA (upd G5 r (.tup [V.ref ps,v])) (.ref r) B k st e:=⟨.tup ap (.cons (ws.mono S36) (.cons (we.mono S6) .nil)),yX B1 B60 k0 k1 ga gst oe sze ee⟩
 have hsA:=(S2.trans S36).seq hs9
 have spA:=sp.same (m:=0) (Nat.le_refl _) (S2.trans S36)
 show ux K A _ [some (.ref a),some (.int B),some (.int k),some (.int c),some (.ref L),some (.ref f),some (.ref ps),some (.ref r),none,none,none,none,none,none,none] _
 generalize upd G5 r (.tup [V.ref ps,v])=J at sl hsA spA
 clear S1 S2 S3 S4 S5 S6 S36 sp hs9 ws we hr hpl
 have gl:=sl.2.len
 refine ⟨f,rfl,spA.clo,f,b,B,k,.ref r,st,e,g,0,rfl,sl,spA,by decide,fun L1 ps1 ts g1 J1 kb1 s1 sub1 hn1 hL1 pk1 sz1 ch1=>?_⟩
 obtain ⟨pre,cur,rfl,hc⟩:=gA ch1
 obtain ⟨qs,pc,rfl,hpc,okc⟩:=gY pk1
 refine gG hL1 (fS s1 (by omega) hpc okc fun came J2 g2 kb2 s2 sub2 gv so=>?_)
 have okC:=(lB so (sz1 _ (by simp))).1
 have hx:∀ h,Ext g2 h→came=h (eN h B k e st.reverse):=fun h he=>by
   rw [hc h (he.of sub2)];exact (he _ _ gv).symm
 have sl2:=(sl.kb spA kb1).kb s1 kb2
 have hs2:=s1.seq kb2 (spA.seq kb1 hsA)
 show vb K A _ [some (.ref a),some (.int B),some (.int k),some (.int c),some (.ref L),some (.ref f),some (.ref ps),some (.ref r),some (kV came),none,none,none,none,none,none] J2
 have s2:Stp A J2 f b g2 100:=s2.same (by omega) (.refl _)
 clear ch1 pk1 hL1 hpc gv so
 refine ⟨f,b,B,k,.ref r,st,e,g2,100,rfl,sl2,s2,by decide,fun g3 J3 kb3 s3 sub3=>Sel.no rfl ?_⟩
 have sl3:=sl2.kb s2 kb3
 have hs3:=s2.seq kb3 hs2
 have hx3:∀ h,Ext g3 h→came=h (eN h B k e st.reverse):=fun h he=>hx h (he.of sub3)
 show vd K A _ [some (.ref a),some (.int B),some (.int k),some (.int c),some (.ref L),some (.ref f),some (.ref ps),some (.ref r),some (kV came),none,none,none,none,none,none] J3
 clear sl2 hs2 hx s2 kb3
 refine ⟨5,rfl,7,rfl,.inl (.inl ⟨a,_,rfl,hs3,fun p hp=>?_⟩)⟩
 have Sa:=ax.upd (o:=.lst (cR (ns.map V.int) (some 5) (some 7))) hp
 refine ⟨a,ns,20,rfl,Sa.seq hs3,by decide,fun z5 J4 S4=>⟨aB (n:=1) (by decide),fun p2 hp2=>?_⟩⟩
 have Sb:=ax.upd (o:=.lst [.int z5]) hp2
 have cl:=DV (ns.map V.int)
 refine .inl ⟨p,p2,_,_,rfl,rfl,Sb _ _ (S4 _ _ ap),ap,aB (by show _+1≤1000000;omega),fun W hW=>?_⟩
 have Sc:=ax.upd (o:=.lst (cR (ns.map V.int) (some 5) (some 7)++[V.int z5])) hW
 have S:=Sa.trans (S4.trans (Sb.trans Sc))
 have itz:∀ v∈cR (ns.map V.int) (some 5) (some 7)++[V.int z5],∃ i,v=.int i:=fun v hv=>by
   rcases List.mem_append.mp hv with z | z
   · unfold cR at z
     obtain ⟨i,_,rfl⟩:=List.mem_map.mp (List.mem_of_mem_drop (List.mem_of_mem_take z))
     exact ⟨i,rfl⟩
   · exact ⟨z5,List.mem_singleton.mp z⟩
 have lx:(cR (ns.map V.int) (some 5) (some 7)++[V.int z5]).length≤3:=by rw [List.length_append];show _+1≤3;omega
 have hW1:upd (upd J4 p2 (.lst [.int z5])) W (.lst (cR (ns.map V.int) (some 5) (some 7)++[V.int z5])) W=some (.lst (cR (ns.map V.int) (some 5) (some 7)++[V.int z5])):=ap
 have sl5:=sl3.same S
 have s5:=s3.same (m:=400) (Nat.le_refl _) S
 generalize upd (upd J4 p2 (.lst [.int z5])) W (.lst (cR (ns.map V.int) (some 5) (some 7)++[V.int z5]))=J5 at hW1 sl5 s5
 generalize cR (ns.map V.int) (some 5) (some 7)++[V.int z5]=xs at hW1 itz lx
 clear Sa S4 Sb Sc S hs3 sl3 s3
 refine ⟨W,rfl,.inl ⟨⟨_,SqL.of hW1⟩,?_⟩⟩
 refine ij (xs:=xs) (fun i σ H'=>∃ g' x3 x9 x10 x11 x12 x13 x14,σ=[some (.ref a),some (.int B),some (.int k),x3,some (.ref L),some (.ref f),some (.ref ps),some (.ref r),some (kV came),x9,x10,x11,x12,x13,x14]∧bd b J5 H'∧Stp A H' f b g' (400+4000*i)∧Sub g3 g')
   ⟨g3,_,none,none,none,none,none,none,rfl,bd.rfl',s5,Sub.rfl'⟩ ?_ ?_ ?_
 · rintro i σ H' _ ⟨_,_,_,_,_,_,_,_,_,kb,_⟩;exact SqL.of (s5.lst kb _ _ hW1)
 · rintro i v σ H' hv ⟨g6,x3,x9,x10,x11,x12,x13,x14,rfl,kb6,s6,sub6⟩
   have hi:i<xs.length:=(List.getElem?_eq_some_iff.mp hv).1
   obtain ⟨c2,rfl⟩:=itz v (List.mem_of_getElem? hv)
   refine ⟨B,c2,rfl,B1,B60,fun KL ks H7 S7 hKL lk hk=>?_⟩
   refine ⟨B,k,.ref r,st,e,came,rfl,(sl5.kb s5 kb6).same S7,fun SL ss H8 S8 hSL ls hsl=>?_⟩
   refine ⟨by decide,_,rfl,fun mk smk=>?_⟩
   refine zo okC ⟨aB (show 5≤1000000 by decide),fun M hM=>?_⟩
   have Sm:=ax.upd (o:=.lst [kV came,kV mk,.int 0,.str "",kV (sK came)]) hM
   have hM1:upd H8 M (.lst [kV came,kV mk,.int 0,.str "",kV (sK came)]) M=some (.lst (([came,mk,.inl 0,.inr "",sK came]:List Key).map kV)):=ap
   have S9:=S7.trans (S8.trans Sm)
   have hKL9:=Sm _ _ (S8 _ _ hKL)
   have hSL9:=Sm _ _ hSL
   have hk9:∀ x∈ks,∃ d,aR (upd H8 M (.lst [kV came,kV mk,.int 0,.str "",kV (sK came)])) x d∧cT B d=false:=fun x hx=>let ⟨d,w,h⟩:=hk x hx;⟨d,(w.mono S8).mono Sm,h⟩
   have hs9:∀ x∈ss,∃ d,aR (upd H8 M (.lst [kV came,kV mk,.int 0,.str "",kV (sK came)])) x d∧fY d∧dw B k d=false:=fun x hx=>let ⟨d,w,h⟩:=hsl x hx;⟨d,w.mono Sm,h⟩
   have sl9:=(sl5.kb s5 kb6).same S9
   have s9:=s6.same (m:=400+4000*i) (Nat.le_refl _) S9
   have kb9:=kb6.trans (bd.same S9)
   generalize upd H8 M (.lst [kV came,kV mk,.int 0,.str "",kV (sK came)])=H9 at hM1 hKL9 hSL9 hk9 hs9 sl9 s9 kb9
   clear Sm S9 S8 S7 hk hsl hKL hSL
   refine .inl (.inl ⟨_,SqL.of hKL9,?_⟩)
   rw [lk]
   refine ⟨by decide,rJ hKL9 (by omega) (by rw [lk];omega) fun x hx=>?_⟩
   obtain ⟨d,wd,nk⟩:=hk9 x hx
   refine ⟨⟨by decide,by decide⟩,.inl (.inl ⟨_,SqL.of hSL9,?_⟩)⟩
   rw [ls]
   refine ⟨by decide,rJ hSL9 (by omega) (by rw [ls];omega) fun y hy=>?_⟩
   obtain ⟨ee,we,oke,nsl⟩:=hs9 y hy
   refine ⟨f,b,M,B,k,_,x,y,.ref r,d,ee,st,e,g6,_,rfl,s9,by omega,hM1,rfl,wd,nk,we,oke,nsl,sl9,fun g10 H10 kb10 s10 sub10=>Sel.no rfl ?_⟩
   have hM10:=s9.lst kb10 _ _ hM1
   refine ⟨M,rfl,.inl ⟨⟨_,SqL.of hM10⟩,?_⟩⟩
   refine ij (xs:=([came,mk,.inl 0,.inr "",sK came]:List Key).map kV) (fun j σ H'=>∃ g' x14,σ=[some (.ref a),some (.int B),some (.int k),some (.int c2),some (.ref L),some (.ref f),some (.ref ps),some (.ref r),some (kV came),some (.ref KL),some (.ref SL),some (.ref M),some x,some y,x14]∧bd b H10 H'∧Stp A H' f b g' (400+4000*i+2000+300*j)∧Sub g10 g')
     ⟨g10,x14,rfl,bd.rfl',s10,Sub.rfl'⟩ ?_ ?_ ?_
   · rintro j σ H' _ ⟨_,_,_,kb,_⟩;exact SqL.of (s10.lst kb _ _ hM10)
   · rintro j u σ H' hu ⟨g11,y14,rfl,kb11,s11,sub11⟩
     have hj:j<5:=(List.getElem?_eq_some_iff.mp hu).1
     obtain ⟨m,_,rfl⟩:=gQ hu
     refine mj ?_
     by_cases em:m=came
     · exact Sel.no (by rw [decide_eq_true em];rfl) ⟨g11,_,rfl,kb11,s11.same (by omega) (.refl _),sub11⟩
     · refine Sel.yes (by rw [decide_eq_false em];rfl) ?_
       refine ⟨f,b,B,k,m,came,.ref r,st,e,g11,_,rfl,(sl9.kb s9 kb10).kb s10 kb11,s11,by omega,fun h he=>hx3 h (((he.of sub11).of sub10).of sub6),fun z=>em z.symm,fun g12 H12 kb12 s12 sub12=>Sel.no rfl ?_⟩
       exact ⟨g12,_,rfl,kb11.trans kb12,s12.same (by omega) (.refl _),sub11.trans sub12⟩
   · rintro σ H' ⟨g11,y14,rfl,kb11,s11,sub11⟩
     exact ⟨g11,_,_,_,_,_,_,_,rfl,kb9.trans (kb10.trans kb11),s11.same (by show 400+4000*i+2000+300*5≤_;omega) (.refl _),sub6.trans (sub10.trans sub11)⟩
 · rintro σ H' ⟨g6,x3,x9,x10,x11,x12,x13,x14,rfl,kb6,s6,sub6⟩
   exact ⟨f,b,B,k,.ref r,st,e,g6,_,rfl,sl5.kb s5 kb6,s6,by omega,fun g7 H7 _ _ _=>q H7⟩
end Rs
namespace Rs
open PySem PySem.Spec PyProof.Rows L2
structure TP (P:Program) (w:World) (K:W.Frag) (mg:Str→Option Value) (base:Heap) (A:Adr):Prop extends Txt K mg A where
 B:BM mg base
 C_37:W.CodeHd base A.k_37 A.t_37
 C_27:W.CodeHd base A.k_27 A.t_27
 C_34:W.CodeHd base A.k_34 A.t_34
 C_60:W.CodeHd base A.k_60 A.t_60
variable {P:Program} {w:World} {K:W.Frag} {mg:Str→Option Value} {base:Heap} {A:Adr} (T:TP P w K mg base A)
include T
theorem hJ:aP P w K mg base (CX1 P w) 1 A.a_49 A.d_49 ["thing"] (fg K A):=
 T.f_49.f.okS Dg (BH K A) (EZ T.1) fun _ _ _ _ _ _ hr=>
 ao (ay (eu (aI dg T.z_isinstance boot_isinstance (ac (af 0) (ac (de T.z_int boot_int) (ai)))) (fe (yG (aI dg T.z_isinstance boot_isinstance (ac (af 0) (ac (de T.z_bool boot_bool) (ai))))))))
theorem nY:aP P w K mg base (CX1 P w) 2 A.a_45 A.d_45 ["thing"] (hU K A):=
 T.f_45.f.okS DU (Cg K A) (Do T.1) fun _ _ _ _ _ _ hr=>
 am (aK (be (aL (hJ T) hr.le T.f_49 (ac (af 0) (ai)))) (ao (ay (jv oLe oLt (aj) (af 0) (aw sM (aj) (aj))))) (aF)) (ao (ay (aI dg T.z_isinstance boot_isinstance (ac (af 0) (ac (de T.z_str boot_str) (ai))))))
theorem xW:aP P w K mg base (CX1 P w) 3 A.a_47 A.d_47 ["thing"] (kI K A):=
 T.f_47.f.okS EU (Bx K A) (Ec T.1) fun _ _ _ _ _ _ hr=>
 am (aK (br (be (aI dg T.z_isinstance boot_isinstance (ac (af 0) (ac (de T.z_tuple boot_tuple) (ai)))))) (ao (ay (bo))) (aF)) (am (aK (br (jS oLe oLe (aj) (aI cg T.z_len PySem.boot_len (ac (af 0) (ai))) (vp T.c_MOST_PARTS))) (ao (ay (bo))) (aF)) (ao (ay (eu (aI dg T.z_isinstance boot_isinstance (ac (aY (aE hr.units1) (af 0) (aj) (fun _ _=>rfl)) (ac (de T.z_str boot_str) (ai)))) (fe (aI (Hj rfl) T.z_all L2.AB (ac (ub (ys:=[]) (by exact ⟨rfl,by decide +kernel,by decide +kernel,rfl,by decide +kernel,by decide +kernel⟩) (by exact .nil) (eL (af 0)) (fun C s H fp=>pH) (fun C s H fp=>(aL (nY T) hr.le T.f_45 (ac (af 0) (ai))))) (ai))))))))
theorem DO:aP P w K mg base (CX1 P w) 2 A.a_51 A.d_51 ["part"] (nK K A):=
 T.f_51.f.okS yJ (AE K A) (ET T.1) fun _ _ _ _ _ _ hr=>
 am (aK (be (aL (hJ T) hr.le T.f_49 (ac (af 0) (ai)))) (ao (ay (uf (.cons (rg (af 0)) (.cons (bx) (.nil)))))) (aF)) (am (aH 1 yJ.nd (aI cg T.z_len PySem.boot_len (ac (af 0) (ai)))) (ao (ay (uf (.cons (rg (af 1)) (.cons (bx) (.cons (rg (af 0)) (.nil))))))))
theorem Ex:aP P w K mg base (CX1 P w) 4 A.a_62 A.d_62 ["term"] (lj K A):=
 T.f_62.f.okS EI (Bd K A) (Fs T.1) fun _ _ _ _ _ _ hr=>
 am (aK (br (be (aL (xW T) hr.le T.f_47 (ac (af 0) (ai))))) (ao (lD)) (aF)) (ao (ay (jY PySem.F.plainAttrs_str PySem.F.slot_str_join PySem.F.type_str_join zC (bx) (ac (ub (ys:=[]) (by exact ⟨rfl,by decide +kernel,by decide +kernel,rfl,by decide +kernel,by decide +kernel⟩) (by exact .nil) (eL (af 0)) (fun C s H fp=>pH) (fun C s H fp=>(aL (DO T) hr.le T.f_51 (ac (af 0) (ai))))) (ai)))))
theorem Dy (f c:Addr) (cl:List (Str×Addr)) (Ar:Around) (outer:List Env) (s:Shared) (H:Hp) (E:XK)
  (hr:bg 4 (Ar.deeper (W.envX fh.qual fh.scope s.heap.objs.size f (.ref c) cl))):PE (gu P w K mg base ["term"] fh.qual fh.scope f c cl Ar outer s H E).nox (jm wH) (BV K A):=QE.out (
 aL (Ex T) hr.le T.f_62 (ac (af 0) (ai)))
theorem FU:fj P w K mg base 5 fh (rQ K A):=
 qq rfl Es (fun f c cl Ar outer s H vs cvs Q E hr hl hc h=>by
  obtain ⟨a0,rfl⟩:=L2.er hl
  obtain rfl:=L2.tG hc
  exact ⟨_,(Dy T f c cl Ar outer s H E hr).nox,Ey T.1 a0 H Q E h⟩)
theorem HB:aP P w K mg base (CX1 P w) 4 A.a_7 A.d_7 ["self", "term"] (rN K A):=
 T.f_7.okS HR (DG K A) (HG T.1) fun _ _ _ _ _ _ hr=>
 am (aK (br (be (aL (xW T) hr.le T.f_47 (ac (af 1) (ai))))) (ao (lD)) (aF)) (am (aK (aQ (yZ hr.units150) (af 1) (cu (af 0))) (ao (xJ hr.units1 (cu (af 0)) (af 1) (aI cg T.z_len PySem.boot_len (ac (cu (af 0)) (ai))))) (aF)) (ao (ay (aY (aE hr.units1) (cu (af 0)) (af 1) (fun _ _=>rfl)))))
theorem Er (f c:Addr) (cl:List (Str×Addr)) (Ar:Around) (outer:List Env) (s:Shared) (H:Hp) (E:XK)
  (hr:bg 4 (Ar.deeper (W.envX fB.qual fB.scope s.heap.objs.size f (.ref c) cl))):PE (gu P w K mg base ["term", "numbers"] fB.qual fB.scope f c cl Ar outer s H E).nox (jm vY) (Cy K A):=QE.out (
 jG (af 1) T.cl_Numbers T.me_Numbers_number_of (HB T) hr.le T.b_7 cU (ac (af 0) (ai)))
theorem FP:fj P w K mg base 5 fB (sQ K A):=
 qq rfl Du (fun f c cl Ar outer s H vs cvs Q E hr hl hc h=>by
  obtain ⟨a0,rfl⟩:=L2.er hl
  obtain ⟨b0,rfl⟩:=L2.er hc
  exact ⟨_,(Er T f c cl Ar outer s H E hr).nox,FO T.1 a0 b0 H Q E h⟩)
theorem EV (f c:Addr) (cl:List (Str×Addr)) (Ar:Around) (outer:List Env) (s:Shared) (H:Hp) (E:XK)
  (hr:bg 0 (Ar.deeper (W.envX fN.qual fN.scope s.heap.objs.size f (.ref c) cl))):PSs (gu P w K mg base ["_law_term", "_law_known", "_law_first"] fN.qual fN.scope f c cl Ar outer s H E).nox (aO vj) (AH K A):=QSs.out (
 ao (ay (jY PySem.F.plainAttrs_dict PySem.F.slot_dict_setdefault PySem.F.type_dict_setdefault (uT hr.units1) (af 1) (ac (af 0) (ac (aw bB (aw cX (aj) (aI cg T.z_len PySem.boot_len (ac (af 1) (ai)))) (af 2)) (ai))))))
theorem FY:fj P w K mg base 1 fN (sC K A):=
 uj rfl Dq (fun f c cl Ar outer s H vs cvs Q E hr hl hc h=>by
  obtain ⟨a0,rfl⟩:=L2.er hl
  obtain ⟨b0,b1,rfl⟩:=L2.sS hc
  exact ⟨_,(EV T f c cl Ar outer s H E hr).nox,EB T.1 a0 b0 b1 H Q E h⟩)
theorem Fz (f c:Addr) (cl:List (Str×Addr)) (Ar:Around) (outer:List Env) (s:Shared) (H:Hp) (E:XK)
  (hr:bg 0 (Ar.deeper (W.envX fI.qual fI.scope s.heap.objs.size f (.ref c) cl))):PSs (gu P w K mg base ["_law_term", "_law_total", "_law_part", "_law_signs", "_law_many"] fI.qual fI.scope f c cl Ar outer s H E).nox (aO vO) (Cu K A):=QSs.out (
 am (aH 1 jw.nd (aj)) (am (eD 2 jw.nd (eL (af 0)) (ao (aK (be (aI dg T.z_isinstance boot_isinstance (ac (af 2) (ac (de T.z_str boot_str) (ai))))) (am (tX (ys:=[]) 3 jw.nd (by exact ⟨rfl,by decide +kernel,by decide +kernel,rfl,by decide +kernel,by decide +kernel⟩) (by exact .nil) (eL (lE oA (af 2) (qr) (jo (aj)))) (fun C s H fp=>pH) (fun C s H fp=>(aI Gz T.z_ord boot_ord (ac (af 0) (ai))))) (ao (aH 1 jw.nd (aw bB (aw bB (aw cX (af 1) (aj)) (aI cg T.z_len PySem.boot_len (ac (af 2) (ai)))) (aw cX (aj) (aI (HH rfl) T.z_sum boot_sum (ac (af 3) (ai)))))))) (ao (aH 1 jw.nd (aw bB (aw cX (af 1) (aj)) (af 2)))))) PassesOwn.never) (ao (ay (aw bj (af 1) (af 4))))))
theorem Dh:fj P w K mg base 1 fI (sq K A):=
 uj rfl jw (fun f c cl Ar outer s H vs cvs Q E hr hl hc h=>by
  obtain ⟨a0,rfl⟩:=L2.er hl
  obtain ⟨b0,rfl⟩:=L2.er hc
  exact ⟨_,(Fz T f c cl Ar outer s H E hr).nox,FH T.1 a0 b0 H Q E h⟩)
theorem FV:aP P w K mg base (CX1 P w) 1 A.a_11 A.d_11 ["_law_cell"] (og K A):=
 T.f_11.f.okS Eo (BB K A) (FN T.1) fun _ _ _ _ _ _ hr=>
 ao (ay (aw bB (aj) (aw bj (aw cq (af 0) (aj)) (aY (aE hr.units1) (bV (ac (aj) (ac (aj) (ac (aj) (ai))))) (aw bj (af 0) (aj)) (fun _ _=>rfl)))))
theorem jb:aP P w K mg base (CX1 P w) 1 A.a_10 A.d_10 ["_law_script", "_law_k"] (dC K A):=
 T.f_10.f.okS kj (zT K A) (EO T.1) fun _ _ _ _ _ _ hr=>
 am (aK (aQ oLt (af 1) (aI cg T.z_len PySem.boot_len (ac (af 0) (ai)))) (ao (ay (aY (aE hr.units1) (af 0) (af 1) (fun _ _=>rfl)))) (aF)) (am (aH 2 kj.nd (aw bB (aj) (aI cg T.z_len PySem.boot_len (ac (af 0) (ai))))) (am (eD 3 kj.nd (eL (lE oA (af 0) (qr) (jo (aj)))) (ao (aH 2 kj.nd (aw bj (aw bB (aw cX (af 2) (aj)) (af 3)) (aj)))) PassesOwn.never) (am (aH 2 kj.nd (aw bj (aw bB (af 2) (aw cX (aj) (af 1))) (aj))) (ao (ay (aw bj (aw cX (af 2) (af 2)) (aj)))))))
theorem Dj:aP P w K mg base (CX1 P w) 1 A.a_15 A.d_15 ["_law_bits_here", "_law_cell", "_law_others"] (kQ K A):=
 T.f_15.f.okS nv (Co K A) (Dt T.1) fun _ _ _ _ _ _ hr=>
 am (aH 3 nv.nd (aw gD (aj) (af 0))) (am (aH 4 nv.nd (aw cq (af 1) (aj))) (am (aK (aQ (bR hr.units150) (aw bj (af 1) (aj)) (aj)) (ao (ay (aw bj (af 4) (af 3)))) (aF)) (am (aK (aQ (bR hr.units150) (aw bj (af 1) (aj)) (aj)) (ao (ay (aw dm (aw dm (af 3) (aj)) (aw bj (af 4) (af 3))))) (aF)) (am (aK (x_w (gP (aQ (bR hr.units150) (aw bj (af 1) (aj)) (aj)) (fQ (aQ (dM hr.units150) (af 2) (bV (ai)))))) (am (aH 5 nv.nd (aw bj (aw bj (aw cX (af 4) (aj)) (aj)) (af 0))) (ao (ay (aw GQ (aY (aE hr.units1) (af 2) (aw bj (af 4) (aI cg T.z_len PySem.boot_len (ac (af 2) (ai)))) (fun _ _=>rfl)) (aw gD (aj) (af 5)))))) (aF)) (ao (ay (aw bj (aw cX (af 4) (aj)) (af 3))))))))
theorem GX:aP P w K mg base (CX1 P w) 1 A.a_6 A.d_6 ["self"] (sG K A):=
 T.f_6.okS HX (Ge K A) (Ht T.1) fun _ _ _ _ _ _ hr=>
 ao (eS (af 0) (jd))
theorem FA (B:BM mg base) (C:W.CodeHd base A.k_37 A.t_37) (Ar:Around) (outer:List Env) (s:Shared) (H:Hp) (E:XK)
  (hr:bg 2 (Ar.deeper (envOfC "counting" (al jX) s.heap.objs.size A.a_37 (.ref A.k_37)))):QMs (cF (CX1 P w) P w K mg base ["numbers"] "counting" (al jX) A.a_37 (.ref A.k_37) Ar outer s H E).nox (aO jX) (Ck K A (s.heap.objs.size+1)):=(
 lg (kW (aH 0 yj.nd (wg T.mk_Numbers (GX T) hr.le T.mc_Numbers T.b_6 cU))) (nH (nJ (yg B C rfl (by rfl) (by simp <;> omega) rfl rfl rfl rfl (fun _ _ _ _ us hl=>by obtain ⟨_,rfl⟩:=L2.er hl;rfl)))))
theorem Ft:aP P w K mg base (CX1 P w) 3 A.a_37 A.d_37 [] (ku K A):=
 T.f_37.f.okM (caps:=fun L=>[(0,L+1)]) T.kc_37 yj (Bq K A) (fun L p hp=>by simp only [List.mem_cons,List.not_mem_nil,or_false] at hp;rcases hp with rfl <;> exact ⟨_,rfl,rfl,rfl⟩) (fun L=>by simp) (fun Ar outer s H vs Q E hr h=>⟨_,QMs.nox (FA T T.B T.C_37 Ar outer s H E hr),Df T.1 (s.heap.objs.size+1) (by simp) vs H Q E h⟩)
theorem Gq (B:BM mg base) (C:W.CodeHd base A.k_27 A.t_27) (Ar:Around) (outer:List Env) (s:Shared) (H:Hp) (E:XK)
  (hr:bg 0 (Ar.deeper (envOfC "_law_sure" (al ke) s.heap.objs.size A.a_27 (.ref A.k_27)))):QMs (cF (CX1 P w) P w K mg base ["_law_first", "_law_known", "_law_number"] "_law_sure" (al ke) A.a_27 (.ref A.k_27) Ar outer s H E).nox (aO ke) (CJ K A (s.heap.objs.size+1) (s.heap.objs.size+1+1)):=(
 lg (kW (aH 1 se.nd (jd))) (lg (kW (yF 2 se.nd B C rfl (by rfl) (by simp <;> omega) rfl rfl rfl rfl (fun _ _ _ _ _ us hl=>by obtain ⟨_,rfl⟩:=L2.er hl;rfl))) (nH (nJ (af 2)))))
theorem Fw:aP P w K mg base (CX1 P w) 1 A.a_27 A.d_27 ["_law_first"] (kO K A):=
 T.f_27.f.okM (caps:=fun L=>[(0,L+1),(1,L+1+1)]) T.kc_27 se (AQ K A) (fun L p hp=>by simp only [List.mem_cons,List.not_mem_nil,or_false] at hp;rcases hp with rfl | rfl <;> exact ⟨_,rfl,rfl,rfl⟩) (fun L=>by simp) (fun Ar outer s H vs Q E hr h=>⟨_,QMs.nox (Gq T T.B T.C_27 Ar outer s H E hr),FF T.1 (s.heap.objs.size+1) (s.heap.objs.size+1+1) (by simp) vs H Q E h⟩)
theorem FK (B:BM mg base) (C:W.CodeHd base A.k_34 A.t_34) (Ar:Around) (outer:List Env) (s:Shared) (H:Hp) (E:XK)
  (hr:bg 0 (Ar.deeper (envOfC "_law_weak" (al jZ) s.heap.objs.size A.a_34 (.ref A.k_34)))):QMs (cF (CX1 P w) P w K mg base ["_law_many", "_law_short"] "_law_weak" (al jZ) A.a_34 (.ref A.k_34) Ar outer s H E).nox (aO jZ) (CA K A (s.heap.objs.size+1)):=(
 lg (kW (yF 1 yn.nd B C rfl (by rfl) (by simp <;> omega) rfl rfl rfl rfl (fun _ _ _ _ _ us hl=>by obtain ⟨_,rfl⟩:=L2.er hl;rfl))) (nH (nJ (af 1))))
theorem FZ:aP P w K mg base (CX1 P w) 1 A.a_34 A.d_34 ["_law_many"] (la K A):=
 T.f_34.f.okM (caps:=fun L=>[(0,L+1)]) T.kc_34 yn (Ce K A) (fun L p hp=>by simp only [List.mem_cons,List.not_mem_nil,or_false] at hp;rcases hp with rfl <;> exact ⟨_,rfl,rfl,rfl⟩) (fun L=>by simp) (fun Ar outer s H vs Q E hr h=>⟨_,QMs.nox (FK T T.B T.C_34 Ar outer s H E hr),Ff T.1 (s.heap.objs.size+1) (by simp) vs H Q E h⟩)
theorem Fj (B:BM mg base) (C:W.CodeHd base A.k_60 A.t_60) (Ar:Around) (outer:List Env) (s:Shared) (H:Hp) (E:XK)
  (hr:bg 0 (Ar.deeper (envOfC "writing" (al kf) s.heap.objs.size A.a_60 (.ref A.k_60)))):QMs (cF (CX1 P w) P w K mg base [] "writing" (al kf) A.a_60 (.ref A.k_60) Ar outer s H E).nox (aO kf) (Ba K A):=(
 nH (nJ (yg B C rfl (by rfl) (by simp <;> omega) rfl rfl rfl rfl (fun _ _ _ _ us hl=>by obtain ⟨_,rfl⟩:=L2.er hl;rfl))))
theorem DP:aP P w K mg base (CX1 P w) 1 A.a_60 A.d_60 [] (lc K A):=
 T.f_60.f.okM (caps:=fun L=>[]) T.kc_60 Fe (Cb K A) (fun L p hp=>nomatch hp) (fun L=>by simp) (fun Ar outer s H vs Q E hr h=>⟨_,QMs.nox (Fj T T.B T.C_60 Ar outer s H E hr),EW T.1 (by simp) vs H Q E h⟩)
theorem nq:aP P w K mg base (CX1 P w) 1 A.a_17 A.d_17 ["_law_number_here"] (eA K A):=
 T.f_17.f.okS yi (AM K A) (Dx T.1) fun _ _ _ _ _ _ hr=>
 am (aH 0 yi.nd (aw bj (aw cX (af 0) (aj)) (aj))) (am (aK (aQ (bR hr.units150) (aw bj (af 0) (aj)) (aj)) (ao (ay (aw bB (bx) (iw GC T.z_str boot_str (ac (aw bj (af 0) (aj)) (ai)))))) (aF)) (am (aK (aQ (bR hr.units150) (aw bj (af 0) (aj)) (aj)) (ao (ay (aw bj (aw cq (af 0) (aj)) (aj)))) (aF)) (am (aK (aQ (bR hr.units150) (aw bj (af 0) (aj)) (aj)) (ao (ay (aw cX (af 0) (aw sM (aj) (aj))))) (aF)) (ao (ay (aw dm (aw dm (aw sM (aj) (aj)) (aj)) (af 0)))))))
theorem Fb:aP P w K mg base (CX1 P w) 2 A.a_26 A.d_26 ["_law_cell", "_law_low", "_law_bits_here"] (kM K A):=
 T.f_26.f.okS nW (Ab K A) (FW T.1) fun _ _ _ _ _ _ hr=>
 am (aH 3 nW.nd (aw bj (aw cq (af 0) (aj)) (aj))) (am (aH 4 nW.nd (bV (ai))) (am (eD 5 nW.nd (wC T.z_range (ac (af 1) (ac (af 2) (ai)))) (ao (aK (aQ oLt (aw bj (aw bj (aw cX (aw cX (af 3) (aw bB (af 5) (aj))) (aj)) (aj)) (aj)) (aw bj (af 0) (aj))) (ao (eM (jY PySem.F.plainAttrs_list PySem.F.slot_list_append PySem.F.type_list_append eK (af 4) (ac (bE (ac (af 5) (ac (aL (nq T) hr.le T.f_17 (ac (aw bB (af 3) (aw cX (aj) (af 5))) (ai))) (ai)))) (ai))))) (aF))) PassesOwn.never) (ao (ay (iw uh T.z_tuple boot_tuple (ac (af 4) (ai)))))))
theorem yh:aP P w K mg base (CX1 P w) 1 A.a_32 A.d_32 ["_law_cell"] (ib K A):=
 T.f_32.f.okS fF (zW K A) (Fq T.1) fun _ _ _ _ _ _ hr=>
 am (aH 1 fF.nd (bx)) (am (aH 1 fF.nd (aw bB (af 1) (bx))) (am (aH 2 fF.nd (aw bj (af 0) (aj))) (am (aK (aQ (bR hr.units150) (aw bj (aw cq (af 0) (aj)) (aj)) (aj)) (ao (aH 2 fF.nd (aj))) (aF)) (am (aK (aQ (bR hr.units150) (aw bj (aw cq (af 0) (aj)) (aj)) (aj)) (ao (aH 2 fF.nd (aw bj (aw cq (af 0) (aj)) (aj)))) (aF)) (am (aH 3 fF.nd (bx)) (am (eD 4 fF.nd (ip T.z_range (ac (af 2) (ai))) (ao (aH 3 fF.nd (aw bB (af 3) (aY (aE hr.units1) (af 1) (aw bj (aw bB (aw cq (af 0) (aj)) (aw cX (af 4) (aw bj (aw cq (af 0) (aj)) (aj)))) (aI cg T.z_len PySem.boot_len (ac (af 1) (ai)))) (fun _ _=>rfl))))) PassesOwn.never) (ao (ay (af 3)))))))))
theorem FR:aP P w K mg base (CX1 P w) 2 A.a_13 A.d_13 ["_law_cell", "_law_bits_here", "_law_key_here", "_law_low"] (ko K A):=
 T.f_13.f.okS hV (AW K A) (En T.1) fun _ _ _ _ _ _ hr=>
 am (aH 4 hV.nd (aw cq (af 0) (aj))) (am (aK (x_w (gP (aQ (bR hr.units150) (aw bj (af 0) (aj)) (aj)) (fQ (aQ (bR hr.units150) (af 3) (aj))))) (ao (ay (bE (ac (bx) (ai))))) (aF)) (am (aK (x_w (gP (aQ (bR hr.units150) (aw bj (af 0) (aj)) (aj)) (fQ (aQ oLt (aw bB (af 3) (aj)) (af 1))))) (am (aH 5 hV.nd (aw bB (aw bB (af 3) (aj)) (aw bj (af 4) (aw dm (aw dm (af 1) (aj)) (af 3))))) (am (aH 6 hV.nd (aw sw (af 2) (aw dm (af 1) (af 5)))) (am (aH 7 hV.nd (aw gD (aj) (aw dm (af 5) (af 3)))) (am (aH 8 hV.nd (aw bj (aw bB (aw bB (aw bj (af 6) (af 7)) (aj)) (aw bj (aw cX (af 4) (aj)) (aw dm (af 7) (aj)))) (af 7))) (ao (ay (bE (ac (bx) (ac (af 5) (ac (aw bB (aw dm (af 6) (aw bj (af 6) (af 7))) (af 8)) (ac (aL (nq T) hr.le T.f_17 (ac (af 4) (ai))) (ac (aL (nq T) hr.le T.f_17 (ac (aw bB (aw cq (af 4) (aj)) (aj)) (ai))) (ai))))))))))))) (aF)) (am (aH 9 hV.nd (aw gD (aj) (aw dm (af 1) (af 3)))) (am (aK (aQ (bR hr.units150) (aw bj (af 0) (aj)) (aj)) (ao (ay (bE (ac (bx) (ac (af 2) (ac (aL (yh T) hr.le T.f_32 (ac (af 4) (ai))) (ai))))))) (aF)) (ao (ay (bE (ac (bx) (ac (aw bB (aw dm (af 2) (aw bj (af 2) (af 9))) (aw bj (aw cX (af 4) (aj)) (af 9))) (ac (aL (yh T) hr.le T.f_32 (ac (aw cq (af 4) (aj)) (ai))) (ai)))))))))))
theorem Gi:aP P w K mg base (CX1 P w) 1 A.a_22 A.d_22 ["_law_steps_here", "_law_low"] (km K A):=
 T.f_22.f.okS Gp (Ah K A) (Em T.1) fun _ _ _ _ _ _ hr=>
 am (aK (aQ (bR hr.units150) (af 0) (bE (ai))) (ao (ay (af 1))) (aF)) (ao (ay (aw bB (aY (aE hr.units1) (aY (aE hr.units1) (af 0) (eP (aj)) (fun _ _=>rfl)) (aj) (fun _ _=>rfl)) (aj))))
theorem gW:qj P w K mg base 5 (gi K A):=fun ts hts=>by
 simp only [gi,List.mem_cons,List.not_mem_nil,or_false] at hts
 rcases hts with rfl | rfl | rfl | rfl
 · exact (FU T).mono (by decide)
 · exact (FP T).mono (by decide)
 · exact (FY T).mono (by decide)
 · exact (Dh T).mono (by decide)
theorem xU:aP P w K mg base (CX1 P w) 6 A.a_30 A.d_30 ["_law_stamper", "_law_bits_here", "_law_key_here", "_law_slip"] (jz K A):=
 T.f_30.f.okS lq (CP K A) (Gr T.1) fun _ _ _ _ _ _ hr=>
 am (aH 4 lq.nd (bV (ac (aY (aE hr.units1) (af 3) (aj) (fun _ _=>rfl)) (ai)))) (am (Ai 5 6 lq.nd (xS T.z_reversed (ac (aY (aE hr.units1) (af 3) (aj) (fun _ _=>rfl)) (ai))) (am (aH 7 lq.nd (gT (gW T) hr.le cU (af 0) (ac (aY (aE hr.units1) (af 4) (eP (aj)) (fun _ _=>rfl)) (ai)))) (am (aH 8 lq.nd (aw cq (af 2) (aw gD (aj) (aw dm (af 1) (af 5))))) (ao (aK (aQ (bR hr.units150) (aw bj (aw cq (af 2) (aw gD (aj) (aw dm (aw dm (af 1) (af 5)) (aj)))) (aj)) (aj)) (ao (eM (jY PySem.F.plainAttrs_list PySem.F.slot_list_append PySem.F.type_list_append eK (af 4) (ac (bE (ac (bx) (ac (af 5) (ac (af 8) (ac (af 7) (ac (af 6) (ai))))))) (ai))))) (ao (eM (jY PySem.F.plainAttrs_list PySem.F.slot_list_append PySem.F.type_list_append eK (af 4) (ac (bE (ac (bx) (ac (af 5) (ac (af 8) (ac (af 6) (ac (af 7) (ai))))))) (ai))))))))) PassesOwn.never) (ao (ay (af 4))))
theorem sL:aP P w K mg base (CX1 P w) 1 A.a_21 A.d_21 ["_law_found", "_law_due"] (jE K A):=
 T.f_21.f.okS DH (Bb K A) (Fd T.1) fun _ _ _ _ _ _ hr=>
 am (aK (be (aI dg T.z_isinstance boot_isinstance (ac (af 1) (ac (de T.z_str boot_str) (ai))))) (ao (ay (eu (aI dg T.z_isinstance boot_isinstance (ac (af 0) (ac (de T.z_str boot_str) (ai)))) (fe (fL (bR hr.units150) (af 0) (af 1)))))) (aF)) (ao (ay (eu (aI dg T.z_isinstance boot_isinstance (ac (af 0) (ac (de T.z_int boot_int) (ai)))) (eu (yG (aI dg T.z_isinstance boot_isinstance (ac (af 0) (ac (de T.z_bool boot_bool) (ai))))) (fe (fL (bR hr.units150) (af 0) (af 1)))))))
theorem EE:aP P w K mg base (CX1 P w) 2 A.a_29 A.d_29 ["_law_found", "_law_due"] (nV K A):=
 T.f_29.f.okS yE (zR K A) (Gn T.1) fun _ _ _ _ _ _ hr=>
 am (aK (x_w (eC (br (be (aI dg T.z_isinstance boot_isinstance (ac (af 0) (ac (de T.z_tuple boot_tuple) (ai)))))) (dZ (aQ (dM hr.units150) (aI cg T.z_len PySem.boot_len (ac (af 0) (ai))) (aI cg T.z_len PySem.boot_len (ac (af 1) (ai))))))) (ao (ay (bo))) (aF)) (am (eD 2 yE.nd (ip T.z_range (ac (aI cg T.z_len PySem.boot_len (ac (af 1) (ai))) (ai))) (ao (aK (br (be (aL (sL T) hr.le T.f_21 (ac (aY (aE hr.units1) (af 0) (af 2) (fun _ _=>rfl)) (ac (aY (aE hr.units1) (af 1) (af 2) (fun _ _=>rfl)) (ai)))))) (ao (ay (bo))) (aF))) PassesOwn.never) (ao (ay (bo))))
theorem DC:aP P w K mg base (CX1 P w) 3 A.a_31 A.d_31 ["_law_found", "_law_due"] (nG K A):=
 T.f_31.f.okS yD (CS K A) (Ds T.1) fun _ _ _ _ _ _ hr=>
 am (aK (x_w (eC (br (be (aI dg T.z_isinstance boot_isinstance (ac (af 0) (ac (de T.z_list boot_list) (ai)))))) (dZ (aQ (dM hr.units150) (aI cg T.z_len PySem.boot_len (ac (af 0) (ai))) (aI cg T.z_len PySem.boot_len (ac (af 1) (ai))))))) (ao (ay (bo))) (aF)) (am (eD 2 yD.nd (ip T.z_range (ac (aI cg T.z_len PySem.boot_len (ac (af 1) (ai))) (ai))) (ao (aK (br (be (aL (EE T) hr.le T.f_29 (ac (aY (aE hr.units1) (af 0) (af 2) (fun _ _=>rfl)) (ac (aY (aE hr.units1) (af 1) (af 2) (fun _ _=>rfl)) (ai)))))) (ao (ay (bo))) (aF))) PassesOwn.never) (ao (ay (bo))))
theorem rA:aP P w K mg base (CX1 P w) 2 A.a_42 A.d_42 ["bits", "thing"] (jD K A):=
 T.f_42.f.okS EM (Bw K A) (FM T.1) fun _ _ _ _ _ _ hr=>
 ao (ay (eu (aL (hJ T) hr.le T.f_49 (ac (af 1) (ai))) (fe (jv oLe oLt (aj) (af 1) (aw gD (aj) (af 0))))))
theorem DX:aP P w K mg base (CX1 P w) 3 A.a_46 A.d_46 ["bits", "least", "thing"] (nE K A):=
 T.f_46.f.okS Gb (Bg K A) (El T.1) fun _ _ _ _ _ _ hr=>
 am (aK (x_w (eC (br (be (aI dg T.z_isinstance boot_isinstance (ac (af 2) (ac (de T.z_tuple boot_tuple) (ai)))))) (dZ (aQ (dM hr.units150) (aI cg T.z_len PySem.boot_len (ac (af 2) (ai))) (aj))))) (ao (ay (bo))) (aF)) (ao (ay (eu (aL (hJ T) hr.le T.f_49 (ac (aY (aE hr.units1) (af 2) (aj) (fun _ _=>rfl)) (ai))) (eu (jv oLe oLt (af 1) (aY (aE hr.units1) (af 2) (aj) (fun _ _=>rfl)) (af 0)) (fe (aL (nY T) hr.le T.f_45 (ac (aY (aE hr.units1) (af 2) (aj) (fun _ _=>rfl)) (ai))))))))
theorem DI:aP P w K mg base (CX1 P w) 4 A.a_36 A.d_36 ["bits", "thing"] (nR K A):=
 T.f_36.f.okS nU (BQ K A) (FJ T.1) fun _ _ _ _ _ _ hr=>
 am (aK (br (be (aI dg T.z_isinstance boot_isinstance (ac (af 1) (ac (de T.z_tuple boot_tuple) (ai)))))) (ao (ay (bo))) (aF)) (am (aH 2 nU.nd (aj)) (am (eD 3 nU.nd (eL (af 1)) (am (aK (br (be (aL (DX T) hr.le T.f_46 (ac (af 0) (ac (af 2) (ac (af 3) (ai))))))) (ao (ay (bo))) (aF)) (ao (aH 2 nU.nd (aw bB (aY (aE hr.units1) (af 3) (aj) (fun _ _=>rfl)) (aj))))) PassesOwn.never) (ao (ay (bo)))))
theorem kh:aP P w K mg base (CX1 P w) 1 A.a_58 A.d_58 ["bits", "key", "depth"] (gy K A):=
 T.f_58.f.okS Ea (CW K A) (EX T.1) fun _ _ _ _ _ _ hr=>
 ao (ay (aw sw (af 1) (aw dm (af 0) (af 2))))
theorem DE:aP P w K mg base (CX1 P w) 1 A.a_48 A.d_48 ["thing"] (nP K A):=
 T.f_48.f.okS DY (Cz K A) (ER T.1) fun _ _ _ _ _ _ hr=>
 ao (ay (eu (aI dg T.z_isinstance boot_isinstance (ac (af 0) (ac (de T.z_str boot_str) (ai)))) (fe (fL oLe (aI cg T.z_len PySem.boot_len (ac (af 0) (ai))) (vp T.c_MOST_SIGNS)))))
theorem Dz:aP P w K mg base (CX1 P w) 3 A.a_43 A.d_43 ["bits", "depth", "begin", "thing"] (mX K A):=
 T.f_43.f.okS Dk (Ad K A) (DT T.1) fun _ _ _ _ _ _ hr=>
 am (aK (x_w (eC (br (be (aI dg T.z_isinstance boot_isinstance (ac (af 3) (ac (de T.z_tuple boot_tuple) (ai)))))) (eC (aQ (dM hr.units150) (aI cg T.z_len PySem.boot_len (ac (af 3) (ai))) (aj)) (dZ (aQ (dM hr.units150) (aY (aE hr.units1) (af 3) (aj) (fun _ _=>rfl)) (bx)))))) (ao (ay (bo))) (aF)) (am (aK (x_w (eC (br (be (aL (rA T) hr.le T.f_42 (ac (af 0) (ac (aY (aE hr.units1) (af 3) (aj) (fun _ _=>rfl)) (ai)))))) (dZ (br (be (aL (DE T) hr.le T.f_48 (ac (aY (aE hr.units1) (af 3) (aj) (fun _ _=>rfl)) (ai)))))))) (ao (ay (bo))) (aF)) (ao (ay (fL (bR hr.units150) (aL (kh T) hr.le T.f_58 (ac (af 0) (ac (aY (aE hr.units1) (af 3) (aj) (fun _ _=>rfl)) (ac (af 1) (ai))))) (af 2)))))
theorem EQ:aP P w K mg base (CX1 P w) 2 A.a_41 A.d_41 ["bits", "depth", "begin", "thing"] (mZ K A):=
 T.f_41.f.okS EF (Ct K A) (Dp T.1) fun _ _ _ _ _ _ hr=>
 am (aK (x_w (eC (br (be (aI dg T.z_isinstance boot_isinstance (ac (af 3) (ac (de T.z_tuple boot_tuple) (ai)))))) (eC (aQ (dM hr.units150) (aI cg T.z_len PySem.boot_len (ac (af 3) (ai))) (aj)) (dZ (aQ (dM hr.units150) (aY (aE hr.units1) (af 3) (aj) (fun _ _=>rfl)) (bx)))))) (ao (ay (bo))) (aF)) (am (aK (x_w (eC (br (be (aL (hJ T) hr.le T.f_49 (ac (aY (aE hr.units1) (af 3) (aj) (fun _ _=>rfl)) (ai))))) (dZ (br (jS oLe oLt (af 1) (aY (aE hr.units1) (af 3) (aj) (fun _ _=>rfl)) (af 0)))))) (ao (ay (bo))) (aF)) (am (aK (x_w (eC (br (be (aL (hJ T) hr.le T.f_49 (ac (aY (aE hr.units1) (af 3) (aj) (fun _ _=>rfl)) (ai))))) (dZ (br (jS oLe oLt (aj) (aY (aE hr.units1) (af 3) (aj) (fun _ _=>rfl)) (aw gD (aj) (aY (aE hr.units1) (af 3) (aj) (fun _ _=>rfl)))))))) (ao (ay (bo))) (aF)) (ao (ay (fL (bR hr.units150) (aw sw (aY (aE hr.units1) (af 3) (aj) (fun _ _=>rfl)) (aw dm (aY (aE hr.units1) (af 3) (aj) (fun _ _=>rfl)) (af 1))) (af 2))))))
theorem DW:aP P w K mg base (CX1 P w) 4 A.a_40 A.d_40 ["bits", "key", "place", "thing"] (nQ K A):=
 T.f_40.f.okS yl (Ac K A) (Dd T.1) fun _ _ _ _ _ _ hr=>
 am (aK (aQ (bR hr.units150) (af 3) (bE (ac (bx) (ai)))) (ao (ay (fL (bR hr.units150) (af 2) (aj)))) (aF)) (am (aH 4 yl.nd (aL (kh T) hr.le T.f_58 (ac (af 0) (ac (af 1) (ac (af 2) (ai)))))) (am (aK (be (aL (Dz T) hr.le T.f_43 (ac (af 0) (ac (af 2) (ac (af 4) (ac (af 3) (ai))))))) (ao (ay (bo))) (aF)) (am (aK (br (be (aL (EQ T) hr.le T.f_41 (ac (af 0) (ac (af 2) (ac (af 4) (ac (af 3) (ai)))))))) (ao (ay (bo))) (aF)) (am (aK (aQ (bR hr.units150) (aY (aE hr.units1) (af 3) (aj) (fun _ _=>rfl)) (aL (kh T) hr.le T.f_58 (ac (af 0) (ac (af 1) (ac (aY (aE hr.units1) (af 3) (aj) (fun _ _=>rfl)) (ai)))))) (ao (ay (bo))) (aF)) (ao (ay (eu (aL (nY T) hr.le T.f_45 (ac (aY (aE hr.units1) (af 3) (aj) (fun _ _=>rfl)) (ai))) (fe (aL (nY T) hr.le T.f_45 (ac (aY (aE hr.units1) (af 3) (aj) (fun _ _=>rfl)) (ai)))))))))))
theorem DJ:aP P w K mg base (CX1 P w) 5 A.a_44 A.d_44 ["bits", "key", "thing"] (nO K A):=
 T.f_44.f.okS xZ (BC K A) (Fc T.1) fun _ _ _ _ _ _ hr=>
 am (aK (x_w (eC (br (be (aI dg T.z_isinstance boot_isinstance (ac (af 2) (ac (de T.z_tuple boot_tuple) (ai)))))) (dZ (aQ (dM hr.units150) (aI cg T.z_len PySem.boot_len (ac (af 2) (ai))) (aj))))) (ao (ay (bo))) (aF)) (am (aK (br (be (aL (DI T) hr.le T.f_36 (ac (af 0) (ac (aY (aE hr.units1) (af 2) (aj) (fun _ _=>rfl)) (ai)))))) (ao (ay (bo))) (aF)) (am (aH 3 xZ.nd (tu (be (aY (aE hr.units1) (af 2) (aj) (fun _ _=>rfl))) (aw bB (aY (aE hr.units1) (aY (aE hr.units1) (aY (aE hr.units1) (af 2) (aj) (fun _ _=>rfl)) (eP (aj)) (fun _ _=>rfl)) (aj) (fun _ _=>rfl)) (aj)) (aj))) (ao (ay (aL (DW T) hr.le T.f_40 (ac (af 0) (ac (af 1) (ac (af 3) (ac (aY (aE hr.units1) (af 2) (aj) (fun _ _=>rfl)) (ai))))))))))
theorem rO:aP P w K mg base (CX1 P w) 1 A.a_52 A.d_52 ["bits", "key", "depth"] (jr K A):=
 T.f_52.f.okS DQ (AV K A) (FC T.1) fun _ _ _ _ _ _ hr=>
 ao (ay (aw Fg (aw sw (af 1) (aw dm (aw dm (af 0) (af 2)) (aj))) (aj)))
theorem Ep:aP P w K mg base (CX1 P w) 2 A.a_59 A.d_59 ["bits", "key", "step", "mark"] (nj K A):=
 T.f_59.f.okS tD (AS K A) (Eu T.1) fun _ _ _ _ _ _ hr=>
 am (aH 4 tD.nd (aY (aE hr.units1) (af 2) (aj) (fun _ _=>rfl))) (am (aH 5 tD.nd (aL (kh T) hr.le T.f_58 (ac (af 0) (ac (af 1) (ac (af 4) (ai)))))) (am (aK (aQ (bR hr.units150) (aL (rO T) hr.le T.f_52 (ac (af 0) (ac (af 1) (ac (af 4) (ai))))) (aj)) (ao (ay (bE (ac (bx) (ac (af 4) (ac (af 5) (ac (af 3) (ac (aY (aE hr.units1) (af 2) (aj) (fun _ _=>rfl)) (ai))))))))) (aF)) (ao (ay (bE (ac (bx) (ac (af 4) (ac (af 5) (ac (aY (aE hr.units1) (af 2) (aj) (fun _ _=>rfl)) (ac (af 3) (ai)))))))))))
theorem ED (cdv:Value) (Ar:Around) (outer:List Env) (s:Shared) (H:Hp) (E:XK)
  (hr:bg 5 (Ar.deeper (envOfC "slip_terms" (al lw) s.heap.objs.size A.a_56 cdv))):PSs (cF (CX1 P w) P w K mg base ["stamper", "bits", "key", "slip", "terms", "step"] "slip_terms" (al lw) A.a_56 cdv Ar outer s H E) (aO lw) (Cw K A E):=QSs.out (
 am (aK (br (be (aL (rA T) hr.le T.f_42 (ac (af 1) (ac (af 2) (ai)))))) (ao (lA T.er_NoKey T.mc_NoKey gz)) (aF)) (am (aK (br (be (aL (DJ T) hr.le T.f_44 (ac (af 1) (ac (af 2) (ac (af 3) (ai))))))) (ao (lA T.er_NoPaper T.mc_NoPaper gz)) (aF)) (am (aH 4 rT.nd (bV (ac (aY (aE hr.units1) (af 3) (aj) (fun _ _=>rfl)) (ai)))) (am (eD 5 rT.nd (xS T.z_reversed (ac (aY (aE hr.units1) (af 3) (aj) (fun _ _=>rfl)) (ai))) (ao (eM (jY PySem.F.plainAttrs_list PySem.F.slot_list_append PySem.F.type_list_append eK (af 4) (ac (aL (Ep T) hr.le T.f_59 (ac (af 1) (ac (af 2) (ac (af 5) (ac (gT (gW T) hr.le cU (af 0) (ac (aY (aE hr.units1) (af 4) (eP (aj)) (fun _ _=>rfl)) (ai))) (ai)))))) (ai))))) PassesOwn.leaving) (ao (ay (af 4)))))))
theorem rj:aP P w K mg base (CX1 P w) 6 A.a_56 A.d_56 ["stamper", "bits", "key", "slip"] (jA K A):=
 T.f_56.f.okX rT (zZ K A) (fun cdv Ar outer s H vs Q E hr h=>⟨_,ED T cdv Ar outer s H E hr,ES T.1 vs H Q E h⟩)
theorem DL:aP P w K mg base (CX1 P w) 1 A.a_25 A.d_25 ["_law_found", "_law_due"] (nA K A):=
 T.f_25.f.okS Gg (CF K A) (DB T.1) fun _ _ _ _ _ _ hr=>
 am (aK (aQ xK (af 1) (fc)) (ao (ay (fL xK (af 0) (fc)))) (aF)) (ao (ay (eu (aI dg T.z_isinstance boot_isinstance (ac (af 0) (ac (de T.z_str boot_str) (ai)))) (fe (fL (bR hr.units150) (af 0) (af 1))))))
theorem Ga (cdv:Value) (Ar:Around) (outer:List Env) (s:Shared) (H:Hp) (E:XK)
  (hr:bg 6 (Ar.deeper (envOfC "slip_mark" (al lT) s.heap.objs.size A.a_54 cdv))):PSs (cF (CX1 P w) P w K mg base ["stamper", "bits", "key", "slip"] "slip_mark" (al lT) A.a_54 cdv Ar outer s H E) (aO lT) (CC K A E):=QSs.out (
 ao (ay (gT (gW T) hr.le cU (af 0) (ac (aY (aE hr.units1) (dz (rj T) hr.le T.f_56.m T.f_56.f.kp T.f_56.b eZ (ac (af 0) (ac (af 1) (ac (af 2) (ac (af 3) (ai)))))) (eP (aj)) (fun _ _=>rfl)) (ai)))))
theorem xR:aP P w K mg base (CX1 P w) 7 A.a_54 A.d_54 ["stamper", "bits", "key", "slip"] (lh K A):=
 T.f_54.f.okX Gh (Bo K A) (fun cdv Ar outer s H vs Q E hr h=>⟨_,Ga T cdv Ar outer s H E hr,Ez T.1 vs H Q E h⟩)
theorem HE:aP P w K mg base (CX1 P w) 1 A.a_1 A.d_1 ["self", "due", "came"] (rG K A):=
 T.f_1.okS Ig (DR K A) (Hd T.1) fun _ _ _ _ _ _ hr=>
 am (tO (af 0) (af 1)) (ao (tO (af 0) (af 2)))
theorem EG:aP P w K mg base (CX1 P w) 1 A.a_57 A.d_57 ["key", "slip"] (mY K A):=
 T.f_57.f.okS yk (Bn K A) (DS T.1) fun _ _ _ _ _ _ hr=>
 am (aH 2 yk.nd (aY (aE hr.units1) (af 1) (aj) (fun _ _=>rfl))) (ao (ay (tu (x_w (gP (aQ (bR hr.units150) (aY (aE hr.units1) (af 2) (aj) (fun _ _=>rfl)) (bx)) (fQ (aQ (bR hr.units150) (aY (aE hr.units1) (af 2) (aj) (fun _ _=>rfl)) (af 0))))) (aY (aE hr.units1) (af 2) (aj) (fun _ _=>rfl)) (fc))))
theorem FI (cdv:Value) (Ar:Around) (outer:List Env) (s:Shared) (H:Hp) (E:XK)
  (hr:bg 7 (Ar.deeper (envOfC "slip_answer" (al ly) s.heap.objs.size A.a_53 cdv))):PSs (cF (CX1 P w) P w K mg base ["stamper", "bits", "mark", "key", "slip", "came"] "slip_answer" (al ly) A.a_53 cdv Ar outer s H E) (aO ly) (CG K A E):=QSs.out (
 am (aH 5 ya.nd (dz (xR T) hr.le T.f_54.m T.f_54.f.kp T.f_54.b eZ (ac (af 0) (ac (af 1) (ac (af 3) (ac (af 4) (ai))))))) (am (aK (aQ (dM hr.units150) (af 5) (af 2)) (ao (vX T.em_Broken (HE T) hr.le T.b_1 T.mc_Broken gz (ac (af 2) (ac (af 5) (ai))))) (aF)) (ao (ay (aL (EG T) hr.le T.f_57 (ac (af 3) (ac (af 4) (ai))))))))
theorem rV:aP P w K mg base (CX1 P w) 8 A.a_53 A.d_53 ["stamper", "bits", "mark", "key", "slip"] (jF K A):=
 T.f_53.f.okX ya (CV K A) (fun cdv Ar outer s H vs Q E hr h=>⟨_,FI T cdv Ar outer s H E hr,EN T.1 vs H Q E h⟩)
theorem Gk:aP P w K mg base (CX1 P w) 1 A.a_33 A.d_33 ["_law_key_here", "_law_slip"] (ny K A):=
 T.f_33.f.okS Di (Ca K A) (Dl T.1) fun _ _ _ _ _ _ hr=>
 am (aK (x_w (gP (aQ (bR hr.units150) (aY (aE hr.units1) (aY (aE hr.units1) (af 1) (aj) (fun _ _=>rfl)) (aj) (fun _ _=>rfl)) (bx)) (fQ (aQ (bR hr.units150) (aY (aE hr.units1) (aY (aE hr.units1) (af 1) (aj) (fun _ _=>rfl)) (aj) (fun _ _=>rfl)) (af 0))))) (ao (ay (aY (aE hr.units1) (aY (aE hr.units1) (af 1) (aj) (fun _ _=>rfl)) (aj) (fun _ _=>rfl)))) (aF)) (ao (ay (fc)))
theorem yy:aP P w K mg base (CX1 P w) 9 A.a_24 A.d_24 ["_law_stamper", "_law_bits_here", "_law_key_here", "_law_slip"] (im K A):=
 T.f_24.f.okS sV (BU K A) (Dr T.1) fun _ _ _ _ _ _ hr=>
 am (aH 4 sV.nd (aL (xU T) hr.le T.f_30 (ac (af 0) (ac (af 1) (ac (af 2) (ac (af 3) (ai))))))) (am (aH 5 sV.nd (gT (gW T) hr.le cU (af 0) (ac (aY (aE hr.units1) (af 4) (eP (aj)) (fun _ _=>rfl)) (ai)))) (am (aK (br (be (aL (DC T) hr.le T.f_31 (ac (aL (rj T) hr.le T.f_56 (ac (af 0) (ac (af 1) (ac (af 2) (ac (af 3) (ai)))))) (ac (af 4) (ai)))))) (ao (ay (bo))) (aF)) (ao (ay (aL (DL T) hr.le T.f_25 (ac (aL (rV T) hr.le T.f_53 (ac (af 0) (ac (af 1) (ac (af 5) (ac (af 2) (ac (af 3) (ai))))))) (ac (aL (Gk T) hr.le T.f_33 (ac (af 2) (ac (af 3) (ai)))) (ai))))))))
theorem DA:aP P w K mg base (CX1 P w) 1 A.a_19 A.d_19 ["_law_bits_here", "_law_cell"] (kE K A):=
 T.f_19.f.okS ym (BO K A) (EK T.1) fun _ _ _ _ _ _ hr=>
 am (aH 2 ym.nd (aw bB (aw gD (aj) (af 0)) (aw bj (af 1) (aw sM (aj) (aj))))) (ao (ay (bV (ac (eP (aj)) (ac (aw gD (aj) (af 0)) (ac (af 2) (ac (eP (af 2)) (ac (bo) (ac (bo) (ac (fc) (ac (bx) (ac (bV (ac (aj) (ai))) (ac (bE (ac (aj) (ai))) (ac (jd) (ac (bx) (ac (bV (ai)) (ac (bE (ai)) (ai))))))))))))))))))
theorem Fv:aP P w K mg base (CX1 P w) 1 A.a_20 A.d_20 ["_law_bits_here", "_law_slip", "_law_mark_here"] (kG K A):=
 T.f_20.f.okS ng (Bj K A) (FE T.1) fun _ _ _ _ _ _ hr=>
 am (BY 3 4 ng.nd rfl (af 1)) (am (aH 5 ng.nd (bV (ac (bV (ac (af 3) (ac (af 4) (ai)))) (ac (bE (ac (af 3) (ai))) (ac (bE (ac (af 3) (ac (bE (ac (bx) (ac (aY (aE hr.units1) (af 4) (eP (aj)) (fun _ _=>rfl)) (ac (bx) (ai))))) (ai)))) (ac (fc) (ac (bx) (ac (aj) (ai))))))))) (am (aH 5 ng.nd (aw bB (af 5) (bV (ac (bE (ac (aw bB (af 3) (bE (ac (bE (ac (af 0) (ac (af 2) (ai)))) (ai)))) (ac (af 4) (ai)))) (ac (bE (ac (aw bB (af 3) (bE (ac (bE (ac (aj) (ac (eP (aj)) (ai)))) (ai)))) (ac (af 4) (ai)))) (ai)))))) (ao (ay (aw bB (af 5) (bV (ac (bE (ac (af 3) (ac (af 4) (ac (bE (ai)) (ai))))) (ac (bE (ac (af 3) (ac (fc) (ai)))) (ac (jd) (ac (bV (ai)) (ac (bo) (ac (bE (ac (af 3) (ac (bV (ac (bx) (ai))) (ai)))) (ai)))))))))))))
theorem HW:aP P w K mg base (CX1 P w) 2 A.a_3 A.d_3 ["self", "bits", "key"] (sY K A):=
 T.f_3.okS Gy (FG K A) (GO T.1) fun _ _ _ _ _ _ hr=>
 ao (ay (fL (bR hr.units150) (aL (kh T) hr.le T.f_58 (ac (af 1) (ac (af 2) (ac (cu (af 0)) (ai))))) (cu (af 0))))
theorem GA:aP P w K mg base (CX1 P w) 2 A.a_2 A.d_2 ["self", "bits", "key"] (tB K A):=
 T.f_2.okS GN (Fp K A) (Ij T.1) fun _ _ _ _ _ _ hr=>
 ao (ay (tu (aQ (bR hr.units150) (aL (rO T) hr.le T.f_52 (ac (af 1) (ac (af 2) (ac (cu (af 0)) (ai))))) (aj)) (cu (af 0)) (cu (af 0))))
theorem HZ:aP P w K mg base (CX1 P w) 2 A.a_4 A.d_4 ["self", "bits", "key"] (rz K A):=
 T.f_4.okS HK (FL K A) (Hi T.1) fun _ _ _ _ _ _ hr=>
 ao (ay (tu (aQ (bR hr.units150) (aL (rO T) hr.le T.f_52 (ac (af 1) (ac (af 2) (ac (cu (af 0)) (ai))))) (aj)) (cu (af 0)) (cu (af 0))))
theorem FD (cdv:Value) (Ar:Around) (outer:List Env) (s:Shared) (H:Hp) (E:XK)
  (hr:bg 2 (Ar.deeper (envOfC "slip_of" (al lC) s.heap.objs.size A.a_55 cdv))):PSs (cF (CX1 P w) P w K mg base ["table", "key", "steps", "knot"] "slip_of" (al lC) A.a_55 cdv Ar outer s H E) (aO lC) (BG K A E):=QSs.out (
 am (aK (br (be (aL (rA T) hr.le T.f_42 (ac (cu (af 0)) (ac (af 1) (ai)))))) (ao (lA T.er_NoKey T.mc_NoKey gz)) (aF)) (am (aH 2 nh.nd (bV (ai))) (am (aH 3 nh.nd (cu (af 0))) (am (zh (x_w (gP (be (aI Ef T.z_isinstance boot_isinstance (ac (af 3) (ac (tm T.mc_Fork) (ai))))) (fQ (be (jG (af 3) T.cl_Fork T.me_Fork_leads (HW T) hr.le T.b_3 cU (ac (cu (af 0)) (ac (af 1) (ai)))))))) (am (eM (jY PySem.F.plainAttrs_list PySem.F.slot_list_append PySem.F.type_list_append eK (af 2) (ac (bE (ac (cu (af 3)) (ac (cu (jG (af 3) T.cl_Fork T.me_Fork_aside (GA T) hr.le T.b_2 cU (ac (cu (af 0)) (ac (af 1) (ai))))) (ai)))) (ai)))) (ao (aH 3 nh.nd (jG (af 3) T.cl_Fork T.me_Fork_toward (HZ T) hr.le T.b_4 cU (ac (cu (af 0)) (ac (af 1) (ai))))))) PassesOwn.leaving) (ao (ay (bE (ac (iw uh T.z_tuple boot_tuple (ac (af 2) (ai))) (ac (cu (af 3)) (ai))))))))))
theorem Ew:aP P w K mg base (CX1 P w) 3 A.a_55 A.d_55 ["table", "key"] (mW K A):=
 T.f_55.f.okX nh (BZ K A) (fun cdv Ar outer s H vs Q E hr h=>⟨_,FD T cdv Ar outer s H E hr,Fk T.1 vs H Q E h⟩)
theorem Fo:aP P w K mg base (CX1 P w) 2 A.a_39 A.d_39 ["thing"] (nF K A):=
 T.f_39.f.okS DZ (BL K A) (Ee T.1) fun _ _ _ _ _ _ hr=>
 ao (ay (eu (aL (hJ T) hr.le T.f_49 (ac (af 0) (ai))) (fe (jv oLe oLe (aj) (af 0) (vp T.c_MOST_BITS)))))
theorem Hz:aP P w K mg base (CX1 P w) 6 A.a_5 A.d_5 ["self", "stamper", "term"] (sN K A):=
 T.f_5.okS Im (EA K A) (Gt T.1) fun _ _ _ _ _ _ hr=>
 am (eS (af 0) (af 2)) (ao (eS (af 0) (gT (gW T) hr.le cU (af 1) (ac (af 2) (ai)))))
theorem HS:aP P w K mg base (CX1 P w) 7 A.a_0 A.d_0 ["self", "stamper"] (sf K A):=
 T.f_0.okS Hn (Fl K A) (Ib T.1) fun _ _ _ _ _ _ hr=>
 ao (eM (Bz T.mc_Knot T.cf_Knot (Hz T) hr.le T.b_5 cU (ac (af 0) (ac (af 1) (ac (bE (ac (bx) (ai))) (ai))))))
theorem Gw:aP P w K mg base (CX1 P w) 9 A.a_8 A.d_8 ["self", "stamper", "bits"] (sH K A):=
 T.f_8.okS Hh (Dv K A) (Ha T.1) fun _ _ _ _ _ _ hr=>
 am (aK (br (be (aL (Fo T) hr.le T.f_39 (ac (af 2) (ai))))) (ao (lD)) (aF)) (am (eS (af 0) (af 1)) (am (eS (af 0) (af 2)) (ao (eS (af 0) (qD T.mk_Bare (HS T) hr.le T.mc_Bare T.b_0 cU (ac (af 1) (ai)))))))
theorem GR (cdv:Value) (Ar:Around) (outer:List Env) (s:Shared) (H:Hp) (E:XK)
  (hr:bg 10 (Ar.deeper (envOfC "_law_ask" (al s_9) s.heap.objs.size A.a_9 cdv))):PSs (cF (CX1 P w) P w K mg base ["_law_way", "_law_stamper", "_law_bits_here", "_law_mark_here", "_law_key_here", "_law_thing"] "_law_ask" (al s_9) A.a_9 cdv Ar outer s H E) (aO s_9) (T_9 K A E):=QSs.out (
 am (aK (aQ (bR hr.units150) (af 0) (aj)) (ao (ay (dz (rj T) hr.le T.f_56.m T.f_56.f.kp T.f_56.b eZ (ac (af 1) (ac (af 2) (ac (af 4) (ac (af 5) (ai)))))))) (aF)) (am (aK (aQ (bR hr.units150) (af 0) (aj)) (ao (ay (dz (xR T) hr.le T.f_54.m T.f_54.f.kp T.f_54.b eZ (ac (af 1) (ac (af 2) (ac (af 4) (ac (af 5) (ai)))))))) (aF)) (am (aK (aQ (bR hr.units150) (af 0) (aj)) (ao (ay (dz (rV T) hr.le T.f_53.m T.f_53.f.kp T.f_53.b eZ (ac (af 1) (ac (af 2) (ac (af 3) (ac (af 4) (ac (af 5) (ai))))))))) (aF)) (ao (ay (dz (Ew T) hr.le T.f_55.m T.f_55.f.kp T.f_55.b eZ (ac (qD T.mk_Table (Gw T) hr.le T.mc_Table T.b_8 cU (ac (af 1) (ac (af 2) (ai)))) (ac (af 4) (ai)))))))))
theorem Cf:aP P w K mg base (CX1 P w) 11 A.a_9 A.d_9 ["_law_way", "_law_stamper", "_law_bits_here", "_law_mark_here", "_law_key_here", "_law_thing"] (oV K A):=
 T.f_9.f.okX Hr (DM K A) (fun cdv Ar outer s H vs Q E hr h=>⟨_,GR T cdv Ar outer s H E hr,Ii T.1 vs H Q E h⟩)
theorem rY:aP P w K mg base (CX1 P w) 12 A.a_18 A.d_18 ["_law_way", "_law_stamper", "_law_bits_here", "_law_mark_here", "_law_key_here", "_law_thing"] (jk K A):=
 T.f_18.f.okS kC (AY K A) (EY T.1) fun _ _ _ _ _ E hr=>
 am (aH 6 kC.nd (bx)) (am (sZ (fun pn' E' EH hEH=>ao (eM (dz (Cf T) hr.le T.f_9.m T.f_9.f.kp T.f_9.b hEH (ac (af 0) (ac (af 1) (ac (af 2) (ac (af 3) (ac (af 4) (ac (af 5) (ai)))))))))) (pJ T.eo_NoKey T.mc_NoKey (fun a=>ao (aH 6 kC.nd (bx))) (pJ T.eo_NoPaper T.mc_NoPaper (fun a=>ao (aH 6 kC.nd (bx))) (pJ T.eo_Broken T.mc_Broken (fun a=>ao (aH 6 kC.nd (bx))) (oG)))) (aF)) (ao (ay (af 6))))
theorem sy:aP P w K mg base (CX1 P w) 12 A.a_16 A.d_16 ["_law_way", "_law_stamper", "_law_bits_here", "_law_mark_here", "_law_key_here", "_law_thing"] (jC K A):=
 T.f_16.f.okS kZ (AF K A) (Ei T.1) fun _ _ _ _ _ E hr=>
 am (aH 6 kZ.nd (fc)) (am (sZ (fun pn' E' EH hEH=>ao (eM (dz (Cf T) hr.le T.f_9.m T.f_9.f.kp T.f_9.b hEH (ac (af 0) (ac (af 1) (ac (af 2) (ac (af 3) (ac (af 4) (ac (af 5) (ai)))))))))) (yd 7 kZ.nd T.eo_StampError T.mc_StampError (fun a=>am (aH 6 kZ.nd (bV (ac (aI nI T.z_isinstance boot_isinstance (ac (af 7) (ac (de T.z_ValueError mR) (ai)))) (ac (aI nI T.z_isinstance boot_isinstance (ac (af 7) (ac (tm T.mc_NoKey) (ai)))) (ai))))) (ao (aH 6 kZ.nd (aw bB (af 6) (bV (ac (aI nI T.z_isinstance boot_isinstance (ac (af 7) (ac (tm T.mc_NoPaper) (ai)))) (ac (aI nI T.z_isinstance boot_isinstance (ac (af 7) (ac (tm T.mc_Broken) (ai)))) (ai)))))))) (oG)) (aF)) (ao (ay (af 6))))
theorem EC:aP P w K mg base (CX1 P w) 13 A.a_23 A.d_23 ["_law_stamper", "_law_bits_here", "_law_marks", "_law_bad_key", "_law_key_here", "_law_bad", "_law_slip"] (kH K A):=
 T.f_23.f.okS jp (Cs K A) (Fh T.1) fun _ _ _ _ _ _ hr=>
 am (eD 7 jp.nd (ip T.z_range (ac (aj) (ai))) (am (aH 8 jp.nd (aY (aE hr.units1) (af 2) (aw bj (af 7) (aI cg T.z_len PySem.boot_len (ac (af 2) (ai)))) (fun _ _=>rfl))) (am (eD 9 jp.nd (eL (bV (ac (af 6) (ac (af 5) (ai))))) (am (aK (aQ (dM hr.units150) (aL (rY T) hr.le T.f_18 (ac (af 7) (ac (af 0) (ac (af 1) (ac (af 8) (ac (af 3) (ac (af 9) (ai)))))))) (bx)) (ao (ay (bo))) (aF)) (am (aH 10 jp.nd (aL (sy T) hr.le T.f_16 (ac (af 7) (ac (af 0) (ac (af 1) (ac (af 8) (ac (af 3) (ac (af 9) (ai))))))))) (ao (aK (aQ (dM hr.units150) (af 10) (bV (ac (bo) (ac (bo) (ac (bo) (ac (bo) (ai))))))) (ao (ay (bo))) (aF))))) PassesOwn.never) (ao (aK (aQ oLt (af 7) (aj)) (am (aH 10 jp.nd (aL (sy T) hr.le T.f_16 (ac (af 7) (ac (af 0) (ac (af 1) (ac (af 8) (ac (af 4) (ac (af 5) (ai))))))))) (am (aK (aQ (dM hr.units150) (aL (rY T) hr.le T.f_18 (ac (af 7) (ac (af 0) (ac (af 1) (ac (af 8) (ac (af 4) (ac (af 5) (ai)))))))) (bx)) (ao (ay (bo))) (aF)) (ao (aK (aQ (dM hr.units150) (af 10) (bV (ac (bo) (ac (bo) (ac (bo) (ac (bo) (ai))))))) (ao (ay (bo))) (aF))))) (aF))))) PassesOwn.never) (ao (ay (bo)))
theorem Gf:aP P w K mg base (CX1 P w) 9 A.a_14 A.d_14 ["_law_stamper", "_law_bits_here", "_law_mark_here", "_law_key_here", "_law_thing"] (nX K A):=
 T.f_14.f.okS nC (Ak K A) (Et T.1) fun _ _ _ _ _ E hr=>
 am (aH 5 nC.nd (fc)) (am (sZ (fun pn' E' EH hEH=>ao (eM (dz (rV T) hr.le T.f_53.m T.f_53.f.kp T.f_53.b hEH (ac (af 0) (ac (af 1) (ac (af 2) (ac (af 3) (ac (af 4) (ai))))))))) (yd 6 nC.nd T.eo_Broken T.mc_Broken (fun a=>ao (aH 5 nC.nd (bE (ac (tT (af 6)) (ac (tT (af 6)) (ai)))))) (oG)) (aF)) (ao (ay (af 5))))
theorem Eh:aP P w K mg base (CX1 P w) 13 A.a_12 A.d_12 ["_law_stamper", "_law_bits_here", "_law_came", "_law_mark_here", "_law_key_here", "_law_slip"] (kz K A):=
 T.f_12.f.okS tE (Bc K A) (FS T.1) fun _ _ _ _ _ _ hr=>
 am (aK (aQ (dM hr.units150) (aL (rY T) hr.le T.f_18 (ac (aj) (ac (af 0) (ac (af 1) (ac (af 3) (ac (af 4) (ac (af 5) (ai)))))))) (bx)) (ao (ay (bo))) (aF)) (am (aH 6 tE.nd (aL (sy T) hr.le T.f_16 (ac (aj) (ac (af 0) (ac (af 1) (ac (af 3) (ac (af 4) (ac (af 5) (ai))))))))) (am (aK (aQ (dM hr.units150) (af 6) (bV (ac (bo) (ac (bo) (ac (bo) (ac (bo) (ai))))))) (ao (ay (bo))) (aF)) (am (aH 7 tE.nd (aL (Gf T) hr.le T.f_14 (ac (af 0) (ac (af 1) (ac (af 3) (ac (af 4) (ac (af 5) (ai)))))))) (am (aK (x_w (eC (aQ xK (af 7) (fc)) (dZ (br (be (aL (sL T) hr.le T.f_21 (ac (aY (aE hr.units1) (af 7) (aj) (fun _ _=>rfl)) (ac (af 3) (ai))))))))) (ao (ay (bo))) (aF)) (ao (ay (aL (sL T) hr.le T.f_21 (ac (aY (aE hr.units1) (af 7) (aj) (fun _ _=>rfl)) (ac (af 2) (ai))))))))))
theorem FT:aP P w K mg base (CX1 P w) 14 A.a_50 A.d_50 ["_law_script"] (nB K A):=
 T.f_50.f.okS da (BN K A) (DF T.1) fun _ _ _ _ _ _ hr=>
 am (aH 1 da.nd (aL (FV T) hr.le T.f_11 (ac (aL (jb T) hr.le T.f_10 (ac (af 0) (ac (aj) (ai)))) (ai)))) (am (aH 2 da.nd (aL (Dj T) hr.le T.f_15 (ac (af 1) (ac (aL (jb T) hr.le T.f_10 (ac (af 0) (ac (aj) (ai)))) (ac (bV (ai)) (ai)))))) (am (aH 3 da.nd (aL (jb T) hr.le T.f_10 (ac (af 0) (ac (aj) (ai))))) (am (aH 4 da.nd (bV (ac (oE (Ft T) hr.le T.f_37.m T.f_37.f.kp T.f_37.b cU) (ac (aL (Fw T) hr.le T.f_27 (ac (aw bj (aw cq (af 3) (aj)) (aj)) (ai))) (ac (aL (FZ T) hr.le T.f_34 (ac (aw bB (aj) (aw bj (aw cq (af 3) (aj)) (aj))) (ai))) (ac (oE (DP T) hr.le T.f_60.m T.f_60.f.kp T.f_60.b cU) (ai))))))) (am (aH 5 da.nd (aY (aE hr.units1) (af 4) (aw bj (af 3) (aj)) (fun _ _=>rfl))) (am (aH 6 da.nd (aL (Fb T) hr.le T.f_26 (ac (aL (jb T) hr.le T.f_10 (ac (af 0) (ac (aj) (ai)))) (ac (aj) (ac (af 1) (ai)))))) (am (aH 7 da.nd (bE (ac (af 6) (ac (aL (FR T) hr.le T.f_13 (ac (aL (jb T) hr.le T.f_10 (ac (af 0) (ac (aj) (ai)))) (ac (af 1) (ac (af 2) (ac (aL (Gi T) hr.le T.f_22 (ac (af 6) (ac (aj) (ai)))) (ai)))))) (ai))))) (am (aH 8 da.nd (gT (gW T) hr.le cU (af 5) (ac (aY (aE hr.units1) (aL (xU T) hr.le T.f_30 (ac (af 5) (ac (af 1) (ac (af 2) (ac (af 7) (ai)))))) (eP (aj)) (fun _ _=>rfl)) (ai)))) (am (aK (br (be (aL (yy T) hr.le T.f_24 (ac (af 5) (ac (af 1) (ac (af 2) (ac (af 7) (ai)))))))) (ao (ay (bo))) (aF)) (am (eD 3 da.nd (eL (aw bB (lE oA (af 0) (jo (aj)) (jo (aj))) (bV (ac (aL (jb T) hr.le T.f_10 (ac (af 0) (ac (aj) (ai)))) (ai))))) (am (aH 9 da.nd (aL (DA T) hr.le T.f_19 (ac (af 1) (ac (af 3) (ai))))) (am (aH 10 da.nd (aL (Fv T) hr.le T.f_20 (ac (af 1) (ac (af 7) (ac (af 8) (ai)))))) (am (aH 11 da.nd (bV (ac (af 8) (ac (aL (nq T) hr.le T.f_17 (ac (aw bj (af 3) (aj)) (ai))) (ac (aj) (ac (bx) (ac (iw Gc T.z_str boot_str (ac (af 8) (ai))) (ai)))))))) (am (aH 12 da.nd (aY (aE hr.units1) (af 9) (aw bj (af 3) (aI cg T.z_len PySem.boot_len (ac (af 9) (ai)))) (fun _ _=>rfl))) (am (aH 13 da.nd (aY (aE hr.units1) (af 10) (aw bj (aw cq (af 3) (aj)) (aI cg T.z_len PySem.boot_len (ac (af 10) (ai)))) (fun _ _=>rfl))) (am (aK (br (be (aL (EC T) hr.le T.f_23 (ac (af 5) (ac (af 1) (ac (af 11) (ac (af 12) (ac (af 2) (ac (af 13) (ac (af 7) (ai))))))))))) (ao (ay (bo))) (aF)) (ao (eD 14 da.nd (eL (af 11)) (ao (aK (aQ (dM hr.units150) (af 14) (af 8)) (ao (aK (br (be (aL (Eh T) hr.le T.f_12 (ac (af 5) (ac (af 1) (ac (af 8) (ac (af 14) (ac (af 2) (ac (af 7) (ai)))))))))) (ao (ay (bo))) (aF))) (aF))) PassesOwn.never)))))))) PassesOwn.never) (ao (ay (aL (yy T) hr.le T.f_24 (ac (af 5) (ac (af 1) (ac (af 2) (ac (af 7) (ai)))))))))))))))))
omit T
def rK (P:Program) (w:World) (K:W.Frag) (mg:Str→Option Value) (fa:Addr):Prop:=∃ (fd:FuncData) (tabs:List (Addr×Addr)) (sp:Sp),(∀ (s:Shared) (v:Value),BindsTo s fd ⟨[v],[]⟩ [("_law_script",v)])∧W.noTabs K=true∧(∀ t∈tabs,∃ y∈(["counting", "_law_sure", "_law_weak", "writing"]:List Str),W.tabIn K y=some t)∧(∀ base:Heap,K.In base→base.Ns mainGlobals mg→BM mg base→(∀ t∈tabs,W.CodeHd base t.1 t.2)→aP P w K mg base (CX1 P w) 14 fa fd ["_law_script"] sp)∧∀ (H:Hp) (a:Addr) (ns:List Int),ns.length≤63→(∀ t∈tabs,H t.2=some (.tbl #[]))→SqL K H a (ns.map V.int)→sp [.ref a] H (fun v _=>v=.bl true) fun _ _ _=>False
theorem CM (T:Txt K mg A) (nt:W.noTabs K=true) (tb_37:W.tabIn K "counting" =some (A.k_37,A.t_37)) (tb_27:W.tabIn K "_law_sure" =some (A.k_27,A.t_27)) (tb_34:W.tabIn K "_law_weak" =some (A.k_34,A.t_34)) (tb_60:W.tabIn K "writing" =some (A.k_60,A.t_60)) (tdn:([A.t_37,A.t_27,A.t_34,A.t_60]:List Addr).Nodup):rK P w K mg A.a_50:=by
 refine ⟨A.d_50,[(A.k_37,A.t_37),(A.k_27,A.t_27),(A.k_34,A.t_34),(A.k_60,A.t_60)],nB K A,T.f_50.f.bt,nt,?_,fun base _ _ B C=>?_,fun H a ns hl hO hS=>⟨a,ns,rfl,hS,hl,⟨hO (A.k_37,A.t_37) (by simp),hO (A.k_27,A.t_27) (by simp),hO (A.k_34,A.t_34) (by simp),hO (A.k_60,A.t_60) (by simp),tdn⟩,fun _=>rfl⟩⟩
 · intro t ht
   simp only [List.mem_cons,List.not_mem_nil,or_false] at ht
   rcases ht with rfl | rfl | rfl | rfl
   · exact ⟨"counting",by simp,tb_37⟩
   · exact ⟨"_law_sure",by simp,tb_27⟩
   · exact ⟨"_law_weak",by simp,tb_34⟩
   · exact ⟨"writing",by simp,tb_60⟩
 · exact FT ⟨T,B,C (A.k_37,A.t_37) (by simp),C (A.k_27,A.t_27) (by simp),C (A.k_34,A.t_34) (by simp),C (A.k_60,A.t_60) (by simp)⟩
theorem Bv {h:Heap} {fa:Addr} (X:K.In h) (G:h.Ns mainGlobals mg) (hfa:mg "law" =some (.ref fa)) {x_49 x_45 x_47 x_51 x_62 x_7 x_11 x_10 x_15 x_6 x_37 x_27 x_34 x_60 x_17 x_26 x_32 x_13 x_22 x_30 x_21 x_29 x_31 x_42 x_46 x_36 x_58 x_48 x_43 x_41 x_40 x_44 x_52 x_59 x_56 x_25 x_54 x_1 x_57 x_53 x_33 x_24 x_19 x_20 x_3 x_2 x_4 x_55 x_39 x_5 x_0 x_8 x_9 x_18 x_16 x_23 x_14 x_12 x_50 y_NoPaper y_NoKey y_Broken y_StampError y_Numbers y_Fork y_Knot y_Bare y_Table:Addr} {d0 d1 d2 d3 d4 d5 d6 d7 d8 d9 d10 d11 d12 d13 d14 d15 d16 d17 d18 d19 d20 d21 d22 d23 d24 d25 d26 d27 d28 d29 d30 d31 d32 d33 d34 d35 d36 d37 d38 d39 d40 d41 d42 d43 d44 d45 d46 d47 d48 d49 d50 d51 d52 d53 d54 d55 d56 d57 d58:FuncData} {tc0 tc1 tc2:Tok}
  (bo_Numbers:W.nsIn K mainGlobals "Numbers" =some (some (.ref y_Numbers))) (bo_Fork:W.nsIn K mainGlobals "Fork" =some (some (.ref y_Fork))) (bo_Knot:W.nsIn K mainGlobals "Knot" =some (some (.ref y_Knot))) (bo_Bare:W.nsIn K mainGlobals "Bare" =some (some (.ref y_Bare))) (bo_Table:W.nsIn K mainGlobals "Table" =some (some (.ref y_Table))) (bc_NoPaper:W.nsIn K mainGlobals "NoPaper" =some (some (.ref y_NoPaper))) (bc_NoKey:W.nsIn K mainGlobals "NoKey" =some (some (.ref y_NoKey))) (bc_Broken:W.nsIn K mainGlobals "Broken" =some (some (.ref y_Broken))) (bc_StampError:W.nsIn K mainGlobals "StampError" =some (some (.ref y_StampError))) (h0:Fa K "is_whole" "is_whole" vH x_49 d0) (h1:Fa K "is_stamp" "is_stamp" vN x_45 d1) (h2:Fa K "is_term" "is_term" vK x_47 d2) (h3:Fa K "part_form" "part_form" wL x_51 d3) (h4:Fa K "written" "written" vC x_62 d4) (a5:W.findIn K (.ref y_Numbers) "number_of" =some (some (.ref x_7))) (h5:Fun K "number_of" "Numbers.number_of" s_7 x_7 d5) (fn5:W.isFn K (.ref x_7)=true) (h6:Fa K "_law_bits" "_law_bits" vQ x_11 d6) (h7:Fa K "_law_at" "_law_at" vU x_10 d7) (h8:Fa K "_law_key" "_law_key" xk x_15 d8) (a9:W.findIn K (.ref y_Numbers) "__init__" =some (some (.ref x_6))) (h9:Fun K "__init__" "Numbers.__init__" s_6 x_6 d9) (fn9:W.isFn K (.ref x_6)=true) (h10:Fa K "counting" "counting" jX x_37 d10) (tb_37:(W.tabIn K "counting").isSome=true) (h11:Fa K "_law_sure" "_law_sure" ke x_27 d11) (tb_27:(W.tabIn K "_law_sure").isSome=true) (h12:Fa K "_law_weak" "_law_weak" jZ x_34 d12) (tb_34:(W.tabIn K "_law_weak").isSome=true) (h13:Fa K "writing" "writing" kf x_60 d13) (tb_60:(W.tabIn K "writing").isSome=true) (h14:Fa K "_law_mark" "_law_mark" wB x_17 d14) (h15:Fa K "_law_steps" "_law_steps" wf x_26 d15) (h16:Fa K "_law_text" "_law_text" ww x_32 d16) (h17:Fa K "_law_end" "_law_end" vL x_13 d17) (h18:Fa K "_law_place" "_law_place" wG x_22 d18) (h19:Fa K "_law_terms" "_law_terms" vn x_30 d19) (h20:Fa K "_law_part_alike" "_law_part_alike" vR x_21 d20) (h21:Fa K "_law_term_alike" "_law_term_alike" xB x_29 d21) (h22:Fa K "_law_terms_alike" "_law_terms_alike" xi x_31 d22) (h23:Fa K "is_key" "is_key" xL x_42 d23) (h24:Fa K "is_step" "is_step" wM x_46 d24) (h25:Fa K "are_steps" "are_steps" xf x_36 d25) (h26:Fa K "start" "start" xN x_58 d26) (h27:Fa K "is_value" "is_value" wa x_48 d27) (h28:Fa K "is_leaf" "is_leaf" wq x_43 d28) (h29:Fa K "is_fork" "is_fork" vW x_41 d29) (h30:Fa K "is_end" "is_end" vw x_40 d30) (h31:Fa K "is_slip" "is_slip" wn x_44 d31) (h32:Fa K "side" "side" vV x_52 d32) (h33:Fa K "step_term" "step_term" vz x_59 d33) (h34:Fa K "slip_terms" "slip_terms" lw x_56 d34) (h35:Fa K "_law_same" "_law_same" vJ x_25 d35) (h36:Fa K "slip_mark" "slip_mark" lT x_54 d36) (a37:W.findIn K (.ref y_Broken) "__init__" =some (some (.ref x_1))) (h37:Fun K "__init__" "Broken.__init__" s_1 x_1 d37) (fn37:W.isFn K (.ref x_1)=true) (h38:Fa K "slip_value" "slip_value" xo x_57 d38) (h39:Fa K "slip_answer" "slip_answer" ly x_53 d39) (h40:Fa K "_law_told" "_law_told" xj x_33 d40) (h41:Fa K "_law_right" "_law_right" xv x_24 d41) (h42:Fa K "_law_no_keys" "_law_no_keys" wO x_19 d42) (h43:Fa K "_law_no_slips" "_law_no_slips" vT x_20 d43) (a44:W.findIn K (.ref y_Fork) "leads" =some (some (.ref x_3))) (h44:Fun K "leads" "Fork.leads" s_3 x_3 d44) (fn44:W.isFn K (.ref x_3)=true) (a45:W.findIn K (.ref y_Fork) "aside" =some (some (.ref x_2))) (h45:Fun K "aside" "Fork.aside" s_2 x_2 d45) (fn45:W.isFn K (.ref x_2)=true) (a46:W.findIn K (.ref y_Fork) "toward" =some (some (.ref x_4))) (h46:Fun K "toward" "Fork.toward" s_4 x_4 d46) (fn46:W.isFn K (.ref x_4)=true) (h47:Fa K "slip_of" "slip_of" lC x_55 d47) (h48:Fa K "is_bits" "is_bits" vx x_39 d48) (a49:W.findIn K (.ref y_Knot) "__init__" =some (some (.ref x_5))) (h49:Fun K "__init__" "Knot.__init__" s_5 x_5 d49) (fn49:W.isFn K (.ref x_5)=true) (a50:W.findIn K (.ref y_Bare) "__init__" =some (some (.ref x_0))) (h50:Fun K "__init__" "Bare.__init__" s_0 x_0 d50) (fn50:W.isFn K (.ref x_0)=true) (a51:W.findIn K (.ref y_Table) "__init__" =some (some (.ref x_8))) (h51:Fun K "__init__" "Table.__init__" s_8 x_8 d51) (fn51:W.isFn K (.ref x_8)=true) (h52:Fa K "_law_ask" "_law_ask" s_9 x_9 d52) (h53:Fa K "_law_name" "_law_name" vk x_18 d53) (h54:Fa K "_law_kinds" "_law_kinds" wc x_16 d54) (h55:Fa K "_law_refused_all" "_law_refused_all" wo x_23 d55) (h56:Fa K "_law_fields" "_law_fields" wU x_14 d56) (h57:Fa K "_law_broken_right" "_law_broken_right" vv x_12 d57) (h58:Fa K "law" "law" xp x_50 d58) (pg_Numbers:W.plainGet K y_Numbers Str.empty=true) (hd_Numbers:W.hasDictIn K y_Numbers=true) (po_Numbers:W.plainOver K y_Numbers=true) (sa_Numbers:W.findIn K (.ref y_Numbers) "__setattr__" =some (some (.builtin "object.__setattr__"))) (na_Numbers_given:W.findIn K (.ref y_Numbers) "given" =some none) (pg_Fork:W.plainGet K y_Fork Str.empty=true) (hd_Fork:W.hasDictIn K y_Fork=true) (po_Fork:W.plainOver K y_Fork=true) (sa_Fork:W.findIn K (.ref y_Fork) "__setattr__" =some (some (.builtin "object.__setattr__"))) (na_Fork_depth:W.findIn K (.ref y_Fork) "depth" =some none) (na_Fork_begin:W.findIn K (.ref y_Fork) "begin" =some none) (na_Fork_left:W.findIn K (.ref y_Fork) "left" =some none) (na_Fork_right:W.findIn K (.ref y_Fork) "right" =some none) (na_Fork_term:W.findIn K (.ref y_Fork) "term" =some none) (na_Fork_mark:W.findIn K (.ref y_Fork) "mark" =some none) (pg_Knot:W.plainGet K y_Knot Str.empty=true) (hd_Knot:W.hasDictIn K y_Knot=true) (po_Knot:W.plainOver K y_Knot=true) (sa_Knot:W.findIn K (.ref y_Knot) "__setattr__" =some (some (.builtin "object.__setattr__"))) (na_Knot_term:W.findIn K (.ref y_Knot) "term" =some none) (na_Knot_mark:W.findIn K (.ref y_Knot) "mark" =some none) (pg_Bare:W.plainGet K y_Bare Str.empty=true) (hd_Bare:W.hasDictIn K y_Bare=true) (po_Bare:W.plainOver K y_Bare=true) (sa_Bare:W.findIn K (.ref y_Bare) "__setattr__" =some (some (.builtin "object.__setattr__"))) (na_Bare_term:W.findIn K (.ref y_Bare) "term" =some none) (na_Bare_mark:W.findIn K (.ref y_Bare) "mark" =some none) (pg_Table:W.plainGet K y_Table Str.empty=true) (hd_Table:W.hasDictIn K y_Table=true) (po_Table:W.plainOver K y_Table=true) (sa_Table:W.findIn K (.ref y_Table) "__setattr__" =some (some (.builtin "object.__setattr__"))) (na_Table_stamper:W.findIn K (.ref y_Table) "stamper" =some none) (na_Table_bits:W.findIn K (.ref y_Table) "bits" =some none) (na_Table_top:W.findIn K (.ref y_Table) "top" =some none) (cg_Knot:W.specialIn K (.ref y_Knot) "__getattribute__" =some (some (.builtin "type.__getattribute__"))) (cr_Knot:W.readsIn K y_Knot (.type "type")=true) (cv_Knot:W.findCls K (.ref y_Knot) (.type "type") "__init__" =some (.val (.ref x_5))) (cw_Knot:W.handedIn (.ref x_5)=true) (oig:W.specialIn K (.builtin "object.__class__") "__get__" =some (some (.builtin "getset_descriptor.__get__"))) (oit:W.takesIn K (.builtin "object.__class__")=some true) (oic_Fork:W.findIn K (.ref y_Fork) "__class__" =some (some (.builtin "object.__class__"))) (oim_Fork:W.mroIn K y_Fork (.type "object")=some true) (oic_Bare:W.findIn K (.ref y_Bare) "__class__" =some (some (.builtin "object.__class__"))) (oim_Bare:W.mroIn K y_Bare (.type "object")=some true) (ko_Fork_Fork:W.kitOne K (.ref y_Fork) (.ref y_Fork)=some true) (ko_Bare_Fork:W.kitOne K (.ref y_Bare) (.ref y_Fork)=some false) (mk_Numbers:W.makesIn K y_Numbers=true) (kc_Numbers:W.keepIn K (.ref y_Numbers)=true) (mk_Bare:W.makesIn K y_Bare=true) (kc_Bare:W.keepIn K (.ref y_Bare)=true) (mk_Table:W.makesIn K y_Table=true) (kc_Table:W.keepIn K (.ref y_Table)=true) (eo_NoPaper:W.excIn K y_NoPaper veM "ValueError.__new__" =true) (eo_NoKey:W.excIn K y_NoKey veM "ValueError.__new__" =true) (eo2_Broken:kY K y_Broken=true) (eo_StampError:W.excIn K y_StampError veM "ValueError.__new__" =true) (sa_Broken:W.findIn K (.ref y_Broken) "__setattr__" =some (some (.builtin "object.__setattr__"))) (hd_Broken:W.hasDictIn K y_Broken=true) (na_Broken_came:W.findIn K (.ref y_Broken) "came" =some none) (na_Broken_due:W.findIn K (.ref y_Broken) "due" =some none) (kc_Broken:W.keepIn K (.ref y_Broken)=true) (e0_NoPaper:W.findIn K (.ref y_NoPaper) "__getattribute__" =some (some (.builtin "BaseException.__getattribute__"))) (e1_NoPaper:W.findIn K (.ref y_NoPaper) "__getattr__" =some none) (e2_NoPaper:W.findIn K (.ref y_NoPaper) "__class__" =some (some (.builtin "object.__class__"))) (em0_NoPaper:W.mroIn K y_NoPaper (.type "object")=some true) (em1_NoPaper:W.mroIn K y_NoPaper (.type "BaseException")=some true) (e0_NoKey:W.findIn K (.ref y_NoKey) "__getattribute__" =some (some (.builtin "BaseException.__getattribute__"))) (e1_NoKey:W.findIn K (.ref y_NoKey) "__getattr__" =some none) (e2_NoKey:W.findIn K (.ref y_NoKey) "__class__" =some (some (.builtin "object.__class__"))) (em0_NoKey:W.mroIn K y_NoKey (.type "object")=some true) (em1_NoKey:W.mroIn K y_NoKey (.type "BaseException")=some true) (e0_Broken:W.findIn K (.ref y_Broken) "__getattribute__" =some (some (.builtin "BaseException.__getattribute__"))) (e1_Broken:W.findIn K (.ref y_Broken) "__getattr__" =some none) (e2_Broken:W.findIn K (.ref y_Broken) "__class__" =some (some (.builtin "object.__class__"))) (em0_Broken:W.mroIn K y_Broken (.type "object")=some true) (em1_Broken:W.mroIn K y_Broken (.type "BaseException")=some true) (sb_NoPaper_Broken:W.mroIn K y_NoPaper (.ref y_Broken)=some false) (sb_NoPaper_NoPaper:W.mroIn K y_NoPaper (.ref y_NoPaper)=some true) (sb_NoPaper_NoKey:W.mroIn K y_NoPaper (.ref y_NoKey)=some false) (sb_NoPaper_StampError:W.mroIn K y_NoPaper (.ref y_StampError)=some true) (sb_NoKey_Broken:W.mroIn K y_NoKey (.ref y_Broken)=some false) (sb_NoKey_NoPaper:W.mroIn K y_NoKey (.ref y_NoPaper)=some false) (sb_NoKey_NoKey:W.mroIn K y_NoKey (.ref y_NoKey)=some true) (sb_NoKey_StampError:W.mroIn K y_NoKey (.ref y_StampError)=some true) (sb_Broken_Broken:W.mroIn K y_Broken (.ref y_Broken)=some true) (sb_Broken_NoPaper:W.mroIn K y_Broken (.ref y_NoPaper)=some false) (sb_Broken_NoKey:W.mroIn K y_Broken (.ref y_NoKey)=some false) (sb_Broken_StampError:W.mroIn K y_Broken (.ref y_StampError)=some true) (ki_NoPaper_Broken:W.kitOne K (.ref y_NoPaper) (.ref y_Broken)=some false) (ki_NoPaper_NoPaper:W.kitOne K (.ref y_NoPaper) (.ref y_NoPaper)=some true) (ki_NoPaper_NoKey:W.kitOne K (.ref y_NoPaper) (.ref y_NoKey)=some false) (ki_NoPaper_ValueError:W.kitOne K (.ref y_NoPaper) (.type "ValueError")=some true) (ki_NoKey_Broken:W.kitOne K (.ref y_NoKey) (.ref y_Broken)=some false) (ki_NoKey_NoPaper:W.kitOne K (.ref y_NoKey) (.ref y_NoPaper)=some false) (ki_NoKey_NoKey:W.kitOne K (.ref y_NoKey) (.ref y_NoKey)=some true) (ki_NoKey_ValueError:W.kitOne K (.ref y_NoKey) (.type "ValueError")=some true) (ki_Broken_Broken:W.kitOne K (.ref y_Broken) (.ref y_Broken)=some true) (ki_Broken_NoPaper:W.kitOne K (.ref y_Broken) (.ref y_NoPaper)=some false) (ki_Broken_NoKey:W.kitOne K (.ref y_Broken) (.ref y_NoKey)=some false) (ki_Broken_ValueError:W.kitOne K (.ref y_Broken) (.type "ValueError")=some true) (z_ValueError:W.nsIn K mainGlobals "ValueError" =some none) (z_all:W.nsIn K mainGlobals "all" =some none) (z_bool:W.nsIn K mainGlobals "bool" =some none) (z_int:W.nsIn K mainGlobals "int" =some none) (z_isinstance:W.nsIn K mainGlobals "isinstance" =some none) (z_len:W.nsIn K mainGlobals "len" =some none) (z_list:W.nsIn K mainGlobals "list" =some none) (z_ord:W.nsIn K mainGlobals "ord" =some none) (z_range:W.nsIn K mainGlobals "range" =some none) (z_reversed:W.nsIn K mainGlobals "reversed" =some none) (z_str:W.nsIn K mainGlobals "str" =some none) (z_sum:W.nsIn K mainGlobals "sum" =some none) (z_tuple:W.nsIn K mainGlobals "tuple" =some none) (c_MOST_BITS:W.nsIn K mainGlobals "MOST_BITS" =some (some (.int 60 tc0))) (c_MOST_PARTS:W.nsIn K mainGlobals "MOST_PARTS" =some (some (.int 8 tc1))) (c_MOST_SIGNS:W.nsIn K mainGlobals "MOST_SIGNS" =some (some (.int 60 tc2))) (nt:W.noTabs K=true) (td:mz K ["counting", "_law_sure", "_law_weak", "writing"]=true):rK P w K mg fa:=by
 cases hfa.symm.trans (W.mg_of X G h58.m)
 obtain ⟨⟨z_37,t_37⟩,tb_37⟩:=Option.isSome_iff_exists.mp tb_37
 obtain ⟨⟨z_27,t_27⟩,tb_27⟩:=Option.isSome_iff_exists.mp tb_27
 obtain ⟨⟨z_34,t_34⟩,tb_34⟩:=Option.isSome_iff_exists.mp tb_34
 obtain ⟨⟨z_60,t_60⟩,tb_60⟩:=Option.isSome_iff_exists.mp tb_60
 have tdn:([t_37,t_27,t_34,t_60]:List Addr).Nodup:=vZ (by unfold mz at td;simp only [List.map_cons,List.map_nil,tb_37,tb_27,tb_34,tb_60,Option.map_some] at td;exact of_decide_eq_true td)
 exact CM (A:=⟨x_49,d0,x_45,d1,x_47,d2,x_51,d3,x_62,d4,x_7,d5,x_11,d6,x_10,d7,x_15,d8,x_6,d9,x_37,d10,x_27,d11,x_34,d12,x_60,d13,x_17,d14,x_26,d15,x_32,d16,x_13,d17,x_22,d18,x_30,d19,x_21,d20,x_29,d21,x_31,d22,x_42,d23,x_46,d24,x_36,d25,x_58,d26,x_48,d27,x_43,d28,x_41,d29,x_40,d30,x_44,d31,x_52,d32,x_59,d33,x_56,d34,x_25,d35,x_54,d36,x_1,d37,x_57,d38,x_53,d39,x_33,d40,x_24,d41,x_19,d42,x_20,d43,x_3,d44,x_2,d45,x_4,d46,x_55,d47,x_39,d48,x_5,d49,x_0,d50,x_8,d51,x_9,d52,x_18,d53,x_16,d54,x_23,d55,x_14,d56,x_12,d57,fa,d58,z_37,t_37,z_27,t_27,z_34,t_34,z_60,t_60,y_NoPaper,y_NoKey,y_Broken,y_StampError,y_Numbers,y_Fork,y_Knot,y_Bare,y_Table⟩) ⟨h0.fm1 X G,h1.fm1 X G,h2.fm1 X G,h3.fm1 X G,h4.fm1 X G,h5,h5.b2,h6.fm1 X G,h7.fm2 X G,h8.fm3 X G,h9,h9.b1,h10.fm0 X G,h11.fm1 X G,h12.fm1 X G,h13.fm0 X G,h14.fm1 X G,h15.fm3 X G,h16.fm1 X G,h17.fm4 X G,h18.fm2 X G,h19.fm4 X G,h20.fm2 X G,h21.fm2 X G,h22.fm2 X G,h23.fm2 X G,h24.fm3 X G,h25.fm2 X G,h26.fm3 X G,h27.fm1 X G,h28.fm4 X G,h29.fm4 X G,h30.fm4 X G,h31.fm3 X G,h32.fm3 X G,h33.fm4 X G,h34.fm4 X G,h35.fm2 X G,h36.fm4 X G,h37,h37.b3,h38.fm2 X G,h39.fm5 X G,h40.fm2 X G,h41.fm4 X G,h42.fm2 X G,h43.fm3 X G,h44,h44.b3,h45,h45.b3,h46,h46.b3,h47.fm2 X G,h48.fm1 X G,h49,h49.b3,h50,h50.b2,h51,h51.b3,h52.fm6 X G,h53.fm6 X G,h54.fm6 X G,h55.fm7 X G,h56.fm5 X G,h57.fm6 X G,h58.fm1 X G,W.mg_none_of X G z_ValueError,W.mg_none_of X G z_all,W.mg_none_of X G z_bool,W.mg_none_of X G z_int,W.mg_none_of X G z_isinstance,W.mg_none_of X G z_len,W.mg_none_of X G z_list,W.mg_none_of X G z_ord,W.mg_none_of X G z_range,W.mg_none_of X G z_reversed,W.mg_none_of X G z_str,W.mg_none_of X G z_sum,W.mg_none_of X G z_tuple,⟨_,W.mg_of X G c_MOST_BITS⟩,⟨_,W.mg_of X G c_MOST_PARTS⟩,⟨_,W.mg_of X G c_MOST_SIGNS⟩,h10.code X G tb_37,h11.code X G tb_27,h12.code X G tb_34,h13.code X G tb_60,W.mg_of X G bc_NoPaper,dL.ok eo_NoPaper,W.mg_of X G bc_NoKey,dL.ok eo_NoKey,W.mg_of X G bc_Broken,eo2_Broken,W.mg_of X G bc_StampError,dL.ok eo_StampError,eo_NoPaper,eo_NoKey,⟨e0_NoPaper,e1_NoPaper,e2_NoPaper,em0_NoPaper,em1_NoPaper⟩,⟨e0_NoKey,e1_NoKey,e2_NoKey,em0_NoKey,em1_NoKey⟩,⟨e0_Broken,e1_Broken,e2_Broken,em0_Broken,em1_Broken⟩,⟨eo2_Broken,sa_Broken,⟨e0_Broken,e1_Broken,e2_Broken,em0_Broken,em1_Broken⟩,na_Broken_came,hd_Broken⟩,⟨eo2_Broken,sa_Broken,⟨e0_Broken,e1_Broken,e2_Broken,em0_Broken,em1_Broken⟩,na_Broken_due,hd_Broken⟩,⟨eo2_Broken,a37,fn37,kc_Broken⟩,cx sb_NoPaper_Broken,cx sb_NoPaper_NoPaper,cx sb_NoPaper_NoKey,cx sb_NoPaper_StampError,cx sb_NoKey_Broken,cx sb_NoKey_NoPaper,cx sb_NoKey_NoKey,cx sb_NoKey_StampError,cx sb_Broken_Broken,cx sb_Broken_NoPaper,cx sb_Broken_NoKey,cx sb_Broken_StampError,ki_NoPaper_Broken,ki_NoPaper_NoPaper,ki_NoPaper_NoKey,ki_NoPaper_ValueError,ki_NoKey_Broken,ki_NoKey_NoPaper,ki_NoKey_NoKey,ki_NoKey_ValueError,ki_Broken_Broken,ki_Broken_NoPaper,ki_Broken_NoKey,ki_Broken_ValueError,W.mg_of X G bo_Numbers,⟨pg_Numbers,hd_Numbers,po_Numbers,sa_Numbers⟩,na_Numbers_given,W.mg_of X G bo_Fork,⟨pg_Fork,hd_Fork,po_Fork,sa_Fork⟩,na_Fork_depth,na_Fork_begin,na_Fork_left,na_Fork_right,na_Fork_term,na_Fork_mark,W.mg_of X G bo_Knot,⟨pg_Knot,hd_Knot,po_Knot,sa_Knot⟩,na_Knot_term,na_Knot_mark,W.mg_of X G bo_Bare,⟨pg_Bare,hd_Bare,po_Bare,sa_Bare⟩,na_Bare_term,na_Bare_mark,W.mg_of X G bo_Table,⟨pg_Table,hd_Table,po_Table,sa_Table⟩,na_Table_stamper,na_Table_bits,na_Table_top,⟨a44,fn44,h44.kp⟩,⟨a46,fn46,h46.kp⟩,⟨a45,fn45,h45.kp⟩,⟨a5,fn5,h5.kp⟩,⟨mk_Numbers,a9,fn9,kc_Numbers⟩,⟨mk_Bare,a50,fn50,kc_Bare⟩,⟨mk_Table,a51,fn51,kc_Table⟩,⟨cg_Knot,cr_Knot,cv_Knot,cw_Knot,h49.kp⟩,⟨oic_Fork,oig,oit,oim_Fork⟩,⟨oic_Bare,oig,oit,oim_Bare⟩,ko_Fork_Fork,ko_Bare_Fork⟩ nt tb_37 tb_27 tb_34 tb_60 tdn
theorem GE {l:W.OpenLaw} {q:Program} {loose:List Str} {XP:(Str→Option Value)→Heap→Prop} {YP:World→Heap→Prop} {d:DefRec} {K:Params→W.Frag} (hn:l.most=some 63) (hdf:d.params.defaults=[])
  (hY:∀ (w:World) (h:Heap),YP w h→(K w.params).In h) (hq:∀ y∈(["counting", "_law_sure", "_law_weak", "writing"]:List Str),((PyProof.Rows.recsOf q).find? fun e=>e.name==y).isSome=true)
  (F:∀ (w:World) (mg:Str→Option Value) (fa:Addr) (h:Heap),(K w.params).In h→h.Ns mainGlobals mg→mg d.name=some (.ref fa)→rK l.prog w (K w.params) mg fa):
  W.WalkO q loose XP YP l.row.toRowW d [] (fun f vs=>PySem.call f vs):=
 L2.xy (n:=63) (k:=14) (x:= "_law_script") (CX:=fun w=>CX1 l.prog w) hn (by decide) hdf ⟨rfl,by decide,by decide⟩ hY hq F fun _ _ _ _ _ ⟨_,_,_,_,_,_,z⟩=>z
end Rs
def PySem.W.Fast.tw17366168784356217034:Unit:=()
def PySem.W.Fast.tw11298028344306190876:Unit:=()
def PySem.W.Fast.tw11206253665937798519:Unit:=()
def PySem.W.Fast.tw5960744906602315762:Unit:=()
def PySem.W.Fast.tw9940036702373224319:Unit:=()
def PySem.W.Fast.tw13737170761281764831:Unit:=()
def PySem.W.Fast.tw139875662988809363:Unit:=()
def PySem.W.Fast.tw10567684483804802178:Unit:=()
def PySem.W.Fast.tw7068339396656927793:Unit:=()
def PySem.W.Fast.tw5954886534585731189:Unit:=()
def PySem.W.Fast.tw15062470257076121816:Unit:=()
def PySem.W.Fast.tw5083390515505826199:Unit:=()
def PySem.W.Fast.tw2242194259028795694:Unit:=()
def PySem.W.Fast.tw6891362247546965615:Unit:=()
def PySem.W.Fast.tw10897202470221026902:Unit:=()
def PySem.W.Fast.tw8177849434155519179:Unit:=()
def PySem.W.Fast.tw12962625945160681750:Unit:=()
def PySem.W.Fast.tw10887932797708608402:Unit:=()
def PySem.W.Fast.tw6567191080876660936:Unit:=()
def PySem.W.Fast.tw15585023678481789963:Unit:=()
def PySem.W.Fast.tw15093800400075449077:Unit:=()
def PySem.W.Fast.tw13726215888936954772:Unit:=()
def PySem.W.Fast.tw13064449435668035315:Unit:=()
def PySem.W.Fast.tw4550404059841656950:Unit:=()
def PySem.W.Fast.tw16118800615451989629:Unit:=()
def PySem.W.Fast.tw13248704809621279770:Unit:=()
def PySem.W.Fast.tw3187909946891879676:Unit:=()
def PySem.W.Fast.tw17454153469860191897:Unit:=()
def PySem.W.Fast.tw6540531161973426930:Unit:=()
def PySem.W.Fast.tw11973231284078472646:Unit:=()
def PySem.W.Fast.tw14277531531839670412:Unit:=()
def PySem.W.Fast.tw4135454051243986028:Unit:=()
def PySem.W.Fast.tw7949049593849350148:Unit:=()
def PySem.W.Fast.tw13982626056616355609:Unit:=()
def PySem.W.Fast.tw12485748197022476452:Unit:=()
def PySem.W.Fast.tw7693508827994994955:Unit:=()
def PySem.W.Fast.tw9998598810024221238:Unit:=()
def PySem.W.Fast.tw15482044282292518882:Unit:=()
def PySem.W.Fast.tw2914383976650491661:Unit:=()
def PySem.W.Fast.tw6554086562706135580:Unit:=()
def PySem.W.Fast.tw11906171089842632698:Unit:=()
def PySem.W.Fast.tw9928428813853199450:Unit:=()
def PySem.W.Fast.tw6148262299397296267:Unit:=()
def PySem.W.Fast.tw6028613164525851127:Unit:=()
def PySem.W.Fast.tw10591732171553089301:Unit:=()
def PySem.W.Fast.tw14216887615113749047:Unit:=()
def PySem.W.Fast.tw9795645508284046075:Unit:=()
def PySem.W.Fast.tw566205512361045538:Unit:=()
def PySem.W.Fast.tw2138083473126853202:Unit:=()
def PySem.W.Fast.tw14303007466652903840:Unit:=()
def PySem.W.Fast.tw6753417984674700379:Unit:=()
def PySem.W.Fast.tw8053147936958710611:Unit:=()
def PySem.W.Fast.tw8486320420631493769:Unit:=()
def PySem.W.Fast.tw1392620844464240513:Unit:=()
def PySem.W.Fast.tw3687033722041672755:Unit:=()
def PySem.W.Fast.tw11454062553414894400:Unit:=()
def PySem.W.Fast.tw14182775681951907195:Unit:=()
def PySem.W.Fast.tw6213582038325324592:Unit:=()
def PySem.W.Fast.tw16306797815648713935:Unit:=()
def PySem.W.Fast.tw14440225498586252724:Unit:=()
def PySem.W.Fast.tw4892739903445350652:Unit:=()
def PySem.W.Fast.tw15632279524517997939:Unit:=()
def PySem.W.Fast.tw14885151759402254922:Unit:=()
def PySem.W.Fast.tw8921047315956915722:Unit:=()
def PySem.W.Fast.tw18360304088974355279:Unit:=()
def PySem.W.Fast.tw14246817150960763664:Unit:=()
def PySem.W.Fast.tw7267813725255470999:Unit:=()
def PySem.W.Fast.tw6681792525077455544:Unit:=()
def PySem.W.Fast.tw17847711237922870345:Unit:=()
def PySem.W.Fast.tw9637749309035941980:Unit:=()
def PySem.W.Fast.tw4089421939103844324:Unit:=()
def PySem.W.Fast.tw10328476519114639774:Unit:=()
def PySem.W.Fast.tw14749189197524329151:Unit:=()
def PySem.W.Fast.tw4414383000275716443:Unit:=()
def PySem.W.Fast.tw14294396406844942140:Unit:=()
def PySem.W.Fast.tw3047922170760187933:Unit:=()
def PySem.W.Fast.tw10442974472837712319:Unit:=()
def PySem.W.Fast.tw3694133989559264972:Unit:=()
def PySem.W.Fast.tw7432623246776917596:Unit:=()
def PySem.W.Fast.tw12832265828445968103:Unit:=()
def PySem.W.Fast.tw12391384619367189285:Unit:=()
def PySem.W.Fast.tw8511715844954602469:Unit:=()
def PySem.W.Fast.tw15737448927041783715:Unit:=()
def PySem.W.Fast.tw7652915990654264459:Unit:=()
def PySem.W.Fast.tw8051870560222506515:Unit:=()
def PySem.W.Fast.tw7118024579529533569:Unit:=()
def PySem.W.Fast.tw15872482329632600591:Unit:=()
def PySem.W.Fast.tw4485035694812428326:Unit:=()
def PySem.W.Fast.tw9608273131878208789:Unit:=()
def PySem.W.Fast.tw9537126523802729017:Unit:=()
def PySem.W.Fast.tw6463727856605673914:Unit:=()
def PySem.W.Fast.tw14591991878795069081:Unit:=()
def PySem.W.Fast.tw2276096536731547659:Unit:=()
def PySem.W.Fast.tw10121436864688451748:Unit:=()
def PySem.W.Fast.tw4558792745879986979:Unit:=()
def PySem.W.Fast.tw16113193197070963277:Unit:=()
def PySem.W.Fast.tw4933929425060301531:Unit:=()
def PySem.W.Fast.tw8939031223216764895:Unit:=()
def PySem.W.Fast.tw4062966486762187090:Unit:=()
def PySem.W.Fast.tw3267511065478770246:Unit:=()
def PySem.W.Fast.tw5662041269386699709:Unit:=()
def PySem.W.Fast.tw7592806038231207086:Unit:=()
def PySem.W.Fast.tw15457959849296272952:Unit:=()
def PySem.W.Fast.tw128686188486661274:Unit:=()
def PySem.W.Fast.tw17855515920924505303:Unit:=()
def PySem.W.Fast.tw17758476930723523460:Unit:=()
def PySem.W.Fast.tw13323480658295490335:Unit:=()
def PySem.W.Fast.tw704596114619389568:Unit:=()
def PySem.W.Fast.tw13375461999497880974:Unit:=()
def PySem.W.Fast.tw11465043125376985142:Unit:=()
def PySem.W.Fast.tw16532553266119570183:Unit:=()
def PySem.W.Fast.tw4883415130951918589:Unit:=()
def PySem.W.Fast.tw16132774426391142478:Unit:=()
def PySem.W.Fast.tw11512901640208915841:Unit:=()
def PySem.W.Fast.tw10823502653108896510:Unit:=()
def PySem.W.Fast.tw14499255880070738320:Unit:=()
def PySem.W.Fast.tw12605541049410365958:Unit:=()
def PySem.W.Fast.tw14728747723091597122:Unit:=()
def PySem.W.Fast.tw824131574035146832:Unit:=()
def PySem.W.Fast.tw7862453232044783974:Unit:=()
def PySem.W.Fast.tw15927557865877999065:Unit:=()
def PySem.W.Fast.tw6787812327978983553:Unit:=()
def PySem.W.Fast.tw2538501075523290253:Unit:=()
def PySem.W.Fast.tw2497938764751216972:Unit:=()
def PySem.W.Fast.tw16818333610543953899:Unit:=()
def PySem.W.Fast.tw12000422111960429698:Unit:=()
def PySem.W.Fast.tw13784554259256079903:Unit:=()
def PySem.W.Fast.tw13580168465951691065:Unit:=()
def PySem.W.Fast.tw3255177159587192052:Unit:=()
def PySem.W.Fast.tw2603075372125453478:Unit:=()
def PySem.W.Fast.tw16618645627327248887:Unit:=()
def PySem.W.Fast.tw3779267476983987007:Unit:=()
def PySem.W.Fast.tw14965160675798620295:Unit:=()
def PySem.W.Fast.tw10618871463466788007:Unit:=()
def PySem.W.Fast.tw18271346524401192141:Unit:=()
def PySem.W.Fast.tw5661994710441712310:Unit:=()
def PySem.W.Fast.tw9132648536804100987:Unit:=()
def PySem.W.Fast.tw13966598595518006886:Unit:=()
def PySem.W.Fast.tw11781746219764102050:Unit:=()
def PySem.W.Fast.tw5379158099215697445:Unit:=()
def PySem.W.Fast.tw13338214802907300192:Unit:=()
def PySem.W.Fast.tw16015367639816987419:Unit:=()
def PySem.W.Fast.tw9740240382033373327:Unit:=()
def PySem.W.Fast.tw16364715501353001161:Unit:=()
def PySem.W.Fast.tw14680288020049731091:Unit:=()
def PySem.W.Fast.tw2178110116172886915:Unit:=()
def PySem.W.Fast.tw17148041066129714482:Unit:=()
def PySem.W.Fast.tw16928814850072548996:Unit:=()
def PySem.W.Fast.tw2924081356716937487:Unit:=()
def PySem.W.Fast.tw2711029752394954150:Unit:=()
def PySem.W.Fast.tw14664415831426678795:Unit:=()
def PySem.W.Fast.tw17137145723780048094:Unit:=()
def PySem.W.Fast.tw12672259778075662245:Unit:=()
def PySem.W.Fast.tw7396031653453247785:Unit:=()
def PySem.W.Fast.tw6100031976535423508:Unit:=()
def PySem.W.Fast.tw14929025374087112188:Unit:=()
def PySem.W.Fast.tw10199048685084638199:Unit:=()
def PySem.W.Fast.tw11441421460867576770:Unit:=()
def PySem.W.Fast.tw12034853073718864502:Unit:=()
def PySem.W.Fast.tw12762533876855908737:Unit:=()
def PySem.W.Fast.tw13590689489755163183:Unit:=()
def PySem.W.Fast.tw10223017322394835650:Unit:=()
def PySem.W.Fast.tw3406999714864364600:Unit:=()
def PySem.W.Fast.tw9539453368453848944:Unit:=()
def PySem.W.Fast.tw15261310455860397199:Unit:=()
def PySem.W.Fast.tw151557825528529161:Unit:=()
def PySem.W.Fast.tw9157228775421866208:Unit:=()
def PySem.W.Fast.tw4073801867101918296:Unit:=()
def PySem.W.Fast.tw6863681975498849262:Unit:=()
def PySem.W.Fast.tw15154701587137194952:Unit:=()
def PySem.W.Fast.tw2472186642422400408:Unit:=()
def PySem.W.Fast.tw5443676649431340449:Unit:=()
def PySem.W.Fast.tw10789613562523051089:Unit:=()
def PySem.W.Fast.tw14580098007993727297:Unit:=()
def PySem.W.Fast.tw5032331463513908521:Unit:=()
def PySem.W.Fast.tw9323849678929259899:Unit:=()
def PySem.W.Fast.tw15727501494879766388:Unit:=()
def PySem.W.Fast.tw367020083659501816:Unit:=()
def PySem.W.Fast.tw16646768962810173817:Unit:=()
def PySem.W.Fast.tw11015190250621447435:Unit:=()
def PySem.W.Fast.tw326652385023470421:Unit:=()
def PySem.W.Fast.tw12806191797114936504:Unit:=()
def PySem.W.Fast.tw11621200347205397726:Unit:=()
def PySem.W.Fast.tw13443919737661221225:Unit:=()
def PySem.W.Fast.tw18356754741514918372:Unit:=()
def PySem.W.Fast.tw1615849904808215342:Unit:=()
open PySem PySem.W PyProof.Rows
set_option maxRecDepth 100000 in
set_option maxHeartbeats 0 in
theorem PySem.Challenge.cw_rootstamp_k27_slips_refused_holds : PySem.Challenge.rw_rootstamp_k27_slips_refused.Holds := by
 w_on; o_law; k_head; (case hw => w_witness2)
 k_fill
 refine Rs.GE (l := PySem.Challenge.rw_rootstamp_k27_slips_refused) rfl rfl (fun w h Y => by first | exact PySem.W.kIn_of Y | exact PySem.W.km_in_of Y) (by decide +kernel) ?F
 case F =>
  intro w mg fa h KX G hmg
  refine' Rs.Bv KX G hmg ?bo_Numbers ?bo_Fork ?bo_Knot ?bo_Bare ?bo_Table ?bc_NoPaper ?bc_NoKey ?bc_Broken ?bc_StampError (L2.aZ ?a0 ?l0 ?c0 ?k0) (L2.aZ ?a1 ?l1 ?c1 ?k1) (L2.aZ ?a2 ?l2 ?c2 ?k2) (L2.aZ ?a3 ?l3 ?c3 ?k3) (L2.aZ ?a4 ?l4 ?c4 ?k4) ?a5 (L2.dY ?l5 ?c5 ?k5) ?fn5 (L2.aZ ?a6 ?l6 ?c6 ?k6) (L2.aZ ?a7 ?l7 ?c7 ?k7) (L2.aZ ?a8 ?l8 ?c8 ?k8) ?a9 (L2.dY ?l9 ?c9 ?k9) ?fn9 (L2.aZ ?a10 ?l10 ?c10 ?k10) ?tb_37 (L2.aZ ?a11 ?l11 ?c11 ?k11) ?tb_27 (L2.aZ ?a12 ?l12 ?c12 ?k12) ?tb_34 (L2.aZ ?a13 ?l13 ?c13 ?k13) ?tb_60 (L2.aZ ?a14 ?l14 ?c14 ?k14) (L2.aZ ?a15 ?l15 ?c15 ?k15) (L2.aZ ?a16 ?l16 ?c16 ?k16) (L2.aZ ?a17 ?l17 ?c17 ?k17) (L2.aZ ?a18 ?l18 ?c18 ?k18) (L2.aZ ?a19 ?l19 ?c19 ?k19) (L2.aZ ?a20 ?l20 ?c20 ?k20) (L2.aZ ?a21 ?l21 ?c21 ?k21) (L2.aZ ?a22 ?l22 ?c22 ?k22) (L2.aZ ?a23 ?l23 ?c23 ?k23) (L2.aZ ?a24 ?l24 ?c24 ?k24) (L2.aZ ?a25 ?l25 ?c25 ?k25) (L2.aZ ?a26 ?l26 ?c26 ?k26) (L2.aZ ?a27 ?l27 ?c27 ?k27) (L2.aZ ?a28 ?l28 ?c28 ?k28) (L2.aZ ?a29 ?l29 ?c29 ?k29) (L2.aZ ?a30 ?l30 ?c30 ?k30) (L2.aZ ?a31 ?l31 ?c31 ?k31) (L2.aZ ?a32 ?l32 ?c32 ?k32) (L2.aZ ?a33 ?l33 ?c33 ?k33) (L2.aZ ?a34 ?l34 ?c34 ?k34) (L2.aZ ?a35 ?l35 ?c35 ?k35) (L2.aZ ?a36 ?l36 ?c36 ?k36) ?a37 (L2.dY ?l37 ?c37 ?k37) ?fn37 (L2.aZ ?a38 ?l38 ?c38 ?k38) (L2.aZ ?a39 ?l39 ?c39 ?k39) (L2.aZ ?a40 ?l40 ?c40 ?k40) (L2.aZ ?a41 ?l41 ?c41 ?k41) (L2.aZ ?a42 ?l42 ?c42 ?k42) (L2.aZ ?a43 ?l43 ?c43 ?k43) ?a44 (L2.dY ?l44 ?c44 ?k44) ?fn44 ?a45 (L2.dY ?l45 ?c45 ?k45) ?fn45 ?a46 (L2.dY ?l46 ?c46 ?k46) ?fn46 (L2.aZ ?a47 ?l47 ?c47 ?k47) (L2.aZ ?a48 ?l48 ?c48 ?k48) ?a49 (L2.dY ?l49 ?c49 ?k49) ?fn49 ?a50 (L2.dY ?l50 ?c50 ?k50) ?fn50 ?a51 (L2.dY ?l51 ?c51 ?k51) ?fn51 (L2.aZ ?a52 ?l52 ?c52 ?k52) (L2.aZ ?a53 ?l53 ?c53 ?k53) (L2.aZ ?a54 ?l54 ?c54 ?k54) (L2.aZ ?a55 ?l55 ?c55 ?k55) (L2.aZ ?a56 ?l56 ?c56 ?k56) (L2.aZ ?a57 ?l57 ?c57 ?k57) (L2.aZ ?a58 ?l58 ?c58 ?k58) ?pg_Numbers ?hd_Numbers ?po_Numbers ?sa_Numbers ?na_Numbers_given ?pg_Fork ?hd_Fork ?po_Fork ?sa_Fork ?na_Fork_depth ?na_Fork_begin ?na_Fork_left ?na_Fork_right ?na_Fork_term ?na_Fork_mark ?pg_Knot ?hd_Knot ?po_Knot ?sa_Knot ?na_Knot_term ?na_Knot_mark ?pg_Bare ?hd_Bare ?po_Bare ?sa_Bare ?na_Bare_term ?na_Bare_mark ?pg_Table ?hd_Table ?po_Table ?sa_Table ?na_Table_stamper ?na_Table_bits ?na_Table_top ?cg_Knot ?cr_Knot ?cv_Knot ?cw_Knot ?oig ?oit ?oic_Fork ?oim_Fork ?oic_Bare ?oim_Bare ?ko_Fork_Fork ?ko_Bare_Fork ?mk_Numbers ?kc_Numbers ?mk_Bare ?kc_Bare ?mk_Table ?kc_Table ?eo_NoPaper ?eo_NoKey ?eo2_Broken ?eo_StampError ?sa_Broken ?hd_Broken ?na_Broken_came ?na_Broken_due ?kc_Broken ?e0_NoPaper ?e1_NoPaper ?e2_NoPaper ?em0_NoPaper ?em1_NoPaper ?e0_NoKey ?e1_NoKey ?e2_NoKey ?em0_NoKey ?em1_NoKey ?e0_Broken ?e1_Broken ?e2_Broken ?em0_Broken ?em1_Broken ?sb_NoPaper_Broken ?sb_NoPaper_NoPaper ?sb_NoPaper_NoKey ?sb_NoPaper_StampError ?sb_NoKey_Broken ?sb_NoKey_NoPaper ?sb_NoKey_NoKey ?sb_NoKey_StampError ?sb_Broken_Broken ?sb_Broken_NoPaper ?sb_Broken_NoKey ?sb_Broken_StampError ?ki_NoPaper_Broken ?ki_NoPaper_NoPaper ?ki_NoPaper_NoKey ?ki_NoPaper_ValueError ?ki_NoKey_Broken ?ki_NoKey_NoPaper ?ki_NoKey_NoKey ?ki_NoKey_ValueError ?ki_Broken_Broken ?ki_Broken_NoPaper ?ki_Broken_NoKey ?ki_Broken_ValueError ?z_ValueError ?z_all ?z_bool ?z_int ?z_isinstance ?z_len ?z_list ?z_ord ?z_range ?z_reversed ?z_str ?z_sum ?z_tuple ?c_MOST_BITS ?c_MOST_PARTS ?c_MOST_SIGNS ?nt ?td
  case bo_Numbers | bo_Fork | bo_Knot | bo_Bare | bo_Table | bc_NoPaper | bc_NoKey | bc_Broken | bc_StampError | a0 | l0 | c0 | k0 | a1 | l1 | c1 | k1 | a2 | l2 | c2 | k2 | a3 | l3 | c3 | k3 | a4 | l4 | c4 | k4 | a5 | l5 | c5 | k5 | fn5 | a6 | l6 | c6 | k6 | a7 | l7 | c7 | k7 | a8 | l8 | c8 | k8 | a9 | l9 | c9 | k9 | fn9 | a10 | l10 | c10 | k10 => k_is
  case tb_37 => kernel_rfl
  case a11 | l11 | c11 | k11 => k_is
  case tb_27 => kernel_rfl
  case a12 | l12 | c12 | k12 => k_is
  case tb_34 => kernel_rfl
  case a13 | l13 | c13 | k13 => k_is
  case tb_60 => kernel_rfl
  case a14 | l14 | c14 | k14 | a15 | l15 | c15 | k15 | a16 | l16 | c16 | k16 | a17 | l17 | c17 | k17 | a18 | l18 | c18 | k18 | a19 | l19 | c19 | k19 | a20 | l20 | c20 | k20 | a21 | l21 | c21 | k21 | a22 | l22 | c22 | k22 | a23 | l23 | c23 | k23 | a24 | l24 | c24 | k24 | a25 | l25 | c25 | k25 | a26 | l26 | c26 | k26 | a27 | l27 | c27 | k27 | a28 | l28 | c28 | k28 | a29 | l29 | c29 | k29 | a30 | l30 | c30 | k30 | a31 | l31 | c31 | k31 | a32 | l32 | c32 | k32 | a33 | l33 | c33 | k33 | a34 | l34 | c34 | k34 | a35 | l35 | c35 | k35 | a36 | l36 | c36 | k36 | a37 | l37 | c37 | k37 | fn37 | a38 | l38 | c38 | k38 | a39 | l39 | c39 | k39 | a40 | l40 | c40 | k40 | a41 | l41 | c41 | k41 | a42 | l42 | c42 | k42 | a43 | l43 | c43 | k43 | a44 | l44 | c44 | k44 | fn44 | a45 | l45 | c45 | k45 | fn45 | a46 | l46 | c46 | k46 | fn46 | a47 | l47 | c47 | k47 | a48 | l48 | c48 | k48 | a49 | l49 | c49 | k49 | fn49 | a50 | l50 | c50 | k50 | fn50 | a51 | l51 | c51 | k51 | fn51 | a52 | l52 | c52 | k52 | a53 | l53 | c53 | k53 | a54 | l54 | c54 | k54 | a55 | l55 | c55 | k55 | a56 | l56 | c56 | k56 | a57 | l57 | c57 | k57 | a58 | l58 | c58 | k58 | pg_Numbers | hd_Numbers | po_Numbers | sa_Numbers | na_Numbers_given | pg_Fork | hd_Fork | po_Fork | sa_Fork | na_Fork_depth | na_Fork_begin | na_Fork_left | na_Fork_right | na_Fork_term | na_Fork_mark | pg_Knot | hd_Knot | po_Knot | sa_Knot | na_Knot_term | na_Knot_mark | pg_Bare | hd_Bare | po_Bare | sa_Bare | na_Bare_term | na_Bare_mark | pg_Table | hd_Table | po_Table | sa_Table | na_Table_stamper | na_Table_bits | na_Table_top => k_is
  case cg_Knot | cr_Knot | cv_Knot | cw_Knot | oig | oit | oic_Fork | oim_Fork | oic_Bare | oim_Bare => first | k_is | kernel_rfl
  case ko_Fork_Fork | ko_Bare_Fork => kit_is
  case mk_Numbers | kc_Numbers | mk_Bare | kc_Bare | mk_Table | kc_Table => k_is
  case eo_NoPaper | eo_NoKey => k_exc
  case eo2_Broken => kernel_rfl
  case eo_StampError => k_exc
  case sa_Broken | hd_Broken | na_Broken_came | na_Broken_due | kc_Broken | e0_NoPaper | e1_NoPaper | e2_NoPaper | em0_NoPaper | em1_NoPaper | e0_NoKey | e1_NoKey | e2_NoKey | em0_NoKey | em1_NoKey | e0_Broken | e1_Broken | e2_Broken | em0_Broken | em1_Broken | sb_NoPaper_Broken | sb_NoPaper_NoPaper | sb_NoPaper_NoKey | sb_NoPaper_StampError | sb_NoKey_Broken | sb_NoKey_NoPaper | sb_NoKey_NoKey | sb_NoKey_StampError | sb_Broken_Broken | sb_Broken_NoPaper | sb_Broken_NoKey | sb_Broken_StampError => k_is
  case ki_NoPaper_Broken | ki_NoPaper_NoPaper | ki_NoPaper_NoKey | ki_NoPaper_ValueError | ki_NoKey_Broken | ki_NoKey_NoPaper | ki_NoKey_NoKey | ki_NoKey_ValueError | ki_Broken_Broken | ki_Broken_NoPaper | ki_Broken_NoKey | ki_Broken_ValueError => kit_is
  case z_ValueError | z_all | z_bool | z_int | z_isinstance | z_len | z_list | z_ord | z_range | z_reversed | z_str | z_sum | z_tuple | c_MOST_BITS | c_MOST_PARTS | c_MOST_SIGNS => k_is
  case nt | td => kernel_rfl

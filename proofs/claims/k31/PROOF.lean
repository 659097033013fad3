import PyProof.Rows.All
import Wide.All
import OpenK.AllK
import Wide.FinOn
import Lean
import PyProof.EqAt
import PyProof.EqKinds
import PyProof.TupleCall
import PyProof.P3In
import KE.KDictLaws
import KE.KTabLook
import KE.KRevIter
import KE.KItemsList
import PyProof.TupleOfGen
import KE.KSortTup
import KE.KDictSum
import KE.KEqDict
import PyProof.EnumMake
import PyProof.EnumFor
import PyProof.EnumStmt
import PySem.Challenge.RW_rootstamp_k31_what_is_no_part
set_option Elab.async false
set_option linter.all false
set_option maxRecDepth 100000
set_option maxHeartbeats 4000000
namespace L2
open PySem PySem.Spec PyProof.Rows
abbrev Key:=Sum Int Str
def jk:Key→Value→Bool
 | .inl k,v=>Value.isInt k v
 | .inr x,v=>Value.isStrOf x v
def Fx (w:World):Key→Int
 | .inl k=>hashInt k
 | .inr x=>hashStr w x
theorem cD : ∀ {k : Key} {v : Value}, jk k v = true → (∃ i t, k = Sum.inl i ∧ v = Value.int i t) ∨ (∃ x t, k = Sum.inr x ∧ v = Value.str x t)
  | .inl i, v, h => by
    obtain ⟨t, e⟩ := Value.isInt_shape (k := i) (v := v) h
    exact .inl ⟨i, t, rfl, e⟩
  | .inr x, v, h => by
    obtain ⟨t, e⟩ := Value.isStrOf_shape (x := x) (v := v) h
    exact .inr ⟨x, t, rfl, e⟩
theorem sQ (i:Int) (t:Tok):jk (.inl i) (.int i t)=true:=by simp [jk,Value.isInt]
theorem rX (x:Str) (t:Tok):jk (.inr x) (.str x t)=true:=by simp [jk,Value.isStrOf]
theorem Bl (a b:Int):decide ((Sum.inl a:Key)=Sum.inl b)=(a==b):=by
 by_cases e:a=b
 · subst e;simp
 · have h:¬ (Sum.inl a:Key)=Sum.inl b:=fun q=>e (Sum.inl.inj q)
   rw [decide_eq_false h]
   exact (beq_eq_false_iff_ne.mpr e).symm
theorem zT (a b:Str):decide ((Sum.inr a:Key)=Sum.inr b)=decide (a=b):=by
 by_cases e:a=b
 · subst e;simp
 · have h:¬ (Sum.inr a:Key)=Sum.inr b:=fun q=>e (Sum.inr.inj q)
   rw [decide_eq_false h,decide_eq_false e]
theorem BC (a:Int) (b:Str):decide ((Sum.inl a:Key)=Sum.inr b)=false:=decide_eq_false (fun q=>nomatch q)
theorem AX (a:Str) (b:Int):decide ((Sum.inr a:Key)=Sum.inl b)=false:=decide_eq_false (fun q=>nomatch q)
def cY (prog:Program) (w:World):PySem.KeyKind prog w Key where
 is:=jk
 hash:=Fx w
 inj:=fun v a b ha hb=>by
  rcases cD ha with ⟨i,t,rfl,rfl⟩ | ⟨x,t,rfl,rfl⟩
  · rcases cD hb with ⟨j,u,rfl,e⟩ | ⟨y,u,rfl,e⟩
    · injection e with e1 _;rw [e1]
    · exact nomatch e
  · rcases cD hb with ⟨j,u,rfl,e⟩ | ⟨y,u,rfl,e⟩
    · exact nomatch e
    · injection e with e1 _;rw [e1]
 byValue:=fun k v h=>by
  rcases cD h with ⟨i,t,rfl,rfl⟩ | ⟨x,t,rfl,rfl⟩ <;> rfl
 pyHash:=fun hv h=>by
  rcases cD hv with ⟨i,t,rfl,rfl⟩ | ⟨x,t,rfl,rfl⟩
  · exact wpAny_pyHash_int h
  · exact wpAny_pyHash_str h
 eqBool:=fun hu hv h=>by
  rcases cD hu with ⟨i,t,rfl,rfl⟩ | ⟨x,t,rfl,rfl⟩
  · rcases cD hv with ⟨j,u,rfl,rfl⟩ | ⟨y,u,rfl,rfl⟩
    · rw [Bl] at h;exact wpAny_eqBool_int h
    · rw [BC] at h;exact SeqAt.EqAt.int_str i t y u _ _ _ _ h
  · rcases cD hv with ⟨j,u,rfl,rfl⟩ | ⟨y,u,rfl,rfl⟩
    · rw [AX] at h;exact SeqAt.EqAt.str_int x t j u _ _ _ _ h
    · rw [zT] at h;exact wpAny_eqBool_str h
 «strs»:=fun k x t v h=>by
  rcases cD h with ⟨i,u,rfl,e⟩ | ⟨y,u,rfl,e⟩
  · exact nomatch e
  · injection e with e1 _
    subst e1
    cases v <;> rfl
theorem oB (prog:Program) (w:World) (i:Int) (t:Tok):(cY prog w).is (.inl i) (.int i t)=true:=sQ i t
theorem ou (prog:Program) (w:World) (x:Str) (t:Tok):(cY prog w).is (.inr x) (.str x t)=true:=rX x t
inductive V where
 | non | bl (b:Bool) | int (i:Int) | str (x:Str) | byt (b:Array UInt8) | flt (b:UInt64) | ref (a:Addr) | ty (n:String)
 deriving DecidableEq
def br:V→Value→Prop
 | .non,u=>u=Value.none
 | .bl b,u=>u=Value.bool b
 | .int i,u=>∃ t,u=Value.int i t
 | .str x,u=>∃ t,u=Value.str x t
 | .byt b,u=>∃ t,u=Value.bytes b t
 | .flt b,u=>∃ t,u=Value.float b t
 | .ref a,u=>u=Value.ref a
 | .ty n,u=>u=Value.type n
abbrev bo:List V→List Value→Prop:=Paired br
theorem bo.length {xs:List V} {us:List Value} (r:bo xs us):xs.length=us.length:=Paired.length r
theorem bo.get : ∀ {xs : List V} {us : List Value} {i : Nat} {x : V}, bo xs us → xs[i]? = some x → ∃ u, us[i]? = some u ∧ br x u
  | _, _, _, _, .nil, e => by simp at e
  | _, _, 0, _, .cons r _, e => by simp at e; subst e; exact ⟨_, rfl, r⟩
  | _, _, i + 1, x, .cons _ t, e => by
    obtain ⟨u, h1, h2⟩ := bo.get (i := i) (x := x) t (by simpa using e)
    exact ⟨u, by simpa using h1, h2⟩
theorem bo.append:∀ {xs ys:List V} {us ws:List Value},bo xs us→bo ys ws→bo (xs++ys) (us++ws)
 | _,_,_,_,.nil,s=>s
 | _,_,_,_,.cons r t,s=> .cons r (bo.append t s)
theorem bo.take:∀ {xs:List V} {us:List Value} (n:Nat),bo xs us→bo (xs.take n) (us.take n)
 | _,_,0,_=> .nil
 | _,_,_+1,.nil=> .nil
 | _,_,n+1,.cons r t=> .cons r (bo.take n t)
theorem bo.drop:∀ {xs:List V} {us:List Value} (n:Nat),bo xs us→bo (xs.drop n) (us.drop n)
 | _,_,0,r=>r
 | _,_,_+1,.nil=> .nil
 | _,_,n+1,.cons _ t=>bo.drop n t
def eu:Option V→Option Value→Prop
 | some v,some u=>br v u
 | none,none=>True
 | _,_=>False
def KV {κ:Type}:List (κ×V)→List (κ×Value)→Prop:=Paired fun (p:κ×V) (q:κ×Value)=>p.1=q.1∧br p.2 q.2
def kV:Key→V
 | .inl i=> .int i
 | .inr x=> .str x
inductive HO where
 | lst (xs:List V)
 | tup (xs:List V)
 | dK (kvs:List (Key×V)) | dT (kvs:List (List Key×V))
 | set (S:Int→Bool) (n:Nat)
 | ins (C dx:Addr) (fs:List (Str×V))
 | own (x:Addr)
 | xd (fs:List (Str×V))
 | met (f x:Addr)
 | rng (lo hi:Int)
 | frz (o:Obj) (u:HO)
 | tbl (ps:Array Value)
 | ext (φ:Heap→Prop)
abbrev Hp:=Addr→Option HO
def upd (H:Hp) (a:Addr) (o:HO):Hp:=fun b=>if b=a then some o else H b
theorem ao {H:Hp} {a:Addr} {o:HO}:upd H a o a=some o:=by unfold upd;rw [if_pos rfl]
theorem aI {H:Hp} {a b:Addr} {o:HO} (h:b≠a):upd H a o b=H b:=by unfold upd;rw [if_neg h]
theorem yB {H:Hp} {a:Addr} {o u:HO}:upd (upd H a o) a u=upd H a u:=by
 funext b;unfold upd;split <;> rfl
theorem kn {H:Hp} {a b:Addr} {o u:HO} (h:H a=some o) (h':H b=some u) (d:o≠u):a≠b:=by
 intro e;subst e;rw [h] at h';exact d (Option.some.inj h')
theorem aS {H:Hp} {a b:Addr} {o:HO} (h:H a=some o) (h':H b=none):a≠b:=by
 intro e;subst e;rw [h] at h';cases h'
section
variable (P:Program) (w:World)
def bu (H:Hp) (h:Heap) (a:Addr):HO→Prop
 | .lst xs=>xs.length≤sizeLine∧∃ (its:List Value) (n:Nat),bo xs its∧h.get? a=some { cls:=.type "list",data:=.seq its.toArray n }
 | .tup xs=>xs.length≤sizeLine∧∃ its:List Value,bo xs its∧IsTup h a its.toArray
 | .dK kvs=>kvs.length≤sizeLine∧(a==sysModules)=false∧∃ vs,KV kvs vs∧h.DictOf (cY P w) a vs
 | .dT kvs=>kvs.length≤sizeLine∧(a==sysModules)=false∧∃ xs:List (List Key×Addr×Value),
  Paired (fun (p:List Key×V) (q:List Key×Addr×Value)=>p.1=q.1∧H q.2.1=some (.tup (p.1.map kV))∧br p.2 q.2.2) kvs xs∧
  ∃ o es ep,h.get? a=some o∧o.ExactDict∧o.data=.dict es ep∧es.toList=xs.map (entryOfKey (tupleKind (cY P w)))∧(xs.map (·.1)).Nodup
 | .set S n=>h.SetOf (intKind P w) a S n
 | .ins C dx fs=>H dx=some (.own a)∧fs.length≤1000∧dx≠a∧h.get? a=some (W.instObj C dx)∧
  ∃ mA,h.Ns1 dx mA∧(∀ f,eu (fs.lookup f) (mA f))∧PySem.Within mA (fs.map (·.1))
 | .own _=>∃ o,h.get? a=some o
 | .xd fs=>∃ mA,h.Ns1 a mA∧∀ f,eu (fs.lookup f) (mA f)
 | .rng lo hi=>∃ t u v,h.get? a=some { cls:=.type "range",data:=.fields #[.int lo t,.int hi u,.int 1 v] }
 | .frz o u=>h.get? a=some o∧bu H h a u
 | .tbl ps=>h.get? a=some { cls:=.none,data:=.fields ps }
 | .met f x=>h.get? a=some (W.methodObj (.ref f) (.ref x))
 | .ext φ=>φ h∧(∃ o,h.get? a=some o)∧∀ h1 h2:Heap,φ h1→(∀ o,h1.get? a=some o→h2.get? a=some o)→φ h2
def HOk (H:Hp) (h:Heap):Prop:=∀ a o,H a=some o→bu P w H h a o
end
section
variable {P:Program} {w:World} {H H':Hp} {h h':Heap} {a:Addr} {o:HO}
theorem bu.lt (x:bu P w H h a o):a<h.objs.size:=by
 cases o with
 | lst xs=>obtain ⟨_,_,_,_,e⟩:=x;exact Heap.lt_size e
 | tup xs=>obtain ⟨_,_,_,p⟩:=x;exact p.lt
 | dK kvs=>obtain ⟨_,_,_,_,o,_,_,e,_⟩:=x;exact Heap.lt_size e
 | dT kvs=>obtain ⟨_,_,_,_,o,_,_,e,_⟩:=x;exact Heap.lt_size e
 | set S n=>obtain ⟨o,_,_,_,e,_⟩:=x;exact Heap.lt_size e
 | ins C dx fs=>obtain ⟨_,_,_,e,_⟩:=x;exact Heap.lt_size e
 | own y=>obtain ⟨_,e⟩:=x;exact Heap.lt_size e
 | xd fs=>obtain ⟨_,⟨_,_,_,e,_⟩,_⟩:=x;exact Heap.lt_size e
 | rng lo hi=>obtain ⟨_,_,_,e⟩:=x;exact Heap.lt_size e
 | frz ob u=>obtain ⟨e,_⟩:=x;exact Heap.lt_size e
 | tbl ps=>exact Heap.lt_size (show h.get? a=some _ from x)
 | met f y=>exact Heap.lt_size (show h.get? a=some _ from x)
 | ext φ=>obtain ⟨_,⟨_,e⟩,_⟩:=x;exact Heap.lt_size e
theorem Paired.mapP {α β:Type} {F G:α→β→Prop}:∀ {l₁:List α} {l₂:List β},Paired F l₁ l₂→(∀ a b,F a b→G a b)→Paired G l₁ l₂
 | _,_,.nil,_=> .nil
 | _,_,.cons r t,f=> .cons (f _ _ r) (Paired.mapP t f)
theorem Paired.imp' {α β:Type} {F G:α→β→Prop} (f:∀ a b,F a b→G a b) {l₁:List α} {l₂:List β} (r:Paired F l₁ l₂):Paired G l₁ l₂:=Paired.mapP r f
theorem bu.stay (x : bu P w H h a o) (k : ∀ b u, (b = a ∨ H b = some (.own a)) → h.get? b = some u → h'.get? b = some u)
    (ho : ∀ b, H b = some (.own a) → H' b = some (.own a)) (ht : ∀ b xs, H b = some (.tup xs) → H' b = some (.tup xs)) : bu P w H' h' a o := by
  induction o with
  | lst xs => obtain ⟨z, its, n, r, e⟩ := x; exact ⟨z, its, n, r, k _ _ (.inl rfl) e⟩
  | tup xs => obtain ⟨z, its, r, ob, e, c⟩ := x; exact ⟨z, its, r, ob, k _ _ (.inl rfl) e, c⟩
  | dK kvs => obtain ⟨z, y, vs, r, ob, es, ep, e, c⟩ := x; exact ⟨z, y, vs, r, ob, es, ep, k _ _ (.inl rfl) e, c⟩
  | dT kvs =>
    obtain ⟨z, y, xs, r, ob, es, ep, e, c⟩ := x
    exact ⟨z, y, xs, Paired.mapP r fun p q z => ⟨z.1, ht _ _ z.2.1, z.2.2⟩, ob, es, ep, k _ _ (.inl rfl) e, c⟩
  | set S n => obtain ⟨ob, es, ep, t, e, c⟩ := x; exact ⟨ob, es, ep, t, k _ _ (.inl rfl) e, c⟩
  | ins C dx fs =>
    obtain ⟨d, z, ne, e, mA, ⟨od, es, ep, e2, c⟩, r⟩ := x
    exact ⟨ho _ d, z, ne, k _ _ (.inl rfl) e, mA, ⟨od, es, ep, k _ _ (.inr d) e2, c⟩, r⟩
  | own y => obtain ⟨ob, e⟩ := x; exact ⟨ob, k _ _ (.inl rfl) e⟩
  | xd fs => obtain ⟨mA, ⟨od, es, ep, e, c⟩, r⟩ := x; exact ⟨mA, ⟨od, es, ep, k _ _ (.inl rfl) e, c⟩, r⟩
  | rng lo hi => obtain ⟨t, u, v, e⟩ := x; exact ⟨t, u, v, k _ _ (.inl rfl) e⟩
  | frz ob u ih => obtain ⟨e, q⟩ := x; exact ⟨k _ _ (.inl rfl) e, ih q⟩
  | tbl ps =>
    have e : h.get? a = some { cls := .none, data := .fields ps } := x
    show h'.get? a = some { cls := .none, data := .fields ps }
    exact k a _ (.inl rfl) e
  | met f y =>
    have e : h.get? a = some (W.methodObj (.ref f) (.ref y)) := x
    show h'.get? a = some (W.methodObj (.ref f) (.ref y))
    exact k a _ (.inl rfl) e
  | ext φ => obtain ⟨p, ⟨o, e⟩, st⟩ := x; exact ⟨st _ _ p fun o q => k _ _ (.inl rfl) q, ⟨o, k _ _ (.inl rfl) e⟩, st⟩
theorem HOk.lt (x:HOk P w H h) (e:H a=some o):a<h.objs.size:=(x a o e).lt
theorem HOk.fresh (x:HOk P w H h) (e:h.objs.size≤a):H a=none:=by
 cases q:H a with
 | none=>rfl
 | some u=>exact absurd (Nat.lt_of_lt_of_le (x.lt q) e) (Nat.lt_irrefl _)
theorem HOk.kept (x:HOk P w H h) (k:∀ b u,h.get? b=some u→h'.get? b=some u):HOk P w H h':=fun a o e=>
 (x a o e).stay (fun b u _ q=>k b u q) (fun _ q=>q) fun _ _ q=>q
theorem HOk.laid (x:HOk P w H h) (k:∀ b u,h.get? b=some u→h'.get? b=some u) (hp:h.objs.size≤a) (new:bu P w (upd H a o) h' a o):HOk P w (upd H a o) h':=fun b u e=>by
 have hn:=x.fresh hp
 by_cases hb:b=a
 · subst hb;rw [ao] at e;cases e;exact new
 · rw [aI hb] at e
   exact (x b u e).stay (fun c v _ q=>k c v q) (fun c q=>by rw [aI (aS q hn)];exact q) fun c xs q=>by rw [aI (aS q hn)];exact q
end
def Rd (H:Hp) (a:Addr) (u:HO):Prop:=H a=some u∨∃ o,H a=some (.frz o u)
theorem Rd.ok {P:Program} {w:World} {H:Hp} {h:Heap} {a:Addr} {u:HO} (r:Rd H a u) (x:HOk P w H h):bu P w H h a u:=by
 rcases r with r | ⟨o,r⟩
 · exact x a u r
 · obtain ⟨_,q⟩:=x a _ r
   exact q
def Mut:Option HO→Prop
 | some (.lst _)=>True
 | some (.dK _)=>True
 | some (.dT _)=>True
 | some (.set _ _)=>True
 | some (.ins _ _ _)=>True
 | some (.ext _)=>True
 | _=>False
section
variable {P:Program} {w:World} {H:Hp} {h h':Heap} {x e:Addr} {o':HO}
theorem HOk.write (ok:HOk P w H h) (mu:Mut (H x)) (he:e=x∨H e=some (.own x)) (k:∀ b u,b≠e→h.get? b=some u→h'.get? b=some u) (heo:∃ u,h'.get? e=some u)
   (new:bu P w (upd H x o') h' x o'):HOk P w (upd H x o') h':=fun b u q=>by
 have nown:∀ c y,H c=some (.own y)→c≠x:=fun c y r z=>by subst z;rw [r] at mu;exact mu
 have ntup:∀ c xs,H c=some (.tup xs)→c≠x:=fun c xs r z=>by subst z;rw [r] at mu;exact mu
 by_cases hb:b=x
 · subst hb;rw [ao] at q;cases q;exact new
 · rw [aI hb] at q
   by_cases hbe:b=e
   · have q':H b=some (.own x):=by
       rcases he with z | z
       · exact absurd (hbe.trans z) hb
       · rw [hbe];exact z
     rw [q] at q';cases q'
     obtain ⟨v,hv⟩:=heo
     exact ⟨v,by rw [hbe];exact hv⟩
   · refine (ok b u q).stay (fun c v hc r=>k c v ?_ r) (fun c r=>by rw [aI (nown c b r)];exact r) fun c xs r=>by rw [aI (ntup c xs r)];exact r
     rcases hc with rfl | hc
     · exact hbe
     · rintro rfl
       rcases he with z | z
       · exact nown c b hc z
       · rw [hc] at z;cases z;exact hb rfl
end
structure Un (fs ex:List Addr) (H H':Hp) (h h':Heap):Prop where
 keep:∀ b o,h.get? b=some o→H b=none→b∉fs→b∉ex→h'.get? b=some o
 slot:∀ b o,h.get? b=some o→H b=none→b∈fs→b∉ex→∃ sl,h'.get? b=some { o with slots:=sl }
 free:∀ b o,h.get? b=some o→H b=none→b∉ex→H' b=none
 there:∀ b o,h.get? b=some o→b∉ex→∃ o',h'.get? b=some o'
 tups:∀ b xs,H b=some (.tup xs)→H' b=some (.tup xs)
 frzs:∀ b o u,H b=some (.frz o u)→H' b=some (.frz o u)
 tbls:∀ b ps,H b=some (.tbl ps)→∃ more,H' b=some (.tbl (ps++more))
section
variable {fs fs' ex ex':List Addr} {H H1 H2:Hp} {h h1 h2 h':Heap} {a x e:Addr} {o:HO}
theorem Un.any (u:Un fs ex H H1 h h1) {b:Addr} {ob:Obj} (q:h.get? b=some ob) (n:H b=none) (hx:b∉ex):∃ sl,h1.get? b=some { ob with slots:=sl }:=by
 by_cases hb:b∈fs
 · exact u.slot b ob q n hb hx
 · exact ⟨ob.slots,u.keep b ob q n hb hx⟩
theorem Un.trans (a:Un fs ex H H1 h h1) (b:Un fs ex H1 H2 h1 h2):Un fs ex H H2 h h2 where
 keep:=fun c ob q n hc hx=>b.keep c ob (a.keep c ob q n hc hx) (a.free c ob q n hx) hc hx
 slot:=fun c ob q n hc hx=>by
  obtain ⟨sl,e1⟩:=a.slot c ob q n hc hx
  obtain ⟨sl',e2⟩:=b.slot c _ e1 (a.free c ob q n hx) hc hx
  exact ⟨sl',e2⟩
 free:=fun c ob q n hx=>by
  obtain ⟨o',e1⟩:=a.there c ob q hx
  exact b.free c o' e1 (a.free c ob q n hx) hx
 there:=fun c ob q hx=>by
  obtain ⟨o',e1⟩:=a.there c ob q hx
  exact b.there c o' e1 hx
 tups:=fun c xs q=>b.tups c xs (a.tups c xs q)
 frzs:=fun c ob xs q=>b.frzs c ob xs (a.frzs c ob xs q)
 tbls:=fun c ps q=>by
  obtain ⟨m1,e1⟩:=a.tbls c ps q
  obtain ⟨m2,e2⟩:=b.tbls c _ e1
  exact ⟨m1++m2,by rw [e2,Array.append_assoc]⟩
theorem Un.kept (k:∀ b u,h.get? b=some u→h'.get? b=some u):Un fs ex H H h h':=
 ⟨fun b ob q _ _ _=>k b ob q,fun b ob q _ _ _=>⟨ob.slots,k b ob q⟩,fun _ _ _ n _=>n,fun b ob q _=>⟨ob,k b ob q⟩,fun _ _ q=>q,fun _ _ _ q=>q,fun _ ps q=>⟨#[],by rw [q];simp⟩⟩
theorem Un.refl:Un fs ex H H h h:=Un.kept fun _ _ q=>q
theorem Un.laid (k:∀ b u,h.get? b=some u→h'.get? b=some u) (hp:h.objs.size≤a) (hn:H a=none):Un fs ex H (upd H a o) h h' where
 keep:=fun b u q _ _ _=>k b u q
 slot:=fun b u q _ _ _=>⟨u.slots,k b u q⟩
 free:=fun b u q n _=>by rw [aI (Nat.ne_of_lt (Nat.lt_of_lt_of_le (Heap.lt_size q) hp))];exact n
 there:=fun b u q _=>⟨u,k b u q⟩
 tups:=fun b xs q=>by rw [aI (aS q hn)];exact q
 frzs:=fun b u xs q=>by rw [aI (aS q hn)];exact q
 tbls:=fun b ps q=>⟨#[],by rw [aI (aS q hn),q];simp⟩
theorem Un.write (mu:Mut (H x)) (he:e=x∨H e=some (.own x)) (k:∀ b u,b≠e→h.get? b=some u→h'.get? b=some u) (heo:∃ u,h'.get? e=some u):Un fs ex H (upd H x o) h h':=by
 have hx:∀ b,H b=none→b≠x:=fun b n z=>by subst z;rw [n] at mu;exact mu
 have hb:∀ b,H b=none→b≠e:=fun b n z=>by
   subst z
   rcases he with r | r
   · exact hx b n r
   · rw [n] at r;cases r
 have hm:∀ b u,H b=some u→¬ Mut (some u)→b≠x:=fun b u q nm z=>by subst z;rw [q] at mu;exact nm mu
 refine ⟨fun b u q n _ _=>k b u (hb b n) q,fun b u q n _ _=>⟨u.slots,k b u (hb b n) q⟩,fun b u q n _=>by rw [aI (hx b n)];exact n,fun b u q _=>?_,
   fun b xs q=>by rw [aI (hm b _ q fun z=>z)];exact q,fun b u xs q=>by rw [aI (hm b _ q fun z=>z)];exact q,fun b ps q=>⟨#[],by rw [aI (hm b _ q fun z=>z),q];simp⟩⟩
 by_cases hbe:b=e
 · subst hbe;exact heo
 · exact ⟨u,k b u hbe q⟩
end
def trk (h:Heap) (H:Hp):List Addr:=(List.range h.objs.size).filter fun a=>(H a).isSome
def gb (h:Heap) (H:Hp):Heap:=W.hideAll h (trk h H)
theorem sR (h:Heap) (H:Hp):(gb h H).objs.size=h.objs.size:=W.hideAll_size _ _
theorem vS {h:Heap} {H:Hp} {b:Addr} {o:Obj} (e:h.get? b=some o) (n:H b=none):(gb h H).get? b=some o:=
 W.hideAll_get _ e fun hm=>by
  have q:(H b).isSome=true:=(List.mem_filter.mp hm).2
  rw [n] at q;simp at q
theorem yu {h : Heap} {H : Hp} {b : Addr} {o : Obj} (e : (gb h H).get? b = some o) : h.get? b = some o ∧ H b = none := by
  have e' : h.get? b = some o := W.of_hideAll (trk h H) e
  refine ⟨e', ?_⟩
  cases q : H b with
  | none => rfl
  | some x =>
    have hm : b ∈ trk h H := List.mem_filter.mpr ⟨List.mem_range.mpr (Heap.lt_size e'), by simp [q]⟩
    have z : (gb h H).get? b = none := W.hideAll_none (trk h H) hm
    rw [z] at e; cases e
def yt (g h:Heap) (L:Addr):List (Addr×Obj):=(List.range h.objs.size).filterMap fun a=>if a=L∨(g.get? a).isSome=true then none else (h.get? a).map fun o=>(a,o)
def bR (g h:Heap) (L d:Addr):List (Addr×Obj):=(yt g h L).filter fun p=>decide (p.1≠d)
structure Mod (K:W.Frag) (mg:Str→Option Value) (base:Heap):Prop where
 kin:K.In base
 glob:base.Ns mainGlobals mg
 blt:∃ mb,base.Ns builtinsNs mb∧∀ x:Str,x≠ "__name__" →mb x=bootBuiltins x
 nolimit:base.NoLimit
set_option genInjectivity false in
set_option genSizeOf false in
structure Cx where
 prog:Program
 w:World
 K:W.Frag
 mg:Str→Option Value
 base:Heap
 A:Around
 N:List Str
 s₀:Shared
 H₀:Hp
 env:Env
 outer:List Env
 stack:List Env
 ex:List Addr
 fn:Str→Bool
 calm:Bool
 pn:List (Addr×Obj)
 xe:Value→Shared→Prop
def frs (l:List Env):List Addr:=l.filterMap (·.frame)
abbrev Cx.fs (X:Cx):List Addr:=frs X.outer
def Vis (sc:Scope) (x:Str):Prop:=sc.names.lookup x=some .local∨sc.names.lookup x=some .cell∨sc.names.lookup x=some .free
def Loc (sc:Scope) (x:Str):Prop:=sc.names.lookup x=some .local∨sc.names.lookup x=some .cell
def Ad (env:Env) (h:Heap) (m:Str→Option Value) (x:Str) (u:Value):Prop:=
 (env.kindOf x=some .local∧m x=some u)∨((env.kindOf x=some .cell∨env.kindOf x=some .free)∧∃ c,env.cells.lookup x=some c∧h.IsCell c (some u))
set_option genInjectivity false in
set_option genSizeOf false in
structure Cx.Ok (X:Cx):Prop where
 mod:Mod X.K X.mg X.base
 kind:X.env.scope.kind=.function
 glob:X.env.globals=mainGlobals
 blt:X.env.builtins=builtinsNs
 above:X.s₀.heap.objs.size≤X.env.locals
 inj:∀ x y c,X.env.cells.lookup x=some c→X.env.cells.lookup y=some c→x=y
 has:∀ x,(X.env.kindOf x=some .cell∨X.env.kindOf x=some .free)→∃ c,X.env.cells.lookup x=some c
 cab:∀ x c,X.fn x=true→X.env.cells.lookup x=some c→X.s₀.heap.objs.size≤c
 hd:X.calm=true→X.A.handled=none
 frames:X.A.frames=some X.stack
 stk:X.stack=X.outer∨(X.stack=X.env::X.outer∧X.env.frame=some X.env.locals)
 exf:∀ b∈X.ex,b≠X.env.locals∧∀ x c,X.env.cells.lookup x=some c→c≠b
 bs:∀ b o,X.base.get? b=some o→X.s₀.heap.get? b=some o∧X.H₀ b=none
 bsz:X.base.objs.size≤X.s₀.heap.objs.size
 noex:∀ b o,X.base.get? b=some o→b∉X.ex
 exfs:∀ b∈X.ex,b∉X.fs
 funs:X.s₀.heap.FunFrames X.base X.outer
 frf:∀ b∈X.fs,X.H₀ b=none
structure Inv (X:Cx) (pins:List (Addr×Obj)) (σ:List (Option V)) (H:Hp) (s:Shared):Prop where
 ok:X.Ok
 os:s.os=X.s₀.os
 bare:AllBare s.gens
 base:Un X.fs X.ex X.H₀ H X.s₀.heap s.heap
 loc:∃ m,s.heap.Ns X.env.locals m∧∀ (i:Nat) (x:Str) (v:V),X.N[i]?=some x→σ[i]?=some (some v)→Vis X.env.scope x→∃ u,br v u∧Ad X.env s.heap m x u
 cell:∀ x c,X.env.cells.lookup x=some c→∃ v,s.heap.IsCell c v
 free:H X.env.locals=none
 freeC:∀ x c,X.env.cells.lookup x=some c→H c=none
 pin:∀ p∈X.pn++pins,s.heap.get? p.1=some p.2∧H p.1=none∧p.1≠X.env.locals∧p.1∉X.fs∧∀ v,p.2.data≠ .cell v
 hok:HOk X.prog X.w H s.heap
 len:σ.length=X.N.length
section
variable {X:Cx} {pins:List (Addr×Obj)} {σ:List (Option V)} {H H':Hp} {s:Shared} {h':Heap}
theorem Cx.Ok.nofr (ok:X.Ok) {b:Addr} {o:Obj} (e:X.base.get? b=some o):b∉X.fs:=fun hb=>by
 have:=(ok.funs.mem hb).1
 rw [e] at this;cases this
theorem Inv.bs (I:Inv X pins σ H s):∀ b o,X.base.get? b=some o→s.heap.get? b=some o∧H b=none:=fun b o e=>
 ⟨I.base.keep b o (I.ok.bs b o e).1 (I.ok.bs b o e).2 (I.ok.nofr e) (I.ok.noex b o e),I.base.free b o (I.ok.bs b o e).1 (I.ok.bs b o e).2 (I.ok.noex b o e)⟩
theorem Inv.bk (I:Inv X pins σ H s):∀ b o,X.base.get? b=some o→s.heap.get? b=some o:=fun b o e=>(I.bs b o e).1
theorem Inv.mod (I:Inv X pins σ H s):Mod X.K X.mg X.base:=I.ok.mod
theorem Inv.kIn (I:Inv X pins σ H s):X.K.In s.heap:=I.ok.mod.kin.keeps I.bk
theorem Inv.lt (I:Inv X pins σ H s):X.env.locals<s.heap.objs.size:=let ⟨_,hn,_⟩:=I.loc;hn.lt
theorem Inv.sz (I:Inv X pins σ H s):X.s₀.heap.objs.size≤s.heap.objs.size:=Nat.le_trans I.ok.above (Nat.le_of_lt I.lt)
theorem Inv.nofs (I:Inv X pins σ H s) {a:Addr} (h:s.heap.objs.size≤a):a∉X.fs:=fun hb=>by
 obtain ⟨_,o,ho,_⟩:=I.ok.funs.mem hb
 exact absurd (Nat.lt_of_lt_of_le (Heap.lt_size ho) (Nat.le_trans I.sz h)) (Nat.lt_irrefl _)
theorem Inv.cne (I:Inv X pins σ H s):∀ x c,X.env.cells.lookup x=some c→c≠X.env.locals:=fun x c e z=>by
 obtain ⟨v,o,ho,hd⟩:=I.cell x c e
 obtain ⟨m,⟨o',es,ep,ho',hd',_⟩,_⟩:=I.loc
 rw [z,ho'] at ho;cases ho;rw [hd'] at hd;cases hd
theorem Inv.funs (I : Inv X pins σ H s) : s.heap.FunFrames X.base X.outer := by
  have all : ∀ (l : List Env), (∀ b ∈ frs l, b ∈ X.fs) → X.s₀.heap.FunFrames X.base l → s.heap.FunFrames X.base l := by
    intro l
    induction l with
    | nil => intro _ _; trivial
    | cons env r ih =>
      intro hs hl
      obtain ⟨hk, ⟨L, o, hf, hn, ho, hd⟩, hr⟩ := hl
      have hL : L ∈ X.fs := hs L (by unfold frs; rw [List.filterMap_cons, hf]; exact List.mem_cons_self)
      obtain ⟨sl, e⟩ := I.base.slot L o ho (I.ok.frf L hL) hL fun z => I.ok.exfs L z hL
      exact ⟨hk, ⟨L, _, hf, hn, e, hd⟩, ih (fun b hb => hs b (by unfold frs; rw [List.filterMap_cons, hf]; exact List.mem_cons_of_mem _ hb)) hr⟩
  exact all X.outer (fun _ hb => hb) I.ok.funs
theorem Inv.stack (I:Inv X pins σ H s):s.heap.FunFrames X.base X.stack:=by
 rcases I.ok.stk with e | ⟨e,hf⟩
 · rw [e];exact I.funs
 · rw [e]
   obtain ⟨m,hn,_⟩:=I.loc
   refine .cons (by rw [I.ok.kind];decide) hf hn ?_ I.funs
   exact Heap.get?_none_of_le (Nat.le_trans I.ok.bsz I.ok.above)
theorem Inv.stkSub (I:Inv X pins σ H s):∀ b∈frs X.stack,b∈X.env.locals::X.fs:=fun b hb=>by
 rcases I.ok.stk with e | ⟨e,hf⟩
 · rw [e] at hb;exact List.mem_cons_of_mem _ hb
 · rw [e] at hb
   unfold frs at hb
   rw [List.filterMap_cons,hf] at hb
   exact hb
theorem Inv.stkFree (I:Inv X pins σ H s):∀ b∈frs X.stack,H b=none:=fun b hb=>by
 rcases List.mem_cons.mp (I.stkSub b hb) with e | hb
 · rw [e];exact I.free
 · obtain ⟨_,o,ho,_⟩:=I.ok.funs.mem hb
   exact I.base.free b o ho (I.ok.frf b hb) fun z=>I.ok.exfs b z hb
theorem Inv.step {g':Array GenState} {t':Nat} {d':Drawn} {ch:List Addr} (I:Inv X pins σ H s)
   (hch:∀ b∈ch,(b∈X.ex∨X.s₀.heap.objs.size≤b)∧b≠X.env.locals∧(∀ x c,X.env.cells.lookup x=some c→c≠b)∧∀ p∈X.pn++pins,p.1≠b)
   (keep:∀ b o,b≠X.env.locals→b∉X.fs→b∉ch→s.heap.get? b=some o→H b=none→h'.get? b=some o)
   (slot:∀ b o,b≠X.env.locals→b∈X.fs→b∉ch→s.heap.get? b=some o→H b=none→∃ sl,h'.get? b=some { o with slots:=sl }) (free:∀ b o,b∉ch→s.heap.get? b=some o→H b=none→H' b=none)
   (there:∀ b o,b∉ch→s.heap.get? b=some o→∃ o',h'.get? b=some o')
   (tups:∀ b xs,H b=some (.tup xs)→H' b=some (.tup xs)) (frzs:∀ b o u,H b=some (.frz o u)→H' b=some (.frz o u)) (tbls:∀ b ps,H b=some (.tbl ps)→∃ more,H' b=some (.tbl (ps++more)))
   (ns:∀ m,s.heap.Ns X.env.locals m→h'.Ns X.env.locals m) (hok:HOk X.prog X.w H' h') (hg:AllBare g'):
   Inv X pins σ H' { s with heap:=h',gens:=g',drawn:=d',toks:=t' }:=by
 have neL:∀ b o,X.s₀.heap.get? b=some o→b≠X.env.locals:=fun b o e=>Nat.ne_of_lt (Nat.lt_of_lt_of_le (Heap.lt_size e) I.ok.above)
 have neC:∀ b o,X.s₀.heap.get? b=some o→b∉X.ex→b∉ch:=fun b o e hx hb=>by
   rcases (hch b hb).1 with z | z
   · exact hx z
   · exact absurd (Nat.lt_of_lt_of_le (Heap.lt_size e) z) (Nat.lt_irrefl _)
 have cellK:∀ x c,X.env.cells.lookup x=some c→∀ v,s.heap.IsCell c v→h'.IsCell c v:=fun x c e v ⟨o,ho,hd⟩=>by
   have nch:c∉ch:=fun z=>(hch c z).2.2.1 x c e rfl
   by_cases hc:c∈X.fs
   · obtain ⟨sl,q⟩:=slot c o (I.cne x c e) hc nch ho (I.freeC x c e)
     exact ⟨_,q,hd⟩
   · exact ⟨o,keep c o (I.cne x c e) hc nch ho (I.freeC x c e),hd⟩
 refine ⟨I.ok,I.os,hg,⟨fun b o e n hb hx=>?_,fun b o e n hb hx=>?_,fun b o e n hx=>?_,fun b o e hx=>?_,fun b xs e=>tups b xs (I.base.tups b xs e),fun b o xs e=>frzs b o xs (I.base.frzs b o xs e),fun b ps e=>?_⟩,?_,fun x c e=>?_,?_,fun x c e=>?_,fun p hp=>?_,hok,I.len⟩
 · exact keep b o (neL b o e) hb (neC b o e hx) (I.base.keep b o e n hb hx) (I.base.free b o e n hx)
 · obtain ⟨sl,e1⟩:=I.base.slot b o e n hb hx
   obtain ⟨sl',e2⟩:=slot b _ (neL b o e) hb (neC b o e hx) e1 (I.base.free b o e n hx)
   exact ⟨sl',e2⟩
 · obtain ⟨o',e1⟩:=I.base.there b o e hx
   exact free b o' (neC b o e hx) e1 (I.base.free b o e n hx)
 · obtain ⟨o',e1⟩:=I.base.there b o e hx
   exact there b o' (neC b o e hx) e1
 · obtain ⟨m1,e1⟩:=I.base.tbls b ps e
   obtain ⟨m2,e2⟩:=tbls b _ e1
   exact ⟨m1++m2,by rw [e2,Array.append_assoc]⟩
 · obtain ⟨m,hn,hl⟩:=I.loc
   refine ⟨m,ns m hn,fun i x v e1 e2 e3=>?_⟩
   obtain ⟨u,r,l⟩:=hl i x v e1 e2 e3
   refine ⟨u,r,?_⟩
   rcases l with l | ⟨k,c,e,z⟩
   · exact .inl l
   · exact .inr ⟨k,c,e,cellK x c e _ z⟩
 · obtain ⟨v,z⟩:=I.cell x c e
   exact ⟨v,cellK x c e v z⟩
 · obtain ⟨m,⟨o,_,_,ho,_⟩,_⟩:=I.loc
   exact free _ o (fun z=>(hch _ z).2.1 rfl) ho I.free
 · obtain ⟨v,o,ho,hd⟩:=I.cell x c e
   exact free c o (fun z=>(hch c z).2.2.1 x c e rfl) ho (I.freeC x c e)
 · obtain ⟨e,n,ne,nf,d⟩:=I.pin p hp
   have nch:p.1∉ch:=fun z=>(hch p.1 z).2.2.2 p hp rfl
   exact ⟨keep p.1 p.2 ne nf nch e n,free p.1 p.2 nch e n,ne,nf,d⟩
theorem Inv.un {t':Nat} (I:Inv X pins σ H s) (u:Un X.fs [] H H' s.heap h') (hok:HOk X.prog X.w H' h'):Inv X pins σ H' { s with heap:=h',toks:=t' }:=by
 obtain ⟨m,⟨o,es,ep,ho,r⟩,_⟩:=id I.loc
 obtain ⟨sl,hL⟩:=u.any ho I.free (by simp)
 exact I.step (g':=s.gens) (d':=s.drawn) (ch:=[]) (fun _ z=>nomatch z) (fun b o _ hb _ e n=>u.keep b o e n hb (by simp)) (fun b o _ hb _ e n=>u.slot b o e n hb (by simp)) (fun b o _ e n=>u.free b o e n (by simp)) (fun b o _ e=>u.there b o e (by simp)) u.tups u.frzs u.tbls (fun m' hm=>by
  obtain ⟨o',es',ep',ho',r'⟩:=hm
  rw [ho] at ho';cases ho'
  exact ⟨_,es',ep',hL,r'⟩) hok I.bare
theorem Inv.call {g':Array GenState} {t':Nat} {d':Drawn} {ch:List Addr} (I:Inv X pins σ H s) (u:Un (frs X.stack) ch H H' s.heap h') (hok:HOk X.prog X.w H' h') (hg:AllBare g')
  (hch:∀ b∈ch,(b∈X.ex∨X.s₀.heap.objs.size≤b)∧b≠X.env.locals∧(∀ x c,X.env.cells.lookup x=some c→c≠b)∧∀ p∈X.pn++pins,p.1≠b):
  Inv X pins σ H' { s with heap:=h',gens:=g',drawn:=d',toks:=t' }:=by
 obtain ⟨m,⟨o,es,ep,ho,r⟩,_⟩:=id I.loc
 obtain ⟨sl,hL⟩:=u.any ho I.free fun z=>(hch _ z).2.1 rfl
 exact I.step (ch:=ch) hch (fun b o hL hb hc e n=>u.keep b o e n (fun z=>(List.mem_cons.mp (I.stkSub b z)).elim hL hb) hc) (fun b o _ _ hc e n=>u.any e n hc) (fun b o hc e n=>u.free b o e n hc) (fun b o hc e=>u.there b o e hc) u.tups u.frzs u.tbls (fun m' hm=>by
  obtain ⟨o',es',ep',ho',r'⟩:=hm
  rw [ho] at ho';cases ho'
  exact ⟨_,es',ep',hL,r'⟩) hok hg
theorem Inv.turned {t':Nat} {it:Addr} (I:Inv X pins σ H s) (k:∀ b o,b≠it→s.heap.get? b=some o→h'.get? b=some o) (hn:H it=none) (hL:it≠X.env.locals)
   (h1:it∈X.ex∨X.s₀.heap.objs.size≤it) (h2:∀ x c,X.env.cells.lookup x=some c→c≠it) (h3:∀ p∈X.pn++pins,p.1≠it):Inv X pins σ H { s with heap:=h',toks:=t' }:=by
 have nit:∀ b u,H b=some u→b≠it:=fun b u e z=>by rw [z,hn] at e;cases e
 refine I.step (g':=s.gens) (d':=s.drawn) (ch:=[it]) (fun b hb=>?_) (fun b o _ _ hc e _=>k b o (fun z=>hc (by simp [z])) e) (fun b o _ _ hc e _=>⟨o.slots,k b o (fun z=>hc (by simp [z])) e⟩) (fun _ _ _ _ n=>n)
   (fun b o hc e=>⟨o,k b o (fun z=>hc (by simp [z])) e⟩) (fun _ _ e=>e) (fun _ _ _ e=>e) (fun b ps e=>⟨#[],by rw [e];simp⟩) (fun m hm=>?_) (fun b u e=>?_) I.bare
 · have e:b=it:=by simpa using hb
   subst e
   exact ⟨h1,hL,h2,h3⟩
 · obtain ⟨o,es,ep,ho,r⟩:=hm
   exact ⟨o,es,ep,k _ o (Ne.symm hL) ho,r⟩
 · refine (I.hok b u e).stay (fun c v hc q=>k c v ?_ q) (fun _ q=>q) fun _ _ q=>q
   rcases hc with z | z
   · rw [z];exact nit b u e
   · exact nit c _ z
theorem Inv.tok (I:Inv X pins σ H s) (t:Nat):Inv X pins σ H { s with toks:=t }:=I.un (h':=s.heap) (t':=t) Un.refl I.hok
theorem Inv.kept {t':Nat} (I:Inv X pins σ H s) (k:∀ b u,s.heap.get? b=some u→h'.get? b=some u):Inv X pins σ H { s with heap:=h',toks:=t' }:=I.un (Un.kept k) (I.hok.kept k)
theorem Inv.laid {a:Addr} {o:HO} {t':Nat} (I:Inv X pins σ H s) (k:∀ b u,s.heap.get? b=some u→h'.get? b=some u) (hp:s.heap.objs.size≤a) (new:bu X.prog X.w (upd H a o) h' a o):
 Inv X pins σ (upd H a o) { s with heap:=h',toks:=t' }:=I.un (Un.laid k hp (I.hok.fresh hp)) (I.hok.laid k hp new)
theorem Inv.write {x e:Addr} {o:HO} {t':Nat} (I:Inv X pins σ H s) (mu:Mut (H x)) (he:e=x∨H e=some (.own x)) (k:∀ b u,b≠e→s.heap.get? b=some u→h'.get? b=some u) (heo:∃ u,h'.get? e=some u)
 (new:bu X.prog X.w (upd H x o) h' x o):Inv X pins σ (upd H x o) { s with heap:=h',toks:=t' }:=I.un (Un.write mu he k heo) (I.hok.write mu he k heo new)
theorem Inv.pins_of {pins':List (Addr×Obj)} (I:Inv X pins σ H s) (h:∀ p∈pins',s.heap.get? p.1=some p.2∧H p.1=none∧p.1≠X.env.locals∧p.1∉X.fs∧∀ v,p.2.data≠ .cell v):Inv X pins' σ H s:=
 ⟨I.ok,I.os,I.bare,I.base,I.loc,I.cell,I.free,I.freeC,fun p hp=>(List.mem_append.mp hp).elim (fun z=>I.pin p (List.mem_append_left _ z)) (h p),I.hok,I.len⟩
theorem jR {N:List Str} (hN:N.Nodup) {i j:Nat} {x:Str} (a:N[i]?=some x) (b:N[j]?=some x):i=j:=by
 obtain ⟨h1,e1⟩:=List.getElem?_eq_some_iff.mp a
 obtain ⟨h2,e2⟩:=List.getElem?_eq_some_iff.mp b
 exact (List.getElem_inj hN).mp (e1.trans e2.symm)
theorem lw {M:Model} {A:Around} {E:Value→Shared→Prop} {i:Nat} {x:Str} {v:V} {u:Value} {Q:Unit→Shared→Prop} (I:Inv X pins σ H s) (hN:X.N.Nodup) (hi:X.N[i]?=some x) (hx:Loc X.env.scope x) (r:br v u)
   (h:∀ s',Inv X pins (σ.set i (some v)) H s'→(∃ a,Heap.SameBut a s.heap s'.heap∧(a=X.env.locals∨X.env.cells.lookup x=some a))→Q () s') (hf:X.fn x=true∨X.env.scope.names.lookup x=some .local:=by first | exact .inl rfl | exact .inr rfl | assumption):wpAny M A (storeName X.env x u) Q E s:=by
 obtain ⟨m,hn,hl⟩:=id I.loc
 have hcls:(X.env.scope.kind==.class||(X.env.scope.kind==.module&&X.env.locals !=X.env.globals))=false:=by rw [I.ok.kind];rfl
 have hiσ:i<σ.length:=by rw [I.len];exact (List.getElem?_eq_some_iff.mp hi).1
 have cne:=I.cne
 have tracked:∀ {a:Addr} {h':Heap},(∃ o,s.heap.get? a=some o∧H a=none)→Heap.SameBut a s.heap h'→HOk X.prog X.w H h':=fun {a h'} ha hs b ob e=>by
   obtain ⟨_,_,hfree⟩:=ha
   refine (I.hok b ob e).stay (fun c w' hc q=>(hs.2 c ?_).trans q) (fun _ q=>q) fun _ _ q=>q
   rintro rfl
   rcases hc with rfl | hc
   · rw [hfree] at e;cases e
   · rw [hfree] at hc;cases hc
 rcases hx with hk | hk
 · refine wpAny_storeName_local hk hn (fun h' hn' hs=>?_) hcls
   obtain ⟨oL,_,_,hoL,_⟩:=id hn
   refine h _ ⟨I.ok,I.os,I.bare,⟨fun b o e n hb hx=>?_,fun b o e n hb hx=>?_,I.base.free,fun b o e hx=>?_,I.base.tups,I.base.frzs,I.base.tbls⟩,⟨_,hn',fun j y v' e1 e2 e3=>?_⟩,fun y c e=>?_,I.free,I.freeC,fun p hp=>?_,tracked ⟨oL,hoL,I.free⟩ hs,by simpa using I.len⟩ ⟨_,hs,.inl rfl⟩
   · exact (hs.2 b (Nat.ne_of_lt (Nat.lt_of_lt_of_le (Heap.lt_size e) I.ok.above))).trans (I.base.keep b o e n hb hx)
   · obtain ⟨sl,e1⟩:=I.base.slot b o e n hb hx
     exact ⟨sl,(hs.2 b (Nat.ne_of_lt (Nat.lt_of_lt_of_le (Heap.lt_size e) I.ok.above))).trans e1⟩
   · obtain ⟨o',e1⟩:=I.base.there b o e hx
     exact ⟨o',(hs.2 b (Nat.ne_of_lt (Nat.lt_of_lt_of_le (Heap.lt_size e) I.ok.above))).trans e1⟩
   · by_cases hj:j=i
     · subst hj
       rw [hi] at e1;cases e1
       rw [List.getElem?_set_self hiσ] at e2
       cases e2
       exact ⟨u,r,.inl ⟨hk,by simp⟩⟩
     · rw [List.getElem?_set_ne (Ne.symm hj)] at e2
       obtain ⟨u',r',q⟩:=hl j y v' e1 e2 e3
       refine ⟨u',r',?_⟩
       rcases q with ⟨k,e⟩ | ⟨k,c,e,z⟩
       · refine .inl ⟨k,?_⟩
         have:y≠x:=fun e=>hj (jR hN e1 (e▸hi))
         simp [this,e]
       · exact .inr ⟨k,c,e,z.sameBut hs (cne y c e)⟩
   · obtain ⟨w',z⟩:=I.cell y c e
     exact ⟨w',z.sameBut hs (cne y c e)⟩
   · obtain ⟨e,n,ne,nf,d⟩:=I.pin p hp
     exact ⟨(hs.2 p.1 ne).trans e,n,ne,nf,d⟩
 · have hfn:X.fn x=true:=by
     rcases hf with z | z
     · exact z
     · rw [z] at hk;cases hk
   obtain ⟨c,hc⟩:=I.ok.has x (.inl hk)
   obtain ⟨w',z⟩:=I.cell x c hc
   refine wpAny_storeName_cell I.ok.kind hk hc z (fun h' hc' hs=>?_)
   obtain ⟨oc,hoc,hocd⟩:=id z
   refine h { s with heap:=h' } ⟨I.ok,I.os,I.bare,⟨fun b o e n hb hx=>?_,fun b o e n hb hx=>?_,I.base.free,fun b o e hx=>?_,I.base.tups,I.base.frzs,I.base.tbls⟩,⟨m,hn.sameBut hs (Ne.symm (cne x c hc)),fun j y v' e1 e2 e3=>?_⟩,fun y c' e=>?_,I.free,I.freeC,fun p hp=>?_,tracked ⟨oc,hoc,I.freeC x c hc⟩ hs,by simpa using I.len⟩ ⟨c,hs,.inr hc⟩
   · exact (hs.2 b (Nat.ne_of_lt (Nat.lt_of_lt_of_le (Heap.lt_size e) (I.ok.cab x c hfn hc)))).trans (I.base.keep b o e n hb hx)
   · obtain ⟨sl,e1⟩:=I.base.slot b o e n hb hx
     exact ⟨sl,(hs.2 b (Nat.ne_of_lt (Nat.lt_of_lt_of_le (Heap.lt_size e) (I.ok.cab x c hfn hc)))).trans e1⟩
   · obtain ⟨o',e1⟩:=I.base.there b o e hx
     exact ⟨o',(hs.2 b (Nat.ne_of_lt (Nat.lt_of_lt_of_le (Heap.lt_size e) (I.ok.cab x c hfn hc)))).trans e1⟩
   · by_cases hj:j=i
     · subst hj
       rw [hi] at e1;cases e1
       rw [List.getElem?_set_self hiσ] at e2
       cases e2
       exact ⟨u,r,.inr ⟨.inl hk,c,hc,hc'⟩⟩
     · rw [List.getElem?_set_ne (Ne.symm hj)] at e2
       obtain ⟨u',r',q⟩:=hl j y v' e1 e2 e3
       refine ⟨u',r',?_⟩
       rcases q with q | ⟨k,c',e,z'⟩
       · exact .inl q
       · refine .inr ⟨k,c',e,z'.sameBut hs ?_⟩
         rintro rfl
         exact hj (jR hN e1 (I.ok.inj _ _ _ e hc▸hi))
   · by_cases hcc:c'=c
     · subst hcc;exact ⟨_,hc'⟩
     · obtain ⟨w2,z2⟩:=I.cell y c' e
       exact ⟨w2,z2.sameBut hs hcc⟩
   · obtain ⟨e,n,ne,nf,d⟩:=I.pin p hp
     refine ⟨(hs.2 p.1 ?_).trans e,n,ne,nf,d⟩
     intro q
     rw [q,hoc] at e
     have q':oc=p.2:=Option.some.inj e
     exact d w' (by rw [← q'];exact hocd)
theorem eY {M:Model} {A:Around} {E:Value→Shared→Prop} {i:Nat} {x:Str} {v:V} {u:Value} {Q:Unit→Shared→Prop} (I:Inv X pins σ H s) (hN:X.N.Nodup) (hi:X.N[i]?=some x) (hx:Loc X.env.scope x) (r:br v u)
  (h:∀ s',Inv X pins (σ.set i (some v)) H s'→Q () s') (hf:X.fn x=true∨X.env.scope.names.lookup x=some .local:=by first | exact .inl rfl | exact .inr rfl | assumption):wpAny M A (storeName X.env x u) Q E s:=
 lw I hN hi hx r (fun s' I' _=>h s' I') hf
theorem Inv.call' {s':Shared} {ch:List Addr} (I:Inv X pins σ H s) (ho:s'.os=s.os) (u:Un (frs X.stack) ch H H' s.heap s'.heap) (hok:HOk X.prog X.w H' s'.heap) (hg:AllBare s'.gens)
  (hch:∀ b∈ch,(b∈X.ex∨X.s₀.heap.objs.size≤b)∧b≠X.env.locals∧(∀ x c,X.env.cells.lookup x=some c→c≠b)∧∀ p∈X.pn++pins,p.1≠b):Inv X pins σ H' s':=by
 obtain ⟨h',g',d',t',o'⟩:=s'
 have e:o'=s.os:=ho
 subst e
 exact I.call (g':=g') (t':=t') (d':=d') u hok hg hch
end
abbrev XK:=Value→Option Addr→Hp→Prop
abbrev St:=List (Option V)
abbrev VK:=V→Hp→Prop
abbrev TE:=St→Hp→VK→Prop
abbrev TT:=St→Hp→(Bool→Hp→Prop)→Prop
abbrev TA:=St→Hp→(List V→Hp→Prop)→Prop
structure fe where
 nx:St→Hp→Prop
 rt:VK
 bk:St→Hp→Prop:=fun _ _=>False
 ct:St→Hp→Prop:=fun _ _=>False
abbrev TS:=fe→St→Hp→Prop
def EP (X:Cx) (pins:List (Addr×Obj)) (σ:St) (Q:VK) (u:Value) (s':Shared):Prop:=∃ v H',Inv X pins σ H' s'∧br v u∧Q v H'
def TP (X:Cx) (pins:List (Addr×Obj)) (σ:St) (Q:Bool→Hp→Prop) (b:Bool) (s':Shared):Prop:=∃ H',Inv X pins σ H' s'∧Q b H'
def AP (X:Cx) (pins:List (Addr×Obj)) (σ:St) (Q:List V→Hp→Prop) (us:List Value) (s':Shared):Prop:=∃ vs H',Inv X pins σ H' s'∧bo vs us∧Q vs H'
def SP (X:Cx) (pins:List (Addr×Obj)) (D:fe) (f:Flow) (s':Shared):Prop:=
 match f with
 | .next=>∃ σ' H',Inv X pins σ' H' s'∧D.nx σ' H'
 | .brk=>∃ σ' H',Inv X pins σ' H' s'∧D.bk σ' H'
 | .cont=>∃ σ' H',Inv X pins σ' H' s'∧D.ct σ' H'
 | .ret u=>∃ v σ' H',Inv X pins σ' H' s'∧br v u∧D.rt v H'
def PE (X:Cx) (e:Expr) (t:TE):Prop:=
 ∀ (pins:List (Addr×Obj)) (s:Shared) (σ:St) (H:Hp) (Q:VK),Inv X pins σ H s→t σ H Q→wpAny (model X.prog X.w) X.A (eval e X.env) (EP X pins σ Q) X.xe s
def PT (X:Cx) (e:Expr) (t:TT):Prop:=
 ∀ (pins:List (Addr×Obj)) (s:Shared) (σ:St) (H:Hp) (Q:Bool→Hp→Prop),Inv X pins σ H s→t σ H Q→wpAny (model X.prog X.w) X.A (isTrue e X.env (eval e X.env)) (TP X pins σ Q) X.xe s
def PW (X:Cx) (e:Expr) (t:TT):Prop:=
 ∀ (whole:Sem Value) (pins:List (Addr×Obj)) (s:Shared) (σ:St) (H:Hp) (Q:Bool→Hp→Prop),Inv X pins σ H s→t σ H Q→wpAny (model X.prog X.w) X.A (isTrue e X.env whole) (TP X pins σ Q) X.xe s
theorem PW.pt {X:Cx} {e:Expr} {t:TT} (h:PW X e t):PT X e t:=h _
def PA (X:Cx) (es:List Expr) (t:TA):Prop:=
 ∀ (pos:Pos) (pins:List (Addr×Obj)) (s:Shared) (σ:St) (H:Hp) (Q:List V→Hp→Prop),Inv X pins σ H s→t σ H Q→wpAny (model X.prog X.w) X.A (spliced (backTo pos (starEach es X.env))) (AP X pins σ Q) X.xe s
def PS (X:Cx) (st:Stmt) (t:TS):Prop:=
 ∀ (pins:List (Addr×Obj)) (s:Shared) (σ:St) (H:Hp) (D:fe),Inv X pins σ H s→t D σ H→wpAny (model X.prog X.w) X.A (exec st X.env) (SP X pins D) X.xe s
def PSs (X:Cx) (st:List Stmt) (t:TS):Prop:=
 ∀ (pins:List (Addr×Obj)) (s:Shared) (σ:St) (H:Hp) (D:fe),Inv X pins σ H s→t D σ H→wpAny (model X.prog X.w) X.A (execs st X.env) (SP X pins D) X.xe s
theorem thn {α:Type} {t:Sem α} {Q Q':α→Shared→Prop} {M:Model} {A:Around} {E:Value→Shared→Prop} {s:Shared} (h:wpAny M A t Q E s) (hQ:∀ a s,Q a s→Q' a s):wpAny M A t Q' E s:=wpAny_mono h hQ fun _ _ x=>x
section
variable {X:Cx}
def GP (i:Nat):TE:=fun σ H Q=>∃ v,σ[i]?=some (some v)∧Q v H
def tC (v:V):TE:=fun _ H Q=>Q v H
theorem zE {i:Nat} {x:Str} {pos:Pos} (hN:X.N[i]?=some x) (hv:Vis X.env.scope x) (hd:(x==("__debug__" :Str))=false:=by decide) (hcd:(x==("__classdict__" :Str))=false:=by decide):PE X (.Name x pos) (GP i):=by
 intro pins s σ H Q I h
 obtain ⟨v,e,h⟩:=h
 obtain ⟨m,hn,hl⟩:=I.loc
 obtain ⟨u,r,l⟩:=hl i x v hN e hv
 have fin:EP X pins σ Q u s:=⟨v,H,I,r,h⟩
 rcases l with ⟨hk,hm⟩ | ⟨hk,c,hc,hcell⟩
 · exact wpAny_Name (wpAny_loadName_local I.ok.kind hk hn hm fin) hd
 · rcases hk with hk | hk
   · exact wpAny_Name (wpAny_loadName_cell I.ok.kind hk hc hcell fin) hd
   · exact wpAny_Name (wpAny_loadName_free I.ok.kind hk hc hcell fin hcd) hd
theorem yX {i j pos}:PE X (.Constant (.int i) j pos) (tC (.int i)):=fun _ _ _ H _ I h=>wpAny_Constant_int ⟨.int i,H,I.tok _,⟨_,rfl⟩,h⟩
theorem Fw {b j pos}:PE X (.Constant (.bool b) j pos) (tC (.bl b)):=fun _ _ _ H _ I h=>Constant_bool ⟨.bl b,H,I,rfl,h⟩
theorem BW {j pos}:PE X (.Constant .none j pos) (tC .non):=fun _ _ _ H _ I h=>Constant_none ⟨.non,H,I,rfl,h⟩
theorem BI {x j pos}:PE X (.Constant (.str x) j pos) (tC (.str x)):=fun _ _ _ H _ I h=>Calls.Constant_str ⟨.str x,H,I.tok _,⟨_,rfl⟩,h⟩
def Gl (X:Cx) (x:Str):Prop:=X.env.kindOf x=some .globalImplicit
theorem jt {E:Value→Shared→Prop} {pins:List (Addr×Obj)} {s:Shared} {σ:St} {H:Hp} {x:Str} {u:Value} {pos:Pos} {Q:Value→Shared→Prop} (I:Inv X pins σ H s) (hg:Gl X x) (hm:X.mg x=some u) (h:Q u s)
  (hd:(x==("__debug__" :Str))=false:=by decide):wpAny (model X.prog X.w) X.A (eval (.Name x pos) X.env) Q E s:=
 Calls.Name_function_global I.ok.kind hg (Calls.loadGlobal_global (by rw [I.ok.glob];exact I.mod.glob.keeps I.bk) hm h) hd
theorem iU {E:Value→Shared→Prop} {pins:List (Addr×Obj)} {s:Shared} {σ:St} {H:Hp} {x:Str} {u:Value} {pos:Pos} {Q:Value→Shared→Prop} (I:Inv X pins σ H s) (hg:Gl X x) (hm:X.mg x=none) (hv:bootBuiltins x=some u) (h:Q u s)
  (hn:x≠ "__name__" :=by decide) (hd:(x==("__debug__" :Str))=false:=by decide):wpAny (model X.prog X.w) X.A (eval (.Name x pos) X.env) Q E s:=by
 obtain ⟨mb,h1,h2⟩:=I.mod.blt
 exact Calls.Name_function_global I.ok.kind hg (Calls.loadGlobal_builtin (by rw [I.ok.glob];exact I.mod.glob.keeps I.bk) hm (by rw [I.ok.blt];exact h1.keeps I.bk) ((h2 x hn).trans hv) h) hd
theorem pI {x:Str} {v:V} {u:Value} {pos:Pos} (hg:Gl X x) (hm:X.mg x=some u) (r:br v u) (hd:(x==("__debug__" :Str))=false:=by decide):PE X (.Name x pos) (tC v):=
 fun _ _ _ H _ I h=>jt I hg hm ⟨v,H,I,r,h⟩ hd
theorem xE {x:Str} {v:V} {u:Value} {pos:Pos} (hg:Gl X x) (hm:X.mg x=none) (hv:bootBuiltins x=some u) (r:br v u) (hn:x≠ "__name__" :=by decide) (hd:(x==("__debug__" :Str))=false:=by decide):PE X (.Name x pos) (tC v):=
 fun _ _ _ H _ I h=>iU I hg hm hv ⟨v,H,I,r,h⟩ hn hd
variable {a b:Expr} {ta tb:TE} {pos:Pos}
variable {tA tB':TT} {bR:List Expr}
def cu (t:TT):TT:=fun σ H Q=>t σ H fun c H1=>Q (!c) H1
theorem xw (ha:PT X a tA):PW X (.BoolOp .And [a] pos) tA:=by
 intro wh pins s σ H Q I h
 refine isTrue_and (thn (ha pins s σ H Q I h) fun c s1 e=>?_)
 cases c with
 | true=>exact isTrue_and_nil e
 | false=>exact e
theorem AI (ha:PT X a tA):PW X (.BoolOp .Or [a] pos) tA:=by
 intro wh pins s σ H Q I h
 refine isTrue_or (thn (ha pins s σ H Q I h) fun c s1 e=>?_)
 cases c with
 | false=>exact isTrue_or_nil e
 | true=>exact e
theorem BG (ha:PT X a tA):PT X (.UnaryOp .Not a pos) (cu tA):=by
 intro pins s σ H Q I h
 exact isTrue_not (ha pins s σ H (fun c H1=>Q (!c) H1) I h)
theorem zx {op} {t:TE} (h:PE X a t):PE X (.BoolOp op [a] pos) t:=fun pins s σ H Q I hw=>BoolOp_one (h pins s σ H Q I hw)
end
def SqL (K:W.Frag) (H:Hp) (a:Addr) (xs:List V):Prop:=
 Rd H a (.lst xs)∨
  ∃ (o:Obj) (its:Array Value) (n:Nat),K.lookup a=some o∧o.cls=.type "list" ∧o.dict=none∧o.data=.seq its n∧its.size≤sizeLine∧bo xs its.toList
def SqT (K:W.Frag) (H:Hp) (a:Addr) (xs:List V):Prop:=
 Rd H a (.tup xs)∨
  ∃ (o:Obj) (its:Array Value) (n:Nat),K.lookup a=some o∧o.cls=.type "tuple" ∧o.data=.seq its n∧its.size≤sizeLine∧bo xs its.toList
def GA:Value→Option V
 | .none=>some .non
 | .bool b=>some (.bl b)
 | .int i _=>some (.int i)
 | .str x _=>some (.str x)
 | .bytes b _=>some (.byt b)
 | .float b _=>some (.flt b)
 | .ref a=>some (.ref a)
 | .type n=>some (.ty n)
 | _=>none
theorem br.abs {x:V} {u:Value} (r:br x u):GA u=some x:=by
 cases x with
 | non=>cases r;rfl
 | bl _=>cases r;rfl
 | int _=>obtain ⟨t,rfl⟩:=r;rfl
 | str _=>obtain ⟨t,rfl⟩:=r;rfl
 | byt _=>obtain ⟨t,rfl⟩:=r;rfl
 | flt _=>obtain ⟨t,rfl⟩:=r;rfl
 | ref _=>cases r;rfl
 | ty _=>cases r;rfl
theorem br.inj {x y:V} {u:Value} (r:br x u) (q:br y u):x=y:=Option.some.inj (r.abs.symm.trans q.abs)
theorem bo.inj:∀ {xs ys:List V} {us:List Value},bo xs us→bo ys us→xs=ys
 | _,_,_,.nil,.nil=>rfl
 | _,_,_,.cons r t,.cons r' t'=>by rw [r.inj r',bo.inj t t']
section
variable {X:Cx} {pins:List (Addr×Obj)} {σ:St} {H:Hp} {s:Shared} {a:Addr} {xs ys:List V}
theorem SqL.of {K:W.Frag} (h:H a=some (.lst xs)):SqL K H a xs:=.inl (.inl h)
theorem SqT.of {K:W.Frag} (h:H a=some (.tup xs)):SqT K H a xs:=.inl (.inl h)
theorem Inv.list (I:Inv X pins σ H s) (h:SqL X.K H a xs):∃ its:List Value,bo xs its∧PlainL s.heap a its.toArray∧xs.length≤sizeLine:=by
 rcases h with h | ⟨o,its,n,hk,hc,hd,hs,hz,r⟩
 · obtain ⟨z,its,n,r,e⟩:=h.ok I.hok
   exact ⟨its,r,⟨_,n,e,rfl,rfl,rfl⟩,z⟩
 · refine ⟨its.toList,r,⟨o,n,I.kIn a o hk,hc,hd,by simpa using hs⟩,?_⟩
   have e:=r.length
   simp only [Array.length_toList] at e
   omega
theorem Inv.tuple (I:Inv X pins σ H s) (h:SqT X.K H a xs):∃ its:List Value,bo xs its∧IsTup s.heap a its.toArray∧xs.length≤sizeLine:=by
 rcases h with h | ⟨o,its,n,hk,hc,hs,hz,r⟩
 · obtain ⟨z,its,r,p⟩:=h.ok I.hok
   exact ⟨its,r,p,z⟩
 · refine ⟨its.toList,r,⟨o,I.kIn a o hk,hc,n,by simpa using hs⟩,?_⟩
   have e:=r.length
   simp only [Array.length_toList] at e
   omega
theorem Inv.list_inj (I:Inv X pins σ H s) (h:SqL X.K H a xs) (h':SqL X.K H a ys):xs=ys:=by
 obtain ⟨its,r,⟨o,n,e,_,_,d⟩,_⟩:=I.list h
 obtain ⟨its',r',⟨o',n',e',_,_,d'⟩,_⟩:=I.list h'
 rw [e] at e';cases e'
 rw [d] at d'
 injection d' with d1 _
 have:its=its':=by simpa using congrArg Array.toList d1
 subst this
 exact r.inj r'
theorem Inv.tuple_inj (I:Inv X pins σ H s) (h:SqT X.K H a xs) (h':SqT X.K H a ys):xs=ys:=by
 obtain ⟨its,r,⟨o,e,_,n,d⟩,_⟩:=I.tuple h
 obtain ⟨its',r',⟨o',e',_,n',d'⟩,_⟩:=I.tuple h'
 rw [e] at e';cases e'
 rw [d] at d'
 injection d' with d1 _
 have:its=its':=by simpa using congrArg Array.toList d1
 subst this
 exact r.inj r'
end
abbrev Cx.wish (X:Cx) (E:Value→Shared→Prop):Cx:={ X with xe:=E }
abbrev Cx.nox (X:Cx):Cx:=X.wish fun _ _=>False
theorem Cx.Ok.wish {X:Cx} (ok:X.Ok) (E:Value→Shared→Prop):(X.wish E).Ok:=
 ⟨ok.mod,ok.kind,ok.glob,ok.blt,ok.above,ok.inj,ok.has,ok.cab,ok.hd,ok.frames,ok.stk,ok.exf,ok.bs,ok.bsz,ok.noex,ok.exfs,ok.funs,ok.frf⟩
theorem Cx.Ok.unwish {X:Cx} {E:Value→Shared→Prop} (ok:(X.wish E).Ok):X.Ok:=
 ⟨ok.mod,ok.kind,ok.glob,ok.blt,ok.above,ok.inj,ok.has,ok.cab,ok.hd,ok.frames,ok.stk,ok.exf,ok.bs,ok.bsz,ok.noex,ok.exfs,ok.funs,ok.frf⟩
section
variable {X:Cx} {pins:List (Addr×Obj)} {σ:St} {H:Hp} {s:Shared} {E:Value→Shared→Prop}
theorem Inv.wish (I:Inv X pins σ H s) (E:Value→Shared→Prop):Inv (X.wish E) pins σ H s:=⟨I.ok.wish E,I.os,I.bare,I.base,I.loc,I.cell,I.free,I.freeC,I.pin,I.hok,I.len⟩
theorem Inv.unwish (I:Inv (X.wish E) pins σ H s):Inv X pins σ H s:=⟨I.ok.unwish,I.os,I.bare,I.base,I.loc,I.cell,I.free,I.freeC,I.pin,I.hok,I.len⟩
theorem SP.unwish {D:fe} {f:Flow} {s':Shared} (h:SP (X.wish E) pins D f s'):SP X pins D f s':=by
 cases f with
 | next=>obtain ⟨σ',H',I,q⟩:=h;exact ⟨σ',H',I.unwish,q⟩
 | brk=>obtain ⟨σ',H',I,q⟩:=h;exact ⟨σ',H',I.unwish,q⟩
 | cont=>obtain ⟨σ',H',I,q⟩:=h;exact ⟨σ',H',I.unwish,q⟩
 | ret u=>obtain ⟨v,σ',H',I,r,q⟩:=h;exact ⟨v,σ',H',I.unwish,r,q⟩
theorem PSs.nox {st:List Stmt} {t:TS} (h:PSs X.nox st t):PSs X st t:=fun pins s σ H D I hw=>
 wpAny_mono (h pins s σ H D (I.wish _) hw) (fun _ _ q=>q.unwish) fun _ _ z=>False.elim z
end
section
variable {X:Cx} {st:Stmt} {bR:List Stmt} {t u:TS} {e:Expr} {te:TE} {pos:Pos}
def aY:TS:=fun D σ H=>D.nx σ H
def au (t u:TS):TS:=fun D σ H=>t { D with nx:=u D } σ H
theorem yG:PSs X [] aY:=fun _ _ σ H _ I h=>wpAny_execs_nil ⟨σ,H,I,h⟩
theorem uM (h1 : PS X st t) (h2 : PSs X bR u) : PSs X (st :: bR) (au t u) := by
  intro pins s σ H D I h
  refine wpAny_execs_cons (thn (h1 pins s σ H { D with nx := u D } I h) fun f s1 q => ?_)
  cases f with
  | next =>
    obtain ⟨σ', H', I', q⟩ := q
    exact h2 pins s1 σ' H' D I' q
  | ret v => exact q
  | brk => exact q
  | cont => exact q
theorem xJ (h1:PS X st t):PSs X [st] t:=by
 intro pins s σ H D I h
 refine wpAny_execs_cons (thn (h1 pins s σ H D I h) fun f s1 q=>?_)
 cases f with
 | next=>exact wpAny_execs_nil q
 | ret v=>exact q
 | brk=>exact q
 | cont=>exact q
theorem Inv.quiet {pins:List (Addr×Obj)} {σ:St} {H:Hp} {s:Shared} (I:Inv X pins σ H s):interactive X.env=false:=by simp [interactive,I.ok.kind]
def ej (te:TE):TS:=fun D σ H=>te σ H fun _ H1=>D.nx σ H1
theorem yD (he:PE X e te) (hs:swapsWith e none pos.line X.env=pure false:=by rfl):PS X (.Expr e pos) (ej te):=by
 intro pins s σ H D I h
 exact wpAny_Expr_any (thn (he pins s σ H _ I h) fun v s1 ⟨x,H1,I1,r1,q1⟩=>⟨σ,H1,I1,q1⟩) I.quiet hs
def aN (te:TE):TS:=fun D σ H=>te σ H D.rt
theorem As (he:PE X e te):PS X (.Return (some e) pos) (aN te):=by
 intro pins s σ H D I h
 exact wpAny_Return_some (thn (he pins s σ H _ I h) fun v s1 ⟨x,H1,I1,r1,q1⟩=>⟨x,σ,H1,I1,r1,q1⟩)
def ko:TS:=fun _ _ _=>False
theorem vf:PS X st ko:=fun _ _ _ _ _ _ h=>h.elim
end
abbrev TG:=V→St→Hp→(St→Hp→Prop)→Prop
abbrev TGs:=List V→St→Hp→(St→Hp→Prop)→Prop
def PG (X:Cx) (target:Expr) (t:TG):Prop:=
 ∀ (pins:List (Addr×Obj)) (s:Shared) (σ:St) (H:Hp) (v:V) (u:Value) (Q:St→Hp→Prop),Inv X pins σ H s→br v u→t v σ H Q→
  wpAny (model X.prog X.w) X.A (assign target X.env u) (fun _ s'=>∃ σ' H',Inv X pins σ' H' s'∧Q σ' H') X.xe s
def PGs (X:Cx) (ts:List Expr) (t:TGs):Prop:=
 ∀ (pins:List (Addr×Obj)) (s:Shared) (σ:St) (H:Hp) (vs:List V) (us:List Value) (Q:St→Hp→Prop),Inv X pins σ H s→bo vs us→t vs σ H Q→
  wpAny (model X.prog X.w) X.A (assignInOrder ((assignEach ts X.env).map (·.2)) us) (fun _ s'=>∃ σ' H',Inv X pins σ' H' s'∧Q σ' H') X.xe s
section
variable {X:Cx} {pos:Pos}
def ay (i:Nat):TG:=fun v σ H Q=>Q (σ.set i (some v)) H
theorem kU {i:Nat} {x:Str} (hN:X.N.Nodup) (hi:X.N[i]?=some x) (hx:Loc X.env.scope x) (hf:X.fn x=true∨X.env.scope.names.lookup x=some .local:=by first | exact .inl rfl | exact .inr rfl | assumption):PG X (.Name x pos) (ay i):=by
 intro pins s σ H v u Q I r h
 exact wpAny_assign_Name (eY I hN hi hx r (fun s' I'=>⟨_,H,I',h⟩) hf)
def qq:TGs:=fun vs σ H Q=>vs=[]∧Q σ H
def iG (t:TG) (u:TGs):TGs:=fun vs σ H Q=>∃ v r,vs=v::r∧t v σ H fun σ' H'=>u r σ' H' Q
theorem yc:PGs X [] qq:=by
 intro pins s σ H vs us Q I r h
 obtain ⟨e,h⟩:=h
 subst e
 cases r
 exact assignInOrder_nil ⟨σ,H,I,h⟩
theorem nh {e : Expr} {es : List Expr} {t : TG} {u : TGs} (h1 : PG X e t) (h2 : PGs X es u)
    (hs : (assignEach (e :: es) X.env).map (·.2) = assign e X.env :: (assignEach es X.env).map (·.2) := by rfl) : PGs X (e :: es) (iG t u) := by
  intro pins s σ H vs us Q I r h
  obtain ⟨v, vr, e1, h⟩ := h
  subst e1
  cases r with
  | cons r rr =>
    rw [hs]
    refine assignInOrder_cons (thn (h1 pins s σ H _ _ _ I r h) fun _ s1 ⟨σ1, H1, I1, q1⟩ => ?_)
    exact h2 pins s1 σ1 H1 _ _ Q I1 rr q1
def qS (K:W.Frag) (n:Nat) (t:TGs):TG:=fun v σ H Q=>∃ a xs,v=.ref a∧SqT K H a xs∧xs.length=n∧t xs σ H Q
theorem yL {es:List Expr} {k:Nat} {t:TGs} {n:Nat} (hc:X.calm=true) (h:PGs X es t)
  (hn:(assignEach es X.env).length=n:=by rfl) (hst:(assignEach es X.env).findIdx? (·.1)=none:=by rfl):PG X (.Tuple es k pos) (qS X.K n t):=by
 intro pins s σ H v u Q I r hw
 obtain ⟨a,xs,e1,hq,hl,hw⟩:=hw
 subst e1
 cases r
 obtain ⟨its,rv,ht,hz⟩:=I.tuple hq
 refine assign_Tuple_tuple (I.ok.hd hc) ht (by simp [hn,←hl,rv.length]) hst fun h' hx=>?_
 have I1:Inv X pins σ H { s with heap:=h' }:=I.kept (t':=s.toks) fun b o e=>hx b o (Nat.ne_of_lt (Heap.lt_size e)) e
 exact h pins _ σ H xs _ Q I1 (by simpa using rv) hw
def aB (te:TE) (g:TG):TS:=fun D σ H=>te σ H fun x H1=>g x σ H1 D.nx
theorem BQ {tg e:Expr} {te:TE} {g:TG} (he:PE X e te) (hg:PG X tg g) (hs:swapsWithSole [tg] e pos.line X.env=pure false:=by rfl) (hw:swappedStores [tg] e X.env=pure none:=by rfl)
  (h1:(assignEach [tg] X.env).map (·.2)=[assign tg X.env]:=by rfl):PS X (.Assign [tg] e pos) (aB te g):=by
 intro pins s σ H D I h
 refine wpAny_Assign_stores (thn (he pins s σ H _ I h) fun v s1 ⟨x,H1,I1,r1,q1⟩=>?_) hs hw
 rw [h1]
 exact thn (hg pins s1 σ H1 x v _ I1 r1 q1) fun _ s2 q=>q
theorem zP {i:Nat} {x:Str} {e:Expr} {te:TE} {pos':Pos} (hN:X.N.Nodup) (hi:X.N[i]?=some x) (hx:Loc X.env.scope x) (he:PE X e te) (hs:swapsWith e (some (.Name x pos')) pos.line X.env=pure false:=by rfl) (hf:X.fn x=true∨X.env.scope.names.lookup x=some .local:=by first | exact .inl rfl | exact .inr rfl | assumption):
  PS X (.Assign [.Name x pos'] e pos) (aB te (ay i)):=by
 intro pins s σ H D I h
 refine wpAny_Assign_Name (thn (he pins s σ H _ I h) fun v s1 ⟨y,H1,I1,r1,q1⟩=>?_) hs
 exact eY I1 hN hi hx r1 (fun s2 I2=>⟨_,H1,I2,q1⟩) hf
end
section
variable {X:Cx} {pos:Pos}
def nJ (c:TT) (tb:TS):TS:=fun D σ H=>∃ W:Nat→St→Hp→Prop,(∃ m,W m σ H)∧∀ m σ H,W m σ H→
 c σ H fun b H1=>if b=true then ∃ N:St→Hp→Prop,(∀ σ' H',N σ' H'→∃ m',m'<m∧W m' σ' H')∧tb { D with nx:=N,ct:=N,bk:=D.nx } σ H1 else D.nx σ H1
theorem vk {c : Expr} {body : List Stmt} {tc : TT} {tb : TS} (hp : PassesOwn (model X.prog X.w) X.A X.env X.xe) (hc : PT X c tc) (hb : PSs X body tb) : PS X (.While c body [] pos) (nJ tc tb) := by
  intro pins s σ H D I h
  obtain ⟨W, ⟨m0, w0⟩, turn⟩ := h
  refine wpAny_While (codeAny_whileLoop (fun n s' => ∃ σ' H', Inv X pins σ' H' s' ∧ W n σ' H') ?_ m0 ⟨σ, H, I, w0⟩)
  rintro n s1 ⟨σ1, H1, I1, w1⟩
  refine wpAny_passesOwn hp (thn (hc pins s1 σ1 H1 _ I1 (turn n σ1 H1 w1)) fun b s2 ⟨H2, I2, q2⟩ => ?_)
  cases b with
  | true =>
    obtain ⟨N, hN, q2⟩ := q2
    rw [if_pos rfl]
    refine wpAny_passesOwn hp (thn (hb pins s2 σ1 H2 _ I2 q2) fun f s3 q3 => ?_)
    cases f with
    | next =>
      obtain ⟨σ3, H3, I3, n3⟩ := q3
      obtain ⟨m', hm, w3⟩ := hN σ3 H3 n3
      exact ⟨m', hm, σ3, H3, I3, w3⟩
    | cont =>
      obtain ⟨σ3, H3, I3, n3⟩ := q3
      obtain ⟨m', hm, w3⟩ := hN σ3 H3 n3
      exact ⟨m', hm, σ3, H3, I3, w3⟩
    | brk => exact q3
    | ret v => exact q3
  | false =>
    rw [if_neg Bool.false_ne_true]
    exact wpAny_execs_nil ⟨σ1, H2, I2, q2⟩
end
structure It where
 go:Nat→Hp→Prop
 yld:Nat→Hp→V→Hp→Prop
 stop:Nat→Hp→Prop
def iS (X:Cx) (pins:List (Addr×Obj)) (H:Hp) (b:Addr):Prop:=
 H b=none∧b≠X.env.locals∧b∉X.fs∧(b∈X.ex∨X.s₀.heap.objs.size≤b)∧(∀ x c,X.env.cells.lookup x=some c→c≠b)∧∀ p∈X.pn++pins,p.1≠b
theorem Inv.fpOk {X:Cx} {pins:List (Addr×Obj)} {σ:St} {H H':Hp} {s:Shared} {b:Addr} (I:Inv X pins σ H s) (hb:s.heap.objs.size≤b) (hn:H' b=none):iS X pins H' b:=by
 refine ⟨hn,Nat.ne_of_gt (Nat.lt_of_lt_of_le I.lt hb),I.nofs hb,.inr (Nat.le_trans I.sz hb),fun x c e z=>?_,fun p hp z=>?_⟩
 · obtain ⟨v,q⟩:=I.cell x c e
   exact absurd (Nat.lt_of_lt_of_le q.lt (by rw [z];exact hb)) (Nat.lt_irrefl _)
 · exact absurd (Nat.lt_of_lt_of_le (Heap.lt_size (I.pin p hp).1) (by rw [z];exact hb)) (Nat.lt_irrefl _)
structure kW (P:Program) (w:World) (K:W.Frag) (tg:Expr) (J:It) (fp:List Addr) (it:Addr) (tn:Nat→Heap→Prop):Prop where
 mem:it∈fp
 obj:∀ i h,tn i h→∀ b∈fp,∃ o,h.get? b=some o∧∀ v,o.data≠ .cell v
 keep:∀ i h h',tn i h→(∀ b∈fp,∀ o,h.get? b=some o→h'.get? b=some o)→tn i h'
 item:∀ (X:Cx),X.prog=P→X.w=w→X.K=K→X.calm=true→∀ (i:Nat) (pins:List (Addr×Obj)) (s:Shared) (σ:St) (H:Hp) (E:Value→Shared→Prop),Inv X pins σ H s→(∀ b∈fp,iS X pins H b)→tn i s.heap→J.go i H→
  wpAny (model P w) X.A (pyNext (.ref it)) (fun r s1=>∃ u,r=some u∧
   wpAny (model P w) X.A (letOwnedTupleGo tg (.ref it) u) (fun _ s2=>∃ x H',Inv X pins σ H' s2∧br x u∧J.yld i H x H'∧tn (i+1) s2.heap∧∀ b∈fp,H' b=none) E s1) E s
 done:∀ (X:Cx),X.prog=P→X.w=w→X.K=K→X.calm=true→∀ (i:Nat) (pins:List (Addr×Obj)) (s:Shared) (σ:St) (H:Hp) (E:Value→Shared→Prop),Inv X pins σ H s→(∀ b∈fp,iS X pins H b)→tn i s.heap→J.stop i H→
  wpAny (model P w) X.A (pyNext (.ref it)) (fun r s1=>r=none∧Inv X pins σ H s1) E s
 self:∀ (A:Around) (i:Nat) (s:Shared) (Q:Value→Shared→Prop) (E:Value→Shared→Prop),tn i s.heap→Q (.ref it) s→wpAny (model P w) A (pyIter (.ref it)) Q E s
abbrev TI:=St→Hp→(It→Hp→Prop)→Prop
def PIE (X:Cx) (pins:List (Addr×Obj)) (σ:St) (tg:Expr) (R:It→Hp→Prop) (itv:Value) (s2:Shared):Prop:=
 ∃ (it:Addr) (fp:List Addr) (tn:Nat→Heap→Prop) (J:It) (H':Hp),itv=.ref it∧Inv X pins σ H' s2∧kW X.prog X.w X.K tg J fp it tn∧tn 0 s2.heap∧(∀ b∈fp,iS X pins H' b)∧R J H'
def PI (X:Cx) (tg iter:Expr) (wi:TI):Prop:=
 ∀ (pins:List (Addr×Obj)) (s:Shared) (σ:St) (H:Hp) (R:It→Hp→Prop),Inv X pins σ H s→wi σ H R→
  wpAny (model X.prog X.w) X.A (eval iter X.env) (fun v s1=>wpAny (model X.prog X.w) X.A (pyIter v) (PIE X pins σ tg R) X.xe s1) X.xe s
theorem mQ {M : Model} {A : Around} {E : Value → Shared → Prop} {s : Shared} {tg : Expr} {it : Addr} {u : Value} {o : Obj} {n : String} {vs : Array Value} {Q : Unit → Shared → Prop} (ho : s.heap.get? it = some o) (hc : o.cls = .type n) (hd : o.data = .fields vs)
    (hn : ["enumerate", "zip", "dict_itemiterator", "dict_reverseitemiterator", "odict_iterator", "itertools.zip_longest", "itertools.pairwise"].contains n = false) (hQ : Q () s) : wpAny M A (letOwnedTupleGo tg (.ref it) u) Q E s := by
  unfold letOwnedTupleGo
  cases tg <;> first
    | exact wpAny_pure hQ
    | (cases u <;> first
        | exact wpAny_pure hQ
        | (refine wpAny_bind (wpAny_load ho ?_)
           rw [hc, hd]
           show wpAny M A (if (["enumerate", "zip", "dict_itemiterator", "dict_reverseitemiterator", "odict_iterator", "itertools.zip_longest", "itertools.pairwise"].contains n && vs[0]? == some (rawInt _)) = true then _ else _) Q E s
           rw [if_neg (by intro h; rw [hn, Bool.false_and] at h; cases h)]
           exact wpAny_pure hQ))
def Itl (K:W.Frag) (a:Addr):It:=
 ⟨fun i H=>∃ xs x,SqL K H a xs∧xs[i]?=some x,fun i H x H'=>H'=H∧∀ xs,SqL K H a xs→xs[i]?=some x,fun i H=>∃ xs,SqL K H a xs∧xs.length≤i⟩
def Itt (K:W.Frag) (a:Addr):It:=
 ⟨fun i H=>∃ xs x,SqT K H a xs∧xs[i]?=some x,fun i H x H'=>H'=H∧∀ xs,SqT K H a xs→xs[i]?=some x,fun i H=>∃ xs,SqT K H a xs∧xs.length≤i⟩
def Itr (lo:Int) (n:Nat):It:=⟨fun i _=>i<n,fun i H x H'=>H'=H∧x=.int (lo+i),fun i _=>n≤i⟩
theorem rS {P:Program} {w:World} {K:W.Frag} {tg:Expr} (a it:Addr):kW P w K tg (Itl K a) [it] it (fun i h=>h.IsListIter it a i) where
 mem:=by simp
 obj:=fun i h st b hb=>by
  have e:b=it:=by simpa using hb
  subst e
  obtain ⟨o,e,c,d⟩:=st
  exact ⟨o,e,fun v z=>by rw [d] at z;cases z⟩
 keep:=fun i h h' st k=>st.at fun o e=>k it (by simp) o e
 item:=by
  intro X hP hw hK hc i pins s σ H E I hf st hg
  subst hP hw hK
  obtain ⟨xs,x,hq,hx⟩:=hg
  obtain ⟨its,rv,p,hz⟩:=I.list hq
  obtain ⟨u,hu,ru⟩:=rv.get hx
  obtain ⟨f0,f1,f2,f3,f4,f5⟩:=hf it (by simp)
  refine wpAny_pyNext_list_item st p.isList (x:=u) (by simpa using hu) fun h' st' sb=>?_
  have I1:Inv X pins σ H { s with heap:=h' }:=I.turned (t':=s.toks) (fun b o hb e=>(sb.2 b hb).trans e) f0 f1 f3 f4 f5
  obtain ⟨o,e,c,d⟩:=id st'
  exact ⟨u,rfl,mQ (s:={ s with heap:=h' }) e c d (by decide) ⟨x,H,I1,ru,⟨rfl,fun ys hy=>by rw [I.list_inj hy hq];exact hx⟩,st',fun b hb=>(hf b hb).1⟩⟩
 done:=by
  intro X hP hw hK hc i pins s σ H E I hf st hg
  subst hP hw hK
  obtain ⟨xs,hq,hx⟩:=hg
  obtain ⟨its,rv,p,hz⟩:=I.list hq
  obtain ⟨f0,f1,f2,f3,f4,f5⟩:=hf it (by simp)
  have hl:=rv.length
  exact wpAny_pyNext_list_end (I.ok.hd hc) st p.isList (by simp;omega) fun h' eb=>⟨rfl,I.turned (t':=s.toks) (fun b o hb e=>eb b o hb e) f0 f1 f3 f4 f5⟩
 self:=fun _ _ _ _ _ st h=>wpAny_pyIter_listiter st h
theorem qV {P:Program} {w:World} {K:W.Frag} {tg:Expr} (a it:Addr):kW P w K tg (Itt K a) [it] it (fun i h=>h.IsTupleIter it a i) where
 mem:=by simp
 obj:=fun i h st b hb=>by
  have e:b=it:=by simpa using hb
  subst e
  obtain ⟨o,e,c,d⟩:=st
  exact ⟨o,e,fun v z=>by rw [d] at z;cases z⟩
 keep:=fun i h h' st k=>st.at fun o e=>k it (by simp) o e
 item:=by
  intro X hP hw hK hc i pins s σ H E I hf st hg
  subst hP hw hK
  obtain ⟨xs,x,hq,hx⟩:=hg
  obtain ⟨its,rv,p,hz⟩:=I.tuple hq
  obtain ⟨u,hu,ru⟩:=rv.get hx
  obtain ⟨f0,f1,f2,f3,f4,f5⟩:=hf it (by simp)
  refine wpAny_pyNext_tuple_item st (show s.heap.IsTuple a its.toArray from p) (x:=u) (by simpa using hu) fun h' st' sb=>?_
  have I1:Inv X pins σ H { s with heap:=h' }:=I.turned (t':=s.toks) (fun b o hb e=>(sb.2 b hb).trans e) f0 f1 f3 f4 f5
  obtain ⟨o,e,c,d⟩:=id st'
  exact ⟨u,rfl,mQ (s:={ s with heap:=h' }) e c d (by decide) ⟨x,H,I1,ru,⟨rfl,fun ys hy=>by rw [I.tuple_inj hy hq];exact hx⟩,st',fun b hb=>(hf b hb).1⟩⟩
 done:=by
  intro X hP hw hK hc i pins s σ H E I hf st hg
  subst hP hw hK
  obtain ⟨xs,hq,hx⟩:=hg
  obtain ⟨its,rv,p,hz⟩:=I.tuple hq
  obtain ⟨f0,f1,f2,f3,f4,f5⟩:=hf it (by simp)
  have hl:=rv.length
  exact wpAny_pyNext_tuple_end (I.ok.hd hc) st (show s.heap.IsTuple a its.toArray from p) (by simp;omega) fun h' eb=>⟨rfl,I.turned (t':=s.toks) (fun b o hb e=>eb b o hb e) f0 f1 f3 f4 f5⟩
 self:=fun _ _ _ _ _ st h=>wpAny_pyIter_tupleiter st h
theorem rE {P:Program} {w:World} {K:W.Frag} {tg:Expr} (it:Addr) (lo:Int) (n:Nat):kW P w K tg (Itr lo n) [it] it (fun i h=>IsRangeIter h it (lo+(i:Nat)*1) ((n:Int) - (i:Nat)) 1) where
 mem:=by simp
 obj:=fun i h st b hb=>by
  have e:b=it:=by simpa using hb
  subst e
  exact ⟨_,st,fun v z=>by
   have z':Data.fields _=Data.cell v:=z
   cases z'⟩
 keep:=fun i h h' st k=>k it (by simp) _ st
 item:=by
  intro X hP hw hK hc i pins s σ H E I hf st hg
  subst hP hw hK
  obtain ⟨f0,f1,f2,f3,f4,f5⟩:=hf it (by simp)
  have W:=Walks.range (prog:=X.prog) (w:=X.w) (I.ok.hd hc) it lo 1 n
  refine W.item i s _ _ hg st fun v h' tk hv st' kk=>?_
  obtain ⟨t,rfl⟩:=hv
  have I1:Inv X pins σ H { s with heap:=h',toks:=tk }:=I.turned (fun b o hb e=>kk b o (by simpa using hb) e) f0 f1 f3 f4 f5
  refine ⟨_,rfl,mQ (s:={ s with heap:=h',toks:=tk }) (n:= "range_iterator") st' rfl rfl (by decide) ⟨.int (lo+i),H,I1,⟨t,?_⟩,⟨rfl,rfl⟩,st',fun b hb=>(hf b hb).1⟩⟩
  rw [Int.mul_one]
 done:=by
  intro X hP hw hK hc i pins s σ H E I hf st hg
  subst hP hw hK
  obtain ⟨f0,f1,f2,f3,f4,f5⟩:=hf it (by simp)
  exact wpAny_pyNext_range_end (I.ok.hd hc) st (by have:n≤i:=hg;omega) fun h' eb=>⟨rfl,I.turned (t':=s.toks) (fun b o hb e=>eb b o hb e) f0 f1 f3 f4 f5⟩
 self:=fun _ _ _ _ _ st h=>wpAny_pyIter_rangeiter st h
section
variable {X:Cx} {tg:Expr}
theorem ni {pins:List (Addr×Obj)} {σ:St} {H:Hp} {s:Shared} {R:It→Hp→Prop} {E:Value→Shared→Prop} {lo hi:Int} {t u v:Tok} {tk:Nat} (I:Inv X pins σ H s) (h1: -(2^62)≤lo) (h2:lo<2^62) (h3: -(2^62)≤hi) (h4:hi<2^62)
   (q:R (Itr lo (hi - lo).toNat) H):wpAny (model X.prog X.w) X.A (pyIter (.ref s.heap.objs.size)) (PIE X pins σ tg R) E { s with heap:=s.heap.push { cls:=.type "range",data:=.fields #[.int lo t,.int hi u,.int 1 v] },toks:=tk }:=by
 refine wpAny_pyIter_range (IsRange.new ..) (small_one h1 h2 h3 h4) ?_
 have I1:Inv X pins σ H { s with heap:=s.heap.push { cls:=.type "range",data:=.fields #[.int lo t,.int hi u,.int 1 v] },toks:=tk }:=I.kept fun b o e=>Heap.get?_push_of_some _ e
 refine ⟨(s.heap.push { cls:=.type "range",data:=.fields #[.int lo t,.int hi u,.int 1 v] }).objs.size,[(s.heap.push { cls:=.type "range",data:=.fields #[.int lo t,.int hi u,.int 1 v] }).objs.size],_,_,H,rfl,
   I1.kept (t':=tk) fun b o e=>Heap.get?_push_of_some _ e,rE _ lo (hi - lo).toNat,?_,fun b hb=>?_,q⟩
 · have e1:lo+((0:Nat):Int)*1=lo:=by simp
   have e2:(((hi - lo).toNat:Nat):Int) - ((0:Nat):Int)=Builtin.Range.rangeSize lo hi 1:=by rw [rangeSize_one];split <;> omega
   show IsRangeIter _ _ (lo+((0:Nat):Int)*1) ((((hi - lo).toNat:Nat):Int) - ((0:Nat):Int)) 1
   rw [e1,e2]
   exact Heap.get?_push_size _ rfl
 · have e:b=(s.heap.push { cls:=.type "range",data:=.fields #[.int lo t,.int hi u,.int 1 v] }).objs.size:=by simpa using hb
   subst e
   exact I1.fpOk (Nat.le_refl _) (I1.hok.fresh (Nat.le_refl _))
def kf (ta:TA):TI:=fun σ H R=>ta σ H fun vs H1=>∃ j:Int,vs=[.int j]∧ -(2^62)≤j∧j<2^62∧R (Itr 0 j.toNat) H1
def qo (ta:TA):TI:=fun σ H R=>ta σ H fun vs H1=>∃ i j:Int,vs=[.int i,.int j]∧(-(2^62)≤i∧i<2^62∧ -(2^62)≤j∧j<2^62)∧R (Itr i (j - i).toNat) H1
theorem sZ {a : Expr} {ta : TA} {p pos : Pos} (hg : Gl X "range") (hm : X.mg "range" = none) (ha : PA X [a] ta) (hs : starEach [a] X.env = [(false, eval a X.env)] := by rfl) : PI X tg (.Call (.Name "range" p) [a] [] pos) (kf ta) := by
  intro pins s σ H R I h
  refine Call_ (iU I hg hm boot_range (PyProof.Rows.callWith_type1 (thn (ha pos pins s σ H _ I h) fun us s1 ⟨vs, H1, I1, r1, q1⟩ => ?_) hs rfl))
  obtain ⟨j, e, q1, q2, q⟩ := q1
  subst e
  cases r1 with
  | cons r rr =>
    cases rr
    obtain ⟨t, rfl⟩ := r
    exact call_range_1 (ni I1 (by omega) (by omega) q1 q2 (by simpa using q))
theorem rW {a b : Expr} {ta : TA} {p pos : Pos} (hg : Gl X "range") (hm : X.mg "range" = none) (ha : PA X [a, b] ta) (hs : starEach [a, b] X.env = [(false, eval a X.env), (false, eval b X.env)] := by rfl) (hs2 : starEach [b] X.env = [(false, eval b X.env)] := by rfl) :
    PI X tg (.Call (.Name "range" p) [a, b] [] pos) (qo ta) := by
  intro pins s σ H R I h
  refine Call_ (iU I hg hm boot_range (PyProof.Rows.callWith_type1 (thn (ha pos pins s σ H _ I h) fun us s1 ⟨vs, H1, I1, r1, q1⟩ => ?_) (by rw [hs, hs2]) (by rw [hs2]; rfl)))
  obtain ⟨i, j, e, ⟨q1, q2, q3, q4⟩, q⟩ := q1
  subst e
  cases r1 with
  | cons r rr =>
    cases rr with
    | cons r' rr =>
      cases rr
      obtain ⟨t, rfl⟩ := r
      obtain ⟨t', rfl⟩ := r'
      exact call_range_2 (ni I1 q1 q2 q3 q4 q)
def gJ (wi:TI) (g:TG) (tb:TS):TS:=fun D σ H=>wi σ H fun J H1=>∃ W:Nat→Nat→St→Hp→Prop,(∃ m,W 0 m σ H1)∧∀ i m σ H,W i m σ H→
 (J.stop i H∧D.nx σ H)∨(J.go i H∧∃ N:St→Hp→Prop,(∀ σ' H',N σ' H'→∃ m',m'<m∧W (i+1) m' σ' H')∧∀ x H',J.yld i H x H'→g x σ H' fun σ2 H2=>tb { D with nx:=N,ct:=N,bk:=D.nx } σ2 H2)
def jf (fp:List Addr) (h:Heap):List (Addr×Obj):=fp.filterMap fun b=>(h.get? b).map fun o=>(b,o)
theorem fN {fp:List Addr} {h:Heap} {b:Addr} {o:Obj} (hb:b∈fp) (e:h.get? b=some o):(b,o)∈jf fp h:=List.mem_filterMap.mpr ⟨b,hb,by rw [e];rfl⟩
theorem sJ {fp : List Addr} {h : Heap} {p : Addr × Obj} (hp : p ∈ jf fp h) : p.1 ∈ fp ∧ h.get? p.1 = some p.2 := by
  obtain ⟨b, hb, e⟩ := List.mem_filterMap.mp hp
  cases q : h.get? b with
  | none => rw [q] at e; cases e
  | some o =>
    rw [q] at e
    have e' : (b, o) = p := Option.some.inj e
    subst e'
    exact ⟨hb, q⟩
theorem Inv.pinned {pins:List (Addr×Obj)} {σ:St} {H:Hp} {s:Shared} {fp:List Addr} (I:Inv X pins σ H s) (hf:∀ b∈fp,iS X pins H b) (ho:∀ b∈fp,∃ o,s.heap.get? b=some o∧∀ v,o.data≠ .cell v):Inv X (pins++jf fp s.heap) σ H s:=
 I.pins_of fun p hp=>(List.mem_append.mp hp).elim (fun z=>I.pin p (List.mem_append_right _ z)) fun z=>by
  obtain ⟨hb,e⟩:=sJ z
  obtain ⟨f0,f1,f2,_⟩:=hf p.1 hb
  obtain ⟨o,e',d⟩:=ho p.1 hb
  rw [e] at e';cases e'
  exact ⟨e,f0,f1,f2,d⟩
theorem Inv.unpinned {pins pl:List (Addr×Obj)} {σ:St} {H:Hp} {s:Shared} (I:Inv X (pins++pl) σ H s):Inv X pins σ H s:=I.pins_of fun p hp=>I.pin p (List.mem_append_right _ (List.mem_append_left _ hp))
theorem zb {iter:Expr} {body:List Stmt} {wi:TI} {g:TG} {tb:TS} {pos:Pos} (hp:PassesOwn (model X.prog X.w) X.A X.env X.xe) (hc:X.calm=true) (hi:PI X tg iter wi) (hg:PG X tg g) (hb:PSs X body tb)
   (hs:∀ x,foldedSetIterable iter X.env x=pure x:=by intro _;rfl):PS X (.For tg iter body [] pos) (gJ wi g tb):=by
 intro pins s σ H D I h
 refine wpAny_For (thn (hi pins s σ H _ I h) fun v s1 h1=>thn h1 fun itv s2 h2=>?_) hs
 obtain ⟨it,fp,tn,J,H2,e,I2,T,st2,f2,W,⟨m0,w0⟩,turn⟩:=h2
 subst e
 have stat:∀ {H':Hp},(∀ b∈fp,H' b=none)→∀ b∈fp,iS X pins H' b:=fun hn b hb=>⟨hn b hb,(f2 b hb).2⟩
 refine codeAny_forLoop_any (fun n s'=>∃ i σ' H',Inv X pins σ' H' s'∧tn i s'.heap∧(∀ b∈fp,H' b=none)∧W i n σ' H') ?_ m0 ⟨0,σ,H2,I2,st2,fun b hb=>(f2 b hb).1,w0⟩
 rintro n s3 ⟨i,σ3,H3,I3,st3,fr3,w3⟩
 rcases turn i n σ3 H3 w3 with ⟨stop,qn⟩ | ⟨go,N,hN,step⟩
 · refine wpAny_passesOwn hp (thn (T.done X rfl rfl rfl hc i pins s3 σ3 H3 X.xe I3 (stat fr3) st3 stop) fun r s4 ⟨hr,I4⟩=>?_)
   subst hr
   exact wpAny_execs_nil ⟨σ3,H3,I4,qn⟩
 · refine wpAny_passesOwn hp (thn (T.item X rfl rfl rfl hc i pins s3 σ3 H3 X.xe I3 (stat fr3) st3 go) fun r s4 ⟨u,hr,h4⟩=>?_)
   subst hr
   refine wpAny_passesOwn hp (thn h4 fun _ s5 ⟨x,H5,I5,r5,y5,st5,fr5⟩=>?_)
   have I5':=I5.pinned (stat fr5) (T.obj _ _ st5)
   refine wpAny_passesOwn hp (thn (hg _ s5 σ3 H5 x u _ I5' r5 (step x H5 y5)) fun _ s6 ⟨σ6,H6,I6,q6⟩=>?_)
   refine wpAny_passesOwn hp (thn (hb _ s6 σ6 H6 _ I6 q6) fun f s7 q7=>?_)
   have again:∀ {σ7:St} {H7:Hp},Inv X (pins++jf fp s5.heap) σ7 H7 s7→N σ7 H7→∃ m,m<n∧∃ i σ' H',Inv X pins σ' H' s7∧tn i s7.heap∧(∀ b∈fp,H' b=none)∧W i m σ' H':=fun {σ7 H7} I7 n7=>by
    obtain ⟨m',hm,w7⟩:=hN σ7 H7 n7
    refine ⟨m',hm,i+1,σ7,H7,I7.unpinned,T.keep _ _ _ st5 fun b hb o e=>(I7.pin (b,o) (List.mem_append_right _ (List.mem_append_right _ (fN hb e)))).1,fun b hb=>?_,w7⟩
    obtain ⟨o,e,d⟩:=T.obj _ _ st5 b hb
    exact (I7.pin (b,o) (List.mem_append_right _ (List.mem_append_right _ (fN hb e)))).2.1
   cases f with
   | next=>obtain ⟨σ7,H7,I7,n7⟩:=q7;exact again I7 n7
   | cont=>obtain ⟨σ7,H7,I7,n7⟩:=q7;exact again I7 n7
   | brk=>obtain ⟨σ7,H7,I7,q7⟩:=q7;exact ⟨σ7,H7,I7.unpinned,q7⟩
   | ret v=>obtain ⟨x7,σ7,H7,I7,r7,q7⟩:=q7;exact ⟨x7,σ7,H7,I7.unpinned,r7,q7⟩
end
theorem jS {K:W.Frag} {a:Addr} {xs:List V} {g:TG} {tb:TS} {D:fe} {σ:St} {H:Hp} (Pv:Nat→St→Hp→Prop) (h0:Pv 0 σ H) (hl:∀ i σ H,i≤xs.length→Pv i σ H→SqL K H a xs)
   (hs:∀ i x σ H,xs[i]?=some x→Pv i σ H→g x σ H fun σ2 H2=>tb { D with nx:=Pv (i+1),ct:=Pv (i+1),bk:=D.nx } σ2 H2) (hd:∀ σ H,Pv xs.length σ H→D.nx σ H):
   ∃ W:Nat→Nat→St→Hp→Prop,(∃ m,W 0 m σ H)∧∀ i m σ H,W i m σ H→
    ((Itl K a).stop i H∧D.nx σ H)∨((Itl K a).go i H∧∃ N:St→Hp→Prop,(∀ σ' H',N σ' H'→∃ m',m'<m∧W (i+1) m' σ' H')∧∀ x H',(Itl K a).yld i H x H'→g x σ H' fun σ2 H2=>tb { D with nx:=N,ct:=N,bk:=D.nx } σ2 H2):=by
 refine ⟨fun i m σ H=>m=xs.length - i∧i≤xs.length∧Pv i σ H,⟨xs.length,by simp,Nat.zero_le _,h0⟩,?_⟩
 rintro i m σ H ⟨rfl,hi,p⟩
 have q:=hl i σ H hi p
 by_cases hlt:i<xs.length
 · refine .inr ⟨⟨xs,xs[i],q,by simp [hlt]⟩,Pv (i+1),fun σ' H' p'=>⟨xs.length - (i+1),by omega,rfl,hlt,p'⟩,fun x H' y=>?_⟩
   obtain ⟨e,y⟩:=y
   subst e
   exact hs i x σ _ (y xs q) p
 · have e:i=xs.length:=by omega
   subst e
   exact .inl ⟨⟨xs,q,Nat.le_refl _⟩,hd σ H p⟩
theorem pE {K:W.Frag} {a:Addr} {xs:List V} {g:TG} {tb:TS} {D:fe} {σ:St} {H:Hp} (Pv:Nat→St→Hp→Prop) (h0:Pv 0 σ H) (hl:∀ i σ H,i≤xs.length→Pv i σ H→SqT K H a xs)
   (hs:∀ i x σ H,xs[i]?=some x→Pv i σ H→g x σ H fun σ2 H2=>tb { D with nx:=Pv (i+1),ct:=Pv (i+1),bk:=D.nx } σ2 H2) (hd:∀ σ H,Pv xs.length σ H→D.nx σ H):
   ∃ W:Nat→Nat→St→Hp→Prop,(∃ m,W 0 m σ H)∧∀ i m σ H,W i m σ H→
    ((Itt K a).stop i H∧D.nx σ H)∨((Itt K a).go i H∧∃ N:St→Hp→Prop,(∀ σ' H',N σ' H'→∃ m',m'<m∧W (i+1) m' σ' H')∧∀ x H',(Itt K a).yld i H x H'→g x σ H' fun σ2 H2=>tb { D with nx:=N,ct:=N,bk:=D.nx } σ2 H2):=by
 refine ⟨fun i m σ H=>m=xs.length - i∧i≤xs.length∧Pv i σ H,⟨xs.length,by simp,Nat.zero_le _,h0⟩,?_⟩
 rintro i m σ H ⟨rfl,hi,p⟩
 have q:=hl i σ H hi p
 by_cases hlt:i<xs.length
 · refine .inr ⟨⟨xs,xs[i],q,by simp [hlt]⟩,Pv (i+1),fun σ' H' p'=>⟨xs.length - (i+1),by omega,rfl,hlt,p'⟩,fun x H' y=>?_⟩
   obtain ⟨e,y⟩:=y
   subst e
   exact hs i x σ _ (y xs q) p
 · have e:i=xs.length:=by omega
   subst e
   exact .inl ⟨⟨xs,q,Nat.le_refl _⟩,hd σ H p⟩
theorem iX {lo:Int} {n:Nat} {g:TG} {tb:TS} {D:fe} {σ:St} {H:Hp} (Pv:Nat→St→Hp→Prop) (h0:Pv 0 σ H)
   (hs:∀ i σ H,i<n→Pv i σ H→g (.int (lo+i)) σ H fun σ2 H2=>tb { D with nx:=Pv (i+1),ct:=Pv (i+1),bk:=D.nx } σ2 H2) (hd:∀ σ H,Pv n σ H→D.nx σ H):
   ∃ W:Nat→Nat→St→Hp→Prop,(∃ m,W 0 m σ H)∧∀ i m σ H,W i m σ H→
    ((Itr lo n).stop i H∧D.nx σ H)∨((Itr lo n).go i H∧∃ N:St→Hp→Prop,(∀ σ' H',N σ' H'→∃ m',m'<m∧W (i+1) m' σ' H')∧∀ x H',(Itr lo n).yld i H x H'→g x σ H' fun σ2 H2=>tb { D with nx:=N,ct:=N,bk:=D.nx } σ2 H2):=by
 refine ⟨fun i m σ H=>m=n - i∧i≤n∧Pv i σ H,⟨n,by simp,Nat.zero_le _,h0⟩,?_⟩
 rintro i m σ H ⟨rfl,hi,p⟩
 by_cases hlt:i<n
 · refine .inr ⟨hlt,Pv (i+1),fun σ' H' p'=>⟨n - (i+1),by omega,rfl,hlt,p'⟩,fun x H' y=>?_⟩
   obtain ⟨e,y⟩:=y
   subst e y
   exact hs i σ _ hlt p
 · have e:i=n:=by omega
   subst e
   exact .inl ⟨Nat.le_refl _,hd σ H p⟩
abbrev R2:=V→V→Hp→VK→Prop
def OpR (X:Cx) (f:Value→Value→Sem Value) (r:R2):Prop:=
 ∀ (pins:List (Addr×Obj)) (s:Shared) (σ:St) (H:Hp) (x y:V) (v u:Value) (Q:VK),Inv X pins σ H s→br x v→br y u→r x y H Q→
  wpAny (model X.prog X.w) X.A (f v u) (EP X pins σ Q) X.xe s
def UnR (X:Cx) (f:Value→Sem Value) (r:V→Hp→VK→Prop):Prop:=
 ∀ (pins:List (Addr×Obj)) (s:Shared) (σ:St) (H:Hp) (x:V) (v:Value) (Q:VK),Inv X pins σ H s→br x v→r x H Q→
  wpAny (model X.prog X.w) X.A (f v) (EP X pins σ Q) X.xe s
def bU (X:Cx) (f:Value) (r:List V→Hp→VK→Prop):Prop:=
 ∀ (pins:List (Addr×Obj)) (s:Shared) (σ:St) (H:Hp) (xs:List V) (us:List Value) (Q:VK),Inv X pins σ H s→bo xs us→r xs H Q→
  wpAny (model X.prog X.w) X.A (call f us) (EP X pins σ Q) X.xe s
def FE (X:Cx) (r:V→Hp→(Bool→Hp→Prop)→Prop):Prop:=
 ∀ (pins:List (Addr×Obj)) (s:Shared) (σ:St) (H:Hp) (x:V) (v:Value) (Q:Bool→Hp→Prop),Inv X pins σ H s→br x v→r x H Q→
  wpAny (model X.prog X.w) X.A (truthy v) (TP X pins σ Q) X.xe s
def tOp (r:R2) (ta tb:TE):TE:=fun σ H Q=>ta σ H fun x H1=>tb σ H1 fun y H2=>r x y H2 Q
def tUn (r:V→Hp→VK→Prop) (ta:TE):TE:=fun σ H Q=>ta σ H fun x H1=>r x H1 Q
def rI (C:Int→Int→Prop) (g:Int→Int→V):R2:=fun x y H Q=>∃ i j,x=.int i∧y=.int j∧C i j∧Q (g i j) H
def rI0 (g:Int→Int→V):R2:=fun x y H Q=>∃ i j,x=.int i∧y=.int j∧Q (g i j) H
def rU (g:Int→V):V→Hp→VK→Prop:=fun x H Q=>∃ i,x=.int i∧Q (g i) H
section
variable {X:Cx} {a b c:Expr} {ta tb tc:TE} {pos:Pos}
theorem tW (ha:PE X a ta) (hb:PE X b tb) {pins:List (Addr×Obj)} {s:Shared} {σ:St} {H:Hp} {R:V→V→Hp→Prop} (I:Inv X pins σ H s)
  (h:ta σ H fun x H1=>tb σ H1 fun y H2=>R x y H2) {Q:Value→Shared→Prop} {f:Value→Value→Sem Value}
  (hf:∀ v u s2 x y H2,Inv X pins σ H2 s2→br x v→br y u→R x y H2→wpAny (model X.prog X.w) X.A (f v u) Q X.xe s2):
  wpAny (model X.prog X.w) X.A (eval a X.env) (fun v s₁=>wpAny (model X.prog X.w) X.A (eval b X.env) (fun u s₂=>wpAny (model X.prog X.w) X.A (f v u) Q X.xe s₂) X.xe s₁) X.xe s:=by
 refine thn (ha pins s σ H _ I h) fun v s1 ⟨x,H1,I1,r1,q1⟩=>?_
 refine thn (hb pins s1 σ H1 _ I1 q1) fun u s2 ⟨y,H2,I2,r2,q2⟩=>?_
 exact hf v u s2 x y H2 I2 r1 r2 q2
theorem Ct {op:Operator} {r:R2} (ho:OpR X (binaryOp op) r) (ha:PE X a ta) (hb:PE X b tb):PE X (.BinOp a op b pos) (tOp r ta tb):=by
 intro pins s σ H Q I h
 exact wpAny_BinOp (tW ha hb I h fun v u s2 x y H2 I2 rx ry q=>ho pins s2 σ H2 x y v u Q I2 rx ry q)
theorem El {op:UnaryOp} {r:V→Hp→VK→Prop} (ho:UnR X (unaryOp op) r) (ha:PE X a ta):PE X (.UnaryOp op a pos) (tUn r ta):=by
 intro pins s σ H Q I h
 exact UnaryOp_ (thn (ha pins s σ H _ I h) fun v s1 ⟨x,H1,I1,r1,q1⟩=>ho pins s1 σ H1 x v Q I1 r1 q1)
theorem opI {f:Value→Value→Sem Value} {C:Int→Int→Prop} {g:Int→Int→Int}
  (rule:∀ (i j:Int) (t u:Tok) (s:Shared) (Q:Value→Shared→Prop) (E:Value→Shared→Prop),C i j→Q (.int (g i j) s.toks) { s with toks:=s.toks+1 }→wpAny (model X.prog X.w) X.A (f (.int i t) (.int j u)) Q E s):
  OpR X f (rI C fun i j=> .int (g i j)):=by
 intro pins s σ H x y v u Q I rx ry h
 obtain ⟨i,j,rfl,rfl,hc,q⟩:=h
 obtain ⟨t,rfl⟩:=rx
 obtain ⟨t',rfl⟩:=ry
 exact rule i j t t' s _ _ hc ⟨.int (g i j),H,I.tok _,⟨_,rfl⟩,q⟩
theorem qm {f:Value→Value→Sem Value} {g:Int→Int→Int}
  (rule:∀ (i j:Int) (t u:Tok) (s:Shared) (Q:Value→Shared→Prop) (E:Value→Shared→Prop),Q (.int (g i j) s.toks) { s with toks:=s.toks+1 }→wpAny (model X.prog X.w) X.A (f (.int i t) (.int j u)) Q E s):
  OpR X f (rI0 fun i j=> .int (g i j)):=by
 intro pins s σ H x y v u Q I rx ry h
 obtain ⟨i,j,rfl,rfl,q⟩:=h
 obtain ⟨t,rfl⟩:=rx
 obtain ⟨t',rfl⟩:=ry
 exact rule i j t t' s _ _ ⟨.int (g i j),H,I.tok _,⟨_,rfl⟩,q⟩
theorem uj {f:Value→Value→Sem Value} {g:Int→Int→Bool}
  (rule:∀ (i j:Int) (t u:Tok) (s:Shared) (Q:Value→Shared→Prop) (E:Value→Shared→Prop),Q (.bool (g i j)) s→wpAny (model X.prog X.w) X.A (f (.int i t) (.int j u)) Q E s):
  OpR X f (rI0 fun i j=> .bl (g i j)):=by
 intro pins s σ H x y v u Q I rx ry h
 obtain ⟨i,j,rfl,rfl,q⟩:=h
 obtain ⟨t,rfl⟩:=rx
 obtain ⟨t',rfl⟩:=ry
 exact rule i j t t' s _ _ ⟨.bl (g i j),H,I,rfl,q⟩
def yM (i j:Int):Prop:=0≤j∧j≤1000000∧i.natAbs<2^64
theorem rn (k:Nat):(0:Int)≤2^k:=by
 rw [two_pow_cast]
 exact Int.natCast_nonneg _
theorem AM:OpR X (binaryOp .Add) (rI0 fun i j=> .int (i+j)):=qm fun _ _ _ _ _ _ _ q=>add_int q
theorem zG:OpR X (binaryOp .Sub) (rI0 fun i j=> .int (i - j)):=qm fun _ _ _ _ _ _ _ q=>sub_int q
theorem zQ:OpR X (binaryOp .Mod) (rI (fun _ j=>0<j) fun i j=> .int (i%j)):=opI fun i j _ _ _ _ _ hc q=>by
 have h1:(0:Int)<j:=hc
 exact mod_int' (by omega) (by rw [Int.fmod_eq_emod_of_nonneg i (by omega)];exact q)
theorem BF:OpR X (binaryOp .Pow) (rI yM fun i j=> .int (i^j.toNat)):=opI fun _ _ _ _ _ _ _ hc q=>pow_int_small hc.1 hc.2.1 hc.2.2 q
theorem Ak:OpR X (binaryOp .LShift) (rI yM fun i j=> .int (i*2^j.toNat)):=opI fun _ _ _ _ _ _ _ hc q=>lshift_int_small hc.1 hc.2.1 hc.2.2 q
theorem Bc:OpR X (binaryOp .RShift) (rI (fun _ j=>0≤j) fun i j=> .int (i/2^j.toNat)):=opI fun i j _ _ _ _ _ hc q=>
 rshift_int hc (by rw [Int.fdiv_eq_ediv_of_nonneg i (rn _)];exact q)
theorem yZ:OpR X (binaryOp .BitAnd) (rI0 fun i j=> .int (Builtin.bitAnd i j)):=qm fun _ _ _ _ _ _ _ q=>and_int q
theorem yJ:OpR X (binaryOp .BitXor) (rI0 fun i j=> .int (Builtin.bitXor i j)):=qm fun _ _ _ _ _ _ _ q=>xor_int q
theorem unI {f:Value→Sem Value} {g:Int→Int}
  (rule:∀ (i:Int) (t:Tok) (s:Shared) (Q:Value→Shared→Prop) (E:Value→Shared→Prop),Q (.int (g i) s.toks) { s with toks:=s.toks+1 }→wpAny (model X.prog X.w) X.A (f (.int i t)) Q E s):
  UnR X f (rU fun i=> .int (g i)):=by
 intro pins s σ H x v Q I rx h
 obtain ⟨i,rfl,q⟩:=h
 obtain ⟨t,rfl⟩:=rx
 exact rule i t s _ _ ⟨.int (g i),H,I.tok _,⟨_,rfl⟩,q⟩
theorem AR:UnR X (unaryOp .USub) (rU fun i=> .int (-i)):=unI fun _ _ _ _ _ q=>neg_int q
end
def AO:V→V→Bool
 | .non,.non=>true | .non,.int _=>true | .int _,.non=>true | .non,.bl _=>true | .bl _,.non=>true | .non,.str _=>true | .str _,.non=>true
 | .int _,.int _=>true | .bl _,.bl _=>true | .str _,.str _=>true | .byt _,.byt _=>true
 | .int _,.str _=>true | .str _,.int _=>true | .bl _,.str _=>true | .str _,.bl _=>true
 | _,_=>false
def rEq:R2:=fun x y H Q=>AO x y=true∧Q (.bl (decide (x=y))) H
def rNe:R2:=fun x y H Q=>AO x y=true∧Q (.bl (!decide (x=y))) H
theorem pG {i j:Int}:decide (V.int i=V.int j)=(i==j):=by
 rw [Bool.eq_iff_iff]
 simp
theorem sU {i j:Bool}:decide (V.bl i=V.bl j)=(i==j):=by
 rw [Bool.eq_iff_iff]
 simp
theorem pH {i j:Str}:decide (V.str i=V.str j)=(i==j):=by
 rw [Bool.eq_iff_iff]
 simp
theorem oO {i j:Array UInt8}:decide (V.byt i=V.byt j)=(i.toList==j.toList):=by
 rw [Bool.eq_iff_iff]
 cases i
 cases j
 simp
section
variable {X:Cx} {a b c:Expr} {ta tb tc:TE} {pos:Pos}
theorem bB {pins:List (Addr×Obj)} {σ:St} {H:Hp} {s:Shared} {Q:VK} {k k':Bool} (I:Inv X pins σ H s) (q:Q (.bl k) H) (e:k=k'):EP X pins σ Q (.bool k') s:=by
 subst e
 exact ⟨.bl k,H,I,rfl,q⟩
theorem Et : OpR X (compareOp .Eq) rEq := by
  intro pins s σ H x y v u Q I rx ry h
  obtain ⟨hs, q⟩ := h
  cases x with
  | non =>
    cases rx
    cases y with
    | non => cases ry; exact PySem.EqNone.eq_none_none (bB I q (by simp))
    | bl j => cases ry; exact PySem.EqNone.eq_none_bool (bB I q (by simp))
    | int j => obtain ⟨t', rfl⟩ := ry; exact PySem.EqNone.eq_none_int (bB I q (by simp))
    | str j => obtain ⟨t', rfl⟩ := ry; exact PySem.EqNone.eq_none_str (bB I q (by simp))
    | _ => exact absurd (show false = true from hs) Bool.false_ne_true
  | bl i =>
    cases rx
    cases y with
    | non => cases ry; exact PySem.EqNone.eq_bool_none (bB I q (by simp))
    | bl j => cases ry; exact eq_bool (bB I q sU)
    | str j => obtain ⟨t', rfl⟩ := ry; exact PySem.EqMixed.eq_bool_str (bB I q (by simp))
    | _ => exact absurd (show false = true from hs) Bool.false_ne_true
  | int i =>
    obtain ⟨t, rfl⟩ := rx
    cases y with
    | non => cases ry; exact PySem.EqNone.eq_int_none (bB I q (by simp))
    | int j => obtain ⟨t', rfl⟩ := ry; exact eq_int (bB I q pG)
    | str j => obtain ⟨t', rfl⟩ := ry; exact PySem.EqMixed.eq_int_str (bB I q (by simp))
    | _ => exact absurd (show false = true from hs) Bool.false_ne_true
  | str i =>
    obtain ⟨t, rfl⟩ := rx
    cases y with
    | non => cases ry; exact PySem.EqNone.eq_str_none (bB I q (by simp))
    | bl j => cases ry; exact PySem.EqMixed.eq_str_bool (bB I q (by simp))
    | int j => obtain ⟨t', rfl⟩ := ry; exact PySem.EqMixed.eq_str_int (bB I q (by simp))
    | str j => obtain ⟨t', rfl⟩ := ry; exact eq_str (bB I q pH)
    | _ => exact absurd (show false = true from hs) Bool.false_ne_true
  | byt i =>
    obtain ⟨t, rfl⟩ := rx
    cases y with
    | byt j => obtain ⟨t', rfl⟩ := ry; exact W.eq_bytes (bB I q oO)
    | _ => exact absurd (show false = true from hs) Bool.false_ne_true
  | _ => cases y <;> exact absurd (show false = true from hs) Bool.false_ne_true
theorem DG : OpR X (compareOp .NotEq) rNe := by
  intro pins s σ H x y v u Q I rx ry h
  obtain ⟨hs, q⟩ := h
  cases x with
  | non =>
    cases rx
    cases y with
    | non => cases ry; exact PySem.EqNone.ne_none_none (bB I q (by simp))
    | bl j => cases ry; exact PySem.EqNone.ne_none_bool (bB I q (by simp))
    | int j => obtain ⟨t', rfl⟩ := ry; exact PySem.EqNone.ne_none_int (bB I q (by simp))
    | str j => obtain ⟨t', rfl⟩ := ry; exact PySem.EqNone.ne_none_str (bB I q (by simp))
    | _ => exact absurd (show false = true from hs) Bool.false_ne_true
  | bl i =>
    cases rx
    cases y with
    | non => cases ry; exact PySem.EqNone.ne_bool_none (bB I q (by simp))
    | bl j => cases ry; exact ne_bool (bB I q (congrArg not sU))
    | str j => obtain ⟨t', rfl⟩ := ry; exact PySem.EqMixed.ne_bool_str (bB I q (by simp))
    | _ => exact absurd (show false = true from hs) Bool.false_ne_true
  | int i =>
    obtain ⟨t, rfl⟩ := rx
    cases y with
    | non => cases ry; exact PySem.EqNone.ne_int_none (bB I q (by simp))
    | int j => obtain ⟨t', rfl⟩ := ry; exact ne_int (bB I q (congrArg not pG))
    | str j => obtain ⟨t', rfl⟩ := ry; exact PySem.EqMixed.ne_int_str (bB I q (by simp))
    | _ => exact absurd (show false = true from hs) Bool.false_ne_true
  | str i =>
    obtain ⟨t, rfl⟩ := rx
    cases y with
    | non => cases ry; exact PySem.EqNone.ne_str_none (bB I q (by simp))
    | bl j => cases ry; exact PySem.EqMixed.ne_str_bool (bB I q (by simp))
    | int j => obtain ⟨t', rfl⟩ := ry; exact PySem.EqMixed.ne_str_int (bB I q (by simp))
    | str j => obtain ⟨t', rfl⟩ := ry; exact ne_str (bB I q (congrArg not pH))
    | _ => exact absurd (show false = true from hs) Bool.false_ne_true
  | byt i =>
    obtain ⟨t, rfl⟩ := rx
    cases y with
    | byt j => obtain ⟨t', rfl⟩ := ry; exact W.ne_bytes (bB I q (congrArg not oO))
    | _ => exact absurd (show false = true from hs) Bool.false_ne_true
  | _ => cases y <;> exact absurd (show false = true from hs) Bool.false_ne_true
theorem EX:OpR X (compareOp .Lt) (rI0 fun i j=> .bl (decide (i<j))):=uj fun _ _ _ _ _ _ _ q=>lt_int q
theorem CN:OpR X (compareOp .LtE) (rI0 fun i j=> .bl (decide (i≤j))):=uj fun _ _ _ _ _ _ _ q=>le_int q
theorem Fj:OpR X (compareOp .Gt) (rI0 fun i j=> .bl (decide (j<i))):=uj fun _ _ _ _ _ _ _ q=>gt_int q
theorem BH:OpR X (compareOp .Is) (fun x y H Q=>y=.non∧Q (.bl (decide (x=.non))) H):=by
 intro pins s σ H x y v u Q I rx ry h
 obtain ⟨rfl,q⟩:=h
 cases ry
 refine is_none_gen (bB I q ?_)
 cases x <;> first
  | (cases rx;rfl)
  | (obtain ⟨t,rfl⟩:=rx;rfl)
theorem yj:OpR X (compareOp .IsNot) (fun x y H Q=>y=.non∧Q (.bl (!decide (x=.non))) H):=by
 intro pins s σ H x y v u Q I rx ry h
 obtain ⟨rfl,q⟩:=h
 cases ry
 refine isnot_none_gen (bB I q ?_)
 cases x <;> first
  | (cases rx;rfl)
  | (obtain ⟨t,rfl⟩:=rx;rfl)
theorem OpR.or {f:Value→Value→Sem Value} {r r':R2} (h:OpR X f r) (h':OpR X f r'):OpR X f (fun x y H Q=>r x y H Q∨r' x y H Q):=by
 intro pins s σ H x y v u Q I rx ry q
 rcases q with q | q
 · exact h pins s σ H x y v u Q I rx ry q
 · exact h' pins s σ H x y v u Q I rx ry q
theorem ky (b:Expr) {op:CmpOp} (h:op≠ .In:=by decide) (h2:op≠ .NotIn:=by decide):behindInMarks op b=false:=by
 have e1:(op==CmpOp.In)=false:=by cases op <;> first | rfl | exact absurd rfl h
 have e2:(op==CmpOp.NotIn)=false:=by cases op <;> first | rfl | exact absurd rfl h2
 cases b <;> simp [behindInMarks,e1,e2]
theorem yf {op:CmpOp} {r:R2} (ho:OpR X (compareOp op) r) (ha:PE X a ta) (hb:PE X b tb) (hm:behindInMarks op b=false):PE X (.Compare a [op] [b] pos) (tOp r ta tb):=by
 intro pins s σ H Q I h
 exact wpAny_Compare1 (tW ha hb I h fun v u s2 x y H2 I2 rx ry q=>ho pins s2 σ H2 x y v u Q I2 rx ry q) hm
def zA (K:W.Frag) (x:V) (H:Hp) (k:Bool):Prop:=
 match x with
 | .non=>k=false
 | .bl b=>k=b
 | .int i=>k=(i !=0)
 | .str y=>y.length≤sizeLine∧k=((y.length:Int) !=0)
 | .byt y=>y.size≤sizeLine∧k=((y.size:Int) !=0)
 | .ref p=>(∃ xs,SqL K H p xs∧k= !xs.isEmpty)∨(∃ xs,SqT K H p xs∧k= !xs.isEmpty)∨∃ kvs,H p=some (.dK kvs)∧k= !kvs.isEmpty
 | _=>False
theorem pV {κ:Type} {kvs:List (κ×V)} {vs:List (κ×Value)} (r:KV kvs vs):(!vs.isEmpty)= !kvs.isEmpty:=by
 cases r <;> rfl
theorem kx {xs:List V} {its:List Value} (r:bo xs its):(!its.toArray.isEmpty)= !xs.isEmpty:=by
 cases r <;> simp
theorem iR:(sizeLine:Nat)<2^63:=by rw [sizeLine_eq];decide
theorem By : FE X (fun x H Q => ∃ k, zA X.K x H k ∧ Q k H) := by
  intro pins s σ H x v Q I rx h
  obtain ⟨k, e, q⟩ := h
  have hl := iR
  have hs : sizeLine = 16777216 := sizeLine_eq
  cases x with
  | non =>
    cases rx
    have e' : k = false := e
    subst e'
    exact truthy_none ⟨H, I, q⟩
  | bl b =>
    cases rx
    have e' : k = b := e
    subst e'
    exact wpAny_truthy_bool ⟨H, I, q⟩
  | int i =>
    obtain ⟨t, rfl⟩ := rx
    have e' : k = (i != 0) := e
    subst e'
    exact PySem.P.truthy_int ⟨H, I, q⟩
  | str y =>
    obtain ⟨t, rfl⟩ := rx
    obtain ⟨hy, e'⟩ : y.length ≤ sizeLine ∧ k = ((y.length : Int) != 0) := e
    subst e'
    exact PySem.P.truthy_str (by omega) ⟨H, I.tok _, q⟩
  | byt y =>
    obtain ⟨t, rfl⟩ := rx
    obtain ⟨hy, e'⟩ : y.size ≤ sizeLine ∧ k = ((y.size : Int) != 0) := e
    subst e'
    exact W.truthy_bytes (by omega) ⟨H, I.tok _, q⟩
  | ref p =>
    cases rx
    have e' : (∃ xs, SqL X.K H p xs ∧ k = !xs.isEmpty) ∨ (∃ xs, SqT X.K H p xs ∧ k = !xs.isEmpty) ∨ ∃ kvs, H p = some (.dK kvs) ∧ k = !kvs.isEmpty := e
    rcases e' with ⟨xs, hx, e'⟩ | ⟨xs, hx, e'⟩ | ⟨kvs, hx, e'⟩
    · subst e'
      obtain ⟨its, r, pl, hz⟩ := I.list hx
      have hlen := r.length
      exact wpAny_truthy_list pl.isList (by simp only [List.size_toArray]; omega) ⟨H, I.tok _, by rw [kx r]; exact q⟩
    · subst e'
      obtain ⟨its, r, pl, hz⟩ := I.tuple hx
      have hlen := r.length
      exact truthy_tuple pl (by simp only [List.size_toArray]; omega) ⟨H, I.tok _, by rw [kx r]; exact q⟩
    · subst e'
      obtain ⟨hz, hS, vs, r, m⟩ : kvs.length ≤ sizeLine ∧ (p == sysModules) = false ∧ ∃ vs, KV kvs vs ∧ s.heap.DictOf (cY X.prog X.w) p vs := I.hok p _ hx
      have hlen : kvs.length = vs.length := Paired.length r
      exact wpAny_truthy_dict hS m (by omega) ⟨H, I.tok _, by rw [pV r]; exact q⟩
  | _ => exact (show False from e).elim
theorem rz:OpR X (binaryOp .Add) (fun x y H Q=>∃ i j,x=.str i∧y=.str j∧i.length+j.length≤sizeLine∧Q (.str (i++j)) H):=by
 intro pins s σ H x y v u Q I rx ry h
 obtain ⟨i,j,rfl,rfl,hz,q⟩:=h
 obtain ⟨t,rfl⟩:=rx
 obtain ⟨t',rfl⟩:=ry
 exact add_str (fun t' tk=>⟨.str (i++j),H,I.tok _,⟨_,rfl⟩,q⟩) hz
theorem iE {x:V} {us:List Value} (r:bo [x] us):∃ u,us=[u]∧br x u:=by
 cases r with
 | cons r1 r2=>cases r2;exact ⟨_,rfl,r1⟩
theorem mO {x y : V} {us : List Value} (r : bo [x, y] us) : ∃ u w', us = [u, w'] ∧ br x u ∧ br y w' := by
  cases r with
  | cons r1 r2 =>
    cases r2 with
    | cons r3 r4 => cases r4; exact ⟨_, _, rfl, r1, r3⟩
theorem rP (hc:X.calm=true):bU X (.builtin "max") (fun xs H Q=>∃ i j,xs=[.int i,.int j]∧Q (.int (if j>i then j else i)) H):=by
 intro pins s σ H xs us Q I r h
 obtain ⟨i,j,rfl,q⟩:=h
 obtain ⟨u,w',rfl,⟨t,rfl⟩,⟨t',rfl⟩⟩:=mO r
 refine max_two_ints (I.ok.hd hc) fun h' tk k=>⟨_,H,I.kept k,?_,q⟩
 by_cases hj:j>i
 · rw [if_pos hj,if_pos hj];exact ⟨_,rfl⟩
 · rw [if_neg hj,if_neg hj];exact ⟨_,rfl⟩
theorem rL (hc:X.calm=true):bU X (.builtin "min") (fun xs H Q=>∃ i j,xs=[.int i,.int j]∧Q (.int (if j<i then j else i)) H):=by
 intro pins s σ H xs us Q I r h
 obtain ⟨i,j,rfl,q⟩:=h
 obtain ⟨u,w',rfl,⟨t,rfl⟩,⟨t',rfl⟩⟩:=mO r
 refine min_two_ints (I.ok.hd hc) fun h' tk k=>⟨_,H,I.kept k,?_,q⟩
 by_cases hj:j<i
 · rw [if_pos hj,if_pos hj];exact ⟨_,rfl⟩
 · rw [if_neg hj,if_neg hj];exact ⟨_,rfl⟩
theorem nS:bU X (.type "str") (fun xs H Q=>∃ i,xs=[.int i]∧i.natAbs.log2<1920∧Q (.str (toString i)) H):=by
 intro pins s σ H xs us Q I r h
 obtain ⟨i,rfl,hz,q⟩:=h
 obtain ⟨u,rfl,t,rfl⟩:=iE r
 exact PySem.P.str_of_int hz ⟨.str _,H,I.tok _,⟨_,rfl⟩,q⟩
theorem uA:bU X (.builtin "ord") (fun xs H Q=>∃ x,xs=[.str x]∧x.length=1∧Q (.int (x.cps.getD 0 0:Nat)) H):=by
 intro pins s σ H xs us Q I r h
 obtain ⟨x,rfl,hz,q⟩:=h
 obtain ⟨u,rfl,t,rfl⟩:=iE r
 exact ord_of_one hz ⟨.int _,H,I.tok _,⟨_,rfl⟩,q⟩
def FX (K:W.Frag) (x:V) (H:Hp) (n:Nat):Prop:=
 match x with
 | .str y=>y.length≤sizeLine∧n=y.length
 | .byt y=>y.size≤sizeLine∧n=y.size
 | .ref p=>(∃ xs,SqL K H p xs∧n=xs.length)∨∃ xs,SqT K H p xs∧n=xs.length
 | _=>False
theorem jM : bU X (.builtin "len") (fun xs H Q => ∃ x n, xs = [x] ∧ FX X.K x H n ∧ Q (.int n) H) := by
  intro pins s σ H xs us Q I r h
  obtain ⟨x, n, rfl, e, q⟩ := h
  obtain ⟨u, rfl, rx⟩ := iE r
  have hl := iR
  have hs : sizeLine = 16777216 := sizeLine_eq
  cases x with
  | str y =>
    obtain ⟨t, rfl⟩ := rx
    obtain ⟨hy, e'⟩ : y.length ≤ sizeLine ∧ n = y.length := e
    subst e'
    exact len_str (by omega) ⟨.int _, H, I.tok _, ⟨_, rfl⟩, q⟩
  | byt y =>
    obtain ⟨t, rfl⟩ := rx
    obtain ⟨hy, e'⟩ : y.size ≤ sizeLine ∧ n = y.size := e
    subst e'
    exact W.len_bytes (by omega) ⟨.int _, H, I.tok _, ⟨_, rfl⟩, q⟩
  | ref p =>
    cases rx
    have e' : (∃ xs, SqL X.K H p xs ∧ n = xs.length) ∨ ∃ xs, SqT X.K H p xs ∧ n = xs.length := e
    rcases e' with ⟨xs, hx, e'⟩ | ⟨xs, hx, e'⟩
    · subst e'
      obtain ⟨its, r', pl, hz⟩ := I.list hx
      have hlen := r'.length
      exact Calls.call_len_list pl.isList (by simp only [List.size_toArray]; omega) ⟨.int xs.length, H, I.tok _, ⟨_, by simp only [List.size_toArray]; rw [hlen]⟩, q⟩
    · subst e'
      obtain ⟨its, r', pl, hz⟩ := I.tuple hx
      have hlen := r'.length
      exact len_tuple pl (by simp only [List.size_toArray]; omega) ⟨.int xs.length, H, I.tok _, ⟨_, by simp only [List.size_toArray]; rw [hlen]⟩, q⟩
  | _ => exact (show False from e).elim
end
structure ud (h:Heap) (x dx C:Addr) (mA:Str→Option Value):Prop where
 obj:h.get? x=some (W.instObj C dx)
 ns:h.Ns1 dx mA
 ne:dx≠x
theorem lz {h:Heap} {dx:Addr} {mA:Str→Option Value} (n:h.Ns1 dx mA):∃ od,h.get? dx=some od∧∀ name,W.lookIn name od=some (mA name):=by
 obtain ⟨o,es,ep,ho,hd,hk,_,hm⟩:=n
 refine ⟨o,ho,fun name=>?_⟩
 have e:=hm name
 unfold nsFind findBy at e
 rw [← Array.find?_toList] at e
 unfold W.lookIn
 rw [hd]
 dsimp only
 split
 · rename_i y q
   rw [q] at e
   exact congrArg some e
 · rename_i q
   rw [q] at e
   have a:es.toList.any (·.refKey)=false:=by
    rw [List.any_eq_false]
    intro y hy
    obtain ⟨z,t,hkey⟩:=hk y (Array.mem_toList_iff.mp hy)
    simp [DictEntry.refKey,hkey]
   have a':¬ es.toList.any (·.refKey)=true:=by rw [a];exact Bool.false_ne_true
   rw [if_neg a']
   exact congrArg some e
theorem ud.look {h:Heap} {x dx C:Addr} {mA:Str→Option Value} (I:ud h x dx C mA):∃ od,W.InstAt h x (W.instObj C dx) C (some od)∧∀ name,W.lookIn name od=some (mA name):=
 let ⟨od,ho,hl⟩:=lz I.ns
 ⟨od,⟨I.obj,rfl,rfl,ho⟩,hl⟩
def iq (f:Str) (v:V):List (Str×V)→List (Str×V)
 | []=>[(f,v)]
 | (g,x)::r=>if g=f then (g,v)::r else (g,x)::iq f v r
theorem jA (f g : Str) (v : V) : ∀ fs : List (Str × V), (iq f v fs).lookup g = if g = f then some v else fs.lookup g
  | [] => by
    show List.lookup g [(f, v)] = _
    by_cases h : g = f
    · have hb : (g == f) = true := beq_iff_eq.mpr h
      simp only [List.lookup, hb, if_pos h]
    · have hb : (g == f) = false := beq_eq_false_iff_ne.mpr h
      simp only [List.lookup, hb, if_neg h]
  | (k, x) :: r => by
    have ih := jA f g v r
    rw [show iq f v ((k, x) :: r) = (if k = f then (k, v) :: r else (k, x) :: iq f v r) from rfl]
    by_cases hk : k = f
    · rw [if_pos hk]
      by_cases h : g = k
      · have hb : (g == k) = true := beq_iff_eq.mpr h
        simp only [List.lookup, hb, if_pos (h.trans hk)]
      · have hb : (g == k) = false := beq_eq_false_iff_ne.mpr h
        simp only [List.lookup, hb, if_neg (fun e : g = f => h (e.trans hk.symm))]
    · rw [if_neg hk]
      by_cases h : g = k
      · have hb : (g == k) = true := beq_iff_eq.mpr h
        simp only [List.lookup, hb, if_neg (fun e : g = f => hk (h.symm.trans e))]
      · have hb : (g == k) = false := beq_eq_false_iff_ne.mpr h
        simp only [List.lookup, hb]
        exact ih
theorem eu.some_of {v:V} {o:Option Value} (r:eu (some v) o):∃ u,o=some u∧br v u:=by
 cases o with
 | none=>exact (show False from r).elim
 | some u=>exact ⟨u,rfl,r⟩
theorem tm {v:V} {u:Value} (r:br v u):W.handedIn u=true:=by
 cases v with
 | non=>cases (show u=Value.none from r);rfl
 | bl b=>cases (show u=Value.bool b from r);rfl
 | int i=>obtain ⟨t,e⟩:=(show ∃ t,u=Value.int i t from r);cases e;rfl
 | str x=>obtain ⟨t,e⟩:=(show ∃ t,u=Value.str x t from r);cases e;rfl
 | byt b=>obtain ⟨t,e⟩:=(show ∃ t,u=Value.bytes b t from r);cases e;rfl
 | flt b=>obtain ⟨t,e⟩:=(show ∃ t,u=Value.float b t from r);cases e;rfl
 | ref a=>cases (show u=Value.ref a from r);rfl
 | ty n=>cases (show u=Value.type n from r);rfl
section
variable {P:Program} {w:World} {H H':Hp} {h h':Heap} {a C dx:Addr} {fs fs':List (Str×V)}
theorem yx (hok:HOk P w H h) (e:H a=some (.ins C dx fs)):∃ mA,ud h a dx C mA∧(∀ f,eu (fs.lookup f) (mA f))∧PySem.Within mA (fs.map (·.1))∧fs.length≤1000∧H dx=some (.own a):=by
 obtain ⟨d,z,ne,ob,mA,n,r,q⟩:=(show bu P w H h a (.ins C dx fs) from hok a _ e)
 exact ⟨mA,⟨ob,n,ne⟩,r,q,z,d⟩
end
structure Cls (K:W.Frag) (C:Addr):Prop where
 pg:W.plainGet K C Str.empty=true
 hd:W.hasDictIn K C=true
 po:W.plainOver K C=true
 sa:W.findIn K (.ref C) "__setattr__" =some (some (.builtin "object.__setattr__"))
theorem Cls.get {K:W.Frag} {C:Addr} (c:Cls K C) (f:Str):W.plainGet K C f=true:=c.pg
section
variable {X:Cx} {pins:List (Addr×Obj)} {σ:St} {H:Hp} {s:Shared} {a C dx:Addr} {fs:List (Str×V)} {f:Str} {v:V} {A:Around} {E:Value→Shared→Prop}
theorem yg {prog:Program} {w:World} {env:Env} {e:Expr} {f:Str} {pos:Pos} {s:Shared} {Q:Value→Shared→Prop} (hb:attributeBase e f env (eval e env)=eval e env)
  (h:wpAny (model prog w) A (eval e env) (fun o s₁=>wpAny (model prog w) A (getAttr o f true) Q E s₁) E s):wpAny (model prog w) A (eval (.Attribute e f pos) env) Q E s:=
 Attribute_any_ h (by rw [arm_eval_Attribute,hb])
end
section
variable {X:Cx} {pins:List (Addr×Obj)} {σ:St} {H:Hp} {s:Shared} {A:Around} {E:Value→Shared→Prop} {Q:Value→Shared→Prop} {c:Value} {b:Bool}
inductive fc (K:W.Frag) (H:Hp):V→Value→Prop where
 | non:fc K H .non (.type "NoneType")
 | bl (x:Bool):fc K H (.bl x) (.type "bool")
 | int (i:Int):fc K H (.int i) (.type "int")
 | str (x:Str):fc K H (.str x) (.type "str")
 | flt (x:UInt64):fc K H (.flt x) (.type "float")
 | lst {a:Addr} {xs:List V} (e:H a=some (.lst xs)):fc K H (.ref a) (.type "list")
 | frz {a:Addr} {o:Obj} {xs:List V} (e:H a=some (.frz o (.lst xs))):fc K H (.ref a) (.type "list")
 | tup {a:Addr} {xs:List V} (e:H a=some (.tup xs)):fc K H (.ref a) (.type "tuple")
 | dK {a:Addr} {kvs:List (Key×V)} (e:H a=some (.dK kvs)):fc K H (.ref a) (.type "dict")
 | dT {a:Addr} {kvs:List (List Key×V)} (e:H a=some (.dT kvs)):fc K H (.ref a) (.type "dict")
 | ins {a C dx:Addr} {fs:List (Str×V)} (e:H a=some (.ins C dx fs)) (cl:Cls K C) (ha:W.findIn K (.ref C) "__class__" =some (some (.builtin "object.__class__")))
  (hn:W.specialIn K (.builtin "object.__class__") "__get__" =some (some (.builtin "getset_descriptor.__get__"))) (htk:W.takesIn K (.builtin "object.__class__")=some true)
  (hm:W.mroIn K C (.type "object")=some true):fc K H (.ref a) (.ref C)
theorem sS {x : V} {u t : Value} (I : Inv X pins σ H s) (rx : br x u) (ty : fc X.K H x t) (e : W.kitOne X.K t c = some b) (h : ∀ tk, Q (.bool b) { s with toks := tk }) :
    wpAny (model X.prog X.w) A (call (.builtin "isinstance") [u, c]) Q E s := by
  cases ty with
  | non => cases (show u = Value.none from rx); exact W.kia_one W.kitx_none I.kIn True.intro e (fun z => nomatch z) h
  | bl y => cases (show u = Value.bool y from rx); exact W.kia_one W.kitx_bool I.kIn True.intro e (fun z => nomatch z) h
  | int i => obtain ⟨t, q⟩ := (show ∃ t, u = Value.int i t from rx); cases q; exact W.kia_one W.kitx_int I.kIn True.intro e (fun z => nomatch z) h
  | str y => obtain ⟨t, q⟩ := (show ∃ t, u = Value.str y t from rx); cases q; exact W.kia_one W.kitx_str I.kIn True.intro e (fun z => nomatch z) h
  | flt y => obtain ⟨t, q⟩ := (show ∃ t, u = Value.float y t from rx); cases q; exact W.kia_one W.kitx_float I.kIn True.intro e (fun z => nomatch z) h
  | @lst a xs ea =>
    cases (show u = Value.ref a from rx)
    obtain ⟨_, _, n, _, h1⟩ := (show bu X.prog X.w H s.heap a (.lst xs) from I.hok a _ ea)
    exact W.kia_one W.kitx_list I.kIn ⟨_, h1, rfl⟩ e (fun z => nomatch z) h
  | @frz a ob xs ea =>
    cases (show u = Value.ref a from rx)
    obtain ⟨_, _, _, n, _, h1⟩ := (show bu X.prog X.w H s.heap a (.frz ob (.lst xs)) from I.hok a _ ea)
    exact W.kia_one W.kitx_list I.kIn ⟨_, h1, rfl⟩ e (fun z => nomatch z) h
  | @tup a xs ea =>
    cases (show u = Value.ref a from rx)
    obtain ⟨_, _, _, p⟩ := (show bu X.prog X.w H s.heap a (.tup xs) from I.hok a _ ea)
    obtain ⟨o, h1, h2, _⟩ := p
    exact W.kia_one W.kitx_tuple I.kIn ⟨o, h1, h2⟩ e (fun z => nomatch z) h
  | @dK a kvs ea =>
    cases (show u = Value.ref a from rx)
    obtain ⟨_, _, vs, _, p⟩ := (show bu X.prog X.w H s.heap a (.dK kvs) from I.hok a _ ea)
    obtain ⟨o, es, ep, h1, h2, _⟩ := p
    exact W.kia_one W.kitx_dict I.kIn ⟨o, h1, h2.1⟩ e (fun z => nomatch z) h
  | @dT a kvs ea =>
    cases (show u = Value.ref a from rx)
    obtain ⟨_, _, xs, _, o, es, ep, h1, h2, _⟩ := (show bu X.prog X.w H s.heap a (.dT kvs) from I.hok a _ ea)
    exact W.kia_one W.kitx_dict I.kIn ⟨o, h1, h2.1⟩ e (fun z => nomatch z) h
  | @ins a C dx fs ea cl ha hn htk hm =>
    cases (show u = Value.ref a from rx)
    obtain ⟨mA, O, _⟩ := yx I.hok ea
    obtain ⟨od, J, _⟩ := O.look
    exact W.kia_one (W.kitx_own (cl.get _) cl.hd ha hn htk hm) I.kIn J e (fun z => nomatch z) h
end
structure bE (k:Nat) (A:Around):Prop where
 hd:A.handled=none
 dp:A.depth+3*k+5<recursionLimit
 un:A.units+16*k+200<cLine
theorem bE.mono {j k:Nat} {A:Around} (r:bE k A) (h:j≤k):bE j A:=⟨r.hd,by have:=r.dp;omega,by have:=r.un;omega⟩
theorem bE.deeper {k:Nat} {A:Around} (r:bE (k+1) A) (env:Env):bE k (A.deeper env):=
 ⟨r.hd,by have:=r.dp;show A.depth+1+3*k+5<_;omega,by have:=r.un;show A.units+3+16*k+200<_;omega⟩
theorem rD {A:Around} {C:Addr} {us:List Value} {kw:List (Str×Value)}:(A.under (.builtin "type.__call__" ⟨.ref C::us,kw⟩)).depth=A.depth+1:=by
 first | rfl | simp [Around.under,Code.weight,Code.isCreation,Code.isGuard,Code.isCaller,Code.frames,Code.isFrame,guardIds]
theorem re {A:Around} {C:Addr} {us:List Value} {kw:List (Str×Value)}:(A.under (.builtin "type.__call__" ⟨.ref C::us,kw⟩)).units=A.units+1:=by
 first | rfl | simp [Around.under,Code.cUnits,Code.frames,Code.isFrame]
theorem bE.make {k:Nat} {A:Around} (r:bE (k+1) A) (C:Addr) (us:List Value) (kw:List (Str×Value)):bE k (A.under (.builtin "type.__call__" ⟨.ref C::us,kw⟩)):=
 ⟨r.hd,by have:=r.dp;rw [rD];omega,by have:=r.un;rw [re];omega⟩
theorem bE.depth {k:Nat} {A:Around} (r:bE k A):A.depth<recursionLimit:=by have:=r.dp;omega
def aj:TA:=fun _ H Q=>Q [] H
def aa (ta:TE) (tr:TA):TA:=fun σ H Q=>ta σ H fun x H1=>tr σ H1 fun xs H2=>Q (x::xs) H2
section
variable {X:Cx} {e:Expr} {es:List Expr} {te:TE} {t:TA} {pos:Pos}
theorem BP:PA X [] aj:=fun _ _ _ _ H Q I h=>Calls.spliced_nil ⟨[],H,I,.nil,h⟩
theorem yh (ha:PE X e te) (hr:PA X es t) (hs:starEach (e::es) X.env=(false,eval e X.env)::starEach es X.env:=by rfl):PA X (e::es) (aa te t):=by
 intro pos pins s σ H Q I h
 rw [hs]
 show wpAny _ _ (spliced ((false,eval e X.env)::backTo pos (starEach es X.env))) _ _ s
 refine Calls.spliced_cons (thn (ha pins s σ H _ I h) fun u s1 ⟨x,H1,I1,r1,q1⟩=>?_)
 exact thn (hr pos pins s1 σ H1 _ I1 q1) fun us s2 ⟨xs,H2,I2,r2,q2⟩=>⟨x::xs,H2,I2,.cons r1 r2,q2⟩
def aE (t:TA):TE:=fun σ H Q=>t σ H fun xs H1=>xs.length≤sizeLine∧∀ p,H1 p=none→Q (.ref p) (upd H1 p (.tup xs))
def bq (t:TA):TE:=fun σ H Q=>t σ H fun xs H1=>xs.length≤sizeLine∧∀ p,H1 p=none→Q (.ref p) (upd H1 p (.lst xs))
theorem zm {x1} (h:PA X es t):PE X (.Tuple es x1 pos) (aE t):=by
 intro pins s σ H Q I hq
 refine wpAny_Tuple_spliced (thn (h pos pins s σ H _ I hq) fun us s1 ⟨xs,H1,I1,r,z,q⟩=>⟨by rw [← r.length];exact z,?_⟩)
 have hf:H1 s1.heap.objs.size=none:=I1.hok.fresh (Nat.le_refl _)
 refine ⟨.ref s1.heap.objs.size,upd H1 s1.heap.objs.size (.tup xs),I1.laid (t':=s1.toks) (fun b u e=>Heap.get?_push_of_some _ e) (Nat.le_refl _) ?_,rfl,q _ hf⟩
 exact ⟨z,us,r,⟨_,Heap.get?_push_size _ rfl,rfl,_,rfl⟩⟩
theorem AF (h:PA X es t):PE X (.List es pos) (bq t):=by
 intro pins s σ H Q I hq
 refine wpAny_List_spliced (thn (h pos pins s σ H _ I hq) fun us s1 ⟨xs,H1,I1,r,z,q⟩=>⟨by rw [← r.length];exact z,?_⟩)
 have hf:H1 s1.heap.objs.size=none:=I1.hok.fresh (Nat.le_refl _)
 refine ⟨.ref s1.heap.objs.size,upd H1 s1.heap.objs.size (.lst xs),I1.laid (t':=s1.toks) (fun b u e=>Heap.get?_push_of_some _ e) (Nat.le_refl _) ?_,rfl,q _ hf⟩
 exact ⟨z,us,0,r,Heap.get?_push_size _ rfl⟩
end
abbrev Sp:=List V→Hp→VK→XK→Prop
abbrev CXT:=List Env→Hp→Shared→XK→Value→Shared→Prop
structure iD (P:Program) (w:World) (K:W.Frag) (mg:Str→Option Value) (base:Heap) (A:Around) (outer:List Env) (s:Shared) (H:Hp):Prop where
 frames:A.frames=some outer
 mod:Mod K mg base
 bs:∀ b o,base.get? b=some o→s.heap.get? b=some o∧H b=none
 bsz:base.objs.size≤s.heap.objs.size
 funs:s.heap.FunFrames base outer
 frf:∀ b∈frs outer,H b=none
 hok:HOk P w H s.heap
 bare:AllBare s.gens
def CE (outer:List Env) (P:Program) (w:World) (H:Hp) (s:Shared) (Q:VK) (u:Value) (s':Shared):Prop:=
 ∃ v H',s'.os=s.os∧AllBare s'.gens∧Un (frs outer) [] H H' s.heap s'.heap∧HOk P w H' s'.heap∧br v u∧Q v H'
def CR (CX:CXT) (outer:List Env) (P:Program) (w:World) (H:Hp) (s:Shared) (Q:VK) (E:XK) (r:Result) (s':Shared):Prop:=
 match r with
 | .ok (.ret u)=>CE outer P w H s Q u s'
 | .ok _=>False
 | .error e=>CX outer H s E e s'
structure bg (P:Program) (w:World) (K:W.Frag) (mg:Str→Option Value) (base:Heap) (CX:CXT) (k:Nat) (f:Addr) (fd:FuncData) (ps:List Str) (sp:Sp):Prop where
 len:∀ vs H Q E,sp vs H Q E→vs.length=ps.length
 run:∀ (A:Around) (outer:List Env) (s:Shared) (H:Hp) (args:Args) (us:List Value) (vs:List V) (Q:VK) (E:XK),bE k A→iD P w K mg base A outer s H→BindsTo s fd args (ps.zip us)→bo vs us→sp vs H Q E→
  codeAny (model P w) A (.call (.ref f) args) (CR CX outer P w H s Q E) s
theorem iD.make {P:Program} {w:World} {K:W.Frag} {mg:Str→Option Value} {base:Heap} {A:Around} {outer:List Env} {s:Shared} {H:Hp} (e:iD P w K mg base A outer s H) (C:Addr) (us:List Value) (kw:List (Str×Value)):
 iD P w K mg base (A.under (.builtin "type.__call__" ⟨.ref C::us,kw⟩)) outer s H:=⟨by first | exact e.frames | (simpa [Around.under,Code.envs,Code.isFrame,pushEnvs] using e.frames),e.mod,e.bs,e.bsz,e.funs,e.frf,e.hok,e.bare⟩
section
variable {X:Cx} {pins:List (Addr×Obj)} {σ:St} {H:Hp} {s s':Shared}
theorem Inv.env0 (I:Inv X pins σ H s):iD X.prog X.w X.K X.mg X.base X.A X.stack s H:=
 ⟨I.ok.frames,I.ok.mod,I.bs,Nat.le_trans I.ok.bsz I.sz,I.stack,I.stkFree,I.hok,I.bare⟩
theorem Inv.after {Q:VK} {u:Value} (I:Inv X pins σ H s) (h:CE X.stack X.prog X.w H s Q u s'):EP X pins σ Q u s':=by
 obtain ⟨v,H',os,bare,un,hok,r,q⟩:=h
 obtain ⟨hh,g,d,t,os'⟩:=s'
 obtain rfl:os'=s.os:=os
 exact ⟨v,H',I.call (h':=hh) (g':=g) (d':=d) (t':=t) (ch:=[]) un hok bare (fun b z=>absurd z (by simp)),r,q⟩
end
def dc (K:W.Frag) (fd:FuncData) (ps:List Str) (ds:List Value):Prop:=
 ∀ (s:Shared) (us:List Value),K.In s.heap→(us++ds).length=ps.length→BindsTo s fd ⟨us,[]⟩ (ps.zip (us++ds))
theorem dc.all {K:W.Frag} {fd:FuncData} {ps:List Str} (h:∀ us:List Value,us.length=ps.length→bindArgs fd ⟨us,[]⟩=pure (ps.zip us)):dc K fd ps []:=fun s us _ hl=>by
 rw [List.append_nil] at hl ⊢
 exact .of_eq (h us hl)
def PK (X:Cx) (kws:List Keyword) (t:TA):Prop:=
 ∀ (pos:Pos) (pins:List (Addr×Obj)) (s:Shared) (σ:St) (H:Hp) (Q:List V→Hp→Prop),Inv X pins σ H s→t σ H Q→wpAny (model X.prog X.w) X.A (evalAll ((backToKw pos (keywordEach kws X.env)).map (·.2))) (AP X pins σ Q) X.xe s
structure aL (N P:List Str) (sc:Scope):Prop where
 kind:sc.kind=.function
 co:sc.isCoroutine=false
 gen:sc.isGenerator=false
 nd:N.Nodup
 pre:N.take P.length=P
 par:∀ x∈P,sc.names.lookup x=some .local∨sc.names.lookup x=some .cell
 nofree:∀ y∈sc.names,y.2≠ .free
theorem lP {kindOf : Str → Option NameKind} {x : Str} : ∀ {binds : List (Str × Value)} {m : Str → Option Value}, (∀ v, (x, v) ∉ binds) → bindL kindOf binds m x = m x
  | [], _, _ => rfl
  | (n, v) :: r, m, h => by
    unfold bindL
    rw [lP fun w hw => h w (List.mem_cons_of_mem _ hw)]
    split
    · have : x ≠ n := by rintro rfl; exact h v List.mem_cons_self
      simp [this]
    · rfl
theorem lM {kindOf : Str → Option NameKind} {x : Str} : ∀ {binds : List (Str × Value)} {m : Str → Option Value}, (∀ v, (x, v) ∉ binds) → bindC kindOf binds m x = m x
  | [], _, _ => rfl
  | (n, v) :: r, m, h => by
    unfold bindC
    rw [lM fun w hw => h w (List.mem_cons_of_mem _ hw)]
    split
    · rfl
    · have : x ≠ n := by rintro rfl; exact h v List.mem_cons_self
      simp [this]
theorem lH {kindOf : Str → Option NameKind} {x : Str} {v : Value} : ∀ {P : List Str} {vs : List Value} {i : Nat} {m : Str → Option Value}, P.Nodup → P[i]? = some x → vs[i]? = some v → kindOf x = some .local →
    bindL kindOf (P.zip vs) m x = some v
  | [], _, _, _, _, h, _, _ => by simp at h
  | _ :: _, [], _, _, _, _, h, _ => by simp at h
  | p :: P, w :: vs, 0, m, nd, h1, h2, hk => by
    simp at h1 h2; subst h1; subst h2
    show bindL kindOf ((p, w) :: P.zip vs) m p = _
    unfold bindL
    rw [lP fun v hv => (List.nodup_cons.mp nd).1 (List.of_mem_zip hv).1, if_pos hk]
    simp
  | p :: P, w :: vs, i + 1, m, nd, h1, h2, hk => by
    show bindL kindOf ((p, w) :: P.zip vs) m x = _
    unfold bindL
    exact lH (i := i) (List.nodup_cons.mp nd).2 (by simpa using h1) (by simpa using h2) hk
theorem lJ {kindOf : Str → Option NameKind} {x : Str} {v : Value} : ∀ {P : List Str} {vs : List Value} {i : Nat} {m : Str → Option Value}, P.Nodup → P[i]? = some x → vs[i]? = some v → kindOf x ≠ some .local →
    bindC kindOf (P.zip vs) m x = some v
  | [], _, _, _, _, h, _, _ => by simp at h
  | _ :: _, [], _, _, _, _, h, _ => by simp at h
  | p :: P, w :: vs, 0, m, nd, h1, h2, hk => by
    simp at h1 h2; subst h1; subst h2
    show bindC kindOf ((p, w) :: P.zip vs) m p = _
    unfold bindC
    rw [lM fun v hv => (List.nodup_cons.mp nd).1 (List.of_mem_zip hv).1, if_neg hk]
    simp
  | p :: P, w :: vs, i + 1, m, nd, h1, h2, hk => by
    show bindC kindOf ((p, w) :: P.zip vs) m x = _
    unfold bindC
    exact lJ (i := i) (List.nodup_cons.mp nd).2 (by simpa using h1) (by simpa using h2) hk
def cq (N:List Str) (vs:List V):St:=vs.map some++List.replicate (N.length - vs.length) none
def cS (CX:CXT) (P:Program) (w:World) (K:W.Frag) (mg:Str→Option Value) (base:Heap) (N:List Str) (qual:Str) (scope:Scope) (f:Addr) (cd:Value) (A:Around) (outer:List Env) (s:Shared) (H:Hp) (E:XK):Cx where
 prog:=P
 w:=w
 K:=K
 mg:=mg
 base:=base
 A:=A.deeper (envOfC qual scope s.heap.objs.size f cd)
 N:=N
 s₀:=s
 H₀:=H
 env:=envOfC qual scope s.heap.objs.size f cd
 outer:=outer
 stack:=envOfC qual scope s.heap.objs.size f cd::outer
 ex:=[]
 calm:=true
 fn:=fun _=>true
 pn:=[]
 xe:=fun e s'=>wpAny (model P w) (A.deeper (envOfC qual scope s.heap.objs.size f cd)) (leaving (envOfC qual scope s.heap.objs.size f cd) e) (fun _ s''=>CX outer H s E e s'') (fun e' s''=>CX outer H s E e' s'') s'
theorem og {sc:Scope} {n:Nat} {x:Str} (h:sc.names.lookup x=some .cell):∃ c,(cellsFrom n sc.names []).lookup x=some c:=by
 have q:=W.cellsFrom_some sc.names n [] (.inl h)
 exact Option.isSome_iff_exists.mp q
theorem lK {CX:CXT} {P:Program} {w:World} {K:W.Frag} {mg:Str→Option Value} {base:Heap} {N ps:List Str} {qual:Str} {scope:Scope} {f:Addr} {cd:Value} {A:Around} {outer:List Env} {s s1:Shared} {H:Hp} {E:XK} {us:List Value} {vs:List V}
   (S:aL N ps scope) (hd:A.handled=none) (e0:iD P w K mg base A outer s H) (hl:vs.length=ps.length) (r:bo vs us)
   (x:InCallC s s.heap.objs.size (bindL (envOfC qual scope s.heap.objs.size f cd).kindOf (ps.zip us) fun _=>none) (cellsFrom (s.heap.objs.size+1) scope.names []) (bindC (envOfC qual scope s.heap.objs.size f cd).kindOf (ps.zip us) fun _=>none) s1):
   Inv (cS CX P w K mg base N qual scope f cd A outer s H E) [] (cq N vs) H s1:=by
 have hpl:ps.length≤N.length:=by have:=congrArg List.length S.pre;rw [List.length_take] at this;omega
 obtain ⟨h1,tk,rfl,hk⟩:=x.done
 have noA:∀ b:Addr,b∉(cS CX P w K mg base N qual scope f cd A outer s H E).ex:=fun b z=>absurd (show b∈([]:List Addr) from z) (by simp)
 refine ⟨⟨e0.mod,S.kind,rfl,rfl,Nat.le_refl _,fun y z c h1 h2=>?_,fun y hy=>?_,fun y c _ h=>?_,fun _=>hd,Around.frames_deeper e0.frames,.inr ⟨rfl,rfl⟩,fun b z=>absurd z (noA b),e0.bs,e0.bsz,fun b _ _=>noA b,fun b z=>absurd z (noA b),e0.funs,e0.frf⟩,
   rfl,e0.bare,Un.kept hk,⟨_,x.toInCall.ns,fun i y v h1 h2 h3=>?_⟩,fun y c h=>⟨_,x.cell y c h⟩,e0.hok.fresh (Nat.le_refl _),fun y c h=>?_,fun p hp=>absurd (show p∈([]:List (Addr×Obj)) from hp) (by simp),e0.hok.kept hk,?_⟩
 · exact name_of_addr x.apart (PySem.mem_of_lookup h1) (PySem.mem_of_lookup h2)
 · have hy:scope.names.lookup y=some .cell∨scope.names.lookup y=some .free:=hy
   rcases hy with hy | hy
   · exact og hy
   · exact absurd rfl (S.nofree _ (PySem.mem_of_lookup hy))
 · exact Nat.le_of_lt (x.above y c (PySem.mem_of_lookup h))
 · have hi:i<vs.length:=by
     unfold cq at h2
     by_cases hi:i<vs.length
     · exact hi
     · rw [List.getElem?_append_right (by simpa using hi)] at h2
       rw [List.getElem?_replicate] at h2
       split at h2 <;> cases h2
   have ha:vs[i]?=some v:=by
     unfold cq at h2
     rw [List.getElem?_append_left (by simpa using hi),List.getElem?_map] at h2
     cases e:vs[i]? with
     | none=>rw [e] at h2;cases h2
     | some a=>rw [e] at h2;cases h2;rfl
   obtain ⟨u,hu,rv⟩:=r.get ha
   have hp:ps[i]?=some y:=by
     rw [← S.pre,List.getElem?_take_of_lt (by omega)];exact h1
   have ndP:ps.Nodup:=by rw [← S.pre];exact S.nd.sublist (List.take_sublist _ _)
   refine ⟨u,rv,?_⟩
   rcases S.par y (List.mem_of_getElem? hp) with k | k
   · exact .inl ⟨k,lH ndP hp hu k⟩
   · obtain ⟨c,e⟩:=og (n:=s.heap.objs.size+1) k
     refine .inr ⟨.inl k,c,e,?_⟩
     have q:=x.cell y c e
     rw [lJ ndP hp hu (by show scope.names.lookup y≠_;rw [k];decide)] at q
     exact q
 · exact e0.hok.fresh (Nat.le_of_lt (x.above y c (PySem.mem_of_lookup h)))
 · unfold cq
   show _=N.length
   rw [List.length_append,List.length_map,List.length_replicate]
   omega
theorem wJ {CX : CXT} {P : Program} {w : World} {K : W.Frag} {mg : Str → Option Value} {base : Heap} {k : Nat} {f : Addr} {name qual : Str} {params : Arguments} {body : List Stmt} {scope : Scope} {dV kV doc pm cdv ct oc : Value} {an od : Option Addr}
    {osl : Array (Option Value)} {N ps : List Str} {sp : Sp} (lk : K.lookup f = some ⟨oc, od, .func (W.fnOf name qual params body scope dV kV doc pm an cdv ct), osl⟩) (hcd : W.codeIn K cdv qual = true) (S : aL N ps scope)
    (len : ∀ vs H Q E, sp vs H Q E → vs.length = ps.length)
    (hbody : ∀ (A : Around) (outer : List Env) (s : Shared) (H : Hp) (vs : List V) (Q : VK) (E : XK), bE k (A.deeper (envOfC qual scope s.heap.objs.size f cdv)) → sp vs H Q E →
      ∃ t, PSs (cS CX P w K mg base N qual scope f cdv A outer s H E) body t ∧ t { nx := fun _ H' => Q .non H', rt := Q } (cq N vs) H) :
    bg P w K mg base CX (k + 1) f (W.fnOf name qual params body scope dV kV doc pm an cdv ct) ps sp := by
  refine ⟨len, fun A outer s H args us vs Q E hr e0 hb r hsp => ?_⟩
  have hl := len _ _ _ _ hsp
  have KX : K.In s.heap := e0.mod.kin.keeps fun b o e => (e0.bs b o e).1
  have lim : s.heap.NoLimit := e0.mod.nolimit.keeps fun b o e => (e0.bs b o e).1
  have hkind : ∀ y ∈ ps.zip us, scope.names.lookup y.1 = some .local ∨ (scope.names.lookup y.1 = some .cell ∧ ((cellsFrom (s.heap.objs.size + 1) scope.names []).lookup y.1).isSome = true) := fun ⟨n, v⟩ hy => by
    rcases S.par n (List.of_mem_zip hy).1 with q | q
    · exact .inl q
    · exact .inr ⟨q, W.cellsFrom_some _ _ _ (.inl q)⟩
  refine codeAny_call_function hr.depth (KX _ _ lk) rfl S.co S.gen rfl (W.codeRec_of KX hcd) (hb _ _ _ _ ?_)
  refine wpAny_newFunctionEnv_cells S.kind hkind fun env he s1 x => ?_
  subst he
  refine ⟨lim.keeps x.toInCall.keep, codeAny_func ?_⟩
  obtain ⟨t, ht, hq⟩ := hbody A outer s H vs Q E (hr.deeper _) hsp
  have I : Inv (cS CX P w K mg base N qual scope f cdv A outer s H E) [] (cq N vs) H s1 := lK S hr.hd e0 hl r x
  refine wpAny_mono (ht [] s1 (cq N vs) H _ I hq) (fun fl s' hs => ?_) fun e s' hs => hs
  have fin : ∀ {σ' : St} {H' : Hp} {v : V} {u : Value}, Inv (cS CX P w K mg base N qual scope f cdv A outer s H E) [] σ' H' s' → br v u → Q v H' → CE outer P w H s Q u s' :=
    fun {σ' H' v u} J rv q => ⟨v, H', J.os, J.bare, J.base, J.hok, rv, q⟩
  cases fl with
  | ret u =>
    obtain ⟨v, σ', H', J, rv, q⟩ := hs
    exact fin J rv q
  | next =>
    obtain ⟨σ', H', J, q⟩ := hs
    exact fin (v := V.non) (u := Value.none) J rfl q
  | brk =>
    obtain ⟨_, _, _, q⟩ := hs
    exact False.elim q
  | cont =>
    obtain ⟨_, _, _, q⟩ := hs
    exact False.elim q
section
variable {X:Cx} {x:Str} {p pos:Pos} {e:Expr} {es:List Expr} {t:TA} {id T:String} {r:List V→Hp→VK→Prop}
def tCB (r:List V→Hp→VK→Prop) (t:TA):TE:=fun σ H Q=>t σ H fun vs H1=>r vs H1 Q
theorem ve (hc:bU X (.builtin id) r) (hg:Gl X x) (hm:X.mg x=none) (hv:bootBuiltins x=some (.builtin id)) (ha:PA X (e::es) t) (hn:x≠ "__name__" :=by decide) (hdb:(x==("__debug__" :Str))=false:=by decide)
  (he:starEach (e::es) X.env=(false,eval e X.env)::starEach es X.env:=by rfl) (hpl:(backTo pos (starEach es X.env)).any (·.1)=false:=by rfl):PE X (.Call (.Name x p) (e::es) [] pos) (tCB r t):=by
 intro pins s σ H Q I h
 refine wpAny_Call_Name_kw (iU I hg hm hv ?_ hn hdb)
 exact PyProof.Rows.callWith_builtin1 (thn (ha pos pins s σ H _ I h) fun us s1 ⟨vs,H1,I1,r1,q1⟩=>hc pins s1 σ H1 vs us Q I1 r1 q1) he hpl
theorem sK (hc:bU X (.type T) r) (hg:Gl X x) (hm:X.mg x=none) (hv:bootBuiltins x=some (.type T)) (ha:PA X (e::es) t) (hn:x≠ "__name__" :=by decide) (hdb:(x==("__debug__" :Str))=false:=by decide)
  (he:starEach (e::es) X.env=(false,eval e X.env)::starEach es X.env:=by rfl) (hpl:(backTo pos (starEach es X.env)).any (·.1)=false:=by rfl):PE X (.Call (.Name x p) (e::es) [] pos) (tCB r t):=by
 intro pins s σ H Q I h
 refine wpAny_Call_Name_kw (iU I hg hm hv ?_ hn hdb)
 exact PyProof.Rows.callWith_type1 (thn (ha pos pins s σ H _ I h) fun us s1 ⟨vs,H1,I1,r1,q1⟩=>hc pins s1 σ H1 vs us Q I1 r1 q1) he hpl
end
end L2
namespace HT
open PySem PyProof.Rows
section
open PySem.SeqAt
open PySem.AutoSeq1 (wpAny_loadPart')
open PySem.MeetsSeq PySem.MeetsSeq2 PySem.MeetsSeq3
end
section
variable {prog:Program} {w:World} {A:Around} {E:Value→Shared→Prop} {s:Shared}
theorem yl {t b:Addr} {vs ws:List Value} {Q:Value→Shared→Prop} (ht:IsTup s.heap t vs.toArray) (hb:IsTup s.heap b ws.toArray) (hv:vs≠[])
   (h1:ws=[]→Q (.ref t) s) (h2:ws≠[]→Q (.ref s.heap.objs.size) { s with heap:=s.heap.push { cls:=.type "tuple",data:=.seq (vs++ws).toArray } })
   (hsz:vs.length+ws.length≤sizeLine):wpAny (model prog w) A (binaryOp .Add (.ref t) (.ref b)) Q E s:=by
 obtain ⟨⟨cls,dd,data,sl⟩,ho,hc,n,hd⟩:=id ht
 obtain ⟨⟨cls2,dd2,data2,sl2⟩,ho2,hc2,n2,hd2⟩:=id hb
 simp only at hc hd hc2 hd2
 subst hc hd hc2 hd2
 have e:vs.toArray++ws.toArray=(vs++ws).toArray:=by simp
 by_cases hw:ws=[]
 · exact concat_meets ⟨_,ho,rfl⟩ ⟨_,ho2,rfl⟩ noFill_tuple_add seq_tuple_add PySem.F.slot_tuple_add PySem.F.entry_tuple_add (PySem.F.args_tuple_add_2 _ _)
    (tuple_addW1 t b vs.toArray ws.toArray n n2 dd dd2 sl sl2 (by simpa using hv) (by simp [hw])) ⟨ho,ho2,h1 hw⟩
 · refine concat_meets ⟨_,ho,rfl⟩ ⟨_,ho2,rfl⟩ noFill_tuple_add seq_tuple_add PySem.F.slot_tuple_add PySem.F.entry_tuple_add (PySem.F.args_tuple_add_2 _ _)
    (tuple_addW2 t b vs.toArray ws.toArray n n2 dd dd2 sl sl2 (by simpa using hv) (by simpa using hw) (by rw [List.size_toArray,List.size_toArray];exact hsz)) ⟨ho,ho2,?_⟩
   rw [e]
   exact h2 hw
def sIx (n d:Nat):Option Int→Nat
 | none=>d
 | some v=>if v<0 then (v+(n:Int)).toNat else min v.toNat n
theorem nI (n d:Nat):sIx n d none=d:=rfl
theorem pF (n d k:Nat):sIx n d (some (k:Int))=min k n:=by
 show (if (k:Int)<0 then ((k:Int)+(n:Int)).toNat else min (k:Int).toNat n)=min k n
 rw [if_neg (by omega),Int.toNat_natCast]
theorem BR (n d : Nat) (hd : d ≤ n) (o : Option Int) : sIx n d o ≤ n := by
  cases o with
  | none => exact hd
  | some v =>
    show (if v < 0 then (v + (n : Int)).toNat else min v.toNat n) ≤ n
    by_cases hv : v < 0
    · rw [if_pos hv]; omega
    · rw [if_neg hv]; exact Nat.min_le_right _ _
theorem oQ (v:Int) (n d:Nat):(if v<0 then max (v+(n:Int)) 0 else min v (n:Int))=((sIx n d (some v):Nat):Int):=by
 show (if v<0 then max (v+(n:Int)) 0 else min v (n:Int))=(((if v<0 then (v+(n:Int)).toNat else min v.toNat n):Nat):Int)
 by_cases hv:v<0
 · simp only [if_pos hv];omega
 · simp only [if_neg hv];omega
theorem qB (lo hi:Option Int) (n:Nat):Builtin.Slice.sliceAdjust lo hi 1 (n:Int)=(((sIx n 0 lo:Nat):Int),((sIx n n hi:Nat):Int)):=by
 have h1:¬ ((1:Int)<0):=by omega
 unfold Builtin.Slice.sliceAdjust
 simp only [h1,if_false]
 refine Prod.ext ?_ ?_
 · cases lo with
   | none=>rfl
   | some v=>exact oQ v n 0
 · cases hi with
   | none=>rfl
   | some v=>exact oQ v n n
theorem qp (i j:Nat):Builtin.Slice.slicePlaces (i:Int) (j:Int) 1=j - i:=by
 unfold Builtin.Slice.slicePlaces
 have h1:(1:Int)>0:=by omega
 simp only [h1,if_true,Int.ediv_one]
 split <;> omega
theorem kc {v:Value} {o:Option Int} {Q:Option Int→Shared→Prop} (p:IsPart v o) (h:Q o s):wpAny (model prog w) A (Builtin.Slice.slicePartIndex v) Q E s:=by
 cases p with
 | none=>exact slicePart_none h
 | int i t=>exact slicePart_int h
theorem gh {sl:Addr} {vl vu:Value} {lo hi:Option Int} {n:Nat} {Q:Int×Int×Nat→Shared→Prop} (hs:s.heap.IsSliceOf sl vl vu .none) (pl:IsPart vl lo) (pu:IsPart vu hi)
  (h:Q (((sIx n 0 lo:Nat):Int),1,sIx n n hi - sIx n 0 lo) s):wpAny (model prog w) A (Builtin.Slice.sliceApplied (.ref sl) (pure (n:Int))) Q E s:=by
 obtain ⟨os,hos,hcs,hds⟩:=id hs
 unfold Builtin.Slice.sliceApplied Builtin.Slice.sliceFields
 refine wpAny_bind (wpAny_bind (wpAny_field hos hds (x:=vl) rfl (wpAny_bind (wpAny_field hos hds (x:=vu) rfl (wpAny_bind (wpAny_field hos hds (x:=.none) rfl (wpAny_pure ?_)))))))
 refine wpAny_bind (slicePart_none ?_)
 show wpAny _ _ (if ((1:Int)==0)=true then _ else _) _ _ s
 rw [if_neg (by decide)]
 refine wpAny_bind (kc pl (wpAny_bind (kc pu (wpAny_bind (wpAny_pure ?_)))))
 show wpAny _ _ (match Builtin.Slice.sliceAdjust lo hi 1 (n:Int) with | (lo,hi)=>pure (lo,(1:Int),Builtin.Slice.slicePlaces lo hi 1)) _ _ s
 rw [qB lo hi n]
 show wpAny _ _ (pure (((sIx n 0 lo:Nat):Int),(1:Int),Builtin.Slice.slicePlaces ((sIx n 0 lo:Nat):Int) ((sIx n n hi:Nat):Int) 1)) _ _ s
 rw [qp]
 exact wpAny_pure h
theorem vd (xs:Array Value) (i k:Nat):((List.range k).filterMap fun (m:Nat)=>xs[((i:Int)+(m:Int)*1).toNat]?).toArray=((xs.toList.drop i).take k).toArray:=by
 have e:(fun (m:Nat)=>xs[((i:Int)+(m:Int)*1).toNat]?)=fun m=>xs[i+m]?:=by
  funext m
  have:((i:Int)+(m:Int)*1).toNat=i+m:=by omega
  rw [this]
 rw [e]
 have:=pick_run xs i k
 rw [List.filterMap_map] at this
 have e2:((fun x=>xs[x]?)∘fun x=>i+x)=fun m=>xs[i+m]?:=rfl
 rw [e2] at this
 rw [this]
theorem jz {t sl:Addr} {items:Array Value} {vl vu:Value} {lo hi:Option Int} {Q:Value→Shared→Prop} (ht:IsTup s.heap t items) (hs:s.heap.IsSliceOf sl vl vu .none) (pl:IsPart vl lo) (pu:IsPart vu hi)
  (hw:¬ (sIx items.size 0 lo=0∧sIx items.size items.size hi=items.size))
  (h:Q (.ref s.heap.objs.size) { s with heap:=s.heap.push { cls:=.type "tuple",data:=.seq ((items.toList.drop (sIx items.size 0 lo)).take (sIx items.size items.size hi - sIx items.size 0 lo)).toArray } })
  (hsz:items.size≤sizeLine):wpAny (model prog w) A (getItem (.ref t) (.ref sl)) Q E s:=by
 have htake:sizeOk (.seq ((items.toList.drop (sIx items.size 0 lo)).take (sIx items.size items.size hi - sIx items.size 0 lo)).toArray):=by
  show ((items.toList.drop (sIx items.size 0 lo)).take (sIx items.size items.size hi - sIx items.size 0 lo)).toArray.size≤sizeLine
  rw [List.size_toArray,List.length_take,List.length_drop,Array.length_toList]
  omega
 have hj:sIx items.size items.size hi≤items.size:=BR _ _ (Nat.le_refl _) hi
 obtain ⟨os,hos,hcs,hds⟩:=id hs
 have hTs:s.TypeIs (.ref sl) "slice" :=⟨os,hos,hcs⟩
 unfold getItem
 try with_reducible refine wpAny_holding ?_
 first | refine wpAny_bind (wpAny_pure ?_) | skip
 refine wpAny_bind (wpAny_sequenceKey ht.typeIs (by decide) ?_)
 refine wpAny_bind (wpAny_callSpecial?_slot (name:=Str.ofString "__getitem__") ht.typeIs PyProof.Rows.slot_tuple_getitem
  (wpAny_call_entry PyProof.Rows.slot_tuple_getitem ht.typeIs entry_tuple_getitem ?_ (args_tuple_getitem _ _)))
 show wpAny _ _ (Builtin.Tuple.tupleItemsOf (.ref t)>>=_) _ _ s
 refine wpAny_bind (tupleItemsOf_ ht ?_)
 refine wpAny_bind (wpAny_typeOf hTs ?_)
 rw [if_pos (by decide)]
 refine wpAny_bind (gh hs pl pu ?_)
 have hno:¬ ((((sIx items.size 0 lo:Nat):Int)==0&&(1:Int)==1&&(sIx items.size items.size hi - sIx items.size 0 lo)==items.size)=true):=by
  intro q
  rw [Bool.and_eq_true,Bool.and_eq_true] at q
  have q1:((sIx items.size 0 lo:Nat):Int)=0:=eq_of_beq q.1.1
  have q2:sIx items.size items.size hi - sIx items.size 0 lo=items.size:=eq_of_beq q.2
  exact hw ⟨by omega,by omega⟩
 show wpAny _ _ (if (((sIx items.size 0 lo:Nat):Int)==0&&(1:Int)==1&&(sIx items.size items.size hi - sIx items.size 0 lo)==items.size)=true then _ else _) _ _ s
 rw [if_neg hno,vd]
 first
  | exact wpAny_bind (m:=Builtin.Tuple.tupleExact _) (wpAny_newObj_type (wpAny_pure ⟨_,rfl,wpAny_pure h⟩) htake)
  | exact wpAny_bind (m:=Builtin.Tuple.tupleExact _) (wpAny_newObj_type (wpAny_bind (wpAny_pure (wpAny_pure ⟨_,rfl,wpAny_pure h⟩))) htake)
  | exact wpAny_bind (wpAny_bind (m:=Builtin.Tuple.tupleExact _) (wpAny_newObj_type (wpAny_pure (wpAny_pure ⟨_,rfl,wpAny_pure h⟩)) htake))
  | exact wpAny_bind (wpAny_bind (m:=Builtin.Tuple.tupleExact _) (wpAny_newObj_type (wpAny_pure ⟨_,rfl,wpAny_pure h⟩) htake))
end
end HT
namespace L2
open PySem PySem.Spec PyProof.Rows
abbrev TO:=St→Hp→(Option Int→Hp→Prop)→Prop
def PO (X:Cx) (e:Option Expr) (t:TO):Prop:=
 ∀ (pins:List (Addr×Obj)) (s:Shared) (σ:St) (H:Hp) (Q:Option Int→Hp→Prop),Inv X pins σ H s→t σ H Q→
  wpAny (model X.prog X.w) X.A (evalPart e X.env) (fun u s'=>∃ o H',Inv X pins σ H' s'∧IsPart u o∧Q o H') X.xe s
def dX:TO:=fun _ H Q=>Q none H
def eT (t:TE):TO:=fun σ H Q=>t σ H fun x H1=>∃ i,x=.int i∧Q (some i) H1
section
variable {X:Cx} {e:Expr} {te:TE} {lo hi:Option Expr} {tl th:TO} {pos p2:Pos}
theorem yk:PO X none dX:=by
 intro pins s σ H Q I h
 rw [evalPart_none]
 exact wpAny_pure ⟨none,H,I,.none,h⟩
theorem xZ (h:PE X e te):PO X (some e) (eT te):=by
 intro pins s σ H Q I hw
 rw [evalPart_some]
 refine thn (h pins s σ H _ I hw) fun u s1 ⟨x,H1,I1,r1,q1⟩=>?_
 obtain ⟨i,rfl,q⟩:=q1
 obtain ⟨t,rfl⟩:=r1
 exact ⟨some i,H1,I1,.int i t,q⟩
def SlR (X:Cx) (r:V→Option Int→Option Int→Hp→VK→Prop):Prop:=
 ∀ (pins:List (Addr×Obj)) (s:Shared) (σ:St) (H:Hp) (x:V) (v vl vu:Value) (lo hi:Option Int) (sl:Addr) (Q:VK),Inv X pins σ H s→br x v→s.heap.IsSliceOf sl vl vu .none→IsPart vl lo→IsPart vu hi→r x lo hi H Q→
  ∃ T id,typeLookup (.type T) "__getitem__" =pure (some (.builtin id))∧s.TypeIs v T∧wpAny (model X.prog X.w) X.A (getItem v (.ref sl)) (EP X pins σ Q) X.xe s
theorem SlR.or {r r':V→Option Int→Option Int→Hp→VK→Prop} (h:SlR X r) (h':SlR X r'):SlR X (fun x lo hi H Q=>r x lo hi H Q∨r' x lo hi H Q):=by
 intro pins s σ H x v vl vu lo hi sl Q I rx hs pl pu q
 rcases q with q | q
 · exact h pins s σ H x v vl vu lo hi sl Q I rx hs pl pu q
 · exact h' pins s σ H x v vl vu lo hi sl Q I rx hs pl pu q
def tSl (r:V→Option Int→Option Int→Hp→VK→Prop) (te:TE) (tl th:TO):TE:=fun σ H Q=>te σ H fun x H1=>tl σ H1 fun l H2=>th σ H2 fun u H3=>r x l u H3 Q
theorem ua {r:V→Option Int→Option Int→Hp→VK→Prop} (hr:SlR X r) (he:PE X e te) (hl:PO X lo tl) (hu:PO X hi th):PE X (.Subscript e (.Slice lo hi none p2) pos) (tSl r te tl th):=by
 intro pins s σ H Q I h
 refine Subscript_ (thn (he pins s σ H _ I h) fun v s1 ⟨x,H1,I1,r1,q1⟩=>?_)
 refine wpAny_Slice (thn (hl pins s1 σ H1 _ I1 q1) fun vl s2 ⟨l,H2,I2,pl,q2⟩=>thn (hu pins s2 σ H2 _ I2 q2) fun vu s3 ⟨u,H3,I3,pu,q3⟩=>?_)
 rw [evalPart_none]
 refine wpAny_pure ?_
 have I4:Inv X pins σ H3 { s3 with heap:=s3.heap.push { cls:=.type "slice",data:=.fields #[vl,vu,.none] } }:=I3.kept (t':=s3.toks) fun b ob q=>Heap.get?_push_of_some _ q
 obtain ⟨T,id,hT,ht,hg⟩:=hr pins { s3 with heap:=s3.heap.push { cls:=.type "slice",data:=.fields #[vl,vu,.none] } } σ H3 x v vl vu l u s3.heap.objs.size Q I4 r1 (Heap.IsSliceOf.new ..) pl pu q3
 show wpAny (model X.prog X.w) X.A (subscriptTail e (.Slice lo hi none p2) v (.ref s3.heap.objs.size)) (EP X pins σ Q) X.xe { s3 with heap:=s3.heap.push { cls:=.type "slice",data:=.fields #[vl,vu,.none] } }
 exact tail_any (ops:=[.ref s3.heap.objs.size,v]) ht hT hg (by with_unfolding_all rfl)
def cL (xs:List V) (lo hi:Option Int):List V:=(xs.drop (HT.sIx xs.length 0 lo)).take (HT.sIx xs.length xs.length hi - HT.sIx xs.length 0 lo)
theorem gI (xs:List V) (lo hi:Option Int):(cL xs lo hi).length≤xs.length:=by
 unfold cL
 rw [List.length_take,List.length_drop]
 omega
def Gp (K:W.Frag):V→Option Int→Option Int→Hp→VK→Prop:=fun x lo hi H Q=>∃ a xs,x=.ref a∧SqT K H a xs∧
 ¬ (HT.sIx xs.length 0 lo=0∧HT.sIx xs.length xs.length hi=xs.length)∧∀ p,H p=none→Q (.ref p) (upd H p (.tup (cL xs lo hi)))
theorem AB:SlR X (Gp X.K):=by
 intro pins s σ H x v vl vu lo hi sl Q I rx hs pl pu h
 obtain ⟨a,xs,rfl,hx,hw,q⟩:=h
 cases rx
 obtain ⟨its,r,ht,hz⟩:=I.tuple hx
 have hlen:its.toArray.size=xs.length:=by rw [List.size_toArray];exact r.length.symm
 refine ⟨"tuple",_,PyProof.Rows.slot_tuple_getitem.lookup,ht.typeIs,?_⟩
 refine HT.jz ht hs pl pu (by rw [hlen];exact hw) ?_ (by rw [hlen];exact hz)
 rw [hlen]
 refine ⟨.ref s.heap.objs.size,_,I.laid (t':=s.toks) (o:=.tup (cL xs lo hi)) (fun b ob q=>Heap.get?_push_of_some _ q) (Nat.le_refl _) ?_,rfl,q _ (I.hok.fresh (Nat.le_refl _))⟩
 exact ⟨Nat.le_trans (gI xs lo hi) hz,_,(r.drop (HT.sIx xs.length 0 lo)).take (HT.sIx xs.length xs.length hi - HT.sIx xs.length 0 lo),IsTup.new _ _⟩
def EF (K:W.Frag):R2:=fun x y H Q=>∃ a b xs ys,x=.ref a∧y=.ref b∧SqT K H a xs∧SqT K H b ys∧xs≠[]∧xs.length+ys.length≤sizeLine∧
 (ys=[]→Q (.ref a) H)∧(ys≠[]→∀ p,H p=none→Q (.ref p) (upd H p (.tup (xs++ys))))
theorem bo.nil_iff {xs:List V} {us:List Value} (r:bo xs us):us=[]↔xs=[]:=by
 cases r with
 | nil=>simp
 | cons _ _=>simp
theorem yo:OpR X (binaryOp .Add) (EF X.K):=by
 intro pins s σ H x y v u Q I rx ry h
 obtain ⟨a,b,xs,ys,rfl,rfl,ha,hb,hx,hz,q1,q2⟩:=h
 cases rx
 cases ry
 obtain ⟨its,r1,p1,_⟩:=I.tuple ha
 obtain ⟨its2,r2,p2,_⟩:=I.tuple hb
 refine HT.yl p1 p2 (fun z=>hx (r1.nil_iff.mp z)) (fun z=>⟨.ref a,H,I,rfl,q1 (r2.nil_iff.mp z)⟩) (fun z=>?_) (by rw [← r1.length,←r2.length];exact hz)
 refine ⟨.ref s.heap.objs.size,_,I.laid (t':=s.toks) (o:=.tup (xs++ys)) (fun b ob q=>Heap.get?_push_of_some _ q) (Nat.le_refl _) ?_,rfl,q2 (fun w=>z (r2.nil_iff.mpr w)) _ (I.hok.fresh (Nat.le_refl _))⟩
 exact ⟨by rw [List.length_append];exact hz,_,r1.append r2,IsTup.new _ _⟩
end
def ixN (n:Nat) (i:Int):Option Nat:=if 0≤i then (if i<n then some i.toNat else none) else if -(n:Int)≤i then some (i+n).toNat else none
def atI {α:Type} (xs:List α) (i:Int):Option α:=(ixN xs.length i).bind fun j=>xs[j]?
theorem xY {n:Nat} {i:Int} {j:Nat} (h:ixN n i=some j):seqIndex? i n=some j∧j<n∧ -(n:Int)≤i∧i<n:=by
 unfold ixN at h
 by_cases h0:0≤i
 · rw [if_pos h0] at h
   by_cases h1:i<n
   · rw [if_pos h1] at h
     have e:i.toNat=j:=Option.some.inj h
     exact ⟨by rw [seqIndex_of h0 h1,e],by omega,by omega,h1⟩
   · rw [if_neg h1] at h;cases h
 · rw [if_neg h0] at h
   by_cases h1: -(n:Int)≤i
   · rw [if_pos h1] at h
     have e:(i+n).toNat=j:=Option.some.inj h
     exact ⟨by rw [seqIndex_neg (by omega) h1,e],by omega,h1,by omega⟩
   · rw [if_neg h1] at h;cases h
theorem gN {α : Type} {xs : List α} {i : Int} {v : α} (h : atI xs i = some v) : ∃ j, seqIndex? i xs.length = some j ∧ xs[j]? = some v ∧ j < xs.length ∧ -(xs.length : Int) ≤ i ∧ i < xs.length := by
  unfold atI at h
  cases e : ixN xs.length i with
  | none => rw [e] at h; cases h
  | some j =>
    rw [e] at h
    obtain ⟨h1, h2, h3, h4⟩ := xY e
    exact ⟨j, h1, h, h2, h3, h4⟩
theorem uW {α:Type} (xs:List α) (v:α):atI (xs++[v]) (-1)=some v:=by
 have hl:(xs++[v]).length=xs.length+1:=by simp
 have e:ixN (xs++[v]).length (-1)=some xs.length:=by
  unfold ixN
  rw [hl,if_neg (by decide),if_pos (by omega)]
  congr 1
  omega
 unfold atI
 rw [e]
 show (xs++[v])[xs.length]?=some v
 simp
def pj (b:Expr):Prop:=∀ o i,subscripted b false o i=operate [o,i] (getItem o i)
def IxR (X:Cx) (r:R2):Prop:=
 ∀ (value slice:Expr) (pins:List (Addr×Obj)) (s:Shared) (σ:St) (H:Hp) (x y:V) (v u:Value) (Q:VK),Inv X pins σ H s→br x v→br y u→r x y H Q→
  subscripted slice false v u=operate [v,u] (getItem v u)→wpAny (model X.prog X.w) X.A (subscriptTail value slice v u) (EP X pins σ Q) X.xe s
def MtR (X:Cx) (id:String) (r:V→List V→Hp→VK→Prop):Prop:=
 ∀ (pins:List (Addr×Obj)) (s:Shared) (σ:St) (H:Hp) (x:V) (xs:List V) (v:Value) (us:List Value) (Q:VK),Inv X pins σ H s→br x v→bo xs us→r x xs H Q→
  wpAny (model X.prog X.w) X.A (call (.builtin id) (v::us)) (EP X pins σ Q) X.xe s
section
variable {X:Cx} {a b:Expr} {ta tb:TE} {pos:Pos}
theorem IxR.or {r r':R2} (h:IxR X r) (h':IxR X r'):IxR X (fun x y H Q=>r x y H Q∨r' x y H Q):=by
 intro value slice pins s σ H x y v u Q I rx ry q hs
 rcases q with q | q
 · exact h value slice pins s σ H x y v u Q I rx ry q hs
 · exact h' value slice pins s σ H x y v u Q I rx ry q hs
theorem EC {r:R2} (hr:IxR X r) (ha:PE X a ta) (hb:PE X b tb) (hs:pj b):PE X (.Subscript a b pos) (tOp r ta tb):=by
 intro pins s σ H Q I h
 exact Subscript_ (tW ha hb I h fun v u s2 x y H2 I2 rx ry q=>hr a b pins s2 σ H2 x y v u Q I2 rx ry q (hs _ _))
def zH (K:W.Frag):R2:=fun x y H Q=>∃ p xs i v,x=.ref p∧y=.int i∧SqL K H p xs∧atI xs i=some v∧Q v H
def zJ (K:W.Frag):R2:=fun x y H Q=>∃ p xs i v,x=.ref p∧y=.int i∧SqT K H p xs∧atI xs i=some v∧Q v H
def yR:R2:=fun x y H Q=>∃ z i c,x=.str z∧y=.int i∧z.length≤sizeLine∧atI z.cps.toList i=some c∧Q (.str ⟨#[c]⟩) H
theorem ym:IxR X (zH X.K):=by
 intro value slice pins s σ H x y v u Q I rx ry h hs
 obtain ⟨p,xs,i,z,rfl,rfl,hq,he,q⟩:=h
 cases rx
 obtain ⟨t,rfl⟩:=ry
 obtain ⟨its,r,pl,hz⟩:=I.list hq
 obtain ⟨j,h1,h2,h3,h4,h5⟩:=gN he
 obtain ⟨w,ew,rw'⟩:=r.get h2
 have hl:=r.length
 have hn:=iR
 have fin:EP X pins σ Q w s:=⟨z,H,I,rw',q⟩
 by_cases h0:0≤i
 · have hj:i.toNat=j:=by
    rw [seqIndex_of h0 h5] at h1
    exact Option.some.inj h1
   exact item_listR pl.isList h0 (by omega) (by rw [hj];simpa using ew) fin hs
 · have hj:(i+(its.toArray.size:Int)).toNat=j:=by
    rw [seqIndex_neg (by omega) h4] at h1
    rw [List.size_toArray,←hl]
    exact Option.some.inj h1
   exact subscriptTail_builtinR (x:=w) pl.isList.typeIs slot_list_getitem.lookup
    (wpAny_getItem_list_neg (Q:=fun r s'=>r=w∧EP X pins σ Q r s') pl.isList (by omega) (by rw [List.size_toArray] <;> omega) (by omega) (by rw [hj];simpa using ew) ⟨rfl,fin⟩) hs
theorem yS:IxR X (zJ X.K):=by
 intro value slice pins s σ H x y v u Q I rx ry h hs
 obtain ⟨p,xs,i,z,rfl,rfl,hq,he,q⟩:=h
 cases rx
 obtain ⟨t,rfl⟩:=ry
 obtain ⟨its,r,pl,hz⟩:=I.tuple hq
 obtain ⟨j,h1,h2,h3,h4,h5⟩:=gN he
 obtain ⟨w,ew,rw'⟩:=r.get h2
 have hl:=r.length
 have hn:=iR
 have fin:EP X pins σ Q w s:=⟨z,H,I,rw',q⟩
 exact subscriptTail_builtinR (x:=w) pl.typeIs slot_tuple_getitem.lookup
  (getItem_tuple (j:=j) (Q:=fun r s'=>r=w∧EP X pins σ Q r s') pl (by omega) (by omega) (by rw [List.size_toArray,←hl];exact h1) (by simpa using ew) ⟨rfl,fin⟩) hs
theorem zL:IxR X yR:=by
 intro value slice pins s σ H x y v u Q I rx ry h hs
 obtain ⟨z,i,c,rfl,rfl,hz,he,q⟩:=h
 obtain ⟨t,rfl⟩:=rx
 obtain ⟨t',rfl⟩:=ry
 obtain ⟨j,h1,h2,h3,h4,h5⟩:=gN he
 have hl:z.cps.toList.length=z.length:=by simp [Str.length]
 rw [hl] at h1 h4 h5
 have hn:=iR
 exact tail_any (typeIs_str s z t) slot_str_getitem.lookup (getItem_str (c:=c) (by
  have e1:decide (i< -(2^63:Int))=false:=decide_eq_false (by omega)
  have e2:decide (i≥2^63)=false:=decide_eq_false (by omega)
  rw [e1,e2,Bool.or_false]) (by rw [h1];simpa using h2) ⟨.str ⟨#[c]⟩,H,I.tok _,⟨_,rfl⟩,q⟩) hs
def rIx (K:W.Frag):R2:=fun x y H Q=>zH K x y H Q∨zJ K x y H Q∨yR x y H Q
theorem Bp:IxR X (rIx X.K):=ym.or (yS.or zL)
theorem ng (lo hi : Option Int) (n : Nat) : (sliceBounds lo hi none n).1 = ((HT.sIx n 0 lo : Nat) : Int) ∧ (sliceBounds lo hi none n).2.1 = ((HT.sIx n n hi : Nat) : Int) ∧ (sliceBounds lo hi none n).2.2 = 1 := by
  refine ⟨?_, ?_, rfl⟩
  · cases lo with
    | none => simp [sliceBounds, HT.sIx]
    | some i =>
      simp only [sliceBounds, HT.sIx, Option.getD_none, show (1 : Int) > 0 by decide, if_true]
      by_cases h : i < 0
      · simp only [h, if_true] <;> omega
      · simp only [h, if_false] <;> omega
  · cases hi with
    | none => simp [sliceBounds, HT.sIx]
    | some i =>
      simp only [sliceBounds, HT.sIx, Option.getD_none, show (1 : Int) > 0 by decide, if_true]
      by_cases h : i < 0
      · simp only [h, if_true] <;> omega
      · simp only [h, if_false] <;> omega
theorem lR (its:List Value) (lo hi:Option Int):slicePick its.toArray lo hi none=((its.drop (HT.sIx its.length 0 lo)).take (HT.sIx its.length its.length hi - HT.sIx its.length 0 lo)).toArray:=by
 obtain ⟨h1,h2,h3⟩:=ng lo hi its.toArray.size
 unfold slicePick
 rw [h1,h2,h3]
 simp only [sliceRange_one,pick_run,List.size_toArray] <;> rfl
def Ax (K:W.Frag):V→Option Int→Option Int→Hp→VK→Prop:=fun x lo hi H Q=>∃ a xs,x=.ref a∧SqL K H a xs∧∀ p,H p=none→Q (.ref p) (upd H p (.lst (cL xs lo hi)))
theorem yw:SlR X (Ax X.K):=by
 intro pins s σ H x v vl vu lo hi sl Q I rx hs pl pu h
 obtain ⟨a,xs,rfl,hx,q⟩:=h
 cases rx
 obtain ⟨its,r,ht,hz⟩:=I.list hx
 have hlen:=r.length
 refine ⟨"list",_,slot_list_getitem.lookup,ht.isList.typeIs,?_⟩
 refine wpAny_getItem_list_slice ht.isList hs pl pu .none (by simp) ?_ (by rw [List.size_toArray] <;> omega)
 rw [lR,←hlen]
 refine ⟨.ref s.heap.objs.size,_,I.laid (t':=s.toks) (o:=.lst (cL xs lo hi)) (fun b ob q=>Heap.get?_push_of_some _ q) (Nat.le_refl _) ?_,rfl,q _ (I.hok.fresh (Nat.le_refl _))⟩
 exact ⟨Nat.le_trans (gI xs lo hi) hz,_,0,(r.drop (HT.sIx xs.length 0 lo)).take (HT.sIx xs.length xs.length hi - HT.sIx xs.length 0 lo),Heap.get?_push_size _ rfl⟩
theorem bU.or {f:Value} {r r':List V→Hp→VK→Prop} (h:bU X f r) (h':bU X f r'):bU X f (fun xs H Q=>r xs H Q∨r' xs H Q):=by
 intro pins s σ H xs us Q I rs q
 rcases q with q | q
 · exact h pins s σ H xs us Q I rs q
 · exact h' pins s σ H xs us Q I rs q
theorem lQ:bU X (.type "tuple") (fun xs H Q=>∃ p ys,xs=[.ref p]∧((SqL X.K H p ys∧∀ l,H l=none→Q (.ref l) (upd H l (.tup ys)))∨(SqT X.K H p ys∧Q (.ref p) H))):=by
 intro pins s σ H xs us Q I r h
 obtain ⟨p,ys,rfl,h⟩:=h
 obtain ⟨u,rfl,rx⟩:=iE r
 cases rx
 rcases h with ⟨hq,q⟩ | ⟨hq,q⟩
 · obtain ⟨its,r',pl,hz⟩:=I.list hq
   have hlen:=r'.length
   refine call_tuple_list pl.isList (fun h' kp=>?_) (by simp only [List.size_toArray] <;> omega)
   have I1:Inv X pins σ H { s with heap:=h' }:=I.kept (t':=s.toks) kp
   have I2:Inv X pins σ (upd H h'.objs.size (.tup ys)) { s with heap:=h'.push { cls:=.type "tuple",data:=.seq its.toArray } }:=
    I1.laid (t':=s.toks) (fun b o e=>Heap.get?_push_of_some _ e) (Nat.le_refl _) (show bu X.prog X.w _ _ _ (.tup ys) from ⟨hz,its,r',IsTup.new _ _⟩)
   exact ⟨.ref h'.objs.size,_,I2,rfl,q _ (I1.hok.fresh (Nat.le_refl _))⟩
 · obtain ⟨its,r',pl,hz⟩:=I.tuple hq
   exact call_tuple_same pl ⟨.ref p,H,I,rfl,q⟩
def tyV (K:W.Frag) (T:String) (x:V) (H:Hp):Prop:=match x with
 | .str _=>T= "str"
 | .int _=>T= "int"
 | .ref p=>(T= "list" ∧∃ xs,SqL K H p xs)∨(T= "tuple" ∧∃ o,K.lookup p=some o∧o.cls=.type "tuple" ∧o.dict=none)∨
  (T= "dict" ∧((∃ kvs,H p=some (.dK kvs))∨∃ kvs,H p=some (.dT kvs)))∨(T= "set" ∧∃ S n,H p=some (.set S n))
 | _=>False
theorem zZ {pins : List (Addr × Obj)} {σ : St} {H : Hp} {s : Shared} {T : String} {x : V} {v : Value} (I : Inv X pins σ H s) (r : br x v) (ty : tyV X.K T x H) :
    s.TypeIs v T ∧ ∀ a, v = .ref a → ∃ ob, s.heap.get? a = some ob ∧ ob.dict = none := by
  cases x with
  | str z =>
    obtain ⟨t, rfl⟩ := r
    cases (show T = "str" from ty)
    exact ⟨typeIs_str s z t, fun _ e => nomatch e⟩
  | int i =>
    obtain ⟨t, rfl⟩ := r
    cases (show T = "int" from ty)
    exact ⟨typeIs_int s i t, fun _ e => nomatch e⟩
  | ref p =>
    cases r
    rcases ty with ⟨rfl, xs, hq⟩ | ⟨rfl, o, hk, hc, hd⟩ | ⟨rfl, hk⟩ | ⟨rfl, S, n, hk⟩
    · obtain ⟨its, _, pl, _⟩ := I.list hq
      refine ⟨pl.isList.typeIs, fun a e => ?_⟩
      cases e
      obtain ⟨o, n, e, c, hd, _⟩ := pl
      exact ⟨o, e, hd⟩
    · refine ⟨⟨o, I.kIn p o hk, hc⟩, fun a e => ?_⟩
      cases e
      exact ⟨o, I.kIn _ o hk, hd⟩
    · have z : ∃ o, s.heap.get? p = some o ∧ o.ExactDict := by
        rcases hk with ⟨kvs, hk⟩ | ⟨kvs, hk⟩
        · obtain ⟨_, _, _, _, o, _, _, e, ex, _⟩ := I.hok p _ hk
          exact ⟨o, e, ex⟩
        · obtain ⟨_, _, _, _, o, _, _, e, ex, _⟩ := I.hok p _ hk
          exact ⟨o, e, ex⟩
      obtain ⟨o, e, ex⟩ := z
      refine ⟨⟨o, e, ex.1⟩, fun a e2 => ?_⟩
      cases e2
      exact ⟨o, e, ex.2.1⟩
    · obtain ⟨o, _, _, _, e, ex, _⟩ := I.hok p _ hk
      refine ⟨⟨o, e, ex.1⟩, fun a e2 => ?_⟩
      cases e2
      exact ⟨o, e, ex.2.1⟩
  | _ => exact False.elim ty
def tBM (K:W.Frag) (T:String) (r:V→List V→Hp→VK→Prop) (to:TE) (t:TA):TE:=fun σ H Q=>to σ H fun x H1=>tyV K T x H1∧t σ H1 fun xs H2=>r x xs H2 Q
variable {o e:Expr} {es:List Expr} {to:TE} {t:TA} {name:Str} {apos cpos:Pos} {T id:String} {r:V→List V→Hp→VK→Prop}
theorem Dh (pa : PlainAttrs T) (slot : Slot T name id) (hty : typeOf (.builtin id) = pure (.type "method_descriptor")) (hm : MtR X id r) (ho : PE X o to) (ha : PA X (e :: es) t)
  (hbase : attributeBase o name X.env (eval o X.env) = eval o X.env := by rfl)
  (hfew : ((backTo cpos (starEach (e :: es) X.env)).all (fun x => !x.1) && (backToKw cpos (keywordEach [] X.env)).all (fun x => x.1.isSome)
   && decide ((e :: es).length + ([] : List Keyword).length + (if ([] : List Keyword).isEmpty then 0 else 1) < 30)) = true := by rfl)
  (hline : (apos.endLine == cpos.line) = true := by rfl) (hs : starEach (e :: es) X.env = (false, eval e X.env) :: starEach es X.env := by rfl) (hplain : (backTo cpos (starEach es X.env)).any (·.1) = false := by rfl) :
  PE X (.Call (.Attribute o name apos) (e :: es) [] cpos) (tBM X.K T r to t) := by
 intro pins s σ H Q I h
 refine wpAny_Call_method_late hbase hfew hline rfl (thn (ho pins s σ H _ I h) fun v s1 ⟨x, H1, I1, r1, ty, q1⟩ => ?_)
 obtain ⟨h1, h2⟩ := zZ I1 r1 ty
 refine ⟨T, id, pa, slot, hty, h1, h2, ?_⟩
 have hA := ha cpos pins s1 σ H1 _ I1 q1
 rw [hs] at hA ⊢
 refine Calls.callWith_builtin (by show (false || (backTo cpos (starEach es X.env)).any (·.1)) = false; rw [hplain] <;> rfl) (Calls.evalArgs_plain ?_)
 exact thn hA fun us s2 ⟨vs, H2, I2, r2, q2⟩ => hm pins s2 σ H2 x vs v us Q I2 r1 r2 q2
end
def MtM (X:Cx) (id:String) (r:V→List V→Hp→VK→Prop):Prop:=
 ∀ (pins:List (Addr×Obj)) (s:Shared) (σ:St) (H:Hp) (x:V) (xs:List V) (v:Value) (us:List Value) (Q:VK),Inv X pins σ H s→br x v→bo xs us→r x xs H Q→
  wpAny (model X.prog X.w) X.A (call (.builtin id) (v::us)) (EP X pins σ Q) X.xe s
theorem bo.one:∀ {x:V} {us:List Value},bo [x] us→∃ u,us=[u]∧br x u
 | _,_,.cons r .nil=>⟨_,rfl,r⟩
theorem bo.rep {xs : List V} {us : List Value} (h : bo xs us) : ∀ k : Nat, bo (List.replicate k xs).flatten (List.replicate k us).flatten
  | 0 => .nil
  | k + 1 => by
    rw [List.replicate_succ, List.replicate_succ, List.flatten_cons, List.flatten_cons]
    exact bo.append h (bo.rep h k)
theorem lB (its : List Value) : ∀ (k : Nat) (acc : List Value),
    List.foldl (fun x1 x2 => x1 ++ x2) acc.toArray (List.replicate k its.toArray) = (acc ++ (List.replicate k its).flatten).toArray
  | 0, acc => by simp
  | k + 1, acc => by
    have e : acc.toArray ++ its.toArray = (acc ++ its).toArray := by simp
    have e2 : (acc ++ its) ++ (List.replicate k its).flatten = acc ++ (List.replicate (k + 1) its).flatten := by
      rw [List.replicate_succ, List.flatten_cons, List.append_assoc]
    rw [← e2, ← lB its k (acc ++ its), ← e, List.replicate_succ, List.foldl_cons]
section
variable {X:Cx} {pins:List (Addr×Obj)} {σ:St} {H:Hp} {s:Shared} {l b:Addr} {xs ys zs:List V}
theorem Inv.lset {its its':List Value} {n:Nat} {f:Array Value→Array Value} {t':Nat} (I:Inv X pins σ H s) (hH:H l=some (.lst xs))
  (e:s.heap.get? l=some { cls:=.type "list",data:=.seq its.toArray n }) (hf:f its.toArray=its'.toArray) (hv:bo ys its') (hz:ys.length≤sizeLine):
  Inv X pins σ (upd H l (.lst ys)) { s with heap:=s.heap.update l (Obj.mapSeq f),toks:=t' }:=by
 have q:=PySem.IsL.update e f
 rw [hf] at q
 refine I.write (x:=l) (e:=l) (by rw [hH];exact trivial) (.inl rfl) (fun b' u hb hu=>(Heap.get?_update_other s.heap (Obj.mapSeq f) (Ne.symm hb)).trans hu) ⟨_,q⟩ ?_
 exact ⟨hz,its',_,hv,q⟩
theorem Inv.lnew {its:List Value} {t':Nat} (I:Inv X pins σ H s) (hv:bo ys its) (hz:ys.length≤sizeLine):
  Inv X pins σ (upd H s.heap.objs.size (.lst ys)) { s with heap:=s.heap.push { cls:=.type "list",data:=.seq its.toArray },toks:=t' }:=
 I.laid (fun _ _ q=>Heap.get?_push_of_some _ q) (Nat.le_refl _) ⟨hz,its,0,hv,Heap.get?_push_size _ rfl⟩
theorem Inv.fresh (I:Inv X pins σ H s):H s.heap.objs.size=none:=I.hok.fresh (Nat.le_refl _)
theorem Inv.lstM (I:Inv X pins σ H s) (hH:H l=some (.lst xs)):xs.length≤sizeLine∧∃ (its:List Value) (n:Nat),bo xs its∧xs.length=its.length∧s.heap.get? l=some { cls:=.type "list",data:=.seq its.toArray n }:=by
 obtain ⟨z,its,n,r,e⟩:=I.hok l _ hH
 exact ⟨z,its,n,r,r.length,e⟩
end
section
variable {X:Cx}
def lg:V→List V→Hp→VK→Prop:=fun x vs H Q=>∃ l xs y,x=.ref l∧vs=[y]∧H l=some (.lst xs)∧xs.length<sizeLine∧Q .non (upd H l (.lst (xs++[y])))
theorem lu:MtM X "list.append" lg:=by
 intro pins s σ H x vs v us Q I rx rv h
 obtain ⟨l,xs,y,rfl,rfl,hH,hz,q⟩:=h
 cases rx
 obtain ⟨u,rfl,ru⟩:=rv.one
 obtain ⟨z,its,n,r,hl,e⟩:=I.lstM hH
 refine call_meets F.slot_list_append ⟨_,e,rfl⟩ F.entry_list_append (F.args_list_append_2 _ _) (PySem.list_append l its.toArray n u (by rw [List.size_toArray];omega)) ⟨e,?_⟩
 refine ⟨.non,_,I.lset (its':=its++[u]) hH e (by simp) (r.append (.cons ru .nil)) ?_,rfl,q⟩
 rw [List.length_append,List.length_singleton]
 omega
def BL:R2:=fun x y H Q=>∃ l b xs zs,x=.ref l∧y=.ref b∧H l=some (.lst xs)∧H b=some (.lst zs)∧xs.length+zs.length≤sizeLine∧∀ p,H p=none→Q (.ref p) (upd H p (.lst (xs++zs)))
theorem BK:OpR X (binaryOp .Add) BL:=by
 intro pins s σ H x y v u Q I rx ry h
 obtain ⟨l,b,xs,zs,rfl,rfl,hH,hB,hz,q⟩:=h
 cases rx
 cases ry
 obtain ⟨z,its,n,r,hl,e⟩:=I.lstM hH
 obtain ⟨z2,its2,n2,r2,hl2,e2⟩:=I.lstM hB
 refine PySem.P.add_list e e2 ?_ (by rw [List.size_toArray,List.size_toArray];omega)
 have ea:its.toArray++its2.toArray=(its++its2).toArray:=by simp
 rw [ea]
 exact ⟨.ref _,_,I.lnew (t':=s.toks) (r.append r2) (by rw [List.length_append];omega),rfl,q _ I.fresh⟩
theorem pJ {α:Type} (xs:List α) (k:Nat):(List.replicate k xs).flatten.length=k*xs.length:=by
 induction k with
 | zero=>simp
 | succ k ih=>rw [List.replicate_succ,List.flatten_cons,List.length_append,ih,Nat.succ_mul,Nat.add_comm]
end
section
variable {prog:Program} {w:World} {A:Around} {E:Value→Shared→Prop} {s:Shared}
set_option maxRecDepth 100000 in
end

section
variable {κ:Type} [DecidableEq κ]
def ik (kvs:List (κ×V)) (k:κ):Option V:=(kvs.find? fun kv=>decide (kv.1=k)).map (·.2)
theorem nY {p:κ×V} {r:List (κ×V)} {k:κ} (e:p.1=k):ik (p::r) k=some p.2:=by simp [ik,List.find?_cons,e]
theorem nN {p:κ×V} {r:List (κ×V)} {k:κ} (e:¬ p.1=k):ik (p::r) k=ik r k:=by simp [ik,List.find?_cons,e]
theorem KV.val {kvs : List (κ × V)} {vs : List (κ × Value)} (r : KV kvs vs) (k : κ) : eu (ik kvs k) (valueAt vs k) := by
  unfold KV at r
  induction r with
  | nil => exact True.intro
  | @cons p q ps qs h t ih =>
    obtain ⟨h1, h2⟩ := h
    by_cases e : p.1 = k
    · have e' : q.1 = k := h1.symm.trans e
      have b : valueAt (q :: qs) k = some q.2 := by simp [valueAt, List.find?_cons, e']
      rw [nY e, b]; exact h2
    · have e' : ¬ q.1 = k := fun z => e (h1.trans z)
      have b : valueAt (q :: qs) k = valueAt qs k := by simp [valueAt, List.find?_cons, e']
      rw [nN e, b]; exact ih
theorem KV.length {kvs:List (κ×V)} {vs:List (κ×Value)} (r:KV kvs vs):kvs.length=vs.length:=Paired.length r
end
theorem xp {P:Program} {w:World} {k:Key} {u:Value} (r:br (kV k) u):(cY P w).is k u=true:=by
 cases k with
 | inl i=>obtain ⟨t,e⟩:=(show ∃ t,u=Value.int i t from r);subst e;exact oB P w i t
 | inr x=>obtain ⟨t,e⟩:=(show ∃ t,u=Value.str x t from r);subst e;exact ou P w x t
theorem lE {P : Program} {w : World} : ∀ {ks : List Key} {us : List Value}, bo (ks.map kV) us → ItemsAre (cY P w) ks us
  | [], _, r => by rw [List.map_nil] at r; cases r; exact .nil
  | k :: ks, _, r => by
    rw [List.map_cons] at r
    cases r with
    | cons h t => exact .cons (xp h) (lE t)
abbrev KT (H:Hp):List (List Key×V)→List (List Key×Addr×Value)→Prop:=Paired fun p q=>p.1=q.1∧H q.2.1=some (.tup (p.1.map kV))∧br p.2 q.2.2
theorem KT.val {H : Hp} {kvs : List (List Key × V)} {xs : List (List Key × Addr × Value)} (r : KT H kvs xs) (k : List Key) : eu (ik kvs k) ((atKey xs k).map (·.2)) := by
  induction r with
  | nil => exact True.intro
  | @cons p q ps qs h t ih =>
    obtain ⟨h1, _, h2⟩ := h
    by_cases e : p.1 = k
    · have e' : q.1 = k := h1.symm.trans e
      have b : atKey (q :: qs) k = some q.2 := by simp [atKey, List.find?_cons, e']
      rw [nY e, b]; exact h2
    · have e' : ¬ q.1 = k := fun z => e (h1.trans z)
      have b : atKey (q :: qs) k = atKey qs k := by simp [atKey, List.find?_cons, e']
      rw [nN e, b]; exact ih
section
variable {P:Program} {w:World} {H:Hp} {h:Heap} {a:Addr}
theorem xq {u:HO} (ok:HOk P w H h) (e:Rd H a u):bu P w H h a u:=e.ok ok
theorem rB {kvs:List (Key×V)} (ok:HOk P w H h) (e:Rd H a (.dK kvs)):kvs.length≤sizeLine∧(a==sysModules)=false∧∃ vs,KV kvs vs∧h.DictOf (cY P w) a vs:=
 show bu P w H h a (.dK kvs) from xq ok e
theorem tQ {ks:List Key} (ok:HOk P w H h) (e:H a=some (.tup (ks.map kV))):(tupleKind (cY P w)).is h ks a:=by
 obtain ⟨_,its,r,o,h1,h2,n,h3⟩:=(show bu P w H h a (.tup (ks.map kV)) from ok a _ e)
 exact ⟨o,its.toArray,n,h1,h2,h3,by simpa using lE r⟩
theorem qj {kvs : List (List Key × V)} (ok : HOk P w H h) (e : Rd H a (.dT kvs)) : kvs.length ≤ sizeLine ∧ (a == sysModules) = false ∧
    ∃ xs, KT H kvs xs ∧ h.DictOfH (tupleKind (cY P w)) a xs := by
  obtain ⟨z, y, xs, r, o, es, ep, h1, h2, h3, h4, h5⟩ := (show bu P w H h a (.dT kvs) from xq ok e)
  refine ⟨z, y, xs, r, o, es, ep, h1, h2, h3, h4, fun x hx => ?_, h5⟩
  have all : ∀ {l : List (List Key × V)} {m : List (List Key × Addr × Value)}, KT H l m → ∀ x ∈ m, (tupleKind (cY P w)).is h x.1 x.2.1 := by
    intro l m q
    induction q with
    | nil => intro x hx; exact nomatch hx
    | @cons p q ps qs hq t ih =>
      intro x hx
      rcases List.mem_cons.mp hx with e | hx
      · subst e
        exact tQ ok (by rw [← hq.1]; exact hq.2.1)
      · exact ih x hx
  exact all r x hx
theorem EZ {kvs:List (List Key×V)} (ok:HOk P w H h) (e:H a=some (.dT kvs)):kvs.length≤sizeLine∧(a==sysModules)=false∧
 ∃ xs,KT H kvs xs∧h.DictOfH (tupleKind (cY P w)) a xs:=qj ok (.inl e)
end
def vT (H:Hp) (a:Addr) (y:V) (r:Option V):Prop:=
 (∃ kvs k,Rd H a (.dK kvs)∧y=kV k∧r=ik kvs k)∨∃ kvs k b,Rd H a (.dT kvs)∧y=.ref b∧H b=some (.tup (k.map kV))∧r=ik kvs k
section
variable {X:Cx} {pins:List (Addr×Obj)} {σ:St} {H:Hp} {s:Shared} {a:Addr} {y v:V} {u r:Value} {o:Option V} {A:Around} {E:Value→Shared→Prop}
theorem Inv.big (I:Inv X pins σ H s):sysModules<s.heap.objs.size:=by
 have h:mainGlobals<s.heap.objs.size:=(I.mod.glob.keeps I.bk).lt
 exact Nat.lt_trans (by decide) h
theorem sD {Q:Value→Shared→Prop} (hu:A.units+1<cLine) (I:Inv X pins σ H s) (g:vT H a y (some v)) (ry:br y u) (h:∀ w' s',Inv X pins σ H s'→br v w'→Q w' s'):
   wpAny (model X.prog X.w) A (getItem (.ref a) u) Q E s:=by
 rcases g with ⟨kvs,k,e,ey,l⟩ | ⟨kvs,k,b,e,ey,eb,l⟩
 · subst ey
   obtain ⟨z,hd,vs,rel,dd⟩:=rB I.hok e
   obtain ⟨w',hw,rw'⟩:=eu.some_of (v:=v) (o:=valueAt vs k) (by rw [l];exact rel.val k)
   exact wpAny_getItem_of (xp ry) dd.mapOf hw (h w' _ (I.tok _) rw')
 · subst ey
   cases (show u=Value.ref b from ry)
   obtain ⟨z,hd,xs,rel,dd⟩:=qj I.hok e
   obtain ⟨w',hw,rw'⟩:=eu.some_of (v:=v) (o:=(atKey xs k).map (·.2)) (by rw [l];exact rel.val k)
   obtain ⟨p,hp,hp2⟩:=Option.map_eq_some_iff.mp hw
   refine wpAny_getItem_heap (tupleKind_room_in1 hu) (tQ I.hok eb) dd hp ?_
   rw [hp2]
   exact h w' _ (I.tok _) rw'
end
section
variable {X:Cx} {pins:List (Addr×Obj)} {σ:St} {H:Hp} {s:Shared} {a:Addr} {kvs:List (Key×V)} {k:Key} {u:Value} {A:Around} {E:Value→Shared→Prop}
theorem Er {Q:Value→Shared→Prop} (I:Inv X pins σ H s) (e:Rd H a (.dK kvs)) (h:∀ t s',Inv X pins σ H s'→Q (.int kvs.length t) s'):wpAny (model X.prog X.w) A (call (.builtin "len") [.ref a]) Q E s:=by
 obtain ⟨z,hd,vs,rel,dd⟩:=rB I.hok e
 refine call_len_dict hd dd (by rw [← rel.length];rw [sizeLine_eq] at z;omega) ?_
 rw [← rel.length]
 exact h _ _ (I.tok _)
end
theorem oI {X:Cx} {pins:List (Addr×Obj)} {σ:St} {H:Hp} {s:Shared} {a:Addr} {y:V} {o:Option V} (I:Inv X pins σ H s) (g:vT H a y o):s.TypeIs (.ref a) "dict" :=by
 rcases g with ⟨kvs,k,e,_,_⟩ | ⟨kvs,k,b,e,_,_,_⟩
 · obtain ⟨_,_,vs,_,dd⟩:=rB I.hok e
   exact dd.typeIs
 · obtain ⟨_,_,xs,_,dd⟩:=qj I.hok e
   exact dd.typeIs
theorem vE {P:Program} {w:World} {H:Hp} (h:Heap) (hb:sysModules<h.objs.size):bu P w H (h.push { cls:=.type "dict",data:=.dict #[] }) h.objs.size (.dK []):=
 ⟨Nat.zero_le _,beq_eq_false_iff_ne.mpr (Ne.symm (Nat.ne_of_lt hb)),[],.nil,Heap.DictOf.new h⟩
theorem vC {P:Program} {w:World} {H:Hp} (h:Heap) (hb:sysModules<h.objs.size):bu P w H (h.push { cls:=.type "dict",data:=.dict #[] }) h.objs.size (.dT []):=
 ⟨Nat.zero_le _,beq_eq_false_iff_ne.mpr (Ne.symm (Nat.ne_of_lt hb)),[],.nil,_,#[],0,Heap.get?_push_size _ rfl,⟨rfl,rfl,rfl⟩,rfl,rfl,List.nodup_nil⟩
def tu:TE:=fun _ H Q=>∀ p,H p=none→Q (.ref p) (upd H p (.dK []))
def sO:TE:=fun _ H Q=>∀ p,H p=none→Q (.ref p) (upd H p (.dT []))
section
variable {X:Cx} {pos:Pos}
theorem vP:PE X (.Dict [] [] pos) tu:=fun pins s σ H Q I h=>
 wpAny_Dict_empty ⟨.ref s.heap.objs.size,_,I.laid (a:=s.heap.objs.size) (o:=.dK []) (t':=s.toks) (fun _ _ q=>Heap.get?_push_of_some _ q) (Nat.le_refl _) (vE s.heap I.big),rfl,h _ (I.hok.fresh (Nat.le_refl _))⟩
theorem uq:PE X (.Dict [] [] pos) sO:=fun pins s σ H Q I h=>
 wpAny_Dict_empty ⟨.ref s.heap.objs.size,_,I.laid (a:=s.heap.objs.size) (o:=.dT []) (t':=s.toks) (fun _ _ q=>Heap.get?_push_of_some _ q) (Nat.le_refl _) (vC s.heap I.big),rfl,h _ (I.hok.fresh (Nat.le_refl _))⟩
end

end L2
namespace Att
open PySem PySem.W PySem.Calls PyProof.Rows
theorem ints_of_wellAll {P : Params} {h : Heap} : ∀ (ns : List Int) (vs : List Value), WellAll P h vs (ns.map WData.int) → IntsAre vs ns := by
  intro ns
  induction ns with
  | nil =>
    intro vs w
    rw [List.map_nil] at w
    cases w
    exact .nil
  | cons n ns ih =>
    intro vs w
    rw [List.map_cons] at w
    cases w with
    | cons a b =>
      cases a
      exact .cons _ _ (ih _ b)
theorem script_of {l : OpenLaw} {n : Nat} (hn : l.most = some n) {P : Params} {h : Heap} {args : List WData} {vals : List Value}
    (hpre : l.row.toRowW.claim.pre args = true) (hwl : WellAll P h vals args) :
    ∃ a vs ns, vals = [Value.ref a] ∧ args = [WData.list (ns.map WData.int)] ∧ h.get? a = some { cls := .type "list", data := .seq vs.toArray } ∧ IntsAre vs ns ∧ ns.length ≤ n := by
  have hsh : WShape.hasAll [] args [.list .int] = true := (pre_splitW hpre).1
  have hc : l.pre.holds [] { args := args } = true := (pre_splitW hpre).2
  obtain ⟨d, r, rfl, h1, h2⟩ := hasAllW_cons hsh
  obtain rfl := hasAllW_nil h2
  obtain ⟨xs, rfl, h3⟩ := hasW_list h1
  obtain ⟨ns, rfl⟩ := items_int h3
  have hlen : ns.length ≤ n := by
    unfold OpenLaw.pre at hc
    have h4 : (WTm.not (.lt (.lit (.int (n : Int))) (.len (.arg 0)))).holds [] { args := [.list (ns.map .int)] } = true := by
      have h4 := (holds_andW hc).1
      rw [hn] at h4
      exact h4
    have h5 := condW_of h4 (w_not (w_lt w_lit (w_len_list (w_arg rfl))))
    rw [List.length_map] at h5
    refine Nat.le_of_not_lt fun q => ?_
    have q' : (n : Int) < ((ns.length : Nat) : Int) := by omega
    first
      | (rw [decide_eq_true q'] at h5; exact absurd h5 (by decide))
      | (simp at h5; omega)
  cases hwl with
  | cons w1 w2 =>
    cases w2
    cases w1 with
    | list ho hall => exact ⟨_, _, ns, rfl, rfl, ho, ints_of_wellAll ns _ hall, hlen⟩
theorem post_true (l:OpenLaw) (args:List WData):l.row.toRowW.claim.post args (.bool true) args=true:=
 postW_of (r:=l.row.toRowW) (X:=(true==true))
  (show WShape.has [] (.bool true) .bool=true by first | rfl | decide | simp [WShape.has,WShape.arms,WShape.armsAll])
  (show (WTm.eq .res (.lit (.bool true))).value [] { args:=args,res:=some (.bool true),after:=args }=some (.bool (true==true)) from w_eq_bool (w_res rfl) w_lit) rfl
theorem attach_call {l : OpenLaw} {n : Nat} {q : Program} {loose : List Str} {XP : (Str → Option Value) → Heap → Prop} {YP : World → Heap → Prop} {d : DefRec}
  (hn : l.most = some n) (hdf : d.params.defaults = [])
  (call : ∀ (w : World) (s₀ s₁ : Shared) (mg mb : Str → Option Value) (fa : Addr) (o : Obj) (pm cd doc : Value) (a : Addr) (vs : List Value) (ns : List Int),
   Ground q loose [] XP w s₀ mg mb s₁.heap → YP w s₁.heap →
   s₁.heap.get? fa = some o → o.data = .func (docDef d.name d.params d.body d.scope pm cd doc) → s₁.heap.CodeRec cd d.name → mg d.name = some (.ref fa) →
   s₁.heap.get? a = some { cls := .type "list", data := .seq vs.toArray } → IntsAre vs ns → ns.length ≤ n → s₁.gens = #[] →
   codeAny (model l.prog w) callerA (.call (.ref fa) ⟨[.ref a], []⟩) (fun r s' => r = .ok (.ret (.bool true)) ∧ OldK s₁.heap s'.heap ∧ s'.os = s₁.os ∧ AllBare s'.gens) s₁) :
  WalkO q loose XP YP l.row.toRowW d [] (fun f vs => PySem.call f vs) := by
 intro w s₀ s₁ mg mb G Y fa o pm cd doc dV kV ho hd hcd hD hmg hg args vals as hpre hlay hrd hwl hlo
 obtain rfl : dV = .none := Dflts.none hD hdf
 obtain rfl : kV = .none := Dflts.noKw hD
 obtain ⟨a, vs, ns, rfl, rfl, hobj, hints, hlen⟩ := script_of hn hpre hwl
 refine enter_call (codeAny_mono (call w s₀ s₁ mg mb fa o pm cd doc a vs ns G Y ho (fd_plain hd) hcd hmg hobj hints hlen hg) fun r s' hq => ?_)
 obtain ⟨rfl, h2, h3, h4⟩ := hq
 exact ⟨.inl ⟨.bool true, .bool true, [], rfl, fun _ => rfl, .bool true, post_true l _, fun _ => ⟨List.Pairwise.nil, fun _ hm => (nomatch hm)⟩⟩, h2, h3, h4⟩

end Att
namespace L2
open PySem PySem.Spec PyProof.Rows
theorem lL:∀ {vs:List Value} {ns:List Int},IntsAre vs ns→bo (ns.map V.int) vs
 | _,_,.nil=> .nil
 | _,_,.cons n t h=> .cons ⟨t,rfl⟩ (lL h)
def bP (s:Stmt):Arguments:=match s with
 | .FunctionDef _ a _ _ _ _ _ _ _ _=>a
 | _=>{ posonlyargs:=[],args:=[],vararg:=none,kwonlyargs:=[],kw_defaults:=[],kwarg:=none,defaults:=[] }
def bi (s:Stmt):List Stmt:=match s with
 | .FunctionDef _ _ b _ _ _ _ _ _ _=>b
 | _=>[]
def ap (s:Stmt):Scope:=match s with
 | .FunctionDef _ _ _ _ _ _ sc _ _ _=>sc
 | _=>{ kind:=.function,names:=[],isGenerator:=false,isCoroutine:=false }
abbrev E0:XK:=fun _ _ _=>False
structure Fun (K:W.Frag) (x qual:Str) (st:Stmt) (f:Addr) (fd:FuncData):Prop where
 ex:∃ (oc:Value) (od:Option Addr) (kV doc pm:Value) (an:Option Addr) (cdv ct:Value) (osl:Array (Option Value)),
  fd=W.fnOf x qual (bP st) (bi st) (ap st) .none kV doc pm an cdv ct∧K.lookup f=some ⟨oc,od,.func fd,osl⟩∧W.codeIn K cdv qual=true
 kp:W.keepIn K (.ref f)=true
section
variable {P:Program} {w:World} {K:W.Frag} {mg:Str→Option Value} {base:Heap}
theorem Fun.binds {x qual:Str} {st:Stmt} {f:Addr} {fd:FuncData} {ps:List Str} (F:Fun K x qual st f fd)
  (h:∀ (kV doc pm:Value) (an:Option Addr) (cdv ct:Value) (us:List Value),us.length=ps.length→bindArgs (W.fnOf x qual (bP st) (bi st) (ap st) .none kV doc pm an cdv ct) ⟨us,[]⟩=pure (ps.zip us)):dc K fd ps []:=by
 obtain ⟨oc,od,kV,doc,pm,an,cdv,ct,osl,rfl,lk,hcd⟩:=F.ex
 exact .all (h kV doc pm an cdv ct)
theorem nH {x qual:Str} {st:Stmt} {f:Addr} {oc:Value} {od an:Option Addr} {osl:Array (Option Value)} {kV doc pm cdv ct:Value} (l:K.lookup f=some ⟨oc,od,.func (W.fnOf x qual (bP st) (bi st) (ap st) .none kV doc pm an cdv ct),osl⟩)
 (c:W.codeIn K cdv qual=true) (k:W.keepIn K (.ref f)=true):Fun K x qual st f (W.fnOf x qual (bP st) (bi st) (ap st) .none kV doc pm an cdv ct):=⟨⟨oc,od,kV,doc,pm,an,cdv,ct,osl,rfl,l,c⟩,k⟩
end
section
variable {X:Cx}
theorem rT:bU X (.builtin "len") (fun xs H Q=>∃ a kvs,xs=[V.ref a]∧H a=some (.dK kvs)∧Q (.int kvs.length) H):=by
 intro pins s σ H xs us Q I r h
 obtain ⟨a,kvs,rfl,ha,q⟩:=h
 obtain ⟨u,rfl,ru⟩:=iE r
 cases ru
 exact Er I (.inl ha) fun t s' I'=>⟨.int kvs.length,H,I',⟨t,rfl⟩,q⟩
end
theorem qR {A B:Prop} (h:B):if false=true then A else B:=by
 rw [if_neg Bool.false_ne_true]
 exact h
theorem zF {A B:Prop} (h:A):if true=true then A else B:=by
 rw [if_pos rfl]
 exact h
def ar (H H':Hp):Prop:=∀ b o,H b=some o→H' b=some o
theorem ar.refl (H:Hp):ar H H:=fun _ _ h=>h
theorem ar.trans {H H1 H2:Hp} (a:ar H H1) (b:ar H1 H2):ar H H2:=fun c o h=>b c o (a c o h)
theorem ar.seq {K:W.Frag} {H H':Hp} {a:Addr} {xs:List V} (e:ar H H') (h:SqL K H a xs):SqL K H' a xs:=by
 rcases h with (h | ⟨o,h⟩) | h
 · exact .inl (.inl (e _ _ h))
 · exact .inl (.inr ⟨o,e _ _ h⟩)
 · exact .inr h

def dC:List (Str×NameKind)→List (Str×Addr)→List (Str×Addr)→List (Str×Addr)
 | [],_,cs=>cs
 | (n,k)::r,cells,cs=>dC r cells (if k==.free then (match cells.lookup n with | some a=>(n,a)::cs | none=>cs) else cs)
theorem mZ {scope : Scope} {env : Env} (h : ∀ y ∈ scope.names, y.2 = .free → (env.cells.lookup y.1).isSome = true) : closureFor scope env = pure (dC scope.names env.cells []) := by
  have key : ∀ (l : List (Str × NameKind)) (cs : List (Str × Addr)), (∀ y ∈ l, y.2 = .free → (env.cells.lookup y.1).isSome = true) →
      (forIn l cs (fun (x : Str × NameKind) (cs : List (Str × Addr)) => (if (x.2 == NameKind.free) = true then (do let a ← cellOf env x.1; pure (ForInStep.yield ((x.1, a) :: cs))) else (pure (ForInStep.yield cs) : Sem _))) : Sem (List (Str × Addr))) = pure (dC l env.cells cs) := by
    intro l
    induction l with
    | nil => intro cs _; rfl
    | cons y r ih =>
      intro cs hy
      obtain ⟨n, k⟩ := y
      rw [List.forIn_cons]
      by_cases hk : k = .free
      · subst hk
        have hs := hy (n, .free) List.mem_cons_self rfl
        cases e : env.cells.lookup n with
        | none => rw [e] at hs; cases hs
        | some a =>
          have := ih ((n, a) :: cs) (fun z hz => hy z (List.mem_cons_of_mem _ hz))
          simp only [dC, beq_self_eq_true, if_true, e, cellOf, pure_bind]
          exact this
      · have hb : (k == NameKind.free) = false := by simpa using hk
        have := ih cs (fun z hz => hy z (List.mem_cons_of_mem _ hz))
        simp only [dC, hb, Bool.false_eq_true, if_false, pure_bind]
        exact this
  have := key scope.names [] h
  unfold closureFor
  simpa using this
theorem lI : ∀ {l : List (Str × NameKind)} {cells cs : List (Str × Addr)} {x : Str} {c : Addr}, (∀ x c, cs.lookup x = some c → cells.lookup x = some c) → (dC l cells cs).lookup x = some c → cells.lookup x = some c
  | [], _, _, _, _, h, e => h _ _ e
  | (n, k) :: r, cells, cs, x, c, h, e => by
    refine lI (l := r) (fun y d hy => ?_) e
    split at hy
    · split at hy
      · rename_i a ha
        by_cases hyn : y = n
        · subst hyn
          rw [List.lookup_cons_self] at hy
          rw [← hy]; exact ha
        · rw [List.lookup_cons] at hy
          have : (y == n) = false := by simpa using hyn
          rw [this] at hy
          exact h _ _ hy
      · exact h _ _ hy
    · exact h _ _ hy
theorem jV : ∀ {l : List (Str × NameKind)} {cells cs : List (Str × Addr)} {x : Str}, (cs.lookup x).isSome = true → ((dC l cells cs).lookup x).isSome = true
  | [], _, _, _, h => h
  | (n, k) :: r, cells, cs, x, h => by
    refine jV (l := r) ?_
    split
    · split
      · rw [List.lookup_cons]
        split
        · rfl
        · exact h
      · exact h
    · exact h
theorem je : ∀ {l : List (Str × NameKind)} {cells cs : List (Str × Addr)} {x : Str}, (x, NameKind.free) ∈ l → (cells.lookup x).isSome = true → ((dC l cells cs).lookup x).isSome = true
  | [], _, _, _, h, _ => by cases h
  | (n, k) :: r, cells, cs, x, h, hs => by
    rcases List.mem_cons.mp h with e | h
    · cases e
      refine jV (l := r) ?_
      simp only [beq_self_eq_true, if_true]
      cases e : cells.lookup n with
      | none => rw [e] at hs; cases hs
      | some a => simp only [List.lookup_cons_self]; rfl
    · exact je (l := r) h hs
theorem kJ {x:Str} {k:NameKind}:∀ {l:List (Str×NameKind)},l.lookup x=some k→(x,k)∈l:=fun h=>PySem.mem_of_lookup h
inductive fH (X:Cx) (scope:Scope):List Str→List Nat→Prop where
 | nil:fH X scope [] []
 | cons {y:Str} {i:Nat} {ys:List Str} {is:List Nat} (h1:X.N[i]?=some y) (h2:X.env.kindOf y=some .cell∨X.env.kindOf y=some .free) (h3:scope.names.lookup y=some .free) (h:fH X scope ys is):fH X scope (y::ys) (i::is)
structure eH (scope:Scope) (x:Str) (ys:List Str):Prop where
 kind:scope.kind=.function
 nocell:∀ y∈scope.names,y.2≠ .cell
 names:∀ y∈scope.names,y.2=.local→scope.names.lookup y.1=some .local
 own:scope.names.lookup x=some .local
 all:∀ y∈scope.names,y.2=.free→y.1∈ys
 nd:(x::ys).Nodup
def bK (X:Cx) (scope:Scope) (C:Addr) (N:List Str) (s:Shared) (H:Hp) (fp:List Addr):Cx:=
 { X with N:=N,s₀:=s,H₀:=H,env:=compEnvC scope (dC scope.names X.env.cells []) C X.env,outer:=X.stack,ex:=fp,fn:=fun _=>false,pn:=[],xe:=fun _ _=>False }
def bY (σ:St) (is:List Nat):St:=is.map fun i=>(σ[i]?).getD none
theorem gW {f : Str × NameKind → Str × NameKind} (hf : ∀ p, (f p).1 = p.1) {x : Str} : ∀ (l : List (Str × NameKind)), (l.map f).lookup x = (l.lookup x).map fun k => (f (x, k)).2
  | [] => rfl
  | (n, k) :: r => by
    have ih := gW hf (x := x) r
    have e : f (n, k) = (n, (f (n, k)).2) := Prod.ext (hf (n, k)) rfl
    rw [List.map_cons, e, List.lookup_cons, List.lookup_cons]
    cases hx : x == n with
    | true =>
      have e' : x = n := by simpa using hx
      subst e'; rfl
    | false => exact ih
theorem io (scope:Scope) (env:Env) (x:Str):(relabel scope env).names.lookup x=(scope.names.lookup x).map fun k=>if (k==NameKind.free&&env.scope.kind==.function&&env.kindOf x==some .cell) then NameKind.cell else k:=by
 have hf:∀ p:Str×NameKind,((fun (n,k)=>if (k==NameKind.free&&env.scope.kind==.function&&env.kindOf n==some .cell) then (n,NameKind.cell) else (n,k)) p:Str×NameKind).1=p.1:=by
  intro p
  obtain ⟨n,k⟩:=p
  show (if _ then (n,NameKind.cell) else (n,k)).1=n
  split <;> rfl
 have:=gW hf (x:=x) scope.names
 show List.lookup x (List.map _ scope.names)=_
 rw [this]
 congr 1
 funext k
 show (if _ then (x,NameKind.cell) else (x,k)).2=_
 split <;> rfl
theorem gT {scope : Scope} {env : Env} {x : Str} {k : NameKind} (nc : ∀ y ∈ scope.names, y.2 ≠ .cell) (h : (relabel scope env).names.lookup x = some k) (hk : k = .cell ∨ k = .free) : (x, NameKind.free) ∈ scope.names := by
  rw [io] at h
  cases q : scope.names.lookup x with
  | none => rw [q] at h; cases h
  | some k' =>
    have hm := kJ q
    rw [q] at h
    have h : (if (k' == NameKind.free && env.scope.kind == .function && env.kindOf x == some .cell) then NameKind.cell else k') = k := Option.some.inj h
    by_cases hc : k' = .free
    · subst hc; exact hm
    · have hb : (k' == NameKind.free) = false := by simpa using hc
      rw [hb] at h
      have h : k' = k := h
      subst h
      rcases hk with z | z
      · exact absurd z (nc _ hm)
      · exact absurd z hc
theorem nF {scope:Scope} {env:Env} {x:Str} (h:scope.names.lookup x=some .free):(relabel scope env).names.lookup x=some .cell∨(relabel scope env).names.lookup x=some .free:=by
 rw [io,h]
 show some (if _ then _ else _)=_∨some (if _ then _ else _)=_
 split
 · exact .inl rfl
 · exact .inr rfl
theorem lS {scope:Scope} {env:Env} {x:Str} (h:scope.names.lookup x=some .local):(relabel scope env).names.lookup x=some .local:=by
 rw [io,h];rfl
theorem tD {X : Cx} {scope : Scope} {ys : List Str} {is : List Nat} {m : Str → Option Value} {h : Heap} {σ : St} (hc : fH X scope ys is)
    (hl : ∀ (i : Nat) (x : Str) (v : V), X.N[i]? = some x → σ[i]? = some (some v) → Vis X.env.scope x → ∃ u, br v u ∧ Ad X.env h m x u) (nd : True) :
    ∀ (j : Nat) (y : Str) (v : V), ys[j]? = some y → (bY σ is)[j]? = some (some v) → ∃ u, br v u ∧ scope.names.lookup y = some .free ∧ ∃ c, X.env.cells.lookup y = some c ∧ h.IsCell c (some u) := by
  induction hc with
  | nil => intro j y v e; simp at e
  | @cons z i zs js h1 h2 h3 hr ih =>
    intro j y v e1 e2
    cases j with
    | zero =>
      simp at e1; subst e1
      have e2 : (σ[i]?).getD none = some v := by simpa [bY] using e2
      have e3 : σ[i]? = some (some v) := by
        cases q : σ[i]? with
        | none => rw [q] at e2; simp at e2
        | some o => rw [q] at e2; simp at e2; rw [e2]
      have hv : Vis X.env.scope z := by
        rcases h2 with q | q
        · exact .inr (.inl q)
        · exact .inr (.inr q)
      obtain ⟨u, r, l⟩ := hl i z v h1 e3 hv
      refine ⟨u, r, h3, ?_⟩
      rcases l with ⟨k, _⟩ | ⟨_, c, e, ic⟩
      · rcases h2 with q | q
        · rw [q] at k; cases k
        · rw [q] at k; cases k
      · exact ⟨c, e, ic⟩
    | succ j =>
      exact ih j y v (by simpa using e1) (by simpa [bY] using e2)
def qN (is:List Nat) (tc:TT) (te:TE) (σ:St) (D:Addr) (J:It) (H1:Hp) (Q:VK):Prop:=∃ W:Nat→Nat→List V→Hp→Prop,(∃ m,W 0 m [] (upd H1 D (.lst [])))∧
 ∀ i m ys H2,W i m ys H2→(J.stop i H2∧Q (.ref D) H2)∨(J.go i H2∧∀ x H3,J.yld i H2 x H3→tc (some x::bY σ is) H3 fun b H4=>if b=true then
  te (some x::bY σ is) H4 fun y H5=>H5 D=some (.lst ys)∧ys.length<sizeLine∧∃ m',m'<m∧W (i+1) m' (ys++[y]) (upd H5 D (.lst (ys++[y])))
  else ∃ m',m'<m∧W (i+1) m' ys H4)
def gG (is:List Nat) (wi:TI) (tc:TT) (te:TE):TE:=fun σ H Q=>wi σ H fun J H1=>∀ D,H1 D=none→qN is tc te σ D J H1 Q
theorem oz (elt target iter c : Expr) (scope : Scope) (pos : Pos) (it acc : Value) (env : Env) :
    compTurn (.ListComp elt [⟨target, iter, [c], 0⟩] scope pos) 0 it acc env = (standAt iter.pos >>= fun _ => pyNext it >>= fun r => match r with
      | none => pure (.done .next)
      | some v => letOwnedTupleGo target it v >>= fun _ => assign target env v >>= fun _ => isTrue c env (eval c env) >>= fun ok =>
        (if ok = true then (eval elt env >>= fun x => call (.builtin "list.append") [acc, x] >>= fun _ => pure ()) else pure ()) >>= fun _ =>
          again (.compLoop (.ListComp elt [⟨target, iter, [c], 0⟩] scope pos) 0 it acc env)) := by
  unfold compTurn
  simp only [List.forIn_cons, List.forIn_nil, List.getElem?_cons_zero, List.getElem?_cons_succ, List.getElem?_nil, bind_assoc, pure_bind, bne_self_eq_false, Bool.false_eq_true, if_false, if_true]
  congr 1
  funext _
  congr 1
  funext r
  cases r with
  | none => rfl
  | some v =>
    simp only [bind_assoc, pure_bind, if_true]
    congr 1; funext _
    congr 1; funext _
    congr 1; funext b
    cases b <;> simp
section
variable {prog:Program} {w:World} {A:Around} {R:Result→Shared→Prop} {s:Shared}
theorem iN {elt target iter c : Expr} {scope : Scope} {pos : Pos} {it acc : Value} {env : Env} (I : Nat → Shared → Prop)
    (turn : ∀ n s, I n s → wpAny (model prog w) A (pyNext it) (fun r s₁ => match r with
      | none => R (.ok .next) s₁
      | some v => wpAny (model prog w) A (letOwnedTupleGo target it v) (fun _ s₁ => wpAny (model prog w) A (assign target env v) (fun _ s₂ => wpAny (model prog w) A (isTrue c env (eval c env)) (fun ok s₂ => if ok = true then wpAny (model prog w) A (eval elt env) (fun x s₃ =>
          wpAny (model prog w) A (call (.builtin "list.append") [acc, x]) (fun _ s₄ => ∃ m, m < n ∧ I m s₄) (notedBy (model prog w) A env fun e s' => R (.error e) s') s₃)
          (notedBy (model prog w) A env fun e s' => R (.error e) s') s₂ else ∃ m, m < n ∧ I m s₂) (notedBy (model prog w) A env fun e s' => R (.error e) s') s₂) (notedBy (model prog w) A env fun e s' => R (.error e) s') s₁) (notedBy (model prog w) A env fun e s' => R (.error e) s') s₁) (notedBy (model prog w) A env fun e s' => R (.error e) s') s)
    (n : Nat) (h : I n s) :
    codeAny (model prog w) A (.compLoop (.ListComp elt [⟨target, iter, [c], 0⟩] scope pos) 0 it acc env) R s := by
  refine codeAny_loop rfl I (fun n s hI => ?_) n h
  show wpAny _ _ ((compTurn (.ListComp elt [⟨target, iter, [c], 0⟩] scope pos) 0 it acc env).onRaise (fun x => do noteFrame x env; theTreesLotGoes x)) _ _ s
  refine wpAny_noted ?_
  rw [oz]
  refine wpAny_bind (wpAny_standAt (wpAny_bind (wpAny_mono (turn n s hI) (fun r s₁ h₁ => ?_) fun _ _ h' => h')))
  cases r with
  | none => exact wpAny_pure h₁
  | some v =>
    refine wpAny_bind (wpAny_mono h₁ (fun _ s₁ h₁ => wpAny_bind (wpAny_mono h₁ (fun _ s₂ h₂ => wpAny_bind (wpAny_mono h₂ (fun ok s₃ h₃ => ?_) fun _ _ h' => h')) fun _ _ h' => h')) fun _ _ h' => h')
    cases ok with
    | true =>
      rw [if_pos rfl] at h₃
      simp only [if_true]
      exact wpAny_bind (wpAny_bind (wpAny_mono h₃ (fun x s₃ h₃ => wpAny_bind (wpAny_mono h₃ (fun _ s₄ h₄ => wpAny_pure (wpAny_pure ⟨rfl, h₄⟩)) fun _ _ h' => h')) fun _ _ h' => h'))
    | false =>
      rw [if_neg Bool.false_ne_true] at h₃
      simp only [Bool.false_eq_true, if_false]
      exact wpAny_bind (wpAny_pure (wpAny_pure ⟨rfl, h₃⟩))
theorem iO {elt target iter : Expr} {scope : Scope} {pos : Pos} {it acc : Value} {env : Env} (I : Nat → Shared → Prop)
    (turn : ∀ n s, I n s → wpAny (model prog w) A (pyNext it) (fun r s₁ => match r with
      | none => R (.ok .next) s₁
      | some v => wpAny (model prog w) A (letOwnedTupleGo target it v) (fun _ s₁ => wpAny (model prog w) A (assign target env v) (fun _ s₂ => wpAny (model prog w) A (eval elt env) (fun x s₃ =>
          wpAny (model prog w) A (call (.builtin "list.append") [acc, x]) (fun _ s₄ => ∃ m, m < n ∧ I m s₄) (notedBy (model prog w) A env fun e s' => R (.error e) s') s₃)
          (notedBy (model prog w) A env fun e s' => R (.error e) s') s₂) (notedBy (model prog w) A env fun e s' => R (.error e) s') s₁) (notedBy (model prog w) A env fun e s' => R (.error e) s') s₁) (notedBy (model prog w) A env fun e s' => R (.error e) s') s)
    (n : Nat) (h : I n s) :
    codeAny (model prog w) A (.compLoop (.ListComp elt [⟨target, iter, [], 0⟩] scope pos) 0 it acc env) R s := by
  refine codeAny_loop rfl I (fun n s hI => ?_) n h
  show wpAny _ _ ((compTurn (.ListComp elt [⟨target, iter, [], 0⟩] scope pos) 0 it acc env).onRaise (fun x => do noteFrame x env; theTreesLotGoes x)) _ _ s
  refine wpAny_noted ?_
  rw [compTurn_list1]
  refine wpAny_bind (wpAny_standAt (wpAny_bind (wpAny_mono (turn n s hI) (fun r s₁ h₁ => ?_) fun _ _ h' => h')))
  cases r with
  | none => exact wpAny_pure h₁
  | some v =>
    exact wpAny_bind (wpAny_mono h₁ (fun _ s₁ h₁ => wpAny_bind (wpAny_mono h₁ (fun _ s₂ h₂ => wpAny_bind (wpAny_bind (wpAny_mono h₂ (fun x s₃ h₃ => wpAny_bind (wpAny_mono h₃
      (fun _ s₄ h₄ => wpAny_pure (wpAny_pure ⟨rfl, h₄⟩)) fun _ _ h' => h')) fun _ _ h' => h'))) fun _ _ h' => h')) fun _ _ h' => h')
end
def qL (X:Cx) (ifs:List Expr) (tc:TT):Prop:=match ifs with
 | []=>tc=fun _ H Q=>Q true H
 | [c]=>PT X c tc
 | _=>False
section
variable {X:Cx}
theorem uY {scope:Scope} {ys:List Str} {is:List Nat} (h:fH X scope ys is):is.length=ys.length:=by
 induction h with
 | nil=>rfl
 | cons _ _ _ _ ih=>simp [ih]
theorem lA {scope : Scope} {ys : List Str} {is : List Nat} (h : fH X scope ys is) {y : Str} (hy : y ∈ ys) : X.env.kindOf y = some .cell ∨ X.env.kindOf y = some .free := by
  induction h with
  | nil => cases hy
  | cons _ h2 _ _ ih =>
    rcases List.mem_cons.mp hy with e | e
    · rw [e]; exact h2
    · exact ih e
theorem lG {elt iter : Expr} {ifs : List Expr} {x : Str} {px pos : Pos} {scope : Scope} {ys : List Str} {is : List Nat} {tc : TT} {te : TE} {pins : List (Addr × Obj)} {σ : St} {H2 : Hp} {s2 : Shared} {it : Addr} {fp : List Addr} {tn : Nat → Heap → Prop} {J : It} {E : Value → Shared → Prop} {Q : VK} {RR : Value → Addr → Result → Shared → Prop}
    (hc : X.calm = true) (S : eH scope x ys) (hcap : fH X scope ys is)
    (hif : ∀ C s H fp, qL (bK X scope C (x :: ys) s H fp) ifs tc) (he : ∀ C s H fp, PE (bK X scope C (x :: ys) s H fp) elt te)
    (I2 : Inv X pins σ H2 s2) (T : kW X.prog X.w X.K (.Name x px) J fp it tn) (st2 : tn 0 s2.heap) (f2 : ∀ b ∈ fp, iS X pins H2 b)
    (hW : ∀ D, H2 D = none → ∃ W : Nat → Nat → List V → Hp → Prop, (∃ m, W 0 m [] (upd H2 D (.lst []))) ∧
      ∀ i m ys H2, W i m ys H2 → (J.stop i H2 ∧ Q (.ref D) H2) ∨ (J.go i H2 ∧ ∀ x H3, J.yld i H2 x H3 → tc (some x :: bY σ is) H3 fun b H4 => if b = true then
        te (some x :: bY σ is) H4 fun y H5 => H5 D = some (.lst ys) ∧ ys.length < sizeLine ∧ ∃ m', m' < m ∧ W (i + 1) m' (ys ++ [y]) (upd H5 D (.lst (ys ++ [y])))
        else ∃ m', m' < m ∧ W (i + 1) m' ys H4))
    (hRR : ∀ D C H' s', (X.s₀.heap.objs.size ≤ C ∧ ∀ p ∈ X.pn ++ pins, p.1 ≠ C) → (∃ m, s'.heap.Ns C m) → C ≠ X.env.locals → H' C = none → Inv X pins σ H' s' → (∀ h', Heap.SameBut C s'.heap h' → Inv X pins σ H' { s' with heap := h' }) → Q (.ref D) H' → RR (.ref D) C (.ok .next) s') :
    wpAny (model X.prog X.w) X.A (newList []) (fun acc s₃ => wpAny (model X.prog X.w) X.A (newFunctionEnv scope X.env.globals (dC scope.names X.env.cells []) [] X.env.qual none .none (some X.env)) (fun cenv s₄ =>
      codeAny (model X.prog X.w) X.A (.compStart (.ListComp elt [⟨.Name x px, iter, ifs, 0⟩] scope pos) 0 (.ref it) acc { cenv with scope := relabel scope X.env }) (RR acc cenv.locals) s₄) E s₃) E s2 := by
  have hf2 : H2 s2.heap.objs.size = none := I2.fresh
  refine wpAny_newObj_type (wpAny_newFunctionEnv S.nocell (by intro y hy; simp at hy) (fun h₁ hns₁ hsb₁ => ?_) S.kind)
  dsimp only at hns₁ hsb₁ ⊢
  have I3 : Inv X pins σ (upd H2 s2.heap.objs.size (.lst [])) { s2 with heap := s2.heap.push { cls := .type "list", data := .seq ([] : List Value).toArray } } := I2.lnew (t' := s2.toks) (ys := []) .nil (Nat.zero_le _)
  obtain ⟨W, ⟨m0, w0⟩, turn⟩ := hW _ hf2
  generalize hD : s2.heap.objs.size = D at I3 w0 turn hf2 ⊢
  generalize hs3 : ({ s2 with heap := s2.heap.push { cls := .type "list", data := .seq ([] : List Value).toArray } } : Shared) = s3 at I3
  have hp3 : s2.heap.push { cls := .type "list", dict := none, data := .seq ([] : List Value).toArray } = s3.heap := by rw [← hs3]
  rw [hp3] at hns₁ hsb₁ ⊢
  have tk3 : s2.toks = s3.toks := by rw [← hs3]
  generalize hH3 : upd H2 D (.lst []) = H3 at I3 w0
  generalize hC : s3.heap.objs.size = C at hns₁ hsb₁ ⊢
  have keep2 : ∀ b o, s2.heap.get? b = some o → s3.heap.get? b = some o := fun b o e => by rw [← hp3]; exact Heap.get?_push_of_some _ e
  have keep3 : ∀ b o, s3.heap.get? b = some o → h₁.get? b = some o := fun b o e => hsb₁.extBut b o (by rw [← hC]; exact Nat.ne_of_lt (Heap.lt_size e)) (Heap.get?_push_of_some _ e)
  have st3 : tn 0 s3.heap := T.keep _ _ _ st2 fun b _ o e => keep2 b o e
  have st4 : tn 0 h₁ := T.keep _ _ _ st3 fun b _ o e => keep3 b o e
  have fp3 : ∀ b ∈ fp, H3 b = none ∧ b < C := fun b hb => by
    obtain ⟨o, e, _⟩ := T.obj _ _ st2 b hb
    refine ⟨?_, by rw [← hC]; exact Heap.lt_size (keep2 b o e)⟩
    rw [← hH3, aI (by rw [← hD]; exact Nat.ne_of_lt (Heap.lt_size e))]
    exact (f2 b hb).1
  have hcells : ∀ {z : Str} {c : Addr}, (dC scope.names X.env.cells []).lookup z = some c → X.env.cells.lookup z = some c := fun h => lI (fun _ _ q => by cases q) h
  have hX : (bK X scope C (x :: ys) s3 H3 fp).Ok := by
    refine ⟨I3.ok.mod, S.kind, I3.ok.glob, I3.ok.blt, Nat.le_of_eq hC, fun y z c h1 h2 => I3.ok.inj y z c (hcells h1) (hcells h2), fun y hy => ?_, fun y c h _ => absurd (show false = true from h) Bool.false_ne_true, I3.ok.hd, I3.ok.frames, .inl rfl, fun b hb => ⟨Nat.ne_of_lt (fp3 b hb).2, fun y c h => (f2 b hb).2.2.2.2.1 y c (hcells h)⟩, fun b o e => I3.bs b o e, Nat.le_trans I3.ok.bsz I3.sz, fun b o e hb => ?_, fun b hb z => ?_, I3.stack, I3.stkFree⟩
    · have hy : (relabel scope X.env).names.lookup y = some .cell ∨ (relabel scope X.env).names.lookup y = some .free := hy
      have hm : (y, NameKind.free) ∈ scope.names := by
        rcases hy with q | q
        · exact gT S.nocell q (.inl rfl)
        · exact gT S.nocell q (.inr rfl)
      have hs : ∃ c, X.env.cells.lookup y = some c := by
        by_cases hk : X.env.kindOf y = some .cell ∨ X.env.kindOf y = some .free
        · exact I3.ok.has y hk
        · exact absurd (lA hcap (S.all _ hm rfl)) hk
      exact Option.isSome_iff_exists.mp (je hm (Option.isSome_iff_exists.mpr hs))
    · rcases (f2 b hb).2.2.2.1 with z | z
      · exact I3.ok.noex b o e z
      · exact absurd (Nat.lt_of_lt_of_le (Heap.lt_size e) (Nat.le_trans I3.ok.bsz z)) (Nat.lt_irrefl _)
    · rcases List.mem_cons.mp (I3.stkSub b z) with q | q
      · exact (f2 b hb).2.1 q
      · exact (f2 b hb).2.2.1 q
  have I4 : Inv (bK X scope C (x :: ys) s3 H3 fp) [] (none :: bY σ is) H3 { s2 with heap := h₁, toks := s2.toks + ([] : List (Str × Value)).length } := by
    obtain ⟨m3, hm3, hl3⟩ := id I3.loc
    refine ⟨hX, ?_, ?_, Un.kept keep3, ⟨_, hns₁, fun i y v e1 e2 e3 => ?_⟩, fun y c e => ?_, ?_, fun y c e => I3.freeC y c (hcells e), fun p hp => absurd (show p ∈ ([] : List (Addr × Obj)) from hp) (by simp), I3.hok.kept keep3, ?_⟩
    · show s2.os = s3.os
      rw [← hs3]
    · have := I2.bare; exact this
    · cases i with
      | zero => simp at e2
      | succ j =>
        obtain ⟨u, r, hfr, c, ec, ic⟩ := tD hcap hl3 trivial j y v (by have e1' : (x :: ys)[j + 1]? = some y := e1; simpa using e1') (by simpa using e2)
        have hk := nF (env := X.env) hfr
        obtain ⟨c', ec'⟩ := Option.isSome_iff_exists.mp (je (cs := []) (kJ hfr) (by rw [ec]; rfl) (cells := X.env.cells))
        have : c' = c := by have := hcells ec'; rw [ec] at this; exact (Option.some.inj this).symm
        subst this
        obtain ⟨o, ho, hd⟩ := ic
        exact ⟨u, r, .inr ⟨hk, c', ec', o, keep3 _ _ ho, hd⟩⟩
    · obtain ⟨v, o, ho, hd⟩ := I3.cell y c (hcells e)
      exact ⟨v, o, keep3 _ _ ho, hd⟩
    · have := I3.hok.fresh (a := C) (Nat.le_of_eq hC)
      exact this
    · have := uY hcap
      show (none :: bY σ is).length = (x :: ys).length
      simp [bY, this]
  have lenσ : ∀ v : Option V, (v :: bY σ is).set 0 = fun w => w :: bY σ is := fun v => rfl
  have hown : (relabel scope X.env).names.lookup x = some .local := lS S.own
  have loop : codeAny (model X.prog X.w) X.A (.compLoop (.ListComp elt [⟨.Name x px, iter, ifs, 0⟩] scope pos) 0 (.ref it) (.ref D) (compEnvC scope (dC scope.names X.env.cells []) C X.env)) (RR (.ref D) C)
      { s2 with heap := h₁, toks := s2.toks + ([] : List (Str × Value)).length } := by
    have fin : ∀ {H' : Hp} {v : Option V} {s' : Shared}, Inv (bK X scope C (x :: ys) s3 H3 fp) [] (v :: bY σ is) H' s' → Q (.ref D) H' → RR (.ref D) C (.ok .next) s' := fun {H' v s'} J q => by
      obtain ⟨m', hm', _⟩ := J.loc
      have hCL : C ≠ X.env.locals := Ne.symm (by rw [← hC]; exact Nat.ne_of_lt I3.lt)
      have back : ∀ h', Heap.SameBut C s'.heap h' → Inv X pins σ H' { s' with heap := h' } := fun h' hs' => by
        have os' : s'.os = s3.os := J.os
        refine I3.call' (s' := { s' with heap := h' }) (ch := fp) os' ⟨fun b o e n hb hx => ?_, fun b o e n hb hx => ?_, fun b o e n hx => J.base.free b o e n hx, fun b o e hx => ?_, J.base.tups, J.base.frzs, J.base.tbls⟩ (fun b o e => ?_) J.bare fun b hb => ?_
        · exact hs'.extBut b o (by rw [← hC]; exact Nat.ne_of_lt (Heap.lt_size e)) (J.base.keep b o e n hb hx)
        · obtain ⟨sl, e1⟩ := J.base.slot b o e n hb hx
          exact ⟨sl, hs'.extBut b _ (by rw [← hC]; exact Nat.ne_of_lt (Heap.lt_size e)) e1⟩
        · obtain ⟨o', e1⟩ := J.base.there b o e hx
          exact ⟨o', hs'.extBut b _ (by rw [← hC]; exact Nat.ne_of_lt (Heap.lt_size e)) e1⟩
        · refine (J.hok b o e).stay (fun c w' hc q => (hs'.2 c ?_).trans q) (fun _ q => q) fun _ _ q => q
          have fC : H' C = none := J.free
          rintro rfl
          rcases hc with rfl | hc
          · rw [fC] at e; cases e
          · rw [fC] at hc; cases hc
        · obtain ⟨_, a1, _, a2, a3, a4⟩ := f2 b hb
          exact ⟨a2, a1, a3, a4⟩
      refine hRR D C H' s' ⟨by rw [← hC]; exact I3.sz, fun p hp => by rw [← hC]; exact Nat.ne_of_lt (Heap.lt_size (I3.pin p hp).1)⟩ ⟨m', hm'⟩ hCL J.free ?_ back q
      have := back s'.heap (.refl ..)
      exact this
    have stat : ∀ {H' : Hp}, (∀ b ∈ fp, H' b = none) → ∀ b ∈ fp, iS (bK X scope C (x :: ys) s3 H3 fp) [] H' b := fun hn b hb => by
      obtain ⟨_, a1, a5, a2, a3, a4⟩ := f2 b hb
      refine ⟨hn b hb, Nat.ne_of_lt (fp3 b hb).2, fun z => ?_, .inl hb, fun y c e => a3 y c (hcells e), fun p hp => absurd (show p ∈ ([] : List (Addr × Obj)) from hp) (by simp)⟩
      rcases List.mem_cons.mp (I3.stkSub b z) with q | q
      · exact a1 q
      · exact a5 q
    have turnAt : ∀ n s, (∃ i v ys' H', Inv (bK X scope C (x :: ys) s3 H3 fp) [] (v :: bY σ is) H' s ∧ tn i s.heap ∧ (∀ b ∈ fp, H' b = none) ∧ W i n ys' H') →
        wpAny (model X.prog X.w) X.A (pyNext (.ref it)) (fun r s₁ => match r with
          | none => RR (.ref D) C (.ok .next) s₁
          | some u => wpAny (model X.prog X.w) X.A (letOwnedTupleGo (.Name x px) (.ref it) u) (fun _ s₁ => wpAny (model X.prog X.w) X.A (assign (.Name x px) (compEnvC scope (dC scope.names X.env.cells []) C X.env) u) (fun _ s₂ =>
            ∃ (xx : V) (i : Nat) (ys' : List V) (H3' H6 : Hp) (pl : List (Addr × Obj)), Inv (bK X scope C (x :: ys) s3 H3 fp) ([] ++ pl) (some xx :: bY σ is) H6 s₂ ∧
              (∀ s7 v7 H7, Inv (bK X scope C (x :: ys) s3 H3 fp) ([] ++ pl) (v7 :: bY σ is) H7 s7 → Inv (bK X scope C (x :: ys) s3 H3 fp) [] (v7 :: bY σ is) H7 s7 ∧ tn (i + 1) s7.heap ∧ ∀ b ∈ fp, H7 b = none) ∧
              (tc (some xx :: bY σ is) H6 fun b H4 => if b = true then te (some xx :: bY σ is) H4 fun y H5 => H5 D = some (.lst ys') ∧ ys'.length < sizeLine ∧ ∃ m', m' < n ∧ W (i + 1) m' (ys' ++ [y]) (upd H5 D (.lst (ys' ++ [y])))
                else ∃ m', m' < n ∧ W (i + 1) m' ys' H4)) (fun _ _ => False) s₁) (fun _ _ => False) s₁) (fun _ _ => False) s := by
      rintro n s ⟨i, v, ys', H', J, st, fr, w'⟩
      rcases turn i n ys' H' w' with ⟨stop, qn⟩ | ⟨go, step⟩
      · refine thn (T.done (bK X scope C (x :: ys) s3 H3 fp) rfl rfl rfl hc i [] s _ H' (fun _ _ => False) J (stat fr) st stop) fun r s4 ⟨hr, J4⟩ => ?_
        subst hr
        exact fin J4 qn
      · refine thn (T.item (bK X scope C (x :: ys) s3 H3 fp) rfl rfl rfl hc i [] s _ H' (fun _ _ => False) J (stat fr) st go) fun r s4 ⟨u, hr, h4⟩ => ?_
        subst hr
        refine thn h4 fun _ s5 ⟨xx, H5, J5, r5, y5, st5, fr5⟩ => ?_
        have J5' := J5.pinned (stat fr5) (T.obj _ _ st5)
        refine wpAny_assign_Name (eY (i := 0) J5' S.nd rfl (.inl hown) r5 (fun s6 J6 => ?_) (.inr hown))
        refine ⟨xx, i, ys', H5, H5, jf fp s5.heap, J6, fun s7 v7 H7 J7 => ⟨J7.unpinned, T.keep _ _ _ st5 fun b hb o e => (J7.pin (b, o) (List.mem_append_right _ (List.mem_append_right _ (fN hb e)))).1, fun b hb => ?_⟩, step xx H5 y5⟩
        obtain ⟨o, e, d⟩ := T.obj _ _ st5 b hb
        exact (J7.pin (b, o) (List.mem_append_right _ (List.mem_append_right _ (fN hb e)))).2.1
    have start0 : ∃ i v ys' H', Inv (bK X scope C (x :: ys) s3 H3 fp) [] (v :: bY σ is) H' { s2 with heap := h₁, toks := s2.toks + ([] : List (Str × Value)).length } ∧ tn i h₁ ∧ (∀ b ∈ fp, H' b = none) ∧ W i m0 ys' H' :=
      ⟨0, none, [], H3, I4, st4, fun b hb => (fp3 b hb).1, w0⟩
    have emit : ∀ (n : Nat) (xx : V) (i : Nat) (ys' : List V) (H4 : Hp) (pl : List (Addr × Obj)) (s₂ : Shared), Inv (bK X scope C (x :: ys) s3 H3 fp) ([] ++ pl) (some xx :: bY σ is) H4 s₂ →
        (∀ s7 v7 H7, Inv (bK X scope C (x :: ys) s3 H3 fp) ([] ++ pl) (v7 :: bY σ is) H7 s7 → Inv (bK X scope C (x :: ys) s3 H3 fp) [] (v7 :: bY σ is) H7 s7 ∧ tn (i + 1) s7.heap ∧ ∀ b ∈ fp, H7 b = none) →
        (te (some xx :: bY σ is) H4 fun y H5 => H5 D = some (.lst ys') ∧ ys'.length < sizeLine ∧ ∃ m', m' < n ∧ W (i + 1) m' (ys' ++ [y]) (upd H5 D (.lst (ys' ++ [y])))) →
        wpAny (model X.prog X.w) X.A (eval elt (compEnvC scope (dC scope.names X.env.cells []) C X.env)) (fun y s₃ => wpAny (model X.prog X.w) X.A (call (.builtin "list.append") [.ref D, y]) (fun _ s₄ =>
          ∃ m, m < n ∧ ∃ i v ys' H', Inv (bK X scope C (x :: ys) s3 H3 fp) [] (v :: bY σ is) H' s₄ ∧ tn i s₄.heap ∧ (∀ b ∈ fp, H' b = none) ∧ W i m ys' H') (fun _ _ => False) s₃) (fun _ _ => False) s₂ := by
      intro n xx i ys' H4 pl s₂ J2 back q
      refine thn (he C s3 H3 fp ([] ++ pl) s₂ _ H4 _ J2 q) fun y s₃ ⟨yv, H5, J3, r3, q1, q2, q3⟩ => ?_
      refine thn (lu (X := bK X scope C (x :: ys) s3 H3 fp) ([] ++ pl) s₃ _ H5 (.ref D) [yv] (.ref D) [y] (fun v H7 => v = .non ∧ H7 = upd H5 D (.lst (ys' ++ [yv]))) J3 rfl (.cons r3 .nil) ⟨D, ys', yv, rfl, rfl, q1, q2, rfl, rfl⟩) fun _ s₄ ⟨_, H7, J4, _, _, e7⟩ => ?_
      subst e7
      obtain ⟨m', hm', w'⟩ := q3
      obtain ⟨b1, b2, b3⟩ := back s₄ _ _ J4
      exact ⟨m', hm', i + 1, some xx, ys' ++ [yv], _, b1, b2, b3, w'⟩
    have ex0 : ∀ {α : Type} {t : Sem α} {Q' : α → Shared → Prop} {E' : Value → Shared → Prop} {s : Shared}, wpAny (model X.prog X.w) X.A t Q' (fun _ _ => False) s → wpAny (model X.prog X.w) X.A t Q' E' s := fun h => wpAny_mono h (fun _ _ q => q) fun _ _ q => q.elim
    cases ifs with
    | nil =>
      have htc : tc = fun _ H Q => Q true H := hif C s3 H3 fp
      subst htc
      refine iO (fun n s => ∃ i v ys' H', Inv (bK X scope C (x :: ys) s3 H3 fp) [] (v :: bY σ is) H' s ∧ tn i s.heap ∧ (∀ b ∈ fp, H' b = none) ∧ W i n ys' H') (fun n s hI => ?_) m0 start0
      refine wpAny_mono (turnAt n s hI) (fun r s₁ h₁ => ?_) fun _ _ q => q.elim
      cases r with
      | none => exact h₁
      | some u =>
        refine wpAny_mono h₁ (fun _ s₁ h₁ => wpAny_mono h₁ (fun _ s₂ h₂ => ?_) fun _ _ q => q.elim) fun _ _ q => q.elim
        obtain ⟨xx, i, ys', _, H6, pl, J2, back, q⟩ := h₂
        dsimp only at q
        rw [if_pos rfl] at q
        exact wpAny_mono (emit n xx i ys' H6 pl s₂ J2 back q) (fun y s₃ h₃ => ex0 h₃) fun _ _ q => q.elim
    | cons c r0 =>
      cases r0 with
      | cons _ _ => exact (hif C s3 H3 fp).elim
      | nil =>
        have hpt : PT (bK X scope C (x :: ys) s3 H3 fp) c tc := hif C s3 H3 fp
        refine iN (fun n s => ∃ i v ys' H', Inv (bK X scope C (x :: ys) s3 H3 fp) [] (v :: bY σ is) H' s ∧ tn i s.heap ∧ (∀ b ∈ fp, H' b = none) ∧ W i n ys' H') (fun n s hI => ?_) m0 start0
        refine wpAny_mono (turnAt n s hI) (fun r s₁ h₁ => ?_) fun _ _ q => q.elim
        cases r with
        | none => exact h₁
        | some u =>
          refine wpAny_mono h₁ (fun _ s₁ h₁ => wpAny_mono h₁ (fun _ s₂ h₂ => ?_) fun _ _ q => q.elim) fun _ _ q => q.elim
          obtain ⟨xx, i, ys', _, H6, pl, J2, back, q⟩ := h₂
          refine wpAny_mono (hpt ([] ++ pl) s₂ _ H6 _ J2 q) (fun b s₃ h₃ => ?_) fun _ _ q => q.elim
          obtain ⟨H4, J4, q4⟩ := h₃
          cases b with
          | true =>
            rw [if_pos rfl] at q4 ⊢
            exact wpAny_mono (emit n xx i ys' H4 pl s₃ J4 back q4) (fun y s₃ h₃ => ex0 h₃) fun _ _ q => q.elim
          | false =>
            rw [if_neg Bool.false_ne_true] at q4 ⊢
            obtain ⟨m', hm', w'⟩ := q4
            obtain ⟨b1, b2, b3⟩ := back s₃ _ _ J4
            exact ⟨m', hm', i + 1, some xx, ys', _, b1, b2, b3, w'⟩
  exact codeAny_compStart_list loop (T.self X.A 0 _ _ _ st4 loop)
end
section
variable {X:Cx}
theorem pA {scope:Scope} {x:Str} {ys:List Str} {is:List Nat} (ok:X.Ok) (S:eH scope x ys) (hcap:fH X scope ys is):closureFor scope X.env=pure (dC scope.names X.env.cells []):=
 mZ fun y hy hk=>by
  obtain ⟨c,e⟩:=ok.has y.1 (lA hcap (S.all y hy hk))
  rw [e];rfl
theorem xH {elt iter:Expr} {ifs:List Expr} {x:Str} {px pos:Pos} {scope:Scope} {ys:List Str} {is:List Nat} {wi:TI} {tc:TT} {te:TE}
  (hc:X.calm=true) (S:eH scope x ys) (hcap:fH X scope ys is) (hi:PI X (.Name x px) iter wi)
  (hif:∀ C s H fp,qL (bK X scope C (x::ys) s H fp) ifs tc) (he:∀ C s H fp,PE (bK X scope C (x::ys) s H fp) elt te)
  (hs:∀ x,foldedSetIterable iter X.env x=pure x:=by intro _;rfl):PE X (.ListComp elt [⟨.Name x px,iter,ifs,0⟩] scope pos) (gG is wi tc te):=by
 intro pins s σ H Q I h
 rw [eval_ListComp]
 refine wpAny_comprehension_free (use:=none) rfl hs (pA I.ok S hcap) S.kind S.names (thn (hi pins s σ H _ I h) fun v s1 h1=>thn h1 fun itv s2 h2=>?_)
 obtain ⟨it,fp,tn,J,H2,rfl,I2,T,st2,f2,hW⟩:=h2
 refine lG (RR:=fun acc C=>compPost (model X.prog X.w) X.A X.xe none (EP X pins σ Q) acc C) hc S hcap hif he I2 T st2 f2 hW ?_
 intro D C H' s' hlt hns hne hfr I' back q
 obtain ⟨m,hm⟩:=hns
 exact ⟨m,hm,fun h' hs'=>⟨.ref D,H',back h' hs',rfl,q⟩⟩
theorem pW {elt iter:Expr} {ifs:List Expr} {x y:Str} {px py pos spos:Pos} {scope:Scope} {ys:List Str} {is:List Nat} {wi:TI} {tc:TT} {te:TE} {j:Nat}
  (hN:X.N.Nodup) (hj:X.N[j]?=some y) (hy:Loc X.env.scope y)
  (hc:X.calm=true) (S:eH scope x ys) (hcap:fH X scope ys is) (hi:PI X (.Name x px) iter wi)
  (hif:∀ C s H fp,qL (bK X scope C (x::ys) s H fp) ifs tc) (he:∀ C s H fp,PE (bK X scope C (x::ys) s H fp) elt te)
  (hsw:swapsWith (.ListComp elt [⟨.Name x px,iter,ifs,0⟩] scope pos) (some (.Name y py)) spos.line X.env=pure true:=by rfl)
  (hf:X.fn y=true∨X.env.scope.names.lookup y=some .local:=by first | exact .inl rfl | exact .inr rfl | assumption)
  (hs:∀ x,foldedSetIterable iter X.env x=pure x:=by intro _;rfl):PS X (.Assign [.Name y py] (.ListComp elt [⟨.Name x px,iter,ifs,0⟩] scope pos) spos) (aB (gG is wi tc te) (ay j)):=by
 intro pins s σ H D I h
 rw [exec_Assign_Name_used _ _ _ _ hsw]
 refine wpAny_bind (wpAny_standAt (wpAny_bind ?_))
 show wpAny _ X.A (do let _←comprehension (.ListComp elt [⟨.Name x px,iter,ifs,0⟩] scope pos) scope X.env _ (newList []) false (eval iter X.env) (some (assign (.Name y py) X.env))) _ _ s
 refine wpAny_bind (wpAny_mono (wpAny_comprehension_free (use:=some (assign (.Name y py) X.env)) (Q:=fun _ s'=>SP X pins D .next s') rfl hs (pA I.ok S hcap) S.kind S.names
  (thn (hi pins s σ H _ I h) fun v s1 h1=>thn h1 fun itv s2 h2=>?_)) (fun _ s' hq=>wpAny_pure (wpAny_pure hq)) fun _ _ e=>e)
 obtain ⟨it,fp,tn,J,H2,rfl,I2,T,st2,f2,hW⟩:=h2
 refine lG (Q:=fun x H1=>ay j x σ H1 D.nx) (RR:=fun acc C=>compPost (model X.prog X.w) X.A X.xe (some (assign (.Name y py) X.env)) (fun _ s'=>SP X pins D .next s') acc C) hc S hcap hif he I2 T st2 f2 hW ?_
 intro Da C H' s' hlt hns hne hfr I' back q
 show wpAny _ X.A (assign (.Name y py) X.env (.ref Da)) _ _ _
 obtain ⟨m,hm⟩:=hns
 refine wpAny_assign_Name (lw I' hN hj hy (v:=.ref Da) rfl (fun s2 I2' ⟨a,hsb,ha⟩=>?_) hf)
 have hCa:C≠a:=by
  rcases ha with e | e
  · rw [e];exact hne
  · rintro rfl
    obtain ⟨v,o,ho,hd⟩:=I'.cell y C e
    obtain ⟨o2,es,ep,ho2,hd2,_⟩:=hm
    rw [ho] at ho2;cases ho2;rw [hd] at hd2;cases hd2
 refine ⟨m,hm.sameBut hsb hCa,fun h' hs'=>?_⟩
 have hCn:∀ y c,X.env.cells.lookup y=some c→c≠C:=fun z c e q=>by
  subst q
  obtain ⟨v,o,ho,hd⟩:=I'.cell z c e
  obtain ⟨o2,es,ep,ho2,hd2,_⟩:=hm
  rw [ho] at ho2;cases ho2;rw [hd] at hd2;cases hd2
 have I3:Inv X pins (σ.set j (some (.ref Da))) H' { s2 with heap:=h' }:=by
  refine I2'.step (g':=s2.gens) (d':=s2.drawn) (t':=s2.toks) (ch:=[C]) (fun b hb=>?_) (fun b o _ _ hb e _=>(hs'.2 b (fun z=>hb (by simp [z]))).trans e) (fun b o _ _ hb e _=>⟨o.slots,(hs'.2 b (fun z=>hb (by simp [z]))).trans e⟩) (fun _ _ _ _ n=>n) (fun b o hb e=>⟨o,(hs'.2 b (fun z=>hb (by simp [z]))).trans e⟩)
    (fun _ _ e=>e) (fun _ _ _ e=>e) (fun b ps e=>⟨#[],by rw [e];simp⟩) (fun m' hm'=>hm'.sameBut hs' (Ne.symm hne)) (fun b o e=>?_) I2'.bare
  · have e:b=C:=by simpa using hb
    subst e
    exact ⟨.inr hlt.1,hne,fun z c e=>hCn z c e,hlt.2⟩
  · refine (I2'.hok b o e).stay (fun c w' hc q=>(hs'.2 c ?_).trans q) (fun _ q=>q) fun _ _ q=>q
    rintro rfl
    rcases hc with rfl | hc
    · rw [hfr] at e;cases e
    · rw [hfr] at hc;cases hc
 exact ⟨_,H',I3,q⟩
end
def tyN (H : Hp) : V → Option String
  | .non => some "NoneType"
  | .bl _ => some "bool"
  | .int _ => some "int"
  | .str _ => some "str"
  | .ref a => match H a with
    | some (.lst _) => some "list"
    | some (.frz _ (.lst _)) => some "list"
    | some (.tup _) => some "tuple"
    | some (.dK _) => some "dict"
    | some (.dT _) => some "dict"
    | _ => none
  | _ => none
theorem An {K : W.Frag} {H : Hp} {x : V} {t : String} (h : tyN H x = some t) : fc K H x (.type t) := by
  cases x with
  | non => cases h; exact .non
  | bl b => cases h; exact .bl b
  | int i => cases h; exact .int i
  | str x => cases h; exact .str x
  | byt _ => cases h
  | flt _ => cases h
  | ty _ => cases h
  | ref a =>
    unfold tyN at h
    dsimp only at h
    split at h
    · rename_i e; cases h; exact .lst e
    · rename_i e; cases h; exact .frz e
    · rename_i e; cases h; exact .tup e
    · rename_i e; cases h; exact .dK e
    · rename_i e; cases h; exact .dT e
    · cases h
def tyL:List String:=["NoneType", "bool", "int", "str", "list", "tuple", "dict"]
theorem yU {H : Hp} {x : V} {t : String} (h : tyN H x = some t) : t ∈ tyL := by
  cases x with
  | non => cases h; decide
  | bl b => cases h; decide
  | int i => cases h; decide
  | str x => cases h; decide
  | byt _ => cases h
  | flt _ => cases h
  | ty _ => cases h
  | ref a =>
    unfold tyN at h
    dsimp only at h
    split at h <;> first | (cases h; decide) | cases h
def isI (t T:String):Bool:=t==T||(T== "int" &&t== "bool")
theorem yT (K:W.Frag):∀ t∈tyL,∀ T∈["int", "bool", "str", "tuple", "list", "dict"],W.kitOne K (.type t) (.type T)=some (isI t T):=by
 intro t ht T hT
 simp only [tyL,List.mem_cons,List.not_mem_nil,or_false] at ht hT
 rcases ht with rfl | rfl | rfl | rfl | rfl | rfl | rfl <;> rcases hT with rfl | rfl | rfl | rfl | rfl | rfl <;> (unfold W.kitOne;first | rfl | decide +kernel | (simp only [W.kitCls];rfl))
section
variable {X:Cx}
theorem uZ:bU X (.builtin "isinstance") (fun xs H Q=>∃ x T t,xs=[x,.ty T]∧T∈["int", "bool", "str", "tuple", "list", "dict"]∧tyN H x=some t∧Q (.bl (isI t T)) H):=by
 intro pins s σ H xs us Q I r h
 obtain ⟨x,T,t,rfl,hT,ht,q⟩:=h
 obtain ⟨u,w',rfl,r1,r2⟩:=mO r
 cases r2
 exact sS I r1 (An ht) (yT X.K t (yU ht) T hT) fun tk=>⟨.bl _,H,I.tok tk,rfl,q⟩
end
@[irreducible] def Sel (b:Bool) (A B:Prop):Prop:=if b=true then A else B
theorem Sel.mk {b:Bool} {A B:Prop} (h1:b=true→A) (h2:b=false→B):Sel b A B:=by
 unfold Sel
 cases b with
 | true=>exact h1 rfl
 | false=>exact h2 rfl
theorem Sel.t {A B:Prop} (h:A):Sel true A B:=.mk (fun _=>h) fun e=>by cases e
theorem Sel.f {A B:Prop} (h:B):Sel false A B:=.mk (fun e=>by cases e) fun _=>h
theorem Sel.dec {p A B:Prop} [Decidable p] (h1:p→A) (h2:¬ p→B):Sel (decide p) A B:=.mk (fun e=>h1 (of_decide_eq_true e)) fun e=>h2 (of_decide_eq_false e)
theorem Sel.ndec {p A B:Prop} [Decidable p] (h1:¬ p→A) (h2:p→B):Sel (!decide p) A B:=.mk (fun e=>h1 (by simpa using e)) fun e=>h2 (by simpa using e)
theorem Sel.yes {b:Bool} {A B:Prop} (e:b=true) (h:A):Sel b A B:=by rw [e];exact .t h
theorem Sel.no {b:Bool} {A B:Prop} (e:b=false) (h:B):Sel b A B:=by rw [e];exact .f h
theorem dR {b:Bool} {A B:Prop} (h:Sel b A B):if b=true then A else B:=by unfold Sel at h;exact h
def af (i:Nat):TE:=fun σ H Q=>match σ[i]? with | some (some v)=>Q v H | _=>False
section
variable {X:Cx}
theorem PE.imp {e:Expr} {t t':TE} (h:PE X e t) (i:∀ σ H Q,t' σ H Q→t σ H Q):PE X e t':=fun pins s σ H Q I q=>h pins s σ H Q I (i _ _ _ q)
theorem OpR.imp {f:Value→Value→Sem Value} {r r':R2} (h:OpR X f r) (i:∀ x y H Q,r' x y H Q→r x y H Q):OpR X f r':=fun pins s σ H x y v u Q I rx ry q=>h pins s σ H x y v u Q I rx ry (i _ _ _ _ q)
theorem qv (i:Nat) {x:Str} {pos:Pos} (hN:X.N[i]?=some x:=by rfl) (hv:Vis X.env.scope x:=by first | exact Or.inl rfl | exact Or.inr (Or.inl rfl) | exact Or.inr (Or.inr rfl)) (hd:(x==("__debug__" :Str))=false:=by decide)
   (hcd:(x==("__classdict__" :Str))=false:=by decide):PE X (.Name x pos) (af i):=(zE hN hv hd hcd).imp fun σ H Q q=>by
 unfold af at q
 split at q
 · rename_i v e;exact ⟨v,e,q⟩
 · exact q.elim
theorem qgi {x:Str} {i:Int} {pos:Pos} (hm:∃ t,X.mg x=some (.int i t)) (hg:Gl X x:=by rfl) (hd:(x==("__debug__" :Str))=false:=by decide):PE X (.Name x pos) (tC (.int i)):=by
 obtain ⟨t,e⟩:=hm
 exact pI hg e ⟨t,rfl⟩ hd
def cw:R2:=fun x y H Q=>match x,y with | .int i,.int j=>Q (.int (i - j)) H | _,_=>False
theorem cJ:OpR X (binaryOp .Sub) cw:=zG.imp fun x y H Q q=>by
 unfold cw at q
 split at q
 · exact ⟨_,_,rfl,rfl,q⟩
 · exact q.elim
theorem yz:OpR X (binaryOp .Mult) (rI IntMulOk fun i j=> .int (i*j)):=opI fun _ _ _ _ _ _ _ hc q=>mul_int q hc
def vU:R2:=fun x y H Q=>match x,y with
 | .int i,.int j=>IntMulOk i j∧Q (.int (i*j)) H
 | _,_=>False
theorem Gh:OpR X (binaryOp .Mult) vU:=yz.imp fun x y H Q q=>by
 unfold vU at q
 split at q
 · exact ⟨_,_,rfl,rfl,q.1,q.2⟩
 · exact q.elim
def bp:R2:=fun x y H Q=>match x,y with | .int i,.int j=>0<j∧Q (.int (i%j)) H | _,_=>False
theorem bx:OpR X (binaryOp .Mod) bp:=zQ.imp fun x y H Q q=>by
 unfold bp at q
 split at q
 · exact ⟨_,_,rfl,rfl,q.1,q.2⟩
 · exact q.elim
def fm:R2:=fun x y H Q=>match x,y with | .int i,.int j=>(0≤j∧j≤1000000∧i.natAbs<2^64)∧Q (.int (i^j.toNat)) H | _,_=>False
theorem gf:OpR X (binaryOp .Pow) fm:=BF.imp fun x y H Q q=>by
 unfold fm at q
 split at q
 · exact ⟨_,_,rfl,rfl,q.1,q.2⟩
 · exact q.elim
def cy:R2:=fun x y H Q=>match x,y with | .int i,.int j=>(0≤j∧j≤1000000∧i.natAbs<2^64)∧Q (.int (i*2^j.toNat)) H | _,_=>False
theorem cX:OpR X (binaryOp .LShift) cy:=Ak.imp fun x y H Q q=>by
 unfold cy at q
 split at q
 · exact ⟨_,_,rfl,rfl,q.1,q.2⟩
 · exact q.elim
def gw:R2:=fun x y H Q=>match x,y with | .int i,.int j=>0≤j∧Q (.int (i/2^j.toNat)) H | _,_=>False
theorem jL:OpR X (binaryOp .RShift) gw:=Bc.imp fun x y H Q q=>by
 unfold gw at q
 split at q
 · exact ⟨_,_,rfl,rfl,q.1,q.2⟩
 · exact q.elim
def gM:R2:=fun x y H Q=>match x,y with | .int i,.int j=>Q (.int (Builtin.bitXor i j)) H | _,_=>False
theorem oi:OpR X (binaryOp .BitXor) gM:=yJ.imp fun x y H Q q=>by
 unfold gM at q
 split at q
 · exact ⟨_,_,rfl,rfl,q⟩
 · exact q.elim
def qD:R2:=fun x y H Q=>match x,y with | .int i,.int j=>Q (.int (Builtin.bitAnd i j)) H | _,_=>False
theorem Ee:OpR X (binaryOp .BitAnd) qD:=yZ.imp fun x y H Q q=>by
 unfold qD at q
 split at q
 · exact ⟨_,_,rfl,rfl,q⟩
 · exact q.elim
def mLt:R2:=fun x y H Q=>match x,y with | .int i,.int j=>Q (.bl (decide (i<j))) H | _,_=>False
theorem oLt:OpR X (compareOp .Lt) mLt:=EX.imp fun x y H Q q=>by
 unfold mLt at q
 split at q
 · exact ⟨_,_,rfl,rfl,q⟩
 · exact q.elim
def mLe:R2:=fun x y H Q=>match x,y with | .int i,.int j=>Q (.bl (decide (i≤j))) H | _,_=>False
theorem oLe:OpR X (compareOp .LtE) mLe:=CN.imp fun x y H Q q=>by
 unfold mLe at q
 split at q
 · exact ⟨_,_,rfl,rfl,q⟩
 · exact q.elim
def mGt:R2:=fun x y H Q=>match x,y with | .int i,.int j=>Q (.bl (decide (j<i))) H | _,_=>False
theorem oGt:OpR X (compareOp .Gt) mGt:=Fj.imp fun x y H Q q=>by
 unfold mGt at q
 split at q
 · exact ⟨_,_,rfl,rfl,q⟩
 · exact q.elim
def mEq:R2:=fun x y H Q=>match x,y with
 | .int i,.int j=>Q (.bl (decide (i=j))) H
 | .str i,.str j=>Q (.bl (decide (i=j))) H
 | .bl i,.bl j=>Q (.bl (decide (i=j))) H
 | .non,.non=>Q (.bl true) H
 | .non,.int _=>Q (.bl false) H | .int _,.non=>Q (.bl false) H | .non,.bl _=>Q (.bl false) H | .bl _,.non=>Q (.bl false) H | .non,.str _=>Q (.bl false) H | .str _,.non=>Q (.bl false) H
 | .int _,.str _=>Q (.bl false) H | .str _,.int _=>Q (.bl false) H | .bl _,.str _=>Q (.bl false) H | .str _,.bl _=>Q (.bl false) H
 | _,_=>False
theorem ji {α:Type} [DecidableEq α] {f:α→V} (hf:∀ a b,f a=f b→a=b) (a b:α):decide (f a=f b)=decide (a=b):=by
 by_cases h:a=b
 · subst h;simp
 · rw [decide_eq_false h,decide_eq_false fun e=>h (hf a b e)]
theorem oEq:OpR X (compareOp .Eq) mEq:=Et.imp fun x y H Q q=>by
 unfold mEq at q
 split at q
 · exact ⟨rfl,by rw [ji (f:=V.int) fun _ _ e=>V.int.inj e];exact q⟩
 · exact ⟨rfl,by rw [ji (f:=V.str) fun _ _ e=>V.str.inj e];exact q⟩
 · exact ⟨rfl,by rw [ji (f:=V.bl) fun _ _ e=>V.bl.inj e];exact q⟩
 · exact ⟨rfl,by simpa using q⟩
 all_goals first | exact q.elim | exact ⟨rfl,q⟩
def mNe:R2:=fun x y H Q=>match x,y with
 | .int i,.int j=>Q (.bl (!decide (i=j))) H
 | .str i,.str j=>Q (.bl (!decide (i=j))) H
 | .bl i,.bl j=>Q (.bl (!decide (i=j))) H
 | .non,.non=>Q (.bl false) H
 | .non,.int _=>Q (.bl true) H | .int _,.non=>Q (.bl true) H | .non,.bl _=>Q (.bl true) H | .bl _,.non=>Q (.bl true) H | .non,.str _=>Q (.bl true) H | .str _,.non=>Q (.bl true) H
 | .int _,.str _=>Q (.bl true) H | .str _,.int _=>Q (.bl true) H | .bl _,.str _=>Q (.bl true) H | .str _,.bl _=>Q (.bl true) H
 | _,_=>False
theorem oNe:OpR X (compareOp .NotEq) mNe:=DG.imp fun x y H Q q=>by
 unfold mNe at q
 split at q
 · exact ⟨rfl,by rw [ji (f:=V.int) fun _ _ e=>V.int.inj e];exact q⟩
 · exact ⟨rfl,by rw [ji (f:=V.str) fun _ _ e=>V.str.inj e];exact q⟩
 · exact ⟨rfl,by rw [ji (f:=V.bl) fun _ _ e=>V.bl.inj e];exact q⟩
 · exact ⟨rfl,by simpa using q⟩
 all_goals first | exact q.elim | exact ⟨rfl,q⟩
def uL:R2:=fun x y H Q=>match y with | .non=>Q (.bl (match x with | .non=>true | _=>false)) H | _=>False
theorem oIs:OpR X (compareOp .Is) uL:=BH.imp fun x y H Q q=>by
 unfold uL at q
 split at q
 · refine ⟨rfl,?_⟩
   cases x <;> simpa using q
 · exact q.elim
def qx:R2:=fun x y H Q=>match y with | .non=>Q (.bl (match x with | .non=>false | _=>true)) H | _=>False
theorem AK:OpR X (compareOp .IsNot) qx:=yj.imp fun x y H Q q=>by
 unfold qx at q
 split at q
 · refine ⟨rfl,?_⟩
   cases x <;> simpa using q
 · exact q.elim
def aX (t:TE):TT:=fun σ H Q=>t σ H fun x H'=>match x with | .bl k=>Q k H' | _=>False
theorem qtc {op:CmpOp} {r:R2} {a b:Expr} {ta tb:TE} {pos:Pos} (ho:OpR X (compareOp op) r) (ha:PE X a ta) (hb:PE X b tb) (hm:behindInMarks op b=false:=by first | exact ky _ | rfl):PT X (.Compare a [op] [b] pos) (aX (tOp r ta tb)):=by
 intro pins s σ H Q I h
 refine wpAny_isTrue_Compare1 (thn (ha pins s σ H _ I h) fun v s1 ⟨x,H1,I1,r1,q1⟩=>thn (hb pins s1 σ H1 _ I1 q1) fun u s2 ⟨y,H2,I2,r2,q2⟩=>
  thn (ho pins s2 σ H2 x y v u _ I2 r1 r2 q2) fun c s3 ⟨z,H3,I3,r3,q3⟩=>?_) hm
 cases z <;> first | exact q3.elim | (cases r3;exact wpAny_truthy_bool ⟨H3,I3,q3⟩)
theorem qc {op:CmpOp} {r:R2} {a b:Expr} {ta tb:TE} {pos:Pos} (ho:OpR X (compareOp op) r) (ha:PE X a ta) (hb:PE X b tb) (hm:behindInMarks op b=false:=by first | exact ky _ | rfl):PE X (.Compare a [op] [b] pos) (tOp r ta tb):=yf ho ha hb hm
def dE (r r':R2) (ta tb tc:TE):TE:=fun σ H Q=>ta σ H fun x H1=>tb σ H1 fun y H2=>r x y H2 fun z H3=>match z with
 | .bl k=>Sel k (tc σ H3 fun w' H4=>r' y w' H4 Q) (Q (.bl false) H3)
 | _=>False
theorem qch {op op':CmpOp} {r r':R2} {a b c:Expr} {ta tb tc:TE} {pos:Pos} (ho:OpR X (compareOp op) r) (ho':OpR X (compareOp op') r') (ha:PE X a ta) (hb:PE X b tb) (hc:PE X c tc)
  (hm:lastMarks [op,op'] [b,c]=false:=by with_unfolding_all rfl):PE X (.Compare a [op,op'] [b,c] pos) (dE r r' ta tb tc):=by
 intro pins s σ H Q I h
 refine Compare_chain (thn (ha pins s σ H _ I h) fun v s1 ⟨x,H1,I1,r1,q1⟩=>chain_link (thn (hb pins s1 σ H1 _ I1 q1) fun u s2 ⟨y,H2,I2,r2,q2⟩=>
  thn (ho pins s2 σ H2 x y v u _ I2 r1 r2 q2) fun d s3 ⟨z,H3,I3,r3,q3⟩=>?_)) hm
 cases z <;> first | exact q3.elim | skip
 rename_i k
 cases r3
 refine wpAny_truthy_bool ?_
 have q3:=dR q3
 cases k with
 | false=>exact ite_ff ⟨.bl false,H3,I3,rfl,q3⟩
 | true=>exact ite_tt (chain_last (thn (hc pins s3 σ H3 _ I3 q3) fun w' s4 ⟨z',H4,I4,r4,q4⟩=>ho' pins s4 σ H4 y z' u w' Q I4 r2 r4 q4))
theorem GB {op op' : CmpOp} {r r' : R2} {a b c : Expr} {ta tb tc : TE} {pos : Pos} (ho : OpR X (compareOp op) r) (ho' : OpR X (compareOp op') r') (ha : PE X a ta) (hb : PE X b tb) (hc : PE X c tc)
    (hm : lastMarks [op, op'] [b, c] = false := by with_unfolding_all rfl) : PT X (.Compare a [op, op'] [b, c] pos) (aX (dE r r' ta tb tc)) := by
  intro pins s σ H Q I h
  refine isTrue_chain (thn (ha pins s σ H _ I h) fun v s1 ⟨x, H1, I1, r1, q1⟩ => test_link (thn (hb pins s1 σ H1 _ I1 q1) fun u s2 ⟨y, H2, I2, r2, q2⟩ =>
    thn (ho pins s2 σ H2 x y v u _ I2 r1 r2 q2) fun d s3 ⟨z, H3, I3, r3, q3⟩ => ?_)) hm
  cases z <;> first | exact q3.elim | skip
  rename_i k
  cases r3
  refine wpAny_truthy_bool ?_
  have q3 := dR q3
  cases k with
  | false => exact ite_ff ⟨H3, I3, q3⟩
  | true =>
    refine ite_tt (test_last (thn (hc pins s3 σ H3 _ I3 q3) fun w' s4 ⟨z', H4, I4, r4, q4⟩ => thn (ho' pins s4 σ H4 y z' u w' _ I4 r2 r4 q4) fun d' s5 ⟨z2, H5, I5, r5, q5⟩ => ?_))
    cases z2 <;> first | exact q5.elim | (cases r5; exact wpAny_truthy_bool ⟨H5, I5, q5⟩)
def cn (K:W.Frag) (t:TE):TT:=fun σ H Q=>t σ H fun x H'=>match x with
 | .bl k=>Q k H'
 | .non=>Q false H'
 | .int i=>Q (i !=0) H'
 | x=>∃ k,zA K x H' k∧Q k H'
theorem qtb {e:Expr} {t:TE} (h:PE X e t) (he:∀ whole,isTrue e X.env whole=(do let v←whole;standAt e.pos;holding [v] (truthy v)):=by intro _;rfl):PT X e (cn X.K t):=by
 intro pins s σ H Q I q
 refine isTrue_plain (thn (h pins s σ H _ I q) fun v s1 ⟨x,H1,I1,r1,q1⟩=>By pins s1 σ H1 x v Q I1 r1 ?_) (he _)
 cases x <;> first | exact ⟨_,rfl,q1⟩ | exact q1
def iy (t u:TT):TT:=fun σ H Q=>t σ H fun c H1=>Sel c (u σ H1 Q) (Q false H1)
def mOr (t u:TT):TT:=fun σ H Q=>t σ H fun c H1=>Sel c (Q true H1) (u σ H1 Q)
variable {a b c:Expr} {ta tb:TE} {tA tB':TT} {bR:List Expr} {pos:Pos}
theorem xP (ha:PT X a tA):PW X (.BoolOp .And [a] pos) tA:=xw ha
theorem zS (ha:PT X a tA):PW X (.BoolOp .Or [a] pos) tA:=AI ha
theorem Ap (ha:PT X a tA) (hb:PW X (.BoolOp .And (b::bR) pos) tB'):PW X (.BoolOp .And (a::b::bR) pos) (iy tA tB'):=by
 intro wh pins s σ H Q I h
 refine isTrue_and (thn (ha pins s σ H _ I h) fun c s1 ⟨H1,I1,q1⟩=>?_)
 have q1:=dR q1
 cases c with
 | true=>exact hb wh pins s1 σ H1 Q I1 q1
 | false=>exact ⟨H1,I1,q1⟩
theorem Em (ha:PT X a tA) (hb:PW X (.BoolOp .Or (b::bR) pos) tB'):PW X (.BoolOp .Or (a::b::bR) pos) (mOr tA tB'):=by
 intro wh pins s σ H Q I h
 refine isTrue_or (thn (ha pins s σ H _ I h) fun c s1 ⟨H1,I1,q1⟩=>?_)
 have q1:=dR q1
 cases c with
 | true=>exact ⟨H1,I1,q1⟩
 | false=>exact hb wh pins s1 σ H1 Q I1 q1
def dh (ta tb:TE):TE:=fun σ H Q=>ta σ H fun x H1=>match x with | .bl c=>Sel c (tb σ H1 Q) (Q (.bl false) H1) | _=>False
def vh (ta tb:TE):TE:=fun σ H Q=>ta σ H fun x H1=>match x with | .bl c=>Sel c (Q (.bl true) H1) (tb σ H1 Q) | _=>False
def mq (ta:TE):TE:=fun σ H Q=>ta σ H fun x H1=>match x with | .bl c=>Q (.bl (!c)) H1 | _=>False
theorem Hg (ha:PE X a ta) (hb:PE X (.BoolOp .And (b::bR) pos) tb):PE X (.BoolOp .And (a::b::bR) pos) (dh ta tb):=by
 intro pins s σ H Q I h
 refine BoolOp_and (thn (ha pins s σ H _ I h) fun v s1 ⟨x,H1,I1,r1,q1⟩=>?_)
 cases x <;> first | exact q1.elim | skip
 rename_i c
 cases r1
 refine wpAny_truthy_bool ?_
 have q1:=dR q1
 cases c with
 | true=>exact hb pins s1 σ H1 Q I1 q1
 | false=>exact ⟨.bl false,H1,I1,rfl,q1⟩
theorem qor (ha:PE X a ta) (hb:PE X (.BoolOp .Or (b::bR) pos) tb):PE X (.BoolOp .Or (a::b::bR) pos) (vh ta tb):=by
 intro pins s σ H Q I h
 refine BoolOp_or (thn (ha pins s σ H _ I h) fun v s1 ⟨x,H1,I1,r1,q1⟩=>?_)
 cases x <;> first | exact q1.elim | skip
 rename_i c
 cases r1
 refine wpAny_truthy_bool ?_
 have q1:=dR q1
 cases c with
 | false=>exact hb pins s1 σ H1 Q I1 q1
 | true=>exact ⟨.bl true,H1,I1,rfl,q1⟩
theorem Dk (ha:PE X a ta):PE X (.UnaryOp .Not a pos) (mq ta):=by
 intro pins s σ H Q I h
 refine UnaryOp_ (thn (ha pins s σ H _ I h) fun v s1 ⟨x,H1,I1,r1,q1⟩=>?_)
 cases x <;> first | exact q1.elim | skip
 rename_i c
 cases r1
 exact not_of (wpAny_truthy_bool ⟨.bl (!c),H1,I1,rfl,q1⟩)
def mIf (t:TT) (ta tb:TE):TE:=fun σ H Q=>t σ H fun c H1=>Sel c (ta σ H1 Q) (tb σ H1 Q)
theorem Fy {c:Expr} (hc:PT X c tA) (ha:PE X a ta) (hb:PE X b tb):PE X (.IfExp c a b pos) (mIf tA ta tb):=by
 intro pins s σ H Q I h
 refine wpAny_IfExp (thn (hc pins s σ H _ I h) fun d s1 ⟨H1,I1,q1⟩=>?_)
 have q1:=dR q1
 cases d with
 | true=>exact ha pins s1 σ H1 Q I1 q1
 | false=>exact hb pins s1 σ H1 Q I1 q1
def bf (c:TT) (t u:TS):TS:=fun D σ H=>c σ H fun b H1=>Sel b (t D σ H1) (u D σ H1)
theorem qif {c:Expr} {l m:List Stmt} {tc:TT} {t u:TS} (hc:PT X c tc) (ha:PSs X l t) (hb:PSs X m u):PS X (.If c l m pos) (bf tc t u):=by
 intro pins s σ H D I h
 refine wpAny_If (thn (hc pins s σ H _ I h) fun d s1 ⟨H1,I1,q1⟩=>?_)
 have q1:=dR q1
 cases d with
 | true=>exact ha pins s1 σ H1 D I1 q1
 | false=>exact hb pins s1 σ H1 D I1 q1
theorem Gd:bU X (.builtin "len") (fun xs H Q=>match xs with
   | [.str y]=>y.length≤sizeLine∧Q (.int y.length) H
   | [.ref p]=>(∃ xs,SqL X.K H p xs∧Q (.int xs.length) H)∨(∃ xs,SqT X.K H p xs∧Q (.int xs.length) H)∨∃ kvs,H p=some (.dK kvs)∧Q (.int kvs.length) H
   | _=>False):=by
 intro pins s σ H xs us Q I r h
 split at h
 · rename_i y
   exact jM pins s σ H _ us Q I r ⟨_,_,rfl,⟨h.1,rfl⟩,h.2⟩
 · rename_i p
   rcases h with ⟨ys,h1,h2⟩ | ⟨ys,h1,h2⟩ | ⟨kvs,h1,h2⟩
   · exact jM pins s σ H _ us Q I r ⟨_,_,rfl,.inl ⟨ys,h1,rfl⟩,h2⟩
   · exact jM pins s σ H _ us Q I r ⟨_,_,rfl,.inr ⟨ys,h1,rfl⟩,h2⟩
   · exact rT pins s σ H _ us Q I r ⟨p,kvs,rfl,h1,h2⟩
 · exact h.elim
end
section
variable {X:Cx} {tg:Expr}
def dQ:V→Hp→VK→Prop:=fun x H Q=>match x with | .int i=>Q (.int (-i)) H | _=>False
theorem FJ:UnR X (unaryOp .USub) dQ:=fun pins s σ H x v Q I rx q=>AR pins s σ H x v Q I rx (by
 unfold dQ at q
 split at q
 · exact ⟨_,rfl,q⟩
 · exact q.elim)
def Bj (K:W.Frag):List V→Hp→VK→Prop:=fun xs H Q=>match xs with
 | [.str y]=>y.length≤sizeLine∧Q (.int y.length) H
 | [.ref p]=>(∃ xs,SqL K H p xs∧Q (.int xs.length) H)∨(∃ xs,SqT K H p xs∧Q (.int xs.length) H)∨∃ kvs,H p=some (.dK kvs)∧Q (.int kvs.length) H
 | _=>False
theorem Gv:bU X (.builtin "len") (Bj X.K):=Gd
def du:List V→Hp→VK→Prop:=fun xs H Q=>match xs with
 | [x,.ty T]=>T∈["int", "bool", "str", "tuple", "list", "dict"]∧∃ t,tyN H x=some t∧Q (.bl (isI t T)) H
 | _=>False
theorem dM:bU X (.builtin "isinstance") du:=fun pins s σ H xs us Q I r h=>by
 unfold du at h
 split at h
 · obtain ⟨h1,t,h2,h3⟩:=h
   exact uZ pins s σ H _ us Q I r ⟨_,_,t,rfl,h1,h2,h3⟩
 · exact h.elim
def rR (K:W.Frag):List V→Hp→VK→Prop:=fun xs H Q=>∃ p ys,xs=[.ref p]∧((SqL K H p ys∧∀ l,H l=none→Q (.ref l) (upd H l (.tup ys)))∨(SqT K H p ys∧Q (.ref p) H))
theorem Bd:bU X (.type "tuple") (rR X.K):=lQ
def uV:List V→Hp→VK→Prop:=fun xs H Q=>match xs with
 | [.int i]=>i.natAbs.log2<1920∧Q (.str (toString i)) H
 | _=>False
theorem FG:bU X (.type "str") uV:=fun pins s σ H xs us Q I r h=>by
 unfold uV at h
 split at h
 · exact nS pins s σ H _ us Q I r ⟨_,rfl,h.1,h.2⟩
 · exact h.elim
def vD:List V→Hp→VK→Prop:=fun xs H Q=>match xs with
 | [.str x]=>x.length=1∧Q (.int (x.cps.getD 0 0:Nat)) H
 | _=>False
theorem FY:bU X (.builtin "ord") vD:=fun pins s σ H xs us Q I r h=>by
 unfold vD at h
 split at h
 · exact uA pins s σ H _ us Q I r ⟨_,rfl,h.1,h.2⟩
 · exact h.elim
end
structure eL (J:It) (n:Nat) (it:Nat→V) (Pv:Hp→Prop):Prop where
 go:∀ i H,i<n→Pv H→J.go i H
 yld:∀ i H x H',i<n→Pv H→J.yld i H x H'→H'=H∧x=it i
 stop:∀ H,Pv H→J.stop n H
theorem eL.list {K:W.Frag} {a:Addr} {xs:List V} (d:V):eL (Itl K a) xs.length (fun i=>xs.getD i d) (fun H=>SqL K H a xs) where
 go:=fun i H hi h=>⟨xs,xs[i],h,by simp [hi]⟩
 yld:=fun i H x H' hi h y=>⟨y.1,by have:=y.2 xs h;rw [List.getD_eq_getElem?_getD,this];rfl⟩
 stop:=fun H h=>⟨xs,h,Nat.le_refl _⟩
theorem eL.range {lo:Int} {n:Nat}:eL (Itr lo n) n (fun i=> .int (lo+i)) (fun _=>True) where
 go:=fun i H hi _=>hi
 yld:=fun i H x H' hi _ y=>y
 stop:=fun H _=>Nat.le_refl _
def CWd (n:Nat) (Pv:Nat→List V→Hp→Prop):Nat→Nat→List V→Hp→Prop:=fun i m ys H=>i≤n∧m=n - i∧Pv i ys H
theorem CWd.next {n i:Nat} {Pv:Nat→List V→Hp→Prop} {ys:List V} {H:Hp} (hi:i<n) (h:Pv (i+1) ys H):∃ m',m'<n - i∧CWd n Pv (i+1) m' ys H:=⟨n - (i+1),by omega,hi,rfl,h⟩
theorem jn {J : It} {n : Nat} {it : Nat → V} {Pk : Hp → Prop} {σ : St} {is : List Nat} {tc : TT} {te : TE} {Q : VK} {H1 : Hp} {D : Addr} (T : eL J n it Pk) (Pv : Nat → List V → Hp → Prop)
   (hk : ∀ i ys H, i ≤ n → Pv i ys H → Pk H) (h0 : Pv 0 [] (upd H1 D (.lst [])))
   (hs : ∀ i ys H2, i < n → Pv i ys H2 → tc (some (it i) :: bY σ is) H2 fun b H4 => if b = true then
    te (some (it i) :: bY σ is) H4 fun y H5 => H5 D = some (.lst ys) ∧ ys.length < sizeLine ∧ ∃ m', m' < n - i ∧ CWd n Pv (i + 1) m' (ys ++ [y]) (upd H5 D (.lst (ys ++ [y])))
    else ∃ m', m' < n - i ∧ CWd n Pv (i + 1) m' ys H4)
   (hd : ∀ ys H, Pv n ys H → Q (.ref D) H) : qN is tc te σ D J H1 Q := by
 refine ⟨CWd n Pv, ⟨n, Nat.zero_le _, rfl, h0⟩, ?_⟩
 rintro i m ys H2 ⟨hi, rfl, p⟩
 by_cases hlt : i < n
 · refine .inr ⟨T.go i H2 hlt (hk i ys H2 hi p), fun x H3 y => ?_⟩
   obtain ⟨rfl, rfl⟩ := T.yld i H2 x H3 hlt (hk i ys H2 hi p) y
   exact hs i ys _ hlt p
 · have e : i = n := by omega
   subst e
   exact .inl ⟨T.stop H2 (hk _ ys H2 hi p), hd ys H2 p⟩
theorem ar.upd {H:Hp} {p:Addr} {o:HO} (h:H p=none):ar H (upd H p o):=fun b u e=>by rw [aI (aS e h)];exact e
theorem ar.put {H H':Hp} {p:Addr} {o:HO} (s:ar H H') (h:H p=none):ar H (L2.upd H' p o):=fun b u e=>by rw [aI (aS e h)];exact s b u e
theorem tz {xs:List V} {i:Int} (h0:0≤i) (h1:i<xs.length):atI xs i=some (xs.getD i.toNat .non):=by
 unfold atI ixN
 rw [if_pos h0,if_pos h1]
 show xs[i.toNat]?=_
 rw [List.getD_eq_getElem?_getD]
 have:i.toNat<xs.length:=by omega
 rw [List.getElem?_eq_getElem this];rfl
def cC:Expr→Bool
 | .Starred _ _=>false
 | _=>true
theorem bD {e:Expr} (h:cC e=true) (bR:List Expr) (env:Env):starEach (e::bR) env=(false,eval e env)::starEach bR env:=by
 cases e <;> first | rfl | cases h
def bV:List Expr→Bool
 | []=>true
 | e::r=>cC e&&bV r
theorem dg : ∀ {es : List Expr} {env : Env} {pos : Pos}, bV es = true → (backTo pos (starEach es env)).any (·.1) = false
  | [], _, _, _ => rfl
  | e :: r, env, pos, h => by
    have h : (cC e && bV r) = true := h
    rw [Bool.and_eq_true] at h
    rw [bD h.1]
    show (false || (backTo pos (starEach r env)).any (·.1)) = false
    rw [dg h.2]; rfl
section
variable {X:Cx} {e:Expr} {es:List Expr} {te:TE} {t:TA} {pos:Pos}
theorem xy (ha:PE X e te) (hr:PA X es t) (hs:cC e=true:=by rfl):PA X (e::es) (aa te t):=yh ha hr (bD hs es X.env)
variable {x:Str} {p apos cpos:Pos} {id T:String} {r:List V→Hp→VK→Prop}
theorem xU (hc:bU X (.builtin id) r) (hg:Gl X x) (hm:X.mg x=none) (hv:bootBuiltins x=some (.builtin id)) (ha:PA X (e::es) t) (hn:x≠ "__name__" :=by decide) (hdb:(x==("__debug__" :Str))=false:=by decide)
  (hs:bV (e::es)=true:=by rfl):PE X (.Call (.Name x p) (e::es) [] pos) (tCB r t):=
 have h:(cC e&&bV es)=true:=hs
 ve hc hg hm hv ha hn hdb (bD (Bool.and_eq_true_iff.mp h).1 es X.env) (dg (Bool.and_eq_true_iff.mp h).2)
theorem vx (hc:bU X (.type T) r) (hg:Gl X x) (hm:X.mg x=none) (hv:bootBuiltins x=some (.type T)) (ha:PA X (e::es) t) (hn:x≠ "__name__" :=by decide) (hdb:(x==("__debug__" :Str))=false:=by decide)
  (hs:bV (e::es)=true:=by rfl):PE X (.Call (.Name x p) (e::es) [] pos) (tCB r t):=
 have h:(cC e&&bV es)=true:=hs
 sK hc hg hm hv ha hn hdb (bD (Bool.and_eq_true_iff.mp h).1 es X.env) (dg (Bool.and_eq_true_iff.mp h).2)
variable {CX:CXT} {k:Nat} {f C:Addr} {fd:FuncData} {ps:List Str} {sp:Sp} {dvs:List V} {ds:List Value} {E:XK} {m:Str} {o:Expr} {ta:TE}
theorem jC : ∀ {es : List Expr} {env : Env} {pos : Pos}, bV es = true → (backTo pos (starEach es env)).all (fun x => !x.1) = true
  | [], _, _, _ => rfl
  | e :: r, env, pos, h => by
    have h : (cC e && bV r) = true := h
    rw [Bool.and_eq_true] at h
    rw [bD h.1]
    show (true && (backTo pos (starEach r env)).all (fun x => !x.1)) = true
    rw [jC h.2]; rfl
variable {to:TE} {name:Str} {rm:V→List V→Hp→VK→Prop}
theorem GD (pa:PlainAttrs T) (slot:Slot T name id) (hty:typeOf (.builtin id)=pure (.type "method_descriptor")) (hm:MtR X id rm) (ho:PE X o to) (ha:PA X (e::es) t)
  (hbase:attributeBase o name X.env (eval o X.env)=eval o X.env:=by rfl) (hfew:decide ((e::es).length<30)=true:=by rfl)
  (hline:(apos.endLine==cpos.line)=true:=by rfl) (hs:bV (e::es)=true:=by rfl):PE X (.Call (.Attribute o name apos) (e::es) [] cpos) (tBM X.K T rm to t):=
 have h:(cC e&&bV es)=true:=hs
 Dh pa slot hty hm ho ha hbase (by rw [jC hs];exact hfew) hline (bD (Bool.and_eq_true_iff.mp h).1 es X.env) (dg (Bool.and_eq_true_iff.mp h).2)
end
structure QE (X:Cx) (e:Expr) (t:TE):Prop where
 out:PE X e t
structure QT (X:Cx) (e:Expr) (t:TT):Prop where
 out:PT X e t
structure QW (X:Cx) (e:Expr) (t:TT):Prop where
 out:PW X e t
structure QA (X:Cx) (e:List Expr) (t:TA):Prop where
 out:PA X e t
structure QS (X:Cx) (e:Stmt) (t:TS):Prop where
 out:PS X e t
structure QSs (X:Cx) (e:List Stmt) (t:TS):Prop where
 out:PSs X e t
structure QI (X:Cx) (tg iter:Expr) (t:TI):Prop where
 out:PI X tg iter t
structure QO (X:Cx) (e:Option Expr) (t:TO):Prop where
 out:PO X e t
structure rA (X:Cx) (e:List Expr) (t:TT):Prop where
 out:qL X e t
section
variable {X:Cx} {a b c e o:Expr} {es bR:List Expr} {ta tb tc te to tv:TE} {tA tB':TT} {t:TA} {pos apos cpos p:Pos} {x y:Str}
theorem ae (i:Nat) (hN:X.N[i]?=some x:=by rfl) (hv:Vis X.env.scope x:=by first | exact Or.inl rfl | exact Or.inr (Or.inl rfl) | exact Or.inr (Or.inr rfl)) (hd:(x==("__debug__" :Str))=false:=by decide)
 (hcd:(x==("__classdict__" :Str))=false:=by decide):QE X (.Name x pos) (af i):=⟨qv i hN hv hd hcd⟩
theorem FQ {i:Int} (hm:∃ t,X.mg x=some (.int i t)) (hg:Gl X x:=by rfl) (hd:(x==("__debug__" :Str))=false:=by decide):QE X (.Name x pos) (tC (.int i)):=⟨qgi hm hg hd⟩
theorem dN {T:String} (hm:X.mg x=none) (hv:bootBuiltins x=some (.type T)) (hg:Gl X x:=by rfl) (hn:x≠ "__name__" :=by decide) (hd:(x==("__debug__" :Str))=false:=by decide):QE X (.Name x pos) (tC (.ty T)):=⟨xE hg hm hv rfl hn hd⟩
theorem ag {i:Int} {j}:QE X (.Constant (.int i) j pos) (tC (.int i)):=⟨yX⟩
theorem cp {b:Bool} {j}:QE X (.Constant (.bool b) j pos) (tC (.bl b)):=⟨Fw⟩
theorem fL {j}:QE X (.Constant .none j pos) (tC .non):=⟨BW⟩
theorem az {z:Str} {j}:QE X (.Constant (.str z) j pos) (tC (.str z)):=⟨BI⟩
theorem eS (ha:QE X a ta):QE X (.UnaryOp .USub a pos) (tUn dQ ta):=⟨El FJ ha.out⟩
theorem wB (ha:QE X a ta):QE X (.UnaryOp .Not a pos) (mq ta):=⟨Dk ha.out⟩
theorem am {op:Operator} {r:R2} (ho:OpR X (binaryOp op) r) (ha:QE X a ta) (hb:QE X b tb):QE X (.BinOp a op b pos) (tOp r ta tb):=⟨Ct ho ha.out hb.out⟩
theorem di {op:CmpOp} {r:R2} (ho:OpR X (compareOp op) r) (ha:QE X a ta) (hb:QE X b tb) (hm:behindInMarks op b=false:=by first | exact ky _ | rfl):QE X (.Compare a [op] [b] pos) (tOp r ta tb):=⟨qc ho ha.out hb.out hm⟩
theorem kP {op op':CmpOp} {r r':R2} (ho:OpR X (compareOp op) r) (ho':OpR X (compareOp op') r') (ha:QE X a ta) (hb:QE X b tb) (hc:QE X c tc) (hm:lastMarks [op,op'] [b,c]=false:=by with_unfolding_all rfl):
 QE X (.Compare a [op,op'] [b,c] pos) (dE r r' ta tb tc):=⟨qch ho ho' ha.out hb.out hc.out hm⟩
theorem eN {op} (h:QE X a ta):QE X (.BoolOp op [a] pos) ta:=⟨zx h.out⟩
theorem dL (ha:QE X a ta) (hb:QE X (.BoolOp .And (b::bR) pos) tb):QE X (.BoolOp .And (a::b::bR) pos) (dh ta tb):=⟨Hg ha.out hb.out⟩
theorem GF (ha:QE X a ta) (hb:QE X (.BoolOp .Or (b::bR) pos) tb):QE X (.BoolOp .Or (a::b::bR) pos) (vh ta tb):=⟨qor ha.out hb.out⟩
theorem yO (hc:QT X c tA) (ha:QE X a ta) (hb:QE X b tb):QE X (.IfExp c a b pos) (mIf tA ta tb):=⟨Fy hc.out ha.out hb.out⟩
theorem ai:QA X [] aj:=⟨BP⟩
theorem ac (ha:QE X e te) (hr:QA X es t) (hs:cC e=true:=by rfl):QA X (e::es) (aa te t):=⟨xy ha.out hr.out hs⟩
theorem bn (h:QA X es t):QE X (.List es pos) (bq t):=⟨AF h.out⟩
theorem aJ {x1} (h:QA X es t):QE X (.Tuple es x1 pos) (aE t):=⟨zm h.out⟩
theorem aM {r:R2} (hr:IxR X r) (ha:QE X a ta) (hb:QE X b tb) (hs:pj b):QE X (.Subscript a b pos) (tOp r ta tb):=⟨EC hr ha.out hb.out hs⟩
theorem fi:QO X none dX:=⟨yk⟩
theorem dU (h:QE X e te):QO X (some e) (eT te):=⟨xZ h.out⟩
theorem eE {r:V→Option Int→Option Int→Hp→VK→Prop} {lo hi:Option Expr} {tl th:TO} {p2:Pos} (hr:SlR X r) (he:QE X e te) (hl:QO X lo tl) (hu:QO X hi th):QE X (.Subscript e (.Slice lo hi none p2) pos) (tSl r te tl th):=⟨ua hr he.out hl.out hu.out⟩
variable {id T:String} {r:List V→Hp→VK→Prop}
theorem ba (hc:bU X (.builtin id) r) (hm:X.mg x=none) (hv:bootBuiltins x=some (.builtin id)) (ha:QA X (e::es) t) (hg:Gl X x:=by rfl) (hn:x≠ "__name__" :=by decide) (hdb:(x==("__debug__" :Str))=false:=by decide)
 (hs:bV (e::es)=true:=by rfl):QE X (.Call (.Name x p) (e::es) [] pos) (tCB r t):=⟨xU hc hg hm hv ha.out hn hdb hs⟩
theorem nB (hc:bU X (.type T) r) (hm:X.mg x=none) (hv:bootBuiltins x=some (.type T)) (ha:QA X (e::es) t) (hg:Gl X x:=by rfl) (hn:x≠ "__name__" :=by decide) (hdb:(x==("__debug__" :Str))=false:=by decide)
 (hs:bV (e::es)=true:=by rfl):QE X (.Call (.Name x p) (e::es) [] pos) (tCB r t):=⟨vx hc hg hm hv ha.out hn hdb hs⟩
variable {CX:CXT} {k:Nat} {f C:Addr} {fd:FuncData} {ps:List Str} {sp:Sp} {dvs:List V} {ds:List Value} {E:XK} {m:Str}
variable {name:Str} {rm:V→List V→Hp→VK→Prop}
theorem FK (pa:PlainAttrs T) (slot:Slot T name id) (hty:typeOf (.builtin id)=pure (.type "method_descriptor")) (hm:MtR X id rm) (ho:QE X o to) (ha:QA X (e::es) t)
 (hbase:attributeBase o name X.env (eval o X.env)=eval o X.env:=by rfl) (hfew:decide ((e::es).length<30)=true:=by rfl)
 (hline:(apos.endLine==cpos.line)=true:=by rfl) (hs:bV (e::es)=true:=by rfl):QE X (.Call (.Attribute o name apos) (e::es) [] cpos) (tBM X.K T rm to t):=⟨GD pa slot hty hm ho.out ha.out hbase hfew hline hs⟩
theorem aU {op:CmpOp} {r:R2} (ho:OpR X (compareOp op) r) (ha:QE X a ta) (hb:QE X b tb) (hm:behindInMarks op b=false:=by first | exact ky _ | rfl):QT X (.Compare a [op] [b] pos) (aX (tOp r ta tb)):=⟨qtc ho ha.out hb.out hm⟩
theorem gc {op op':CmpOp} {r r':R2} (ho:OpR X (compareOp op) r) (ho':OpR X (compareOp op') r') (ha:QE X a ta) (hb:QE X b tb) (hc:QE X c tc) (hm:lastMarks [op,op'] [b,c]=false:=by with_unfolding_all rfl):
 QT X (.Compare a [op,op'] [b,c] pos) (aX (dE r r' ta tb tc)):=⟨GB ho ho' ha.out hb.out hc.out hm⟩
theorem bG (h:QE X e te) (he:∀ whole,isTrue e X.env whole=(do let v←whole;standAt e.pos;holding [v] (truthy v)):=by intro _;rfl):QT X e (cn X.K te):=⟨qtb h.out he⟩
theorem bN (ha:QT X a tA):QT X (.UnaryOp .Not a pos) (cu tA):=⟨BG ha.out⟩
theorem x_w (h:QW X e tA):QT X e tA:=⟨h.out.pt⟩
theorem fY (ha:QT X a tA):QW X (.BoolOp .And [a] pos) tA:=⟨xP ha.out⟩
theorem dD (ha:QT X a tA):QW X (.BoolOp .Or [a] pos) tA:=⟨zS ha.out⟩
theorem gO (ha:QT X a tA) (hb:QW X (.BoolOp .And (b::bR) pos) tB'):QW X (.BoolOp .And (a::b::bR) pos) (iy tA tB'):=⟨Ap ha.out hb.out⟩
theorem dB (ha:QT X a tA) (hb:QW X (.BoolOp .Or (b::bR) pos) tB'):QW X (.BoolOp .Or (a::b::bR) pos) (mOr tA tB'):=⟨Em ha.out hb.out⟩
variable {tg iter elt:Expr} {wi:TI} {ifs:List Expr} {scope:Scope} {ys:List Str} {is:List Nat} {px py spos:Pos}
theorem jG (hm:X.mg "range" =none) (ha:QA X [a] t) (hg:Gl X "range" :=by rfl) (hs:cC a=true:=by rfl):QI X tg (.Call (.Name "range" p) [a] [] pos) (kf t):=⟨sZ hg hm ha.out (bD hs [] X.env)⟩
theorem tZ (hm:X.mg "range" =none) (ha:QA X [a,b] t) (hg:Gl X "range" :=by rfl) (hs:cC a=true:=by rfl) (hs2:cC b=true:=by rfl):QI X tg (.Call (.Name "range" p) [a,b] [] pos) (qo t):=
 ⟨rW hg hm ha.out (by rw [bD hs,bD hs2];rfl) (bD hs2 [] X.env)⟩
theorem sW:rA X [] (fun _ H Q=>Q true H):=⟨rfl⟩
theorem oR (h:QT X c tA):rA X [c] tA:=⟨h.out⟩
theorem nE {tcn:TT} (S:eH scope x ys) (hcap:fH X scope ys is) (hi:QI X (.Name x px) iter wi)
 (hif:∀ C s H fp,rA (bK X scope C (x::ys) s H fp) ifs tcn) (he:∀ C s H fp,QE (bK X scope C (x::ys) s H fp) elt te) (hc:X.calm=true:=by rfl)
 (hs:∀ x,foldedSetIterable iter X.env x=pure x:=by intro _;rfl):QE X (.ListComp elt [⟨.Name x px,iter,ifs,0⟩] scope pos) (gG is wi tcn te):=⟨xH hc S hcap hi.out (fun C s H fp=>(hif C s H fp).out) (fun C s H fp=>(he C s H fp).out) hs⟩
variable {st:Stmt} {sts:List Stmt} {tS uS:TS} {i j:Nat}
theorem aQ:QSs X [] aY:=⟨yG⟩
theorem aq (h:QS X st tS):QSs X [st] tS:=⟨xJ h.out⟩
theorem al (h1:QS X st tS) (h2:QSs X sts uS):QSs X (st::sts) (au tS uS):=⟨uM h1.out h2.out⟩
theorem aC (h:QE X e te):QS X (.Return (some e) pos) (aN te):=⟨As h.out⟩
theorem aZ {l m:List Stmt} (hc:QT X c tA) (ha:QSs X l tS) (hb:QSs X m uS):QS X (.If c l m pos) (bf tA tS uS):=⟨qif hc.out ha.out hb.out⟩
theorem aG (i:Nat) (hN:X.N.Nodup) (he:QE X e te) (hi:X.N[i]?=some x:=by rfl) (hx:Loc X.env.scope x:=by first | exact .inl rfl | exact .inr rfl)
 (hs:swapsWith e (some (.Name x p)) pos.line X.env=pure false:=by rfl) (hf:X.fn x=true∨X.env.scope.names.lookup x=some .local:=by first | exact .inl rfl | exact .inr rfl):QS X (.Assign [.Name x p] e pos) (aB te (ay i)):=⟨zP hN hi hx he.out hs hf⟩
theorem sL (j:Nat) {tcn:TT} (hN:X.N.Nodup) (S:eH scope x ys) (hcap:fH X scope ys is) (hi:QI X (.Name x px) iter wi)
  (hif:∀ C s H fp,rA (bK X scope C (x::ys) s H fp) ifs tcn) (he:∀ C s H fp,QE (bK X scope C (x::ys) s H fp) elt te) (hc:X.calm=true:=by rfl)
  (hj:X.N[j]?=some y:=by rfl) (hy:Loc X.env.scope y:=by first | exact .inl rfl | exact .inr rfl)
  (hsw:swapsWith (.ListComp elt [⟨.Name x px,iter,ifs,0⟩] scope pos) (some (.Name y py)) spos.line X.env=pure true:=by rfl) (hf:X.fn y=true∨X.env.scope.names.lookup y=some .local:=by first | exact .inl rfl | exact .inr rfl)
  (hs:∀ x,foldedSetIterable iter X.env x=pure x:=by intro _;rfl):QS X (.Assign [.Name y py] (.ListComp elt [⟨.Name x px,iter,ifs,0⟩] scope pos) spos) (aB (gG is wi tcn te) (ay j)):=
 ⟨pW hN hj hy hc S hcap hi.out (fun C s H fp=>(hif C s H fp).out) (fun C s H fp=>(he C s H fp).out) hsw hf hs⟩
theorem eV (h:QE X e te) (hs:swapsWith e none pos.line X.env=pure false:=by rfl):QS X (.Expr e pos) (ej te):=⟨yD h.out hs⟩
theorem gy (i:Nat) (hN:X.N.Nodup) {body:List Stmt} (hi:QI X (.Name x px) iter wi) (hb:QSs X body tS) (hp:PassesOwn (model X.prog X.w) X.A X.env X.xe) (hc:X.calm=true:=by rfl)
 (hj:X.N[i]?=some x:=by rfl) (hx:Loc X.env.scope x:=by first | exact .inl rfl | exact .inr rfl) (hf:X.fn x=true∨X.env.scope.names.lookup x=some .local:=by first | exact .inl rfl | exact .inr rfl)
 (hs:∀ x,foldedSetIterable iter X.env x=pure x:=by intro _;rfl):QS X (.For (.Name x px) iter body [] pos) (gJ wi (ay i) tS):=⟨zb hp hc hi.out (kU hN hj hx hf) hb.out hs⟩
theorem yb {body:List Stmt} (hc:QT X c tA) (hb:QSs X body tS) (hp:PassesOwn (model X.prog X.w) X.A X.env X.xe):QS X (.While c body [] pos) (nJ tA tS):=⟨vk hp hc.out hb.out⟩
theorem oN:QS X st ko:=⟨vf⟩
end
end L2
namespace HT
open PySem PyProof.Rows
structure Hd0 (vs:Array Value) (a0:Value):Prop where
 a:vs[0]?=some a0
 b:vs[2]?=some .none
structure TrD (h base:Heap) (e:Addr) (cls a0:Value) (d:Option Addr) (fl:Value):Prop where
 ex:∃ oe vs T oT ts,h.get? e=some oe∧oe.cls=cls∧oe.dict=d∧oe.data=.fields vs∧Hd0 vs a0∧vs[1]?=some (.ref T)∧base.get? T=none∧T≠e∧h.get? T=some oT∧oT.data=.fields ts∧ts[3]?=some fl
structure jK (base:Heap) (l:List Env) (e:Addr) (cls a0:Value) (d:Option Addr) (fl:Value) (h h':Heap):Prop where
 st:base.StaysIn h'
 fr:h'.FunFrames base l
 tr:TrD h' base e cls a0 d fl
 up:h.UpToSlots h'
theorem lj (o:Obj) (f:Array Value→Array Value):(Obj.mapFields f o).dict=o.dict:=by
 obtain ⟨c,d,dt,sl⟩:=o
 cases dt <;> rfl
section
variable {M:Model} {A:Around} {E:Value→Shared→Prop} {s:Shared} {base:Heap} {env:Env} {outer:List Env} {L e:Addr} {cls a0:Value} {d:Option Addr} {Q:Unit→Shared→Prop}
theorem tB {oe:Obj} {vs:Array Value} {head:Value} {hadNext:Bool} (hfr:A.frames=some (env::outer)) (hl:s.heap.FunFrames base (env::outer)) (hf:env.frame=some L) (he:s.heap.get? e=some oe) (hc:oe.cls=cls) (hdc:oe.dict=d)
   (hkb:base.StaysIn s.heap) (hen:base.get? e=none) (hd:oe.data=.fields vs) (hsz:1<vs.size) (h0:Hd0 vs a0) (h:∀ h',jK base (env::outer) e cls a0 d (rawInt L) s.heap h'→Q () { s with heap:=h' }):
   wpAny M A (do let a←frameOf env;let pl←entryPlaceOf L hadNext;let b←EntryCells.newEntry head a .none (rawInt L) .none pl;setField (.ref e) 1 b) Q E s:=by
 have nfr:e∉(env::outer).filterMap (·.frame):=fun hm=>by
   obtain ⟨_,o,ho,hnf⟩:=hl.mem hm
   rw [he] at ho
   cases ho
   exact hnf vs hd
 refine wpAny_bind (wpAny_frameOf_fun hfr hl hf fun h1 s1=>wpAny_bind (wpAny_entryPlaceOf fun pl hpl=>?_))
 unfold EntryCells.newEntry newFields
 refine wpAny_bind (wpAny_newObj_type ?_ (hpl.sizeOk5 _ _ _ _ _))
 generalize hts:([head,Value.ref L,.none,rawInt L,.none]++(if pl.isEmpty then List.replicate 6 Value.none else pl)).toArray=ts
 have hts3:ts[3]?=some (rawInt L):=by rw [← hts];first | (simp;done) | (rcases hpl with rfl | ⟨_,_,_,_,_,_,_,rfl⟩ <;> simp)
 have e1:h1.get? e=some oe:=(s1.2.1 e nfr).trans he
 have kb1:base.StaysIn h1:=fun b o hbo=>(s1.2.1 b fun hm=>by rw [(hl.mem hm).1] at hbo;cases hbo).trans (hkb b o hbo)
 have e2:(h1.push { cls:=.type "traceback",dict:=none,data:=.fields ts }).get? e=some oe:=Heap.get?_push_of_some _ e1
 have nT:h1.objs.size≠e:=Nat.ne_of_gt (Heap.lt_size e1)
 refine wpAny_setField e2 hd hsz (h _ ?_)
 have d3:=Obj.data_mapFields hd (·.setIfInBounds 1 (Value.ref h1.objs.size))
 have e3:=Heap.get?_update_self (Obj.mapFields (·.setIfInBounds 1 (Value.ref h1.objs.size))) e2 (Obj.isFreed_of_fields d3)
 have kp:∀ b o,b≠e→h1.get? b=some o→((h1.push { cls:=.type "traceback",dict:=none,data:=.fields ts }).update e (Obj.mapFields (·.setIfInBounds 1 (Value.ref h1.objs.size)))).get? b=some o:=fun b o nb eb=>
   (Heap.get?_update_other _ _ (Ne.symm nb)).trans (Heap.get?_push_of_some _ eb)
 have T3:=(Heap.get?_update_other (h1.push { cls:=.type "traceback",dict:=none,data:=.fields ts }) (Obj.mapFields (·.setIfInBounds 1 (Value.ref h1.objs.size))) (Ne.symm nT)).trans (Heap.get?_push_size h1 rfl)
 have nr:∀ b o,s.heap.get? b=some o→(∀ vs,o.data≠ .fields vs)→b≠e:=fun b o hb hnf q=>by
   rw [q,he] at hb
   cases hb
   exact hnf vs hd
 refine ⟨fun b o hbo=>kp b o (fun q=>by rw [q,hen] at hbo;cases hbo) (kb1 b o hbo),hl.of_keeps fun b o hb hnf=>?_,⟨_,_,h1.objs.size,_,ts,e3,(Obj.cls_mapFields ..).trans hc,(lj ..).trans hdc,d3,?_,by simp [hsz],kb1.fresh,nT,T3,rfl,hts3⟩,fun b o hb hnf=>?_⟩
 · obtain ⟨sl,hs⟩:=s1.2.2 b o hb
   exact ⟨_,kp b _ (nr b o hb hnf) hs,rfl⟩
 · exact ⟨by rw [Array.getElem?_setIfInBounds_ne (by decide)];exact h0.a,by rw [Array.getElem?_setIfInBounds_ne (by decide)];exact h0.b⟩
 · obtain ⟨sl,hs⟩:=s1.2.2 b o hb
   exact ⟨sl,kp b _ (nr b o hb hnf) hs⟩
theorem oF {oe:Obj} {vs:Array Value} (hfr:A.frames=some (env::outer)) (hl:s.heap.FunFrames base (env::outer)) (hf:env.frame=some L) (he:s.heap.get? e=some oe) (hc:oe.cls=cls) (hdc:oe.dict=d) (hkb:base.StaysIn s.heap) (hen:base.get? e=none)
  (hd:oe.data=.fields vs) (h1:vs[1]?=some .none) (h0:Hd0 vs a0) (h:∀ h',jK base (env::outer) e cls a0 d (rawInt L) s.heap h'→Q () { s with heap:=h' }):wpAny M A (noteFrame (.ref e) env) Q E s:=by
 unfold noteFrame
 simp only [hf]
 refine wpAny_bind (wpAny_field he hd h1 ?_)
 rw [if_neg (by decide)]
 exact tB hfr hl hf he hc hdc hkb hen hd (Array.getElem?_eq_some_iff.mp h1).1 h0 h
theorem AS {fl fl':Value} {T:Addr} {oT:Obj} {ts:Array Value} {l:List Env} {oe:Obj} {vs:Array Value} (hkb:base.StaysIn s.heap) (hl:s.heap.FunFrames base l) (he:s.heap.get? e=some oe) (hc:oe.cls=cls) (hdc:oe.dict=d) (hd:oe.data=.fields vs) (h0:Hd0 vs a0)
  (h1:vs[1]?=some (.ref T)) (nT:base.get? T=none) (Te:T≠e) (hT:s.heap.get? T=some oT) (hdT:oT.data=.fields ts) (h3:ts[3]?=some fl) (h:∀ h',jK base l e cls a0 d fl' s.heap h'→(h'.get? e=some oe)→Q () { s with heap:=h' }):wpAny M A (setField (.ref T) 3 fl') Q E s:=by
 have sz:=(Array.getElem?_eq_some_iff.mp h3).1
 have ot:∀ b,b≠T→(s.heap.update T (Obj.mapFields (·.setIfInBounds 3 fl'))).get? b=s.heap.get? b:=fun b hb=>Heap.get?_update_other _ _ (Ne.symm hb)
 have nr:∀ b o,s.heap.get? b=some o→(∀ vs,o.data≠ .fields vs)→b≠T:=fun b o hb hnf q=>by
  rw [q,hT] at hb
  cases hb
  exact hnf ts hdT
 refine wpAny_setField hT hdT sz (h _ ⟨fun b o hbo=>(ot b fun q=>by rw [q,nT] at hbo;cases hbo).trans (hkb b o hbo),hl.of_keeps fun b o hb hnf=>⟨o,(ot b (nr b o hb hnf)).trans hb,rfl⟩,
  ⟨oe,vs,T,_,_,(ot e (Ne.symm Te)).trans he,hc,hdc,hd,h0,h1,nT,Te,Heap.get?_update_self _ hT (Obj.isFreed_of_fields (Obj.data_mapFields hdT _)),Obj.data_mapFields hdT _,by simp [sz]⟩,fun b o hb hnf=>⟨o.slots,(ot b (nr b o hb hnf)).trans hb⟩⟩ ((ot e (Ne.symm Te)).trans he))
theorem jo {fl:Value} {l:List Env} (hkb:base.StaysIn s.heap) (hl:s.heap.FunFrames base l) (ht:TrD s.heap base e cls a0 d fl) (h:∀ h',jK base l e cls a0 d .none s.heap h'→Q () { s with heap:=h' }):wpAny M A (setFlight (.ref e) none) Q E s:=by
 obtain ⟨oe,vs,T,oT,ts,he,hc,hdc,hd,h0,h1,nT,Te,hT,hdT,h3⟩:=ht.ex
 unfold setFlight
 refine wpAny_bind (wpAny_field he hd h1 ?_)
 rw [if_pos (show (Value.ref T !=Value.none)=true from by simp)]
 exact AS hkb hl he hc hdc hd h0 h1 nT Te hT hdT h3 fun h' n _=>h h' n
theorem kj (hfr:A.frames=some (env::outer)) (hl:s.heap.FunFrames base (env::outer)) (hf:env.frame=some L) (ht:TrD s.heap base e cls a0 d .none) (hkb:base.StaysIn s.heap) (hen:base.get? e=none)
  (h:∀ h',jK base (env::outer) e cls a0 d (rawInt L) s.heap h'→Q () { s with heap:=h' }):wpAny M A (noteFrame (.ref e) env) Q E s:=by
 obtain ⟨oe,vs,T,oT,ts,he,hc,hdc,hd,h0,h1,nT,Te,hT,hdT,h3⟩:=ht.ex
 unfold noteFrame
 simp only [hf]
 refine wpAny_bind (wpAny_field he hd h1 ?_)
 rw [if_pos (show (Value.ref T !=Value.none)=true from by simp)]
 refine wpAny_bind (wpAny_field hT hdT h3 ?_)
 rw [if_neg (show ¬ ((Value.none==rawInt L)=true) from by simp [rawInt])]
 refine wpAny_bind (AS (fl':=.none) hkb hl he hc hdc hd h0 h1 nT Te hT hdT h3 fun h' n he'=>?_)
 exact tB (s:={ s with heap:=h' }) hfr n.fr hf he' hc hdc n.st hen hd (Array.getElem?_eq_some_iff.mp h1).1 h0 fun h2 n2=>h h2 ⟨n2.st,n2.fr,n2.tr,n.up.trans n2.up⟩
theorem nQ {oe:Obj} {vs:Array Value} (hfr:A.frames=some (env::outer)) (hl:s.heap.FunFrames base (env::outer)) (hf:env.frame=some L) (he:s.heap.get? e=some oe) (hc:oe.cls=cls) (hdc:oe.dict=d) (hkb:base.StaysIn s.heap) (hen:base.get? e=none)
  (hd:oe.data=.fields vs) (h1:vs[1]?=some .none) (h0:Hd0 vs a0) (h:∀ h',jK base outer e cls a0 d .none s.heap h'→Q () { s with heap:=h' }):wpAny M A (leaving env (.ref e)) Q E s:=by
 unfold leaving
 refine wpAny_bind (oF hfr hl hf he hc hdc hkb hen hd h1 h0 fun h' n=>?_)
 obtain ⟨n1,⟨_,_,n2⟩,n3,n4⟩:=n
 exact jo (s:={ s with heap:=h' }) n1 n2 n3 fun h2 m=>h h2 ⟨m.st,m.fr,m.tr,n4.trans m.up⟩
theorem oA (hfr:A.frames=some (env::outer)) (hl:s.heap.FunFrames base (env::outer)) (hf:env.frame=some L) (ht:TrD s.heap base e cls a0 d .none) (hkb:base.StaysIn s.heap) (hen:base.get? e=none)
  (h:∀ h',jK base outer e cls a0 d .none s.heap h'→Q () { s with heap:=h' }):wpAny M A (leaving env (.ref e)) Q E s:=by
 unfold leaving
 refine wpAny_bind (kj hfr hl hf ht hkb hen fun h' n=>?_)
 obtain ⟨n1,⟨_,_,n2⟩,n3,n4⟩:=n
 exact jo (s:={ s with heap:=h' }) n1 n2 n3 fun h2 m=>h h2 ⟨m.st,m.fr,m.tr,n4.trans m.up⟩
end
end HT
namespace L2
open PySem PySem.Spec PyProof.Rows
abbrev veM:List Value:=[.type "ValueError",.type "Exception",.type "BaseException",.type "object"]
def fP (K:W.Frag) (C D:Addr):Option Bool:=match K.lookup C with
 | some ⟨_,_,.cls cd,_⟩=>some (cd.mro.contains (.ref D))
 | _=>none
def jh (K : W.Frag) (C : Addr) : Bool := match K.lookup C with
  | some ⟨.type "type", _, .cls cd, sl⟩ => (match cd.mro, sl.toList with
    | .ref C' :: bm, [_, _, _, _, some (.builtin n), _] => C' == C && n == "ValueError.__new__" && !cd.hasDel && W.tailIn K veM bm && W.nsOkIn K cd.ns
    | _, _ => false)
  | _ => false
def cA (K:W.Frag) (C:Addr):Prop:=jh K C=true
def eQ (K:W.Frag) (C:Addr):Prop:=W.excIn K C veM "ValueError.__new__" =true
theorem eQ.ok {K:W.Frag} {C:Addr} (q:eQ K C):cA K C:=by
 unfold eQ W.excIn at q
 unfold cA jh
 split at q
 · rename_i dd cd sl ho
   split at q
   · rename_i C' bm k0 k1 k2 k3 n k5 hm hs
     rw [ho]
     simp only [hm,hs]
     simp only [Bool.and_eq_true] at q ⊢
     exact q.1
   · cases q
 · cases q
theorem eG {K : W.Frag} {h : Heap} {C : Addr} (X : K.In h) (q : cA K C) :
   ∃ bm N nm qn bs hdct sn sub ab col dd k0 k1 k2 k3 k5 mN, h.get? C = some (excClassObj nm qn C N bs bm hdct sn sub ab col dd k0 k1 k2 k3 k5 "ValueError.__new__") ∧ h.Ns N mN ∧ (eQ K C → mN "__init__" = none) ∧ OwnTail h veM bm ∧
     ∀ D, fP K C D = some ((Value.ref C :: bm).contains (.ref D)) := by
 have q2 := q
 unfold cA jh at q
 split at q
 · rename_i dd cd sl ho
   split at q
   · rename_i C' bm k0 k1 k2 k3 n k5 hm hs
     simp only [Bool.and_eq_true, beq_iff_eq, Bool.not_eq_true'] at q
     obtain ⟨⟨⟨⟨rfl, rfl⟩, hdel⟩, ht⟩, hok⟩ := q
     obtain ⟨nm, bs, mro, ns, qn, hd, sn, sub, ab, col, del⟩ := cd
     dsimp only at hm hdel hok
     subst hm hdel
     have hsl : sl = #[k0, k1, k2, k3, some (.builtin "ValueError.__new__"), k5] := by
       obtain ⟨l⟩ := sl
       simp only at hs
       rw [hs]
     subst hsl
     refine ⟨bm, ns, nm, qn, bs, hd, sn, sub, ab, col, dd, k0, k1, k2, k3, k5, _, X _ _ ho, .of_isNs (W.isNs_of_in X hok), fun r => ?_, W.tail_of_in X ht, fun D => ?_⟩
     · unfold eQ W.excIn at r
       rw [ho] at r
       simp only [Bool.and_eq_true, beq_iff_eq] at r
       exact W.nsMap_none_of_in X hok r.2
     · unfold fP
       rw [ho]
   · cases q
 · cases q
theorem lr {M:Model} {A:Around} {E:Value→Shared→Prop} {s:Shared} {K:W.Frag} {C D e:Addr} {oe:Obj} {Q:Bool→Shared→Prop} {b:Bool} (X:K.In s.heap) (hC:cA K C) (hD:cA K D) (he:s.heap.get? e=some oe) (hcls:oe.cls=.ref C)
  (hs:fP K C D=some b) (hq:Q b s):wpAny M A (excMatches (.ref e) (.ref D)) Q E s:=by
 obtain ⟨bm,N,nm,qn,bs,hdct,sn,sub,ab,col,dd,k0,k1,k2,k3,k5,mN,oC,_,_,_,hsub⟩:=eG X hC
 obtain ⟨bm',N',nm',qn',bs',hdct',sn',sub',ab',col',dd',k0',k1',k2',k3',k5',mN',oD,_,_,T',_⟩:=eG X hD
 have hb:(Value.ref C::bm).contains (.ref D)=b:=Option.some.inj ((hsub D).symm.trans hs)
 have hbase:(Value.ref D::bm').contains (.type "BaseException")=true:=by
  rw [List.contains_cons,T'.hasType (X:= "BaseException") (b:=true) (by decide +kernel),Bool.or_true]
 have f:=tc_notTuple
 obtain ⟨hp,g,d,t,os⟩:=s
 unfold excMatches
 repeat (first | (with_reducible refine wpAny_loadPart_at he ?_;rw [hcls]) | with_reducible refine wpAny_loadPart_at oD ?_ | (with_reducible refine wpAny_isSubtype_exc oC ?_;rw [hb]) | (with_reducible refine wpAny_isSubtype_exc oD ?_;rw [hbase]) | wp_step)
 all_goals first | exact hq | (cases b <;> first | exact hq | (repeat (first | exact hq | wp_step)))
structure Fly (P:Program) (w:World) (l:List Env) (H:Hp) (s:Shared) (cls fl:Value) (a:Addr) (d:Option Addr) (H':Hp) (s':Shared):Prop where
 os:s'.os=s.os
 bare:AllBare s'.gens
 un:Un (frs l) [] H H' s.heap s'.heap
 hok:HOk P w H' s'.heap
 new:s.heap.get? a=none
 free:H' a=none
 tr:∃ oe vs a0 T oT ts,s'.heap.get? a=some oe∧oe.cls=cls∧oe.dict=d∧oe.data=.fields vs∧HT.Hd0 vs a0∧vs[1]?=some (.ref T)∧T≠a∧s'.heap.get? T=some oT∧oT.data=.fields ts∧ts[3]?=some fl∧s.heap.get? T=none∧H' T=none
def CX1 (P:Program) (w:World):CXT:=fun outer H s E e s'=>∃ a C d H',e=.ref a∧Fly P w outer H s (.ref C) .none a d H' s'∧E (.ref C) d H'
theorem gZ {P:Program} {w:World} {H:Hp} {h:Heap} {a:Addr} {o:HO} (x:bu P w H h a o):∃ u,h.get? a=some u:=by
 cases o with
 | lst xs=>obtain ⟨_,_,_,_,e⟩:=x;exact ⟨_,e⟩
 | tup xs=>obtain ⟨_,_,_,p⟩:=x;obtain ⟨o,e,_⟩:=p;exact ⟨_,e⟩
 | dK kvs=>obtain ⟨_,_,_,_,o,_,_,e,_⟩:=x;exact ⟨_,e⟩
 | dT kvs=>obtain ⟨_,_,_,_,o,_,_,e,_⟩:=x;exact ⟨_,e⟩
 | set S n=>obtain ⟨o,_,_,_,e,_⟩:=x;exact ⟨_,e⟩
 | ins C dx fs=>obtain ⟨_,_,_,e,_⟩:=x;exact ⟨_,e⟩
 | own y=>exact x
 | xd fs=>obtain ⟨_,⟨_,_,_,e,_⟩,_⟩:=x;exact ⟨_,e⟩
 | rng lo hi=>obtain ⟨_,_,_,e⟩:=x;exact ⟨_,e⟩
 | frz ob u=>obtain ⟨e,_⟩:=x;exact ⟨_,e⟩
 | tbl ps=>exact ⟨_,(show h.get? a=some _ from x)⟩
 | met f y=>exact ⟨_,(show h.get? a=some _ from x)⟩
 | ext φ=>obtain ⟨_,e,_⟩:=x;exact e
section
variable {P:Program} {w:World} {l:List Env} {H H':Hp} {s s':Shared} {cls fl fl':Value} {a:Addr} {d:Option Addr} {base:Heap}
def eW (h:Heap) (l:List Env) (a T:Addr):Heap:=W.hideAll h (a::T::frs l)
theorem Fly.frames (F : Fly P w l H s cls fl a d H' s') (ff : s.heap.FunFrames base l) (frf : ∀ b ∈ frs l, H b = none) : s'.heap.FunFrames base l := by
  have all : ∀ (k : List Env), (∀ b ∈ frs k, b ∈ frs l) → s.heap.FunFrames base k → s'.heap.FunFrames base k := by
    intro k
    induction k with
    | nil => intro _ _; trivial
    | cons env r ih =>
      intro hs hl
      obtain ⟨hk, ⟨L, o, hf, hn, ho, hd⟩, hr⟩ := hl
      have hL : L ∈ frs l := hs L (by unfold frs; rw [List.filterMap_cons, hf]; exact List.mem_cons_self)
      obtain ⟨sl, e⟩ := F.un.slot L o ho (frf L hL) hL (by simp)
      exact ⟨hk, ⟨L, _, hf, hn, e, hd⟩, ih (fun b hb => hs b (by unfold frs; rw [List.filterMap_cons, hf]; exact List.mem_cons_of_mem _ hb)) hr⟩
  exact all l (fun _ hb => hb) ff
theorem iT {h B B':Heap}:∀ {k:List Env},h.FunFrames B k→(∀ b∈frs k,B'.get? b=none)→h.FunFrames B' k
 | [],_,_=>trivial
 | env::r,⟨hk,⟨L,o,hf,hn,ho,hd⟩,hr⟩,hb=>⟨hk,⟨L,o,hf,hb L (by unfold frs;rw [List.filterMap_cons,hf];exact List.mem_cons_self),ho,hd⟩,iT hr fun b h=>hb b (by unfold frs;rw [List.filterMap_cons,hf];exact List.mem_cons_of_mem _ h)⟩
theorem Fly.moved (F : Fly P w l H s cls fl a d H' s') (ff : s.heap.FunFrames base l) (frf : ∀ b ∈ frs l, H b = none) (ffs : ∀ b ∈ frs l, H' b = none) {T : Addr} {oT : Obj} (hT0 : s.heap.get? T = none) (hT1 : H' T = none) {h' : Heap} {a0 : Value}
    (st : (eW s'.heap l a T).StaysIn h') (up : s'.heap.UpToSlots h') (tr : HT.TrD h' (eW s'.heap l a T) a cls a0 d fl') : Fly P w l H s cls fl' a d H' { s' with heap := h' } := by
  have kp : ∀ b o, s'.heap.get? b = some o → b ≠ a → b ≠ T → b ∉ frs l → h'.get? b = some o := fun b o e h1 h2 h3 => st b o (W.hideAll_get _ e (by simp [h1, h2, h3]))
  have ff' := F.frames ff frf
  have nf : ∀ b ∈ frs l, ∀ o, s'.heap.get? b = some o → ∀ vs, o.data ≠ .fields vs := fun b hb o e vs z => by
    obtain ⟨_, o', ho, hd⟩ := ff'.mem hb
    rw [e] at ho; cases ho
    exact hd vs z
  have old : ∀ b o, s.heap.get? b = some o → b ≠ a ∧ b ≠ T := fun b o e => ⟨fun z => (by rw [z, F.new] at e; cases e), fun z => (by rw [z, hT0] at e; cases e)⟩
  refine ⟨F.os, F.bare, ⟨fun b o e n hb hx => ?_, fun b o e n hb hx => ?_, F.un.free, fun b o e hx => ?_, F.un.tups, F.un.frzs, F.un.tbls⟩, fun b o e => ?_, F.new, F.free, ?_⟩
  · exact kp b o (F.un.keep b o e n hb hx) (old b o e).1 (old b o e).2 hb
  · obtain ⟨sl, e1⟩ := F.un.slot b o e n hb hx
    obtain ⟨sl', e2⟩ := up b _ e1 (nf b hb _ e1)
    exact ⟨sl', e2⟩
  · obtain ⟨o', e1⟩ := F.un.there b o e hx
    by_cases hb : b ∈ frs l
    · obtain ⟨sl', e2⟩ := up b _ e1 (nf b hb _ e1)
      exact ⟨_, e2⟩
    · exact ⟨o', kp b o' e1 (old b o e).1 (old b o e).2 hb⟩
  · refine (F.hok b o e).stay (fun c u hc q => kp c u q ?_ ?_ ?_) (fun _ q => q) fun _ _ q => q
    · rintro rfl
      rcases hc with r | r
      · rw [← r, F.free] at e; cases e
      · rw [F.free] at r; cases r
    · rintro rfl
      rcases hc with r | r
      · rw [← r, hT1] at e; cases e
      · rw [hT1] at r; cases r
    · intro hm
      rcases hc with r | r
      · rw [← r, ffs _ hm] at e; cases e
      · rw [ffs _ hm] at r; cases r
  · obtain ⟨oe, vs, T', oT', ts, he, hc, hdc, hd, h0, h1, hn, hne, hT', hdT, h3⟩ := tr.ex
    have key : s'.heap.get? T' = none ∨ T' = T := by
      cases q : s'.heap.get? T' with
      | none => exact .inl rfl
      | some o =>
        refine .inr (Classical.byContradiction fun hz => ?_)
        by_cases hf : T' ∈ frs l
        · obtain ⟨sl', e2⟩ := up T' o q (nf T' hf o q)
          rw [hT'] at e2; cases e2
          exact nf T' hf o q ts hdT
        · have : (eW s'.heap l a T).get? T' = some o := W.hideAll_get _ q (by simp [hz, hne, hf])
          rw [hn] at this; cases this
    refine ⟨oe, vs, a0, T', oT', ts, he, hc, hdc, hd, h0, h1, hne, hT', hdT, h3, ?_, ?_⟩
    · rcases key with z | z
      · cases q : s.heap.get? T' with
        | none => rfl
        | some o =>
          obtain ⟨o', e⟩ := F.un.there T' o q (by simp)
          rw [z] at e; cases e
      · rw [z]; exact hT0
    · rcases key with z | z
      · cases q : H' T' with
        | none => rfl
        | some o =>
          obtain ⟨o1, e1⟩ := gZ (F.hok T' o q)
          rw [z] at e1; cases e1
      · rw [z]; exact hT1
end
section
variable {X:Cx} {pins:List (Addr×Obj)} {σ:St} {H H':Hp} {s s':Shared} {cls fl:Value} {a:Addr} {d:Option Addr}
theorem Fly.inv (I:Inv X pins σ H s) (F:Fly X.prog X.w X.stack H s cls fl a d H' s'):Inv X pins σ H' s':=I.call' (ch:=[]) F.os F.un F.hok F.bare fun b z=>absurd z (by simp)
theorem Fly.up (I : Inv X pins σ H s) (hex : X.ex = []) (F : Fly X.prog X.w X.stack H s cls fl a d H' s') : Fly X.prog X.w X.outer X.H₀ X.s₀ cls fl a d H' s' := by
  have I2 := F.inv I
  have back : ∀ b, s.heap.get? b = none → X.s₀.heap.get? b = none := fun b e => by
    cases q : X.s₀.heap.get? b with
    | none => rfl
    | some o =>
      obtain ⟨o', e'⟩ := I.base.there b o q (by rw [hex]; simp)
      rw [e] at e'; cases e'
  obtain ⟨oe, vs, a0, T, oT, ts, h1, h2, hd, h3, h4, h5, h6, h7, h8, h9, h10, h11⟩ := F.tr
  have b := I2.base
  rw [hex] at b
  exact ⟨I2.os, I2.bare, b, I2.hok, back a F.new, F.free, oe, vs, a0, T, oT, ts, h1, h2, hd, h3, h4, h5, h6, h7, h8, h9, back T h10, h11⟩
theorem Fly.flying (I:Inv X pins σ H s) (F:Fly X.prog X.w X.stack H s cls .none a d H' s'):∃ T a0,s.heap.get? T=none∧H' T=none∧(eW s'.heap X.stack a T).StaysIn s'.heap∧(eW s'.heap X.stack a T).get? a=none∧s'.heap.FunFrames (eW s'.heap X.stack a T) X.stack∧
  HT.TrD s'.heap (eW s'.heap X.stack a T) a cls a0 d .none:=by
 obtain ⟨oe,vs,a0,T,oT,ts,h1,h2,hd,h3,h4,h5,h6,h7,h8,h9,h10,h11⟩:=F.tr
 exact ⟨T,a0,h10,h11,fun b o e=>W.of_hideAll _ e,W.hideAll_none _ (by simp),iT (F.frames I.stack I.stkFree) fun b hb=>W.hideAll_none _ (by simp [hb]),⟨oe,vs,T,oT,ts,h1,h2,hd,h3,h4,h5,W.hideAll_none _ (by simp),h6,h7,h8,h9⟩⟩
end
structure pU (P:Program) (w:World) (l:List Env) (H:Hp) (s:Shared) (cls:Value) (a:Addr) (d:Option Addr) (H':Hp) (s':Shared):Prop where
 os:s'.os=s.os
 bare:AllBare s'.gens
 un:Un (frs l) [] H H' s.heap s'.heap
 hok:HOk P w H' s'.heap
 new:s.heap.get? a=none
 free:H' a=none
 tr:∃ oe vs a0,s'.heap.get? a=some oe∧oe.cls=cls∧oe.dict=d∧oe.data=.fields vs∧HT.Hd0 vs a0∧vs[1]?=some .none
section
variable {P:Program} {w:World} {l:List Env} {H H':Hp} {s s':Shared} {cls fl':Value} {a:Addr} {d:Option Addr} {base:Heap}
theorem lD (un : Un (frs l) [] H H' s.heap s'.heap) (ff : s.heap.FunFrames base l) (frf : ∀ b ∈ frs l, H b = none) : s'.heap.FunFrames base l := by
  have all : ∀ (k : List Env), (∀ b ∈ frs k, b ∈ frs l) → s.heap.FunFrames base k → s'.heap.FunFrames base k := by
    intro k
    induction k with
    | nil => intro _ _; trivial
    | cons env r ih =>
      intro hs hl
      obtain ⟨hk, ⟨L, o, hf, hn, ho, hd⟩, hr⟩ := hl
      have hL : L ∈ frs l := hs L (by unfold frs; rw [List.filterMap_cons, hf]; exact List.mem_cons_self)
      obtain ⟨sl, e⟩ := un.slot L o ho (frf L hL) hL (by simp)
      exact ⟨hk, ⟨L, _, hf, hn, e, hd⟩, ih (fun b hb => hs b (by unfold frs; rw [List.filterMap_cons, hf]; exact List.mem_cons_of_mem _ hb)) hr⟩
  exact all l (fun _ hb => hb) ff
theorem pU.moved (F : pU P w l H s cls a d H' s') (ff : s.heap.FunFrames base l) (frf : ∀ b ∈ frs l, H b = none) (ffs : ∀ b ∈ frs l, H' b = none) {h' : Heap} {a0 : Value}
    (st : (eW s'.heap l a a).StaysIn h') (up : s'.heap.UpToSlots h') (tr : HT.TrD h' (eW s'.heap l a a) a cls a0 d fl') : Fly P w l H s cls fl' a d H' { s' with heap := h' } := by
  have kp : ∀ b o, s'.heap.get? b = some o → b ≠ a → b ∉ frs l → h'.get? b = some o := fun b o e h1 h3 => st b o (W.hideAll_get _ e (by simp [h1, h3]))
  have ff' := lD F.un ff frf
  have nf : ∀ b ∈ frs l, ∀ o, s'.heap.get? b = some o → ∀ vs, o.data ≠ .fields vs := fun b hb o e vs z => by
    obtain ⟨_, o', ho, hd⟩ := ff'.mem hb
    rw [e] at ho; cases ho
    exact hd vs z
  have old : ∀ b o, s.heap.get? b = some o → b ≠ a := fun b o e z => by rw [z, F.new] at e; cases e
  refine ⟨F.os, F.bare, ⟨fun b o e n hb hx => ?_, fun b o e n hb hx => ?_, F.un.free, fun b o e hx => ?_, F.un.tups, F.un.frzs, F.un.tbls⟩, fun b o e => ?_, F.new, F.free, ?_⟩
  · exact kp b o (F.un.keep b o e n hb hx) (old b o e) hb
  · obtain ⟨sl, e1⟩ := F.un.slot b o e n hb hx
    obtain ⟨sl', e2⟩ := up b _ e1 (nf b hb _ e1)
    exact ⟨sl', e2⟩
  · obtain ⟨o', e1⟩ := F.un.there b o e hx
    by_cases hb : b ∈ frs l
    · obtain ⟨sl', e2⟩ := up b _ e1 (nf b hb _ e1)
      exact ⟨_, e2⟩
    · exact ⟨o', kp b o' e1 (old b o e) hb⟩
  · refine (F.hok b o e).stay (fun c u hc q => kp c u q ?_ ?_) (fun _ q => q) fun _ _ q => q
    · rintro rfl
      rcases hc with r | r
      · rw [← r, F.free] at e; cases e
      · rw [F.free] at r; cases r
    · intro hm
      rcases hc with r | r
      · rw [← r, ffs _ hm] at e; cases e
      · rw [ffs _ hm] at r; cases r
  · obtain ⟨oe, vs, T', oT', ts, he, hc, hdc, hd, h0, h1, hn, hne, hT', hdT, h3⟩ := tr.ex
    have key : s'.heap.get? T' = none := by
      cases q : s'.heap.get? T' with
      | none => rfl
      | some o =>
        by_cases hf : T' ∈ frs l
        · obtain ⟨sl', e2⟩ := up T' o q (nf T' hf o q)
          rw [hT'] at e2; cases e2
          exact (nf T' hf o q ts hdT).elim
        · have : (eW s'.heap l a a).get? T' = some o := W.hideAll_get _ q (by simp [hne, hf])
          rw [hn] at this; cases this
    refine ⟨oe, vs, a0, T', oT', ts, he, hc, hdc, hd, h0, h1, hne, hT', hdT, h3, ?_, ?_⟩
    · cases q : s.heap.get? T' with
      | none => rfl
      | some o =>
        obtain ⟨o', e⟩ := F.un.there T' o q (by simp)
        rw [key] at e; cases e
    · cases q : H' T' with
      | none => rfl
      | some o =>
        obtain ⟨o1, e1⟩ := gZ (F.hok T' o q)
        rw [key] at e1; cases e1
end
def hG (CX:CXT) (X:Cx) (E:St→XK):Prop:=∀ (pins:List (Addr×Obj)) (σ:St) (H:Hp) (s:Shared) (e:Value) (s':Shared),Inv X pins σ H s→CX X.stack H s (E σ) e s'→X.xe e s'
def nO (X:Cx) (E:St→XK):Prop:=∀ (pins:List (Addr×Obj)) (σ:St) (H:Hp) (s:Shared) (C a:Addr) (d:Option Addr) (H2:Hp) (s2:Shared),Inv X pins σ H s→pU X.prog X.w X.stack H s (.ref C) a d H2 s2→E σ (.ref C) d H2→X.xe (.ref a) s2
theorem jy {P:Program} {w:World} {X:Cx}:hG (CX1 P w) X (fun _=>E0):=fun pins σ H s e s' I ⟨_,_,_,_,_,_,h⟩=>h.elim
section
variable {P:Program} {w:World} {K:W.Frag} {mg:Str→Option Value} {base:Heap} {N:List Str} {qual:Str} {scope:Scope} {f:Addr} {cd:Value} {A:Around} {outer:List Env} {s:Shared} {H:Hp} {E:XK}
theorem cT:hG (CX1 P w) (cS (CX1 P w) P w K mg base N qual scope f cd A outer s H E) (fun _=>E):=by
 intro pins σ H1 s1 e s' I hx
 obtain ⟨a,C,d,H',rfl,F,hE⟩:=hx
 obtain ⟨T,a0,hT0,hT1,f1,f2,f3,f4⟩:=F.flying I
 refine HT.oA (I.ok.frames) f3 rfl f4 f1 f2 fun h' n=>?_
 have F2:=F.moved (oT:={ cls:=.none,data:=.dict #[] }) I.stack I.stkFree (F.inv I).stkFree hT0 hT1 n.st n.up n.tr
 exact ⟨a,C,d,H',rfl,F2.up I rfl,hE⟩
theorem gC:nO (cS (CX1 P w) P w K mg base N qual scope f cd A outer s H E) (fun _=>E):=by
 intro pins σ H1 s1 C a d H2 s2 I F hE
 have I2:Inv (cS (CX1 P w) P w K mg base N qual scope f cd A outer s H E) pins σ H2 s2:=I.call' (ch:=[]) F.os F.un F.hok F.bare fun b z=>absurd z (by simp)
 obtain ⟨oe,vs,a0,he,hc,hdc,hd,h0,h1⟩:=F.tr
 refine HT.nQ I.ok.frames (iT (B':=eW s2.heap (cS (CX1 P w) P w K mg base N qual scope f cd A outer s H E).stack a a) (lD F.un I.stack I.stkFree) fun b hb=>W.hideAll_none _ (List.mem_cons_of_mem _ (List.mem_cons_of_mem _ hb))) rfl he hc hdc (fun b o e=>W.of_hideAll _ e) (W.hideAll_none _ (by simp)) hd h1 h0 fun h' n=>?_
 have F2:=F.moved I.stack I.stkFree I2.stkFree n.st n.up n.tr
 exact ⟨a,C,d,H2,rfl,F2.up I rfl,hE⟩
theorem CG {X : Cx} {pins : List (Addr × Obj)} {σ : St} {H : Hp} {s : Shared} {C a : Addr} {h1 : Heap} (I : Inv X pins σ H s) (hm : Heap.MadeExcOf s.heap h1 a (.ref C) []) : pU X.prog X.w X.stack H s (.ref C) a none H { s with heap := h1 } := by
  obtain ⟨t, ht, _, _⟩ := hm.there
  refine ⟨rfl, I.bare, Un.kept hm.keeps, I.hok.kept hm.keeps, hm.new, ?_, ⟨_, _, .ref t, ht, rfl, rfl, rfl, ⟨rfl, rfl⟩, rfl⟩⟩
  cases q : H a with
  | none => rfl
  | some o =>
    obtain ⟨u, e'⟩ := gZ (I.hok a o q)
    rw [hm.new] at e'; cases e'
end
def ax (sp:Sp) (E:St→XK) (t:TA):TE:=fun σ H Q=>t σ H fun vs H1=>sp vs H1 Q (E σ)
section
variable {X:Cx} {CX:CXT} {k:Nat} {f:Addr} {fd:FuncData} {ps:List Str} {sp:Sp} {E:St→XK} {x:Str} {p pos:Pos} {e:Expr} {es:List Expr} {t:TA}
theorem yE {pins : List (Addr × Obj)} {σ : St} {H : Hp} {s : Shared} {Q : VK} {us : List Value} {vs : List V} (F : bg X.prog X.w X.K X.mg X.base CX k f fd ps sp) (hr : bE k X.A) (hb : dc X.K fd ps []) (hx : hG CX X E)
    (I : Inv X pins σ H s) (r : bo vs us) (h : sp vs H Q (E σ)) : wpAny (model X.prog X.w) X.A (call (.ref f) us) (EP X pins σ Q) X.xe s := by
  have hl : us.length = ps.length := by rw [← r.length]; exact F.len _ _ _ _ h
  have hb' := hb s us I.kIn (by rw [List.append_nil]; exact hl)
  rw [List.append_nil] at hb'
  refine wpAny_call (codeAny_mono (F.run X.A X.stack s H ⟨us, []⟩ us vs Q (E σ) hr I.env0 hb' r h) fun r s' hq => ?_)
  cases r with
  | error e => exact hx pins σ H s e s' I hq
  | ok fl =>
    cases fl with
    | ret u => exact I.after hq
    | next => exact False.elim hq
    | brk => exact False.elim hq
    | cont => exact False.elim hq
theorem cP (F:bg X.prog X.w X.K X.mg X.base CX k f fd ps sp) (hr:bE k X.A) (hm:X.mg x=some (.ref f)) (hk:W.keepIn X.K (.ref f)=true) (hb:dc X.K fd ps []) (hx:hG CX X E)
  (ha:QA X (e::es) t) (hg:Gl X x:=by rfl) (hdb:(x==("__debug__" :Str))=false:=by decide) (hs:bV (e::es)=true:=by rfl):QE X (.Call (.Name x p) (e::es) [] pos) (ax sp E t):=by
 refine ⟨fun pins s σ H Q I h=>?_⟩
 have h':(cC e&&bV es)=true:=hs
 refine wpAny_Call_Name_kw (jt I hg hm ?_ hdb)
 refine W.callWith_K (h₀:=X.base) I.ok.mod.kin hk (thn (ha.out pos pins s σ H _ I h) fun us s1 ⟨vs,H1,I1,r,q⟩=>⟨I1.kIn,?_⟩) (bD (Bool.and_eq_true_iff.mp h').1 es X.env) (dg (Bool.and_eq_true_iff.mp h').2)
 exact yE F hr hb hx I1 r q
def oa (C:Addr) (E:St→XK):TS:=fun _ σ H=>E σ (.ref C) none H
theorem pK {C:Addr} {np cpos:Pos} (hC:eQ X.K C) (hm:X.mg x=some (.ref C)) (hR:nO X E) (hc:X.calm=true:=by rfl) (hg:Gl X x:=by rfl) (hdb:(x==("__debug__" :Str))=false:=by decide):
  QS X (.Raise (some (.Call (.Name x np) [] [] cpos)) none pos) (oa C E):=by
 refine ⟨fun pins s σ H D I h=>?_⟩
 obtain ⟨bm,N,nm,qn,bs,hdct,sn,sub,ab,col,dd,k0,k1,k2,k3,k5,mN,oC,hN,hni,T,_⟩:=eG I.kIn hC.ok
 refine wpAny_Raise_call_subU (C:=C) (nm:=nm) (q:=qn) (N:=N) (bs:=bs) (bm:=bm) (hdct:=hdct) (sn:=sn) (sub:=sub) (ab:=ab) (col:=col) (dd:=dd) (k0:=k0) (k1:=k1) (k2:=k2) (k3:=k3) (k5:=k5)
  F.excBase_ValueError (by decide +kernel) F.excBase_ValueError (mN:=mN) (T.hasType F.excBase_ValueError.hasBase) (I.ok.hd hc) rfl (hni hC) (jt I hg hm ⟨rfl,?_⟩ hdb)
 exact evalArgs_empty ⟨rfl,Nat.zero_le _,oC,hN,T,fun h' e hm'=>hR pins σ H s C e none H _ I (CG I hm') h⟩
end
theorem Fun.okX {P : Program} {w : World} {K : W.Frag} {mg : Str → Option Value} {base : Heap} {x qual : Str} {st : Stmt} {f : Addr} {fd : FuncData} {N ps : List Str} {k : Nat} {sp : Sp} (F : Fun K x qual st f fd) (S : aL N ps (ap st)) (len : ∀ vs H Q E, sp vs H Q E → vs.length = ps.length)
  (hbody : ∀ (cdv : Value) (A : Around) (outer : List Env) (s : Shared) (H : Hp) (vs : List V) (Q : VK) (E : XK), bE k (A.deeper (envOfC qual (ap st) s.heap.objs.size f cdv)) → sp vs H Q E →
   ∃ t, PSs (cS (CX1 P w) P w K mg base N qual (ap st) f cdv A outer s H E) (bi st) t ∧ t { nx := fun _ H' => Q .non H', rt := Q } (cq N vs) H) : bg P w K mg base (CX1 P w) (k + 1) f fd ps sp := by
 obtain ⟨oc, od, kV, doc, pm, an, cdv, ct, osl, rfl, lk, hcd⟩ := F.ex
 exact wJ lk hcd S len fun A outer s H vs Q E hr hsp => hbody cdv A outer s H vs Q E hr hsp
def iQ (C:Addr) (d:Option Addr) (a:Addr):HO:=.ext fun h=>∃ o vs,h.get? a=some o∧o.cls=.ref C∧o.dict=d∧o.data=.fields vs∧vs[2]?=some .none
theorem xK {P:Program} {w:World} {H:Hp} {h:Heap} {C a:Addr} {d:Option Addr} {o:Obj} {vs:Array Value} (e:h.get? a=some o) (hc:o.cls=.ref C) (hdc:o.dict=d) (hd:o.data=.fields vs) (h2:vs[2]?=some .none):bu P w H h a (iQ C d a):=
 ⟨⟨o,vs,e,hc,hdc,hd,h2⟩,⟨o,e⟩,fun _ _ ⟨o1,vs1,e1,c1,x1,d1,y1⟩ k=>⟨o1,vs1,k o1 e1,c1,x1,d1,y1⟩⟩
theorem pC {P:Program} {w:World} {H:Hp} {h:Heap} {C a:Addr} {d:Option Addr} (x:bu P w H h a (iQ C d a)):∃ o vs,h.get? a=some o∧o.cls=.ref C∧o.dict=d∧o.data=.fields vs∧vs[2]?=some .none:=x.1
section
variable {X:Cx} {pins:List (Addr×Obj)} {σ:St} {H H1 H':Hp} {s s0:Shared} {a:Addr} {o:HO}
theorem Inv.track (I0:Inv X pins σ H1 s0) (hex:X.ex=[]) (I:Inv X pins σ H s) (new:s0.heap.get? a=none) (hn:H a=none) (ok:bu X.prog X.w (upd H a o) s.heap a o):Inv X pins σ (upd H a o) s:=by
 have ne:∀ b u,s0.heap.get? b=some u→b≠a:=fun b u e z=>by rw [z,new] at e;cases e
 have ne0:∀ b u,X.s₀.heap.get? b=some u→b≠a:=fun b u e=>by
   obtain ⟨u',e'⟩:=I0.base.there b u e (by rw [hex];simp)
   exact ne b u' e'
 have nL:X.env.locals≠a:=by
   obtain ⟨m,⟨o',_,_,e,_⟩,_⟩:=I0.loc
   exact ne _ _ e
 refine ⟨I.ok,I.os,I.bare,⟨I.base.keep,I.base.slot,fun b u e n hx=>?_,I.base.there,fun b xs e=>?_,fun b u v e=>?_,fun b ps e=>?_⟩,I.loc,I.cell,?_,fun x c e=>?_,fun p hp=>?_,fun b u e=>?_,I.len⟩
 · rw [aI (ne0 b u e)];exact I.base.free b u e n hx
 · have:=I.base.tups b xs e
   rw [aI (aS this hn)];exact this
 · have:=I.base.frzs b u v e
   rw [aI (aS this hn)];exact this
 · obtain ⟨more,this⟩:=I.base.tbls b ps e
   exact ⟨more,by rw [aI (aS this hn)];exact this⟩
 · rw [aI nL];exact I.free
 · obtain ⟨v,o',e',_⟩:=I0.cell x c e
   rw [aI (ne _ _ e')];exact I.freeC x c e
 · obtain ⟨h1,h2,h3⟩:=I.pin p hp
   exact ⟨h1,by rw [aI (ne _ _ (I0.pin p hp).1)];exact h2,h3⟩
 · by_cases hb:b=a
   · subst hb
     rw [ao] at e;cases e
     exact ok
   · rw [aI hb] at e
     exact (I.hok b u e).stay (fun c v _ q=>q) (fun c q=>by
      have:c≠a:=aS q hn
      rw [aI this];exact q) fun c xs q=>by
      have:c≠a:=aS q hn
      rw [aI this];exact q
end
def cxH (X:Cx) (a:Addr):Cx:={ X with A:=X.A.mark (some (.ref a)),calm:=false,xe:=fun _ _=>False }
section
variable {X:Cx} {pins:List (Addr×Obj)} {σ:St} {H:Hp} {s:Shared} {a:Addr}
theorem Cx.Ok.toH (ok:X.Ok):(cxH X a).Ok:=⟨ok.mod,ok.kind,ok.glob,ok.blt,ok.above,ok.inj,ok.has,ok.cab,fun h=>absurd (show false=true from h) Bool.false_ne_true,ok.frames,ok.stk,ok.exf,ok.bs,ok.bsz,ok.noex,ok.exfs,ok.funs,ok.frf⟩
theorem Inv.toH (I:Inv X pins σ H s):Inv (cxH X a) pins σ H s:=⟨I.ok.toH,I.os,I.bare,I.base,I.loc,I.cell,I.free,I.freeC,I.pin,I.hok,I.len⟩
theorem Inv.ofH (ok:X.Ok) (I:Inv (cxH X a) pins σ H s):Inv X pins σ H s:=⟨ok,I.os,I.bare,I.base,I.loc,I.cell,I.free,I.freeC,I.pin,I.hok,I.len⟩
theorem SP.ofH {D:fe} {f:Flow} (ok:X.Ok) (h:SP (cxH X a) pins D f s):SP X pins D f s:=by
 cases f with
 | next=>obtain ⟨σ',H',J,q⟩:=h;exact ⟨σ',H',J.ofH ok,q⟩
 | brk=>obtain ⟨σ',H',J,q⟩:=h;exact ⟨σ',H',J.ofH ok,q⟩
 | cont=>obtain ⟨σ',H',J,q⟩:=h;exact ⟨σ',H',J.ofH ok,q⟩
 | ret u=>obtain ⟨v,σ',H',J,r,q⟩:=h;exact ⟨v,σ',H',J.ofH ok,r,q⟩
end
abbrev TH:=fe→St→Addr→Option Addr→Hp→Prop
def PH (X:Cx) (hs:List ExceptHandler) (t:TH):Prop:=∀ (pins:List (Addr×Obj)) (s0:Shared) (σ:St) (H1 H':Hp) (C a:Addr) (d:Option Addr) (s3:Shared) (D:fe),X.stack=X.env::X.outer→X.env.frame=some X.env.locals→X.ex=[]→
 Inv X pins σ H1 s0→Fly X.prog X.w X.stack H1 s0 (.ref C) .none a d H' s3→cA X.K C→t D σ C d H'→wpAny (model X.prog X.w) X.A (handleBy (.ref a) X.env hs) (SP X pins D) X.xe s3
structure QH (X:Cx) (hs:List ExceptHandler) (t:TH):Prop where
 out:PH X hs t
def wX:TH:=fun _ _ _ _ _=>False
def sj (i:Nat) (D:fe):fe:=⟨fun σ H=>D.nx (σ.set i none) H,D.rt,fun σ H=>D.bk (σ.set i none) H,fun σ H=>D.ct (σ.set i none) H⟩
def hAs (K:W.Frag) (Dc:Addr) (i:Nat) (ts:TS) (r:TH):TH:=fun D σ C d H=>∃ b,fP K C Dc=some b∧Sel b (∀ a,H a=none→ts (sj i D) (σ.set i (some (.ref a))) (upd H a (iQ C d a))) (r D σ C d H)
section
variable {X:Cx}
theorem zc:QH X [] wX:=⟨fun _ _ _ _ _ _ _ _ _ _ _ _ _ _ _ _ h=>h.elim⟩
theorem sh {pins:List (Addr×Obj)} {σ:St} {H H':Hp} {s s':Shared} {cls:Value} {a:Addr} {d:Option Addr} {M:Model} {A:Around} {E:Value→Shared→Prop} {Q:Unit→Shared→Prop} (I:Inv X pins σ H s) (F:Fly X.prog X.w X.stack H s cls .none a d H' s')
  (hQ:∀ s'',Fly X.prog X.w X.stack H s cls .none a d H' s''→Q () s''):wpAny M A (setFlight (.ref a) none) Q E s':=by
 obtain ⟨T,a0,hT0,hT1,f1,f2,f3,f4⟩:=F.flying I
 refine HT.jo f1 f3 f4 fun h' n=>?_
 exact hQ _ (F.moved (oT:={ cls:=.none,data:=.dict #[] }) I.stack I.stkFree (F.inv I).stkFree hT0 hT1 n.st n.up n.tr)
variable {x n:Str} {np hp:Pos} {Dc:Addr} {b0:Stmt} {suite:List Stmt} {bR:List ExceptHandler} {ts:TS} {r:TH} {i:Nat}
theorem vw {A:Around} {E:Value→Shared→Prop} {pins:List (Addr×Obj)} {s:Shared} {σ:St} {H:Hp} {u:Value} {pos:Pos} {Q:Value→Shared→Prop} (I:Inv X pins σ H s) (hg:Gl X x) (hm:X.mg x=some u) (h:Q u s)
  (hd:(x==("__debug__" :Str))=false:=by decide):wpAny (model X.prog X.w) A (eval (.Name x pos) X.env) Q E s:=
 Calls.Name_function_global I.ok.kind hg (Calls.loadGlobal_global (by rw [I.ok.glob];exact I.mod.glob.keeps I.bk) hm h) hd
theorem Cg (i : Nat) (hN : X.N.Nodup) (hD : cA X.K Dc) (hm : X.mg x = some (.ref Dc)) (hs : ∀ a, QSs (cxH X a) (b0 :: suite) ts) (hr : QH X bR r) (hg : Gl X x := by rfl) (hdb : (x == ("__debug__" : Str)) = false := by decide)
    (hi : X.N[i]? = some n := by rfl) (hl : X.env.scope.names.lookup n = some .local := by rfl) :
    QH X (.ExceptHandler (some (.Name x np)) (some n) (b0 :: suite) hp :: bR) (hAs X.K Dc i ts r) := by
  refine ⟨fun pins s0 σ H1 H' C a d s3 D e1 e2 hex I F hC h => ?_⟩
  obtain ⟨b, hb, q⟩ := h
  have I3 := F.inv I
  obtain ⟨oe, vs, _, _, _, _, he, hc, hdc, hd, _⟩ := F.tr
  refine wpAny_handleBy_cons (codeAny_handlers_test (vw I3 hg hm ?_ hdb)) (by intro q; cases q)
  refine lr I3.kIn hC hD he hc hb ?_
  have q := dR q
  cases b with
  | false => exact hr.out pins s0 σ H1 H' C a d s3 D e1 e2 hex I F hC q
  | true =>
    refine codeAny_handlers_suite_as (sh I F fun s4 F4 => ?_)
    have I4 := F4.inv I
    obtain ⟨oe4, vs4, _, _, _, _, he4, hc4, hdc4, hd4, h04, _⟩ := F4.tr
    have I5 : Inv X pins σ (upd H' a (iQ C d a)) s4 := Inv.track I hex I4 F.new F.free (xK he4 hc4 hdc4 hd4 h04.b)
    have hcls : (X.env.scope.kind == .class || (X.env.scope.kind == .module && X.env.locals != X.env.globals)) = false := by rw [I.ok.kind]; rfl
    refine eY (v := .ref a) I5 hN hi (.inl hl) rfl (fun s6 I6 => ?_) (.inr hl)
    refine wpAny_mono ((hs a).out pins s6 _ _ (sj i D) I6.toH (q a F.free)) (fun f s7 h7 => ?_) fun _ _ z => z.elim
    have h7 := SP.ofH I.ok h7
    have go : ∀ {σ' : St} {H'' : Hp} {Q : Unit → Shared → Prop}, Inv X pins σ' H'' s7 → (∀ s8, Inv X pins (σ'.set i none) H'' s8 → Q () s8) → wpAny (model X.prog X.w) X.A (do bindName X.env n .none; unbindBehindTheSuite X.env n hp) Q X.xe s7 := fun {σ' H'' Q} J hQ => by
      obtain ⟨m, hn, hloc⟩ := id J.loc
      refine wpAny_nameGoes_keeps hl hn hcls fun h' v hn' hs' => hQ _ ?_
      obtain ⟨oL, _, _, hoL, _⟩ := id hn
      refine ⟨J.ok, J.os, J.bare, ⟨fun b o e n hb hx => ?_, fun b o e n hb hx => ?_, J.base.free, fun b o e hx => ?_, J.base.tups, J.base.frzs, J.base.tbls⟩, ⟨_, hn', fun j y v' e1 e2 e3 => ?_⟩, fun y c e => ?_, J.free, J.freeC, fun p hp => ?_, fun b ob e => ?_, by simpa using J.len⟩
      · exact (hs'.2 b (Nat.ne_of_lt (Nat.lt_of_lt_of_le (Heap.lt_size e) J.ok.above))).trans (J.base.keep b o e n hb hx)
      · obtain ⟨sl, e1⟩ := J.base.slot b o e n hb hx
        exact ⟨sl, (hs'.2 b (Nat.ne_of_lt (Nat.lt_of_lt_of_le (Heap.lt_size e) J.ok.above))).trans e1⟩
      · obtain ⟨o', e1⟩ := J.base.there b o e hx
        exact ⟨o', (hs'.2 b (Nat.ne_of_lt (Nat.lt_of_lt_of_le (Heap.lt_size e) J.ok.above))).trans e1⟩
      · have hji : j ≠ i := by
          rintro rfl
          have : j < σ'.length := by rw [J.len]; exact (List.getElem?_eq_some_iff.mp hi).1
          rw [List.getElem?_set_self this] at e2; cases e2
        rw [List.getElem?_set_ne (Ne.symm hji)] at e2
        obtain ⟨u, ru, lk⟩ := hloc j y v' e1 e2 e3
        refine ⟨u, ru, ?_⟩
        rcases lk with ⟨k, e⟩ | ⟨k, c, e, z⟩
        · refine .inl ⟨k, ?_⟩
          have : y ≠ n := fun e => hji (jR hN e1 (e ▸ hi))
          simp [this, e]
        · exact .inr ⟨k, c, e, z.sameBut hs' (J.cne y c e)⟩
      · obtain ⟨w', z⟩ := J.cell y c e
        exact ⟨w', z.sameBut hs' (J.cne y c e)⟩
      · obtain ⟨e, n, ne, nf, d⟩ := J.pin p hp
        exact ⟨(hs'.2 p.1 ne).trans e, n, ne, nf, d⟩
      · refine (J.hok b ob e).stay (fun c w' hc q => (hs'.2 c ?_).trans q) (fun _ q => q) fun _ _ q => q
        rintro rfl
        rcases hc with r | hc
        · rw [← r, J.free] at e; cases e
        · rw [J.free] at hc; cases hc
    cases f with
    | next => obtain ⟨σ', H'', J, q'⟩ := h7; exact go J fun s8 J8 => ⟨_, _, J8, q'⟩
    | brk => obtain ⟨σ', H'', J, q'⟩ := h7; exact go J fun s8 J8 => ⟨_, _, J8, q'⟩
    | cont => obtain ⟨σ', H'', J, q'⟩ := h7; exact go J fun s8 J8 => ⟨_, _, J8, q'⟩
    | ret u => obtain ⟨v, σ', H'', J, rv, q'⟩ := h7; exact go J fun s8 J8 => ⟨v, _, _, J8, rv, q'⟩
end
def zV (K:W.Frag) (tb:(St→XK)→TS) (th:TH) (te:TS):TS:=fun D σ H=>
 tb (fun σ' cls d H'=>∃ C,cls=.ref C∧cA K C∧th D σ' C d H') { D with nx:=te D } σ H
abbrev cxT (X:Cx) (pn:List (Addr×Obj)) (E':Value→Shared→Prop):Cx:={ X with pn:=pn,xe:=E' }
section
variable {X:Cx} {pins pn:List (Addr×Obj)} {σ:St} {H:Hp} {s:Shared} {E':Value→Shared→Prop}
theorem Cx.Ok.toT (ok:X.Ok):(cxT X pn E').Ok:=⟨ok.mod,ok.kind,ok.glob,ok.blt,ok.above,ok.inj,ok.has,ok.cab,ok.hd,ok.frames,ok.stk,ok.exf,ok.bs,ok.bsz,ok.noex,ok.exfs,ok.funs,ok.frf⟩
theorem Inv.toT (I:Inv X pins σ H s):Inv (cxT X (X.pn++pins) E') [] σ H s:=⟨I.ok.toT,I.os,I.bare,I.base,I.loc,I.cell,I.free,I.freeC,fun p hp=>I.pin p (by
 have hp:p∈(X.pn++pins)++[]:=hp
 rwa [List.append_nil] at hp),I.hok,I.len⟩
theorem Inv.ofT {pins':List (Addr×Obj)} (ok:X.Ok) (I:Inv (cxT X (X.pn++pins) E') pins' σ H s):Inv X pins σ H s:=⟨ok,I.os,I.bare,I.base,I.loc,I.cell,I.free,I.freeC,fun p hp=>I.pin p (List.mem_append_left _ hp),I.hok,I.len⟩
theorem EL {body orelse : List Stmt} {h0 : ExceptHandler} {hs : List ExceptHandler} {pos : Pos} {tb : (St → XK) → TS} {te : TS} {th : TH}
    (hb : ∀ (pn' : List (Addr × Obj)) (E' : Value → Shared → Prop) (EH : St → XK), hG (CX1 X.prog X.w) (cxT X pn' E') EH → QSs (cxT X pn' E') body (tb EH)) (hh : QH X (h0 :: hs) th) (he : QSs X orelse te)
    (e1 : X.stack = X.env :: X.outer := by rfl) (e2 : X.env.frame = some X.env.locals := by rfl) (hex : X.ex = [] := by rfl) : QS X (.Try body (h0 :: hs) orelse [] pos) (zV X.K tb th te) := by
  refine ⟨fun pins s σ H D I h => ?_⟩
  let E' : Value → Shared → Prop := fun e s1 => ∃ σ1 H1 s0 C a d H', e = .ref a ∧ Inv X pins σ1 H1 s0 ∧ Fly X.prog X.w X.stack H1 s0 (.ref C) .none a d H' s1 ∧ cA X.K C ∧ th D σ1 C d H'
  have pass : hG (CX1 X.prog X.w) (cxT X (X.pn ++ pins) E') (fun σ' cls d H' => ∃ C, cls = .ref C ∧ cA X.K C ∧ th D σ' C d H') := by
    intro pins' σ1 H1 s0 e s1 I1 hx
    obtain ⟨a, C, d, H', rfl, F, C', ec, hC, ht⟩ := hx
    cases ec
    exact ⟨σ1, H1, s0, C, a, d, H', rfl, I1.ofT I.ok, F, hC, ht⟩
  refine wpAny_Try_except (wpAny_mono ((hb (X.pn ++ pins) E' _ pass).out [] s σ H _ I.toT h) (fun f s1 h1 => ?_) fun e s1 h1 => ?_)
  · cases f with
    | next =>
      obtain ⟨σ', H', J, q⟩ := h1
      exact he.out pins s1 σ' H' D (J.ofT I.ok) q
    | brk => obtain ⟨σ', H', J, q⟩ := h1; exact ⟨σ', H', J.ofT I.ok, q⟩
    | cont => obtain ⟨σ', H', J, q⟩ := h1; exact ⟨σ', H', J.ofT I.ok, q⟩
    | ret u => obtain ⟨v, σ', H', J, rv, q⟩ := h1; exact ⟨v, σ', H', J.ofT I.ok, rv, q⟩
  · obtain ⟨σ1, H1, s0, C, a, d, H', rfl, I1, F, hC, ht⟩ := h1
    obtain ⟨T, a0, hT0, hT1, f1, f2, f3, f4⟩ := F.flying I1
    have hfr := I1.ok.frames
    rw [e1] at hfr
    have f3' := f3
    rw [e1] at f3'
    have f1' := f1
    have f2' := f2
    have f4' := f4
    rw [e1] at f1' f2' f4'
    refine HT.kj hfr f3' e2 f4' f1' f2' fun h' n1 => ?_
    refine HT.jo (s := { s1 with heap := h' }) n1.st n1.fr n1.tr fun h'' n2 => ?_
    have st : (eW s1.heap X.stack a T).StaysIn h'' := by rw [e1]; exact n2.st
    have tr : HT.TrD h'' (eW s1.heap X.stack a T) a (.ref C) a0 d .none := by rw [e1]; exact n2.tr
    have F3 := F.moved (oT := { cls := .none, data := .dict #[] }) I1.stack I1.stkFree (F.inv I1).stkFree hT0 hT1 st (n1.up.trans n2.up) tr
    exact hh.out pins s0 σ1 H1 H' C a d _ D e1 e2 hex I1 F3 hC ht
end

structure df (K:W.Frag) (C:Addr):Prop where
 ga:W.findIn K (.ref C) "__getattribute__" =some (some (.builtin "BaseException.__getattribute__"))
 na:W.findIn K (.ref C) "__getattr__" =some none
 cl:W.findIn K (.ref C) "__class__" =some (some (.builtin "object.__class__"))
 mo:W.mroIn K C (.type "object")=some true
 mb:W.mroIn K C (.type "BaseException")=some true
section
variable {K:W.Frag} {prog:Program} {w:World} {A:Around} {E:Value→Shared→Prop} {h:Heap} {g:Array GenState} {d:Drawn} {t:Nat} {os:OsState} {a C:Addr} {o:Obj}
theorem xI {M:Model} (hx:h.get? a=some o) (hc:o.cls=.ref C):W.Looks M h (typeOf (.ref a)) (.ref C):=hc▸(W.Looks.ld hx).andThen .now
theorem Ac {R:Result→Shared→Prop} (X:K.In h) (G:df K C) (hx:h.get? a=some o) (hc:o.cls=.ref C) (hq:R (.ok (.ret (.ref C))) ⟨h,g,d,t,os⟩):
  codeAny (model prog w) A (.call (.builtin "getset_descriptor.__get__") ⟨[.builtin "object.__class__",.ref a,.ref C],[]⟩) R ⟨h,g,d,t,os⟩:=by
 have hT5:(⟨h,g,d,t,os⟩:Shared).TypeIs (.builtin "object.__class__") "getset_descriptor" :=F.typeOf_object_class
 have f8:=W.looks_mroIn (M:=model prog w) X G.mo
 have hcB:(".".intercalate ("object.__class__".cutAt '.').dropLast)= "object" :=F.owner_object_class
 refine codeAny_call_builtin F.slot_gs_get.plain F.entry_gs_get (F.slot_gs_get.check _ _ _ _ _ _ _ _ hT5 (F.args_gs_get _ _ _) ?_)
 repeat (any_goals (first | assumption | (with_reducible refine wpAny_loadPart_at hx ?_;rw [hc]) | (rw [hcB];with_reducible refine f8.at ?_) | wp_step))
 refine ⟨Code.quiet_builtin _ (by decide +kernel),codeAny_builtin F.entry_object_class ?_⟩
 repeat (any_goals (first | assumption | (with_reducible refine wpAny_loadPart_at hx ?_;rw [hc]) | wp_step))
theorem vz {tk:Tok} {Q:Fin→Shared→Prop} (X:K.In h) (G:df K C) (hx:h.get? a=some o) (hc:o.cls=.ref C) (hq:Q (.done (.ret (.ref C))) ⟨h,g,d,t,os⟩):
  wpAny (model prog w) A (Builtin.«object.__getattribute__» ⟨[.ref a,.str "__class__" tk],[]⟩) Q E ⟨h,g,d,t,os⟩:=by
 have hT5:(⟨h,g,d,t,os⟩:Shared).TypeIs (.builtin "object.__class__") "getset_descriptor" :=F.typeOf_object_class
 have f4:=W.looks_findIn (M:=model prog w) X G.cl
 have f5:=F.typeOf_object_class
 have f6:=F.slot_gs_get.lookup
 have f7:=F.slot_gs_set.lookup
 repeat (any_goals (first | assumption | (with_reducible refine wpAny_loadPart_at hx ?_;rw [hc]) | with_reducible refine f4.at ?_ | wp_step))
 refine Ac X G hx hc ?_
 repeat (any_goals (first | assumption | wp_step))
theorem nq {M:Model} {nameV:Value} {Q:Unit→Shared→Prop} (X:K.In h) (G:df K C) (hx:h.get? a=some o) (hc:o.cls=.ref C) (hq:Q () ⟨h,g,d,t,os⟩):wpAny M A (checkBuiltinCall "BaseException.__getattribute__" ⟨[.ref a,nameV],[]⟩) Q E ⟨h,g,d,t,os⟩:=by
 have hk:builtinKind "BaseException.__getattribute__" =some .slot:=by decide +kernel
 have hsplit:splitId "BaseException.__getattribute__" =some ("BaseException", "__getattribute__"):=by decide +kernel
 have f8:=W.looks_mroIn (M:=M) X G.mb
 have ha:=F.args_bexc_ga (.ref a) nameV
 simp only [checkBuiltinCall,hk,hsplit]
 refine wpAny_bind ?_
 · unfold isInstance
   repeat (first | (with_reducible refine wpAny_loadPart_at hx ?_;rw [hc]) | with_reducible refine f8.at ?_ | wp_step)
   exact hq
theorem ye {tk:Tok} {R:Result→Shared→Prop} (X:K.In h) (G:df K C) (hx:h.get? a=some o) (hc:o.cls=.ref C) (hq:R (.ok (.ret (.ref C))) ⟨h,g,d,t,os⟩):
  codeAny (model prog w) A (.call (.builtin "BaseException.__getattribute__") ⟨[.ref a,.str "__class__" tk],[]⟩) R ⟨h,g,d,t,os⟩:=
 codeAny_call_builtin F.excAttr_ValueError.ga.plain F.entry_bexc_ga (nq X G hx hc (vz X G hx hc hq))
theorem Dj {tk:Tok} {Q:Value→Shared→Prop} (X:K.In h) (G:df K C) (hx:h.get? a=some o) (hc:o.cls=.ref C) (hq:Q (.ref C) ⟨h,g,d,t,os⟩):
  wpAny (model prog w) A (getAttrBy (.ref a) (.str "__class__" tk) false) Q E ⟨h,g,d,t,os⟩:=by
 have f3:=F.excAttr_ValueError.ga.bind (.ref a)
 have f1:=W.looks_findIn (M:=model prog w) X G.ga
 have f2:=W.looks_findIn (M:=model prog w) X G.na
 have hx2:(Value.builtin "BaseException.__getattribute__" ==Value.builtin "object.__getattribute__")=false:=by decide +kernel
 have hx1:(onTheHeap (Value.ref C)&&Value.builtin "BaseException.__getattribute__" ==Value.builtin "object.__getattribute__")=false:=by rw [hx2];rfl
 repeat (any_goals (first | assumption | (with_reducible refine wpAny_loadPart_at hx ?_;rw [hc]) | with_reducible refine f1.at ?_ | with_reducible refine f2.at ?_ | wp_step))
 refine ye X G hx hc ?_
 repeat (any_goals (first | assumption | wp_step))
theorem yp {Q:Option Value→Shared→Prop} (X:K.In h) (G:df K C) (hx:h.get? a=some o) (hc:o.cls=.ref C) (hq:Q (some (.ref C)) ⟨h,g,d,t+1,os⟩):
  wpAny (model prog w) A (getAttr? (.ref a) "__class__") Q E ⟨h,g,d,t,os⟩:=by
 unfold getAttr? getAttrBy?
 repeat (any_goals (first | assumption | with_reducible apply Dj X G hx hc | wp_step))
theorem Bm {a C:Addr} (hC:cA K C) (G:df K C):W.KitX K (.ref a) (.ref C) (fun h=>∃ o,h.get? a=some o∧o.cls=.ref C) where
 ty:=fun M h X ⟨o,hx,hc⟩=>xI hx hc
 it:=fun M h X _=>by
  obtain ⟨bm,N,nm,qn,bs,hdct,sn,sub,ab,col,dd,k0,k1,k2,k3,k5,mN,oC,_⟩:=eG X hC
  intro A' Q' E' s' k q
  unfold isType loadHead
  exact wpAny_bind (wpAny_loadPart (k _ _ oC) (wpAny_pure q))
 ne:=fun h tp dd its n sl X htp=>by
  obtain ⟨bm,N,nm,qn,bs,hdct,sn,sub,ab,col,dd,k0,k1,k2,k3,k5,mN,oC,_⟩:=eG X hC
  refine Bool.eq_false_iff.mpr fun q=>?_
  have e:C=tp:=Value.ref.inj (beq_iff_eq.mp q)
  subst e
  rw [oC] at htp
  have z:Value.type "type" =Value.type "tuple" :=congrArg Obj.cls (Option.some.inj htp)
  exact absurd z (by decide)
 ca:=fun {prog w A E Q s} X ⟨o,hx,hc⟩ k=>by
  obtain ⟨h,g,d,t,os⟩:=s
  exact yp X G hx hc k
end
section
variable {X:Cx}
def xh (K:W.Frag):List V→Hp→VK→Prop:=fun xs H Q=>∃ a C dd b c cv,xs=[.ref a,c]∧H a=some (iQ C dd a)∧cA K C∧df K C∧br c cv∧(∀ u,br c u→u=cv)∧W.kitOne K (.ref C) cv=some b∧Q (.bl b) H
theorem EA:bU X (.builtin "isinstance") (xh X.K):=fun pins s σ H xs us Q I r h=>by
 obtain ⟨a,C,dd,b,c,cv,rfl,ha,hC,G,rc,un,hk,q⟩:=h
 obtain ⟨u,w',rfl,r1,r2⟩:=mO r
 cases un _ r2
 cases (show u=Value.ref a from r1)
 obtain ⟨o,vs,ho,hc,_,_⟩:=pC (P:=X.prog) (w:=X.w) (I.hok a _ ha)
 exact W.kia_one (Bm hC G) I.kIn ⟨o,ho,hc⟩ hk (fun z=>nomatch z) fun tk=>⟨.bl _,H,I.tok tk,rfl,q⟩
theorem GI {x:Str} {D:Addr} {pos:Pos} (hm:X.mg x=some (.ref D)) (hg:Gl X x:=by rfl) (hd:(x==("__debug__" :Str))=false:=by decide):QE X (.Name x pos) (tC (.ref D)):=⟨pI hg hm rfl hd⟩
end
end L2
namespace HT
open PySem PyProof.Rows
section
variable {prog:Program} {w:World} {A:Around} {E:Value→Shared→Prop} {s:Shared}
theorem iM {t sl:Addr} {items:Array Value} {vl vu:Value} {lo hi:Option Int} {Q:Value→Shared→Prop} (ht:IsTup s.heap t items) (hs:s.heap.IsSliceOf sl vl vu .none) (pl:IsPart vl lo) (pu:IsPart vu hi)
  (hw:sIx items.size 0 lo=0∧sIx items.size items.size hi=items.size) (h:Q (.ref t) s):wpAny (model prog w) A (getItem (.ref t) (.ref sl)) Q E s:=by
 obtain ⟨os,hos,hcs,hds⟩:=id hs
 have hTs:s.TypeIs (.ref sl) "slice" :=⟨os,hos,hcs⟩
 unfold getItem
 try with_reducible refine wpAny_holding ?_
 first | refine wpAny_bind (wpAny_pure ?_) | skip
 refine wpAny_bind (wpAny_sequenceKey ht.typeIs (by decide) ?_)
 refine wpAny_bind (wpAny_callSpecial?_slot (name:=Str.ofString "__getitem__") ht.typeIs PyProof.Rows.slot_tuple_getitem
  (wpAny_call_entry PyProof.Rows.slot_tuple_getitem ht.typeIs entry_tuple_getitem ?_ (args_tuple_getitem _ _)))
 show wpAny _ _ (Builtin.Tuple.tupleItemsOf (.ref t)>>=_) _ _ s
 refine wpAny_bind (tupleItemsOf_ ht ?_)
 refine wpAny_bind (wpAny_typeOf hTs ?_)
 rw [if_pos (by decide)]
 refine wpAny_bind (gh hs pl pu ?_)
 have hyes:(((sIx items.size 0 lo:Nat):Int)==0&&(1:Int)==1&&(sIx items.size items.size hi - sIx items.size 0 lo)==items.size)=true:=by
  rw [hw.1,hw.2];simp
 show wpAny _ _ (if (((sIx items.size 0 lo:Nat):Int)==0&&(1:Int)==1&&(sIx items.size items.size hi - sIx items.size 0 lo)==items.size)=true then _ else _) _ _ s
 rw [if_pos hyes]
 have hte:s.TypeIs (.ref t) "tuple" :=ht.typeIs
 unfold Builtin.Tuple.tupleIsExact
 repeat (first | exact ⟨_,rfl,wpAny_pure h⟩ | (with_reducible refine wpAny_typeOf hte ?_) | wp_step)
end
section
variable {prog:Program} {w:World} {A:Around} {E:Value→Shared→Prop} {s:Shared}
theorem vB {t b:Addr} {ws:List Value} {Q:Value→Shared→Prop} (ht:IsTup s.heap t #[]) (hb:IsTup s.heap b ws.toArray) (h1:Q (.ref b) s):wpAny (model prog w) A (binaryOp .Add (.ref t) (.ref b)) Q E s:=by
 obtain ⟨⟨cls,dd,data,sl⟩,ho,hc,n,hd⟩:=id ht
 obtain ⟨⟨cls2,dd2,data2,sl2⟩,ho2,hc2,n2,hd2⟩:=id hb
 simp only at hc hd hc2 hd2
 subst hc hd hc2 hd2
 exact concat_meets ⟨_,ho,rfl⟩ ⟨_,ho2,rfl⟩ noFill_tuple_add seq_tuple_add PySem.F.slot_tuple_add PySem.F.entry_tuple_add (PySem.F.args_tuple_add_2 _ _)
  (tuple_addW0 t b #[] ws.toArray n n2 dd dd2 sl sl2 (by simp)) ⟨ho,ho2,h1⟩
end
end HT
namespace L2
open PySem PySem.Spec PyProof.Rows
theorem ar.rfl' {H:Hp}:ar H H:=fun _ _ e=>e
theorem qr {xs:List V} {lo hi:Option Int} (h:HT.sIx xs.length 0 lo=0∧HT.sIx xs.length xs.length hi=xs.length):cL xs lo hi=xs:=by
 unfold cL
 rw [h.1,h.2,List.drop_zero,Nat.sub_zero,List.take_length]
section
variable {X:Cx}
def wN:V→Option Int→Option Int→Hp→VK→Prop:=fun x lo hi H Q=>∃ a xs,x=.ref a∧H a=some (.tup xs)∧∀ p H',ar H H'→H' p=some (.tup (cL xs lo hi))→Q (.ref p) H'
theorem yC:SlR X wN:=by
 intro pins s σ H x v vl vu lo hi sl Q I rx hs pl pu h
 obtain ⟨a,xs,rfl,hx,q⟩:=h
 have hq:SqT X.K H a xs:=.inl (.inl hx)
 by_cases hw:HT.sIx xs.length 0 lo=0∧HT.sIx xs.length xs.length hi=xs.length
 · cases rx
   obtain ⟨its,r,ht,hz⟩:=I.tuple hq
   have hlen:its.toArray.size=xs.length:=by rw [List.size_toArray];exact r.length.symm
   refine ⟨"tuple",_,PyProof.Rows.slot_tuple_getitem.lookup,ht.typeIs,?_⟩
   refine HT.iM ht hs pl pu (by rw [hlen];exact hw) ?_
   exact ⟨.ref a,H,I,rfl,q a H ar.rfl' (by rw [qr hw];exact hx)⟩
 · exact AB pins s σ H _ v vl vu lo hi sl Q I rx hs pl pu ⟨a,xs,rfl,hq,hw,fun p hp=>q p _ (ar.upd hp) (ao ..)⟩
def wo:R2:=fun x y H Q=>∃ a b xs ys,x=.ref a∧y=.ref b∧H a=some (.tup xs)∧H b=some (.tup ys)∧xs.length+ys.length≤sizeLine∧∀ p H',ar H H'→H' p=some (.tup (xs++ys))→Q (.ref p) H'
theorem yi:OpR X (binaryOp .Add) wo:=by
 intro pins s σ H x y v u Q I rx ry h
 obtain ⟨a,b,xs,ys,rfl,rfl,ha,hb,hz,q⟩:=h
 by_cases hx:xs=[]
 · subst hx
   cases rx
   cases ry
   obtain ⟨its,r1,p1,_⟩:=I.tuple (.inl (.inl ha))
   obtain ⟨its2,r2,p2,_⟩:=I.tuple (.inl (.inl hb))
   cases r1
   exact HT.vB p1 p2 ⟨.ref b,H,I,rfl,q b H ar.rfl' hb⟩
 · refine yo pins s σ H _ _ v u Q I rx ry ⟨a,b,xs,ys,rfl,rfl,.inl (.inl ha),.inl (.inl hb),hx,hz,fun e=>?_,fun _ p hp=>q p _ (ar.upd hp) (ao ..)⟩
   subst e
   exact q a H ar.rfl' (by rw [List.append_nil];exact ha)
def aH (K:W.Frag):R2:=fun x y H Q=>match x,y with
 | .int i,.int j=>Q (.int (i+j)) H
 | .str i,.str j=>i.length+j.length≤sizeLine∧Q (.str (i++j)) H
 | .ref a,.ref b=>BL (.ref a) (.ref b) H Q∨wo (.ref a) (.ref b) H Q
 | _,_=>False
theorem aO:OpR X (binaryOp .Add) (aH X.K):=(AM.or (rz.or (BK.or yi))).imp fun x y H Q q=>by
 unfold aH at q
 split at q
 · exact .inl ⟨_,_,rfl,rfl,q⟩
 · exact .inr (.inl ⟨_,_,rfl,rfl,q.1,q.2⟩)
 · exact .inr (.inr q)
 · exact q.elim
def Bt (K:W.Frag):V→Option Int→Option Int→Hp→VK→Prop:=fun x lo hi H Q=>Ax K x lo hi H Q∨wN x lo hi H Q
theorem yN:SlR X (Bt X.K):=yw.or yC
end
theorem jN {K:W.Frag} {C D:Addr} {b:Bool} (h:W.mroIn K C (.ref D)=some b):fP K C D=some b:=by
 unfold W.mroIn W.clsIn at h
 unfold fP
 split at h
 · rename_i cd sl e
   rw [e]
   dsimp only [Option.bind] at h ⊢
   split at h
   · cases h
   · exact h
 · cases h
theorem Fun.okN {P : Program} {w : World} {K : W.Frag} {mg : Str → Option Value} {base : Heap} {CX : CXT} {x qual : Str} {st : Stmt} {f : Addr} {fd : FuncData} {N ps : List Str} {k : Nat} {sp : Sp} (F : Fun K x qual st f fd) (S : aL N ps (ap st)) (len : ∀ vs H Q E, sp vs H Q E → vs.length = ps.length)
  (hbody : ∀ (cdv : Value) (A : Around) (outer : List Env) (s : Shared) (H : Hp) (vs : List V) (Q : VK) (E : XK), bE k (A.deeper (envOfC qual (ap st) s.heap.objs.size f cdv)) → sp vs H Q E →
   ∃ t, PSs (cS CX P w K mg base N qual (ap st) f cdv A outer s H E).nox (bi st) t ∧ t { nx := fun _ H' => Q .non H', rt := Q } (cq N vs) H) : bg P w K mg base CX (k + 1) f fd ps sp := by
 obtain ⟨oc, od, kV, doc, pm, an, cdv, ct, osl, rfl, lk, hcd⟩ := F.ex
 refine wJ lk hcd S len fun A outer s H vs Q E hr hsp => ?_
 obtain ⟨t, h, q⟩ := hbody cdv A outer s H vs Q E hr hsp
 exact ⟨t, h.nox, q⟩
section
variable {X:Cx}
def Ag:V→Option Int→Option Int→Hp→VK→Prop:=fun x lo hi H Q=>∃ z,x=.str z∧z.length≤sizeLine∧Q (.str (Txt.slice z lo hi)) H
theorem AW : SlR X Ag := by
  intro pins s σ H x v vl vu lo hi sl Q I rx hs pl pu h
  obtain ⟨z, rfl, hz, q⟩ := h
  obtain ⟨t, rfl⟩ := (show ∃ t, v = Value.str z t from rx)
  refine ⟨"str", _, F.slot_str_getitem.lookup, typeIs_str _ _ _, ?_⟩
  have fin : ∀ (l u : Option (Int × Tok)), l.map (·.1) = lo → u.map (·.1) = hi → s.heap.IsSlice sl l u none → wpAny (model X.prog X.w) X.A (getItem (.str z t) (.ref sl)) (EP X pins σ Q) X.xe s := fun l u e1 e2 hs' => by
    subst e1 e2
    refine wpAny_getItem_str_slice (l := l) (u := u) (st := none) hs' rfl (post_val_or_str ⟨Nat.le_trans (Txt.slice_le z _ _) hz, fun t' k => ⟨.str _, H, I.tok k, ⟨_, rfl⟩, q⟩⟩)
  obtain ⟨os, hos, hcs, hds⟩ := hs
  cases pl with
  | none => cases pu with
    | none => exact fin none none rfl rfl ⟨os, hos, hcs, hds⟩
    | int j tj => exact fin none (some (j, tj)) rfl rfl ⟨os, hos, hcs, hds⟩
  | int i ti => cases pu with
    | none => exact fin (some (i, ti)) none rfl rfl ⟨os, hos, hcs, hds⟩
    | int j tj => exact fin (some (i, ti)) (some (j, tj)) rfl rfl ⟨os, hos, hcs, hds⟩
def iC (K:W.Frag):V→Option Int→Option Int→Hp→VK→Prop:=fun x lo hi H Q=>Bt K x lo hi H Q∨Ag x lo hi H Q
theorem fw:SlR X (iC X.K):=yN.or AW
def gp:V→Bool
 | .int _=>true
 | .str _=>true
 | _=>false
theorem ki {A:Around} {s:Shared} {x y:V} {u v:Value} (rx:br x u) (ry:br y v) (hx:gp x=true) (hy:gp y=true):PySem.SeqAt.EqAt A s u v (decide (x=y)):=by
 cases x <;> first | cases hx | skip
 all_goals (cases y <;> first | cases hy | skip)
 · obtain ⟨t,rfl⟩:=rx;obtain ⟨t',rfl⟩:=ry
   have e:=PySem.SeqAt.EqAt.int_int (A:=A) (s:=s) ‹Int› t ‹Int› t'
   rename_i i j
   have e2:decide (V.int i=V.int j)=(i==j):=by rw [ji (f:=V.int) fun _ _ e=>V.int.inj e];rfl
   rw [e2];exact PySem.SeqAt.EqAt.int_int i t j t'
 · obtain ⟨t,rfl⟩:=rx;obtain ⟨t',rfl⟩:=ry
   exact PySem.SeqAt.EqAt.int_str _ _ _ _
 · obtain ⟨t,rfl⟩:=rx;obtain ⟨t',rfl⟩:=ry
   exact PySem.SeqAt.EqAt.str_int _ _ _ _
 · obtain ⟨t,rfl⟩:=rx;obtain ⟨t',rfl⟩:=ry
   rename_i i j
   have e2:decide (V.str i=V.str j)=(i==j):=by
    rw [ji (f:=V.str) fun _ _ e=>V.str.inj e]
    by_cases h:i=j
    · rw [h];simp
    · rw [decide_eq_false h];exact (beq_eq_false_iff_ne.mpr h).symm
   rw [e2];exact PySem.SeqAt.EqAt.str_str i t j t'
theorem sq {xs ys:List V}:decide (xs=ys)=((List.range (min xs.length ys.length)).all (fun j=>decide (xs[j]?=ys[j]?))&&xs.length==ys.length):=by
 by_cases h:xs=ys
 · subst h;simp
 · rw [decide_eq_false h]
   by_cases hl:xs.length=ys.length
   · rw [hl,Nat.min_self,beq_self_eq_true,Bool.and_true]
     symm
     rw [List.all_eq_false]
     apply Classical.byContradiction
     intro hn
     apply h
     apply List.ext_getElem? fun i=>?_
     by_cases hi:i<ys.length
     · apply Classical.byContradiction
       intro hne
       exact hn ⟨i,List.mem_range.mpr hi,by simpa using hne⟩
     · rw [List.getElem?_eq_none (by omega),List.getElem?_eq_none (by omega)]
   · have:(xs.length==ys.length)=false:=by simpa using hl
     rw [this,Bool.and_false]
def AU (K:W.Frag):R2:=fun x y H Q=>∃ a b xs ys,x=.ref a∧y=.ref b∧SqT K H a xs∧SqT K H b ys∧xs.all gp=true∧ys.all gp=true∧Q (.bl (decide (xs=ys))) H
theorem Aa (hu:X.A.units<cLine):OpR X (compareOp .Eq) (AU X.K):=by
 intro pins s σ H x y v u Q I rx ry h
 obtain ⟨a,b,xs,ys,rfl,rfl,ha,hb,px,py,q⟩:=h
 cases rx
 cases ry
 obtain ⟨its,r1,p1,_⟩:=I.tuple ha
 obtain ⟨its2,r2,p2,_⟩:=I.tuple hb
 have l1:=r1.length
 have l2:=r2.length
 refine PySem.SeqAt.eq_tupleAt (e:=fun j=>decide (xs[j]?=ys[j]?)) p1 p2 hu (fun j h1 h2=>?_) ?_
 · have h1:j<its.length:=by simpa using h1
   have h2:j<its2.length:=by simpa using h2
   have e1:xs[j]?=some xs[j]:=List.getElem?_eq_getElem (by omega)
   have e2:ys[j]?=some ys[j]:=List.getElem?_eq_getElem (by omega)
   obtain ⟨u1,g1,ru1⟩:=r1.get e1
   obtain ⟨u2,g2,ru2⟩:=r2.get e2
   have g1':its.toArray[j]=u1:=by
    rw [List.getElem?_eq_getElem h1] at g1;simpa using Option.some.inj g1
   have g2':its2.toArray[j]=u2:=by
    rw [List.getElem?_eq_getElem h2] at g2;simpa using Option.some.inj g2
   rw [g1',g2',e1,e2]
   have:decide (some xs[j]=some ys[j])=decide (xs[j]=ys[j]):=by simp
   rw [this]
   exact ki ru1 ru2 (List.all_eq_true.mp px _ (List.getElem_mem _)) (List.all_eq_true.mp py _ (List.getElem_mem _))
 · have e:=sq (xs:=xs) (ys:=ys)
   rw [l1,l2] at e
   simp only [List.size_toArray]
   rw [← e]
   exact ⟨.bl _,H,I,rfl,q⟩
end
section
variable {X:Cx} {pins:List (Addr×Obj)} {σ:St} {H H1:Hp} {s s0:Shared} {a:Addr} {o:HO}
theorem Inv.track2 (I0:Inv X pins σ H1 s0) (I:Inv X pins σ H s) (new:s0.heap.objs.size≤a) (hn:H a=none) (ok:bu X.prog X.w (upd H a o) s.heap a o):Inv X pins σ (upd H a o) s:=by
 have ne:∀ b u,s0.heap.get? b=some u→b≠a:=fun b u e=>Nat.ne_of_lt (Nat.lt_of_lt_of_le (Heap.lt_size e) new)
 have ne0:∀ b u,X.s₀.heap.get? b=some u→b≠a:=fun b u e=>Nat.ne_of_lt (Nat.lt_of_lt_of_le (Heap.lt_size e) (Nat.le_trans I0.sz new))
 have nL:X.env.locals≠a:=by
   obtain ⟨m,⟨o',_,_,e,_⟩,_⟩:=I0.loc
   exact ne _ _ e
 refine ⟨I.ok,I.os,I.bare,⟨I.base.keep,I.base.slot,fun b u e n hx=>?_,I.base.there,fun b xs e=>?_,fun b u v e=>?_,fun b ps e=>?_⟩,I.loc,I.cell,?_,fun x c e=>?_,fun p hp=>?_,fun b u e=>?_,I.len⟩
 · rw [aI (ne0 b u e)];exact I.base.free b u e n hx
 · have:=I.base.tups b xs e
   rw [aI (aS this hn)];exact this
 · have:=I.base.frzs b u v e
   rw [aI (aS this hn)];exact this
 · obtain ⟨more,this⟩:=I.base.tbls b ps e
   exact ⟨more,by rw [aI (aS this hn)];exact this⟩
 · rw [aI nL];exact I.free
 · obtain ⟨v,o',e',_⟩:=I0.cell x c e
   rw [aI (ne _ _ e')];exact I.freeC x c e
 · obtain ⟨h1,h2,h3⟩:=I.pin p hp
   exact ⟨h1,by rw [aI (ne _ _ (I0.pin p hp).1)];exact h2,h3⟩
 · by_cases hb:b=a
   · subst hb
     rw [ao] at e;cases e
     exact ok
   · rw [aI hb] at e
     exact (I.hok b u e).stay (fun c v _ q=>q) (fun c q=>by
      have:c≠a:=aS q hn
      rw [aI this];exact q) fun c xs q=>by
      have:c≠a:=aS q hn
      rw [aI this];exact q
end
mutual
inductive eU (K:W.Frag) (H:Hp):V→PyData→Prop
 | non:eU K H .non .none
 | bl (b):eU K H (.bl b) (.bool b)
 | int (i):eU K H (.int i) (.int i)
 | str (z):eU K H (.str z) (.str z)
 | lst {a xs ds}:SqL K H a xs→DatVs K H xs ds→eU K H (.ref a) (.list ds)
 | tup {a xs ds}:SqT K H a xs→DatVs K H xs ds→eU K H (.ref a) (.tuple ds)
inductive DatVs (K:W.Frag) (H:Hp):List V→List PyData→Prop
 | nil:DatVs K H [] []
 | cons {x xs d ds}:eU K H x d→DatVs K H xs ds→DatVs K H (x::xs) (d::ds)
end
section
variable {X:Cx}
mutual
theorem eP {pins : List (Addr × Obj)} {σ : St} {H : Hp} {s : Shared} (I : Inv X pins σ H s) : ∀ {x : V} {d : PyData}, eU X.K H x d → ∀ {v : Value}, br x v → ∃ as, Reads s.heap v d as
  | _, _, .non, _, r => by cases r; exact ⟨_, .none⟩
  | _, _, .bl b, _, r => by cases r; exact ⟨_, .bool b⟩
  | _, _, .int i, _, r => by obtain ⟨t, rfl⟩ := r; exact ⟨_, .int i t⟩
  | _, _, .str z, _, r => by obtain ⟨t, rfl⟩ := r; exact ⟨_, .str z t⟩
  | _, _, .lst h hs, _, r => by
    cases r
    obtain ⟨its, r1, ⟨o, n, h1, h2, _, h3⟩, _⟩ := I.list h
    obtain ⟨as, ra⟩ := datVs_reads I hs r1
    exact ⟨_, .list h1 h2 h3 (by simpa using ra)⟩
  | _, _, .tup h hs, _, r => by
    cases r
    obtain ⟨its, r1, ⟨o, h1, h2, n, h3⟩, _⟩ := I.tuple h
    obtain ⟨as, ra⟩ := datVs_reads I hs r1
    exact ⟨_, .tuple h1 h2 h3 (by simpa using ra)⟩
theorem datVs_reads {pins : List (Addr × Obj)} {σ : St} {H : Hp} {s : Shared} (I : Inv X pins σ H s) : ∀ {xs : List V} {ds : List PyData}, DatVs X.K H xs ds → ∀ {vs : List Value}, bo xs vs → ∃ as, ReadsAll s.heap vs ds as
  | _, _, .nil, _, r => by cases r; exact ⟨_, .nil⟩
  | _, _, .cons h hs, _, r => by
    cases r with
    | cons r1 r2 =>
      obtain ⟨as, a⟩ := eP I h r1
      obtain ⟨bs, b⟩ := datVs_reads I hs r2
      exact ⟨_, .cons a b⟩
end
def nk (K:W.Frag):R2:=fun x y H Q=>∃ d e,eU K H x d∧eU K H y e∧d.canLay0=true∧e.canLay0=true∧d.depth≤150∧Q (.bl (d.eqv e)) H
def uQ (K:W.Frag):R2:=fun x y H Q=>∃ d e,eU K H x d∧eU K H y e∧d.canLay0=true∧e.canLay0=true∧d.depth≤150∧Q (.bl (!d.eqv e)) H
theorem yP (hu:X.A.units+150<cLine):OpR X (compareOp .Eq) (nk X.K):=by
 intro pins s σ H x y v u Q I rx ry h
 obtain ⟨d,e,hd,he,cd,ce,dp,q⟩:=h
 obtain ⟨as,ra⟩:=eP I hd rx
 obtain ⟨bs,rb⟩:=eP I he ry
 exact PySem.SeqAt.compareEq_reads ra rb cd ce (by have:=Nat.min_le_left d.depth e.depth;omega) ⟨.bl _,H,I,rfl,q⟩
theorem AD (hu:X.A.units+150<cLine):OpR X (compareOp .NotEq) (uQ X.K):=by
 intro pins s σ H x y v u Q I rx ry h
 obtain ⟨d,e,hd,he,cd,ce,dp,q⟩:=h
 obtain ⟨as,ra⟩:=eP I hd rx
 obtain ⟨bs,rb⟩:=eP I he ry
 exact PySem.SeqAt.compareNe_reads ra rb cd ce (by have:=Nat.min_le_left d.depth e.depth;omega) ⟨.bl _,H,I,rfl,q⟩
theorem bE.units150 {k:Nat} {A:Around} (r:bE k A):A.units+150<cLine:=by have:=r.un;omega
def dH (K:W.Frag):R2:=fun x y H Q=>match x,y with
 | .ref a,y=>uQ K (.ref a) y H Q
 | x,.ref b=>uQ K x (.ref b) H Q
 | x,y=>mNe x y H Q
theorem eZ (hu:X.A.units+150<cLine):OpR X (compareOp .NotEq) (dH X.K):=((AD hu).or oNe).imp fun x y H Q q=>by
 unfold dH at q
 split at q
 · exact .inl q
 · exact .inl q
 · exact .inr q
def jO:List V→Hp→VK→Prop:=fun xs H Q=>match xs with | [.int i,.int j]=>Q (.int (if j<i then j else i)) H | _=>False
theorem nX (hc:X.calm=true):bU X (.builtin "min") jO:=fun pins s σ H xs us Q I r q=>by
 unfold jO at q
 split at q
 · exact rL hc pins s σ H _ us Q I r ⟨_,_,rfl,q⟩
 · exact q.elim
variable {o:Expr} {to:TE} {name:Str} {apos cpos:Pos} {T id:String} {rm:V→List V→Hp→VK→Prop}
end
def ju (ns:List Int):List PyData:=ns.map PyData.int
theorem kr {K:W.Frag} {H:Hp}:∀ ns:List Int,DatVs K H (ns.map V.int) (ju ns)
 | []=> .nil
 | i::r=> .cons (.int i) (kr r)
theorem jB:∀ ns:List Int,(PyData.list (ju ns)).canLay0=true
 | []=>rfl
 | i::r=>jB r
theorem iK:∀ ns:List Int,PyData.depthAll (ju ns)=0
 | []=>rfl
 | i::r=>by show max 0 (PyData.depthAll (ju r))=0;rw [iK r];rfl
theorem pT (ns:List Int):(PyData.list (ju ns)).depth≤150:=by show PyData.depthAll (ju ns)+1≤150;rw [iK];decide
theorem be {n:Nat} (h:n≤1000000):n≤sizeLine:=by rw [sizeLine_eq];omega
theorem iz (k:Nat):((2^k:Nat):Int)=(2:Int)^k:=by simp
theorem cR (k:Nat):(0:Int)<2^k:=by have:=Nat.two_pow_pos k;rw [← iz];omega
theorem fX {k:Nat} (h:k≤60):(2:Int)^k≤2^60:=by
 have b:(2:Nat)^k≤2^60:=Nat.pow_le_pow_right (by decide) h
 rw [← iz k];omega
theorem sB (ns:List Int) (lo hi:Option Int):∃ zs:List Int,cL (ns.map V.int) lo hi=zs.map V.int∧zs.length≤ns.length:=by
 refine ⟨(ns.drop (HT.sIx ns.length 0 lo)).take (HT.sIx ns.length ns.length hi - HT.sIx ns.length 0 lo),?_,?_⟩
 · unfold cL
   rw [List.length_map,List.map_take,List.map_drop]
 · rw [List.length_take,List.length_drop];omega
theorem tM {α:Type} {xs:List α} {i:Int} (h0:0≤i) (h1:i<xs.length):∃ c,atI xs i=some c:=by
 unfold atI ixN
 rw [if_pos h0,if_pos h1]
 have:i.toNat<xs.length:=by omega
 exact ⟨xs[i.toNat],by show xs[i.toNat]?=_;rw [List.getElem?_eq_getElem this]⟩
theorem qX (x y : Nat) : x ||| y = (x &&& y) + (x ^^^ y) := by
  have h : ∀ n, ∀ x y : Nat, x < 2 ^ n → y < 2 ^ n → x ||| y = (x &&& y) + (x ^^^ y) := by
    intro n
    induction n with
    | zero => intro x y hx hy; have : x = 0 := by simpa using hx
              have : y = 0 := by simpa using hy
              subst_vars; rfl
    | succ n ih =>
      intro x y hx hy
      have i := ih (x / 2) (y / 2) (by omega) (by omega)
      rw [← Nat.div_add_mod (x ||| y) 2, ← Nat.div_add_mod (x &&& y) 2, ← Nat.div_add_mod (x ^^^ y) 2]
      rw [Nat.or_div_two, Nat.and_div_two, Nat.xor_div_two, i]
      have hm : (x ||| y) % 2 = (x &&& y) % 2 + (x ^^^ y) % 2 := by
        have a := @Nat.or_mod_two_pow x y 1
        have b := @Nat.and_mod_two_pow x y 1
        have c := @Nat.xor_mod_two_pow x y 1
        rw [Nat.pow_one] at a b c
        rw [a, b, c]
        rcases Nat.mod_two_eq_zero_or_one x with h | h <;> rcases Nat.mod_two_eq_zero_or_one y with h' | h' <;> rw [h, h'] <;> rfl
      omega
  have h2 : max x y < 2 ^ (max x y) := Nat.lt_two_pow_self
  exact h (max x y) x y (by omega) (by omega)
theorem kH (x y:Nat):Builtin.bitXor x y=((x^^^y:Nat):Int):=by
 unfold Builtin.bitXor Builtin.bitOr
 have e1:Builtin.bitAnd x y=((x &&& y:Nat):Int):=by
  unfold Builtin.bitAnd
  rw [decide_eq_true (by omega:(0:Int)≤x),decide_eq_true (by omega:(0:Int)≤y)];rfl
 have n (z:Nat):Builtin.bitNot z<0:=by unfold Builtin.bitNot;omega
 have nn (z:Nat):(Builtin.bitNot (Builtin.bitNot z)).toNat=z:=by unfold Builtin.bitNot;omega
 have e2:Builtin.bitAnd (Builtin.bitNot x) (Builtin.bitNot y)=Builtin.bitNot ((x ||| y:Nat):Int):=by
  unfold Builtin.bitAnd
  rw [decide_eq_false (by have:=n x;omega:¬ 0≤Builtin.bitNot x),decide_eq_false (by have:=n y;omega:¬ 0≤Builtin.bitNot y)]
  show Builtin.bitNot (((Builtin.bitNot (Builtin.bitNot x)).toNat ||| (Builtin.bitNot (Builtin.bitNot y)).toNat:Nat):Int)=_
  rw [nn,nn]
 rw [e1,e2,qX]
 unfold Builtin.bitNot
 omega
theorem rq (x:Nat):Builtin.bitAnd x 1=((x%2:Nat):Int):=by
 unfold Builtin.bitAnd
 rw [decide_eq_true (by omega:(0:Int)≤x),decide_eq_true (by decide:(0:Int)≤1)]
 show (((x:Int).toNat &&& (1:Int).toNat:Nat):Int)=_
 rw [Int.toNat_natCast,show (1:Int).toNat=1 from rfl,Nat.and_one_is_mod]
section
variable {X:Cx}
theorem bE.units1 {k:Nat} {A:Around} (r:bE k A):A.units+1<cLine:=by have:=r.un;omega
def zt:R2:=fun x y H Q=>∃ a v,x=.ref a∧vT H a y (some v)∧Q v H
theorem ya (hu:X.A.units+1<cLine):IxR X zt:=by
 intro value slice pins s σ H x y v u Q I rx ry h hs
 obtain ⟨a,w0,rfl,g,q⟩:=h
 obtain rfl:v=Value.ref a:=rx
 have hT:=oI I g
 have h2:wpAny (model X.prog X.w) X.A (getItem (.ref a) u) (EP X pins σ Q) X.xe s:=sD hu I g ry fun w' s3 I3 rw'=>⟨w0,H,I3,rw',q⟩
 unfold subscriptTail
 refine wpAny_bind ?_
 rw [getitemInPython_of_ne hT.not_modules]
 refine wpAny_bind (wpAny_specialOf hT PySem.F.slot_dict_getitem.lookup ?_)
 have fin:wpAny (model X.prog X.w) X.A (subscripted slice false (.ref a) u) (fun r s₃=>wpAny (model X.prog X.w) X.A (letTemporaryGo value (.ref a) r>>=fun _=>pure r) (EP X pins σ Q) X.xe s₃) X.xe s:=by
  rw [hs]
  exact wpAny_operating (wpAny_mono h2 (fun r s₃ h₃=>wpAny_bind (wpAny_letTemporaryGo (wpAny_pure h₃))) fun _ _ x=>x)
 first
  | exact wpAny_pure (wpAny_bind fin)
  | exact wpAny_bind (wpAny_pure (wpAny_bind fin))
  | exact wpAny_bind fin
def aF (K:W.Frag):R2:=fun x y H Q=>rIx K x y H Q∨zt x y H Q
theorem aw (hu:X.A.units+1<cLine):IxR X (aF X.K):=Bp.or (ya hu)
variable {o e:Expr} {to te:TE} {p pos:Pos}
def km:TE:=fun σ H Q=>tu σ H Q∨sO σ H Q
theorem oK:QE X (.Dict [] [] pos) km:=⟨fun pins s σ H Q I h=>h.elim (vP pins s σ H Q I) (uq pins s σ H Q I)⟩
theorem sg:bU X (.builtin "len") (fun xs H Q=>∃ p kvs,xs=[.ref p]∧H p=some (.dT kvs)∧Q (.int kvs.length) H):=by
 intro pins s σ H xs us Q I r h
 obtain ⟨a,kvs,rfl,e,q⟩:=h
 obtain ⟨u,rfl,r1⟩:=iE r
 cases r1
 obtain ⟨z,hd,ps,rel,dd⟩:=EZ I.hok e
 have hl:ps.length=kvs.length:=(Paired.length rel).symm
 have hT:s.TypeIs (.ref a) "dict" :=dd.typeIs
 obtain ⟨o,es,ep,ho,hc,hdat,he,his,hn⟩:=dd
 have hsz:es.size=kvs.length:=by rw [← hl];have:=congrArg List.length he;simpa using this
 have M:MeetsIn X.prog X.w (Builtin.«dict.__len__» ⟨[.ref a],[]⟩) (fun _ R s=>s.heap.get? a=some o∧R (.ok (.ret (.int kvs.length s.toks))) { s with toks:=s.toks+1 }):=
  .of_wp fun A R s ⟨ho,h⟩=>by
   show wpAny _ _ (dictSize a>>=_) _ _ s
   unfold dictSize
   refine wpAny_bind (wpAny_bind (wpAny_dictEntries ho hdat (wpAny_pure ?_)))
   show wpAny _ _ (Builtin.Dict.pendingCount a>>=_) _ _ s
   refine wpAny_bind (wpAny_pendingCount_other hd ?_)
   refine wpAny_ret_mkInt ?_
   rw [Nat.add_zero,hsz];exact h
 refine Calls.call_function_entry kind_len plain_len entry_len (args_len1 _) ?_
 unfold Builtin.«len»
 refine wpAny_bind (m:=oneArg "len" _) (wpAny_pure ?_)
 refine wpAny_bind (m:=callSpecial? (.ref a) (Str.ofString "__len__")) (wpAny_callSpecial?_slot (name:=Str.ofString "__len__") hT F.slot_dict_len
  (call_meetsIn F.slot_dict_len hT F.entry_dict_len (F.args_dict_len_1 _) M ⟨ho,?_⟩))
 show wpAny _ _ _ _ _ { s with toks:=s.toks+1 }
 refine wpAny_bind (wpAny_holding (wpAny_pure ?_))
 refine wpAny_bind (wpAny_letGo ?_)
 have zz:kvs.length≤sizeLine:=z
 rw [sizeLine_eq] at zz
 show wpAny _ _ (if ((kvs.length:Nat):Int)<0 then _ else _) _ _ _
 rw [if_neg (by omega)]
 show wpAny _ _ (if ((kvs.length:Nat):Int)≥2^63 then _ else _) _ _ _
 rw [if_neg (by omega)]
 exact wpAny_bind (wpAny_mkInt (wpAny_pure ⟨_,rfl,⟨.int kvs.length,H,I.tok _,⟨_,rfl⟩,q⟩⟩))
def cE (K:W.Frag):List V→Hp→VK→Prop:=fun xs H Q=>Bj K xs H Q∨∃ p kvs,xs=[.ref p]∧H p=some (.dT kvs)∧Q (.int kvs.length) H
theorem cI:bU X (.builtin "len") (cE X.K):=Gv.or sg
end
theorem nA {h:Heap} {a:Addr} {its:Array Value} (p:PlainL h a its):h.IsList a its:=let ⟨o,n,e,c,_,d⟩:=p;⟨o,e,c,n,d⟩

set_option genInjectivity false in
set_option genSizeOf false in
structure dY where
 qual:Str
 body:FuncBody
 scope:Scope
 ps:List Str
 ys:List Str
def mx (t:dY) (cs:List Addr) (c:Addr) (fd:FuncData):Prop:=
 fd.qualname=t.qual∧fd.body=t.body∧fd.scope=t.scope∧fd.globals=mainGlobals∧fd.closure=t.ys.zip cs∧fd.code=.ref c∧fd.builtins=builtinsNs∧
  (∀ us:List Value,us.length=t.ps.length→bindArgs fd ⟨us,[]⟩=pure (t.ps.zip us))∧cs.Nodup∧cs.length=t.ys.length
def fj (f:Addr) (t:dY) (cs:List Addr) (c:Addr):HO:=.ext fun h=>∃ od fd sl,h.get? f=some ⟨.type "function",od,.func fd,sl⟩∧mx t cs c fd
def fo (c:Addr) (qual:Str):HO:=.ext fun h=>∃ o vs tk,h.get? c=some o∧o.data=.fields vs∧vs[1]?=some (.str qual tk)
def dy (c:Addr) (v:V):HO:=.ext fun h=>∃ u o,br v u∧h.get? c=some o∧o.data=.cell (some u)
abbrev cQ (H:Hp):List Addr→List V→Prop:=Paired fun c v=>H c=some (dy c v)
structure eM (H:Hp) (f:Addr) (t:dY) (cs:List Addr) (cvs:List V):Prop where
 ex:∃ c,H f=some (fj f t cs c)∧H c=some (fo c t.qual)
 cells:cQ H cs cvs
theorem cQ.mem {H : Hp} {cs : List Addr} {cvs : List V} (h : cQ H cs cvs) : ∀ c ∈ cs, ∃ v, H c = some (dy c v) := by
  induction h with
  | nil => intro c hc; cases hc
  | cons r t ih =>
    intro c hc
    rcases List.mem_cons.mp hc with rfl | hc
    · exact ⟨_, r⟩
    · exact ih c hc
theorem cQ.get {H : Hp} {cs : List Addr} {cvs : List V} (h : cQ H cs cvs) : ∀ {i : Nat} {v : V}, cvs[i]? = some v → ∃ c, cs[i]? = some c ∧ H c = some (dy c v) := by
  induction h with
  | nil => intro i v e; cases e
  | @cons c w cs ws r t ih =>
    intro i v e
    cases i with
    | zero => cases e; exact ⟨c, rfl, r⟩
    | succ i => exact ih e
def dz (cs:List Addr) (H:Hp):Hp:=fun b=>if b∈cs then none else H b
def dJ (cs:List Addr) (H H':Hp):Hp:=fun b=>if b∈cs then H b else H' b
theorem gu {cs:List Addr} {H:Hp} {b:Addr} (h:b∈cs):dz cs H b=none:=if_pos h
theorem cN {cs:List Addr} {H:Hp} {b:Addr} (h:b∉cs):dz cs H b=H b:=if_neg h
theorem mY {cs:List Addr} {H H':Hp} {b:Addr} (h:b∈cs):dJ cs H H' b=H b:=if_pos h
theorem cO {cs:List Addr} {H H':Hp} {b:Addr} (h:b∉cs):dJ cs H H' b=H' b:=if_neg h
theorem cQ.notin {H:Hp} {cs:List Addr} {cvs:List V} (h:cQ H cs cvs) {b:Addr} {o:HO} (e:H b=some o) (hn:∀ φ,o≠ .ext φ):b∉cs:=fun hb=>by
 obtain ⟨v,ev⟩:=h.mem b hb
 rw [e] at ev
 exact hn _ (Option.some.inj ev)
theorem cQ.hide {H:Hp} {cs:List Addr} {cvs:List V} (h:cQ H cs cvs) {b:Addr} {o:HO} (e:H b=some o) (hn:∀ φ,o≠ .ext φ):dz cs H b=some o:=by
 rw [cN (h.notin e hn)];exact e
theorem ar.hide {H H':Hp} (cs:List Addr) (s:ar (dz cs H) H'):ar H (dJ cs H H'):=fun b o e=>by
 by_cases hb:b∈cs
 · rw [mY hb];exact e
 · rw [cO hb];exact s _ _ (by rw [cN hb];exact e)
section
variable {P:Program} {w:World} {fs:List Addr} {H H':Hp} {h h':Heap} {cs:List Addr} {cvs:List V}
theorem xT (hc:cQ H cs cvs) (ok:HOk P w H h):HOk P w (dz cs H) h:=fun b o e=>by
 by_cases hb:b∈cs
 · rw [gu hb] at e;cases e
 · rw [cN hb] at e
   exact (ok b o e).stay (fun c u _ q=>q) (fun c q=>hc.hide q fun φ z=>nomatch z) fun c xs q=>hc.hide q fun φ z=>nomatch z
theorem pD (hc:cQ H cs cvs) (hfs:∀ b∈fs,H b=none) (ok:HOk P w H h) (u:Un fs [] (dz cs H) H' h h') (ok':HOk P w H' h'):Un fs [] H (dJ cs H H') h h'∧HOk P w (dJ cs H H') h':=by
 have obj:∀ c∈cs,∃ v o,H c=some (dy c v)∧h.get? c=some o∧h'.get? c=some o∧H' c=none:=fun c hm=>by
   obtain ⟨v,ev⟩:=hc.mem c hm
   obtain ⟨_,⟨o,eo⟩,_⟩:=(show bu P w H h c (dy c v) from ok c _ ev)
   refine ⟨v,o,ev,eo,u.keep c o eo (gu hm) (fun z=>?_) (by simp),u.free c o eo (gu hm) (by simp)⟩
   rw [hfs c z] at ev;cases ev
 have nin:∀ b,H b=none→b∉cs:=fun b e hb=>by
   obtain ⟨v,ev⟩:=hc.mem b hb
   rw [e] at ev;cases ev
 have nin':∀ b o,H' b=some o→b∉cs:=fun b o e hb=>by
   obtain ⟨_,_,_,_,_,z⟩:=obj b hb
   rw [e] at z;cases z
 refine ⟨⟨fun b o e n hb hx=>u.keep b o e (by rw [cN (nin b n)];exact n) hb hx,fun b o e n hb hx=>u.slot b o e (by rw [cN (nin b n)];exact n) hb hx,
   fun b o e n hx=>by rw [cO (nin b n)];exact u.free b o e (by rw [cN (nin b n)];exact n) hx,u.there,fun b xs e=>?_,fun b o v e=>?_,fun b ps e=>?_⟩,fun b o e=>?_⟩
 · have hb:=hc.notin e fun φ z=>nomatch z
   rw [cO hb];exact u.tups b xs (by rw [cN hb];exact e)
 · have hb:=hc.notin e fun φ z=>nomatch z
   rw [cO hb];exact u.frzs b o v (by rw [cN hb];exact e)
 · have hb:=hc.notin e fun φ z=>nomatch z
   rw [cO hb];exact u.tbls b ps (by rw [cN hb];exact e)
 · by_cases hb:b∈cs
   · rw [mY hb] at e
     obtain ⟨v,o',ev,e1,e2,_⟩:=obj b hb
     rw [e] at ev;cases ev
     obtain ⟨φ1,_,φ3⟩:=(show bu P w H h b (dy b v) from ok b _ e)
     exact ⟨φ3 h h' φ1 fun q hq=>by rw [e1] at hq;cases hq;exact e2,⟨o',e2⟩,φ3⟩
   · rw [cO hb] at e
     exact (ok' b o e).stay (fun c u _ q=>q) (fun c q=>by rw [cO (nin' c _ q)];exact q) fun c xs q=>by rw [cO (nin' c _ q)];exact q
theorem CR.back {outer : List Env} {s s' : Shared} {Q : VK} {E : XK} {r : Result} (hc : cQ H cs cvs) (hfs : ∀ b ∈ frs outer, H b = none) (ok : HOk P w H s.heap)
    (h : CR (CX1 P w) outer P w (dz cs H) s (fun v H' => Q v (dJ cs H H')) (fun c a H' => E c a (dJ cs H H')) r s') : CR (CX1 P w) outer P w H s Q E r s' := by
  cases r with
  | error e =>
    obtain ⟨a, C, d, H', rfl, F, q⟩ := h
    obtain ⟨u, k⟩ := pD hc hfs ok F.un F.hok
    have na : a ∉ cs := fun hb => by
      obtain ⟨v, ev⟩ := hc.mem a hb
      obtain ⟨_, ⟨o, eo⟩, _⟩ := (show bu P w H s.heap a (dy a v) from ok a _ ev)
      rw [F.new] at eo; cases eo
    obtain ⟨oe, vs, a0, T, oT, ts, t1, t2, td, t3, t4, t5, t6, t7, t8, t9, t10, t11⟩ := F.tr
    have nT : T ∉ cs := fun hb => by
      obtain ⟨v, ev⟩ := hc.mem T hb
      obtain ⟨_, ⟨o, eo⟩, _⟩ := (show bu P w H s.heap T (dy T v) from ok T _ ev)
      rw [t10] at eo; cases eo
    exact ⟨a, C, d, _, rfl, ⟨F.os, F.bare, u, k, F.new, by rw [cO na]; exact F.free, ⟨oe, vs, a0, T, oT, ts, t1, t2, td, t3, t4, t5, t6, t7, t8, t9, t10, by rw [cO nT]; exact t11⟩⟩, q⟩
  | ok fl =>
    cases fl with
    | ret u =>
      obtain ⟨v, H', os, bare, un, hok, rv, q⟩ := h
      obtain ⟨u', k⟩ := pD hc hfs ok un hok
      exact ⟨v, _, os, bare, u', k, rv, q⟩
    | next => exact False.elim h
    | brk => exact False.elim h
    | cont => exact False.elim h
end
structure jw (P:Program) (w:World) (K:W.Frag) (mg:Str→Option Value) (base:Heap) (k:Nat) (t:dY) (sp:Sp):Prop where
 run:∀ (A:Around) (outer:List Env) (s:Shared) (H:Hp) (f:Addr) (cs:List Addr) (us:List Value) (vs cvs:List V) (Q:VK) (E:XK),bE k A→iD P w K mg base A outer s H→eM H f t cs cvs→bo vs us→vs.length=t.ps.length→
  sp (vs++cvs) (dz cs H) (fun v H'=>Q v (dJ cs H H')) (fun c a H'=>E c a (dJ cs H H'))→codeAny (model P w) A (.call (.ref f) ⟨us,[]⟩) (CR (CX1 P w) outer P w H s Q E) s
def gQ (N:List Str) (vs cvs:List V):St:=vs.map some++(List.replicate (N.length - vs.length - cvs.length) none++cvs.map some)
def mv (P:Program) (w:World) (K:W.Frag) (mg:Str→Option Value) (base:Heap) (N:List Str) (qual:Str) (scope:Scope) (f c:Addr) (cl:List (Str×Addr)) (A:Around) (outer:List Env) (s:Shared) (H:Hp) (E:XK):Cx where
 prog:=P
 w:=w
 K:=K
 mg:=mg
 base:=base
 A:=A.deeper (W.envX qual scope s.heap.objs.size f (.ref c) cl)
 N:=N
 s₀:=s
 H₀:=H
 env:=W.envX qual scope s.heap.objs.size f (.ref c) cl
 outer:=outer
 stack:=W.envX qual scope s.heap.objs.size f (.ref c) cl::outer
 ex:=[]
 calm:=true
 fn:=fun _=>false
 pn:=[]
 xe:=fun e s'=>wpAny (model P w) (A.deeper (W.envX qual scope s.heap.objs.size f (.ref c) cl)) (leaving (W.envX qual scope s.heap.objs.size f (.ref c) cl) e) (fun _ s''=>CX1 P w outer H s E e s'') (fun e' s''=>CX1 P w outer H s E e' s'') s'
structure jD (N ps ys:List Str) (sc:Scope):Prop where
 kind:sc.kind=.function
 co:sc.isCoroutine=false
 gen:sc.isGenerator=false
 nd:N.Nodup
 pre:N.take ps.length=ps
 suf:N.drop (N.length - ys.length)=ys
 le:ps.length+ys.length≤N.length
 par:∀ x∈ps,sc.names.lookup x=some .local
 nocell:∀ x∈sc.names,x.2≠ .cell
 fr:∀ x∈ys,sc.names.lookup x=some .free
 frs:∀ y∈sc.names,y.2=.free→y.1∈ys
theorem kz {ys : List Str} {cs : List Addr} (hl : cs.length = ys.length) (nd : ys.Nodup) : ∀ {i : Nat} {y : Str} {c : Addr}, ys[i]? = some y → cs[i]? = some c → (ys.zip cs).lookup y = some c := by
  induction ys generalizing cs with
  | nil => intro i y c e; cases e
  | cons a r ih =>
    intro i y c e1 e2
    cases cs with
    | nil => cases e2
    | cons b cs =>
      cases i with
      | zero => cases e1; cases e2; show (List.lookup _ ((_, _) :: _)) = _; rw [List.lookup_cons]; simp
      | succ i =>
        have hne : y ≠ a := fun e => (List.nodup_cons.mp nd).1 (e ▸ List.mem_of_getElem? (show r[i]? = some y from e1))
        show (List.lookup y ((a, b) :: r.zip cs)) = _
        rw [List.lookup_cons, show (y == a) = false from by simpa using hne]
        exact ih (by simpa using hl) (List.nodup_cons.mp nd).2 (show r[i]? = some y from e1) (show cs[i]? = some c from e2)
theorem fG {ys : List Str} {cs : List Addr} : ∀ {y : Str} {c : Addr}, (ys.zip cs).lookup y = some c → ∃ i : Nat, ys[i]? = some y ∧ cs[i]? = some c := by
  induction ys generalizing cs with
  | nil => intro y c e; cases e
  | cons a r ih =>
    intro y c e
    cases cs with
    | nil => cases e
    | cons b cs =>
      have e : (List.lookup y ((a, b) :: r.zip cs)) = some c := e
      rw [List.lookup_cons] at e
      by_cases hy : (y == a) = true
      · rw [hy] at e; cases e; exact ⟨0, by simpa using (eq_of_beq hy).symm, rfl⟩
      · rw [show (y == a) = false from by simpa using hy] at e
        obtain ⟨i, h1, h2⟩ := ih e
        exact ⟨i + 1, h1, h2⟩
theorem li {ps : List Str} {us : List Value} (nd : ps.Nodup) : ∀ {i : Nat} {x : Str} {u : Value}, ps[i]? = some x → us[i]? = some u → (ps.zip us).reverse.lookup x = some u := by
  induction ps generalizing us with
  | nil => intro i x u e; cases e
  | cons a r ih =>
    intro i x u e1 e2
    cases us with
    | nil => cases e2
    | cons b us =>
      show (List.lookup x ((a, b) :: r.zip us).reverse) = _
      rw [List.reverse_cons, List.lookup_append]
      cases i with
      | zero =>
        cases e1; cases e2
        have : (r.zip us).reverse.lookup a = none := by
          rw [List.lookup_eq_none_iff]
          intro p hp
          have := (List.of_mem_zip (List.mem_reverse.mp hp)).1
          simp only [beq_eq_false_iff_ne, ne_eq, bne_iff_ne]
          intro e
          exact (List.nodup_cons.mp nd).1 (by rw [← e] at this; exact this)
        rw [this]; simp
      | succ i =>
        rw [ih (List.nodup_cons.mp nd).2 (show r[i]? = some x from e1) (show us[i]? = some u from e2)]; rfl
section
variable {P:Program} {w:World} {K:W.Frag} {mg:Str→Option Value} {base:Heap} {N ps ys:List Str} {qual:Str} {scope:Scope} {f c:Addr} {A:Around} {outer:List Env} {s:Shared} {H:Hp} {E:XK} {us:List Value} {vs cvs:List V} {cs:List Addr} {h1:Heap} {tk:Nat}
theorem xR (S:jD N ps ys scope) (hd:A.handled=none) (e0:iD P w K mg base A outer s H) (ca:cQ H cs cvs) (hcs:cs.Nodup) (hcl:cs.length=ys.length) (hl:vs.length=ps.length) (r:bo vs us)
   (hns:h1.Ns s.heap.objs.size (fun x=>(ps.zip us).reverse.lookup x)) (hk:∀ b o,s.heap.get? b=some o→h1.get? b=some o):
   Inv (mv P w K mg base N qual scope f c (ys.zip cs) A outer s (dz cs H) E) [] (gQ N vs cvs) (dz cs H) { s with heap:=h1,toks:=tk }:=by
 have ndY:ys.Nodup:=by rw [← S.suf];exact S.nd.sublist (List.drop_sublist _ _)
 have ndP:ps.Nodup:=by rw [← S.pre];exact S.nd.sublist (List.take_sublist _ _)
 have lcv:cvs.length=ys.length:=by rw [← hcl];exact (Paired.length ca).symm
 have cellOf:∀ c∈cs,∃ v,h1.IsCell c v:=fun c hm=>by
   obtain ⟨v,ev⟩:=ca.mem c hm
   obtain ⟨⟨u,o,_,eo,hd⟩,_,_⟩:=(show bu P w H s.heap c (dy c v) from e0.hok c _ ev)
   exact ⟨_,o,hk _ _ eo,hd⟩
 have memC:∀ x c,(ys.zip cs).lookup x=some c→c∈cs:=fun x c e=>by
   obtain ⟨i,_,e2⟩:=fG e
   exact List.mem_of_getElem? e2
 have noA:∀ b:Addr,b∉(mv P w K mg base N qual scope f c (ys.zip cs) A outer s (dz cs H) E).ex:=fun b z=>absurd (show b∈([]:List Addr) from z) (by simp)
 have hid:∀ b,H b=none→dz cs H b=none:=fun b e=>by
   by_cases hb:b∈cs
   · exact gu hb
   · rw [cN hb];exact e
 refine ⟨⟨e0.mod,S.kind,rfl,rfl,Nat.le_refl _,fun y z c h1 h2=>?_,fun y hy=>?_,fun y c hf _=>?_,fun _=>hd,Around.frames_deeper e0.frames,.inr ⟨rfl,rfl⟩,fun b z=>absurd z (noA b),fun b o e=>⟨(e0.bs b o e).1,hid b (e0.bs b o e).2⟩,e0.bsz,fun b _ _=>noA b,fun b z=>absurd z (noA b),e0.funs,fun b hb=>hid b (e0.frf b hb)⟩,
   rfl,e0.bare,Un.kept hk,⟨_,hns,fun i y v q1 q2 q3=>?_⟩,fun y c h=>cellOf c (memC y c h),hid _ (e0.hok.fresh (Nat.le_refl _)),fun y c h=>gu (memC y c h),fun p hp=>absurd (show p∈([]:List (Addr×Obj)) from hp) (by simp),(xT ca e0.hok).kept hk,?_⟩
 · obtain ⟨i,e1,e2⟩:=fG (show (ys.zip cs).lookup y=some c from h1)
   obtain ⟨j,e3,e4⟩:=fG (show (ys.zip cs).lookup z=some c from h2)
   have:i=j:=by
     obtain ⟨a1,b1⟩:=List.getElem?_eq_some_iff.mp e2
     obtain ⟨a2,b2⟩:=List.getElem?_eq_some_iff.mp e4
     exact (List.getElem_inj hcs).mp (b1.trans b2.symm)
   subst this
   rw [e1] at e3;exact Option.some.inj e3
 · have hy:scope.names.lookup y=some .cell∨scope.names.lookup y=some .free:=hy
   rcases hy with hy | hy
   · exact absurd rfl (S.nocell _ (PySem.mem_of_lookup hy))
   · obtain ⟨i,hi,e⟩:=List.mem_iff_getElem.mp (S.frs _ (PySem.mem_of_lookup hy) rfl)
     have hi2:i<cs.length:=by omega
     exact ⟨cs[i],kz hcl ndY (List.getElem?_eq_some_iff.mpr ⟨hi,e⟩) (List.getElem?_eq_getElem hi2)⟩
 · exact absurd (show false=true from hf) Bool.false_ne_true
 · unfold gQ at q2
   by_cases hi:i<vs.length
   · rw [List.getElem?_append_left (by simpa using hi),List.getElem?_map] at q2
     have ha:vs[i]?=some v:=by
       cases e:vs[i]? with
       | none=>rw [e] at q2;cases q2
       | some a=>rw [e] at q2;cases q2;rfl
     obtain ⟨u,hu,rv⟩:=r.get ha
     have hp:ps[i]?=some y:=by
       rw [← S.pre,List.getElem?_take_of_lt (by omega)];exact q1
     exact ⟨u,rv,.inl ⟨S.par y (List.mem_of_getElem? hp),li ndP hp hu⟩⟩
   · rw [List.getElem?_append_right (by simpa using hi),List.length_map] at q2
     by_cases hj:i - vs.length<N.length - vs.length - cvs.length
     · rw [List.getElem?_append_left (by simpa using hj),List.getElem?_replicate] at q2
       split at q2 <;> cases q2
     · rw [List.getElem?_append_right (by simpa using hj),List.length_replicate,List.getElem?_map] at q2
       have ha:cvs[i - vs.length - (N.length - vs.length - cvs.length)]?=some v:=by
        cases e:cvs[i - vs.length - (N.length - vs.length - cvs.length)]? with
        | none=>rw [e] at q2;cases q2
        | some a=>rw [e] at q2;cases q2;rfl
       have hle:=S.le
       have hiN:i<N.length:=(List.getElem?_eq_some_iff.mp q1).1
       have hx:i - vs.length - (N.length - vs.length - cvs.length)=i - (N.length - ys.length):=by omega
       rw [hx] at ha
       have hy:ys[i - (N.length - ys.length)]?=some y:=by
        have e1:N.drop (N.length - ys.length)=ys:=S.suf
        have e2:(N.drop (N.length - ys.length))[i - (N.length - ys.length)]?=some y:=by
         rw [List.getElem?_drop]
         rw [show N.length - ys.length+(i - (N.length - ys.length))=i by omega];exact q1
        rw [e1] at e2;exact e2
       obtain ⟨c,ec,hc⟩:=ca.get ha
       obtain ⟨⟨u,o,ru,eo,hdo⟩,_,_⟩:=(show bu P w H s.heap c (dy c v) from e0.hok c _ hc)
       exact ⟨u,ru,.inr ⟨.inr (S.fr y (List.mem_of_getElem? hy)),c,kz hcl ndY hy ec,o,hk _ _ eo,hdo⟩⟩
 · unfold gQ
   show _=N.length
   have:=S.le
   rw [List.length_append,List.length_append,List.length_map,List.length_map,List.length_replicate]
   omega
end
section
variable {P:Program} {w:World} {K:W.Frag} {mg:Str→Option Value} {base:Heap} {k:Nat} {t:dY} {N:List Str} {sp:Sp}
theorem ze {body : List Stmt} (hb : t.body = .stmts body) (S : jD N t.ps t.ys t.scope)
    (hbody : ∀ (f c : Addr) (cl : List (Str × Addr)) (A : Around) (outer : List Env) (s : Shared) (H : Hp) (vs cvs : List V) (Q : VK) (E : XK), bE k (A.deeper (W.envX t.qual t.scope s.heap.objs.size f (.ref c) cl)) → vs.length = t.ps.length → cvs.length = t.ys.length → sp (vs ++ cvs) H Q E →
      ∃ td, PSs (mv P w K mg base N t.qual t.scope f c cl A outer s H E) body td ∧ td { nx := fun _ H' => Q .non H', rt := Q } (gQ N vs cvs) H) : jw P w K mg base (k + 1) t sp := by
  refine ⟨fun A outer s H f cs us vs cvs Q E hr e0 ca r hl hsp => ?_⟩
  obtain ⟨c, hf, hcc⟩ := ca.ex
  have KX : K.In s.heap := e0.mod.kin.keeps fun b o e => (e0.bs b o e).1
  have lim : s.heap.NoLimit := e0.mod.nolimit.keeps fun b o e => (e0.bs b o e).1
  obtain ⟨⟨od, fd, sl, ho, h1, h2, h3, h4, h5, h6, h7, h8, h9, h10⟩, _, _⟩ := (show bu P w H s.heap f (fj f t cs c) from e0.hok f _ hf)
  obtain ⟨⟨o, vs', tk, hco, hdo, hv⟩, _, _⟩ := (show bu P w H s.heap c (fo c t.qual) from e0.hok c _ hcc)
  have hcd : s.heap.CodeRec fd.code fd.qualname := ⟨c, o, vs', tk, h6, hco, hdo, by rw [h1]; exact hv⟩
  refine codeAny_mono (codeAny_call_function (R := CR (CX1 P w) outer P w (dz cs H) s (fun v H' => Q v (dJ cs H H')) (fun c a H' => E c a (dJ cs H H'))) hr.depth ho rfl (by rw [h3]; exact S.co) (by rw [h3]; exact S.gen) (h2.trans hb) hcd ?_) fun r s' h => CR.back ca.cells e0.frf e0.hok h
  rw [h8 us (by rw [← r.length]; exact hl), h3, h4, h5, h1, h6, h7]
  refine wpAny_pure (wpAny_newFunctionEnv S.nocell (fun y hy => S.par y.1 (List.of_mem_zip hy).1) (fun h' hns hsb => ⟨lim.fresh _ hsb, ?_⟩) S.kind)
  have hk : ∀ b o, s.heap.get? b = some o → h'.get? b = some o := fun b o e => hsb.extBut b o (Nat.ne_of_lt (Heap.lt_size e)) (Heap.get?_push_of_some _ e)
  have lcv : cvs.length = t.ys.length := by rw [← h10]; exact (Paired.length ca.cells).symm
  obtain ⟨td, ht, hq⟩ := hbody f c (t.ys.zip cs) A outer s (dz cs H) vs cvs _ _ (hr.deeper _) hl lcv hsp
  have I := xR (tk := s.toks + (t.ps.zip us).length) (qual := t.qual) (f := f) (c := c) (E := fun c a H' => E c a (dJ cs H H')) S hr.hd e0 ca.cells h9 h10 hl r hns hk
  show codeAny _ _ (.func body (W.envX t.qual t.scope s.heap.objs.size f (.ref c) (t.ys.zip cs))) _ _
  refine codeAny_func ?_
  refine wpAny_mono (ht [] _ (gQ N vs cvs) _ _ I hq) (fun fl s' hs => ?_) fun e s' hs => hs
  cases fl with
  | ret u =>
    obtain ⟨v, σ', H', J, rv, q⟩ := hs
    exact ⟨v, H', J.os, J.bare, J.base, J.hok, rv, q⟩
  | next =>
    obtain ⟨σ', H', J, q⟩ := hs
    exact ⟨V.non, H', J.os, J.bare, J.base, J.hok, rfl, q⟩
  | brk =>
    obtain ⟨_, _, _, q⟩ := hs
    exact False.elim q
  | cont =>
    obtain ⟨_, _, _, q⟩ := hs
    exact False.elim q
end
def BM (mg:Str→Option Value) (h:Heap):Prop:=∃ bm ob,mg "__builtins__" =some (.ref bm)∧bm≠builtinsNs∧h.get? bm=some ob∧ob.cls=.type "module" ∧ob.dict=some builtinsNs∧ob.data=.plain
section
variable {X:Cx} {pins:List (Addr×Obj)} {σ:St} {H:Hp} {s:Shared} {P c:Addr} {ps:Array Value} {t:dY} {cs:List Addr} {h':Heap} {tk:Nat} {fd:FuncData}
theorem uH {more:Array Value} (I:Inv X pins σ H s) (hP:H P=some (.tbl ps)) (hx:Heap.ExtBut P s.heap h') (hge:s.heap.objs.size≤c) (hlt:c<h'.objs.size) (hrec:h'.CodeRec (.ref c) t.qual)
   (htb:h'.get? P=some (W.tabObj (ps++more))) (hfd:mx t cs c fd):
   Inv X pins σ (upd (upd (upd H P (.tbl (ps++more))) c (fo c t.qual)) h'.objs.size (fj h'.objs.size t cs c)) { s with heap:=h'.push { cls:=.type "function",data:=.func fd },toks:=tk }:=by
 have hcn:H c=none:=I.hok.fresh hge
 have hfn:H h'.objs.size=none:=I.hok.fresh (Nat.le_of_lt (Nat.lt_of_le_of_lt hge hlt))
 have ncP:c≠P:=(aS hP hcn).symm
 have nfP:h'.objs.size≠P:=(aS hP hfn).symm
 have ncf:c≠h'.objs.size:=Nat.ne_of_lt hlt
 have old:∀ b o,s.heap.get? b=some o→b≠c∧b≠h'.objs.size:=fun b o e=>⟨Nat.ne_of_lt (Nat.lt_of_lt_of_le (Heap.lt_size e) hge),Nat.ne_of_lt (Nat.lt_of_lt_of_le (Heap.lt_size e) (Nat.le_of_lt (Nat.lt_of_le_of_lt hge hlt)))⟩
 have keepP:∀ b o,b≠P→s.heap.get? b=some o→(h'.push { cls:=.type "function",data:=.func fd }).get? b=some o:=fun b o hb e=>Heap.get?_push_of_some _ (hx b o hb e)
 have neP:∀ b,H b=none→b≠P:=fun b e z=>by rw [z,hP] at e;cases e
 have obj:∀ b o,H b=some o→∃ u,s.heap.get? b=some u:=fun b o e=>gZ (I.hok b o e)
 have same:∀ b o,H b=some o→b≠P→(upd (upd (upd H P (.tbl (ps++more))) c (fo c t.qual)) h'.objs.size (fj h'.objs.size t cs c)) b=some o:=fun b o e hb=>by
   rw [aI (aS e hfn),aI (aS e hcn),aI hb];exact e
 refine I.un ⟨fun b o e n hb hx'=>keepP b o (neP b n) e,fun b o e n hb hx'=>⟨o.slots,keepP b o (neP b n) e⟩,fun b o e n hx'=>?_,fun b o e hx'=>?_,fun b xs e=>same b _ e (kn e hP (fun z=>nomatch z)),fun b o u e=>same b _ e (kn e hP (fun z=>nomatch z)),fun b qs e=>?_⟩ fun b o e=>?_
 · rw [aI (old b o e).2,aI (old b o e).1,aI (neP b n)];exact n
 · by_cases hb:b=P
   · subst hb;exact ⟨_,Heap.get?_push_of_some _ htb⟩
   · exact ⟨o,keepP b o hb e⟩
 · by_cases hb:b=P
   · subst hb
     rw [hP] at e;cases e
     exact ⟨more,by rw [aI nfP.symm,aI ncP.symm,ao]⟩
   · exact ⟨#[],by rw [same b _ e hb];simp⟩
 · by_cases hf:b=h'.objs.size
   · subst hf
     rw [ao] at e;cases e
     refine ⟨⟨_,fd,_,Heap.get?_push_size _ rfl,hfd⟩,⟨_,Heap.get?_push_size _ rfl⟩,?_⟩
     rintro h1 h2 ⟨od,fd',sl,e1,e2⟩ k
     exact ⟨od,fd',sl,k _ e1,e2⟩
   · rw [aI hf] at e
     by_cases hc:b=c
     · subst hc
       rw [ao] at e;cases e
       obtain ⟨c2,oc,vs,tq,e0,e1,e2,e3⟩:=hrec
       cases e0
       refine ⟨⟨oc,vs,tq,Heap.get?_push_of_some _ e1,e2,e3⟩,⟨_,Heap.get?_push_of_some _ e1⟩,?_⟩
       rintro h1 h2 ⟨o,vs,tk,a1,a2,a3⟩ k
       exact ⟨o,vs,tk,k _ a1,a2,a3⟩
     · rw [aI hc] at e
       by_cases hp:b=P
       · subst hp
         rw [ao] at e;cases e
         exact Heap.get?_push_of_some _ htb
       · rw [aI hp] at e
         refine (I.hok b o e).stay (fun a u ha q=>keepP a u ?_ q) (fun a q=>same a _ q (kn q hP (fun z=>nomatch z))) fun a xs q=>same a _ q (kn q hP (fun z=>nomatch z))
         rcases ha with rfl | ha
         · exact hp
         · exact kn ha hP (fun z=>nomatch z)
theorem uP (I:Inv X pins σ H s) (hk:∀ b o,s.heap.get? b=some o→h'.get? b=some o) (hsz:s.heap.objs.size≤h'.objs.size) (hfd:mx t cs c fd):
  Inv X pins σ (upd H h'.objs.size (fj h'.objs.size t cs c)) { s with heap:=h'.push { cls:=.type "function",data:=.func fd },toks:=tk }:=by
 refine I.laid (a:=h'.objs.size) (o:=fj h'.objs.size t cs c) (fun b u e=>Heap.get?_push_of_some _ (hk b u e)) hsz ⟨⟨_,fd,_,Heap.get?_push_size _ rfl,hfd⟩,⟨_,Heap.get?_push_size _ rfl⟩,?_⟩
 rintro h1 h2 ⟨od,fd',sl,e1,e2⟩ k
 exact ⟨od,fd',sl,k _ e1,e2⟩
end
def yY (P : Addr) (pos : Pos) (t : dY) (cs : List Addr) : TE := fun _ H Q => ∃ ps, H P = some (.tbl ps) ∧ TriplesOk ps.toList ∧
  ((codeAmong pos ps.toList = none ∧ ∀ c f, H c = none → H f = none → c ≠ f → Q (.ref f) (upd (upd (upd H P (.tbl (ps ++ #[rawInt pos.line, rawInt pos.col, .ref c]))) c (fo c t.qual)) f (fj f t cs c))) ∨
   ∃ c, codeAmong pos ps.toList = some (.ref c) ∧ ∀ f, H f = none → Q (.ref f) (upd H f (fj f t cs c)))
section
variable {X:Cx} {c0 P:Addr} {params:Arguments} {scope:Scope} {pos:Pos} {t:dY} {cs:List Addr}
theorem xu {pins:List (Addr×Obj)} {σ:St} {H:Hp} {s:Shared} {ps:Array Value} (I:Inv X pins σ H s) (hP:H P=some (.tbl ps)) (B:BM X.mg X.base):
   s.heap.get? P=some (W.tabObj ps)∧s.heap.Ns mainGlobals X.mg∧mainGlobals≠P∧s.heap.BuiltinsAt X.mg P:=by
 have hPo:s.heap.get? P=some (W.tabObj ps):=I.hok P _ hP
 have hg:s.heap.Ns mainGlobals X.mg:=I.mod.glob.keeps I.bk
 have hgP:mainGlobals≠P:=fun q=>by
   obtain ⟨o,es,ep,e,hd,_⟩:=hg
   rw [q,hPo] at e;cases e;cases hd
 obtain ⟨bm,ob,b1,b2,b3,b4,b5,b6⟩:=B
 have b3':=I.bk _ _ b3
 refine ⟨hPo,hg,hgP,bm,ob,b1,b2,fun q=>?_,fun q=>?_,b3',b4,b5,b6⟩
 · obtain ⟨o,es,ep,e,hd,_⟩:=hg
   rw [q,e] at b3';cases b3';rw [hd] at b6;cases b6
 · rw [q,hPo] at b3';cases b3';cases b4
theorem Dz (i:Nat) {name:Str} {body:List Stmt} (hN:X.N.Nodup) (B:BM X.mg X.base) (C:W.CodeHd X.base c0 P) (hcode:X.env.code=.ref c0) (hcl:closureFor scope X.env=pure (t.ys.zip cs)) (nd:cs.Nodup) (hl:cs.length=t.ys.length)
   (hq:qualnameIn X.env name name=t.qual) (hb:t.body=.stmts body) (hs:t.scope=scope)
   (hbind:∀ (cl:List (Str×Addr)) (doc pm cdv ct:Value) (us:List Value),us.length=t.ps.length→bindArgs (W.fnX name t.qual params body scope cl .none .none doc pm none cdv ct) ⟨us,[]⟩=pure (t.ps.zip us))
   (hi:X.N[i]?=some name:=by rfl) (hx:Loc X.env.scope name:=by first | exact .inl rfl | exact .inr rfl) (hf:X.fn name=true∨X.env.scope.names.lookup name=some .local:=by first | exact .inl rfl | exact .inr rfl)
   (hd0:params.defaults=[]:=by rfl) (hk0:params.kw_defaults=[]:=by rfl) (ha:annTrees params none X.env=[]:=by rfl):
   QS X (.FunctionDef name params body [] none [] scope none name pos) (aB (yY P pos t cs) (ay i)):=⟨fun pins s σ H D I h=>by
 obtain ⟨ps,hP,ht,h⟩:=h
 obtain ⟨hPo,hg,hgP,hB⟩:=xu I hP B
 have hfd:∀ (doc pm ct:Value) (c:Addr),mx t cs c (W.fnX name t.qual params body scope (t.ys.zip cs) .none .none doc pm none (.ref c) ct):=fun doc pm ct c=>⟨rfl,hb.symm,hs.symm,rfl,rfl,rfl,rfl,hbind _ _ _ _ _,nd,hl⟩
 refine W.nestDef_K hd0 hk0 ha ?_
 rw [hq]
 rcases h with ⟨hn,q⟩ | ⟨c,hff,q⟩
 · refine W.makeFunction_K hcl I.ok.glob hg hcode (C.keeps I.bk) hPo ht hn hgP hB fun c ctv doc h' tk hx' hge hlt hrec htb=>?_
   have I2:=uH (tk:=tk) (cs:=cs) I hP hx' hge hlt hrec htb (hfd doc ((X.mg "__name__").getD .none) ctv c)
   exact eY I2 hN hi hx (v:=.ref h'.objs.size) rfl (fun s' I3=>⟨_,_,I3,q c h'.objs.size (I.hok.fresh hge) (I.hok.fresh (Nat.le_of_lt (Nat.lt_of_le_of_lt hge hlt))) (Nat.ne_of_lt hlt)⟩) hf
 · refine W.makeFunction_hit hcl I.ok.glob hg hcode (C.keeps I.bk) hPo ht hff hB fun ctv doc h' tk hk hsz=>?_
   have I2:=uP (tk:=tk) (cs:=cs) I hk hsz (hfd doc ((X.mg "__name__").getD .none) ctv c)
   exact eY I2 hN hi hx (v:=.ref h'.objs.size) rfl (fun s' I3=>⟨_,_,I3,q h'.objs.size (I.hok.fresh hsz)⟩) hf⟩
end
section
variable {X:Cx} {k:Nat} {E:St→XK} {x:Str} {p pos:Pos} {e:Expr} {es:List Expr} {ta:TE}
abbrev kE:=List (dY×Sp)
def qa (ks:kE) (f:Addr) (vs:List V) (H:Hp) (Q:VK) (E:XK):Prop:=∃ ts∈ks,∃ cs cvs,eM H f ts.1 cs cvs∧vs.length=ts.1.ps.length∧ts.2 (vs++cvs) (dz cs H) (fun v H'=>Q v (dJ cs H H')) (fun c a H'=>E c a (dJ cs H H'))
def iw (ks:kE) (E:St→XK) (ta:TE) (t:TA):TE:=fun σ H Q=>ta σ H fun x H1=>∃ f,x=.ref f∧(∃ ts∈ks,∃ cs cvs,eM H1 f ts.1 cs cvs)∧t σ H1 fun vs H2=>qa ks f vs H2 Q (E σ)
theorem tE {P:Program} {w:World} {H:Hp} {h:Heap} {f:Addr} {t:dY} {cs:List Addr} {cvs:List V} (ok:HOk P w H h) (c:eM H f t cs cvs):W.FnAt f h:=by
 obtain ⟨c',hf,_⟩:=c.ex
 obtain ⟨⟨od,fd,sl,ho,_⟩,_,_⟩:=(show bu P w H h f (fj f t cs c') from ok f _ hf)
 exact ⟨_,_,_,_,ho⟩
def ph (P:Program) (w:World) (K:W.Frag) (mg:Str→Option Value) (base:Heap) (k:Nat) (ks:kE):Prop:=∀ ts∈ks,jw P w K mg base k ts.1 ts.2
theorem iP {ks : kE} {t : TA} (hk : ph X.prog X.w X.K X.mg X.base k ks) (hr : bE k X.A) (hx : hG (CX1 X.prog X.w) X E) (hg : QE X (.Name x p) ta) (ha : QA X (e :: es) t) (hs : bV (e :: es) = true := by rfl) :
    QE X (.Call (.Name x p) (e :: es) [] pos) (iw ks E ta t) := ⟨fun pins s σ H Q I h => by
  have h' : (cC e && bV es) = true := hs
  refine wpAny_Call_Name_kw (thn (hg.out pins s σ H _ I h) fun u s1 ⟨y, H1, I1, ry, f, ey, ⟨ts, hts, cs, cvs, ca⟩, q⟩ => ?_)
  subst ey
  obtain rfl : u = Value.ref f := ry
  refine W.callWith_F (tE I1.hok ca) (thn (ha.out pos pins s1 σ H1 _ I1 q) fun us s2 ⟨vs, H2, I2, rv, ts2, hm2, cs2, cvs2, ca2, hl, hsp⟩ => ⟨tE I2.hok ca2, ?_⟩)
    (bD (Bool.and_eq_true_iff.mp h').1 es X.env) (dg (Bool.and_eq_true_iff.mp h').2)
  refine wpAny_call (codeAny_mono ((hk ts2 hm2).run X.A X.stack s2 H2 f cs2 us vs cvs2 Q (E σ) hr I2.env0 ca2 rv hl hsp) fun r s' hq => ?_)
  cases r with
  | error e => exact hx pins σ H2 s2 e s' I2 hq
  | ok fl =>
    cases fl with
    | ret u => exact I2.after hq
    | next => exact False.elim hq
    | brk => exact False.elim hq
    | cont => exact False.elim hq⟩
end
structure kq where
 nx:St→Hp→Prop
 rt:St→VK
abbrev TSM:=kq→St→Hp→Prop
def SPM (X:Cx) (pins:List (Addr×Obj)) (D:kq) (f:Flow) (s':Shared):Prop:=
 match f with
 | .next=>∃ σ' H',Inv X pins σ' H' s'∧D.nx σ' H'
 | .ret u=>∃ v σ' H',Inv X pins σ' H' s'∧br v u∧D.rt σ' v H'
 | _=>False
structure QM (X:Cx) (st:Stmt) (t:TSM):Prop where
 out:∀ (pins:List (Addr×Obj)) (s:Shared) (σ:St) (H:Hp) (D:kq),Inv X pins σ H s→t D σ H→wpAny (model X.prog X.w) X.A (exec st X.env) (SPM X pins D) X.xe s
structure QMs (X:Cx) (st:List Stmt) (t:TSM):Prop where
 out:∀ (pins:List (Addr×Obj)) (s:Shared) (σ:St) (H:Hp) (D:kq),Inv X pins σ H s→t D σ H→wpAny (model X.prog X.w) X.A (execs st X.env) (SPM X pins D) X.xe s
def BV (t u:TSM):TSM:=fun D σ H=>t { D with nx:=fun σ' H'=>u D σ' H' } σ H
def we (t:TS):TSM:=fun D σ H=>t { nx:=D.nx,rt:=fun _ _=>False } σ H
def zo (te:TE):TSM:=fun D σ H=>te σ H (D.rt σ)
section
variable {X:Cx} {st:Stmt} {sts l m:List Stmt} {t u:TSM} {tS:TS} {e c:Expr} {te:TE} {tc:TT} {pos:Pos}
theorem Bi (h:QS X st tS):QM X st (we tS):=⟨fun pins s σ H D I hq=>thn (h.out pins s σ H _ I hq) fun f s1 q=>by
 cases f with
 | next=>exact q
 | ret v=>obtain ⟨_,_,_,_,_,z⟩:=q;exact z.elim
 | brk=>obtain ⟨_,_,_,z⟩:=q;exact z.elim
 | cont=>obtain ⟨_,_,_,z⟩:=q;exact z.elim⟩
theorem EG (h:QE X e te):QM X (.Return (some e) pos) (zo te):=⟨fun pins s σ H D I hq=>
 wpAny_Return_some (thn (h.out pins s σ H _ I hq) fun v s1 ⟨x,H1,I1,r1,q1⟩=>⟨x,σ,H1,I1,r1,q1⟩)⟩
theorem yV (h1 : QM X st t) (h2 : QMs X sts u) : QMs X (st :: sts) (BV t u) := ⟨fun pins s σ H D I h => by
  refine wpAny_execs_cons (thn (h1.out pins s σ H _ I h) fun f s1 q => ?_)
  cases f with
  | next =>
    obtain ⟨σ', H', I', q⟩ := q
    exact h2.out pins s1 σ' H' D I' q
  | ret v => exact q
  | brk => exact q
  | cont => exact q⟩
theorem DN (h1:QM X st t):QMs X [st] t:=⟨fun pins s σ H D I h=>by
 refine wpAny_execs_cons (thn (h1.out pins s σ H D I h) fun f s1 q=>?_)
 cases f with
 | next=>exact wpAny_execs_nil q
 | ret v=>exact q
 | brk=>exact q
 | cont=>exact q⟩
end
def ef : List (Nat × Addr) → St → Hp → Hp
  | [], _, H => H
  | (i, c) :: r, σ, H => match σ[i]? with
    | some (some v) => ef r σ (upd H c (dy c v))
    | _ => ef r σ H
theorem jE {P : Program} {w : World} {fs : List Addr} {H : Hp} {h h' : Heap} {σ : St} : ∀ (cs : List (Nat × Addr)) (H' : Hp), (cs.map (·.2)).Nodup → (∀ p ∈ cs, H' p.2 = none ∧ h.objs.size ≤ p.2 ∧ ∀ v, σ[p.1]? = some (some v) → ∃ u o, br v u ∧ h'.get? p.2 = some o ∧ o.data = .cell (some u)) →
    Un fs [] H H' h h' → HOk P w H' h' → Un fs [] H (ef cs σ H') h h' ∧ HOk P w (ef cs σ H') h'
  | [], H', _, _, u, ok => ⟨u, ok⟩
  | (i, c) :: r, H', nd, hc, u, ok => by
    unfold ef
    have ndr := (List.nodup_cons.mp nd).2
    have hcr : ∀ p ∈ r, H' p.2 = none ∧ h.objs.size ≤ p.2 ∧ ∀ v, σ[p.1]? = some (some v) → ∃ u o, br v u ∧ h'.get? p.2 = some o ∧ o.data = .cell (some u) := fun p hp => hc p (List.mem_cons_of_mem _ hp)
    split
    · rename_i v hv
      obtain ⟨hn, hge, hcell⟩ := hc (i, c) List.mem_cons_self
      have hn : H' c = none := hn
      have hge : h.objs.size ≤ c := hge
      obtain ⟨uv, o, ru, eo, hd⟩ := hcell v hv
      have eo : h'.get? c = some o := eo
      refine jE r (upd H' c (dy c v)) ndr (fun p hp => ⟨?_, (hcr p hp).2⟩) ⟨u.keep, u.slot, fun b ob e n hx => ?_, u.there, fun b xs e => ?_, fun b ob z e => ?_, fun b ps e => ?_⟩ fun b ob e => ?_
      · have : p.2 ≠ c := fun z => (List.nodup_cons.mp nd).1 (by rw [← z]; exact List.mem_map.mpr ⟨p, hp, rfl⟩)
        rw [aI this]; exact (hcr p hp).1
      · rw [aI (Nat.ne_of_lt (Nat.lt_of_lt_of_le (Heap.lt_size e) hge))]; exact u.free b ob e n hx
      · have z := u.tups b xs e; rw [aI (aS z hn)]; exact z
      · have z := u.frzs b ob _ e; rw [aI (aS z hn)]; exact z
      · obtain ⟨more, z⟩ := u.tbls b ps e; exact ⟨more, by rw [aI (aS z hn)]; exact z⟩
      · by_cases hb : b = c
        · subst hb
          rw [ao] at e; cases e
          refine ⟨⟨uv, o, ru, eo, hd⟩, ⟨o, eo⟩, ?_⟩
          rintro h1 h2 ⟨u', o', r', e', d'⟩ k
          exact ⟨u', o', r', k _ e', d'⟩
        · rw [aI hb] at e
          exact (ok b ob e).stay (fun a q _ z => z) (fun a q => by rw [aI (aS q hn)]; exact q) fun a xs q => by rw [aI (aS q hn)]; exact q
    · exact jE r H' ndr hcr u ok
theorem Fun.okM {P : Program} {w : World} {K : W.Frag} {mg : Str → Option Value} {base : Heap} {x qual : Str} {st : Stmt} {f c0 : Addr} {fd : FuncData} {N ps : List Str} {k : Nat} {sp : Sp} {caps : Nat → List (Nat × Addr)} (F : Fun K x qual st f fd) (hcd : fd.code = .ref c0) (S : aL N ps (ap st)) (len : ∀ vs H Q E, sp vs H Q E → vs.length = ps.length)
    (hcaps : ∀ (L : Nat) (p : Nat × Addr), p ∈ caps L → ∃ y, N[p.1]? = some y ∧ (ap st).names.lookup y = some .cell ∧ (cellsFrom (L + 1) (ap st).names []).lookup y = some p.2) (hnd : ∀ L, ((caps L).map (·.2)).Nodup)
    (hbody : ∀ (A : Around) (outer : List Env) (s : Shared) (H : Hp) (vs : List V) (Q : VK) (E : XK), bE k (A.deeper (envOfC qual (ap st) s.heap.objs.size f (.ref c0))) → sp vs H Q E →
      ∃ t, QMs (cS (CX1 P w) P w K mg base N qual (ap st) f (.ref c0) A outer s H E) (bi st) t ∧ t { nx := fun σ H' => (∀ p ∈ caps s.heap.objs.size, H' p.2 = none) → Q .non (ef (caps s.heap.objs.size) σ H'), rt := fun σ v H' => (∀ p ∈ caps s.heap.objs.size, H' p.2 = none) → Q v (ef (caps s.heap.objs.size) σ H') } (cq N vs) H) : bg P w K mg base (CX1 P w) (k + 1) f fd ps sp := by
  obtain ⟨oc, od, kV, doc, pm, an, cdv, ct, osl, rfl, lk, hcd'⟩ := F.ex
  obtain rfl : cdv = .ref c0 := hcd
  refine ⟨len, fun A outer s H args us vs Q E hr e0 hb r hsp => ?_⟩
  have hl := len _ _ _ _ hsp
  have KX : K.In s.heap := e0.mod.kin.keeps fun b o e => (e0.bs b o e).1
  have lim : s.heap.NoLimit := e0.mod.nolimit.keeps fun b o e => (e0.bs b o e).1
  have hkind : ∀ y ∈ ps.zip us, (ap st).names.lookup y.1 = some .local ∨ ((ap st).names.lookup y.1 = some .cell ∧ ((cellsFrom (s.heap.objs.size + 1) (ap st).names []).lookup y.1).isSome = true) := fun ⟨n, v⟩ hy => by
    rcases S.par n (List.of_mem_zip hy).1 with q | q
    · exact .inl q
    · exact .inr ⟨q, W.cellsFrom_some _ _ _ (.inl q)⟩
  refine codeAny_call_function hr.depth (KX _ _ lk) rfl S.co S.gen rfl (W.codeRec_of KX hcd') (hb _ _ _ _ ?_)
  refine wpAny_newFunctionEnv_cells S.kind hkind fun env he s1 x => ?_
  subst he
  refine ⟨lim.keeps x.toInCall.keep, codeAny_func ?_⟩
  obtain ⟨t, ht, hq⟩ := hbody A outer s H vs Q E (hr.deeper _) hsp
  have I : Inv (cS (CX1 P w) P w K mg base N qual (ap st) f (.ref c0) A outer s H E) [] (cq N vs) H s1 := lK S hr.hd e0 hl r x
  refine wpAny_mono (ht.out [] s1 (cq N vs) H _ I hq) (fun fl s' hs => ?_) fun e s' hs => hs
  have fin : ∀ {σ' : St} {H' : Hp} {v : V} {u : Value}, Inv (cS (CX1 P w) P w K mg base N qual (ap st) f (.ref c0) A outer s H E) [] σ' H' s' → br v u → ((∀ p ∈ caps s.heap.objs.size, H' p.2 = none) → Q v (ef (caps s.heap.objs.size) σ' H')) → CE outer P w H s Q u s' :=
    fun {σ' H' v u} J rv q => by
      have free : ∀ p ∈ caps s.heap.objs.size, H' p.2 = none := fun p hp => by
        obtain ⟨y, _, _, hc⟩ := hcaps _ p hp
        exact J.freeC y p.2 hc
      have hcond : ∀ p ∈ caps s.heap.objs.size, H' p.2 = none ∧ s.heap.objs.size ≤ p.2 ∧ ∀ v, σ'[p.1]? = some (some v) → ∃ u o, br v u ∧ s'.heap.get? p.2 = some o ∧ o.data = .cell (some u) := fun p hp => by
        obtain ⟨y, hy, hk, hc⟩ := hcaps _ p hp
        refine ⟨free p hp, J.ok.cab y p.2 rfl hc, fun v hv => ?_⟩
        obtain ⟨m, _, hloc⟩ := J.loc
        obtain ⟨u', r', lk'⟩ := hloc p.1 y v hy hv (.inr (.inl hk))
        rcases lk' with ⟨z, _⟩ | ⟨_, c, ec, o, eo, hd⟩
        · have z : (ap st).names.lookup y = some .local := z
          rw [hk] at z; cases z
        · have ec : (cellsFrom (s.heap.objs.size + 1) (ap st).names []).lookup y = some c := ec
          rw [hc] at ec; cases ec
          exact ⟨u', o, r', eo, hd⟩
      obtain ⟨un, ok⟩ := jE (P := P) (w := w) (σ := σ') (caps s.heap.objs.size) H' (hnd _) hcond J.base J.hok
      exact ⟨v, _, J.os, J.bare, un, ok, rv, q free⟩
  cases fl with
  | ret u =>
    obtain ⟨v, σ', H', J, rv, q⟩ := hs
    exact fin J rv q
  | next =>
    obtain ⟨σ', H', J, q⟩ := hs
    exact fin (v := V.non) (u := Value.none) J rfl q
  | brk => exact False.elim hs
  | cont => exact False.elim hs
theorem tH {P : Program} {w : World} {K : W.Frag} {mg mb : Str → Option Value} {CX : CXT} {k : Nat} {fa a : Addr} {fd : FuncData} {x : Str} {sp : Sp} {s₁ : Shared} {vs : List Value} {ns : List Int} {tabs : List (Addr × Addr)}
    (KX : K.In s₁.heap) (hns : s₁.heap.Ns mainGlobals mg) (hb : s₁.heap.Ns builtinsNs mb) (hbb : ∀ x : Str, x ≠ "__name__" → mb x = bootBuiltins x) (hlim : s₁.heap.NoLimit) (hg : s₁.gens = #[]) (hB : BM mg s₁.heap)
    (hT : ∀ q ∈ tabs, W.CodeHd s₁.heap q.1 q.2 ∧ s₁.heap.get? q.2 = some (W.tabObj #[])) (hKT : W.noTabs K = true)
    (ha : s₁.heap.get? a = some { cls := .type "list", data := .seq vs.toArray }) (hi : IntsAre vs ns) (hl : ns.length ≤ sizeLine) (hr : bE k callerA)
    (F : ∀ base : Heap, K.In base → base.Ns mainGlobals mg → BM mg base → (∀ q ∈ tabs, W.CodeHd base q.1 q.2) → bg P w K mg base CX k fa fd [x] sp) (hbind : ∀ (s : Shared) (u : Value), BindsTo s fd ⟨[u], []⟩ [(x, u)])
    (hsp : ∀ H : Hp, (∀ q ∈ tabs, H q.2 = some (.tbl #[])) → SqL K H a (ns.map V.int) → sp [.ref a] H (fun v _ => v = .bl true) fun _ _ _ => False)
    (hCX : ∀ H e s', CX [] H s₁ (fun _ _ _ => False) e s' → False) :
    codeAny (model P w) callerA (.call (.ref fa) ⟨[.ref a], []⟩) (fun r s' => r = .ok (.ret (.bool true)) ∧ OldK s₁.heap s'.heap ∧ s'.os = s₁.os ∧ AllBare s'.gens) s₁ := by
  have rv := lL hi
  have lenV := hi.length
  have tabK : ∀ q ∈ tabs, K.lookup q.2 = none := fun q hq => by
    cases e : K.lookup q.2 with
    | none => rfl
    | some o =>
      have e2 := KX _ _ e
      rw [(hT q hq).2] at e2; cases e2
      have := List.all_eq_true.mp hKT _ (W.mem_of_lookupK e)
      exact absurd (show false = true from this) Bool.false_ne_true
  have tabA : ∀ q ∈ tabs, q.2 ≠ a := fun q hq e => by
    have e2 := (hT q hq).2
    rw [e, ha] at e2; cases e2
  have core : ∀ H : Hp, (∀ q ∈ tabs, H q.2 = some (.tbl #[])) → SqL K H a (ns.map V.int) → HOk P w H s₁.heap → (∀ b, H b ≠ none → (b = a ∧ ∃ o xs, H b = some (.frz o (.lst xs))) ∨ ∃ q ∈ tabs, q.2 = b) → (∀ b, H b ≠ none → K.lookup b = none) →
      codeAny (model P w) callerA (.call (.ref fa) ⟨[.ref a], []⟩) (fun r s' => r = .ok (.ret (.bool true)) ∧ OldK s₁.heap s'.heap ∧ s'.os = s₁.os ∧ AllBare s'.gens) s₁ := by
    intro H hO hS hok hA hK
    have base_of : ∀ {b : Addr} {o : Obj}, s₁.heap.get? b = some o → H b = none → (gb s₁.heap H).get? b = some o := fun e n => vS e n
    have noA : ∀ {b : Addr} {o : Obj}, s₁.heap.get? b = some o → o.cls ≠ .none → o.cls ≠ .type "list" → H b = none := fun {b o} e c1 c2 => by
      cases q : H b with
      | none => rfl
      | some u =>
        rcases hA b (by rw [q]; simp) with ⟨rfl, _⟩ | ⟨p, hp, rfl⟩
        · rw [ha] at e; cases e; exact absurd rfl c2
        · rw [(hT p hp).2] at e; cases e; exact absurd rfl c1
    have noD : ∀ {b : Addr} {o : Obj} {es : Array DictEntry} {ep : Nat}, s₁.heap.get? b = some o → o.data = .dict es ep → H b = none := fun {b o es ep} e d => by
      cases q : H b with
      | none => rfl
      | some u =>
        rcases hA b (by rw [q]; simp) with ⟨rfl, _⟩ | ⟨p, hp, rfl⟩
        · rw [ha] at e; cases e; cases d
        · rw [(hT p hp).2] at e; cases e; cases d
    have nsK : ∀ {b : Addr} {m : Str → Option Value}, s₁.heap.Ns b m → (gb s₁.heap H).Ns b m := fun {b m} ⟨o, es, ep, e, d, r⟩ => ⟨o, es, ep, base_of e (noD e d), d, r⟩
    have hKb : K.In (gb s₁.heap H) := fun b o e => base_of (KX b o e) (by
      cases q : H b with
      | none => rfl
      | some u => rw [hK b (by rw [q]; simp)] at e; cases e)
    have hBb : BM mg (gb s₁.heap H) := by
      obtain ⟨bm, ob, b1, b2, b3, b4, b5, b6⟩ := hB
      exact ⟨bm, ob, b1, b2, base_of b3 (noA b3 (by rw [b4]; intro z; cases z) (by rw [b4]; intro z; exact absurd (Value.type.inj z) (by decide))), b4, b5, b6⟩
    have hCb : ∀ q ∈ tabs, W.CodeHd (gb s₁.heap H) q.1 q.2 := fun q hq => by
      obtain ⟨o, vs, file, tf, flags, tg, inF, text, tt, e1, e2, r⟩ := (hT q hq).1
      exact ⟨o, vs, file, tf, flags, tg, inF, text, tt, base_of e1 (noA e1 (by rw [e2]; intro z; cases z) (by rw [e2]; intro z; exact absurd (Value.type.inj z) (by decide))), e2, r⟩
    have hM : Mod K mg (gb s₁.heap H) := ⟨hKb, nsK hns, ⟨mb, nsK hb, hbb⟩, let ⟨mc, h1, h2⟩ := hlim; ⟨mc, nsK h1, h2⟩⟩
    have e0 : iD P w K mg (gb s₁.heap H) callerA [] s₁ H := ⟨rfl, hM, fun b o e => yu e, Nat.le_of_eq (sR _ _), trivial, fun b hb => absurd (show b ∈ ([] : List Addr) from hb) (by simp), hok, .of_eq hg⟩
    refine codeAny_mono ((F _ hKb (nsK hns) hBb hCb).run callerA [] s₁ H ⟨[.ref a], []⟩ [.ref a] [.ref a] _ _ hr e0 (hbind s₁ (.ref a)) (.cons rfl .nil) (hsp H hO hS)) fun r s' h => ?_
    cases r with
    | error e => exact (hCX H e s' h).elim
    | ok fl =>
      cases fl with
      | next => exact False.elim h
      | brk => exact False.elim h
      | cont => exact False.elim h
      | ret u =>
        obtain ⟨v, H', os, bare, un, hok', r', q⟩ := h
        have q' : v = .bl true := q
        subst q'
        obtain rfl : u = Value.bool true := r'
        have all : ∀ b o, s₁.heap.get? b = some o → s'.heap.get? b = some o ∨ ∃ q ∈ tabs, q.2 = b ∧ ∃ more, s'.heap.get? b = some (W.tabObj more) := fun b o e => by
          cases q : H b with
          | none => exact .inl (un.keep b o e q (by intro z; exact absurd (show b ∈ ([] : List Addr) from z) (by simp)) (by simp))
          | some u =>
            rcases hA b (by rw [q]; simp) with ⟨rfl, ob, xs, z⟩ | ⟨p, hp, rfl⟩
            · have z2 := un.frzs b ob _ z
              obtain ⟨e1, _⟩ := hok b _ z
              obtain ⟨e2, _⟩ := hok' b _ z2
              rw [e] at e1; cases e1
              exact .inl e2
            · obtain ⟨more, z2⟩ := un.tbls p.2 _ (hO p hp)
              exact .inr ⟨p, hp, rfl, _, hok' p.2 _ z2⟩
        refine ⟨rfl, ⟨fun b o e => ?_, fun b o e => ?_⟩, os, bare⟩
        · rcases all b o e with z | ⟨p, hp, rfl, more, z⟩
          · exact .inl z
          · have e2 := (hT p hp).2
            rw [e] at e2; cases e2
            exact .inr (.inl ⟨((hT p hp).1.tab (hT p hp).2).isCodeTable, rfl, #[], more, rfl, by rw [Array.empty_append]; exact z⟩)
        · rcases all b o e with z | ⟨p, hp, rfl, more, z⟩
          · exact ⟨_, z⟩
          · exact ⟨_, z⟩
  cases hk : K.lookup a with
  | some o =>
    have e := KX a o hk
    rw [ha] at e
    cases e
    refine core (fun b => if b ∈ tabs.map (·.2) then some (.tbl #[]) else none) (fun q hq => if_pos (List.mem_map.mpr ⟨q, hq, rfl⟩)) (.inr ⟨_, vs.toArray, _, hk, rfl, rfl, rfl, by rw [List.size_toArray, lenV]; exact hl, by simpa using rv⟩) (fun b u z => ?_) (fun b z => ?_) fun b z => ?_
    · by_cases hb : b ∈ tabs.map (·.2)
      · have z' := (if_pos hb).symm.trans z
        cases z'
        obtain ⟨q, hq, rfl⟩ := List.mem_map.mp hb
        exact (hT q hq).2
      · have z' := (if_neg hb).symm.trans z
        cases z'
    · by_cases hb : b ∈ tabs.map (·.2)
      · obtain ⟨q, hq, e⟩ := List.mem_map.mp hb
        exact .inr ⟨q, hq, e⟩
      · exact absurd (if_neg hb) z
    · by_cases hb : b ∈ tabs.map (·.2)
      · obtain ⟨q, hq, rfl⟩ := List.mem_map.mp hb
        exact tabK q hq
      · exact absurd (if_neg hb) z
  | none =>
    refine core (fun b => if b = a then some (.frz { cls := .type "list", data := .seq vs.toArray } (.lst (ns.map V.int))) else if b ∈ tabs.map (·.2) then some (.tbl #[]) else none)
      (fun q hq => by show (if q.2 = a then _ else _) = _; rw [if_neg (tabA q hq), if_pos (List.mem_map.mpr ⟨q, hq, rfl⟩)]) (.inl (.inr ⟨{ cls := .type "list", data := .seq vs.toArray }, if_pos rfl⟩)) (fun b u z => ?_) (fun b z => ?_) fun b z => ?_
    · by_cases hb : b = a
      · have z' := (if_pos hb).symm.trans z
        cases z'
        subst hb
        exact ⟨ha, by rw [List.length_map]; exact hl, vs, _, rv, ha⟩
      · have z' : (if b ∈ tabs.map (·.2) then some (HO.tbl #[]) else none) = some u := (if_neg hb).symm.trans z
        by_cases hb2 : b ∈ tabs.map (·.2)
        · rw [if_pos hb2] at z'; cases z'
          obtain ⟨q, hq, rfl⟩ := List.mem_map.mp hb2
          exact (hT q hq).2
        · rw [if_neg hb2] at z'; cases z'
    · by_cases hb : b = a
      · exact .inl ⟨hb, _, _, if_pos hb⟩
      · by_cases hb2 : b ∈ tabs.map (·.2)
        · obtain ⟨q, hq, e⟩ := List.mem_map.mp hb2
          exact .inr ⟨q, hq, e⟩
        · exact absurd ((if_neg hb).trans (if_neg hb2)) z
    · by_cases hb : b = a
      · rw [hb]; exact hk
      · by_cases hb2 : b ∈ tabs.map (·.2)
        · obtain ⟨q, hq, rfl⟩ := List.mem_map.mp hb2
          exact tabK q hq
        · exact absurd ((if_neg hb).trans (if_neg hb2)) z
theorem vt {l : W.OpenLaw} {n k : Nat} {q : Program} {loose : List Str} {XP : (Str → Option Value) → Heap → Prop} {YP : World → Heap → Prop} {d : DefRec} {K : Params → W.Frag} {CX : World → CXT} {x : Str} {names : List Str}
  (hn : l.most = some n) (hn2 : n ≤ sizeLine) (hdf : d.params.defaults = []) (hr : bE k callerA)
  (hY : ∀ (w : World) (h : Heap), YP w h → (K w.params).In h)
  (hq : ∀ y ∈ names, ((PyProof.Rows.recsOf q).find? fun e => e.name == y).isSome = true)
  (F : ∀ (w : World) (mg : Str → Option Value) (fa : Addr) (h : Heap), (K w.params).In h → h.Ns mainGlobals mg → mg d.name = some (.ref fa) →
   ∃ (fd : FuncData) (tabs : List (Addr × Addr)) (sp : Sp), (∀ (s : Shared) (u : Value), BindsTo s fd ⟨[u], []⟩ [(x, u)]) ∧ W.noTabs (K w.params) = true ∧ (∀ t ∈ tabs, ∃ y ∈ names, W.tabIn (K w.params) y = some t) ∧
    (∀ base : Heap, (K w.params).In base → base.Ns mainGlobals mg → BM mg base → (∀ t ∈ tabs, W.CodeHd base t.1 t.2) → bg l.prog w (K w.params) mg base (CX w) k fa fd [x] sp) ∧
    ∀ (H : Hp) (a : Addr) (ns : List Int), ns.length ≤ n → (∀ t ∈ tabs, H t.2 = some (.tbl #[])) → SqL (K w.params) H a (ns.map V.int) → sp [.ref a] H (fun v _ => v = .bl true) fun _ _ _ => False)
  (hCX : ∀ (w : World) (H : Hp) (s : Shared) (e : Value) (s' : Shared), CX w [] H s (fun _ _ _ => False) e s' → False) :
  W.WalkO q loose XP YP l.row.toRowW d [] (fun f vs => PySem.call f vs) := by
 refine Att.attach_call hn hdf fun w s₀ s₁ mg mb fa o pm cd doc a vs ns G Y ho hd hcd hmg hobj hints hlen hg => ?_
 have KX := hY w _ Y
 obtain ⟨fd, tabs, sp, hb, hKT, htabs, hF, hsp⟩ := F w mg fa _ KX G.T.g hmg
 refine tH (tabs := tabs) KX G.T.g G.T.b G.T.builtins G.T.nolimit hg G.T.bmain (fun t ht => ?_) hKT hobj hints (Nat.le_trans hlen hn2) hr hF hb (fun H hO hS => hsp H a ns hlen hO hS) fun H e s' => hCX w H s₁ e s'
 obtain ⟨y, hy, e⟩ := htabs t ht
 obtain ⟨dd, hdd⟩ := Option.isSome_iff_exists.mp (hq y hy)
 exact W.tab_of G.T KX hdd e
section
variable {X:Cx}
theorem SPM.unwish {E:Value→Shared→Prop} {pins:List (Addr×Obj)} {D:kq} {f:Flow} {s':Shared} (h:SPM (X.wish E) pins D f s'):SPM X pins D f s':=by
 cases f with
 | next=>obtain ⟨σ',H',I,q⟩:=h;exact ⟨σ',H',I.unwish,q⟩
 | brk=>exact h
 | cont=>exact h
 | ret u=>obtain ⟨v,σ',H',I,r,q⟩:=h;exact ⟨v,σ',H',I.unwish,r,q⟩
theorem QMs.nox {st:List Stmt} {t:TSM} (h:QMs X.nox st t):QMs X st t:=⟨fun pins s σ H D I hw=>
 wpAny_mono (h.out pins s σ H D (I.wish _) hw) (fun _ _ q=>SPM.unwish q) fun _ _ z=>False.elim z⟩
theorem jw.mono {P:Program} {w:World} {K:W.Frag} {mg:Str→Option Value} {base:Heap} {j k:Nat} {t:dY} {sp:Sp} (F:jw P w K mg base j t sp) (h:j≤k):jw P w K mg base k t sp:=
 ⟨fun A outer s H f cs us vs cvs Q E hr=>F.run A outer s H f cs us vs cvs Q E (hr.mono h)⟩
def Its (z:Str):It:=⟨fun i _=>i<z.length,fun i H x H'=>H'=H∧∃ c,z.cps[i]?=some c∧x=.str ⟨#[c]⟩,fun i _=>z.length≤i⟩
theorem uo {P:Program} {w:World} {K:W.Frag} {tg:Expr} (z:Str) (t:Tok) (it:Addr):kW P w K tg (Its z) [it] it (fun i h=>h.IsStrIter it "str_ascii_iterator" z t i) where
 mem:=by simp
 obj:=fun i h st b hb=>by
  have e:b=it:=by simpa using hb
  subst e
  obtain ⟨o,e,c,d⟩:=st
  exact ⟨o,e,fun v z=>by rw [d] at z;cases z⟩
 keep:=fun i h h' st k=>let ⟨o,ho,r⟩:=st;⟨o,k it (by simp) o ho,r⟩
 item:=by
  intro X hP hw hK hc i pins s σ H E I hf st hg
  subst hP hw hK
  obtain ⟨f0,f1,f2,f3,f4,f5⟩:=hf it (by simp)
  have hi:i<z.cps.size:=hg
  refine wpAny_pyNext_ascii_item st (c:=z.cps[i]) (Array.getElem?_eq_getElem hi) fun h' st' sb=>?_
  have I1:Inv X pins σ H { s with heap:=h',toks:=s.toks+1 }:=I.turned (t':=s.toks+1) (fun b o hb e=>(sb.2 b hb).trans e) f0 f1 f3 f4 f5
  obtain ⟨o,e,c,d⟩:=id st'
  exact ⟨_,rfl,mQ (s:={ s with heap:=h',toks:=s.toks+1 }) e c d (by decide) ⟨.str ⟨#[z.cps[i]]⟩,H,I1,⟨_,rfl⟩,⟨rfl,_,Array.getElem?_eq_getElem hi,rfl⟩,st',fun b hb=>(hf b hb).1⟩⟩
 done:=by
  intro X hP hw hK hc i pins s σ H E I hf st hg
  subst hP hw hK
  obtain ⟨f0,f1,f2,f3,f4,f5⟩:=hf it (by simp)
  exact wpAny_pyNext_ascii_end (I.ok.hd hc) st (Array.getElem?_eq_none (show z.cps.size≤i from hg)) fun h' eb=>⟨rfl,I.turned (t':=s.toks) (fun b o hb e=>eb b o hb e) f0 f1 f3 f4 f5⟩
 self:=fun A i s Q E st h=>by
  refine wpAny_pyIter_slot st.typeIs F.slot_str_ascii_iterator_iter (wpAny_call_entry F.slot_str_ascii_iterator_iter st.typeIs F.entry_str_ascii_iterator_iter ?_ (F.args_str_ascii_iterator_iter_1 _))
  show wpAny _ _ (ret (.ref it)) _ _ s
  exact wpAny_pure ⟨_,rfl, "str_ascii_iterator",_,st.typeIs,F.slot_str_ascii_iterator_next.lookup,h⟩
variable {a:Expr} {ta:TE} {tg:Expr}
def fR (K:W.Frag) (tl:TE):TI:=fun σ H R=>tl σ H fun x H1=>match x with
 | .str z=>z.cps.all (·<128)=true∧R (Its z) H1
 | x=>∃ a,x=.ref a∧(((∃ xs,SqL K H1 a xs)∧R (Itl K a) H1)∨((∃ xs,SqT K H1 a xs)∧R (Itt K a) H1))
theorem fA (h : QE X a ta) : QI X tg a (fR X.K ta) := ⟨fun pins s σ H R I hw => by
  refine thn (h.out pins s σ H _ I hw) fun v s1 ⟨x, H1, I1, r1, q1⟩ => ?_
  cases x with
  | str z =>
    obtain ⟨t, rfl⟩ := r1
    refine wpAny_pyIter_ascii q1.1 ?_
    refine ⟨s1.heap.objs.size, [s1.heap.objs.size], _, _, H1, rfl, I1.kept (t' := s1.toks) fun b o e => Heap.get?_push_of_some _ e, uo z t _, ⟨_, Heap.get?_push_size _ rfl, rfl, rfl⟩, fun b hb => ?_, q1.2⟩
    have e : b = s1.heap.objs.size := by simpa using hb
    subst e
    exact I1.fpOk (Nat.le_refl _) (I1.hok.fresh (Nat.le_refl _))
  | ref c =>
    obtain ⟨a, e, q⟩ := q1
    cases e
    cases r1
    rcases q with ⟨⟨xs, hq⟩, q⟩ | ⟨⟨xs, hq⟩, q⟩
    · obtain ⟨its, rv, p, hz⟩ := I1.list hq
      refine wpAny_pyIter_list (nA p) ?_
      refine ⟨s1.heap.objs.size, [s1.heap.objs.size], _, _, H1, rfl, I1.kept (t' := s1.toks) fun b o e => Heap.get?_push_of_some _ e, rS _ _, ⟨_, Heap.get?_push_size _ rfl, rfl, rfl⟩, fun b hb => ?_, q⟩
      have e : b = s1.heap.objs.size := by simpa using hb
      subst e
      exact I1.fpOk (Nat.le_refl _) (I1.hok.fresh (Nat.le_refl _))
    · obtain ⟨its, rv, p, hz⟩ := I1.tuple hq
      refine wpAny_pyIter_tuple (show s1.heap.IsTuple c its.toArray from p) ?_
      refine ⟨s1.heap.objs.size, [s1.heap.objs.size], _, _, H1, rfl, I1.kept (t' := s1.toks) fun b o e => Heap.get?_push_of_some _ e, qV _ _, ⟨_, Heap.get?_push_size _ rfl, rfl, rfl⟩, fun b hb => ?_, q⟩
      have e : b = s1.heap.objs.size := by simpa using hb
      subst e
      exact I1.fpOk (Nat.le_refl _) (I1.hok.fresh (Nat.le_refl _))
  | _ => obtain ⟨_, e, _⟩ := q1; cases e⟩
theorem xG:OpR X (binaryOp .Mult) (fun x y H Q=>∃ z n,x=.str z∧y=.int n∧(-1000≤n∧n≤1000∧z.length≤1000)∧Q (.str (Txt.mul z n)) H):=by
 intro pins s σ H x y v u Q I rx ry h
 obtain ⟨z,n,rfl,rfl,⟨h1,h2,h3⟩,q⟩:=h
 obtain ⟨t,rfl⟩:=rx
 obtain ⟨t',rfl⟩:=ry
 refine SB.mul ⟨?_,fun hn _=>?_,fun hn _=>?_⟩ fun t' k=>⟨.str _,H,I.tok k,⟨_,rfl⟩,q⟩
 · rw [decide_eq_false (by omega),decide_eq_false (by omega)];rfl
 · intro hgt
   have h5:(1000:Int)≤(2^63 - 1)/n:=Int.le_ediv_of_mul_le (by omega) (by omega)
   omega
 · have h6:z.length*n.toNat≤1000*1000:=Nat.mul_le_mul h3 (by omega)
   exact decide_eq_false (by rw [sizeLine_eq];omega)
end
theorem eL.str (z:Str):eL (Its z) z.length (fun i=> .str ⟨#[z.cps.getD i 0]⟩) (fun _=>True) where
 go:=fun i H hi _=>hi
 yld:=fun i H x H' hi _ y=>⟨y.1,by obtain ⟨_,c,hc,rfl⟩:=y;simp [Array.getD_eq_getD_getElem?,hc]⟩
 stop:=fun H _=>Nat.le_refl _
theorem pX {α β:Type} (f:β→α→β) (b:β) (l:List α) (i:Nat) (x:α) (h:l[i]?=some x):(l.take (i+1)).foldl f b=f ((l.take i).foldl f b) x:=by
 rw [List.take_succ,h];simp
theorem kM {α β:Type} {f:α→β} {l:List α} {i:Nat} {x:β} (h:(l.map f)[i]?=some x):∃ a,l[i]?=some a∧x=f a:=by
 rw [List.getElem?_map] at h
 cases e:l[i]? with
 | none=>rw [e] at h;cases h
 | some a=>rw [e] at h;cases h;exact ⟨a,rfl,rfl⟩
theorem eM.keep {H H':Hp} {f:Addr} {t:dY} {cs:List Addr} {cvs:List V} (k:∀ b φ,H b=some (.ext φ)→H' b=some (.ext φ)) (c:eM H f t cs cvs):eM H' f t cs cvs:=by
 obtain ⟨⟨a,h1,h2⟩,h3⟩:=c
 refine ⟨⟨a,k _ _ h1,k _ _ h2⟩,?_⟩
 clear h1 h2
 induction h3 with
 | nil=>exact .nil
 | cons r t ih=>exact .cons (k _ _ r) ih
theorem ixL {K:W.Frag} {H:Hp} {Q:VK} {L:Addr} {xs:List V} {x:V} {i:Int} {j:Nat} (hL:H L=some (.lst xs)) (e:i=j) (hx:xs[j]?=some x) (q:Q x H):aF K (.ref L) (.int i) H Q:=by
 subst e
 refine .inl (.inl ⟨L,xs,j,x,rfl,rfl,SqL.of hL,?_,q⟩)
 have hj:=(List.getElem?_eq_some_iff.mp hx).1
 rw [tz (by omega) (by omega)]
 simp [List.getD_eq_getElem?_getD,hx]
def lx (K:W.Frag) (ns:List Str):Bool:=decide ((ns.map fun n=>(W.tabIn K n).map (·.2)).Nodup)
theorem vy {l:List Addr} (h:(l.map some).Nodup):l.Nodup:=List.Pairwise.of_map some (fun a b h e=>h (congrArg some e)) h
end L2
namespace HT
open PySem PyProof.Rows
theorem gm:fillsNumberSlot (.type "tuple") "mul" =pure false:=
 PySem.fillsNumberSlot_seq (id:= "tuple.__mul__") (r:=some (.builtin "tuple.__rmul__")) F.slot_tuple_mul.lookup (by decide +kernel) F.slot_tuple_rmul.lookup (by decide +kernel)
theorem iY:seqRepeat? (.type "tuple")=pure (some (.builtin "tuple.__mul__")):=by
 unfold seqRepeat?
 rw [PySem.seqSlot_of (T:= "tuple") (name:= "__mul__") (id:= "tuple.__mul__") F.slot_tuple_mul.lookup (by decide +kernel),PySem.seqSlot_of (T:= "tuple") (name:= "__rmul__") (id:= "tuple.__rmul__") F.slot_tuple_rmul.lookup (by decide +kernel)]
 rfl
theorem gP (a:Int) (t:Tok) (l:Addr) (items:Array Value) (n:Nat) (dd:Option Addr) (sl:Array (Option Value)):
  Meets (Builtin.«int.__rmul__» ⟨[.int a t,.ref l],[]⟩) (fun _ R s=>s.heap.get? l=some { cls:=.type "tuple",dict:=dd,data:=.seq items n,slots:=sl }∧R (.ok (.ret Value.notImplemented)) s):=
 .of_wp fun prog w A R s h=>by obtain ⟨hp,g,d,tk,os⟩:=s;obtain ⟨hl,h⟩:=h;wp_walk;exact ⟨_,rfl,h⟩
theorem qW (l:Addr) (items:Array Value) (n:Nat) (x:Int) (u:Tok) (dd:Option Addr) (sl:Array (Option Value)) (h0:(decide (x< -(2^63))||decide (x≥2^63))=false) (h1:(items.isEmpty||x==1)=true):
  Meets (Builtin.«tuple.__mul__» ⟨[.ref l,.int x u],[]⟩) (fun _ R s=>s.heap.get? l=some { cls:=.type "tuple",dict:=dd,data:=.seq items n,slots:=sl }∧R (.ok (.ret (.ref l))) s):=
 .of_wp fun prog w A R s h=>by obtain ⟨hp,g,d,tk,os⟩:=s;obtain ⟨hl,h⟩:=h;have f1:=AutoSeq1.idx_int;have f2:=AutoSeq1.sub_tuple_tuple;wp_walk using wpAny_loadPart' hl;refine wpAny_ite_false (decide_eq_false (by rw [h0];decide)) ?_;wp_walk using wpAny_loadPart' hl;exact ⟨_,rfl,h⟩
theorem ri (l:Addr) (items:Array Value) (n:Nat) (x:Int) (u:Tok) (dd:Option Addr) (sl:Array (Option Value)) (h0:(decide (x< -(2^63))||decide (x≥2^63))=false) (h1:(items.isEmpty||x==1)=false)
  (h2:(decide (x≤0)||items.isEmpty)=false) (h3:¬ ((items.size:Int)*x>(2^63 - 1)/8)) (h4:¬ Builtin.Tuple.tupleTooMany (items.size*x)=true) (h5:(List.foldl (fun x1 x2=>x1++x2) #[] (List.replicate x.toNat items)).size≤sizeLine):
  Meets (Builtin.«tuple.__mul__» ⟨[.ref l,.int x u],[]⟩) (fun _ R s=>s.heap.get? l=some { cls:=.type "tuple",dict:=dd,data:=.seq items n,slots:=sl }∧R (.ok (.ret (Value.ref s.heap.objs.size))) { s with heap:=s.heap.push { cls:=Value.type "tuple",data:=Data.seq (List.foldl (fun x1 x2=>x1++x2) #[] (List.replicate x.toNat items)) },toks:=s.toks }):=
 .of_wp fun prog w A R s h=>by obtain ⟨hp,g,d,tk,os⟩:=s;obtain ⟨hl,h⟩:=h;have f1:=AutoSeq1.idx_int;have f2:=AutoSeq1.sub_tuple_tuple;wp_walk using wpAny_loadPart' hl;refine wpAny_ite_false (decide_eq_false (by rw [h0];decide)) ?_;wp_walk using wpAny_loadPart' hl;refine wpAny_ite_false (decide_eq_false h3) ?_;wp_walk using wpAny_loadPart' hl;exact ⟨_,rfl,h⟩
end HT
namespace L2
open PySem PySem.Spec PyProof.Rows
section
variable {X:Cx}
def wF:R2:=fun x y H Q=>∃ a k xs,x=.ref a∧y=.int k∧H a=some (.tup xs)∧xs≠[]∧1≤k∧k≤1000∧xs.length≤1000∧∀ p H',ar H H'→H' p=some (.tup (List.replicate k.toNat xs).flatten)→Q (.ref p) H'
theorem xM : OpR X (binaryOp .Mult) wF := by
 intro pins s σ H x y v u Q I rx ry h
 obtain ⟨a, k, xs, rfl, rfl, ha, hne, k1, k2, hl, q⟩ := h
 cases rx
 obtain ⟨t, rfl⟩ := ry
 obtain ⟨its, r, p1, hz⟩ := I.tuple (.inl (.inl ha))
 have hlen : its.length = xs.length := r.length.symm
 have hits : its ≠ [] := fun z => hne (r.nil_iff.mp z)
 obtain ⟨⟨cls, dd, data, sl⟩, ho, hc, n, hd⟩ := id p1
 simp only at hc hd
 subst hc hd
 have h0 : (decide (k < -(2 ^ 63)) || decide (k ≥ 2 ^ 63)) = false := by rw [decide_eq_false (by omega), decide_eq_false (by omega)]; rfl
 have hemp : its.toArray.isEmpty = false := by cases its with | nil => exact (hits rfl).elim | cons _ _ => rfl
 by_cases e : k = 1
 · subst e
   refine PySem.wpAny_binaryOp_repeat_ref (T := "tuple") (U := "int") (by decide) ⟨_, ho, rfl⟩ (fun s' => typeIs_int s' 1 t) HT.gm F.fills_int_mul F.slot_int_rmul HT.iY F.slot_int_index.lookup
     (call_meets F.slot_int_rmul (typeIs_int s 1 t) F.entry_int_rmul (F.args_int_rmul_2 _ _) (HT.gP 1 t a its.toArray n dd sl)
      ⟨ho, rfl, ⟨_, ho, rfl⟩, call_meets F.slot_tuple_mul ⟨_, ho, rfl⟩ F.entry_tuple_mul (F.args_tuple_mul_2 _ _) (HT.qW a its.toArray n 1 t dd sl h0 (by rw [hemp]; rfl)) ⟨ho, ?_⟩⟩)
   exact ⟨.ref a, H, I, rfl, q a H ar.rfl' (by rw [ha]; simp)⟩
 · have hsz : its.length * k.toNat ≤ 1000000 := Nat.le_trans (Nat.mul_le_mul (by omega : its.length ≤ 1000) (by omega : k.toNat ≤ 1000)) (by decide)
   have hszI : ((its.toArray.size : Nat) : Int) * k ≤ 1000000 := by
     have e1 : ((its.length * k.toNat : Nat) : Int) = (its.length : Int) * k := by rw [Int.natCast_mul, Int.toNat_of_nonneg (by omega)]
     rw [List.size_toArray, ← e1]; omega
   have hnew : List.foldl (fun x1 x2 => x1 ++ x2) #[] (List.replicate k.toNat its.toArray) = (List.replicate k.toNat its).flatten.toArray := by
     have := lB its k.toNat []
     rw [List.nil_append] at this
     exact this
   refine PySem.wpAny_binaryOp_repeat_ref (T := "tuple") (U := "int") (by decide) ⟨_, ho, rfl⟩ (fun s' => typeIs_int s' k t) HT.gm F.fills_int_mul F.slot_int_rmul HT.iY F.slot_int_index.lookup
     (call_meets F.slot_int_rmul (typeIs_int s k t) F.entry_int_rmul (F.args_int_rmul_2 _ _) (HT.gP k t a its.toArray n dd sl)
      ⟨ho, rfl, ⟨_, ho, rfl⟩, call_meets F.slot_tuple_mul ⟨_, ho, rfl⟩ F.entry_tuple_mul (F.args_tuple_mul_2 _ _) (HT.ri a its.toArray n k t dd sl h0 (by rw [hemp]; simp [e]) (by rw [hemp, decide_eq_false (by omega)]; rfl) (by omega) ?_ ?_) ⟨ho, ?_⟩⟩)
   · unfold Builtin.Tuple.tupleTooMany
     rw [sizeLine_eq]
     simp only [gt_iff_lt, decide_eq_true_eq]
     omega
   · rw [hnew, List.size_toArray, pJ, Nat.mul_comm]
     exact be hsz
   · rw [hnew]
     refine ⟨.ref s.heap.objs.size, _, I.laid (t' := s.toks) (o := .tup (List.replicate k.toNat xs).flatten) (fun b ob q => Heap.get?_push_of_some _ q) (Nat.le_refl _) ?_, rfl, q _ _ (ar.upd (I.hok.fresh (Nat.le_refl _))) ao⟩
     exact ⟨by rw [pJ, ← hlen, Nat.mul_comm]; exact be hsz, _, r.rep k.toNat, IsTup.new _ _⟩
def bA:R2:=fun x y H Q=>match x,y with
 | .str z,.int n=>(-1000≤n∧n≤1000∧z.length≤1000)∧Q (.str (Txt.mul z n)) H
 | .ref a,.int n=>wF (.ref a) (.int n) H Q
 | x,y=>vU x y H Q
theorem bI:OpR X (binaryOp .Mult) bA:=(xG.or (xM.or Gh)).imp fun x y H Q q=>by
 unfold bA at q
 split at q
 · exact .inl ⟨_,_,rfl,rfl,q.1,q.2⟩
 · exact .inr (.inl q)
 · exact .inr (.inr q)
end
section
variable {X:Cx}
theorem Bz:OpR X (compareOp .Is) (fun x y H Q=>∃ b c,x=.bl b∧y=.bl c∧Q (.bl (decide (b=c))) H):=by
 intro pins s σ H x y v u Q I rx ry h
 obtain ⟨b,c,rfl,rfl,q⟩:=h
 cases rx
 cases ry
 refine wpAny_is_plain (by rfl) (bB I q ?_)
 cases b <;> cases c <;> rfl
theorem sP:OpR X (compareOp .IsNot) (fun x y H Q=>∃ b c,x=.bl b∧y=.bl c∧Q (.bl (!decide (b=c))) H):=by
 intro pins s σ H x y v u Q I rx ry h
 obtain ⟨b,c,rfl,rfl,q⟩:=h
 cases rx
 cases ry
 refine wpAny_isNot_plain (by rfl) (bB I q ?_)
 cases b <;> cases c <;> rfl
def uF:R2:=fun x y H Q=>match x,y with
 | .bl b,.bl c=>Q (.bl (decide (b=c))) H
 | x,y=>uL x y H Q
theorem FN:OpR X (compareOp .Is) uF:=(Bz.or oIs).imp fun x y H Q q=>by
 unfold uF at q
 split at q
 · exact .inl ⟨_,_,rfl,rfl,q⟩
 · exact .inr q
def mC:R2:=fun x y H Q=>match x,y with
 | .bl b,.bl c=>Q (.bl (!decide (b=c))) H
 | x,y=>qx x y H Q
theorem pB:OpR X (compareOp .IsNot) mC:=(sP.or AK).imp fun x y H Q q=>by
 unfold mC at q
 split at q
 · exact .inl ⟨_,_,rfl,rfl,q⟩
 · exact .inr q
theorem tL {x y:Str} {px py ep pos:Pos} {ek:Nat} {e:Expr} {te:TE} (i j:Nat) (hN:X.N.Nodup) (hc:X.calm=true) (he:QE X e te) (hi:X.N[i]?=some x:=by rfl) (hj:X.N[j]?=some y:=by rfl)
  (hx:Loc X.env.scope x:=by first | exact .inl rfl | exact .inr rfl) (hy:Loc X.env.scope y:=by first | exact .inl rfl | exact .inr rfl)
  (fx:X.fn x=true∨X.env.scope.names.lookup x=some .local:=by first | exact .inl rfl | exact .inr rfl) (fy:X.fn y=true∨X.env.scope.names.lookup y=some .local:=by first | exact .inl rfl | exact .inr rfl)
  (hs:swapsWithSole [.Tuple [.Name x px,.Name y py] ek ep] e pos.line X.env=pure false:=by rfl) (hw:swappedStores [.Tuple [.Name x px,.Name y py] ek ep] e X.env=pure none:=by rfl):
  QS X (.Assign [.Tuple [.Name x px,.Name y py] ek ep] e pos) (aB te (qS X.K 2 (iG (ay i) (iG (ay j) qq)))):=
 ⟨BQ he.out (yL hc (nh (kU hN hi hx fx) (nh (kU hN hj hy fy) yc))) hs hw⟩
end
end L2
namespace HT
open PySem PyProof.Rows
theorem sub_tuple_dict:isSubtype (.type "tuple") (.type "dict")=pure false:=by rw [isSubtype_type];kernel_rfl
theorem lp:isSubtype (.type "dict") (.type "tuple")=pure false:=by rw [isSubtype_type];kernel_rfl
theorem qh (l b:Addr) (o:Obj) (hc:o.cls=.type "dict") (o2:Obj) (hc2:o2.cls=.type "tuple"):
  Meets (Builtin.«dict.__eq__» ⟨[.ref l,.ref b],[]⟩) (fun _ R s=>s.heap.get? l=some o∧s.heap.get? b=some o2∧R (.ok (.ret .notImplemented)) s):=
 .of_wp fun prog w A R s h=>by
  obtain ⟨hp,g,d,tk,os⟩:=s;obtain ⟨hl,hb,h⟩:=h;obtain ⟨cls,dd,data,sl⟩:=o;obtain ⟨cls2,dd2,data2,sl2⟩:=o2
  simp only at hc hc2;subst hc hc2
  have f1:=sub_tuple_dict;wp_walk using wpAny_loadPart' hl,wpAny_loadPart' hb;exact ⟨_,rfl,h⟩
theorem oH (l b:Addr) (o:Obj) (hc:o.cls=.type "tuple") (o2:Obj) (hc2:o2.cls=.type "dict"):
  Meets (Builtin.«tuple.__eq__» ⟨[.ref l,.ref b],[]⟩) (fun _ R s=>s.heap.get? l=some o∧s.heap.get? b=some o2∧R (.ok (.ret .notImplemented)) s):=
 .of_wp fun prog w A R s h=>by
  obtain ⟨hp,g,d,tk,os⟩:=s;obtain ⟨hl,hb,h⟩:=h;obtain ⟨cls,dd,data,sl⟩:=o;obtain ⟨cls2,dd2,data2,sl2⟩:=o2
  simp only at hc hc2;subst hc hc2
  have f1:=lp;wp_walk using wpAny_loadPart' hl,wpAny_loadPart' hb;exact ⟨_,rfl,h⟩
end HT
namespace L2
open PySem PySem.Spec PyProof.Rows
section
variable {X:Cx}
def wI (K:W.Frag):R2:=fun x y H Q=>∃ a b ys,x=.ref a∧y=.ref b∧((∃ kvs,H a=some (.dK kvs))∨∃ kvs,H a=some (.dT kvs))∧SqT K H b ys∧Q (.bl false) H
theorem xF (hu:X.A.units<cLine):OpR X (compareOp .Eq) (wI X.K):=by
 intro pins s σ H x y v u Q I rx ry h
 obtain ⟨a,b,ys,rfl,rfl,ha,hb,q⟩:=h
 cases rx
 cases ry
 obtain ⟨its,_,p1,_⟩:=I.tuple hb
 obtain ⟨o2,ho2,hc2,_⟩:=id p1
 obtain ⟨o,ho,hc⟩:∃ o,s.heap.get? a=some o∧o.cls=.type "dict" :=by
  rcases ha with ⟨kvs,e⟩ | ⟨kvs,e⟩
  · obtain ⟨_,_,_,_,o,_,_,h1,h2,_⟩:=(show bu X.prog X.w H s.heap a (.dK kvs) from I.hok a _ e)
    exact ⟨o,h1,h2.1⟩
  · obtain ⟨_,_,_,_,o,_,_,h1,h2,_⟩:=(show bu X.prog X.w H s.heap a (.dT kvs) from I.hok a _ e)
    exact ⟨o,h1,h2.1⟩
 have hne:a≠b:=fun e=>by
  subst e
  rw [ho] at ho2;cases ho2
  rw [hc] at hc2;exact absurd hc2 (by simp)
 show wpAny _ _ (richCompare .Eq (.ref a) (.ref b)) _ _ s
 exact SeqAt.rc_eq_decline_or (k:=false) ⟨_,ho,hc⟩ ⟨_,ho2,hc2⟩ (by decide) F.sub_tuple_dict F.slot_dict_eq F.slot_tuple_eq_refl
  (fun _ hq=>call_meets F.slot_dict_eq ⟨_,ho,hc⟩ F.entry_dict_eq (F.args_dict_eq_2 _ _) (HT.qh a b o hc o2 hc2) ⟨ho,ho2,hq⟩)
  (fun _ hq=>call_meets F.slot_tuple_eq_refl ⟨_,ho2,hc2⟩ F.entry_tuple_eq (F.args_tuple_eq_2 _ _) (HT.oH b a o2 hc2 o hc) ⟨ho2,ho,hq⟩)
  (fun _ hq=>wpAny_isSame_ref_other hne ho ho2 (by rw [hc];simp) hq) (.inr hu) ⟨.bl false,H,I,rfl,q⟩
def bC (K:W.Frag):R2:=fun x y H Q=>match x,y with
 | .ref a,.ref b=>AU K (.ref a) (.ref b) H Q∨nk K (.ref a) (.ref b) H Q∨wI K (.ref a) (.ref b) H Q
 | .ref a,y=>nk K (.ref a) y H Q
 | x,.ref b=>nk K x (.ref b) H Q
 | x,y=>mEq x y H Q
theorem bJ (hu:X.A.units+150<cLine):OpR X (compareOp .Eq) (bC X.K):=((Aa (by omega)).or ((yP hu).or ((xF (by omega)).or oEq))).imp fun x y H Q q=>by
 unfold bC at q
 split at q
 · exact q.elim .inl fun z=>z.elim (fun z=> .inr (.inl z)) fun z=> .inr (.inr (.inl z))
 · exact .inr (.inl q)
 · exact .inr (.inl q)
 · exact .inr (.inr (.inr q))
end
section
variable {X:Cx} {a:Expr} {t:TA} {p pos:Pos} {tg:Expr}
def pS:List V→Hp→VK→Prop:=fun xs H Q=>match xs with | [.int i,.int j]=>Q (.int (if j>i then j else i)) H | _=>False
theorem zN (hc:X.calm=true):bU X (.builtin "max") pS:=fun pins s σ H xs us Q I r q=>by
 unfold pS at q
 split at q
 · exact rP hc pins s σ H _ us Q I r ⟨_,_,rfl,q⟩
 · exact q.elim
theorem nV : ∀ {ns : List Int} {its : List Value}, bo (ns.map V.int) its → PyProof.Rows.IntsAre its ns
  | [], its, h => by cases h; exact .nil
  | n :: r, its, h => by
    cases h with
    | cons h1 h2 =>
      obtain ⟨t, rfl⟩ := h1
      exact .cons _ _ (nV h2)
def zl (K:W.Frag):List V→Hp→VK→Prop:=fun xs H Q=>∃ (a:Addr) (ns:List Int),xs=[.ref a]∧SqL K H a (ns.map V.int)∧Q (.int ns.sum) H
theorem FM (hc:X.calm=true):bU X (.builtin "sum") (zl X.K):=fun pins s σ H xs us Q I r h=>by
 obtain ⟨a,ns,rfl,hq,q⟩:=h
 obtain ⟨u,rfl,ru⟩:=iE r
 cases ru
 obtain ⟨its,rv,p,hz⟩:=I.list hq
 have hi:=nV rv
 obtain ⟨ys,hy⟩:=hi.allInts.items
 have hl':s.heap.IsList a (intItems ys):=hy▸nA p
 refine sum_intListG (I.ok.hd hc) hl' fun h' tk t' hk=>?_
 have e1:ns=ys.toList.map (·.1):=by
  rw [← nums_intItems,←hy]
  exact (show numsOf its.toArray.toList=ns from hi.numsOf).symm
 have e2:preSum (numAt ys) ys.size=ns.sum:=by
  rw [preSum_eq,List.take_of_length_le (by simp),e1]
 rw [e2]
 exact ⟨.int ns.sum,H,I.kept (t':=tk) hk,⟨_,rfl⟩,q⟩
theorem vj:OpR X (binaryOp .FloorDiv) (rI (fun _ j=>0<j∧j<1267650600228229401496703205376) fun i j=> .int (i/j)):=opI fun i j _ _ _ _ _ hc q=>by
 have h1:(0:Int)<j:=hc.1
 have h2:j<1267650600228229401496703205376:=hc.2
 have h3:j.natAbs.log2<100:=(Nat.log2_lt (by omega)).mpr (Nat.lt_of_lt_of_eq (m:=1267650600228229401496703205376) (by omega) (by decide))
 exact floordiv_int (by omega) (by rw [Int.fdiv_eq_ediv_of_nonneg i (by omega)];exact q) (.inl (PyProof.noPylong_of_log2 (by omega)))
def cg:R2:=fun x y H Q=>match x,y with | .int i,.int j=>(0<j∧j<1267650600228229401496703205376)∧Q (.int (i/j)) H | _,_=>False
theorem cF:OpR X (binaryOp .FloorDiv) cg:=vj.imp fun x y H Q q=>by
 unfold cg at q
 split at q
 · exact ⟨_,_,rfl,rfl,q.1,q.2⟩
 · exact q.elim
end
section
variable {α:Type} {l:List α}
theorem Ce (h:l.length=0):l=[]:=List.length_eq_zero_iff.mp h
theorem jX (h : l.length = 1) : ∃ a0, l = [a0] := by
  cases l with
  | nil => simp at h
  | cons a l =>
    obtain rfl := Ce (l := l) (by simpa using h)
    exact ⟨a, rfl⟩
theorem wf (h : l.length = 2) : ∃ a0 a1, l = [a0, a1] := by
  cases l with
  | nil => simp at h
  | cons a l =>
    obtain ⟨b0, rfl⟩ := jX (l := l) (by simpa using h)
    exact ⟨a, b0, rfl⟩
theorem wZ (h : l.length = 3) : ∃ a0 a1 a2, l = [a0, a1, a2] := by
  cases l with
  | nil => simp at h
  | cons a l =>
    obtain ⟨b0, b1, rfl⟩ := wf (l := l) (by simpa using h)
    exact ⟨a, b0, b1, rfl⟩
theorem wk (h : l.length = 4) : ∃ a0 a1 a2 a3, l = [a0, a1, a2, a3] := by
  cases l with
  | nil => simp at h
  | cons a l =>
    obtain ⟨b0, b1, b2, rfl⟩ := wZ (l := l) (by simpa using h)
    exact ⟨a, b0, b1, b2, rfl⟩
theorem wq (h : l.length = 5) : ∃ a0 a1 a2 a3 a4, l = [a0, a1, a2, a3, a4] := by
  cases l with
  | nil => simp at h
  | cons a l =>
    obtain ⟨b0, b1, b2, b3, rfl⟩ := wk (l := l) (by simpa using h)
    exact ⟨a, b0, b1, b2, b3, rfl⟩
theorem wA (h : l.length = 6) : ∃ a0 a1 a2 a3 a4 a5, l = [a0, a1, a2, a3, a4, a5] := by
  cases l with
  | nil => simp at h
  | cons a l =>
    obtain ⟨b0, b1, b2, b3, b4, rfl⟩ := wq (l := l) (by simpa using h)
    exact ⟨a, b0, b1, b2, b3, b4, rfl⟩
theorem xa (h : l.length = 7) : ∃ a0 a1 a2 a3 a4 a5 a6, l = [a0, a1, a2, a3, a4, a5, a6] := by
  cases l with
  | nil => simp at h
  | cons a l =>
    obtain ⟨b0, b1, b2, b3, b4, b5, rfl⟩ := wA (l := l) (by simpa using h)
    exact ⟨a, b0, b1, b2, b3, b4, b5, rfl⟩
end
theorem bE.le {A:Around} {m n:Nat} (h:bE m A) (d:n≤m:=by first | decide | omega):bE n A:=h.mono d
theorem scF {N P:List Str} {sc:Scope} (h1:sc.kind=.function:=by rfl) (h2:sc.isCoroutine=false:=by rfl) (h3:sc.isGenerator=false:=by rfl) (h4:N.Nodup:=by decide +kernel) (h5:N.take P.length=P:=by rfl)
 (h6:∀ x∈P,sc.names.lookup x=some .local∨sc.names.lookup x=some .cell:=by decide +kernel) (h7:∀ y∈sc.names,y.2≠ .free:=by decide +kernel):aL N P sc:=⟨h1,h2,h3,h4,h5,h6,h7⟩
structure Fm (K:W.Frag) (mg:Str→Option Value) (x qual:Str) (st:Stmt) (a:Addr) (d:FuncData) (ps:List Str):Prop where
 f:Fun K x qual st a d
 m:mg x=some (.ref a)
 b:dc K d ps []
structure Fa (K:W.Frag) (x qual:Str) (st:Stmt) (a:Addr) (d:FuncData):Prop where
 m:W.nsIn K mainGlobals x=some (some (.ref a))
 f:Fun K x qual st a d
section
variable {P:Program} {w:World} {K:W.Frag} {mg:Str→Option Value} {base h:Heap} {x qual:Str} {st:Stmt} {a:Addr} {d:FuncData} {ps:List Str}
theorem bh {oc:Value} {od an:Option Addr} {osl:Array (Option Value)} {kV doc pm cdv ct:Value} (m:W.nsIn K mainGlobals x=some (some (.ref a))) (l:K.lookup a=some ⟨oc,od,.func (W.fnOf x qual (bP st) (bi st) (ap st) .none kV doc pm an cdv ct),osl⟩)
 (c:W.codeIn K cdv qual=true) (k:W.keepIn K (.ref a)=true):Fa K x qual st a (W.fnOf x qual (bP st) (bi st) (ap st) .none kV doc pm an cdv ct):=⟨m,nH l c k⟩
theorem Fa.code (F:Fa K x qual st a d) (X:K.In h) (G:h.Ns mainGlobals mg) {z t:Addr} (ht:W.tabIn K x=some (z,t)):d.code=.ref z:=by
 obtain ⟨oc,od,kV,doc,pm,an,cdv,ct,osl,e,lk,hcd⟩:=F.f.ex
 exact W.law_code X G ht (W.mg_of X G F.m) (X _ _ lk) rfl
theorem Fun.bt {p:Str} (F:Fun K x qual st a d) (hb:∀ (kV doc pm:Value) (an:Option Addr) (cdv ct v:Value),bindArgs (W.fnOf x qual (bP st) (bi st) (ap st) .none kV doc pm an cdv ct) ⟨[v],[]⟩=pure [(p,v)]:=by intros;rfl) (s:Shared) (v:Value):BindsTo s d ⟨[v],[]⟩ [(p,v)]:=by
 obtain ⟨oc,od,kV,doc,pm,an,cdv,ct,osl,rfl,lk,hcd⟩:=F.ex
 exact .of_eq (hb kV doc pm an cdv ct v)
theorem Fun.b1 {p0:Str} (F:Fun K x qual st a d) (hb:∀ (kV doc pm:Value) (an:Option Addr) (cdv ct u0:Value),bindArgs (W.fnOf x qual (bP st) (bi st) (ap st) .none kV doc pm an cdv ct) ⟨[u0],[]⟩=pure (List.zip [p0] [u0]):=by intros;rfl):dc K d [p0] []:=F.binds fun kV doc pm an cdv ct us hl=>by
 obtain ⟨u0,rfl⟩:=L2.jX hl
 exact hb kV doc pm an cdv ct u0
theorem Fa.fm1 {p0:Str} (F:Fa K x qual st a d) (X:K.In h) (G:h.Ns mainGlobals mg) (hb:∀ (kV doc pm:Value) (an:Option Addr) (cdv ct u0:Value),bindArgs (W.fnOf x qual (bP st) (bi st) (ap st) .none kV doc pm an cdv ct) ⟨[u0],[]⟩=pure (List.zip [p0] [u0]):=by intros;rfl):Fm K mg x qual st a d [p0]:=⟨F.f,W.mg_of X G F.m,F.f.b1 hb⟩
theorem Fun.b2 {p0 p1:Str} (F:Fun K x qual st a d) (hb:∀ (kV doc pm:Value) (an:Option Addr) (cdv ct u0 u1:Value),bindArgs (W.fnOf x qual (bP st) (bi st) (ap st) .none kV doc pm an cdv ct) ⟨[u0,u1],[]⟩=pure (List.zip [p0,p1] [u0,u1]):=by intros;rfl):dc K d [p0,p1] []:=F.binds fun kV doc pm an cdv ct us hl=>by
 obtain ⟨u0,u1,rfl⟩:=L2.wf hl
 exact hb kV doc pm an cdv ct u0 u1
theorem Fa.fm2 {p0 p1:Str} (F:Fa K x qual st a d) (X:K.In h) (G:h.Ns mainGlobals mg) (hb:∀ (kV doc pm:Value) (an:Option Addr) (cdv ct u0 u1:Value),bindArgs (W.fnOf x qual (bP st) (bi st) (ap st) .none kV doc pm an cdv ct) ⟨[u0,u1],[]⟩=pure (List.zip [p0,p1] [u0,u1]):=by intros;rfl):Fm K mg x qual st a d [p0,p1]:=⟨F.f,W.mg_of X G F.m,F.f.b2 hb⟩
theorem Fun.b3 {p0 p1 p2:Str} (F:Fun K x qual st a d) (hb:∀ (kV doc pm:Value) (an:Option Addr) (cdv ct u0 u1 u2:Value),bindArgs (W.fnOf x qual (bP st) (bi st) (ap st) .none kV doc pm an cdv ct) ⟨[u0,u1,u2],[]⟩=pure (List.zip [p0,p1,p2] [u0,u1,u2]):=by intros;rfl):dc K d [p0,p1,p2] []:=F.binds fun kV doc pm an cdv ct us hl=>by
 obtain ⟨u0,u1,u2,rfl⟩:=L2.wZ hl
 exact hb kV doc pm an cdv ct u0 u1 u2
theorem Fa.fm3 {p0 p1 p2:Str} (F:Fa K x qual st a d) (X:K.In h) (G:h.Ns mainGlobals mg) (hb:∀ (kV doc pm:Value) (an:Option Addr) (cdv ct u0 u1 u2:Value),bindArgs (W.fnOf x qual (bP st) (bi st) (ap st) .none kV doc pm an cdv ct) ⟨[u0,u1,u2],[]⟩=pure (List.zip [p0,p1,p2] [u0,u1,u2]):=by intros;rfl):Fm K mg x qual st a d [p0,p1,p2]:=⟨F.f,W.mg_of X G F.m,F.f.b3 hb⟩
theorem Fun.b4 {p0 p1 p2 p3:Str} (F:Fun K x qual st a d) (hb:∀ (kV doc pm:Value) (an:Option Addr) (cdv ct u0 u1 u2 u3:Value),bindArgs (W.fnOf x qual (bP st) (bi st) (ap st) .none kV doc pm an cdv ct) ⟨[u0,u1,u2,u3],[]⟩=pure (List.zip [p0,p1,p2,p3] [u0,u1,u2,u3]):=by intros;rfl):dc K d [p0,p1,p2,p3] []:=F.binds fun kV doc pm an cdv ct us hl=>by
 obtain ⟨u0,u1,u2,u3,rfl⟩:=L2.wk hl
 exact hb kV doc pm an cdv ct u0 u1 u2 u3
theorem Fa.fm4 {p0 p1 p2 p3:Str} (F:Fa K x qual st a d) (X:K.In h) (G:h.Ns mainGlobals mg) (hb:∀ (kV doc pm:Value) (an:Option Addr) (cdv ct u0 u1 u2 u3:Value),bindArgs (W.fnOf x qual (bP st) (bi st) (ap st) .none kV doc pm an cdv ct) ⟨[u0,u1,u2,u3],[]⟩=pure (List.zip [p0,p1,p2,p3] [u0,u1,u2,u3]):=by intros;rfl):Fm K mg x qual st a d [p0,p1,p2,p3]:=⟨F.f,W.mg_of X G F.m,F.f.b4 hb⟩
theorem Fun.b5 {p0 p1 p2 p3 p4:Str} (F:Fun K x qual st a d) (hb:∀ (kV doc pm:Value) (an:Option Addr) (cdv ct u0 u1 u2 u3 u4:Value),bindArgs (W.fnOf x qual (bP st) (bi st) (ap st) .none kV doc pm an cdv ct) ⟨[u0,u1,u2,u3,u4],[]⟩=pure (List.zip [p0,p1,p2,p3,p4] [u0,u1,u2,u3,u4]):=by intros;rfl):dc K d [p0,p1,p2,p3,p4] []:=F.binds fun kV doc pm an cdv ct us hl=>by
 obtain ⟨u0,u1,u2,u3,u4,rfl⟩:=L2.wq hl
 exact hb kV doc pm an cdv ct u0 u1 u2 u3 u4
theorem Fa.fm5 {p0 p1 p2 p3 p4:Str} (F:Fa K x qual st a d) (X:K.In h) (G:h.Ns mainGlobals mg) (hb:∀ (kV doc pm:Value) (an:Option Addr) (cdv ct u0 u1 u2 u3 u4:Value),bindArgs (W.fnOf x qual (bP st) (bi st) (ap st) .none kV doc pm an cdv ct) ⟨[u0,u1,u2,u3,u4],[]⟩=pure (List.zip [p0,p1,p2,p3,p4] [u0,u1,u2,u3,u4]):=by intros;rfl):Fm K mg x qual st a d [p0,p1,p2,p3,p4]:=⟨F.f,W.mg_of X G F.m,F.f.b5 hb⟩
theorem Fun.b6 {p0 p1 p2 p3 p4 p5:Str} (F:Fun K x qual st a d) (hb:∀ (kV doc pm:Value) (an:Option Addr) (cdv ct u0 u1 u2 u3 u4 u5:Value),bindArgs (W.fnOf x qual (bP st) (bi st) (ap st) .none kV doc pm an cdv ct) ⟨[u0,u1,u2,u3,u4,u5],[]⟩=pure (List.zip [p0,p1,p2,p3,p4,p5] [u0,u1,u2,u3,u4,u5]):=by intros;rfl):dc K d [p0,p1,p2,p3,p4,p5] []:=F.binds fun kV doc pm an cdv ct us hl=>by
 obtain ⟨u0,u1,u2,u3,u4,u5,rfl⟩:=L2.wA hl
 exact hb kV doc pm an cdv ct u0 u1 u2 u3 u4 u5
theorem Fa.fm6 {p0 p1 p2 p3 p4 p5:Str} (F:Fa K x qual st a d) (X:K.In h) (G:h.Ns mainGlobals mg) (hb:∀ (kV doc pm:Value) (an:Option Addr) (cdv ct u0 u1 u2 u3 u4 u5:Value),bindArgs (W.fnOf x qual (bP st) (bi st) (ap st) .none kV doc pm an cdv ct) ⟨[u0,u1,u2,u3,u4,u5],[]⟩=pure (List.zip [p0,p1,p2,p3,p4,p5] [u0,u1,u2,u3,u4,u5]):=by intros;rfl):Fm K mg x qual st a d [p0,p1,p2,p3,p4,p5]:=⟨F.f,W.mg_of X G F.m,F.f.b6 hb⟩
theorem Fun.b7 {p0 p1 p2 p3 p4 p5 p6:Str} (F:Fun K x qual st a d) (hb:∀ (kV doc pm:Value) (an:Option Addr) (cdv ct u0 u1 u2 u3 u4 u5 u6:Value),bindArgs (W.fnOf x qual (bP st) (bi st) (ap st) .none kV doc pm an cdv ct) ⟨[u0,u1,u2,u3,u4,u5,u6],[]⟩=pure (List.zip [p0,p1,p2,p3,p4,p5,p6] [u0,u1,u2,u3,u4,u5,u6]):=by intros;rfl):dc K d [p0,p1,p2,p3,p4,p5,p6] []:=F.binds fun kV doc pm an cdv ct us hl=>by
 obtain ⟨u0,u1,u2,u3,u4,u5,u6,rfl⟩:=L2.xa hl
 exact hb kV doc pm an cdv ct u0 u1 u2 u3 u4 u5 u6
theorem Fa.fm7 {p0 p1 p2 p3 p4 p5 p6:Str} (F:Fa K x qual st a d) (X:K.In h) (G:h.Ns mainGlobals mg) (hb:∀ (kV doc pm:Value) (an:Option Addr) (cdv ct u0 u1 u2 u3 u4 u5 u6:Value),bindArgs (W.fnOf x qual (bP st) (bi st) (ap st) .none kV doc pm an cdv ct) ⟨[u0,u1,u2,u3,u4,u5,u6],[]⟩=pure (List.zip [p0,p1,p2,p3,p4,p5,p6] [u0,u1,u2,u3,u4,u5,u6]):=by intros;rfl):Fm K mg x qual st a d [p0,p1,p2,p3,p4,p5,p6]:=⟨F.f,W.mg_of X G F.m,F.f.b7 hb⟩
theorem Fun.okS {CX:CXT} {N:List Str} {k:Nat} {sp:Sp} {t:TS} (F:Fun K x qual st a d) (S:aL N ps (ap st)) (len:∀ vs H Q E,sp vs H Q E→vs.length=ps.length)
  (hrd:∀ (vs:List V) (H:Hp) (Q:VK) (E:XK),sp vs H Q E→t { nx:=fun _ H'=>Q .non H',rt:=Q } (cq N vs) H)
  (hq:∀ (cdv:Value) (A:Around) (outer:List Env) (s:Shared) (H:Hp) (E:XK),bE k (A.deeper (envOfC qual (ap st) s.heap.objs.size a cdv))→QSs (cS CX P w K mg base N qual (ap st) a cdv A outer s H E).nox (bi st) t):bg P w K mg base CX (k+1) a d ps sp:=
 F.okN S len fun cdv A outer s H vs Q E hr h=>⟨t,(hq cdv A outer s H E hr).out,hrd vs H Q E h⟩
end
section
variable {X:Cx} {x q:Str} {e:Expr} {es:List Expr} {t:TA} {p pos:Pos} {st:Stmt} {f:Addr} {fd:FuncData} {ps:List Str} {k:Nat} {sp:Sp}
theorem aT {P:Program} {w:World} (F:bg X.prog X.w X.K X.mg X.base (CX1 P w) k f fd ps sp) (hr:bE k X.A) (M:Fm X.K X.mg x q st f fd ps)
 (ha:QA X (e::es) t) (hg:Gl X x:=by rfl) (hdb:(x==("__debug__" :Str))=false:=by decide) (hs:bV (e::es)=true:=by rfl):QE X (.Call (.Name x p) (e::es) [] pos) (ax sp (fun _=>E0) t):=cP F hr M.m M.f.kp M.b jy ha hg hdb hs
end
theorem DP {α : Type} {l : List α} (h : l.length = 8) : ∃ a0 a1 a2 a3 a4 a5 a6 a7, l = [a0, a1, a2, a3, a4, a5, a6, a7] := by
  cases l with
  | nil => cases h
  | cons a r =>
    obtain ⟨a1, a2, a3, a4, a5, a6, a7, rfl⟩ := xa (l := r) (Nat.succ.inj h)
    exact ⟨_, _, _, _, _, _, _, _, rfl⟩
section
variable {K:W.Frag} {mg:Str→Option Value} {h:Heap} {x qual:Str} {st:Stmt} {a:Addr} {d:FuncData}
theorem Fun.b8 {p0 p1 p2 p3 p4 p5 p6 p7:Str} (F:Fun K x qual st a d) (hb:∀ (kV doc pm:Value) (an:Option Addr) (cdv ct u0 u1 u2 u3 u4 u5 u6 u7:Value),bindArgs (W.fnOf x qual (bP st) (bi st) (ap st) .none kV doc pm an cdv ct) ⟨[u0,u1,u2,u3,u4,u5,u6,u7],[]⟩=pure (List.zip [p0,p1,p2,p3,p4,p5,p6,p7] [u0,u1,u2,u3,u4,u5,u6,u7]):=by intros;rfl):dc K d [p0,p1,p2,p3,p4,p5,p6,p7] []:=F.binds fun kV doc pm an cdv ct us hl=>by
 obtain ⟨u0,u1,u2,u3,u4,u5,u6,u7,rfl⟩:=L2.DP hl
 exact hb kV doc pm an cdv ct u0 u1 u2 u3 u4 u5 u6 u7
theorem Fa.fm8 {p0 p1 p2 p3 p4 p5 p6 p7:Str} (F:Fa K x qual st a d) (X:K.In h) (G:h.Ns mainGlobals mg) (hb:∀ (kV doc pm:Value) (an:Option Addr) (cdv ct u0 u1 u2 u3 u4 u5 u6 u7:Value),bindArgs (W.fnOf x qual (bP st) (bi st) (ap st) .none kV doc pm an cdv ct) ⟨[u0,u1,u2,u3,u4,u5,u6,u7],[]⟩=pure (List.zip [p0,p1,p2,p3,p4,p5,p6,p7] [u0,u1,u2,u3,u4,u5,u6,u7]):=by intros;rfl):Fm K mg x qual st a d [p0,p1,p2,p3,p4,p5,p6,p7]:=⟨F.f,W.mg_of X G F.m,F.f.b8 hb⟩
end
end L2
namespace HT
open PySem PySem.W PyProof.Rows
abbrev jQ (C t:Addr) (d:Option Addr):Obj:={ cls:=.ref C,dict:=d,data:=.fields #[.ref t,.none,.none,.none,.bool false,.none] }
abbrev gK (h:Heap) (C:Addr) (us:List Value):Heap:=(h.push { cls:=.type "tuple",data:=.seq us.toArray }).push (jQ C h.objs.size none)
section
variable {prog:Program} {w:World} {A:Around} {K:Frag} {C f:Addr} {R:Result→Shared→Prop} {h:Heap} {g:Array GenState} {d:Drawn} {t:Nat} {os:OsState}
theorem uu {us:List Value} (X:K.In h) (hC:L2.cA K C) (hi:findIn K (.ref C) "__init__" =some (some (.ref f))) (hf:typeIn K (.ref f)=some (.type "function")) (hus:us.length≤sizeLine)
  (hq:codeAny (model prog w) (A.under (.builtin "type.__call__" ⟨.ref C::us,[]⟩)) (.call (.ref f) ⟨.ref (h.objs.size+1)::us,[]⟩) (InitBack (h.objs.size+1) R) ⟨gK h C us,g,d,t,os⟩):
  codeAny (model prog w) A (.call (.ref C) ⟨us,[]⟩) R ⟨h,g,d,t,os⟩:=by
 obtain ⟨bm,N,nm,qn,bs,hdct,sn,sub,ab,col,dd,k0,k1,k2,k3,k5,mN,oC,hN,_,T,_⟩:=L2.eG X hC
 have f1:=tc_lookup
 have f2:=tc_bind (.ref C)
 have hT:(⟨h,g,d,t,os⟩:Shared).TypeIs (.ref C) "type" :=⟨_,oC,rfl⟩
 have FB:=F.excBase_ValueError
 have hBn:(L2.veM).contains (.type "ValueError")=true:=by decide +kernel
 refine codeAny_of_tree ?_
 show wpAny _ _ (callAny (.ref C) _) _ _ _
 repeat (any_goals (first | assumption | with_reducible refine wpAny_loadPart_at oC ?_ | wp_step))
 refine ⟨rfl,?_⟩
 refine codeAny_call_builtin_at (Code.quiet_builtin _ (by decide +kernel)) entry_typeCall (wpAny_check_type_call_sub oC ?_)
 repeat (first | with_reducible refine wpAny_loadPart_at oC ?_ | with_reducible refine wpAny_madeBy_exc oC ?_ | wp_step)
 refine codeAny_call_builtin_code (Code.quiet_builtin _ FB.quiet) (wpAny_check_new_subU FB hBn T oC ?_)
 refine codeAny_exc_new_subU FB hBn FB T oC ?_ hus
 show wpAny _ _ _ _ _ _
 have k:∀ b o,h.get? b=some o→(gK h C us).get? b=some o:=fun b o e=>Heap.get?_push_of_some _ (Heap.get?_push_of_some _ e)
 have hx:(gK h C us).get? (h.objs.size+1)=some (jQ C h.objs.size none):=by heap_get
 have oC1:=k _ _ oC
 have hcC:(Value.ref C::bm).contains (.ref C)=true:=by simp
 have t1:Looks (model prog w) (gK h C us) (typeOf (.ref (h.objs.size+1))) (.ref C):=(Looks.ld hx).andThen .now
 have i1:=(looks_findIn (M:=model prog w) X hi).keeps k
 have b1:=(bind_fn (M:=model prog w) X (.ref (h.objs.size+1)) hf).keeps k
 unfold isInstance
 repeat (first | with_reducible refine wpAny_loadPart_at hx ?_ | (with_reducible refine wpAny_isSubtype_exc oC1 ?_;rw [hcC]) | wp_step)
 show wpAny _ _ (isSubtype (.ref C) (.ref C)) _ _ ⟨gK h C us,g,d,t,os⟩
 refine wpAny_isSubtype_exc oC1 ?_
 rw [hcC,if_neg (by decide)]
 unfold callSpecial? specialOf
 repeat (first | with_reducible refine wpAny_call ?_ | lk)
 refine codeAny_mono hq fun r s' z=>?_
 rcases r with e | (v | _ | _ | _) <;> first | exact z | exact z.elim | skip
 obtain ⟨rfl,z⟩:=z
 exact wpAny_pure (wpAny_pure z)
end
end HT
namespace HT
open PySem PySem.W PyProof.Rows
open Builtin Builtin.ObjectAttr
theorem oE (self:Value) {h:Heap} {bm:List Value} (T:OwnTail h L2.veM bm):refuseLoop self "__setattr__" bm=pure ():=by
 induction T with
 | base=>exact PySem.F.store_ValueError.passes self
 | own _ _ _ _ ih=>rw [refuseLoop_ref];exact ih
structure eh (K:Frag) (C:Addr) (name:Str):Prop where
 ok:L2.cA K C
 sa:findIn K (.ref C) "__setattr__" =some (some (.builtin "object.__setattr__"))
 eg:L2.df K C
 no:findIn K (.ref C) name=some none
 hd:hasDictIn K C=true
section
variable {prog:Program} {w:World} {A:Around} {E:Value→Shared→Prop} {s:Shared} {K:Frag} {x C:Addr} {name:Str} {v:Value}
theorem pe {ox : Obj} {od : Option Obj} {tk : Tok} {R : Result → Shared → Prop} (X : K.In s.heap) (I : InstAt s.heap x ox C od) (G : eh K C name)
  (h : wpAny (model prog w) A.in1 (storeInOwnDict (.ref x) (.ref C) (.str name tk) name v false)
   (fun fin s' => match fin with | .done f => R (.ok f) s' | .again c' => c'.quiet = true ∧ codeAny (model prog w) A c' R s') (fun e s' => R (.error e) s') s) :
  codeAny (model prog w) A (.call (.builtin "object.__setattr__") ⟨[.ref x, .str name tk, v], []⟩) R s := by
 have SF := PySem.F.store_object
 obtain ⟨bm, N, nm, qn, bs, hdct, sn, sub, ab, col, dd, k0, k1, k2, k3, k5, mN, oC, hN, _, T, _⟩ := L2.eG X G.ok
 have hm : Looks (model prog w) s.heap (mroOf (.ref C)) (.ref C :: bm) := ((Looks.ld (part := none) oC).andThen .now).andThen .now
 have hsub : Looks (model prog w) s.heap (isSubtype (.ref C) (.type "object")) true := fun A' Q' E' s' k q => by
  obtain ⟨hh, g, d, t, os⟩ := s'
  refine wpAny_isSubtype_exc (k _ _ oC) ?_
  rw [List.contains_cons, T.hasType (X := "object") (b := true) (by decide +kernel), Bool.or_true]; exact q
 have hsub' : Looks (model prog w) s.heap (isInstance (.ref x) (.type "object")) true := I.type.andThen hsub
 refine codeAny_call_builtin SF.slot.plain SF.entry (@check_slot (model prog w) _ _ s "object.__setattr__" "object" "__setattr__" (.ref x) [.str name tk, v] [] _ SF.kind SF.split hsub' (SF.args (.ref x) (.str name tk) v) ?_)
 rw [osa_eq, refuse_eq]
 refine wpAny_bind (wpAny_bind (I.type.here (wpAny_bind (hm.here ?_))))
 rw [refuseLoop_ref, oE _ T]
 exact wpAny_pure (wpAny_bind (I.type.here (wpAny_bind ((looks_findIn X G.no).here (wpAny_bind (wpAny_pure h))))))
theorem xC {ox:Obj} {dx:Addr} {mA:Str→Option Value} {ns:List Str} {Q:Unit→Shared→Prop} (X:K.In s.heap) (hx:s.heap.get? x=some ox) (hc:ox.cls=.ref C) (hdx:ox.dict=some dx) (hf:∃ vs,ox.data=.fields vs) (hn:s.heap.Ns1 dx mA) (ne:dx≠x) (G:eh K C name)
  (hw:Within mA ns) (hsz:ns.length≤sizeLine) (h:∀ h' t',h'.Ns1 dx (fun y=>if y=name then some v else mA y)→Heap.SameBut dx s.heap h'→Q () { s with heap:=h',toks:=t' }):wpAny (model prog w) A (setAttr (.ref x) name v) Q E s:=by
 obtain ⟨vs,hvs⟩:=hf
 obtain ⟨oc,od,odt,osl⟩:=ox
 dsimp only at hc hdx hvs
 subst hc hdx hvs
 obtain ⟨oD0,esD0,epD0,hoD0,_⟩:=id hn
 have J:InstAt s.heap x _ C (some oD0):=⟨hx,rfl,rfl,hoD0⟩
 refine set_plain X J G.sa (pe (s:={ s with toks:=s.toks+1 }) X J G ?_)
 obtain ⟨cd,hcc,hd'⟩:=any_some G.hd
 refine wpAny_bind (wpAny_pure (wpAny_bind (wpAny_bind (wpAny_loadPart hx (wpAny_bind (Looks.here (s:={ s with toks:=s.toks+1 }) (looks_clsIn X hcc) ?_))))))
 rw [hd']
 refine wpAny_pure (a:=some dx) (wpAny_bind (wpAny_pure (wpAny_bind ?_)))
 refine wpAny_nsSet1 (s:={ s with toks:=s.toks+1 }) hn fun h' hn2 hs2=>?_
 obtain ⟨oD,esD,epD,hoD,hdD,hcD⟩:=hn2.count (Within.cons name v hw)
 refine wpAny_bind (wpAny_lookBehind hoD (by rw [hdD];exact pastItsLine_dict (Nat.le_trans hcD (by rw [List.length_cons];omega))) ?_)
 exact wpAny_pure (h _ _ hn2 hs2)
theorem vG {ox:Obj} {Q:Unit→Shared→Prop} (X:K.In s.heap) (hx:s.heap.get? x=some ox) (hc:ox.cls=.ref C) (hdx:ox.dict=none) (hf:∃ vs,ox.data=.fields vs) (G:eh K C name)
  (h:∀ h' t',h'.get? x=some { ox with dict:=some s.heap.objs.size }→h'.Ns1 s.heap.objs.size (fun y=>if y=name then some v else none)→(∀ b o,b≠x→s.heap.get? b=some o→h'.get? b=some o)→Q () { s with heap:=h',toks:=t' }):
  wpAny (model prog w) A (setAttr (.ref x) name v) Q E s:=by
 obtain ⟨vs,hvs⟩:=hf
 obtain ⟨oc,od,odt,osl⟩:=ox
 dsimp only at hc hdx hvs
 subst hc hdx hvs
 have J:InstAt s.heap x _ C none:=⟨hx,rfl,rfl,trivial⟩
 refine set_plain X J G.sa (pe (s:={ s with toks:=s.toks+1 }) X J G ?_)
 obtain ⟨cd,hcc,hd'⟩:=any_some G.hd
 refine wpAny_bind (wpAny_pure (wpAny_bind (wpAny_bind (wpAny_loadPart hx (wpAny_bind (Looks.here (s:={ s with toks:=s.toks+1 }) (looks_clsIn X hcc) ?_))))))
 rw [hd']
 show wpAny _ _ (alloc { cls:=.type "dict",data:=.dict #[] }>>=fun d=>update x (fun o=>{ o with dict:=some d })>>=fun _=>pure (some d)) _ _ _
 have xs:x≠s.heap.objs.size:=Nat.ne_of_lt (Heap.lt_size hx)
 have hx1:(s.heap.push { cls:=.type "dict",data:=.dict #[] }).get? x=some _:=Heap.get?_push_of_some _ hx
 refine wpAny_bind (wpAny_alloc' (wpAny_bind (wpAny_update' hx1 (wpAny_pure ?_))))
 generalize hh2:((s.heap.push { cls:=.type "dict",data:=.dict #[] }).update x fun o=>{ o with dict:=some s.heap.objs.size })=h2
 have hx2:h2.get? x=some ⟨.ref C,some s.heap.objs.size,.fields vs,osl⟩:=by rw [← hh2];exact Heap.get?_update_self _ hx1 rfl
 have hd2:h2.get? s.heap.objs.size=some { cls:=.type "dict",data:=.dict #[] }:=by rw [← hh2];exact (Heap.get?_update_ne _ _ _ _ xs.symm).trans (Heap.get?_push_at rfl rfl)
 have k2:∀ b o,b≠x→s.heap.get? b=some o→h2.get? b=some o:=fun b o nb e=>by rw [← hh2];exact (Heap.get?_update_ne _ _ _ _ nb).trans (Heap.get?_push_of_some _ e)
 have n2:h2.Ns s.heap.objs.size (fun _=>none):=⟨_,#[],_,hd2,rfl,fun e he=>absurd he (by simp),fun _=>rfl⟩
 show wpAny _ _ (storeInDict s.heap.objs.size (.str name s.toks) name v) _ _ { s with heap:=h2,toks:=s.toks+1 }
 unfold storeInDict newKeyGuard
 refine wpAny_bind (wpAny_pure (wpAny_bind (wpAny_nsSet1 (s:={ s with heap:=h2,toks:=s.toks+1 }) (Heap.Ns1.of_empty n2) fun h' hn' hs=>?_)))
 obtain ⟨oD,esD,epD,hoD,hdD,hcD⟩:=hn'.count (Within.cons name v Within.nil)
 refine wpAny_bind (wpAny_lookBehind hoD (by rw [hdD];exact pastItsLine_dict (Nat.le_trans hcD (by rw [List.length_cons,List.length_nil,sizeLine_eq];omega))) ?_)
 exact wpAny_pure (h _ _ ((hs.2 x xs).trans hx2) hn' fun b o nb e=>(hs.2 b (Nat.ne_of_lt (Heap.lt_size e))).trans (k2 b o nb e))
end
section
variable {prog:Program} {w:World} {A:Around} {E:Value→Shared→Prop} {h:Heap} {g:Array GenState} {d:Drawn} {t:Nat} {os:OsState} {K:Frag} {a C:Addr} {o:Obj} {od:Option Obj} {name:Str} {v:Value}
theorem tV {tk:Tok} {Q:Fin→Shared→Prop} (X:K.In h) (I:InstAt h a o C od) (hf:findObj K C od name=some (.value v)) (hq:Q (.done (.ret v)) ⟨h,g,d,t,os⟩):
  wpAny (model prog w) A (Builtin.«object.__getattribute__» ⟨[.ref a,.str name tk],[]⟩) Q E ⟨h,g,d,t,os⟩:=by
 have L0:=I.type (M:=model prog w)
 have L1:=looks_find (M:=model prog w) X I hf
 unfold Builtin.«object.__getattribute__»
 refine wpAny_bind (wpAny_pure (wpAny_bind (wpAny_pure (wpAny_bind (L0.at (wpAny_bind (L1.at ?_)))))))
 exact wpAny_pure hq
theorem yA {tk:Tok} {R:Result→Shared→Prop} (X:K.In h) (G:L2.df K C) (I:InstAt h a o C od) (hf:findObj K C od name=some (.value v)) (hq:R (.ok (.ret v)) ⟨h,g,d,t,os⟩):
  codeAny (model prog w) A (.call (.builtin "BaseException.__getattribute__") ⟨[.ref a,.str name tk],[]⟩) R ⟨h,g,d,t,os⟩:=
 codeAny_call_builtin F.excAttr_ValueError.ga.plain F.entry_bexc_ga (L2.nq X G I.at_ I.cls (tV X I hf hq))
theorem Fg {tk:Tok} {fill expr:Bool} {Q:Value→Shared→Prop} (X:K.In h) (G:L2.df K C) (I:InstAt h a o C od) (hf:findObj K C od name=some (.value v)) (hh:handedIn v=true) (hq:Q v ⟨h,g,d,t,os⟩):
  wpAny (model prog w) A (getAttrBy (.ref a) (.str name tk) fill expr) Q E ⟨h,g,d,t,os⟩:=by
 have f3:=F.excAttr_ValueError.ga.bind (.ref a)
 have L0:=I.type (M:=model prog w)
 have L1:=looks_findIn (M:=model prog w) X G.ga
 have L2':=looks_findIn (M:=model prog w) X G.na
 have hx2:(Value.builtin "BaseException.__getattribute__" ==Value.builtin "object.__getattribute__")=false:=by decide +kernel
 have hx0:(expr&&onTheHeap (Value.builtin "BaseException.__getattribute__"))=false:=by cases expr <;> rfl
 unfold getAttrBy
 refine wpAny_holding (wpAny_bind (L0.at (wpAny_bind (L1.at ?_))))
 show wpAny _ _ (if (onTheHeap (Value.ref C)&&Value.builtin "BaseException.__getattribute__" ==Value.builtin "object.__getattribute__")=true then _ else _) _ _ _
 rw [hx2,Bool.and_false,if_neg Bool.false_ne_true]
 unfold getAttrByItsOwn
 refine wpAny_bind ?_
 show wpAny _ _ (typeLookup (.ref C) "__getattr__") _ _ _
 refine L2'.at (wpAny_bind (wpAny_attempt (wpAny_holding ?_)))
 unfold callGetattribute
 rw [hx0,if_neg Bool.false_ne_true]
 unfold boundAndCalled
 rw [f3]
 refine wpAny_bind (wpAny_pure (wpAny_call (yA X G I hf ?_)))
 show wpAny _ _ (handedOut v) _ _ _
 rw [handedOut_of hh];exact wpAny_pure hq
theorem yd {dx:Addr} {mA:Str→Option Value} {expr:Bool} {Q:Value→Shared→Prop} (X:K.In h) (hx:h.get? a=some o) (hc:o.cls=.ref C) (hdx:o.dict=some dx) (hfl:∃ vs,o.data=.fields vs) (hn:h.Ns1 dx mA) (G:eh K C name)
  (hv:mA name=some v) (hh:handedIn v=true) (hq:Q v ⟨h,g,d,t+1,os⟩):wpAny (model prog w) A (getAttr (.ref a) name expr) Q E ⟨h,g,d,t,os⟩:=by
 obtain ⟨vs,hvs⟩:=hfl
 obtain ⟨oc,odd,odt,osl⟩:=o
 dsimp only at hc hdx hvs
 subst hc hdx hvs
 obtain ⟨od,ho,hl⟩:=L2.lz hn
 have J:InstAt h a _ C (some od):=⟨hx,rfl,rfl,ho⟩
 unfold getAttr
 exact wpAny_bind (wpAny_mkText (Fg X G.eg J (findObj_own G.hd G.no rfl (by rw [hl,hv])) hh hq))
end
end HT
namespace L2
open PySem PySem.Spec PyProof.Rows
def eD (C a:Addr) (d:Option Addr):HO:=.ext fun h=>∃ t,h.get? a=some (HT.jQ C t d)
theorem pq {P:Program} {w:World} {H:Hp} {h:Heap} {C a t:Addr} {d:Option Addr} (e:h.get? a=some (HT.jQ C t d)):bu P w H h a (eD C a d):=⟨⟨t,e⟩,⟨_,e⟩,fun h1 h2 ⟨t1,e1⟩ k=>⟨t1,k _ e1⟩⟩
theorem kZ {P:Program} {w:World} {H:Hp} {h:Heap} {C a:Addr} {d:Option Addr} (x:bu P w H h a (eD C a d)):∃ t,h.get? a=some (HT.jQ C t d):=x.1
def fI (fs:List (Str×V)) (dx:Addr):HO:=.ext fun h=>∃ mA,h.Ns1 dx mA∧∀ f,eu (fs.lookup f) (mA f)
theorem pP {P:Program} {w:World} {H:Hp} {h:Heap} {dx:Addr} {fs:List (Str×V)} {mA:Str→Option Value} (n:h.Ns1 dx mA) (r:∀ f,eu (fs.lookup f) (mA f)):bu P w H h dx (fI fs dx):=by
 refine ⟨⟨mA,n,r⟩,?_,fun h1 h2 ⟨m1,n1,r1⟩ k=>⟨m1,?_,r1⟩⟩
 · obtain ⟨o,es,ep,e,_⟩:=n
   exact ⟨o,e⟩
 · obtain ⟨o,es,ep,e,c⟩:=n1
   exact ⟨o,es,ep,k _ e,c⟩
theorem oW {P:Program} {w:World} {H:Hp} {h:Heap} {dx:Addr} {fs:List (Str×V)} (x:bu P w H h dx (fI fs dx)):∃ mA,h.Ns1 dx mA∧∀ f,eu (fs.lookup f) (mA f):=x.1
theorem oG {fs : List (Str × V)} {mA : Str → Option Value} (r : ∀ f, eu (fs.lookup f) (mA f)) : PySem.Within mA (fs.map (·.1)) := fun y h => by
  have ry := r y
  cases e : fs.lookup y with
  | none =>
    rw [e] at ry
    cases q : mA y with
    | none => exact absurd q h
    | some u => rw [q] at ry; exact ry.elim
  | some v =>
    have : ∀ (l : List (Str × V)), l.lookup y = some v → y ∈ l.map (·.1) := by
      intro l
      induction l with
      | nil => intro z; cases z
      | cons p l ih =>
        intro z
        obtain ⟨k, x⟩ := p
        rw [List.lookup_cons] at z
        by_cases hk : (y == k) = true
        · rw [List.map_cons]; exact List.mem_cons.mpr (.inl (beq_iff_eq.mp hk))
        · rw [Bool.not_eq_true] at hk
          rw [hk] at z
          exact List.mem_cons_of_mem _ (ih z)
    exact this fs e
def ku (K : W.Frag) (C : Addr) (ta tv : TE) (f : Str) : TS := fun D σ H => tv σ H fun y H1 => ta σ H1 fun x H2 => ∃ a, x = .ref a ∧ HT.eh K C f ∧
  ((H2 a = some (eD C a none) ∧ ∀ dx, H2 dx = none → dx ≠ a → D.nx σ (upd (upd H2 a (eD C a (some dx))) dx (fI [(f, y)] dx))) ∨
   (∃ dx fs, H2 a = some (eD C a (some dx)) ∧ H2 dx = some (fI fs dx) ∧ dx ≠ a ∧ fs.length < 1000 ∧ D.nx σ (upd H2 dx (fI (iq f y fs) dx))))
def qA (K:W.Frag) (ta:TE) (f:Str):TE:=fun σ H Q=>ta σ H fun x H1=>∃ a C dx fs v,x=.ref a∧H1 a=some (iQ C (some dx) a)∧H1 dx=some (fI fs dx)∧HT.eh K C f∧fs.lookup f=some v∧Q v H1
section
variable {X:Cx} {o value:Expr} {ta tv:TE} {f:Str} {pos pos':Pos} {C:Addr}
theorem kF (ho:QE X o ta) (hv:QE X value tv) (hs:swapsWith value (some (.Attribute o f pos')) pos.line X.env=pure false:=by rfl):QS X (.Assign [.Attribute o f pos'] value pos) (ku X.K C ta tv f):=by
 refine ⟨fun pins s σ H D I h=>?_⟩
 refine plainObj_wpAny_Assign_Attribute (thn (hv.out pins s σ H _ I h) fun u s1 ⟨y,H1,I1,ry,q⟩=>thn (ho.out pins s1 σ H1 _ I1 q) fun ov s2 ⟨x,H2,I2,rx,a,ex,G,q2⟩=>?_) hs
 subst ex
 obtain rfl:ov=Value.ref a:=rx
 rcases q2 with ⟨ea,q2⟩ | ⟨dx,fs,ea,ed,ne,hl,q2⟩
 · obtain ⟨t,et⟩:=kZ (P:=X.prog) (w:=X.w) (I2.hok a _ ea)
   refine HT.vG I2.kIn et rfl rfl ⟨_,rfl⟩ G fun h' t' e1 e2 k=>?_
   have I3:Inv X pins σ (upd H2 a (eD C a (some s2.heap.objs.size))) { s2 with heap:=h',toks:=t' }:=I2.write (x:=a) (e:=a) (by rw [ea];exact True.intro) (.inl rfl) (fun b u nb e=>k b u nb e) ⟨_,e1⟩ (pq e1)
   have na:s2.heap.objs.size≠a:=Nat.ne_of_gt (Heap.lt_size et)
   have hn:upd H2 a (eD C a (some s2.heap.objs.size)) s2.heap.objs.size=none:=by rw [aI na];exact I2.hok.fresh (Nat.le_refl _)
   exact ⟨σ,_,Inv.track2 I2 I3 (Nat.le_refl _) hn (pP e2 fun g=>by
    show eu (List.lookup g [(f,y)]) (if g=f then some u else none)
    by_cases hg:g=f
    · rw [if_pos hg,hg]
      simp only [List.lookup,beq_self_eq_true];exact ry
    · have hb:(g==f)=false:=beq_eq_false_iff_ne.mpr hg
      rw [if_neg hg]
      simp only [List.lookup,hb];exact True.intro),q2 _ (I2.hok.fresh (Nat.le_refl _)) na⟩
 · obtain ⟨t,et⟩:=kZ (P:=X.prog) (w:=X.w) (I2.hok a _ ea)
   obtain ⟨mA,n1,r1⟩:=oW (P:=X.prog) (w:=X.w) (I2.hok dx _ ed)
   refine HT.xC (ns:=fs.map (·.1)) I2.kIn et rfl rfl ⟨_,rfl⟩ n1 ne G (oG r1) (by rw [List.length_map,sizeLine_eq];omega) fun h' t' e2 sb=>?_
   have hd:∃ u,h'.get? dx=some u:=let ⟨o,_,_,e',_⟩:=e2;⟨o,e'⟩
   exact ⟨σ,_,I2.write (x:=dx) (e:=dx) (by rw [ed];exact True.intro) (.inl rfl) (fun b u nb e=>(sb.2 b nb).trans e) hd (pP e2 fun g=>by
    rw [jA]
    by_cases hg:g=f
    · rw [if_pos hg,if_pos hg];exact ry
    · rw [if_neg hg,if_neg hg];exact r1 g),q2⟩
theorem tO (he:QE X o ta) (hb:attributeBase o f X.env (eval o X.env)=eval o X.env:=by rfl):QE X (.Attribute o f pos) (qA X.K ta f):=by
 refine ⟨fun pins s σ H Q I h=>?_⟩
 refine yg hb (thn (he.out pins s σ H _ I h) fun u s1 ⟨x,H1,I1,rx,a,C,dx,fs,v,ex,ea,ed,G,l,q⟩=>?_)
 subst ex
 obtain rfl:u=Value.ref a:=rx
 obtain ⟨oe,vs,e1,e2,e3,e4,_⟩:=pC (P:=X.prog) (w:=X.w) (I1.hok a _ ea)
 obtain ⟨mA,n1,r1⟩:=oW (P:=X.prog) (w:=X.w) (I1.hok dx _ ed)
 obtain ⟨u,hu,ru⟩:=eu.some_of (v:=v) (o:=mA f) (by rw [← l];exact r1 f)
 obtain ⟨hp,g,d,tk,os⟩:=s1
 exact HT.yd I1.kIn e1 e2 e3 ⟨_,e4⟩ n1 G hu (tm ru) ⟨v,H1,I1.tok _,ru,q⟩
end
def jc (a:Addr) (H:Hp):Hp:=fun b=>if b=a then none else H b
theorem iV {a:Addr} {H:Hp}:jc a H a=none:=by unfold jc;rw [if_pos rfl]
theorem dS {a b:Addr} {H:Hp} (h:b≠a):jc a H b=H b:=by unfold jc;rw [if_neg h]
theorem HOk.off {P:Program} {w:World} {H:Hp} {h:Heap} {a:Addr} {φ:Heap→Prop} (k:HOk P w H h) (ha:H a=some (.ext φ)):HOk P w (jc a H) h:=fun b o e=>by
 by_cases hb:b=a
 · subst hb;rw [iV] at e;cases e
 · rw [dS hb] at e
   exact (k b o e).stay (fun c u _ q=>q) (fun c q=>by rw [dS (fun z=>by rw [z,ha] at q;cases q)];exact q) fun c xs q=>by rw [dS (fun z=>by rw [z,ha] at q;cases q)];exact q
theorem Un.off {fs:List Addr} {H H':Hp} {h h':Heap} {a:Addr} (u:Un fs [] H H' h h') (ha:H a=none):Un fs [] H (jc a H') h h' where
 keep:=u.keep
 slot:=u.slot
 free:=fun b o e n hx=>by
  by_cases hb:b=a
  · rw [hb];exact iV
  · rw [dS hb];exact u.free b o e n hx
 there:=u.there
 tups:=fun b xs e=>by rw [dS (aS e ha)];exact u.tups b xs e
 frzs:=fun b o v e=>by rw [dS (aS e ha)];exact u.frzs b o v e
 tbls:=fun b ps e=>by rw [dS (aS e ha)];exact u.tbls b ps e
end L2
namespace HT
open PySem PyProof.Rows
section
variable {M:Model} {A:Around} {E:Value→Shared→Prop} {env:Env} {K:W.Frag} {C:Addr}
theorem sw {s:Shared} {x:Sem Value} {Q:Flow→Shared→Prop} (hC:L2.cA K C) (hh:A.handled=none)
  (h:wpAny M A x (fun v s₁=>∃ e t d,v=.ref e∧K.In s₁.heap∧s₁.heap.get? e=some (jQ C t d)∧E (.ref e) s₁) E s):wpAny M A (raiseStmt env (some x) none) Q E s:=by
 unfold raiseStmt
 refine wpAny_bind (wpAny_mono h (fun v s₁ h₁=>?_) fun _ _ x=>x)
 obtain ⟨e,t,d,rfl,X,he,hE⟩:=h₁
 obtain ⟨bm,N,nm,qn,bs,hdct,sn,sub,ab,col,dd,k0,k1,k2,k3,k5,mN,oC,hN,_,T,_⟩:=L2.eG X hC
 have hcB:(Value.ref C::bm).contains (.type "BaseException")=true:=by rw [List.contains_cons,T.hasType (X:= "BaseException") (b:=true) (by decide +kernel),Bool.or_true]
 obtain ⟨hp,g,dr,tk,os⟩:=s₁
 repeat (first | with_reducible refine wpAny_loadPart_at he ?_ | with_reducible refine wpAny_loadPart_at oC ?_ | (with_reducible refine wpAny_isSubtype_exc oC ?_;rw [hcB]) | wp_step)
 exact wpAny_raiseNew_none hh hE
theorem sk {prog:Program} {w:World} {A:Around} {K:W.Frag} {C f:Addr} {R:Result→Shared→Prop} {s:Shared} {us:List Value} (X:K.In s.heap) (hC:L2.cA K C) (hi:W.findIn K (.ref C) "__init__" =some (some (.ref f))) (hf:W.typeIn K (.ref f)=some (.type "function")) (hus:us.length≤sizeLine)
  (hq:codeAny (model prog w) (A.under (.builtin "type.__call__" ⟨.ref C::us,[]⟩)) (.call (.ref f) ⟨.ref (s.heap.objs.size+1)::us,[]⟩) (W.InitBack (s.heap.objs.size+1) R) { s with heap:=gK s.heap C us }):
  codeAny (model prog w) A (.call (.ref C) ⟨us,[]⟩) R s:=by
 obtain ⟨h,g,d,t,os⟩:=s
 exact uu X hC hi hf hus hq
end
end HT
namespace L2
open PySem PySem.Spec PyProof.Rows
def ls (C:Addr) (sp:Sp) (E:St→XK) (t:TA):TS:=fun _ σ H=>t σ H fun vs H1=>∀ a,H1 a=none→sp (.ref a::vs) (upd H1 a (eD C a none)) (fun v H2=>v=.non∧∃ d,H2 a=some (eD C a d)∧E σ (.ref C) d (jc a H2)) E0
structure qP (K:W.Frag) (C f:Addr):Prop where
 ok:cA K C
 init:W.findIn K (.ref C) "__init__" =some (some (.ref f))
 fn:W.isFn K (.ref f)=true
 kp:W.keepIn K (.ref C)=true
section
variable {X:Cx} {k:Nat} {f C:Addr} {fd:FuncData} {ps:List Str} {sp:Sp} {E:St→XK} {x:Str} {np cpos pos:Pos} {e:Expr} {es:List Expr} {t:TA}
theorem nj (Y : qP X.K C f) (F : bg X.prog X.w X.K X.mg X.base (CX1 X.prog X.w) k f fd ps sp) (hr : bE (k + 1) X.A) (hb : dc X.K fd ps []) (hm : X.mg x = some (.ref C)) (hR : nO X E) (ha : QA X (e :: es) t)
    (hc : X.calm = true := by rfl) (hg : Gl X x := by rfl) (hdb : (x == ("__debug__" : Str)) = false := by decide) (hs : bV (e :: es) = true := by rfl) (hps : ps.length ≤ 1000 := by decide) : QS X (.Raise (some (.Call (.Name x np) (e :: es) [] cpos)) none pos) (ls C sp E t) := by
  refine ⟨fun pins s σ H D I h => ?_⟩
  have h' : (cC e && bV es) = true := hs
  rw [arm_exec_Raise]
  refine wpAny_bind (wpAny_standAt (HT.sw Y.ok (I.ok.hd hc) ?_))
  refine wpAny_bind (wpAny_mono ?_ (fun v s₃ h₃ => wpAny_bind (wpAny_standAt (wpAny_pure h₃))) fun _ _ x => x)
  refine wpAny_Call_Name_kw (jt I hg hm ?_ hdb)
  refine W.callWith_K (h₀ := X.base) I.ok.mod.kin Y.kp (thn (ha.out cpos pins s σ H _ I h) fun us s1 ⟨vs, H1, I1, r, q⟩ => ⟨I1.kIn, ?_⟩) (bD (Bool.and_eq_true_iff.mp h').1 es X.env) (dg (Bool.and_eq_true_iff.mp h').2)
  have ka : ∀ b u, s1.heap.get? b = some u → (HT.gK s1.heap C us).get? b = some u := fun b u eb => Heap.get?_push_of_some _ (Heap.get?_push_of_some _ eb)
  have ex : (HT.gK s1.heap C us).get? (s1.heap.objs.size + 1) = some (HT.jQ C s1.heap.objs.size none) := by heap_get
  have hfr : H1 (s1.heap.objs.size + 1) = none := I1.hok.fresh (Nat.le_succ _)
  have I2 : Inv X pins σ (upd H1 (s1.heap.objs.size + 1) (eD C (s1.heap.objs.size + 1) none)) { s1 with heap := HT.gK s1.heap C us, toks := s1.toks } := I1.laid ka (Nat.le_succ _) (pq ex)
  have hq := q (s1.heap.objs.size + 1) hfr
  have r2 : bo (V.ref (s1.heap.objs.size + 1) :: vs) (Value.ref (s1.heap.objs.size + 1) :: us) := .cons rfl r
  have hl : (Value.ref (s1.heap.objs.size + 1) :: us).length = ps.length := by rw [← r2.length]; exact F.len _ _ _ _ hq
  have hb' := hb { s1 with heap := HT.gK s1.heap C us } (Value.ref (s1.heap.objs.size + 1) :: us) I2.kIn (by rw [List.append_nil]; exact hl)
  rw [List.append_nil] at hb'
  have husz : us.length ≤ sizeLine := by
    rw [List.length_cons] at hl
    rw [sizeLine_eq]; omega
  refine wpAny_call (HT.sk I1.kIn Y.ok Y.init (beq_iff_eq.mp Y.fn) husz (codeAny_mono (F.run _ X.stack _ _ ⟨Value.ref (s1.heap.objs.size + 1) :: us, []⟩ (Value.ref (s1.heap.objs.size + 1) :: us) _ _ _ (hr.make C us []) (I2.env0.make C us []) hb' r2 hq) fun rr s' hq' => ?_))
  cases rr with
  | error e' =>
    obtain ⟨_, _, _, _, _, _, z⟩ := hq'
    exact z.elim
  | ok fl =>
    cases fl with
    | next => exact False.elim hq'
    | brk => exact False.elim hq'
    | cont => exact False.elim hq'
    | ret u =>
      obtain ⟨v, H', os, bare, un, hok, rv, rfl, d, hd, hE⟩ := hq'
      obtain ⟨t, et⟩ := kZ (P := X.prog) (w := X.w) (hok _ _ hd)
      have u1 : Un (frs X.stack) [] H1 H' s1.heap s'.heap := (Un.laid (o := eD C (s1.heap.objs.size + 1) none) ka (Nat.le_succ _) hfr).trans un
      have kin : X.K.In s'.heap := by
        have I3 : Inv X pins σ H' s' := I1.call' (ch := []) os u1 hok bare fun b z => absurd z (by simp)
        exact I3.kIn
      refine ⟨rv, s1.heap.objs.size + 1, t, d, rfl, kin, et, hR pins σ H1 s1 C (s1.heap.objs.size + 1) d (jc (s1.heap.objs.size + 1) H') s' I1 ⟨os, bare, u1.off hfr, hok.off hd, Heap.get?_none_of_le (Nat.le_succ _), iV, ⟨_, _, .ref t, et, rfl, rfl, rfl, ⟨rfl, rfl⟩, rfl⟩⟩ hE⟩
end
end L2
namespace L2
open PySem PySem.Spec PyProof.Rows PySem.W
section
variable {key:Nat→Int} {n:Nat}
variable (inj:∀ i j,i<n→j<n→key i=key j→i=j)
include inj
omit inj in
omit inj in
omit inj in
end
end L2
namespace Rs
abbrev st (B k d:Nat):Nat:=k/2^(B - d)

end Rs
namespace L2
open PySem PySem.Spec PyProof.Rows
section
variable {X:Cx}
def xg (K:W.Frag):R2:=fun x y H Q=>∃ a b x0 xs y0,x=.ref a∧y=.ref b∧SqT K H a (x0::xs)∧SqT K H b [y0]∧gp x0=true∧gp y0=true∧Q (.bl (decide (x0=y0)&&decide (xs.length=0))) H
theorem xS (hu:X.A.units<cLine):OpR X (compareOp .Eq) (xg X.K):=by
 intro pins s σ H x y v u Q I rx ry h
 obtain ⟨a,b,x0,xs,y0,rfl,rfl,ha,hb,px,py,q⟩:=h
 cases rx
 cases ry
 obtain ⟨its,r1,p1,_⟩:=I.tuple ha
 obtain ⟨its2,r2,p2,_⟩:=I.tuple hb
 have l1:=r1.length
 have l2:=r2.length
 refine PySem.SeqAt.eq_tupleAt (e:=fun j=>decide (x0=y0)) p1 p2 hu (fun j h1 h2=>?_) ?_
 · have h1:j<its.length:=by simpa using h1
   have h2:j<its2.length:=by simpa using h2
   have j0:j=0:=by rw [← l2] at h2;simp at h2;exact h2
   subst j0
   obtain ⟨u1,g1,ru1⟩:=r1.get (i:=0) (x:=x0) rfl
   obtain ⟨u2,g2,ru2⟩:=r2.get (i:=0) (x:=y0) rfl
   have g1':its.toArray[0]=u1:=by
    rw [List.getElem?_eq_getElem h1] at g1;simpa using Option.some.inj g1
   have g2':its2.toArray[0]=u2:=by
    rw [List.getElem?_eq_getElem h2] at g2;simpa using Option.some.inj g2
   rw [g1',g2']
   exact ki ru1 ru2 px py
 · simp only [List.size_toArray]
   have e:((List.range (min its.length its2.length)).all (fun _=>decide (x0=y0))&&its.length==its2.length)=(decide (x0=y0)&&decide (xs.length=0)):=by
    rw [← l1,←l2]
    simp only [List.length_cons,List.length_nil]
    have:min (xs.length+1) (0+1)=1:=by omega
    rw [this]
    show (decide (x0=y0)&&true&&_)=_
    rw [Bool.and_true]
    congr 1
    by_cases h:xs.length=0
    · rw [h];rfl
    · rw [decide_eq_false h];simp;intro z;exact h (by rw [z];rfl)
   rw [e]
   exact ⟨.bl _,H,I,rfl,q⟩
def qG (K:W.Frag):R2:=fun x y H Q=>bC K x y H Q∨xg K x y H Q
theorem zW (hu:X.A.units+150<cLine):OpR X (compareOp .Eq) (qG X.K):=(bJ hu).or (xS (by omega))
end
end L2
namespace Rs
open PySem PySem.Spec PyProof.Rows L2
abbrev gOp:=List Key→Option Key
def wV (s:Stmt) (j:Nat):Stmt:=match s with
 | .ClassDef _ _ _ b _ _ _ _ _ _ _=>b.getD j (.Pass ⟨0,0,0,0⟩)
 | _=> .Pass ⟨0,0,0,0⟩
def top (i:Nat):Stmt:=PySem.Challenge.pw_rootstamp_k31_what_is_no_part.main.body.getD i (.Pass ⟨0,0,0,0⟩)
abbrev s_9:Stmt:=top 39
abbrev s_3:Stmt:=top 38
abbrev uf:Stmt:=top 40
abbrev vQ:Stmt:=top 44
abbrev vp:Stmt:=top 46
abbrev uR:Stmt:=top 45
abbrev vq:Stmt:=top 43
abbrev ux:Stmt:=top 41
abbrev s_8:Stmt:=top 47
abbrev vL:Stmt:=top 48
abbrev ul:Stmt:=top 49
abbrev jJ:Stmt:=top 42
abbrev ub:Stmt:=top 50
abbrev vM:Stmt:=top 57
abbrev s_5:Stmt:=top 61
abbrev s_7:Stmt:=top 59
abbrev s_6:Stmt:=top 60
abbrev s_4:Stmt:=top 62
abbrev vA:Stmt:=top 58
abbrev tX:Stmt:=top 7
abbrev vo:Stmt:=top 11
abbrev uX:Stmt:=top 24
abbrev vH:Stmt:=top 15
abbrev vR:Stmt:=top 25
abbrev ur:Stmt:=top 8
abbrev vm:Stmt:=top 28
abbrev vv:Stmt:=top 12
abbrev uN:Stmt:=top 14
abbrev uE:Stmt:=top 21
abbrev tY:Stmt:=top 22
abbrev uJ:Stmt:=top 27
abbrev s_1:Stmt:=wV (top 4) 0
abbrev kQ:Stmt:=top 26
abbrev kX:Stmt:=top 29
abbrev uO:Stmt:=top 31
abbrev vJ:Stmt:=top 30
abbrev kO:Stmt:=top 32
abbrev kY:Stmt:=top 33
abbrev s_0:Stmt:=wV (top 5) 0
abbrev vF:Stmt:=top 35
abbrev lh:Stmt:=top 34
abbrev ui:Stmt:=top 13
abbrev lq:Stmt:=top 36
abbrev s_2:Stmt:=top 63
abbrev uI:Stmt:=top 64
abbrev uK:Stmt:=top 53
abbrev uz:Stmt:=top 54
abbrev vg:Stmt:=top 65
abbrev ut:Stmt:=top 56
abbrev uh:Stmt:=top 19
abbrev uT:Stmt:=top 18
abbrev uc:Stmt:=top 20
abbrev vV:Stmt:=top 17
abbrev ug:Stmt:=top 51
abbrev ue:Stmt:=top 52
abbrev uG:Stmt:=top 66
def sAt (i:Nat) (l:List Stmt):Stmt:=l.getD i (.Pass ⟨0,0,0,0⟩)
abbrev uC:Stmt:=(sAt 0 (bi jJ))
def fu:dY:=⟨(("_law_weak" :Str)++ ".<locals>.")++ "_law_short",.stmts (bi uC),ap uC,["_law_term"],["_law_many"]⟩
set_option genInjectivity false in
set_option genSizeOf false in
abbrev Rd (sp:Sp) (t:TS) (N:List Str):Prop:=∀ (vs:List V) (H:Hp) (Q:VK) (E:XK),sp vs H Q E→t { nx:=fun _ H'=>Q .non H',rt:=Q } (L2.cq N vs) H
abbrev Ln (sp:Sp) (n:Nat):Prop:=∀ vs H Q E,sp vs H Q E→vs.length=n
structure Adr where
 a_9:Addr
 d_9:FuncData
 a_3:Addr
 d_3:FuncData
 a_11:Addr
 d_11:FuncData
 a_24:Addr
 d_24:FuncData
 a_15:Addr
 d_15:FuncData
 a_14:Addr
 d_14:FuncData
 a_13:Addr
 d_13:FuncData
 a_26:Addr
 d_26:FuncData
 a_8:Addr
 d_8:FuncData
 a_18:Addr
 d_18:FuncData
 a_17:Addr
 d_17:FuncData
 a_27:Addr
 d_27:FuncData
 a_16:Addr
 d_16:FuncData
 a_23:Addr
 d_23:FuncData
 a_5:Addr
 d_5:FuncData
 a_7:Addr
 d_7:FuncData
 a_6:Addr
 d_6:FuncData
 a_4:Addr
 d_4:FuncData
 a_29:Addr
 d_29:FuncData
 a_44:Addr
 d_44:FuncData
 a_37:Addr
 d_37:FuncData
 a_33:Addr
 d_33:FuncData
 a_52:Addr
 d_52:FuncData
 a_46:Addr
 d_46:FuncData
 a_41:Addr
 d_41:FuncData
 a_34:Addr
 d_34:FuncData
 a_43:Addr
 d_43:FuncData
 a_53:Addr
 d_53:FuncData
 a_38:Addr
 d_38:FuncData
 a_36:Addr
 d_36:FuncData
 a_39:Addr
 d_39:FuncData
 a_1:Addr
 d_1:FuncData
 a_32:Addr
 d_32:FuncData
 a_31:Addr
 d_31:FuncData
 a_47:Addr
 d_47:FuncData
 a_48:Addr
 d_48:FuncData
 a_56:Addr
 d_56:FuncData
 a_55:Addr
 d_55:FuncData
 a_0:Addr
 d_0:FuncData
 a_49:Addr
 d_49:FuncData
 a_54:Addr
 d_54:FuncData
 a_50:Addr
 d_50:FuncData
 a_51:Addr
 d_51:FuncData
 a_2:Addr
 d_2:FuncData
 a_20:Addr
 d_20:FuncData
 a_19:Addr
 d_19:FuncData
 a_25:Addr
 d_25:FuncData
 a_22:Addr
 d_22:FuncData
 a_21:Addr
 d_21:FuncData
 a_42:Addr
 d_42:FuncData
 a_30:Addr
 d_30:FuncData
 a_35:Addr
 d_35:FuncData
 a_40:Addr
 d_40:FuncData
 a_12:Addr
 d_12:FuncData
 a_10:Addr
 d_10:FuncData
 a_45:Addr
 d_45:FuncData
 k_27:Addr
 t_27:Addr
 c_NoPart:Addr
 c_Broken:Addr
 c_NoKey:Addr
 c_StampError:Addr
set_option genInjectivity false in
set_option genSizeOf false in
structure Txt (K:W.Frag) (mg:Str→Option Value) (A:Adr):Prop where
 f_9:Fm K mg "_law_bits" "_law_bits" s_9 A.a_9 A.d_9 ["_law_cell"]
 f_3:Fm K mg "_law_at" "_law_at" s_3 A.a_3 A.d_3 ["_law_script", "_law_k"]
 f_11:Fm K mg "_law_key" "_law_key" uf A.a_11 A.d_11 ["_law_bits_here", "_law_cell", "_law_others"]
 f_24:Fm K mg "_law_stretch" "_law_stretch" vQ A.a_24 A.d_24 ["_law_bits_here", "_law_one", "_law_other"]
 f_15:Fm K mg "_law_number" "_law_number" vp A.a_15 A.d_15 ["_law_cell", "_law_depth", "_law_begin_here"]
 f_14:Fm K mg "_law_meets" "_law_meets" uR A.a_14 A.d_14 ["_law_bits_here", "_law_low", "_law_high", "_law_depth", "_law_begin_here"]
 f_13:Fm K mg "_law_mark" "_law_mark" vq A.a_13 A.d_13 ["_law_number_here"]
 f_26:Fm K mg "_law_text" "_law_text" ux A.a_26 A.d_26 ["_law_cell"]
 f_8:Fm K mg "_law_begin" "_law_begin" s_8 A.a_8 A.d_8 ["_law_number_here", "_law_begin_here", "_law_more", "_law_low", "_law_high", "_law_free"]
 f_18:Fm K mg "_law_part" "_law_part" vL A.a_18 A.d_18 ["_law_cell", "_law_bits_here", "_law_low", "_law_high", "_law_depth", "_law_begin_here", "_law_deep"]
 f_17:Fm K mg "_law_paper" "_law_paper" ul A.a_17 A.d_17 ["_law_cell", "_law_bits_here", "_law_low", "_law_high"]
 f_27:Fm K mg "_law_weak" "_law_weak" jJ A.a_27 A.d_27 ["_law_many"]
 f_16:Fm K mg "_law_open" "_law_open" ub A.a_16 A.d_16 ["_law_stamper", "_law_part_here"]
 f_23:Fm K mg "_law_spots" "_law_spots" vM A.a_23 A.d_23 ["_law_part_here", "_law_depth", "_law_begin_here", "_law_path"]
 f_5:Fm K mg "_law_bad_cuts" "_law_bad_cuts" s_5 A.a_5 A.d_5 ["_law_bits_here", "_law_depth", "_law_begin_here"]
 f_7:Fm K mg "_law_bad_leaves" "_law_bad_leaves" s_7 A.a_7 A.d_7 ["_law_bits_here", "_law_depth", "_law_begin_here"]
 f_6:Fm K mg "_law_bad_forks" "_law_bad_forks" s_6 A.a_6 A.d_6 ["_law_bits_here", "_law_depth", "_law_begin_here"]
 f_4:Fm K mg "_law_bad" "_law_bad" s_4 A.a_4 A.d_4 ["_law_cell", "_law_bits_here", "_law_low", "_law_high", "_law_depth", "_law_begin_here"]
 f_29:Fm K mg "_law_with" "_law_with" vA A.a_29 A.d_29 ["_law_part_here", "_law_path", "_law_new"]
 f_44:Fm K mg "is_whole" "is_whole" tX A.a_44 A.d_44 ["thing"]
 f_37:Fm K mg "is_key" "is_key" vo A.a_37 A.d_37 ["bits", "thing"]
 f_33:Fm K mg "check_stretch" "check_stretch" uX A.a_33 A.d_33 ["bits", "low", "high"]
 f_52:Fm K mg "span" "span" vH A.a_52 A.d_52 ["bits", "depth", "begin"]
 f_46:Fm K mg "meets" "meets" vR A.a_46 A.d_46 ["bits", "low", "high", "depth", "begin"]
 f_41:Fm K mg "is_stamp" "is_stamp" ur A.a_41 A.d_41 ["thing"]
 f_34:Fm K mg "is_cut" "is_cut" vm A.a_34 A.d_34 ["thing"]
 f_43:Fm K mg "is_value" "is_value" vv A.a_43 A.d_43 ["thing"]
 f_53:Fm K mg "start" "start" uN A.a_53 A.d_53 ["bits", "key", "depth"]
 f_38:Fm K mg "is_leaf" "is_leaf" uE A.a_38 A.d_38 ["bits", "depth", "begin", "thing"]
 f_36:Fm K mg "is_fork" "is_fork" tY A.a_36 A.d_36 ["bits", "depth", "begin", "thing"]
 f_39:Fm K mg "is_part" "is_part" uJ A.a_39 A.d_39 ["bits", "low", "high", "depth", "begin", "thing"]
 f_1:Fun K "__init__" "NoPart.__init__" s_1 A.a_1 A.d_1
 b_1:dc K A.d_1 ["self", "depth", "begin"] []
 f_32:Fm K mg "check_part" "check_part" kQ A.a_32 A.d_32 ["bits", "low", "high", "depth", "begin", "part"]
 f_31:Fm K mg "check_paper" "check_paper" kX A.a_31 A.d_31 ["bits", "low", "high", "paper"]
 f_47:Fm K mg "part_mark" "part_mark" uO A.a_47 A.d_47 ["stamper", "part", "terms"]
 f_48:Fm K mg "part_terms" "part_terms" vJ A.a_48 A.d_48 ["stamper", "part"]
 f_56:Fm K mg "stretch_terms" "stretch_terms" kO A.a_56 A.d_56 ["stamper", "bits", "low", "high", "paper"]
 f_55:Fm K mg "stretch_mark" "stretch_mark" kY A.a_55 A.d_55 ["stamper", "bits", "low", "high", "paper"]
 f_0:Fun K "__init__" "Broken.__init__" s_0 A.a_0 A.d_0
 b_0:dc K A.d_0 ["self", "due", "came"] []
 f_49:Fm K mg "rows_within" "rows_within" vF A.a_49 A.d_49 ["low", "high", "terms"]
 f_54:Fm K mg "stretch_answer" "stretch_answer" lh A.a_54 A.d_54 ["stamper", "bits", "mark", "low", "high", "paper"]
 f_50:Fm K mg "side" "side" ui A.a_50 A.d_50 ["bits", "key", "depth"]
 f_51:Fm K mg "slip_from" "slip_from" lq A.a_51 A.d_51 ["stamper", "bits", "low", "high", "paper", "key"]
 f_2:Fm K mg "_law_ask" "_law_ask" s_2 A.a_2 A.d_2 ["_law_way", "_law_stamper", "_law_bits_here", "_law_mark_here", "_law_low", "_law_high", "_law_paper_here"]
 f_20:Fm K mg "_law_refusal" "_law_refusal" uI A.a_20 A.d_20 ["_law_way", "_law_stamper", "_law_bits_here", "_law_mark_here", "_law_low", "_law_high", "_law_paper_here"]
 f_19:Fm K mg "_law_part_alike" "_law_part_alike" uK A.a_19 A.d_19 ["_law_found", "_law_due"]
 f_25:Fm K mg "_law_term_alike" "_law_term_alike" uz A.a_25 A.d_25 ["_law_found", "_law_due"]
 f_22:Fm K mg "_law_spoilt_right" "_law_spoilt_right" vg A.a_22 A.d_22 ["_law_cell", "_law_stamper", "_law_bits_here", "_law_mark_here", "_law_low", "_law_high", "_law_paper_here", "_law_spots_here"]
 f_21:Fm K mg "_law_rows_alike" "_law_rows_alike" ut A.a_21 A.d_21 ["_law_found", "_law_due"]
 f_42:Fm K mg "is_step" "is_step" uh A.a_42 A.d_42 ["bits", "least", "thing"]
 f_30:Fm K mg "are_steps" "are_steps" uT A.a_30 A.d_30 ["bits", "thing"]
 f_35:Fm K mg "is_end" "is_end" uc A.a_35 A.d_35 ["bits", "key", "place", "thing"]
 f_40:Fm K mg "is_slip" "is_slip" vV A.a_40 A.d_40 ["bits", "key", "thing"]
 f_12:Fm K mg "_law_leaves" "_law_leaves" ug A.a_12 A.d_12 ["_law_part_here"]
 f_10:Fm K mg "_law_inner" "_law_inner" ue A.a_10 A.d_10 ["_law_part_here", "_law_low", "_law_high"]
 f_45:Fm K mg "law" "law" uG A.a_45 A.d_45 ["_law_script"]
 z_bool:mg "bool" =none
 z_int:mg "int" =none
 z_isinstance:mg "isinstance" =none
 z_len:mg "len" =none
 z_list:mg "list" =none
 z_max:mg "max" =none
 z_min:mg "min" =none
 z_ord:mg "ord" =none
 z_range:mg "range" =none
 z_str:mg "str" =none
 z_sum:mg "sum" =none
 z_tuple:mg "tuple" =none
 c_MOST_SIGNS:∃ t,mg "MOST_SIGNS" =some (.int 60 t)
 kc_27:A.d_27.code=.ref A.k_27
 mc_NoPart:mg "NoPart" =some (.ref A.c_NoPart)
 eo_NoPart:cA K A.c_NoPart
 mc_Broken:mg "Broken" =some (.ref A.c_Broken)
 eo_Broken:cA K A.c_Broken
 mc_NoKey:mg "NoKey" =some (.ref A.c_NoKey)
 eo_NoKey:cA K A.c_NoKey
 mc_StampError:mg "StampError" =some (.ref A.c_StampError)
 eo_StampError:cA K A.c_StampError
 er_NoKey:eQ K A.c_NoKey
 eg_NoPart:df K A.c_NoPart
 eg_Broken:df K A.c_Broken
 eg_NoKey:df K A.c_NoKey
 ef_NoPart_begin:HT.eh K A.c_NoPart "begin"
 ef_NoPart_depth:HT.eh K A.c_NoPart "depth"
 ef_Broken_came:HT.eh K A.c_Broken "came"
 ef_Broken_due:HT.eh K A.c_Broken "due"
 em_NoPart:qP K A.c_NoPart A.a_1
 em_Broken:qP K A.c_Broken A.a_0
 sb_NoPart_NoPart:fP K A.c_NoPart A.c_NoPart=some true
 sb_Broken_NoPart:fP K A.c_Broken A.c_NoPart=some false
 sb_NoKey_NoPart:fP K A.c_NoKey A.c_NoPart=some false
 ki_NoPart_StampError:W.kitOne K (.ref A.c_NoPart) (.ref A.c_StampError)=some true
 ki_Broken_StampError:W.kitOne K (.ref A.c_Broken) (.ref A.c_StampError)=some true
 ki_NoKey_StampError:W.kitOne K (.ref A.c_NoKey) (.ref A.c_StampError)=some true
def Ea (A:Adr) (H:Hp):Prop:=H A.t_27=some (.tbl #[])∧([A.t_27]:List Addr).Nodup
theorem jx:jD ["_law_term", "_law_total", "_law_part_here", "_law_signs", "_law_many"] ["_law_term"] ["_law_many"] fu.scope:=⟨rfl,rfl,rfl,by decide +kernel,rfl,rfl,by decide +kernel,by decide +kernel,by decide +kernel,by decide +kernel,by decide +kernel⟩
theorem Ge:aL ["_law_cell"] ["_law_cell"] (ap s_9):=scF
theorem nR:aL ["_law_script", "_law_k", "_law_number_here", "_law_cell"] ["_law_script", "_law_k"] (ap s_3):=scF
theorem mD:aL ["_law_bits_here", "_law_cell", "_law_others", "_law_many", "_law_number_here", "_law_flip"] ["_law_bits_here", "_law_cell", "_law_others"] (ap uf):=scF
theorem kK:aL ["_law_bits_here", "_law_one", "_law_other", "_law_low", "_law_high"] ["_law_bits_here", "_law_one", "_law_other"] (ap vQ):=scF
theorem DA:aL ["_law_cell", "_law_depth", "_law_begin_here"] ["_law_cell", "_law_depth", "_law_begin_here"] (ap vp):=scF
theorem wU:aL ["_law_bits_here", "_law_low", "_law_high", "_law_depth", "_law_begin_here", "_law_wide"] ["_law_bits_here", "_law_low", "_law_high", "_law_depth", "_law_begin_here"] (ap uR):=scF
theorem wO:aL ["_law_number_here"] ["_law_number_here"] (ap vq):=scF
theorem fM:aL ["_law_cell", "_law_signs", "_law_size", "_law_made", "_law_k"] ["_law_cell"] (ap ux):=scF
theorem zd:aL ["_law_number_here", "_law_begin_here", "_law_more", "_law_low", "_law_high", "_law_free", "_law_own"] ["_law_number_here", "_law_begin_here", "_law_more", "_law_low", "_law_high", "_law_free"] (ap s_8):=scF
theorem fQ:aL ["_law_cell", "_law_bits_here", "_law_low", "_law_high", "_law_depth", "_law_begin_here", "_law_deep", "_law_number_here", "_law_free", "_law_key_here", "_law_more", "_law_own", "_law_left", "_law_right"] ["_law_cell", "_law_bits_here", "_law_low", "_law_high", "_law_depth", "_law_begin_here", "_law_deep"] (ap vL):=scF
theorem rj:aL ["_law_cell", "_law_bits_here", "_law_low", "_law_high", "_law_deep"] ["_law_cell", "_law_bits_here", "_law_low", "_law_high"] (ap ul):=scF
theorem wC:aL ["_law_many", "_law_short"] ["_law_many"] (ap jJ):=scF
theorem mw:aL ["_law_stamper", "_law_part_here", "_law_left", "_law_right", "_law_own"] ["_law_stamper", "_law_part_here"] (ap ub):=scF
theorem mJ:aL ["_law_part_here", "_law_depth", "_law_begin_here", "_law_path", "_law_found"] ["_law_part_here", "_law_depth", "_law_begin_here", "_law_path"] (ap vM):=scF
theorem nZ:aL ["_law_bits_here", "_law_depth", "_law_begin_here", "_law_least", "_law_some"] ["_law_bits_here", "_law_depth", "_law_begin_here"] (ap s_5):=scF
theorem iv:aL ["_law_bits_here", "_law_depth", "_law_begin_here", "_law_wide", "_law_least", "_law_some"] ["_law_bits_here", "_law_depth", "_law_begin_here"] (ap s_7):=scF
theorem dZ:aL ["_law_bits_here", "_law_depth", "_law_begin_here", "_law_leaf", "_law_some", "_law_far"] ["_law_bits_here", "_law_depth", "_law_begin_here"] (ap s_6):=scF
theorem uy:aL ["_law_cell", "_law_bits_here", "_law_low", "_law_high", "_law_depth", "_law_begin_here", "_law_some"] ["_law_cell", "_law_bits_here", "_law_low", "_law_high", "_law_depth", "_law_begin_here"] (ap s_4):=scF
theorem vY:aL ["_law_part_here", "_law_path", "_law_new", "_law_at_here"] ["_law_part_here", "_law_path", "_law_new"] (ap vA):=scF
theorem Dv:aL ["thing"] ["thing"] (ap tX):=scF
theorem Cd:aL ["bits", "thing"] ["bits", "thing"] (ap vo):=scF
theorem Dq:aL ["bits", "low", "high"] ["bits", "low", "high"] (ap uX):=scF
theorem wW:aL ["bits", "depth", "begin", "rest"] ["bits", "depth", "begin"] (ap vH):=scF
theorem xo:aL ["bits", "low", "high", "depth", "begin", "ends"] ["bits", "low", "high", "depth", "begin"] (ap vR):=scF
theorem EY:aL ["thing"] ["thing"] (ap ur):=scF
theorem CT:aL ["thing"] ["thing"] (ap vm):=scF
theorem Dn:aL ["thing"] ["thing"] (ap vv):=scF
theorem ER:aL ["bits", "key", "depth"] ["bits", "key", "depth"] (ap uN):=scF
theorem Fb:aL ["bits", "depth", "begin", "thing"] ["bits", "depth", "begin", "thing"] (ap uE):=scF
theorem Cp:aL ["bits", "depth", "begin", "thing"] ["bits", "depth", "begin", "thing"] (ap tY):=scF
theorem DS:aL ["bits", "low", "high", "depth", "begin", "thing"] ["bits", "low", "high", "depth", "begin", "thing"] (ap uJ):=scF
theorem Gr:aL ["self", "depth", "begin"] ["self", "depth", "begin"] (ap s_1):=scF
theorem DH:aL ["bits", "low", "high", "depth", "begin", "part"] ["bits", "low", "high", "depth", "begin", "part"] (ap kQ):=scF
theorem CV:aL ["bits", "low", "high", "paper"] ["bits", "low", "high", "paper"] (ap kX):=scF
theorem DL:aL ["stamper", "part", "terms"] ["stamper", "part", "terms"] (ap uO):=scF
theorem lW:aL ["stamper", "part", "left", "right", "marks"] ["stamper", "part"] (ap vJ):=scF
theorem CW:aL ["stamper", "bits", "low", "high", "paper"] ["stamper", "bits", "low", "high", "paper"] (ap kO):=scF
theorem Cr:aL ["stamper", "bits", "low", "high", "paper"] ["stamper", "bits", "low", "high", "paper"] (ap kY):=scF
theorem Hk:aL ["self", "due", "came"] ["self", "due", "came"] (ap s_0):=scF
theorem CK:aL ["low", "high", "terms"] ["low", "high", "terms"] (ap vF):=scF
theorem qi:aL ["stamper", "bits", "mark", "low", "high", "paper", "terms", "came"] ["stamper", "bits", "mark", "low", "high", "paper"] (ap lh):=scF
theorem Ca:aL ["bits", "key", "depth"] ["bits", "key", "depth"] (ap ui):=scF
theorem jj:aL ["stamper", "bits", "low", "high", "paper", "key", "steps", "part", "turn", "aside"] ["stamper", "bits", "low", "high", "paper", "key"] (ap lq):=scF
theorem Gk:aL ["_law_way", "_law_stamper", "_law_bits_here", "_law_mark_here", "_law_low", "_law_high", "_law_paper_here"] ["_law_way", "_law_stamper", "_law_bits_here", "_law_mark_here", "_law_low", "_law_high", "_law_paper_here"] (ap s_2):=scF
theorem mj:aL ["_law_way", "_law_stamper", "_law_bits_here", "_law_mark_here", "_law_low", "_law_high", "_law_paper_here", "_law_found", "e"] ["_law_way", "_law_stamper", "_law_bits_here", "_law_mark_here", "_law_low", "_law_high", "_law_paper_here"] (ap uI):=scF
theorem Di:aL ["_law_found", "_law_due"] ["_law_found", "_law_due"] (ap uK):=scF
theorem wL:aL ["_law_found", "_law_due", "_law_k"] ["_law_found", "_law_due"] (ap uz):=scF
theorem fJ:aL ["_law_cell", "_law_stamper", "_law_bits_here", "_law_mark_here", "_law_low", "_law_high", "_law_paper_here", "_law_spots_here", "_law_one", "_law_other", "_law_spoilt", "_law_at_here", "_law_bad_here", "_law_found"] ["_law_cell", "_law_stamper", "_law_bits_here", "_law_mark_here", "_law_low", "_law_high", "_law_paper_here", "_law_spots_here"] (ap vg):=scF
theorem xf:aL ["_law_found", "_law_due", "_law_k"] ["_law_found", "_law_due"] (ap ut):=scF
theorem Dd:aL ["bits", "least", "thing"] ["bits", "least", "thing"] (ap uh):=scF
theorem lY:aL ["bits", "thing", "least", "step"] ["bits", "thing"] (ap uT):=scF
theorem wY:aL ["bits", "key", "place", "thing", "begin"] ["bits", "key", "place", "thing"] (ap uc):=scF
theorem ww:aL ["bits", "key", "thing", "place"] ["bits", "key", "thing"] (ap vV):=scF
theorem CY:aL ["_law_part_here"] ["_law_part_here"] (ap ug):=scF
theorem Cq:aL ["_law_part_here", "_law_low", "_law_high"] ["_law_part_here", "_law_low", "_law_high"] (ap ue):=scF
theorem gE:aL ["_law_script", "_law_bits_here", "_law_low", "_law_high", "_law_paper_here", "_law_stamper", "_law_mark_here", "_law_terms", "_law_spots_here", "_law_cell"] ["_law_script"] (ap uG):=scF
inductive Dat where
 | non
 | bl (b:Bool)
 | int (i:Int)
 | str (z:Str)
 | lst (ds:List Dat)
 | tup (ds:List Dat)
 | dic
mutual
inductive aR (H:Hp):V→Dat→Prop
 | non:aR H .non .non
 | bl (b):aR H (.bl b) (.bl b)
 | int (i):aR H (.int i) (.int i)
 | str (z):aR H (.str z) (.str z)
 | lst {a xs ds}:H a=some (.lst xs)→DatWs H xs ds→aR H (.ref a) (.lst ds)
 | tup {a xs ds}:H a=some (.tup xs)→DatWs H xs ds→aR H (.ref a) (.tup ds)
 | dic {a}:(∃ kvs,H a=some (.dK kvs))→aR H (.ref a) .dic
inductive DatWs (H:Hp):List V→List Dat→Prop
 | nil:DatWs H [] []
 | cons {x xs d ds}:aR H x d→DatWs H xs ds→DatWs H (x::xs) (d::ds)
end
mutual
def dA:Dat→PyData
 | .non=> .none
 | .bl b=> .bool b
 | .int i=> .int i
 | .str z=> .str z
 | .lst ds=> .list (toPys ds)
 | .tup ds=> .tuple (toPys ds)
 | .dic=> .none
def toPys:List Dat→List PyData
 | []=>[]
 | d::r=>dA d::toPys r
end
def cM (z:Str):Bool:=z.cps.all (·<128)
mutual
def okD:Dat→Bool
 | .str z=>cM z&&decide (z.length≤100000)
 | .lst ds=>okDs ds
 | .tup ds=>okDs ds
 | .dic=>false
 | .non=>true
 | .bl _=>true
 | .int _=>true
def okDs:List Dat→Bool
 | []=>true
 | d::r=>okD d&&okDs r
end
def um:Dat→Bool
 | .int _=>true
 | _=>false
def bH:Dat→Bool
 | .int i=>decide (0≤i∧i<10^60)
 | .str _=>true
 | _=>false
def bv (w:Str):Dat→Bool
 | .str z=>decide (z=w)
 | _=>false
def fD (bits:Int):Dat→Bool
 | .int i=>decide (0≤i∧i<2^bits.toNat)
 | _=>false
def dP:Dat→Bool
 | .str z=>decide (z.length≤60)
 | _=>false
def bd (bits key depth:Int):Int:=key/2^(bits - depth).toNat
def cZ (bits depth begin:Int):Dat→Bool
 | .tup [w,.int k,z]=>bv "leaf" w&&decide (0≤k∧k<2^bits.toNat)&&dP z&&decide (bd bits k depth=begin)
 | _=>false
def cz (bits depth begin:Int):Dat→Bool
 | .tup [w,.int e,.int b,_,_]=>bv "fork" w&&decide (depth≤e∧e<bits)&&decide (0≤b∧b<2^e.toNat)&&decide (b/2^(e - depth).toNat=begin)
 | _=>false
def dF:Dat→Bool
 | .tup [w]=>bv "bare" w
 | _=>false
def dk (bits least:Int):Dat→Bool
 | .tup [.int d,m]=>decide (least≤d∧d<bits)&&bH m
 | _=>false
def fW:Dat→Int
 | .tup (.int d::_)=>d
 | _=>0
def bL (bits:Int):Int→List Dat→Bool
 | _,[]=>true
 | least,s::r=>dk bits least s&&bL bits (fW s+1) r
def vX (bits key:Int):Dat→Bool
 | .tup [_,.int e,.int b,m,n]=> !decide (b=bd bits key e)&&bH m&&bH n
 | _=>false
def eR (bits key place:Int) (d:Dat):Bool:=
 if dF d then decide (place=0)
 else cZ bits place (bd bits key place) d||(cz bits place (bd bits key place) d&&vX bits key d)
def gX (ds:List Dat):Int:=match ds.getLast? with
 | some s=>fW s+1
 | none=>0
def gS (bits key:Int):Dat→Bool
 | .tup [.tup ds,e]=>bL bits 0 ds&&eR bits key (gX ds) e
 | _=>false
def cb (d:Dat):Prop:=(okD d=true∧(dA d).depth≤140)∨d=.dic∨∃ x y l r,d=.tup [.str "fork",x,y,l,r]
def gA (K:W.Frag) (A:Adr):Sp:=fun vs H Q _=>∃ v d,vs=[v]∧aR H v d∧Q (.bl (um d)) H
def ie (K:W.Frag) (A:Adr):Sp:=fun vs H Q _=>∃ v d,vs=[v]∧aR H v d∧Q (.bl (bH d)) H
def ir (K:W.Frag) (A:Adr):Sp:=fun vs H Q _=>∃ (b k d:Int),vs=[.int b,.int k,.int d]∧d≤b∧Q (.int (bd b k d)) H
def ib (K:W.Frag) (A:Adr):Sp:=fun vs H Q _=>∃ (b:Int) (v:V) (d:Dat),vs=[.int b,v]∧0≤b∧b≤60∧aR H v d∧Q (.bl (fD b d)) H
def mi (K:W.Frag) (A:Adr):Sp:=fun vs H Q _=>∃ (v:V) (d:Dat),vs=[v]∧aR H v d∧okD d=true∧Q (.bl (dP d)) H
def kB (K:W.Frag) (A:Adr):Sp:=fun vs H Q _=>∃ (b p g:Int) (v:V) (d:Dat),vs=[.int b,.int p,.int g,v]∧0≤b∧b≤60∧p≤b∧aR H v d∧cb d∧Q (.bl (cZ b p g d)) H
def jW (K:W.Frag) (A:Adr):Sp:=fun vs H Q _=>∃ (b p g:Int) (v:V) (d:Dat),vs=[.int b,.int p,.int g,v]∧0≤p∧b≤60∧p≤b∧aR H v d∧cb d∧Q (.bl (cz b p g d)) H
def me (K:W.Frag) (A:Adr):Sp:=fun vs H Q _=>∃ (b l:Int) (v:V) (d:Dat),vs=[.int b,.int l,v]∧aR H v d∧Q (.bl (dk b l d)) H
def ma (K:W.Frag) (A:Adr):Sp:=fun vs H Q _=>∃ (b:Int) (v:V) (d:Dat),vs=[.int b,v]∧aR H v d∧Q (.bl (match d with | .tup ds=>bL b 0 ds | _=>false)) H
def mt (K:W.Frag) (A:Adr):Sp:=fun vs H Q _=>∃ (b k p:Int) (v:V) (d:Dat),vs=[.int b,.int k,.int p,v]∧0≤p∧b≤60∧p≤b∧aR H v d∧cb d∧∀ H',ar H H'→Q (.bl (eR b k p d)) H'
def sv:Dat→Prop
 | .tup [_,e]=>cb e
 | _=>True
def mB (K:W.Frag) (A:Adr):Sp:=fun vs H Q _=>∃ (b k:Int) (v:V) (d:Dat),vs=[.int b,.int k,v]∧0≤b∧b≤60∧aR H v d∧sv d∧∀ H',ar H H'→Q (.bl (gS b k d)) H'
def bW:Key→Dat
 | .inl i=> .int i
 | .inr z=> .str z
def szK:Key→Nat
 | .inl _=>62
 | .inr z=>z.length+62
def sN (m:Key):Prop:=bH (bW m)=true∧okD (bW m)=true∧szK m≤1062
def stD (s:Int×Key):Dat:=.tup [.int s.1,bW s.2]
def dq (low:Int) (ds:List Dat):Int:=match ds.getLast? with
 | some s=>fW s+1
 | none=>low
def il (K:W.Frag) (A:Adr):Sp:=fun vs H Q _=>∃ (a:Addr) (ns:List Int) (k:Int),vs=[.ref a,.int k]∧SqL K H a (ns.map V.int)∧0≤k∧∀ (z:Int) (H':Hp),ar H H'→Q (.int z) H'
def pQ (K:W.Frag) (A:Adr):Sp:=fun vs H Q _=>∃ c:Int,vs=[.int c]∧∀ (b:Int) (H':Hp),ar H H'→1≤b→b≤60→Q (.int b) H'
def kD (K:W.Frag) (A:Adr):Sp:=fun vs H Q _=>∃ (b c:Int) (o:Addr) (ks:List Int),vs=[.int b,.int c,.ref o]∧1≤b∧b≤60∧H o=some (.lst (ks.map V.int))∧ks.length≤1∧(∀ k∈ks,0≤k∧k<2^b.toNat)∧∀ (k:Int) (H':Hp),ar H H'→0≤k→k<2^b.toNat→Q (.int k) H'
def jl (K:W.Frag) (A:Adr):Sp:=fun vs H Q _=>∃ c:Int,vs=[.int c]∧∀ (z:Str) (H':Hp),ar H H'→z.length≤60→cM z=true→Q (.str z) H'
def my (K:W.Frag) (A:Adr):Sp:=fun vs H Q _=>∃ c:Int,vs=[.int c]∧∀ m:Key,sN m→Q (kV m) H
def okP:Key→Bool
 | .inl i=>decide (0≤i∧i<10^60)
 | .inr z=>cM z&&decide (z.length≤100000)
def kd:Key→Bool
 | .inr _=>true
 | .inl _=>false
def okT (k:List Key):Bool:=decide (1≤k.length∧k.length≤8)&&(k.head?.map kd).getD false&&k.all okP
def szT (k:List Key):Nat:=(k.map szK).sum
def qT (k:List Key):Key→Prop
 | .inl i=>0≤i∧i<10^60
 | .inr z=>cM z=true∧z.length≤szT k
def gF (t:Int):Key→Int
 | .inr z=>t*7+z.length+2*((PySem.Txt.slice z none (some 2)).cps.toList.map fun c=>((c:Nat):Int)).sum
 | .inl i=>t*5+i
def fO (m:Int) (k:List Key):Key:=.inl (k.foldl gF 0%m)
def bz (b:Addr) (H H':Hp):Prop:=∀ x o,x≠b→H x=some o→H' x=some o
structure Stp (A:Adr) (H:Hp) (f b:Addr) (g:gOp) (n:Nat):Prop where
 at_:∃ (q:Addr) (m:Int),1≤m∧m≤2000000∧eM H f fu [q] [.int m]∧b=f∧g=fun k=>some (fO m k)
def Sub (g g':gOp):Prop:=∀ k v,g k=some v→g' k=some v
def Ext (g:gOp) (h:List Key→Key):Prop:=∀ k v,g k=some v→h k=v
abbrev PK (H:Hp):List Addr→List (List Key)→Prop:=Paired (fun (p:Addr) (k:List Key)=>H p=some (.tup (k.map kV))∧okT k=true)
def rd (K:W.Frag) (A:Adr):Sp:=fun vs H Q _=>∃ (p:Addr) (m:Int) (k:List Key),vs=[.ref p,.int m]∧1≤m∧m≤2000000∧H p=some (.tup (k.map kV))∧okT k=true∧∀ H',ar H H'→Q (kV (fO m k)) H'
def de (P:Addr) (H H':Hp):Prop:=∀ b o,H b=some o→b≠P→H' b=some o
def MkQ (A:Adr) (P:Addr) (H:Hp) (Q:VK):Prop:=∀ (f b:Addr) (g:gOp) (H':Hp),de P H H'→Stp A H' f b g 0→H b=none→Q (.ref f) H'
def lV (K:W.Frag) (A:Adr):Sp:=fun vs H Q _=>∃ m:Int,vs=[.int m]∧1≤m∧m≤2000000∧H A.t_27=some (.tbl #[])∧MkQ A A.t_27 H Q
def lX (K:W.Frag) (A:Adr):Sp:=fun vs H Q _=>∃ x:Key,vs=[kV x,kV x]∧Q (.bl true) H
def kg (K:W.Frag) (A:Adr):Sp:=fun vs H Q _=>∃ (p r:Addr) (k:List Key),vs=[.ref p,.ref r]∧H p=some (.tup (k.map kV))∧H r=some (.tup (k.map kV))∧k.length≤8∧Q (.bl true) H
def szS (st:List (Int×Key)):Nat:=(st.map fun s=>szK s.2+252).sum
structure nC (b k:Int) (st:List (Int×Key)) (e:List Key):Prop where
 b1:1≤b
 b60:b≤60
 k0:0≤k
 k1:k<2^b.toNat
 gs:bL b 0 (st.map stD)=true
 so:∀ s∈st,okP s.2=true
 et:okT e=true
 en:eR b k (dq 0 (st.map stD)) (.tup (e.map bW))=true
 sz:szT e+szS st≤100000
def mL (K:W.Frag) (A:Adr):Sp:=fun vs H Q _=>∃ (b k d:Int),vs=[.int b,.int k,.int d]∧d<b∧0≤k∧Q (.int (k/2^(b - d - 1).toNat%2)) H
def rg (K:W.Frag) (A:Adr):Sp:=fun vs H Q _=>∃ (a:Addr) (x y:V),vs=[.ref a,x,y]∧H a=some (eD A.c_Broken a none)∧∀ dx,H dx=none→Q .non (upd (upd (upd H a (eD A.c_Broken a (some dx))) dx (fI [("due",x)] dx)) dx (fI (iq "came" y [("due",x)]) dx))
inductive aP where
 | cut (m:Key)
 | bare
 | leaf (k:Int) (z:Str)
 | fork (d b:Int) (l r:aP)
def bc:aP→Dat
 | .cut m=> .tup [.str "cut",bW m]
 | .bare=> .tup [.str "bare"]
 | .leaf k z=> .tup [.str "leaf",.int k,.str z]
 | .fork d b l r=> .tup [.str "fork",.int d,.int b,bc l,bc r]
def ci (b lo hi d g:Int):Bool:=decide (g*2^(b - d).toNat≤hi)&&decide (lo≤(g+1)*2^(b - d).toNat - 1)
def bO (b lo hi:Int):Int→Int→aP→Prop
 | d,g,.cut m=>ci b lo hi d g=false∧okP m=true∧szK m≤1062
 | d,g,.bare=>ci b lo hi d g=true∧d=0
 | d,g,.leaf k z=>ci b lo hi d g=true∧0≤k∧k<2^b.toNat∧z.length≤60∧cM z=true∧bd b k d=g
 | d,g,.fork e x l r=>ci b lo hi d g=true∧d≤e∧e<b∧0≤x∧x<2^e.toNat∧x/2^(e - d).toNat=g∧bO b lo hi (e+1) (2*x) l∧bO b lo hi (e+1) (2*x+1) r
def aK:aP→Nat
 | .fork _ _ l r=>aK l+aK r+1
 | _=>0
def bj:aP→Nat
 | .fork _ _ l r=>max (bj l) (bj r)+1
 | _=>0
def dm:aP→Nat
 | .cut _=>0
 | .fork _ _ l r=>dm l+dm r+1
 | _=>1
def ei:aP→Bool
 | .cut _=>true
 | _=>false
def bM (h:List Key→Key):aP→Key
 | .cut m=>m
 | .bare=>h [.inr "bare"]
 | .leaf k z=>h [.inr "leaf",.inl k,.inr z]
 | .fork d b l r=>h [.inr "fork",.inl d,.inl b,bM h l,bM h r]
def bF (h:List Key→Key):aP→List (List Key)
 | .cut _=>[]
 | .bare=>[[.inr "bare"]]
 | .leaf k z=>[[.inr "leaf",.inl k,.inr z]]
 | .fork d b l r=>bF h l++bF h r++[[.inr "fork",.inl d,.inl b,bM h l,bM h r]]
def szP:aP→Nat
 | .cut m=>szK m
 | .bare=>128
 | .leaf _ _=>312
 | .fork _ _ l r=>252+szP l+szP r
def dG (h:List Key→Key):aP→List Key
 | .cut _=>[]
 | .bare=>[.inr "bare"]
 | .leaf k z=>[.inr "leaf",.inl k,.inr z]
 | .fork d b l r=>[.inr "fork",.inl d,.inl b,bM h l,bM h r]
def si (p:aP) (ts:List (List Key)):Prop:=∀ t,ts.getLast?=some t→szT t+62≤szP p
def bS:aP→List (Int×Str)
 | .leaf k z=>[(k,z)]
 | .fork _ _ l r=>bS l++bS r
 | _=>[]
structure cK (b lo hi:Int):Prop where
 b1:1≤b
 b60:b≤60
 lo0:0≤lo
 le:lo≤hi
 hi1:hi<2^b.toNat
structure wz (H:Hp) (v:V) (b lo hi d g:Int) (p:aP):Prop where
 w:aR H v (bc p)
 ok:bO b lo hi d g p
 d0:0≤d
 d1:d≤b
 g0:0≤g
 g1:g<2^d.toNat
def nK (x:Int×Str):List Key:=[.inl x.1,.inr x.2]
abbrev PR (H:Hp):List Addr→List (Int×Str)→Prop:=Paired (fun (p:Addr) (x:Int×Str)=>H p=some (.tup ((nK x).map kV)))
def inI (lo hi:Int) (x:Int×Str):Bool:=decide (lo≤x.1)&&decide (x.1≤hi)
def lT (K:W.Frag) (A:Adr):Sp:=fun vs H Q _=>∃ b c e:Int,vs=[.int b,.int c,.int e]∧1≤b∧b≤60∧∀ (p:Addr) (lo hi:Int) (H':Hp),ar H H'→H' p=some (.tup [.int lo,.int hi])→cK b lo hi→Q (.ref p) H'
structure da (H:Hp) (v:V) (b lo hi:Int) (p:aP):Prop where
 e:cK b lo hi
 w:wz H v b lo hi 0 0 p
 f:aK p≤60
 t:bj p≤60
 z:szP p≤90000
def mF (K:W.Frag) (A:Adr):Sp:=fun vs H Q _=>∃ b d g:Int,vs=[.int b,.int d,.int g]∧0≤d∧d≤b∧b≤60∧0≤g∧g<2^d.toNat∧∀ p,H p=none→Q (.ref p) (upd H p (.tup [.int (g*2^(b - d).toNat),.int ((g+1)*2^(b - d).toNat - 1)]))
def mP (K:W.Frag) (A:Adr):Sp:=fun vs H Q _=>∃ b lo hi d g:Int,vs=[.int b,.int lo,.int hi,.int d,.int g]∧0≤d∧d≤b∧b≤60∧0≤g∧g<2^d.toNat∧∀ H',ar H H'→Q (.bl (ci b lo hi d g)) H'
structure dj (H:Hp) (v:V) (p:aP):Prop where
 w:aR H v (bc p)
 ok:∃ b lo hi d g:Int,cK b lo hi∧0≤d∧d≤b∧bO b lo hi d g p
 f:aK p≤60
 z:szP p≤90000
def ft (K:W.Frag) (A:Adr) (j:Nat):Sp:=fun vs H Q _=>∃ (f b:Addr) (v:V) (p:aP) (g:gOp) (n:Nat),vs=[.ref f,v]∧dj H v p∧bj p<j∧Stp A H f b g n∧n+2*aK p≤42000∧
 ∀ (L:Addr) (ps:List Addr) (ts:List (List Key)) (g':gOp) (H':Hp),bz b H H'→Stp A H' f b g' (n+2*aK p)→Sub g g'→H' L=some (.lst (ps.map V.ref))→PK H' ps ts→(∀ h,Ext g' h→ts=bF h p)→si p ts→Q (.ref L) H'
def iJ (K:W.Frag) (A:Adr):Sp:=fun vs H Q _=>∃ (f b L:Addr) (v:V) (p:aP) (ps:List Addr) (ts:List (List Key)) (g:gOp) (n:Nat),vs=[.ref f,v,.ref L]∧dj H v p∧Stp A H f b g n∧n≤44000∧H L=some (.lst (ps.map V.ref))∧PK H ps ts∧(∀ h,Ext g h→ts=bF h p)∧si p ts∧
 ∀ (x:Key) (g':gOp) (H':Hp),bz b H H'→Stp A H' f b g' (n+1)→Sub g g'→(∀ h,Ext g' h→x=bM h p)→okP x=true→szK x≤szP p→Q (kV x) H'
def lU (K:W.Frag) (A:Adr):Sp:=fun vs H Q _=>∃ (L:Addr) (lo hi:Int) (ps:List Addr) (h:List Key→Key) (p:aP),vs=[.int lo,.int hi,.ref L]∧H L=some (.lst (ps.map V.ref))∧PK H ps (bF h p)∧(bF h p).length≤1000∧
 ∀ (M:Addr) (rs:List Addr) (H':Hp),ar H H'→H M=none→H' M=some (.lst (rs.map V.ref))→PR H' rs ((bS p).filter (inI lo hi))→Q (.ref M) H'
abbrev PT (H:Hp):List Addr→List (List Key)→Prop:=Paired (fun (p:Addr) (k:List Key)=>H p=some (.tup (k.map kV))∧k.length≤8)
def jU (K:W.Frag) (A:Adr):Sp:=fun vs H Q _=>∃ (L M:Addr) (ps rs:List Addr) (ts:List (List Key)),vs=[.ref L,.ref M]∧H L=some (.lst (ps.map V.ref))∧H M=some (.lst (rs.map V.ref))∧PT H ps ts∧PT H rs ts∧ts.length≤1000∧Q (.bl true) H
def mI (K:W.Frag) (A:Adr):Sp:=fun vs H Q _=>∃ c d g:Int,vs=[.int c,.int d,.int g]∧∀ n:Int,0≤n→n<999983→Q (.int n) H
def kh (K:W.Frag) (A:Adr):Sp:=fun vs H Q _=>∃ b lo hi d g:Int,vs=[.int b,.int lo,.int hi,.int d,.int g]∧cK b lo hi∧0≤d∧d≤b∧0≤g∧g<2^d.toNat∧Q (.bl (ci b lo hi d g)) H
def rh (K:W.Frag) (A:Adr):Sp:=fun vs H Q _=>∃ b n g m lo hi f:Int,vs=[.int n,.int g,.int m,.int lo,.int hi,.int f]∧cK b lo hi∧0≤n∧n<999983∧0≤g∧0≤m∧m<f∧f≤b∧g<2^(b - f).toNat∧∀ x:Int,0≤x→x<2^(b - f+m).toNat→x/2^m.toNat=g→Q (.int x) H
def iB (K:W.Frag) (A:Adr) (n:Nat):Sp:=fun vs H Q _=>∃ c b lo hi d g y:Int,vs=[.int c,.int b,.int lo,.int hi,.int d,.int g,.int y]∧cK b lo hi∧0≤d∧d≤b∧0≤g∧g<2^d.toNat∧0≤y∧y≤60∧b - d<n∧
 ∀ (v:V) (p:aP) (H':Hp),ar H H'→wz H' v b lo hi d g p→aK p≤2^y.toNat - 1→(lo=hi→(aK p:Int)≤b - d)→(bj p:Int)≤b - d→Q v H'
def mU (K:W.Frag) (A:Adr):Sp:=fun vs H Q _=>∃ c b lo hi:Int,vs=[.int c,.int b,.int lo,.int hi]∧cK b lo hi∧∀ (v:V) (p:aP) (H':Hp),ar H H'→da H' v b lo hi p→aK p≤60→Q v H'
def hV (K:W.Frag) (A:Adr) (j:Nat):Sp:=fun vs H Q _=>∃ (v:V) (p:aP),vs=[v]∧aR H v (bc p)∧bj p<j∧aK p≤70∧
 ∀ (M:Addr) (rs:List Addr) (H':Hp),ar H H'→H M=none→H' M=some (.lst (rs.map V.ref))→PR H' rs (bS p)→Q (.ref M) H'
def md (K:W.Frag) (A:Adr):Sp:=fun vs H Q _=>∃ (v:V) (p:aP) (lo hi:Int),vs=[v,.int lo,.int hi]∧aR H v (bc p)∧bj p≤60∧aK p≤70∧
 ∀ (M:Addr) (rs:List Addr) (H':Hp),ar H H'→H M=none→H' M=some (.lst (rs.map V.ref))→PR H' rs ((bS p).filter (inI lo hi))→Q (.ref M) H'
def cV (b k:Int):aP→List (Int×aP)×aP
 | .fork e x l r=>if bd b k e=x then (if k/2^(b - e - 1).toNat%2=0 then ((e,r)::(cV b k l).1,(cV b k l).2) else ((e,l)::(cV b k r).1,(cV b k r).2)) else ([],.fork e x l r)
 | p=>([],p)
def cx (h:List Key→Key) (b k:Int) (p:aP):List (Int×Key):=(cV b k p).1.map fun s=>(s.1,bM h s.2)
def eO (h:List Key→Key) (b k:Int) (p:aP):List Key:=dG h (cV b k p).2
def tF (H:Hp) (v:V) (st:List (Int×Key)) (e:List Key):Prop:=aR H v (.tup [.tup (st.map stD),.tup (e.map bW)])
def fB:Dat→Bool
 | .tup [w,m]=>bv "cut" w&&bH m
 | _=>false
def bZ (b lo hi d g:Int) (x:Dat):Bool:=if ci b lo hi d g then (if dF x then decide (d=0) else cZ b d g x||cz b d g x) else fB x
def cr (e y:Int) (l r:Dat):Dat:=.tup [.str "fork",.int e,.int y,l,r]
inductive Ck (b lo hi:Int):Nat→Int→Int→Dat→Option (Int×Int)→Prop
 | no {n:Nat} {d g:Int} {x:Dat} (h:bZ b lo hi d g x=false) (ok:cb x):Ck b lo hi (n+1) d g x (some (d,g))
 | one {n:Nat} {d g:Int} {p:aP} (h:bO b lo hi d g p) (nf:∀ e y l r,p≠ .fork e y l r):Ck b lo hi (n+1) d g (bc p) none
 | left {n:Nat} {d g e y:Int} {l r:Dat} {z:Int×Int} (h:∀ l' r',bZ b lo hi d g (cr e y l' r')=true) (he:d≤e∧e<b∧0≤y∧y<2^e.toNat) (k:Ck b lo hi n (e+1) (2*y) l (some z)):Ck b lo hi (n+1) d g (cr e y l r) (some z)
 | right {n:Nat} {d g e y:Int} {l r:Dat} {z:Option (Int×Int)} (h:∀ l' r',bZ b lo hi d g (cr e y l' r')=true) (he:d≤e∧e<b∧0≤y∧y<2^e.toNat) (k:Ck b lo hi n (e+1) (2*y) l none) (k2:Ck b lo hi n (e+1) (2*y+1) r z):Ck b lo hi (n+1) d g (cr e y l r) z
def lf (A:Adr) (H:Hp) (z:Int×Int) (E:XK):Prop:=∀ (dx:Addr) (H':Hp),ar H H'→H' dx=some (fI (iq "begin" (.int z.2) [("depth",.int z.1)]) dx)→E (.ref A.c_NoPart) (some dx) H'
structure Plc (b d g:Int):Prop where
 d0:0≤d
 d1:d≤b
 g0:0≤g
 g1:g<2^d.toNat
inductive iA (A:Adr) (H:Hp) (b lo hi:Int) (v:V) (E:XK) (R:aP→Prop):Prop
 | bad (x:Dat) (z:Int×Int) (hd:aR H v x) (h:Ck b lo hi 70 0 0 x (some z)) (q:lf A H z E)
 | good (p:aP) (w:da H v b lo hi p) (q:R p)
def kA (K:W.Frag) (A:Adr):Sp:=fun vs H Q _=>∃ b lo hi:Int,vs=[.int b,.int lo,.int hi]∧cK b lo hi∧Q .non H
def mG (K:W.Frag) (A:Adr):Sp:=fun vs H Q _=>∃ (v:V) (x:Dat),vs=[v]∧aR H v x∧cb x∧Q (.bl (fB x)) H
def lZ (K:W.Frag) (A:Adr):Sp:=fun vs H Q _=>∃ (b lo hi d g:Int) (v:V) (x:Dat),vs=[.int b,.int lo,.int hi,.int d,.int g,v]∧cK b lo hi∧Plc b d g∧aR H v x∧cb x∧∀ H',ar H H'→Q (.bl (bZ b lo hi d g x)) H'
def pY (K:W.Frag) (A:Adr):Sp:=fun vs H Q _=>∃ (a:Addr) (x y:V),vs=[.ref a,x,y]∧H a=some (eD A.c_NoPart a none)∧∀ dx,H dx=none→Q .non (upd (upd (upd H a (eD A.c_NoPart a (some dx))) dx (fI [("depth",x)] dx)) dx (fI (iq "begin" y [("depth",x)]) dx))
def fq (K:W.Frag) (A:Adr) (n:Nat):Sp:=fun vs H Q E=>∃ (b lo hi d g:Int) (v:V) (x:Dat) (o:Option (Int×Int)),vs=[.int b,.int lo,.int hi,.int d,.int g,v]∧cK b lo hi∧Plc b d g∧aR H v x∧Ck b lo hi n d g x o∧(o=none→∀ H',ar H H'→Q .non H')∧∀ z,o=some z→lf A H z E
def mS (K:W.Frag) (A:Adr):Sp:=fun vs H Q E=>∃ (b lo hi:Int) (u:V),vs=[.int b,.int lo,.int hi,u]∧cK b lo hi∧iA A H b lo hi u E fun _=>∀ H',ar H H'→Q .non H'
def hZ (K:W.Frag) (A:Adr):Sp:=fun vs H Q E=>∃ (f b:Addr) (c lo hi:Int) (u:V) (g:gOp) (n:Nat),vs=[.ref f,.int c,.int lo,.int hi,u]∧cK c lo hi∧Stp A H f b g n∧n≤40000∧iA A H c lo hi u E fun p=>
 ∀ (L:Addr) (ps:List Addr) (ts:List (List Key)) (g':gOp) (H':Hp),bz b H H'→Stp A H' f b g' (n+200)→Sub g g'→H' L=some (.lst (ps.map V.ref))→PK H' ps ts→(∀ h,Ext g' h→ts=bF h p)→Q (.ref L) H'
def mh (K:W.Frag) (A:Adr):Sp:=fun vs H Q E=>∃ (f b:Addr) (c lo hi:Int) (u:V) (g:gOp) (n:Nat),vs=[.ref f,.int c,.int lo,.int hi,u]∧cK c lo hi∧Stp A H f b g n∧n≤40000∧iA A H c lo hi u E fun _=>False
def kC (K:W.Frag) (A:Adr):Sp:=fun vs H Q E=>∃ (f b:Addr) (c lo hi:Int) (m:Key) (u:V) (g:gOp) (n:Nat),vs=[.ref f,.int c,kV m,.int lo,.int hi,u]∧cK c lo hi∧Stp A H f b g n∧n≤40000∧iA A H c lo hi u E fun p=>(∀ h,Ext g h→m=bM h p)∧
 ∀ (M:Addr) (rs:List Addr) (g':gOp) (H':Hp),bz b H H'→Stp A H' f b g' (n+201)→Sub g g'→H' M=some (.lst (rs.map V.ref))→PR H' rs ((bS p).filter (inI lo hi))→Q (.ref M) H'
def jY (K:W.Frag) (A:Adr):Sp:=fun vs H Q E=>∃ (f bb:Addr) (b lo hi k:Int) (v:V) (g:gOp) (n:Nat),vs=[.ref f,.int b,.int lo,.int hi,v,.int k]∧cK b lo hi∧lo≤k∧k≤hi∧Stp A H f bb g n∧n≤34000∧iA A H b lo hi v E fun p=>
 ∀ (y:V) (st:List (Int×Key)) (e:List Key) (g':gOp) (H':Hp),bz bb H H'→Stp A H' f bb g' (n+400)→Sub g g'→tF H' y st e→(∀ h,Ext g' h→st=cx h b k p∧e=eO h b k p)→Q y H'
def ia (K:W.Frag) (A:Adr) (j:Nat):Sp:=fun vs H Q _=>∃ (f b:Addr) (v:V) (p:aP) (g:gOp) (n:Nat),vs=[.ref f,v]∧dj H v p∧bj p<j∧Stp A H f b g n∧n+dm p≤42000∧
 ∀ (t L:Addr) (x:Key) (ps:List Addr) (ts:List (List Key)) (g':gOp) (H':Hp),bz b H H'→Stp A H' f b g' (n+dm p)→Sub g g'→H' t=some (.tup [kV x,.ref L])→H' L=some (.lst (ps.map V.ref))→PK H' ps ts→(∀ h,Ext g' h→ts=bF h p∧x=bM h p)→okP x=true→szK x≤szP p→Q (.ref t) H'
def bw:aP→Int→Int→List (Int×Int×List Int)
 | .fork e x l r,d,g=>(d,g,[])::((bw l (e+1) (2*x)).map (fun s=>(s.1,s.2.1,3::s.2.2))++(bw r (e+1) (2*x+1)).map (fun s=>(s.1,s.2.1,4::s.2.2)))
 | _,d,g=>[(d,g,[])]
def nv (H:Hp) (w:List Int) (r:Addr) (s:Int×Int×List Int):Prop:=∃ P:Addr,H r=some (.tup [.int s.1,.int s.2.1,.ref P])∧H P=some (.tup ((w++s.2.2).map V.int))
abbrev PSp (H:Hp) (w:List Int):List Addr→List (Int×Int×List Int)→Prop:=Paired (nv H w)
def ig (K:W.Frag) (A:Adr) (n:Nat):Sp:=fun vs H Q _=>∃ (v:V) (p:aP) (d g:Int) (P:Addr) (w:List Int),vs=[v,.int d,.int g,.ref P]∧aR H v (bc p)∧bj p<n∧H P=some (.tup (w.map V.int))∧w.length+bj p≤100∧aK p≤70∧
 ∀ (M:Addr) (rs:List Addr) (H':Hp),ar H H'→H' M=some (.lst (rs.map V.ref))→PSp H' w rs (bw p d g)→Q (.ref M) H'
inductive eC:Dat→List Int→Prop
 | nil (x:Dat):eC x []
 | left {e y:Int} {l r:Dat} {w:List Int} (h:eC l w):eC (cr e y l r) (3::w)
 | right {e y:Int} {l r:Dat} {w:List Int} (h:eC r w):eC (cr e y l r) (4::w)
def bT : Dat → List Int → Dat → Dat
  | _, [], n => n
  | x, i :: w, n => match x with
    | .tup [a, b, c, l, r] => if i = 3 then .tup [a, b, c, bT l w n, r] else .tup [a, b, c, l, bT r w n]
    | x => x
def jq (K:W.Frag) (A:Adr) (n:Nat):Sp:=fun vs H Q _=>∃ (v u:V) (x y:Dat) (P:Addr) (w:List Int),vs=[v,.ref P,u]∧aR H v x∧H P=some (.tup (w.map V.int))∧eC x w∧aR H u y∧w.length<n∧w.length≤100∧∀ (v':V) (H':Hp),ar H H'→aR H' v' (bT x w y)→Q v' H'
def vK (b d g:Int) (H:Hp) (v:V):Prop:=∃ x,aR H v x∧cb x∧(if dF x then decide (d=0) else cZ b d g x||cz b d g x)=false
def Gw (H:Hp) (v:V):Prop:=∃ x,aR H v x∧cb x∧fB x=false
def qk (K:W.Frag) (A:Adr):Sp:=fun vs H Q _=>∃ b d g:Int,vs=[.int b,.int d,.int g]∧b≤60∧Plc b d g∧∀ (L:Addr) (xs:List V) (H':Hp),ar H H'→H' L=some (.lst xs)→xs.length=22→(∀ v∈xs,Gw H' v)→Q (.ref L) H'
def qy (K:W.Frag) (A:Adr):Sp:=fun vs H Q _=>∃ b d g:Int,vs=[.int b,.int d,.int g]∧b≤60∧Plc b d g∧∀ (L:Addr) (xs:List V) (H':Hp),ar H H'→H' L=some (.lst xs)→1≤xs.length→xs.length≤100→(∀ v∈xs,vK b d g H' v)→Q (.ref L) H'
def rf (K:W.Frag) (A:Adr):Sp:=fun vs H Q _=>∃ b d g:Int,vs=[.int b,.int d,.int g]∧b≤60∧Plc b d g∧∀ (L:Addr) (xs:List V) (H':Hp),ar H H'→H' L=some (.lst xs)→xs.length≤100→(∀ v∈xs,vK b d g H' v)→Q (.ref L) H'
def qF (K:W.Frag) (A:Adr):Sp:=fun vs H Q _=>∃ c b lo hi d g:Int,vs=[.int c,.int b,.int lo,.int hi,.int d,.int g]∧cK b lo hi∧Plc b d g∧∀ (v:V) (x:Dat) (H':Hp),ar H H'→aR H' v x→cb x→bZ b lo hi d g x=false→Q v H'
structure zM (A:Adr) (H:Hp) (way:Int) (f b:Addr) (c lo hi:Int) (u:V) (g:gOp) (n:Nat) (x:Dat) (z:Int×Int):Prop where
 w0:0≤way
 en:cK c lo hi
 s:Stp A H f b g n
 hn:n≤30000
 hx:aR H u x
 ck:Ck c lo hi 70 0 0 x (some z)
def qC (K:W.Frag) (A:Adr):Sp:=fun vs H Q E=>∃ (way:Int) (f b:Addr) (c lo hi:Int) (m:Key) (u:V) (g:gOp) (n:Nat) (x:Dat) (z:Int×Int),vs=[.int way,.ref f,.int c,kV m,.int lo,.int hi,u]∧zM A H way f b c lo hi u g n x z∧lf A H z E
def mH (K:W.Frag) (A:Adr):Sp:=fun vs H Q _=>∃ (way:Int) (f b:Addr) (c lo hi:Int) (m:Key) (u:V) (g:gOp) (n:Nat) (x:Dat) (z:Int×Int),vs=[.int way,.ref f,.int c,kV m,.int lo,.int hi,u]∧zM A H way f b c lo hi u g n x z∧∀ (t:Addr) (H':Hp),ar H H'→H' t=some (.tup [.int z.1,.int z.2,.bl true])→Q (.ref t) H'
def mm (K:W.Frag) (A:Adr):Sp:=fun vs H Q _=>∃ (cell:Int) (f b M:Addr) (c lo hi:Int) (m:Key) (u:V) (p:aP) (g:gOp) (n:Nat) (rs:List Addr),vs=[.int cell,.ref f,.int c,kV m,.int lo,.int hi,u,.ref M]∧da H u c lo hi p∧Stp A H f b g n∧n≤30000∧H M=some (.lst (rs.map V.ref))∧PSp H [] rs (bw p 0 0)∧∀ H',ar H H'→Q (.bl true) H'
def mz (K:W.Frag) (A:Adr):Sp:=fun vs H Q _=>∃ (a:Addr) (ns:List Int),vs=[.ref a]∧SqL K H a (ns.map V.int)∧ns.length≤63∧Ea A H∧∀ H',Q (.bl true) H'
def gn (K:W.Frag) (A:Adr):L2.kE:=[(fu,rd K A)]
def BU (K:W.Frag) (A:Adr):TS:=au (aB (tC (.int 0)) (ay 1)) (au (gJ (fR K (af 0)) (ay 2) (bf (cn K (tCB (du) (aa (af 2) (aa (tC (.ty "str")) (aj))))) (au (aB (gG [] (fR K (tSl (iC K) (af 2) (dX) (eT (tC (.int 2))))) (fun _ H Q=>Q true H) (tCB (vD) (aa (af 0) (aj)))) (ay 3)) (aB (tOp (aH K) (tOp (aH K) (tOp (bA) (af 1) (tC (.int 7))) (tCB (cE K) (aa (af 2) (aj)))) (tOp (bA) (tC (.int 2)) (tCB (zl K) (aa (af 3) (aj))))) (ay 1))) (aB (tOp (aH K) (tOp (bA) (af 1) (tC (.int 5))) (af 2)) (ay 1)))) (aN (tOp (bp) (af 1) (af 4))))
def T_9 (K:W.Frag) (A:Adr):TS:=aN (tOp (aH K) (tC (.int 1)) (tOp (bp) (tOp (cg) (af 0) (tC (.int 3))) (tOp (aF K) (bq (aa (tC (.int 60)) (aa (tC (.int 8)) (aa (tC (.int 60)) (aj))))) (tOp (bp) (af 0) (tC (.int 3))))))
def T_3 (K:W.Frag) (A:Adr):TS:=au (bf (aX (tOp (mLt) (af 1) (tCB (cE K) (aa (af 0) (aj))))) (aN (tOp (aF K) (af 0) (af 1))) (aY)) (au (aB (tOp (aH K) (tC (.int 17)) (tCB (cE K) (aa (af 0) (aj)))) (ay 2)) (au (gJ (fR K (tSl (iC K) (af 0) (dX) (eT (tC (.int 5))))) (ay 3) (aB (tOp (bp) (tOp (aH K) (tOp (bA) (af 2) (tC (.int 31))) (af 3)) (tC (.int 1000003))) (ay 2))) (au (aB (tOp (bp) (tOp (aH K) (af 2) (tOp (bA) (tC (.int 7919)) (af 1))) (tC (.int 1000003))) (ay 2)) (aN (tOp (bp) (tOp (bA) (af 2) (af 2)) (tC (.int 2147483629)))))))
def GZ (K:W.Frag) (A:Adr):TS:=au (aB (tOp (cy) (tC (.int 1)) (af 0)) (ay 3)) (au (aB (tOp (cg) (af 1) (tC (.int 5))) (ay 4)) (au (bf (aX (tOp (bC K) (tOp (bp) (af 1) (tC (.int 5))) (tC (.int 0)))) (aN (tOp (bp) (af 4) (af 3))) (aY)) (au (bf (aX (tOp (bC K) (tOp (bp) (af 1) (tC (.int 5))) (tC (.int 1)))) (aN (tOp (cw) (tOp (cw) (af 3) (tC (.int 1))) (tOp (bp) (af 4) (af 3)))) (aY)) (au (bf (iy (aX (tOp (bC K) (tOp (bp) (af 1) (tC (.int 5))) (tC (.int 2)))) (aX (tOp (dH K) (af 2) (bq (aj))))) (au (aB (tOp (bp) (tOp (bp) (tOp (bA) (af 4) (tC (.int 48271))) (tC (.int 65537))) (af 0)) (ay 5)) (aN (tOp (gM) (tOp (aF K) (af 2) (tOp (bp) (af 4) (tCB (cE K) (aa (af 2) (aj))))) (tOp (cy) (tC (.int 1)) (af 5))))) (aY)) (aN (tOp (bp) (tOp (bA) (af 4) (tC (.int 1152921504606846883))) (af 3)))))))
def AL (K:W.Frag) (A:Adr):TS:=aN (aE (aa (tCB (jO) (aa (af 3) (aa (af 4) (aj)))) (aa (tCB (pS) (aa (af 3) (aa (af 4) (aj)))) (aj))))
def tR (K:W.Frag) (A:Adr):TS:=au (bf (aX (tOp (bC K) (tOp (bp) (af 2) (tC (.int 16))) (tC (.int 5)))) (aN (aE (aa (tC (.int 0)) (aa (tOp (cw) (tOp (cy) (tC (.int 1)) (af 0)) (tC (.int 1))) (aj))))) (aY)) (AL K A)
def rO (K:W.Frag) (A:Adr):TS:=au (bf (aX (tOp (bC K) (tOp (bp) (af 1) (tC (.int 4))) (tC (.int 1)))) (aB (af 3) (ay 4)) (aY)) (tR K A)
def Hf (K:W.Frag) (A:Adr):TS:=au (aB (ax (kD K A) (fun _=>E0) (aa (af 0) (aa (af 1) (aa (bq (aj)) (aj))))) (ay 3)) (au (aB (ax (kD K A) (fun _=>E0) (aa (af 0) (aa (af 2) (aa (bq (aa (af 3) (aj))) (aj))))) (ay 4)) (au (bf (aX (tOp (bC K) (tOp (bp) (af 2) (tC (.int 7))) (tC (.int 3)))) (aB (tCB (jO) (aa (tOp (aH K) (af 3) (tOp (bp) (tOp (cg) (af 2) (tC (.int 7))) (tC (.int 40)))) (aa (tOp (cw) (tOp (cy) (tC (.int 1)) (af 0)) (tC (.int 1))) (aj)))) (ay 4)) (aY)) (rO K A)))
def Gg (K:W.Frag) (A:Adr):TS:=aN (tOp (bp) (tOp (bA) (tOp (bp) (tOp (aH K) (tOp (bA) (tOp (aH K) (af 0) (tC (.int 1))) (tC (.int 69621))) (tOp (bA) (tOp (aH K) (tOp (aH K) (tOp (bA) (af 2) (tC (.int 31))) (af 1)) (tC (.int 7))) (tC (.int 48271)))) (tC (.int 1000003))) (tC (.int 7919))) (tC (.int 999983)))
def Gn (K:W.Frag) (A:Adr):TS:=au (aB (tOp (cy) (tC (.int 1)) (tOp (cw) (af 0) (af 3))) (ay 5)) (aN (dh (tOp (mLe) (tOp (bA) (af 4) (af 5)) (af 2)) (tOp (mLt) (af 1) (tOp (bA) (tOp (aH K) (af 4) (tC (.int 1))) (af 5)))))
def Hh (K:W.Frag) (A:Adr):TS:=au (aB (tOp (bp) (tOp (bA) (af 0) (tC (.int 69621))) (tC (.int 1000003))) (ay 0)) (au (bf (aX (tOp (bC K) (tOp (bp) (af 0) (tC (.int 4))) (tC (.int 0)))) (aN (tOp (aH K) (tC (.str "m")) (tCB (uV) (aa (tOp (bp) (af 0) (tC (.int 50))) (aj))))) (aY)) (au (bf (aX (tOp (bC K) (tOp (bp) (af 0) (tC (.int 4))) (tC (.int 1)))) (aN (tOp (bp) (tOp (cg) (af 0) (tC (.int 4))) (tC (.int 12)))) (aY)) (au (bf (aX (tOp (bC K) (tOp (bp) (af 0) (tC (.int 4))) (tC (.int 2)))) (aN (tOp (bA) (af 0) (tOp (fm) (tC (.int 10)) (tC (.int 30))))) (aY)) (aN (tOp (cw) (tOp (cw) (tOp (fm) (tC (.int 10)) (tC (.int 60))) (tC (.int 1))) (af 0))))))
def zf (K:W.Frag) (A:Adr):TS:=aN (af 3)
def Bf (K:W.Frag) (A:Adr):TS:=au (gJ (kf (aa (af 2) (aj))) (ay 4) (aB (tOp (aH K) (af 3) (tOp (aF K) (af 1) (tOp (bp) (tOp (aH K) (tOp (cg) (af 0) (tC (.int 4))) (tOp (bA) (af 4) (tOp (bp) (tOp (cg) (af 0) (tC (.int 128))) (tC (.int 5))))) (tCB (cE K) (aa (af 1) (aj)))))) (ay 3))) (zf K A)
def sC (K:W.Frag) (A:Adr):TS:=au (aB (tC (.str "")) (ay 3)) (Bf K A)
def sA (K:W.Frag) (A:Adr):TS:=au (bf (aX (tOp (bC K) (tOp (bp) (tOp (cg) (af 0) (tC (.int 4))) (tC (.int 8))) (tC (.int 2)))) (aB (tOp (bp) (tOp (cg) (af 0) (tC (.int 32))) (tC (.int 61))) (ay 2)) (aY)) (sC K A)
def FW (K:W.Frag) (A:Adr):TS:=au (aB (tC (.str " !\"#$&'()*+,-./0123456789:;<=>?@ABCDEFGHIJKLMNOPQRSTUVWXYZ[\\]^_`")) (ay 1)) (au (aB (tOp (aH K) (af 1) (tC (.str "abcdefghijklmnopqrstuvwxyz{|}~"))) (ay 1)) (au (aB (tOp (bp) (af 0) (tC (.int 4))) (ay 2)) (au (bf (aX (tOp (bC K) (tOp (bp) (tOp (cg) (af 0) (tC (.int 4))) (tC (.int 8))) (tC (.int 1)))) (aB (tC (.int 60)) (ay 2)) (aY)) (sA K A))))
def T_8 (K:W.Frag) (A:Adr):TS:=au (bf (aX (tOp (bC K) (tOp (bp) (af 0) (tC (.int 5))) (tC (.int 0)))) (aN (tOp (aH K) (tOp (cy) (af 1) (af 2)) (tOp (bp) (tOp (bA) (af 0) (tC (.int 48271))) (tOp (cy) (tC (.int 1)) (af 2))))) (aY)) (au (aB (tOp (gw) (tOp (aH K) (af 3) (tOp (bp) (af 0) (tOp (aH K) (tOp (cw) (af 4) (af 3)) (tC (.int 1))))) (tOp (cw) (af 5) (af 2))) (ay 6)) (au (bf (aX (tOp (dH K) (tOp (gw) (af 6) (af 2)) (af 1))) (aN (tOp (cy) (af 1) (af 2))) (aY)) (aN (af 6))))
def BZ (K:W.Frag) (A:Adr) (n:Nat):TS:=aN (aE (aa (tC (.str "fork")) (aa (tOp (aH K) (af 4) (af 10)) (aa (af 11) (aa (af 12) (aa (af 13) (aj)))))))
def BX (K:W.Frag) (A:Adr) (n:Nat):TS:=au (aB (ax (iB K A n) (fun _=>E0) (aa (af 0) (aa (af 1) (aa (af 2) (aa (af 3) (aa (tOp (aH K) (tOp (aH K) (af 4) (af 10)) (tC (.int 1))) (aa (tOp (aH K) (tOp (bA) (tC (.int 2)) (af 11)) (tC (.int 1))) (aa (tOp (cw) (af 6) (tC (.int 1))) (aj))))))))) (ay 13)) (BZ K A n)
def zU (K:W.Frag) (A:Adr) (n:Nat):TS:=au (aB (ax (iB K A n) (fun _=>E0) (aa (af 0) (aa (af 1) (aa (af 2) (aa (af 3) (aa (tOp (aH K) (tOp (aH K) (af 4) (af 10)) (tC (.int 1))) (aa (tOp (bA) (tC (.int 2)) (af 11)) (aa (tOp (cw) (af 6) (tC (.int 1))) (aj))))))))) (ay 12)) (BX K A n)
def sY (K:W.Frag) (A:Adr) (n:Nat):TS:=au (aB (ax (rh K A) (fun _=>E0) (aa (af 7) (aa (af 5) (aa (af 10) (aa (af 2) (aa (af 3) (aa (af 8) (aj)))))))) (ay 11)) (zU K A n)
def mX (K:W.Frag) (A:Adr) (n:Nat):TS:=au (aB (tOp (aF K) (bq (aa (tC (.int 0)) (aa (tOp (bp) (tOp (cg) (af 7) (tC (.int 7))) (af 8)) (aa (tC (.int 0)) (aa (tOp (bp) (tOp (cg) (af 7) (tC (.int 7))) (tCB (jO) (aa (af 8) (aa (tC (.int 3)) (aj))))) (aj)))))) (tOp (bp) (af 7) (tC (.int 4)))) (ay 10)) (sY K A n)
def yK (K:W.Frag) (A:Adr) (n:Nat):TS:=au (bf (mOr (aX (tOp (mLt) (af 6) (tC (.int 1)))) (mOr (aX (tOp (bC K) (af 8) (tC (.int 0)))) (iy (aX (tOp (bC K) (tOp (bp) (af 7) (tC (.int 7))) (tC (.int 0)))) (aX (tOp (mLt) (af 6) (tC (.int 30))))))) (au (aB (tOp (aH K) (tOp (bA) (af 5) (tOp (cy) (tC (.int 1)) (af 8))) (tOp (bp) (tOp (bA) (tOp (cg) (af 7) (tC (.int 7))) (tC (.int 982451653))) (tOp (cy) (tC (.int 1)) (af 8)))) (ay 9)) (au (bf (iy (aX (tOp (bC K) (tOp (bp) (af 7) (tC (.int 3))) (tC (.int 0)))) (aX (tOp (bC K) (tOp (gw) (af 2) (af 8)) (af 5)))) (aB (af 2) (ay 9)) (aY)) (aN (aE (aa (tC (.str "leaf")) (aa (af 9) (aa (ax (jl K A) (fun _=>E0) (aa (tOp (cg) (af 7) (tC (.int 3))) (aj))) (aj)))))))) (aY)) (mX K A n)
def sV (K:W.Frag) (A:Adr) (n:Nat):TS:=au (aB (tOp (cw) (af 1) (af 4)) (ay 8)) (yK K A n)
def FT (K:W.Frag) (A:Adr) (n:Nat):TS:=au (aB (ax (mI K A) (fun _=>E0) (aa (af 0) (aa (af 4) (aa (af 5) (aj))))) (ay 7)) (au (bf (cu (cn K (ax (kh K A) (fun _=>E0) (aa (af 1) (aa (af 2) (aa (af 3) (aa (af 4) (aa (af 5) (aj))))))))) (aN (aE (aa (tC (.str "cut")) (aa (ax (my K A) (fun _=>E0) (aa (af 7) (aj))) (aj))))) (aY)) (au (bf (iy (aX (tOp (bC K) (af 4) (tC (.int 0)))) (aX (tOp (bC K) (tOp (bp) (af 7) (tC (.int 11))) (tC (.int 0))))) (aN (aE (aa (tC (.str "bare")) (aj)))) (aY)) (sV K A n)))
def sm (K:W.Frag) (A:Adr):TS:=aN (ax (iB K A 70) (fun _=>E0) (aa (af 0) (aa (af 1) (aa (af 2) (aa (af 3) (aa (tC (.int 0)) (aa (tC (.int 0)) (aa (af 4) (aj)))))))))
def Gy (K:W.Frag) (A:Adr):TS:=au (aB (tOp (aH K) (tC (.int 1)) (tOp (bp) (tOp (cg) (af 0) (tC (.int 7))) (tC (.int 5)))) (ay 4)) (au (bf (aX (tOp (bC K) (af 2) (af 3))) (aB (tOp (aF K) (bq (aa (tC (.int 60)) (aa (tC (.int 20)) (aa (af 4) (aj))))) (tOp (bp) (af 0) (tC (.int 3)))) (ay 4)) (aY)) (sm K A))
def Aq (K:W.Frag) (A:Adr) (q0:Addr):TSM:=BV (we (aB (yY A.t_27 ⟨185,4,193,37⟩ fu [q0]) (ay 1))) (zo (af 1))
def FV (K:W.Frag) (A:Adr) (n:Nat):TS:=au (bf (aX (tOp (bC K) (tOp (aF K) (af 1) (tC (.int 0))) (tC (.str "cut")))) (aN (aE (aa (tOp (aF K) (af 1) (tC (.int 1))) (aa (bq (aj)) (aj))))) (aY)) (au (bf (aX (tOp (dH K) (tOp (aF K) (af 1) (tC (.int 0))) (tC (.str "fork")))) (aN (aE (aa (iw (gn K A) (fun _=>E0) (af 0) (aa (af 1) (aj))) (aa (bq (aa (af 1) (aj))) (aj))))) (aY)) (au (aB (ax (ia K A n) (fun _=>E0) (aa (af 0) (aa (tOp (aF K) (af 1) (tC (.int 3))) (aj)))) (ay 2)) (au (aB (ax (ia K A n) (fun _=>E0) (aa (af 0) (aa (tOp (aF K) (af 1) (tC (.int 4))) (aj)))) (ay 3)) (au (aB (aE (aa (tC (.str "fork")) (aa (tOp (aF K) (af 1) (tC (.int 1))) (aa (tOp (aF K) (af 1) (tC (.int 2))) (aa (tOp (aF K) (af 2) (tC (.int 0))) (aa (tOp (aF K) (af 3) (tC (.int 0))) (aj))))))) (ay 4)) (aN (aE (aa (iw (gn K A) (fun _=>E0) (af 0) (aa (af 4) (aj))) (aa (tOp (aH K) (tOp (aH K) (tOp (aF K) (af 2) (tC (.int 1))) (tOp (aF K) (af 3) (tC (.int 1)))) (bq (aa (af 4) (aj)))) (aj)))))))))
def FF (K:W.Frag) (A:Adr) (n:Nat):TS:=au (aB (bq (aa (aE (aa (af 1) (aa (af 2) (aa (af 3) (aj))))) (aj))) (ay 4)) (au (bf (aX (tOp (bC K) (tOp (aF K) (af 0) (tC (.int 0))) (tC (.str "fork")))) (au (aB (tOp (aH K) (af 4) (ax (ig K A n) (fun _=>E0) (aa (tOp (aF K) (af 0) (tC (.int 3))) (aa (tOp (aH K) (tOp (aF K) (af 0) (tC (.int 1))) (tC (.int 1))) (aa (tOp (bA) (tC (.int 2)) (tOp (aF K) (af 0) (tC (.int 2)))) (aa (tOp (aH K) (af 3) (aE (aa (tC (.int 3)) (aj)))) (aj))))))) (ay 4)) (aB (tOp (aH K) (af 4) (ax (ig K A n) (fun _=>E0) (aa (tOp (aF K) (af 0) (tC (.int 4))) (aa (tOp (aH K) (tOp (aF K) (af 0) (tC (.int 1))) (tC (.int 1))) (aa (tOp (aH K) (tOp (bA) (tC (.int 2)) (tOp (aF K) (af 0) (tC (.int 2)))) (tC (.int 1))) (aa (tOp (aH K) (af 3) (aE (aa (tC (.int 4)) (aj)))) (aj))))))) (ay 4))) (aY)) (aN (af 4)))
def rG (K:W.Frag) (A:Adr):TS:=aN (tOp (aH K) (af 4) (bq (aa (aE (aa (tC (.str "leaf")) (aa (af 3) (aa (tC (.str "")) (aj))))) (aa (aE (aa (tC (.str "fork")) (aa (af 1) (aa (af 2) (aa (aE (aa (tC (.str "cut")) (aa (tC (.int 1)) (aj)))) (aa (aE (aa (tC (.str "cut")) (aa (tC (.int 2)) (aj)))) (aj))))))) (aa (aE (aa (tC (.str "cut")) (aa (aE (aa (tC (.str "a")) (aj))) (aj)))) (aj))))))
def qY (K:W.Frag) (A:Adr):TS:=au (aB (tOp (aH K) (af 4) (bq (aa (aE (aa (tC (.str "cut")) (aa (tOp (bA) (tOp (fm) (tC (.int 10)) (tC (.int 45))) (tOp (fm) (tC (.int 10)) (tC (.int 45)))) (aj)))) (aa (aE (aa (tC (.str "cut")) (aa (tUn dQ (tOp (fm) (tC (.int 10)) (tC (.int 45)))) (aj)))) (aa (aE (aa (tC (.str "cut")) (aa (tC (.bl false)) (aj)))) (aj)))))) (ay 4)) (rG K A)
def pZ (K:W.Frag) (A:Adr):TS:=au (aB (tOp (aH K) (af 4) (bq (aa (aE (aa (tC (.str "cut")) (aa (tC (.bl true)) (aj)))) (aa (aE (aa (tC (.str "cut")) (aa (bq (aa (tC (.str "a")) (aj))) (aj)))) (aa (tC .non) (aa (aE (aj)) (aa (tC (.str "cut")) (aa (tC (.int 7)) (aa (aE (aa (tC (.str "bare")) (aj))) (aa (aE (aa (tC (.str "leaf")) (aa (af 3) (aa (tC (.str "a")) (aj))))) (aa (km) (aj)))))))))))) (ay 4)) (qY K A)
def qg (K:W.Frag) (A:Adr):TS:=au (aB (bq (aa (aE (aa (tC (.str "cut")) (aj))) (aa (aE (aa (tC (.str "cut")) (aa (tC (.int 1)) (aa (tC (.int 2)) (aj))))) (aa (bq (aa (tC (.str "cut")) (aa (tC (.int 1)) (aj)))) (aa (aE (aa (tC (.str "Cut")) (aa (tC (.int 1)) (aj)))) (aa (aE (aa (tC (.str "cut")) (aa (tUn dQ (tC (.int 1))) (aj)))) (aa (aE (aa (tC (.str "cut")) (aa (tOp (fm) (tC (.int 10)) (tC (.int 60))) (aj)))) (aa (aE (aa (tC (.str "cut")) (aa (tC .non) (aj)))) (aj))))))))) (ay 4)) (pZ K A)
def T_5 (K:W.Frag) (A:Adr):TS:=au (aB (tOp (cy) (af 2) (tOp (cw) (af 0) (af 1))) (ay 3)) (qg K A)
def Fo (K:W.Frag) (A:Adr):TS:=aN (af 5)
def DB (K:W.Frag) (A:Adr):TS:=au (bf (aX (tOp (mGt) (af 1) (tC (.int 0)))) (aB (tOp (aH K) (af 5) (bq (aa (aE (aa (tC (.str "bare")) (aj))) (aa (aE (aa (tC (.str "leaf")) (aa (tOp (bp) (tOp (aH K) (af 4) (af 3)) (tOp (cy) (tC (.int 1)) (af 0))) (aa (tC (.str "a")) (aj))))) (aa (aE (aa (tC (.str "leaf")) (aa (tOp (gM) (af 4) (af 3)) (aa (tC (.str "")) (aj))))) (aj)))))) (ay 5)) (aY)) (Fo K A)
def qK (K:W.Frag) (A:Adr):TS:=au (aB (tOp (aH K) (af 5) (bq (aa (aE (aa (tC (.str "leaf")) (aa (tOp (mGt) (af 4) (tC (.int 0))) (aa (tC (.str "a")) (aj))))) (aa (aE (aa (tC (.str "leaf")) (aa (tOp (bA) (tOp (fm) (tC (.int 10)) (tC (.int 45))) (tOp (fm) (tC (.int 10)) (tC (.int 45)))) (aa (tC (.str "a")) (aj))))) (aj))))) (ay 5)) (DB K A)
def ql (K:W.Frag) (A:Adr):TS:=au (aB (tOp (aH K) (af 5) (bq (aa (aE (aa (tC (.str "leaf")) (aa (tUn dQ (tC (.int 1))) (aa (tC (.str "")) (aj))))) (aa (aE (aa (tC (.str "leaf")) (aa (tOp (cy) (tC (.int 1)) (af 0)) (aa (tC (.str "")) (aj))))) (aa (aE (aa (tC (.str "leaf")) (aa (tOp (aH K) (af 4) (tOp (cy) (tC (.int 1)) (af 0))) (aa (tC (.str "a")) (aj))))) (aa (aE (aa (tC (.str "leaf")) (aa (bq (aj)) (aa (tC (.str "a")) (aj))))) (aj))))))) (ay 5)) (qK K A)
def qH (K:W.Frag) (A:Adr):TS:=au (aB (tOp (aH K) (af 5) (bq (aa (aE (aa (tC (.str "leaf")) (aa (af 4) (aa (tOp (bA) (tC (.str "a")) (tC (.int 61))) (aj))))) (aa (aE (aa (tC (.str "leaf")) (aa (af 4) (aa (tC .non) (aj))))) (aa (aE (aa (tC (.str "leaf")) (aa (tC .non) (aa (tC (.str "a")) (aj))))) (aa (aE (aa (tC (.str "leaf")) (aa (tC (.bl true)) (aa (tC (.str "a")) (aj))))) (aj))))))) (ay 5)) (ql K A)
def qe (K:W.Frag) (A:Adr):TS:=au (aB (tOp (aH K) (af 5) (bq (aa (aE (aa (tC (.str "leaf")) (aa (af 4) (aj)))) (aa (aE (aa (tC (.str "leaf")) (aa (af 4) (aa (tC (.str "a")) (aa (tC (.str "")) (aj)))))) (aa (bq (aa (tC (.str "leaf")) (aa (af 4) (aa (tC (.str "a")) (aj))))) (aa (aE (aa (tC (.str "Leaf")) (aa (af 4) (aa (tC (.str "a")) (aj))))) (aj))))))) (ay 5)) (qH K A)
def qt (K:W.Frag) (A:Adr):TS:=au (aB (bq (aa (aE (aa (tC (.str "cut")) (aa (tC (.int 5)) (aj)))) (aa (aE (aa (tC (.str "cut")) (aa (tC (.str "m")) (aj)))) (aa (aE (aa (tC (.str "cut")) (aj))) (aa (tC .non) (aa (aE (aj)) (aa (bq (aj)) (aa (tC (.str "bare")) (aa (tC (.int 0)) (aa (tC (.bl true)) (aa (km) (aa (bq (aa (tC (.str "bare")) (aj))) (aa (aE (aa (tC (.str "bare")) (aa (tC (.int 1)) (aj)))) (aa (aE (aa (tC (.str "")) (aj))) (aj))))))))))))))) (ay 5)) (qe K A)
def T_7 (K:W.Frag) (A:Adr):TS:=au (aB (tOp (cy) (tC (.int 1)) (tOp (cw) (af 0) (af 1))) (ay 3)) (au (aB (tOp (bA) (af 2) (af 3)) (ay 4)) (qt K A))
def BJ (K:W.Frag) (A:Adr):TS:=aN (af 4)
def Bw (K:W.Frag) (A:Adr):TS:=au (bf (aX (tOp (mGt) (af 1) (tC (.int 0)))) (au (aB (tOp (aH K) (af 4) (bq (aa (aE (aa (tC (.str "fork")) (aa (af 1) (aa (tOp (gM) (af 2) (tC (.int 1))) (aa (af 3) (aa (af 3) (aj))))))) (aa (aE (aa (tC (.str "fork")) (aa (tOp (aH K) (af 1) (tC (.int 1))) (aa (tOp (bA) (tC (.int 2)) (tOp (gM) (af 2) (tC (.int 1)))) (aa (af 3) (aa (af 3) (aj))))))) (aj))))) (ay 4)) (aB (tOp (aH K) (af 4) (bq (aa (aE (aa (tC (.str "fork")) (aa (tOp (aH K) (af 1) (tC (.int 1))) (aa (tOp (aH K) (tOp (bA) (tC (.int 2)) (tOp (gM) (af 2) (tC (.int 1)))) (tC (.int 1))) (aa (af 3) (aa (af 3) (aj))))))) (aa (aE (aa (tC (.str "fork")) (aa (tC (.int 0)) (aa (tC (.int 0)) (aa (af 3) (aa (af 3) (aj))))))) (aj))))) (ay 4))) (aY)) (BJ K A)
def ny (K:W.Frag) (A:Adr):TS:=au (aB (tOp (aH K) (af 4) (bq (aa (aE (aa (tC (.str "fork")) (aa (af 1) (aa (tOp (aH K) (af 2) (tOp (cy) (tC (.int 1)) (af 1))) (aa (af 3) (aa (af 3) (aj))))))) (aj)))) (ay 4)) (Bw K A)
def nw (K:W.Frag) (A:Adr):TS:=au (aB (tOp (aH K) (af 4) (bq (aa (aE (aa (tC (.str "fork")) (aa (tOp (aH K) (af 0) (tC (.int 3))) (aa (tOp (cy) (af 2) (tOp (cw) (tOp (aH K) (af 0) (tC (.int 3))) (af 1))) (aa (af 3) (aa (af 3) (aj))))))) (aa (aE (aa (tC (.str "fork")) (aa (tOp (aH K) (af 0) (tC (.int 1))) (aa (tC (.int 0)) (aa (af 3) (aa (af 3) (aj))))))) (aj))))) (ay 4)) (ny K A)
def nU (K:W.Frag) (A:Adr):TS:=au (aB (tOp (aH K) (af 4) (bq (aa (aE (aa (tC (.str "fork")) (aa (tUn dQ (af 5)) (aa (af 2) (aa (af 3) (aa (af 3) (aj))))))) (aa (aE (aa (tC (.str "fork")) (aa (af 1) (aa (tUn dQ (af 5)) (aa (af 3) (aa (af 3) (aj))))))) (aj))))) (ay 4)) (nw K A)
def mM (K:W.Frag) (A:Adr):TS:=au (aB (tOp (aH K) (af 4) (bq (aa (aE (aa (tC (.str "fork")) (aa (af 5) (aa (af 2) (aa (af 3) (aa (af 3) (aj))))))) (aa (aE (aa (tC (.str "fork")) (aa (af 1) (aa (af 5) (aa (af 3) (aa (af 3) (aj))))))) (aj))))) (ay 4)) (nU K A)
def wR (K:W.Frag) (A:Adr):TS:=au (aB (tOp (bA) (tOp (fm) (tC (.int 10)) (tC (.int 45))) (tOp (fm) (tC (.int 10)) (tC (.int 45)))) (ay 5)) (mM K A)
def qw (K:W.Frag) (A:Adr):TS:=au (aB (tOp (aH K) (af 4) (bq (aa (aE (aa (tC (.str "fork")) (aa (af 1) (aa (tOp (mGt) (af 2) (tC (.int 0))) (aa (af 3) (aa (af 3) (aj))))))) (aa (aE (aa (tC (.str "fork")) (aa (tOp (mGt) (af 1) (tC (.int 0))) (aa (af 2) (aa (af 3) (aa (af 3) (aj))))))) (aj))))) (ay 4)) (wR K A)
def qd (K:W.Frag) (A:Adr):TS:=au (aB (tOp (aH K) (af 4) (bq (aa (aE (aa (tC (.str "fork")) (aa (af 1) (aa (tUn dQ (tC (.int 1))) (aa (af 3) (aa (af 3) (aj))))))) (aa (aE (aa (tC (.str "fork")) (aa (tC (.bl false)) (aa (tC (.int 0)) (aa (af 3) (aa (af 3) (aj))))))) (aj))))) (ay 4)) (qw K A)
def qO (K:W.Frag) (A:Adr):TS:=au (aB (tOp (aH K) (af 4) (bq (aa (bq (aa (tC (.str "fork")) (aa (af 1) (aa (af 2) (aa (af 3) (aa (af 3) (aj))))))) (aa (aE (aa (tC (.str "fork")) (aa (af 1) (aa (tC .non) (aa (af 3) (aa (af 3) (aj))))))) (aj))))) (ay 4)) (qd K A)
def rp (K:W.Frag) (A:Adr):TS:=au (aB (tOp (aH K) (af 4) (bq (aa (aE (aa (tC (.str "Fork")) (aa (af 1) (aa (af 2) (aa (af 3) (aa (af 3) (aj))))))) (aj)))) (ay 4)) (qO K A)
def qz (K:W.Frag) (A:Adr):TS:=au (aB (tOp (aH K) (af 4) (bq (aa (aE (aa (tC (.str "fork")) (aa (af 1) (aa (af 2) (aa (af 3) (aj)))))) (aa (aE (aa (tC (.str "fork")) (aa (af 1) (aa (af 2) (aa (af 3) (aa (af 3) (aa (af 3) (aj)))))))) (aj))))) (ay 4)) (rp K A)
def rk (K:W.Frag) (A:Adr):TS:=au (aB (tOp (aH K) (af 4) (bq (aa (aE (aa (tC (.str "fork")) (aa (tC .non) (aa (af 2) (aa (af 3) (aa (af 3) (aj))))))) (aa (aE (aa (tC (.str "fork")) (aa (tC (.str "0")) (aa (af 2) (aa (af 3) (aa (af 3) (aj))))))) (aa (aE (aa (tC (.str "fork")) (aj))) (aj)))))) (ay 4)) (qz K A)
def qQ (K:W.Frag) (A:Adr):TS:=au (aB (bq (aa (aE (aa (tC (.str "fork")) (aa (tOp (cw) (af 1) (tC (.int 1))) (aa (tOp (gw) (af 2) (tC (.int 1))) (aa (af 3) (aa (af 3) (aj))))))) (aa (aE (aa (tC (.str "fork")) (aa (af 0) (aa (tOp (cy) (af 2) (tOp (cw) (af 0) (af 1))) (aa (af 3) (aa (af 3) (aj))))))) (aj)))) (ay 4)) (rk K A)
def T_6 (K:W.Frag) (A:Adr):TS:=au (aB (aE (aa (tC (.str "leaf")) (aa (tC (.int 0)) (aa (tC (.str "")) (aj))))) (ay 3)) (qQ K A)
def wG (K:W.Frag) (A:Adr):TS:=aN (tOp (aF K) (af 6) (tOp (bp) (af 0) (tCB (cE K) (aa (af 6) (aj)))))
def T_4 (K:W.Frag) (A:Adr):TS:=au (bf (cu (cn K (ax (kh K A) (fun _=>E0) (aa (af 1) (aa (af 2) (aa (af 3) (aa (af 4) (aa (af 5) (aj))))))))) (aB (ax (qk K A) (fun _=>E0) (aa (af 1) (aa (af 4) (aa (af 5) (aj))))) (ay 6)) (aB (tOp (aH K) (ax (qy K A) (fun _=>E0) (aa (af 1) (aa (af 4) (aa (af 5) (aj))))) (ax (rf K A) (fun _=>E0) (aa (af 1) (aa (af 4) (aa (af 5) (aj)))))) (ay 6))) (wG K A)
def GY (K:W.Frag) (A:Adr) (n:Nat):TS:=au (bf (aX (tOp (bC K) (af 1) (aE (aj)))) (aN (af 2)) (aY)) (au (aB (tOp (aF K) (af 1) (tC (.int 0))) (ay 3)) (aN (tOp (aH K) (tOp (aH K) (tSl (iC K) (af 0) (dX) (eT (af 3))) (aE (aa (ax (jq K A n) (fun _=>E0) (aa (tOp (aF K) (af 0) (af 3)) (aa (tSl (iC K) (af 1) (eT (tC (.int 1))) (dX)) (aa (af 2) (aj))))) (aj)))) (tSl (iC K) (af 0) (eT (tOp (aH K) (af 3) (tC (.int 1)))) (dX)))))
def GQ (K:W.Frag) (A:Adr):TS:=aN (dh (tCB (du) (aa (af 0) (aa (tC (.ty "int")) (aj)))) (mq (tCB (du) (aa (af 0) (aa (tC (.ty "bool")) (aj))))))
def GH (K:W.Frag) (A:Adr):TS:=aN (dh (ax (gA K A) (fun _=>E0) (aa (af 1) (aj))) (dE (mLe) (mLt) (tC (.int 0)) (af 1) (tOp (cy) (tC (.int 1)) (af 0))))
def FA (K:W.Frag) (A:Adr):TS:=au (bf (mOr (cu (cn K (ax (ib K A) (fun _=>E0) (aa (af 0) (aa (af 1) (aj)))))) (cu (cn K (ax (ib K A) (fun _=>E0) (aa (af 0) (aa (af 2) (aj))))))) (ko) (aY)) (bf (aX (tOp (mGt) (af 1) (af 2))) (ko) (aY))
def Gb (K:W.Frag) (A:Adr):TS:=au (aB (tOp (cw) (af 0) (af 1)) (ay 3)) (aN (aE (aa (tOp (cy) (af 2) (af 3)) (aa (tOp (cw) (tOp (cy) (tOp (aH K) (af 2) (tC (.int 1))) (af 3)) (tC (.int 1))) (aj)))))
def Gm (K:W.Frag) (A:Adr):TS:=au (aB (ax (mF K A) (fun _=>E0) (aa (af 0) (aa (af 3) (aa (af 4) (aj))))) (ay 5)) (aN (dh (tOp (mLe) (tOp (aF K) (af 5) (tC (.int 0))) (af 2)) (tOp (mLe) (af 1) (tOp (aF K) (af 5) (tC (.int 1))))))
def GR (K:W.Frag) (A:Adr):TS:=au (bf (cn K (ax (gA K A) (fun _=>E0) (aa (af 0) (aj)))) (aN (dE (mLe) (mLt) (tC (.int 0)) (af 0) (tOp (fm) (tC (.int 10)) (tC (.int 60))))) (aY)) (aN (tCB (du) (aa (af 0) (aa (tC (.ty "str")) (aj)))))
def Hc (K:W.Frag) (A:Adr):TS:=aN (dh (tCB (du) (aa (af 0) (aa (tC (.ty "tuple")) (aj)))) (dh (tOp (bC K) (tCB (cE K) (aa (af 0) (aj))) (tC (.int 2))) (dh (tOp (bC K) (tOp (aF K) (af 0) (tC (.int 0))) (tC (.str "cut"))) (ax (ie K A) (fun _=>E0) (aa (tOp (aF K) (af 0) (tC (.int 1))) (aj))))))
def GO (K:W.Frag) (A:Adr):TS:=aN (dh (tCB (du) (aa (af 0) (aa (tC (.ty "str")) (aj)))) (tOp (mLe) (tCB (cE K) (aa (af 0) (aj))) (tC (.int 60))))
def Gi (K:W.Frag) (A:Adr):TS:=aN (tOp (gw) (af 1) (tOp (cw) (af 0) (af 2)))
def Hb (K:W.Frag) (A:Adr):TS:=au (bf (mOr (cu (cn K (tCB (du) (aa (af 3) (aa (tC (.ty "tuple")) (aj)))))) (mOr (aX (tOp (dH K) (tCB (cE K) (aa (af 3) (aj))) (tC (.int 3)))) (aX (tOp (dH K) (tOp (aF K) (af 3) (tC (.int 0))) (tC (.str "leaf")))))) (aN (tC (.bl false))) (aY)) (au (bf (mOr (cu (cn K (ax (ib K A) (fun _=>E0) (aa (af 0) (aa (tOp (aF K) (af 3) (tC (.int 1))) (aj)))))) (cu (cn K (ax (mi K A) (fun _=>E0) (aa (tOp (aF K) (af 3) (tC (.int 2))) (aj)))))) (aN (tC (.bl false))) (aY)) (aN (tOp (bC K) (ax (ir K A) (fun _=>E0) (aa (af 0) (aa (tOp (aF K) (af 3) (tC (.int 1))) (aa (af 1) (aj))))) (af 2))))
def FU (K:W.Frag) (A:Adr):TS:=au (bf (mOr (cu (cn K (tCB (du) (aa (af 3) (aa (tC (.ty "tuple")) (aj)))))) (mOr (aX (tOp (dH K) (tCB (cE K) (aa (af 3) (aj))) (tC (.int 5)))) (aX (tOp (dH K) (tOp (aF K) (af 3) (tC (.int 0))) (tC (.str "fork")))))) (aN (tC (.bl false))) (aY)) (au (bf (mOr (cu (cn K (ax (gA K A) (fun _=>E0) (aa (tOp (aF K) (af 3) (tC (.int 1))) (aj))))) (cu (aX (dE (mLe) (mLt) (af 1) (tOp (aF K) (af 3) (tC (.int 1))) (af 0))))) (aN (tC (.bl false))) (aY)) (au (bf (mOr (cu (cn K (ax (gA K A) (fun _=>E0) (aa (tOp (aF K) (af 3) (tC (.int 2))) (aj))))) (cu (aX (dE (mLe) (mLt) (tC (.int 0)) (tOp (aF K) (af 3) (tC (.int 2))) (tOp (cy) (tC (.int 1)) (tOp (aF K) (af 3) (tC (.int 1)))))))) (aN (tC (.bl false))) (aY)) (aN (tOp (bC K) (tOp (gw) (tOp (aF K) (af 3) (tC (.int 2))) (tOp (cw) (tOp (aF K) (af 3) (tC (.int 1))) (af 1))) (af 2)))))
def GL (K:W.Frag) (A:Adr):TS:=au (bf (cu (cn K (ax (mP K A) (fun _=>E0) (aa (af 0) (aa (af 1) (aa (af 2) (aa (af 3) (aa (af 4) (aj))))))))) (aN (ax (mG K A) (fun _=>E0) (aa (af 5) (aj)))) (aY)) (au (bf (aX (tOp (qG K) (af 5) (aE (aa (tC (.str "bare")) (aj))))) (aN (tOp (bC K) (af 3) (tC (.int 0)))) (aY)) (aN (vh (ax (kB K A) (fun _=>E0) (aa (af 0) (aa (af 3) (aa (af 4) (aa (af 5) (aj)))))) (ax (jW K A) (fun _=>E0) (aa (af 0) (aa (af 3) (aa (af 4) (aa (af 5) (aj)))))))))
def T_1 (K:W.Frag) (A:Adr):TS:=au (ku K A.c_NoPart (af 0) (af 1) "depth") (ku K A.c_NoPart (af 0) (af 2) "begin")
def sf (K:W.Frag) (A:Adr) (E:XK) (n:Nat):TS:=bf (aX (tOp (bC K) (tOp (aF K) (af 5) (tC (.int 0))) (tC (.str "fork")))) (au (ej (ax (fq K A n) (fun _=>E) (aa (af 0) (aa (af 1) (aa (af 2) (aa (tOp (aH K) (tOp (aF K) (af 5) (tC (.int 1))) (tC (.int 1))) (aa (tOp (bA) (tC (.int 2)) (tOp (aF K) (af 5) (tC (.int 2)))) (aa (tOp (aF K) (af 5) (tC (.int 3))) (aj))))))))) (ej (ax (fq K A n) (fun _=>E) (aa (af 0) (aa (af 1) (aa (af 2) (aa (tOp (aH K) (tOp (aF K) (af 5) (tC (.int 1))) (tC (.int 1))) (aa (tOp (aH K) (tOp (bA) (tC (.int 2)) (tOp (aF K) (af 5) (tC (.int 2)))) (tC (.int 1))) (aa (tOp (aF K) (af 5) (tC (.int 4))) (aj)))))))))) (aY)
def AN (K:W.Frag) (A:Adr) (E:XK) (n:Nat):TS:=au (bf (cu (cn K (ax (lZ K A) (fun _=>E0) (aa (af 0) (aa (af 1) (aa (af 2) (aa (af 3) (aa (af 4) (aa (af 5) (aj)))))))))) (ls A.c_NoPart (pY K A) (fun _=>E) (aa (af 3) (aa (af 4) (aj)))) (aY)) (sf K A E n)
def Af (K:W.Frag) (A:Adr) (E:XK):TS:=au (ej (ax (kA K A) (fun _=>E0) (aa (af 0) (aa (af 1) (aa (af 2) (aj)))))) (ej (ax (fq K A 70) (fun _=>E) (aa (af 0) (aa (af 1) (aa (af 2) (aa (tC (.int 0)) (aa (tC (.int 0)) (aa (af 3) (aj)))))))))
def FP (K:W.Frag) (A:Adr):TS:=aN (mIf (aX (tOp (bC K) (tOp (aF K) (af 1) (tC (.int 0))) (tC (.str "cut")))) (tOp (aF K) (af 1) (tC (.int 1))) (iw (gn K A) (fun _=>E0) (af 0) (aa (tOp (aF K) (af 2) (tUn dQ (tC (.int 1)))) (aj))))
def GN (K:W.Frag) (A:Adr) (n:Nat):TS:=au (bf (aX (tOp (bC K) (tOp (aF K) (af 1) (tC (.int 0))) (tC (.str "cut")))) (aN (bq (aj))) (aY)) (au (bf (aX (tOp (dH K) (tOp (aF K) (af 1) (tC (.int 0))) (tC (.str "fork")))) (aN (bq (aa (af 1) (aj)))) (aY)) (au (aB (ax (ft K A n) (fun _=>E0) (aa (af 0) (aa (tOp (aF K) (af 1) (tC (.int 3))) (aj)))) (ay 2)) (au (aB (ax (ft K A n) (fun _=>E0) (aa (af 0) (aa (tOp (aF K) (af 1) (tC (.int 4))) (aj)))) (ay 3)) (au (aB (aE (aa (ax (iJ K A) (fun _=>E0) (aa (af 0) (aa (tOp (aF K) (af 1) (tC (.int 3))) (aa (af 2) (aj))))) (aa (ax (iJ K A) (fun _=>E0) (aa (af 0) (aa (tOp (aF K) (af 1) (tC (.int 4))) (aa (af 3) (aj))))) (aj)))) (ay 4)) (aN (tOp (aH K) (tOp (aH K) (af 2) (af 3)) (bq (aa (aE (aa (tC (.str "fork")) (aa (tOp (aF K) (af 1) (tC (.int 1))) (aa (tOp (aF K) (af 1) (tC (.int 2))) (aa (tOp (aF K) (af 4) (tC (.int 0))) (aa (tOp (aF K) (af 4) (tC (.int 1))) (aj))))))) (aj)))))))))
def yH (K:W.Frag) (A:Adr) (E:XK):TS:=au (ej (ax (mS K A) (fun _=>E) (aa (af 1) (aa (af 2) (aa (af 3) (aa (af 4) (aj))))))) (aN (ax (ft K A 70) (fun _=>E0) (aa (af 0) (aa (af 4) (aj)))))
def Bq (K:W.Frag) (A:Adr) (E:XK):TS:=aN (iw (gn K A) (fun _=>E0) (af 0) (aa (tOp (aF K) (ax (hZ K A) (fun _=>E) (aa (af 0) (aa (af 1) (aa (af 2) (aa (af 3) (aa (af 4) (aj))))))) (tUn dQ (tC (.int 1)))) (aj)))
def T_0 (K:W.Frag) (A:Adr):TS:=au (ku K A.c_Broken (af 0) (af 1) "due") (ku K A.c_Broken (af 0) (af 2) "came")
def GV (K:W.Frag) (A:Adr):TS:=aN (gG [0,1] (fR K (af 2)) (iy (aX (tOp (bC K) (tOp (aF K) (af 0) (tC (.int 0))) (tC (.str "leaf")))) (aX (dE (mLe) (mLe) (af 1) (tOp (aF K) (af 0) (tC (.int 1))) (af 2)))) (aE (aa (tOp (aF K) (af 0) (tC (.int 1))) (aa (tOp (aF K) (af 0) (tC (.int 2))) (aj)))))
def Bn (K:W.Frag) (A:Adr) (E:XK):TS:=au (aB (ax (hZ K A) (fun _=>E) (aa (af 0) (aa (af 1) (aa (af 3) (aa (af 4) (aa (af 5) (aj))))))) (ay 6)) (au (aB (iw (gn K A) (fun _=>E0) (af 0) (aa (tOp (aF K) (af 6) (tUn dQ (tC (.int 1)))) (aj))) (ay 7)) (au (bf (aX (tOp (dH K) (af 7) (af 2))) (ls A.c_Broken (rg K A) (fun _=>E) (aa (af 2) (aa (af 7) (aj)))) (aY)) (aN (ax (lU K A) (fun _=>E0) (aa (af 3) (aa (af 4) (aa (af 6) (aj))))))))
def FR (K:W.Frag) (A:Adr):TS:=aN (tOp (qD) (tOp (gw) (af 1) (tOp (cw) (tOp (cw) (af 0) (af 2)) (tC (.int 1)))) (tC (.int 1)))
def mW (K:W.Frag) (A:Adr) (E:XK):TS:=aN (aE (aa (tCB (rR K) (aa (af 6) (aj))) (aa (tOp (aF K) (ax (ft K A 70) (fun _=>E0) (aa (af 0) (aa (af 7) (aj)))) (tUn dQ (tC (.int 1)))) (aj))))
def BS (K:W.Frag) (A:Adr) (E:XK):TS:=au (bf (cu (cn K (ax (ib K A) (fun _=>E0) (aa (af 1) (aa (af 5) (aj)))))) (oa A.c_NoKey (fun _=>E)) (aY)) (au (ej (ax (kA K A) (fun _=>E0) (aa (af 1) (aa (af 2) (aa (af 3) (aj)))))) (au (bf (cu (aX (dE (mLe) (mLe) (af 2) (af 5) (af 3)))) (oa A.c_NoKey (fun _=>E)) (aY)) (au (ej (ax (fq K A 70) (fun _=>E) (aa (af 1) (aa (af 2) (aa (af 3) (aa (tC (.int 0)) (aa (tC (.int 0)) (aa (af 4) (aj))))))))) (au (aB (bq (aj)) (ay 6)) (au (aB (af 4) (ay 7)) (au (nJ (iy (aX (tOp (bC K) (tOp (aF K) (af 7) (tC (.int 0))) (tC (.str "fork")))) (aX (tOp (bC K) (ax (ir K A) (fun _=>E0) (aa (af 1) (aa (af 5) (aa (tOp (aF K) (af 7) (tC (.int 1))) (aj))))) (tOp (aF K) (af 7) (tC (.int 2)))))) (au (aB (ax (mL K A) (fun _=>E0) (aa (af 1) (aa (af 5) (aa (tOp (aF K) (af 7) (tC (.int 1))) (aj))))) (ay 8)) (au (aB (tOp (aF K) (af 7) (tOp (cw) (tC (.int 4)) (af 8))) (ay 9)) (au (ej (tBM K "list" lg (af 6) (aa (aE (aa (tOp (aF K) (af 7) (tC (.int 1))) (aa (ax (iJ K A) (fun _=>E0) (aa (af 0) (aa (af 9) (aa (ax (ft K A 70) (fun _=>E0) (aa (af 0) (aa (af 9) (aj)))) (aj))))) (aj)))) (aj)))) (aB (tOp (aF K) (af 7) (tOp (aH K) (tC (.int 3)) (af 8))) (ay 7)))))) (mW K A E)))))))
def T_2 (K:W.Frag) (A:Adr) (E:XK):TS:=au (bf (aX (tOp (bC K) (af 0) (tC (.int 0)))) (aN (ax (hZ K A) (fun _=>E) (aa (af 1) (aa (af 2) (aa (af 4) (aa (af 5) (aa (af 6) (aj)))))))) (aY)) (au (bf (aX (tOp (bC K) (af 0) (tC (.int 1)))) (aN (ax (mh K A) (fun _=>E) (aa (af 1) (aa (af 2) (aa (af 4) (aa (af 5) (aa (af 6) (aj)))))))) (aY)) (au (bf (aX (tOp (bC K) (af 0) (tC (.int 2)))) (aN (ax (kC K A) (fun _=>E) (aa (af 1) (aa (af 2) (aa (af 3) (aa (af 4) (aa (af 5) (aa (af 6) (aj))))))))) (aY)) (aN (ax (jY K A) (fun _=>E) (aa (af 1) (aa (af 2) (aa (af 4) (aa (af 5) (aa (af 6) (aa (af 4) (aj)))))))))))
def Gf (K:W.Frag) (A:Adr):TS:=au (aB (tC .non) (ay 7)) (au (zV K (fun EH=>ej (ax (qC K A) EH (aa (af 0) (aa (af 1) (aa (af 2) (aa (af 3) (aa (af 4) (aa (af 5) (aa (af 6) (aj)))))))))) (hAs K A.c_NoPart 8 (aB (aE (aa (qA K (af 8) "depth") (aa (qA K (af 8) "begin") (aa (tCB (xh K) (aa (af 8) (aa (tC (.ref A.c_StampError)) (aj)))) (aj))))) (ay 7)) (wX)) (aY)) (aN (af 7)))
def FS (K:W.Frag) (A:Adr):TS:=au (bf (cn K (tCB (du) (aa (af 1) (aa (tC (.ty "str")) (aj))))) (aN (dh (tCB (du) (aa (af 0) (aa (tC (.ty "str")) (aj)))) (tOp (bC K) (af 0) (af 1)))) (aY)) (aN (dh (tCB (du) (aa (af 0) (aa (tC (.ty "int")) (aj)))) (dh (mq (tCB (du) (aa (af 0) (aa (tC (.ty "bool")) (aj))))) (tOp (bC K) (af 0) (af 1)))))
def Gj (K:W.Frag) (A:Adr):TS:=au (bf (mOr (cu (cn K (tCB (du) (aa (af 0) (aa (tC (.ty "tuple")) (aj)))))) (aX (tOp (dH K) (tCB (cE K) (aa (af 0) (aj))) (tCB (cE K) (aa (af 1) (aj)))))) (aN (tC (.bl false))) (aY)) (au (gJ (kf (aa (tCB (cE K) (aa (af 1) (aj))) (aj))) (ay 2) (bf (cu (cn K (ax (lX K A) (fun _=>E0) (aa (tOp (aF K) (af 0) (af 2)) (aa (tOp (aF K) (af 1) (af 2)) (aj)))))) (aN (tC (.bl false))) (aY))) (aN (tC (.bl true))))
def zh (K:W.Frag) (A:Adr):TS:=aN (ax (kg K A) (fun _=>E0) (aa (tSl (iC K) (af 13) (dX) (eT (tC (.int 2)))) (aa (tSl (iC K) (tOp (aF K) (af 7) (tCB (jO) (aa (af 8) (aa (af 9) (aj))))) (dX) (eT (tC (.int 2)))) (aj))))
def zK (K:W.Frag) (A:Adr):TS:=au (bf (mOr (aX (tOp (uF) (af 13) (tC .non))) (aX (tOp (mC) (tOp (aF K) (af 13) (tC (.int 2))) (tC (.bl true))))) (aN (tC (.bl false))) (aY)) (zh K A)
def Ay (K:W.Frag) (A:Adr):TS:=au (aB (ax (mH K A) (fun _=>E0) (aa (tOp (bp) (tOp (cg) (af 0) (tC (.int 2))) (tC (.int 4))) (aa (af 1) (aa (af 2) (aa (af 3) (aa (af 4) (aa (af 5) (aa (af 10) (aj))))))))) (ay 13)) (zK K A)
def Aj (K:W.Frag) (A:Adr):TS:=au (gJ (fR K (bq (aa (tCB (pS) (aa (af 8) (aa (af 9) (aj)))) (aa (tCB (jO) (aa (af 8) (aa (af 9) (aj)))) (aj))))) (ay 11) (au (aB (ax (qF K A) (fun _=>E0) (aa (tOp (aH K) (tOp (cg) (af 0) (tC (.int 64))) (tOp (bA) (tOp (bp) (af 0) (tC (.int 64))) (tC (.int 7)))) (aa (af 2) (aa (af 4) (aa (af 5) (aa (tOp (aF K) (tOp (aF K) (af 7) (af 11)) (tC (.int 0))) (aa (tOp (aF K) (tOp (aF K) (af 7) (af 11)) (tC (.int 1))) (aj)))))))) (ay 12)) (aB (ax (jq K A 70) (fun _=>E0) (aa (af 10) (aa (tOp (aF K) (tOp (aF K) (af 7) (af 11)) (tC (.int 2))) (aa (af 12) (aj))))) (ay 10)))) (Ay K A)
def sE (K:W.Frag) (A:Adr):TS:=au (aB (af 6) (ay 10)) (Aj K A)
def GS (K:W.Frag) (A:Adr):TS:=au (aB (tOp (bp) (tOp (cg) (af 0) (tC (.int 4))) (tCB (cE K) (aa (af 7) (aj)))) (ay 8)) (au (aB (tOp (bp) (tOp (bp) (tOp (bA) (af 0) (tC (.int 48271))) (tC (.int 65537))) (tCB (cE K) (aa (af 7) (aj)))) (ay 9)) (au (bf (aX (tOp (bC K) (tOp (bp) (af 0) (tC (.int 2))) (tC (.int 0)))) (aB (af 8) (ay 9)) (aY)) (sE K A)))
def Gx (K:W.Frag) (A:Adr):TS:=au (bf (mOr (cu (cn K (tCB (du) (aa (af 0) (aa (tC (.ty "list")) (aj)))))) (aX (tOp (dH K) (tCB (cE K) (aa (af 0) (aj))) (tCB (cE K) (aa (af 1) (aj)))))) (aN (tC (.bl false))) (aY)) (au (gJ (kf (aa (tCB (cE K) (aa (af 1) (aj))) (aj))) (ay 2) (bf (cu (cn K (ax (kg K A) (fun _=>E0) (aa (tOp (aF K) (af 0) (af 2)) (aa (tOp (aF K) (af 1) (af 2)) (aj)))))) (aN (tC (.bl false))) (aY))) (aN (tC (.bl true))))
def FC (K:W.Frag) (A:Adr):TS:=au (bf (mOr (cu (cn K (tCB (du) (aa (af 2) (aa (tC (.ty "tuple")) (aj)))))) (aX (tOp (dH K) (tCB (cE K) (aa (af 2) (aj))) (tC (.int 2))))) (aN (tC (.bl false))) (aY)) (aN (dh (ax (gA K A) (fun _=>E0) (aa (tOp (aF K) (af 2) (tC (.int 0))) (aj))) (dh (dE (mLe) (mLt) (af 1) (tOp (aF K) (af 2) (tC (.int 0))) (af 0)) (ax (ie K A) (fun _=>E0) (aa (tOp (aF K) (af 2) (tC (.int 1))) (aj))))))
def GT (K:W.Frag) (A:Adr):TS:=au (bf (cu (cn K (tCB (du) (aa (af 1) (aa (tC (.ty "tuple")) (aj)))))) (aN (tC (.bl false))) (aY)) (au (aB (tC (.int 0)) (ay 2)) (au (gJ (fR K (af 1)) (ay 3) (au (bf (cu (cn K (ax (me K A) (fun _=>E0) (aa (af 0) (aa (af 2) (aa (af 3) (aj))))))) (aN (tC (.bl false))) (aY)) (aB (tOp (aH K) (tOp (aF K) (af 3) (tC (.int 0))) (tC (.int 1))) (ay 2)))) (aN (tC (.bl true)))))
def Hi (K:W.Frag) (A:Adr):TS:=au (bf (aX (tOp (qG K) (af 3) (aE (aa (tC (.str "bare")) (aj))))) (aN (tOp (bC K) (af 2) (tC (.int 0)))) (aY)) (au (aB (ax (ir K A) (fun _=>E0) (aa (af 0) (aa (af 1) (aa (af 2) (aj))))) (ay 4)) (au (bf (cn K (ax (kB K A) (fun _=>E0) (aa (af 0) (aa (af 2) (aa (af 4) (aa (af 3) (aj))))))) (aN (tC (.bl true))) (aY)) (au (bf (cu (cn K (ax (jW K A) (fun _=>E0) (aa (af 0) (aa (af 2) (aa (af 4) (aa (af 3) (aj)))))))) (aN (tC (.bl false))) (aY)) (au (bf (aX (tOp (bC K) (tOp (aF K) (af 3) (tC (.int 2))) (ax (ir K A) (fun _=>E0) (aa (af 0) (aa (af 1) (aa (tOp (aF K) (af 3) (tC (.int 1))) (aj))))))) (aN (tC (.bl false))) (aY)) (aN (dh (ax (ie K A) (fun _=>E0) (aa (tOp (aF K) (af 3) (tC (.int 3))) (aj))) (ax (ie K A) (fun _=>E0) (aa (tOp (aF K) (af 3) (tC (.int 4))) (aj)))))))))
def FO (K:W.Frag) (A:Adr):TS:=au (bf (mOr (cu (cn K (tCB (du) (aa (af 2) (aa (tC (.ty "tuple")) (aj)))))) (aX (tOp (dH K) (tCB (cE K) (aa (af 2) (aj))) (tC (.int 2))))) (aN (tC (.bl false))) (aY)) (au (bf (cu (cn K (ax (ma K A) (fun _=>E0) (aa (af 0) (aa (tOp (aF K) (af 2) (tC (.int 0))) (aj)))))) (aN (tC (.bl false))) (aY)) (au (aB (mIf (cn K (tOp (aF K) (af 2) (tC (.int 0)))) (tOp (aH K) (tOp (aF K) (tOp (aF K) (tOp (aF K) (af 2) (tC (.int 0))) (tUn dQ (tC (.int 1)))) (tC (.int 0))) (tC (.int 1))) (tC (.int 0))) (ay 3)) (aN (ax (mt K A) (fun _=>E0) (aa (af 0) (aa (af 1) (aa (af 3) (aa (tOp (aF K) (af 2) (tC (.int 1))) (aj)))))))))
def GC (K:W.Frag) (A:Adr) (n:Nat):TS:=au (bf (aX (tOp (bC K) (tOp (aF K) (af 0) (tC (.int 0))) (tC (.str "leaf")))) (aN (bq (aa (aE (aa (tOp (aF K) (af 0) (tC (.int 1))) (aa (tOp (aF K) (af 0) (tC (.int 2))) (aj)))) (aj)))) (aY)) (au (bf (aX (tOp (bC K) (tOp (aF K) (af 0) (tC (.int 0))) (tC (.str "fork")))) (aN (tOp (aH K) (ax (hV K A n) (fun _=>E0) (aa (tOp (aF K) (af 0) (tC (.int 3))) (aj))) (ax (hV K A n) (fun _=>E0) (aa (tOp (aF K) (af 0) (tC (.int 4))) (aj))))) (aY)) (aN (bq (aj))))
def Gs (K:W.Frag) (A:Adr):TS:=aN (gG [1,2] (fR K (ax (hV K A 70) (fun _=>E0) (aa (af 0) (aj)))) (aX (dE (mLe) (mLe) (af 1) (tOp (aF K) (af 0) (tC (.int 0))) (af 2))) (af 0))
def sd (K:W.Frag) (A:Adr):TS:=aN (ax (jU K A) (fun _=>E0) (aa (ax (kC K A) (fun _=>E0) (aa (af 5) (aa (af 1) (aa (af 6) (aa (af 2) (aa (af 3) (aa (af 4) (aj)))))))) (aa (ax (md K A) (fun _=>E0) (aa (af 4) (aa (af 2) (aa (af 3) (aj))))) (aj))))
def se (K:W.Frag) (A:Adr):TS:=au (bf (aX (tOp (mC) (ax (mB K A) (fun _=>E0) (aa (af 1) (aa (af 2) (aa (ax (jY K A) (fun _=>E0) (aa (af 5) (aa (af 1) (aa (af 2) (aa (af 3) (aa (af 4) (aa (af 2) (aj)))))))) (aj))))) (tC (.bl true)))) (aN (tC (.bl false))) (aY)) (sd K A)
def tJ (K:W.Frag) (A:Adr):TS:=au (bf (cu (cn K (ax (jU K A) (fun _=>E0) (aa (ax (hZ K A) (fun _=>E0) (aa (af 5) (aa (af 1) (aa (af 2) (aa (af 3) (aa (af 4) (aj))))))) (aa (af 7) (aj)))))) (aN (tC (.bl false))) (aY)) (se K A)
def sT (K:W.Frag) (A:Adr):TS:=au (gJ (fR K (tOp (aH K) (tSl (iC K) (af 0) (eT (tC (.int 5))) (eT (tC (.int 35)))) (gG [0] (qo (aa (tC (.int 36)) (aa (tC (.int 40)) (aj)))) (fun _ H Q=>Q true H) (ax (il K A) (fun _=>E0) (aa (af 1) (aa (af 0) (aj))))))) (ay 9) (bf (cu (cn K (ax (mm K A) (fun _=>E0) (aa (af 9) (aa (af 5) (aa (af 1) (aa (af 6) (aa (af 2) (aa (af 3) (aa (af 4) (aa (af 8) (aj)))))))))))) (aN (tC (.bl false))) (aY))) (tJ K A)
def rY (K:W.Frag) (A:Adr):TS:=au (aB (ax (ig K A 70) (fun _=>E0) (aa (af 4) (aa (tC (.int 0)) (aa (tC (.int 0)) (aa (aE (aj)) (aj)))))) (ay 8)) (sT K A)
def sH (K:W.Frag) (A:Adr):TS:=au (aB (ax (ia K A 70) (fun _=>E0) (aa (af 5) (aa (af 4) (aj)))) (qS K 2 (iG (ay 6) (iG (ay 7) qq)))) (rY K A)
def rN (K:W.Frag) (A:Adr):TS:=au (aB (ax (lV K A) (fun _=>E0) (aa (tOp (aH K) (tC (.int 1000003)) (tOp (bp) (ax (il K A) (fun _=>E0) (aa (af 0) (aa (tC (.int 4)) (aj)))) (tC (.int 9)))) (aj))) (ay 5)) (sH K A)
def sX (K:W.Frag) (A:Adr):TS:=au (aB (ax (mU K A) (fun _=>E0) (aa (ax (il K A) (fun _=>E0) (aa (af 0) (aa (tC (.int 3)) (aj)))) (aa (af 1) (aa (af 2) (aa (af 3) (aj)))))) (ay 4)) (rN K A)
def tN (K:W.Frag) (A:Adr):TS:=au (aB (ax (lT K A) (fun _=>E0) (aa (af 1) (aa (ax (il K A) (fun _=>E0) (aa (af 0) (aa (tC (.int 1)) (aj)))) (aa (ax (il K A) (fun _=>E0) (aa (af 0) (aa (tC (.int 2)) (aj)))) (aj))))) (qS K 2 (iG (ay 2) (iG (ay 3) qq)))) (sX K A)
def GU (K:W.Frag) (A:Adr):TS:=au (aB (ax (pQ K A) (fun _=>E0) (aa (ax (il K A) (fun _=>E0) (aa (af 0) (aa (tC (.int 0)) (aj)))) (aj))) (ay 1)) (tN K A)
variable {K:W.Frag} {mg:Str→Option Value} {A:Adr}
def tyD:Dat→String
 | .non=> "NoneType"
 | .bl _=> "bool"
 | .int _=> "int"
 | .str _=> "str"
 | .lst _=> "list"
 | .tup _=> "tuple"
 | .dic=> "dict"
theorem aR.ty {H:Hp} {v:V} {d:Dat} (h:aR H v d):tyN H v=some (tyD d):=by
 cases h with
 | lst e _=>unfold tyN;dsimp only;rw [e];rfl
 | tup e _=>unfold tyN;dsimp only;rw [e];rfl
 | dic e=>unfold tyN;dsimp only;obtain ⟨kvs,e⟩:=e;rw [e];rfl
 | _=>rfl
mutual
theorem aR.toV {K:W.Frag} {H:Hp} {v:V} {d:Dat} (h:aR H v d) (ok:okD d=true):eU K H v (dA d):=by
 cases h with
 | non=>exact .non
 | bl b=>exact .bl b
 | int i=>exact .int i
 | str z=>exact .str z
 | lst e r=>exact .lst (SqL.of e) (DatWs.toV r ok)
 | tup e r=>exact .tup (SqT.of e) (DatWs.toV r ok)
 | dic e=>cases ok
theorem DatWs.toV {K : W.Frag} {H : Hp} {xs : List V} {ds : List Dat} (h : DatWs H xs ds) (ok : okDs ds = true) : DatVs K H xs (toPys ds) := by
  cases h with
  | nil => exact .nil
  | cons a r =>
    have ok : (okD _ && okDs _) = true := ok
    rw [Bool.and_eq_true] at ok
    exact .cons (aR.toV a ok.1) (DatWs.toV r ok.2)
end
theorem zD {z:Str} (h:cM z=true):PyData.strOk z=true:=by
 unfold PyData.strOk
 unfold cM at h
 rw [Array.all_eq_true] at h ⊢
 intro i hi
 have:=of_decide_eq_true (h i hi)
 exact decide_eq_true (by omega)
mutual
theorem im:∀ {d:Dat},okD d=true→(dA d).canLay0=true
 | .non,_=>rfl
 | .bl _,_=>rfl
 | .int _,_=>rfl
 | .str z,h=>zD (Bool.and_eq_true_iff.mp h).1
 | .lst ds,h=>lay_toPys h
 | .tup ds,h=>lay_toPys h
theorem lay_toPys : ∀ {ds : List Dat}, okDs ds = true → PyData.canLayAll0 (toPys ds) = true
  | [], _ => rfl
  | d :: r, h => by
    have h : (okD d && okDs r) = true := h
    rw [Bool.and_eq_true] at h
    show ((dA d).canLay0 && PyData.canLayAll0 (toPys r)) = true
    rw [im h.1, lay_toPys h.2]; rfl
end
theorem DatWs.len {H:Hp}:∀ {xs:List V} {ds:List Dat},DatWs H xs ds→xs.length=ds.length
 | _,_,.nil=>rfl
 | _,_,.cons _ r=>by rw [List.length_cons,List.length_cons,r.len]
theorem DatWs.get {H : Hp} : ∀ {xs : List V} {ds : List Dat}, DatWs H xs ds → ∀ {i : Nat} {x : V}, xs[i]? = some x → ∃ d, ds[i]? = some d ∧ aR H x d
  | _, _, .nil, i, x, e => by cases e
  | _, _, .cons a r, i, x, e => by
    cases i with
    | zero => cases e; exact ⟨_, rfl, a⟩
    | succ i => exact r.get e
mutual
theorem aR.mono {H H':Hp} {v:V} {d:Dat} (s:ar H H') (h:aR H v d):aR H' v d:=by
 cases h with
 | non=>exact .non
 | bl b=>exact .bl b
 | int i=>exact .int i
 | str z=>exact .str z
 | lst e r=>exact .lst (s _ _ e) (DatWs.mono s r)
 | tup e r=>exact .tup (s _ _ e) (DatWs.mono s r)
 | dic e=>exact (let ⟨k,e⟩:=e;.dic ⟨k,s _ _ e⟩)
theorem DatWs.mono {H H':Hp} {xs:List V} {ds:List Dat} (s:ar H H') (h:DatWs H xs ds):DatWs H' xs ds:=by
 cases h with
 | nil=>exact .nil
 | cons a r=>exact .cons (aR.mono s a) (DatWs.mono s r)
end
theorem pN {K:W.Frag} {H:Hp} {v:V} {d:Dat} {w:Str} {Q:VK} (h:aR H v d) (ok:okD d=true) (dp:(dA d).depth≤150) (hw:PyData.strOk w=true) (q:Q (.bl (!bv w d)) H):dH K v (.str w) H Q:=by
 have ref:∀ a,v=.ref a→(dA d).eqv (.str w)=false→bv w d=false→dH K v (.str w) H Q:=fun a e e1 e2=>by
  subst e
  refine ⟨_,_,h.toV ok,.str w,im ok,hw,dp,?_⟩
  rw [e1];rw [e2] at q;exact q
 cases h with
 | non=>exact q
 | bl b=>exact q
 | int i=>exact q
 | str z=>exact q
 | lst e r=>exact ref _ rfl rfl rfl
 | tup e r=>exact ref _ rfl rfl rfl
 | dic e=>cases ok
theorem ixT {K:W.Frag} {H:Hp} {Q:VK} {a:Addr} {xs:List V} {x:V} {i:Int} {j:Nat} (ha:H a=some (.tup xs)) (e:i=j) (hx:xs[j]?=some x) (q:Q x H):aF K (.ref a) (.int i) H Q:=by
 subst e
 refine .inl (.inr (.inl ⟨a,xs,j,x,rfl,rfl,SqT.of ha,?_,q⟩))
 have hj:=(List.getElem?_eq_some_iff.mp hx).1
 rw [tz (by omega) (by omega)]
 simp [List.getD_eq_getElem?_getD,hx]
theorem zu (K:W.Frag) (A:Adr):Ln (gA K A) 1:=by rintro vs H Q E ⟨v,d,rfl,_⟩;rfl
theorem En (T:Txt K mg A) (vs:List V) (H:Hp) (Q:VK) (E:XK) (h:gA K A vs H Q E):GQ K A { nx:=fun _ H'=>Q .non H',rt:=Q } (cq ["thing"] vs) H:=by
 obtain ⟨v,d,rfl,w,q⟩:=h
 refine ⟨by decide,_,w.ty,?_⟩
 cases d
 case int i=>exact Sel.yes rfl ⟨by decide,_,w.ty,q⟩
 case bl b=>exact Sel.yes rfl ⟨by decide,_,w.ty,q⟩
 all_goals exact Sel.no rfl q
theorem AG (K:W.Frag) (A:Adr):Ln (ie K A) 1:=by rintro vs H Q E ⟨v,d,rfl,_⟩;rfl
theorem CS (T : Txt K mg A) (vs : List V) (H : Hp) (Q : VK) (E : XK) (h : ie K A vs H Q E) : GR K A { nx := fun _ H' => Q .non H', rt := Q } (cq ["thing"] vs) H := by
  obtain ⟨v, d, rfl, w, q⟩ := h
  refine ⟨v, d, rfl, w, ?_⟩
  cases w with
  | int i =>
    refine Sel.yes rfl (Sel.dec (fun h0 => ⟨⟨by decide, by decide, by decide⟩, ?_⟩) (fun h0 => ?_))
    · show Q (.bl (decide (i < 10 ^ ((60 : Int).toNat)))) H
      have e : bH (.int i) = decide (i < 10 ^ ((60 : Int).toNat)) := by
        show decide (0 ≤ i ∧ i < 10 ^ 60) = decide (i < 10 ^ 60)
        by_cases h1 : i < 10 ^ 60
        · rw [decide_eq_true h1, decide_eq_true ⟨h0, h1⟩]
        · rw [decide_eq_false h1, decide_eq_false fun z => h1 z.2]
      rw [← e]; exact q
    · have e : bH (.int i) = false := decide_eq_false fun z => h0 z.1
      rw [← e]; exact q
  | non => exact Sel.no rfl ⟨by decide, _, rfl, q⟩
  | bl b => exact Sel.no rfl ⟨by decide, _, rfl, q⟩
  | str z => exact Sel.no rfl ⟨by decide, _, rfl, q⟩
  | lst e r => exact Sel.no rfl ⟨by decide, _, (aR.lst e r).ty, q⟩
  | tup e r => exact Sel.no rfl ⟨by decide, _, (aR.tup e r).ty, q⟩
  | dic e => exact Sel.no rfl ⟨by decide, _, (aR.dic e).ty, q⟩
theorem Au (K:W.Frag) (A:Adr):Ln (ir K A) 3:=by rintro vs H Q E ⟨b,k,d,rfl,_⟩;rfl
theorem DU (T:Txt K mg A):Rd (ir K A) (Gi K A) ["bits", "key", "depth"]:=by
 intro vs H Q E h
 obtain ⟨b,k,d,rfl,hd,q⟩:=h
 exact ⟨by omega,q⟩
theorem zv (K:W.Frag) (A:Adr):Ln (ib K A) 2:=by rintro vs H Q E ⟨b,v,d,rfl,_⟩;rfl
theorem Ej (T : Txt K mg A) : Rd (ib K A) (GH K A) ["bits", "thing"] := by
  intro vs H Q E h
  obtain ⟨b, v, d, rfl, h0, h1, w, q⟩ := h
  refine ⟨v, d, rfl, w, ?_⟩
  cases w with
  | int i =>
    refine Sel.yes rfl (Sel.dec (fun h2 => ⟨⟨h0, by omega, by decide⟩, ?_⟩) (fun h2 => ?_))
    · show Q (.bl (decide (i < 1 * 2 ^ b.toNat))) H
      have e : fD b (.int i) = decide (i < 1 * 2 ^ b.toNat) := by
        show decide (0 ≤ i ∧ i < 2 ^ b.toNat) = _
        rw [Int.one_mul]
        by_cases h1 : i < 2 ^ b.toNat
        · rw [decide_eq_true h1, decide_eq_true ⟨h2, h1⟩]
        · rw [decide_eq_false h1, decide_eq_false fun z => h1 z.2]
      rw [← e]; exact q
    · have e : fD b (.int i) = false := decide_eq_false fun z => h2 z.1
      rw [← e]; exact q
  | _ => exact Sel.no rfl q
theorem zI (K:W.Frag) (A:Adr):Ln (mi K A) 1:=by rintro vs H Q E ⟨v,d,rfl,_⟩;rfl
theorem DE (T : Txt K mg A) : Rd (mi K A) (GO K A) ["thing"] := by
  intro vs H Q E h
  obtain ⟨v, d, rfl, w, ok, q⟩ := h
  refine ⟨by decide, _, w.ty, ?_⟩
  cases w with
  | str z =>
    have hl := of_decide_eq_true (Bool.and_eq_true_iff.mp ok).2
    refine Sel.yes rfl (.inl ⟨be (by omega), ?_⟩)
    have e : dP (.str z) = decide ((z.length : Int) ≤ 60) := by
      show decide (z.length ≤ 60) = _
      by_cases h1 : z.length ≤ 60
      · rw [decide_eq_true h1, decide_eq_true (by omega)]
      · rw [decide_eq_false h1, decide_eq_false (by omega)]
    show Q (.bl (decide ((z.length : Int) ≤ 60))) H
    rw [← e]; exact q
  | _ => exact Sel.no rfl q
theorem ja (b l i:Int) (m:Dat):dk b l (.tup [.int i,m])=(decide (l≤i∧i<b)&&bH m):=rfl
theorem Av (K:W.Frag) (A:Adr):Ln (me K A) 3:=by rintro vs H Q E ⟨b,l,v,d,rfl,_⟩;rfl
theorem CH (T : Txt K mg A) : Rd (me K A) (FC K A) ["bits", "least", "thing"] := by
  intro vs H Q E h
  obtain ⟨b, l, v, d, rfl, w, q⟩ := h
  refine ⟨by decide, _, w.ty, ?_⟩
  cases w with
  | @tup a xs ds e r =>
    refine Sel.no rfl (.inl (.inr (.inl ⟨_, SqT.of e, ?_⟩)))
    have el := r.len
    refine Sel.ndec (fun hne => ?_) (fun he => ?_)
    · have e2 : dk b l (.tup ds) = false := by
        unfold dk
        split
        · rename_i heq; cases heq; simp at el; omega
        · rfl
      show Q (.bl false) H
      rw [← e2]; exact q
    · cases r with
      | nil => simp at he
      | cons w0 r =>
        cases r with
        | nil => simp at he
        | cons w1 r =>
          cases r with
          | cons _ _ => simp at he; omega
          | nil =>
            refine ixT (j := 0) e rfl rfl ⟨_, _, rfl, w0, ?_⟩
            cases w0 with
            | int i =>
              refine Sel.yes rfl (ixT (j := 0) e rfl rfl (Sel.dec (fun h1 => ?_) (fun h1 => ?_)))
              · refine Sel.dec (fun h2 => ?_) (fun h2 => ?_)
                · refine ixT (j := 1) e rfl rfl ⟨_, _, rfl, w1, ?_⟩
                  rw [ja, decide_eq_true ⟨h1, h2⟩] at q; exact q
                · rw [ja, decide_eq_false (fun z => h2 z.2)] at q; exact q
              · rw [ja, decide_eq_false (fun z => h1 z.1)] at q; exact Sel.no rfl q
            | _ => exact Sel.no rfl q
  | _ => exact Sel.yes rfl (Sel.t q)
theorem jb {b l:Int} {d:Dat} (h:dk b l d=true):∃ i m,d=.tup [.int i,m]:=by
 unfold dk at h
 split at h
 · exact ⟨_,_,rfl⟩
 · cases h
theorem Am {d : Dat} {ds : List Dat} (h : okDs ds = true) (hm : d ∈ ds) : okD d = true := by
  induction ds with
  | nil => cases hm
  | cons x r ih =>
    have h : (okD x && okDs r) = true := h
    rw [Bool.and_eq_true] at h
    rcases List.mem_cons.mp hm with rfl | hm
    · exact h.1
    · exact ih h.2 hm
theorem cb.at0 {d0:Dat} {ds:List Dat} (h:cb (.tup (d0::ds))):okD d0=true∧(dA d0).depth≤140:=by
 rcases h with ⟨h1,h2⟩ | h | ⟨x,y,l,r,h⟩
 · have h2:max (dA d0).depth (PyData.depthAll (toPys ds))+1≤140:=h2
   have h1:(okD d0&&okDs ds)=true:=h1
   rw [Bool.and_eq_true] at h1
   exact ⟨h1.1,by omega⟩
 · cases h
 · injection h with h;injection h with h _;subst h
   exact ⟨by decide +kernel,by decide⟩
theorem cb.at3 {d0 d1 d2:Dat} (h:cb (.tup [d0,d1,d2])):okD d2=true:=by
 rcases h with ⟨h1,h2⟩ | h | ⟨x,y,l,r,h⟩
 · exact Am (ds:=[d0,d1,d2]) h1 (by simp)
 · cases h
 · injection h with h;cases h
theorem pO {K : W.Frag} {H : Hp} {v : V} {d : Dat} {p : Addr} {Q : VK} (w : aR H v d) (ok : cb d) (hp : H p = some (.tup [.str "bare"])) (q : Q (.bl (dF d)) H) : qG K v (.ref p) H Q := by
  have dv : eU K H (.ref p) (.tuple [.str "bare"]) := .tup (SqT.of hp) (.cons (.str _) .nil)
  have lv : (PyData.tuple [.str "bare"]).canLay0 = true := by decide +kernel
  rcases ok with ⟨ok, dp⟩ | rfl | ⟨x, y, l, r, rfl⟩
  · have hd : ∀ e : (dA d).eqv (.tuple [.str "bare"]) = dF d, nk K v (.ref p) H Q := fun e => ⟨_, _, w.toV ok, dv, im ok, lv, by omega, by rw [e]; exact q⟩
    cases w with
    | non => exact .inl (hd rfl)
    | bl b => exact .inl (hd rfl)
    | int i => exact .inl (hd rfl)
    | str z => exact .inl (hd rfl)
    | lst e r => exact .inl (.inr (.inl (hd rfl)))
    | @tup a xs ds e r =>
      refine .inl (.inr (.inl (hd ?_)))
      clear hd r ok dp q
      cases ds with
      | nil => rfl
      | cons x rs =>
        cases rs with
        | nil =>
          show ((dA x).eqv (.str "bare") && true) = bv "bare" x
          rw [Bool.and_true]
          cases x with
          | str z =>
            show (z == ("bare" : Str)) = decide (z = "bare")
            by_cases h : z = "bare" <;> simp [h]
          | _ => rfl
        | cons y rs =>
          show ((dA x).eqv (.str "bare") && false) = false
          rw [Bool.and_false]
    | dic e => cases ok
  · cases w with
    | dic e => exact .inl (.inr (.inr ⟨_, p, _, rfl, rfl, .inl e, SqT.of hp, q⟩))
  · cases w with
    | tup e ws =>
      cases ws with
      | cons w0 ws =>
        cases w0
        refine .inr ⟨_, p, _, _, _, rfl, rfl, SqT.of e, SqT.of hp, rfl, rfl, ?_⟩
        rw [decide_eq_false (by intro z; injection z with z; exact absurd z (by decide +kernel))]
        exact q
theorem AA (K:W.Frag) (A:Adr):Ln (ma K A) 2:=by rintro vs H Q E ⟨b,v,d,rfl,_⟩;rfl
theorem Dm (T : Txt K mg A) : Rd (ma K A) (GT K A) ["bits", "thing", "least", "step"] := by
  intro vs H Q E h
  obtain ⟨b, v, d, rfl, w, q⟩ := h
  refine ⟨by decide, _, w.ty, ?_⟩
  cases w with
  | @tup a xs ds e r =>
    have q : Q (.bl (bL b 0 ds)) H := q
    refine Sel.no rfl ⟨a, rfl, .inr ⟨⟨_, SqT.of e⟩, ?_⟩⟩
    have el := r.len
    refine pE (xs := xs) (fun i σ H' => H' = H ∧ ∃ l x3, σ = [some (.int b), some (.ref a), some (.int l), x3] ∧ bL b 0 ds = bL b l (ds.drop i)) ⟨rfl, 0, none, rfl, rfl⟩ ?_ ?_ ?_
    · rintro i σ _ _ ⟨rfl, _⟩; exact SqT.of e
    · rintro i x σ _ hx ⟨rfl, l, x3, rfl, eq⟩
      obtain ⟨d, hd, wx⟩ := r.get hx
      have hi : i < ds.length := (List.getElem?_eq_some_iff.mp hd).1
      have dr : ds.drop i = d :: ds.drop (i + 1) := by
        rw [List.drop_eq_getElem_cons hi]
        rw [List.getElem?_eq_getElem hi] at hd; rw [Option.some.inj hd]
      rw [dr] at eq
      have eq : bL b 0 ds = (dk b l d && bL b (fW d + 1) (ds.drop (i + 1))) := eq
      refine ⟨b, l, x, d, rfl, wx, Sel.mk (fun hf => ?_) (fun ht => ?_)⟩
      · have hf : dk b l d = false := by simpa using hf
        rw [hf] at eq
        rw [eq] at q; exact q
      · have ht : dk b l d = true := by simpa using ht
        obtain ⟨i0, m, rfl⟩ := jb ht
        cases wx with
        | tup ex rx =>
          cases rx with
          | cons w0 rx =>
            cases w0
            refine ixT (j := 0) ex rfl rfl ⟨rfl, _, _, rfl, ?_⟩
            rw [ht] at eq; exact eq
    · rintro σ _ ⟨rfl, l, x3, rfl, eq⟩
      rw [List.drop_eq_nil_of_le (by omega)] at eq
      rw [eq] at q; exact q
  | _ => exact Sel.yes rfl q
theorem Bo (K:W.Frag) (A:Adr):Ln (kB K A) 4:=by rintro vs H Q E ⟨b,p,g,v,d,rfl,_⟩;rfl
theorem Cm (T : Txt K mg A) : Rd (kB K A) (Hb K A) ["bits", "depth", "begin", "thing"] := by
  intro vs H Q E h
  obtain ⟨b, p, g, v, d, rfl, b0, b60, hp, w, ok, q⟩ := h
  refine ⟨by decide, _, w.ty, ?_⟩
  cases w with
  | @tup a xs ds e r =>
    have el := r.len
    refine Sel.no rfl (.inl (.inr (.inl ⟨_, SqT.of e, Sel.ndec (fun ne => Sel.t ?_) (fun he => ?_)⟩)))
    · have e2 : cZ b p g (.tup ds) = false := by
        unfold cZ
        split
        · rename_i heq; cases heq; simp at el; omega
        · rfl
      rw [e2] at q; exact q
    · cases r with
      | nil => simp at he
      | @cons x0 _ d0 _ w0 r =>
      cases r with
      | nil => simp at he
      | @cons x1 _ d1 _ w1 r =>
      cases r with
      | nil => simp at he
      | @cons x2 _ d2 _ w2 r =>
      cases r with
      | cons _ _ => simp at he; omega
      | nil =>
      obtain ⟨o0, p0⟩ := ok.at0
      have o2 := ok.at3
      refine ixT (j := 0) e rfl rfl (pN w0 o0 (by omega) (by decide +kernel) (Sel.mk (fun hn => ?_) (fun hy => ?_)))
      · have hn : bv "leaf" d0 = false := by simpa using hn
        have e2 : cZ b p g (.tup [d0, d1, d2]) = false := by
          cases d1 <;> first | rfl | (show (bv "leaf" d0 && _ && _ && _) = false; rw [hn]; rfl)
        rw [e2] at q; exact q
      · have hy : bv "leaf" d0 = true := by simpa using hy
        refine ixT (j := 1) e rfl rfl ⟨b, x1, d1, rfl, b0, b60, w1, ?_⟩
        cases w1 with
        | int k =>
          have e2 : cZ b p g (.tup [d0, .int k, d2]) = (decide (0 ≤ k ∧ k < 2 ^ b.toNat) && dP d2 && decide (bd b k p = g)) := by
            show (bv "leaf" d0 && _ && _ && _) = _
            rw [hy]; simp
          rw [e2] at q
          refine Sel.mk (fun hk => Sel.t ?_) (fun hk => ?_)
          · have hk : fD b (.int k) = false := by simpa only [Bool.not_eq_true'] using hk
            have hk : decide (0 ≤ k ∧ k < 2 ^ b.toNat) = false := hk
            rw [hk] at q; exact q
          · have hk : fD b (.int k) = true := by simpa only [Bool.not_eq_false'] using hk
            have hk : decide (0 ≤ k ∧ k < 2 ^ b.toNat) = true := hk
            rw [hk, Bool.true_and] at q
            refine ixT (j := 2) e rfl rfl ⟨x2, d2, rfl, w2, o2, ?_⟩
            refine Sel.mk (fun hv => ?_) (fun hv => ?_)
            · have hv : dP d2 = false := by simpa using hv
              rw [hv] at q; exact q
            · have hv : dP d2 = true := by simpa using hv
              rw [hv, Bool.true_and] at q
              exact ixT (j := 1) e rfl rfl ⟨b, k, p, rfl, hp, q⟩
        | _ => exact Sel.t (Sel.t q)
  | _ => exact Sel.yes rfl (Sel.t q)
theorem Al (K:W.Frag) (A:Adr):Ln (jW K A) 4:=by rintro vs H Q E ⟨b,p,g,v,d,rfl,_⟩;rfl
theorem Eo (T : Txt K mg A) : Rd (jW K A) (FU K A) ["bits", "depth", "begin", "thing"] := by
  intro vs H Q E h
  obtain ⟨b, p, g, v, d, rfl, p0, b60, hp, w, ok, q⟩ := h
  refine ⟨by decide, _, w.ty, ?_⟩
  cases w with
  | @tup a xs ds e r =>
    have el := r.len
    refine Sel.no rfl (.inl (.inr (.inl ⟨_, SqT.of e, Sel.ndec (fun ne => Sel.t ?_) (fun he => ?_)⟩)))
    · have e2 : cz b p g (.tup ds) = false := by
        unfold cz
        split
        · rename_i heq; cases heq; simp at el; omega
        · rfl
      rw [e2] at q; exact q
    · cases r with
      | nil => simp at he
      | @cons x0 _ d0 _ w0 r =>
      cases r with
      | nil => simp at he
      | @cons x1 _ d1 _ w1 r =>
      cases r with
      | nil => simp at he
      | @cons x2 _ d2 _ w2 r =>
      cases r with
      | nil => simp at he
      | @cons x3 _ d3 _ w3 r =>
      cases r with
      | nil => simp at he
      | @cons x4 _ d4 _ w4 r =>
      cases r with
      | cons _ _ => simp at he; omega
      | nil =>
      obtain ⟨o0, pp⟩ := ok.at0
      refine ixT (j := 0) e rfl rfl (pN w0 o0 (by omega) (by decide +kernel) (Sel.mk (fun hn => ?_) (fun hy => ?_)))
      · have hn : bv "fork" d0 = false := by simpa using hn
        have e2 : cz b p g (.tup [d0, d1, d2, d3, d4]) = false := by
          cases d1 <;> first | rfl | (cases d2 <;> first | rfl | (show (bv "fork" d0 && _ && _ && _) = false; rw [hn]; rfl))
        rw [e2] at q; exact q
      · have hy : bv "fork" d0 = true := by simpa using hy
        refine ixT (j := 1) e rfl rfl ⟨x1, d1, rfl, w1, ?_⟩
        cases w1 with
        | int ee =>
          refine Sel.no rfl (ixT (j := 1) e rfl rfl ?_)
          have bad : decide (p ≤ ee ∧ ee < b) = false → cz b p g (.tup [d0, .int ee, d2, d3, d4]) = false := fun z => by
            cases d2 <;> first | rfl | (show (bv "fork" d0 && _ && _ && _) = false; rw [z]; simp)
          refine Sel.dec (fun h1 => Sel.ndec (fun h2 => ?_) (fun h2 => ?_)) (fun h1 => ?_)
          · rw [bad (decide_eq_false fun z => h2 z.2)] at q; exact q
          · refine ixT (j := 2) e rfl rfl ⟨x2, d2, rfl, w2, ?_⟩
            cases w2 with
            | int bb =>
              have e2 : cz b p g (.tup [d0, .int ee, .int bb, d3, d4]) = (decide (0 ≤ bb ∧ bb < 2 ^ ee.toNat) && decide (bb / 2 ^ (ee - p).toNat = g)) := by
                show (bv "fork" d0 && decide (p ≤ ee ∧ ee < b) && _ && _) = _
                rw [hy, decide_eq_true ⟨h1, h2⟩]; simp
              rw [e2] at q
              refine Sel.no rfl (ixT (j := 2) e rfl rfl ?_)
              refine Sel.dec (fun h3 => ixT (j := 1) e rfl rfl ⟨⟨by omega, by omega, by decide⟩, Sel.mk (fun h4 => ?_) (fun h4 => ?_)⟩) (fun h3 => ?_)
              · rw [Int.one_mul] at h4
                have h4 : ¬ bb < 2 ^ ee.toNat := by simpa using h4
                rw [decide_eq_false (fun z => h4 z.2)] at q; exact q
              · rw [Int.one_mul] at h4
                have h4 : bb < 2 ^ ee.toNat := by simpa using h4
                rw [decide_eq_true ⟨h3, h4⟩, Bool.true_and] at q
                exact ixT (j := 2) e rfl rfl (ixT (j := 1) e rfl rfl ⟨by omega, q⟩)
              · rw [decide_eq_false (fun z => h3 z.1)] at q; exact Sel.yes rfl q
            | _ => exact Sel.yes rfl (Sel.t q)
          · rw [bad (decide_eq_false fun z => h1 z.1)] at q; exact Sel.yes rfl q
        | _ => exact Sel.yes rfl (Sel.t q)
  | _ => exact Sel.yes rfl (Sel.t q)
theorem nM {b p g:Int} {d:Dat} (h:cz b p g d=true):∃ w e bb m n,d=.tup [w,.int e,.int bb,m,n]∧p≤e∧e<b:=by
 unfold cz at h
 split at h
 · rename_i w e bb m n
   simp only [Bool.and_eq_true,decide_eq_true_eq] at h
   exact ⟨w,e,bb,m,n,rfl,h.1.1.2.1,h.1.1.2.2⟩
 · cases h
theorem Bu (K:W.Frag) (A:Adr):Ln (mt K A) 4:=by rintro vs H Q E ⟨b,k,p,v,d,rfl,_⟩;rfl
theorem Ew (T:Txt K mg A):Rd (mt K A) (Hi K A) ["bits", "key", "place", "thing", "begin"]:=by
 intro vs H Q E h
 obtain ⟨b,k,p,v,d,rfl,p0,b60,hp,w,ok,q⟩:=h
 refine ⟨be (n:=1) (by decide),fun r hr=>?_⟩
 have S:=ar.upd (o:=.tup [V.str "bare"]) hr
 have q:=q _ S
 have w:=w.mono S
 refine pO w ok ao ?_
 generalize upd H r (.tup [V.str "bare"])=H1 at w q ⊢
 unfold eR at q
 refine Sel.mk (fun hb=>?_) (fun hb=>?_)
 · rw [hb,if_pos rfl] at q;exact q
 · rw [hb] at q
   have q:Q (.bl (cZ b p (bd b k p) d||(cz b p (bd b k p) d&&vX b k d))) H1:=q
   refine ⟨b,k,p,rfl,hp,b,p,bd b k p,v,d,rfl,by omega,b60,hp,w,ok,?_⟩
   refine Sel.mk (fun hl=>?_) (fun hl=>?_)
   · rw [hl,Bool.true_or] at q;exact q
   · rw [hl,Bool.false_or] at q
     refine ⟨b,p,bd b k p,v,d,rfl,p0,b60,hp,w,ok,?_⟩
     refine Sel.mk (fun hf=>?_) (fun hf=>?_)
     · have hf:cz b p (bd b k p) d=false:=by simpa only [Bool.not_eq_true'] using hf
       rw [hf,Bool.false_and] at q;exact q
     · have hf:cz b p (bd b k p) d=true:=by simpa only [Bool.not_eq_false'] using hf
       rw [hf,Bool.true_and] at q
       obtain ⟨w0,e,bb,m,n,rfl,h1,h2⟩:=nM hf
       have q:Q (.bl (!decide (bb=bd b k e)&&bH m&&bH n)) H1:=q
       cases w with
       | tup ea r=>
       cases r with
       | cons _ r=>
       cases r with
       | cons z1 r=>
       cases r with
       | cons z2 r=>
       cases r with
       | cons z3 r=>
       cases r with
       | cons z4 r=>
       cases r
       cases z1
       cases z2
       refine ixT (j:=2) ea rfl rfl (ixT (j:=1) ea rfl rfl ⟨b,k,e,rfl,by omega,?_⟩)
       refine Sel.dec (fun he=>?_) (fun he=>?_)
       · rw [decide_eq_true he] at q;exact q
       · rw [decide_eq_false he] at q
         refine ixT (j:=3) ea rfl rfl ⟨_,_,rfl,z3,Sel.mk (fun hm=>?_) (fun hm=>?_)⟩
         · rw [hm] at q
           exact ixT (j:=4) ea rfl rfl ⟨_,_,rfl,z4,q⟩
         · rw [hm] at q;exact q
theorem iL {b : Int} : ∀ {ds : List Dat} {l : Int}, 0 ≤ l → bL b l ds = true → ∀ {s}, ds.getLast? = some s → ∃ i m, s = .tup [.int i, m] ∧ 0 ≤ i ∧ i < b
  | [], l, _, _, s, e => by cases e
  | x :: r, l, hl, h, s, e => by
    have h : (dk b l x && bL b (fW x + 1) r) = true := h
    rw [Bool.and_eq_true] at h
    obtain ⟨i, m, rfl⟩ := jb h.1
    have hi : (decide (l ≤ i ∧ i < b) && bH m) = true := h.1
    rw [Bool.and_eq_true, decide_eq_true_eq] at hi
    cases r with
    | nil =>
      cases e
      exact ⟨i, m, rfl, by omega, hi.1.2⟩
    | cons y r =>
      rw [List.getLast?_cons_cons] at e
      exact iL (l := i + 1) (by omega) h.2 e
theorem zO (K:W.Frag) (A:Adr):Ln (mB K A) 3:=by rintro vs H Q E ⟨b,k,v,d,rfl,_⟩;rfl
theorem Ft (T : Txt K mg A) : Rd (mB K A) (FO K A) ["bits", "key", "thing", "place"] := by
  intro vs H Q E h
  obtain ⟨b, k, v, d, rfl, b0, b60, w, ok, q⟩ := h
  have q0 := q H (.refl H)
  refine ⟨by decide, _, w.ty, ?_⟩
  cases w with
  | @tup a xs ds e r =>
    have el := r.len
    refine Sel.no rfl (.inl (.inr (.inl ⟨_, SqT.of e, Sel.ndec (fun ne => ?_) (fun he => ?_)⟩)))
    · have e2 : gS b k (.tup ds) = false := by
        unfold gS
        split
        · rename_i heq; cases heq; simp at el; omega
        · rfl
      rw [e2] at q0; exact q0
    · cases r with
      | nil => simp at he
      | @cons x0 _ d0 _ w0 r =>
      cases r with
      | nil => simp at he
      | @cons x1 _ d1 _ w1 r =>
      cases r with
      | cons _ _ => simp at he; omega
      | nil =>
      have ok : cb d1 := ok
      refine ixT (j := 0) e rfl rfl ⟨b, x0, d0, rfl, w0, ?_⟩
      cases w0 with
      | @tup a0 ys es e0 r0 =>
        have q : ∀ H', ar H H' → Q (.bl (bL b 0 es && eR b k (gX es) d1)) H' := q
        refine Sel.mk (fun hs => ?_) (fun hs => ?_)
        · have hs : bL b 0 es = false := by simpa only [Bool.not_eq_true'] using hs
          have q := q H (.refl H)
          rw [hs] at q; exact q
        · have hs : bL b 0 es = true := by simpa only [Bool.not_eq_false'] using hs
          rw [hs] at q
          refine ixT (j := 0) e rfl rfl ⟨!ys.isEmpty, .inr (.inl ⟨ys, SqT.of e0, rfl⟩), ?_⟩
          have l0 := r0.len
          cases ys with
          | nil =>
            cases r0
            exact Sel.no rfl (ixT (j := 1) e rfl rfl ⟨b, k, 0, x1, d1, rfl, by decide, b60, b0, w1, ok, q⟩)
          | cons y yr =>
            obtain ⟨s, hsl⟩ : ∃ s, es.getLast? = some s := by
              cases es with
              | nil => simp at l0
              | cons z zr => exact ⟨_, List.getLast?_eq_some_getLast (by simp)⟩
            obtain ⟨i, m, rfl, i0, i1⟩ := iL (Int.le_refl 0) hs hsl
            have hlast : es[es.length - 1]? = some (.tup [.int i, m]) := by rw [← List.getLast?_eq_getElem?]; exact hsl
            have hpl : gX es = i + 1 := by unfold gX; rw [hsl]; rfl
            have hpos : 0 < (y :: yr).length := by simp
            obtain ⟨v', hv'⟩ : ∃ v', (y :: yr)[(y :: yr).length - 1]? = some v' := ⟨_, List.getElem?_eq_getElem (by omega)⟩
            obtain ⟨d', hd', wd'⟩ := r0.get hv'
            rw [l0] at hd'
            rw [hlast] at hd'; cases hd'
            refine Sel.yes rfl (ixT (j := 0) e rfl rfl ?_)
            refine .inl (.inr (.inl ⟨a0, y :: yr, -1, v', rfl, rfl, SqT.of e0, ?_, ?_⟩))
            · unfold atI ixN
              rw [if_neg (by decide), if_pos (by simp; omega)]
              show (y :: yr)[(-1 + ((y :: yr).length : Int)).toNat]? = _
              have : (-1 + ((y :: yr).length : Int)).toNat = (y :: yr).length - 1 := by omega
              rw [this]; exact hv'
            · cases wd' with
              | tup ee rr =>
                cases rr with
                | cons z0 rr =>
                  cases z0
                  refine ixT (j := 0) ee rfl rfl (ixT (j := 1) e rfl rfl ⟨b, k, i + 1, x1, d1, rfl, by omega, b60, by omega, w1, ok, ?_⟩)
                  rw [hpl] at q
                  exact q
      | _ => exact Sel.t q0
  | _ => exact Sel.yes rfl (Sel.t q0)
theorem rZ {x:Int} (h:x.natAbs<2^64):Builtin.Int.intBits x≤64:=by
 unfold Builtin.Int.intBits
 split
 · decide
 · rename_i hx
   have hx:x≠0:=by simpa using hx
   have:x.natAbs.log2<64:=(Nat.log2_lt (by omega)).mpr h
   omega
theorem gL {x y:Int} (h0:0≤x) (h:x<2^64):IntMulOk x y:=IntMulOk.of_left (rZ (by omega))
theorem fg {x y:Int} (h0:0≤y) (h:y<2^64):IntMulOk x y:=IntMulOk.of_right (rZ (by omega))
theorem Do (K:W.Frag) (A:Adr):Ln (il K A) 2:=by rintro vs H Q E ⟨a,ns,k,rfl,_⟩;rfl
theorem FH (T:Txt K mg A):Rd (il K A) (T_3 K A) ["_law_script", "_law_k", "_law_number_here", "_law_cell"]:=by
 intro vs H Q E h
 obtain ⟨a,ns,k,rfl,hs,h0,q⟩:=h
 refine .inl (.inl ⟨_,hs,Sel.dec (fun h=>?_) (fun h=>?_)⟩)
 · obtain ⟨v,hv⟩:=tM h0 h
   obtain ⟨j,_,hj,_⟩:=gN hv
   obtain ⟨z,_,rfl⟩:=kM hj
   exact .inl (.inl ⟨a,_,k,_,rfl,rfl,hs,hv,q z H (.refl H)⟩)
 · obtain ⟨zs,ez,hz⟩:=sB ns none (some 5)
   refine .inl (.inl ⟨_,hs,5,rfl,.inl (.inl ⟨a,_,rfl,hs,fun p hp=>?_⟩)⟩)
   rw [ez]
   refine ⟨p,rfl,.inl ⟨⟨_,SqL.of ao⟩,?_⟩⟩
   refine jS (xs:=zs.map V.int) (fun i σ H'=>H'=upd H p (.lst (zs.map V.int))∧∃ n x3,σ=[some (.ref a),some (.int k),some (.int n),x3]) ⟨rfl,_,none,rfl⟩ ?_ ?_ ?_
   · rintro i σ _ _ ⟨rfl,_⟩;exact SqL.of ao
   · rintro i x σ _ hx ⟨rfl,n,x3,rfl⟩
     obtain ⟨z,_,rfl⟩:=kM hx
     exact ⟨fg (by decide) (by decide),by decide,rfl,_,_,rfl⟩
   · rintro σ _ ⟨rfl,n,x3,rfl⟩
     refine ⟨IntMulOk.of_left (by decide),by decide,?_⟩
     have b0:0≤(n+7919*k)%1000003:=by omega
     have b1:(n+7919*k)%1000003<1000003:=by omega
     exact ⟨gL b0 (by omega),by decide,q _ _ (ar.upd hp)⟩
theorem DO (K:W.Frag) (A:Adr):Ln (pQ K A) 1:=by rintro vs H Q E ⟨c,rfl,_⟩;rfl
theorem Gu (T:Txt K mg A):Rd (pQ K A) (T_9 K A) ["_law_cell"]:=by
 intro vs H Q E h
 obtain ⟨c,rfl,q⟩:=h
 refine ⟨⟨by decide,by decide⟩,be (n:=3) (by decide),fun p hp=>⟨by decide,?_⟩⟩
 have hc:c%3=0∨c%3=1∨c%3=2:=by omega
 have S:=ar.upd (o:=.lst [V.int 60,.int 8,.int 60]) hp
 rcases hc with e | e | e <;> rw [e]
 · exact ixL (j:=0) ao rfl rfl ⟨by decide,q _ _ S (by omega) (by omega)⟩
 · exact ixL (j:=1) ao rfl rfl ⟨by decide,q _ _ S (by omega) (by omega)⟩
 · exact ixL (j:=2) ao rfl rfl ⟨by decide,q _ _ S (by omega) (by omega)⟩
theorem xA {x:Int} {j m:Nat} (x0:0≤x) (hm:j<m) (x1:x<2^m):0≤Builtin.bitXor x (1*2^j)∧Builtin.bitXor x (1*2^j)<2^m:=by
 obtain ⟨y,rfl⟩:=Int.eq_ofNat_of_zero_le x0
 have e:(1:Int)*2^j=((2^j:Nat):Int):=by rw [Int.one_mul,iz]
 rw [e,kH,←iz]
 refine ⟨by omega,?_⟩
 have y1:y<2^m:=by rw [← iz] at x1;exact_mod_cast x1
 have:=Nat.xor_lt_two_pow (n:=m) y1 (Nat.pow_lt_pow_right (by decide:1<2) hm)
 exact_mod_cast this
theorem AZ (K:W.Frag) (A:Adr):Ln (kD K A) 3:=by rintro vs H Q E ⟨b,c,o,ks,rfl,_⟩;rfl
theorem DM (T : Txt K mg A) : Rd (kD K A) (GZ K A) ["_law_bits_here", "_law_cell", "_law_others", "_law_many", "_law_number_here", "_law_flip"] := by
  intro vs H Q E h
  obtain ⟨b, c, o, ks, rfl, b1, b60, ho, kl, kk, q⟩ := h
  have hp : (0 : Int) < 1 * 2 ^ b.toNat := by rw [Int.one_mul]; exact cR _
  have e1 : (1 : Int) * 2 ^ b.toNat = 2 ^ b.toNat := Int.one_mul _
  have fin : ∀ (n : Int) (H' : Hp), ar H H' → Q (.int (n % (1 * 2 ^ b.toNat))) H' := fun n H' s => q _ _ s (Int.emod_nonneg _ (Int.ne_of_gt hp)) (Int.lt_of_lt_of_le (Int.emod_lt_of_pos _ hp) (Int.le_of_eq e1))
  refine ⟨⟨by omega, by omega, by decide⟩, ⟨by decide, by decide⟩, by decide, Sel.dec (fun h => ?_) (fun h => ?_)⟩
  · exact ⟨hp, fin _ H (.refl H)⟩
  refine ⟨by decide, Sel.dec (fun h1 => ?_) (fun h1 => ?_)⟩
  · have h2 := Int.emod_nonneg (c / 5) (b := 1 * 2 ^ b.toNat) (by omega)
    have h3 := Int.emod_lt_of_pos (c / 5) hp
    exact ⟨hp, q _ _ (.refl H) (by omega) (Int.lt_of_lt_of_le (b := 1 * 2 ^ b.toNat) (by omega) (Int.le_of_eq e1))⟩
  refine ⟨by decide, Sel.dec (fun h2 => ?_) (fun h2 => Sel.f ?_)⟩
  · refine ⟨be (n := 0) (by decide), fun p hp' => ⟨_, _, .lst (SqL.of (ar.upd hp' _ _ ho)) (kr ks), .lst (SqL.of ao) .nil, jB ks, rfl, pT ks, ?_⟩⟩
    cases ks with
    | nil => exact Sel.no rfl ⟨fg (by decide) (by decide), hp, fin _ _ (ar.upd hp')⟩
    | cons x xr =>
      cases xr with
      | cons y yr => simp at kl
      | nil =>
      refine Sel.yes rfl ⟨fg (by decide) (by decide), by decide, by omega, .inl (.inl ⟨_, SqL.of (ar.upd hp' _ _ ho), by simp, ?_⟩)⟩
      have hx := kk x List.mem_cons_self
      have r0 := Int.emod_nonneg (c / 5 * 48271 % 65537) (b := b) (by omega)
      have r1 := Int.emod_lt_of_pos (c / 5 * 48271 % 65537) (b := b) (by omega)
      have fl := xA (j := (c / 5 * 48271 % 65537 % b).toNat) hx.1 (by omega) hx.2
      refine ixL (j := 0) (ar.upd hp' _ _ ho) ?_ rfl ⟨⟨by omega, by omega, by decide⟩, q _ _ (ar.upd hp') fl.1 fl.2⟩
      show c / 5 % 1 = 0
      omega
  · exact ⟨fg (by decide) (by decide), hp, fin _ H (.refl H)⟩
theorem Ba (K:W.Frag) (A:Adr):Ln (my K A) 1:=by rintro vs H Q E ⟨c,rfl,_⟩;rfl
theorem DZ:∀ n:Fin 50,okD (.str (("m" :Str)++Str.ofString (toString (((n:Nat):Int)))))=true∧(Str.ofString (toString (((n:Nat):Int)))).length≤2∧szK (.inr (("m" :Str)++Str.ofString (toString (((n:Nat):Int)))))≤1062:=by decide +kernel
theorem nP {i:Int} (h0:0≤i) (h1:i<10^60):sN (.inl i):=⟨decide_eq_true ⟨h0,h1⟩,rfl,by show 62≤1062;decide⟩
theorem EB (T:Txt K mg A):Rd (my K A) (Hh K A) ["_law_number_here"]:=by
 intro vs H Q E h
 obtain ⟨c,rfl,q⟩:=h
 refine ⟨fg (by decide) (by decide),by decide,?_⟩
 have n0:0≤c*69621%1000003:=by omega
 have n1:c*69621%1000003<1000003:=by omega
 show au _ _ _ [some (V.int (c*69621%1000003))] H
 generalize c*69621%1000003=n at n0 n1 ⊢
 have big:(1000003:Int)*10^30<10^60:=by decide +kernel
 have p30:(0:Int)<10^30:=by decide +kernel
 have p60:(1000003:Int)<10^60:=by decide +kernel
 refine ⟨by decide,Sel.dec (fun h=>?_) (fun h=>?_)⟩
 · have l0:0≤n%50:=by omega
   have l1:n%50<50:=by omega
   obtain ⟨j,hj⟩:=Int.eq_ofNat_of_zero_le l0
   obtain ⟨s1,s2,s3⟩:=DZ ⟨j,by omega⟩
   have s1:okD (.str (("m" :Str)++Str.ofString (toString ((j:Nat):Int))))=true:=s1
   have s2:(Str.ofString (toString ((j:Nat):Int))).length≤2:=s2
   refine ⟨by decide,?_⟩
   rw [hj]
   exact ⟨Nat.lt_of_le_of_lt (Nat.log2_le_self _) (by omega),Nat.le_trans (Nat.add_le_add (Nat.le_refl 1) s2) (be (by decide)),q (.inr _) ⟨rfl,s1,s3⟩⟩
 refine ⟨by decide,Sel.dec (fun h1=>?_) (fun h1=>?_)⟩
 · exact ⟨⟨by decide,by decide⟩,by decide,q (.inl _) (nP (by omega) (by omega))⟩
 refine ⟨by decide,Sel.dec (fun h2=>?_) (fun h2=>?_)⟩
 · refine ⟨⟨by decide,by decide,by decide⟩,gL n0 (by omega),q (.inl _) (nP ?_ ?_)⟩
   · exact Int.mul_nonneg n0 (Int.le_of_lt p30)
   · have:n*10^30<1000003*10^30:=Int.mul_lt_mul_of_pos_right n1 p30
     show n*10^30<10^60
     omega
 · refine ⟨⟨by decide,by decide,by decide⟩,q (.inl _) (nP ?_ ?_)⟩
   · show 0≤(10:Int)^60 - 1 - n
     omega
   · show (10:Int)^60 - 1 - n<10^60
     omega
theorem rQ {a b:Int} (h0:0≤a) (h:a≤b):(2:Int)^b.toNat=2^a.toNat*2^(b - a).toNat:=by
 rw [← Int.pow_add]
 congr 1
 omega
theorem xB {x y z:Int} (hy:0<y):x/y/z=x/(y*z):=by
 rw [Int.ediv_ediv,if_neg (by omega),Int.sub_zero]
theorem tw {x y:Str} (h1:cM x=true) (h2:cM y=true):cM (x++y)=true:=by
 unfold cM at h1 h2 ⊢
 show (x.cps++y.cps).all _=true
 rw [Array.all_append,h1,h2];rfl
theorem nD (H:Hp) (m:Key):aR H (kV m) (bW m):=by cases m <;> constructor
theorem pf (m:Key):(dA (bW m)).depth=0:=by cases m <;> rfl
mutual
def noL:Dat→Bool
 | .lst _=>false
 | .tup ds=>noLs ds
 | .non=>true
 | .bl _=>true
 | .int _=>true
 | .str _=>true
 | .dic=>true
def noLs:List Dat→Bool
 | []=>true
 | d::r=>noL d&&noLs r
end
def sg1:Str:= " !\"#$&'()*+,-./0123456789:;<=>?@ABCDEFGHIJKLMNOPQRSTUVWXYZ[\\]^_`"
def sg2:Str:= "abcdefghijklmnopqrstuvwxyz{|}~"
theorem za:(sg1++sg2).length=94∧(sg1++sg2).cps.toList.length=94∧(sg1++sg2).cps.toList.all (·<128)=true:=by decide +kernel
theorem vI:okD (.str "leaf")=true:=by decide +kernel
theorem uw:okD (.str "fork")=true:=by decide +kernel
theorem CJ {z:Str} (h:cM z=true) (hl:z.length≤100000):okD (.str z)=true:=by
 show (cM z&&decide (z.length≤100000))=true
 rw [h,decide_eq_true hl];rfl
theorem Az (K:W.Frag) (A:Adr):Ln (jl K A) 1:=by rintro vs H Q E ⟨c,rfl,_⟩;rfl
theorem Cu (T:Txt K mg A):Rd (jl K A) (FW K A) ["_law_cell", "_law_signs", "_law_size", "_law_made", "_law_k"]:=by
 intro vs H Q E h
 obtain ⟨c,rfl,q⟩:=h
 obtain ⟨g1,g2,g3⟩:=za
 have bR:∀ sz:Int,0≤sz→sz≤60→sC K A { nx:=fun _ H'=>Q .non H',rt:=Q } [some (.int c),some (.str (sg1++sg2)),some (.int sz),none,none] H:=by
  intro sz s0 s1
  refine ⟨sz,rfl,by omega,by omega,?_⟩
  refine iX (fun i σ H'=>H'=H∧∃ z x4,σ=[some (.int c),some (.str (sg1++sg2)),some (.int sz),some (.str z),x4]∧z.length=i∧cM z=true) ⟨rfl, "",none,rfl,by decide,by decide +kernel⟩ ?_ ?_
  · rintro i σ _ hi ⟨rfl,z,x4,rfl,hz,ho⟩
    refine ⟨⟨by decide,by decide⟩,⟨by decide,by decide⟩,by decide,fg (by omega) (by omega),.inl ⟨by rw [g1];exact be (by decide),by rw [g1];decide,?_⟩⟩
    generalize (c/4+_:Int)=w
    have e94:((sg1++sg2).length:Int)=94:=by rw [g1];rfl
    rw [e94]
    obtain ⟨cc,hcc⟩:=tM (xs:=(sg1++sg2).cps.toList) (i:=w%94) (by omega) (by rw [g2];omega)
    refine .inl (.inr (.inr ⟨_,_,cc,rfl,rfl,by rw [g1];exact be (by decide),hcc,?_⟩))
    refine ⟨by rw [hz];exact be (by show i+1≤1000000;omega),rfl,z++⟨#[cc]⟩,_,rfl,by rw [strLen_append,hz];rfl,tw ho ?_⟩
    obtain ⟨j,_,hj,_⟩:=gN hcc
    have:=of_decide_eq_true (List.all_eq_true.mp g3 cc (List.mem_of_getElem? hj))
    unfold cM
    simp
    omega
  · rintro σ _ ⟨rfl,z,x4,rfl,hz,ho⟩
    exact q z _ (.refl _) (by omega) ho
 have rest4:∀ sz:Int,0≤sz→sz≤60→sA K A { nx:=fun _ H'=>Q .non H',rt:=Q } [some (.int c),some (.str (sg1++sg2)),some (.int sz),none,none] H:=by
  intro sz s0 s1
  refine ⟨⟨by decide,by decide⟩,by decide,Sel.dec (fun h=>?_) (fun h=>bR sz s0 s1)⟩
  exact ⟨⟨by decide,by decide⟩,by decide,bR (c/32%61) (by omega) (by omega)⟩
 refine ⟨be (by decide +kernel),by decide,⟨by decide,by decide⟩,by decide,Sel.dec (fun h=>rest4 60 (by decide) (by decide)) (fun h=>rest4 (c%4) (by omega) (by omega))⟩
theorem sF {x:Key} (h1:bH (bW x)=true) (h2:okD (bW x)=true):okP x=true:=by
 cases x with
 | inl i=>exact h1
 | inr z=>exact h2
theorem GW {x y z:Key} (hx:okP x=true) (hy:okP y=true) (hz:okP z=true) (h:kd x=true):okT [x,y,z]=true:=by
 show (true&&kd x&&(okP x&&(okP y&&(okP z&&true))))=true
 rw [h,hx,hy,hz];rfl
theorem yW {x y z u v:Key} (hx:okP x=true) (hy:okP y=true) (hz:okP z=true) (hu:okP u=true) (hv:okP v=true) (h:kd x=true):okT [x,y,z,u,v]=true:=by
 show (true&&kd x&&(okP x&&(okP y&&(okP z&&(okP u&&(okP v&&true))))))=true
 rw [h,hx,hy,hz,hu,hv];rfl
theorem kN:okP (.inr "fork")=true∧okP (.inr "leaf")=true∧okP (.inr "bare")=true:=by decide +kernel
theorem lb:szK (.inr "fork")=66∧szK (.inr "leaf")=66∧szK (.inr "bare")=66:=by decide +kernel
theorem nl {i:Int} (h0:0≤i) (h1:i<10^60):okP (.inl i)=true:=decide_eq_true ⟨h0,h1⟩
theorem ET {H:Hp} {v:V} {k:Key} (w:aR H v (bW k)):v=kV k:=by cases k <;> (cases w;rfl)
theorem rV {H : Hp} {v : V} : ∀ {e : List Key} {xs : List V}, DatWs H xs (e.map bW) → xs = e.map kV
  | [], _, h => by cases h; rfl
  | x :: r, _, h => by
    cases h with
    | cons a b => rw [ET a, rV (v := v) b]; rfl
theorem qu {H:Hp} {v:V} {e:List Key} (h:aR H v (.tup (e.map bW))):∃ a,v=.ref a∧H a=some (.tup (e.map kV)):=by
 cases h with
 | @tup a xs _ ea r=>exact ⟨a,rfl,by rw [ea,rV (v:=.non) r]⟩
theorem Ah (K:W.Frag) (A:Adr):Ln (mL K A) 3:=by rintro vs H Q E ⟨b,k,d,rfl,_⟩;rfl
theorem Fu (T:Txt K mg A):Rd (mL K A) (FR K A) ["bits", "key", "depth"]:=by
 intro vs H Q E h
 obtain ⟨b,k,d,rfl,hd,k0,q⟩:=h
 refine ⟨by omega,?_⟩
 show Q (.int (Builtin.bitAnd (k/2^(b - d - 1).toNat) 1)) H
 have h0:0≤k/2^(b - d - 1).toNat:=Int.ediv_nonneg k0 (Int.le_of_lt (cR _))
 obtain ⟨y,hy⟩:=Int.eq_ofNat_of_zero_le h0
 rw [hy] at q ⊢
 rw [rq]
 have:((y%2:Nat):Int)=(y:Int)%2:=by omega
 rw [this];exact q
theorem Aw (K:W.Frag) (A:Adr):Ln (lX K A) 2:=by rintro vs H Q E ⟨x,rfl,_⟩;rfl
theorem DK (T : Txt K mg A) : Rd (lX K A) (FS K A) ["_law_found", "_law_due"] := by
  intro vs H Q E h
  obtain ⟨x, rfl, q⟩ := h
  cases x with
  | inl i =>
    have e : decide (i = i) = true := decide_eq_true rfl
    rw [← e] at q
    exact ⟨by decide, "int", rfl, Sel.no rfl ⟨by decide, "int", rfl, Sel.yes rfl ⟨by decide, "int", rfl, Sel.yes rfl q⟩⟩⟩
  | inr z =>
    have e : decide (z = z) = true := decide_eq_true rfl
    rw [← e] at q
    exact ⟨by decide, "str", rfl, Sel.yes rfl ⟨by decide, "str", rfl, Sel.yes rfl q⟩⟩
theorem zp (K:W.Frag) (A:Adr):Ln (kg K A) 2:=by rintro vs H Q E ⟨p,r,k,rfl,_⟩;rfl
theorem Ed (T:Txt K mg A):Rd (kg K A) (Gj K A) ["_law_found", "_law_due", "_law_k"]:=by
 intro vs H Q E h
 obtain ⟨p,r,k,rfl,hp,hr,hk,q⟩:=h
 have ty:tyN H (.ref p)=some "tuple" :=by unfold tyN;dsimp only;rw [hp]
 refine ⟨by decide, "tuple",ty,Sel.no rfl (.inl (.inr (.inl ⟨_,SqT.of hp,.inl (.inr (.inl ⟨_,SqT.of hr,?_⟩))⟩)))⟩
 refine Sel.no (by simp) (.inl (.inr (.inl ⟨_,SqT.of hr,_,rfl,by omega,by simp;omega,?_⟩)))
 have hn:(((k.map kV).length:Nat):Int).toNat=k.length:=by simp
 rw [hn]
 refine iX (fun i σ H'=>H'=H∧∃ x2,σ=[some (.ref p),some (.ref r),x2]) ⟨rfl,none,rfl⟩ ?_ ?_
 · rintro i σ _ hi ⟨rfl,x2,rfl⟩
   obtain ⟨x,hx⟩:∃ x,k[i]?=some x:=⟨_,List.getElem?_eq_getElem hi⟩
   have hx2:(k.map kV)[i]?=some (kV x):=by rw [List.getElem?_map,hx];rfl
   refine ixT (j:=i) hp (by omega) hx2 (ixT (j:=i) hr (by omega) hx2 ⟨x,rfl,Sel.no rfl ⟨rfl,_,rfl⟩⟩)
 · rintro σ _ ⟨rfl,x2,rfl⟩
   exact q
theorem sr {H : Hp} {ps : List Addr} {ts : List (List Key)} (h : PK H ps ts) : ∀ {i : Nat} {t : List Key}, ts[i]? = some t → ∃ p, ps[i]? = some p ∧ H p = some (.tup (t.map kV)) ∧ okT t = true := by
  induction h with
  | nil => intro i t e; cases e
  | cons r _ ih =>
    intro i t e
    cases i with
    | zero => cases e; exact ⟨_, rfl, r⟩
    | succ i => exact ih e
theorem gY {H:Hp} {ps:List Addr} {ts:List (List Key)} (h:PK H ps ts):ps.length=ts.length:=Paired.length h
theorem xQ {k:List Key} (h:okT k=true):1≤k.length∧k.length≤8:=by
 unfold okT at h
 simp only [Bool.and_eq_true] at h
 exact of_decide_eq_true h.1.1
theorem Stp.wea {H:Hp} {f b:Addr} {g:gOp} {n:Nat} (q:Addr) (m:Int) (h1:1≤m) (h2:m≤2000000) (hc:eM H f fu [q] [.int m]) (hb:b=f) (hg:g=fun k=>some (fO m k)):Stp A H f b g n:=⟨q,m,h1,h2,hc,hb,hg⟩
theorem oX {k:List Key} (h:okT k=true):k.all okP=true:=by
 unfold okT at h
 rw [Bool.and_eq_true] at h
 exact h.2
theorem yq {k:List Key} {x:Key} (h:okT k=true) (hx:x∈k):okP x=true:=List.all_eq_true.mp (oX h) x hx
theorem vi {z:Str} (h:∀ c∈z.cps.toList,c<128):cM z=true:=by
 unfold cM
 rw [Array.all_eq_true]
 intro i hi
 exact decide_eq_true (h _ (by simp))
theorem om {z:Str} (h:cM z=true):∀ c∈z.cps.toList,c<128:=by
 intro c hc
 unfold cM at h
 rw [Array.all_eq_true] at h
 obtain ⟨i,hi,e⟩:=List.getElem_of_mem hc
 have:=of_decide_eq_true (h i (by simpa using hi))
 rw [← e]
 simpa using this
theorem rJ {z:Str} (h:cM z=true) (l u:Option Int):cM (PySem.Txt.slice z l u)=true:=by
 refine vi fun c hc=>?_
 unfold PySem.Txt.slice at hc
 split at hc
 · exact om h c hc
 · simp only [List.toList_toArray,List.mem_filterMap] at hc
   obtain ⟨i,_,e⟩:=hc
   exact om h c (by rw [← Array.getElem?_toList] at e;exact List.mem_of_getElem? e)
theorem Ey (T : Txt K mg A) (a0 b0 : V) (H : Hp) (Q : VK) (E : XK) (h : rd K A [a0, b0] H Q E) : BU K A { nx := fun _ H' => Q .non H', rt := Q } (gQ ["_law_term", "_law_total", "_law_part_here", "_law_signs", "_law_many"] [a0] [b0]) H := by
  obtain ⟨p, m, k, e, h1, h2, hp, ok, q⟩ := h
  cases e
  refine ⟨p, rfl, .inr ⟨⟨_, SqT.of hp⟩, ?_⟩⟩
  refine pE (xs := k.map kV) (fun i σ H' => ar H H' ∧ ∃ x2 x3, σ = [some (.ref p), some (.int ((k.take i).foldl gF 0)), x2, x3, some (.int m)]) ⟨.refl H, none, none, rfl⟩ ?_ ?_ ?_
  · rintro i σ H' _ ⟨S, _⟩; exact SqT.of (S _ _ hp)
  · rintro i x σ H' hx ⟨S, x2, x3, rfl⟩
    obtain ⟨kk, hk, rfl⟩ := kM hx
    have okk : okP kk = true := yq ok (List.mem_of_getElem? hk)
    have st := pX gF 0 k i kk hk
    cases kk with
    | inl n =>
      refine ⟨by decide, "int", rfl, Sel.no rfl ⟨IntMulOk.of_right (by decide), S, some (.int n), x3, ?_⟩⟩
      rw [st]; rfl
    | inr z =>
      obtain ⟨hz, hl⟩ := Bool.and_eq_true_iff.mp okk
      have hl := of_decide_eq_true hl
      refine ⟨by decide, "str", rfl, Sel.yes rfl ⟨2, rfl, .inr ⟨z, rfl, be (by omega), rJ hz _ _, fun D hD => ?_⟩⟩⟩
      have hl2 := PySem.Txt.slice_le z none (some 2)
      rw [st]
      show qN _ _ _ _ _ _ _ _
      have est : gF ((k.take i).foldl gF 0) (.inr z) = (k.take i).foldl gF 0 * 7 + z.length + 2 * ((PySem.Txt.slice z none (some 2)).cps.toList.map fun c => ((c : Nat) : Int)).sum := rfl
      rw [est]
      generalize PySem.Txt.slice z none (some 2) = y at hl2 ⊢
      refine jn (eL.str y) (fun j ys H2 => ys = (y.cps.toList.take j).map (fun c => V.int ((c : Nat) : Int)) ∧ H2 = upd H' D (.lst ys)) (fun _ _ _ _ _ => trivial) ⟨rfl, rfl⟩ (fun j ys H2 hj ⟨e1, e2⟩ => ?_) (fun ys H2 ⟨e1, e2⟩ => ?_)
      · subst e2
        have hj' : j < y.cps.toList.length := by rw [Array.length_toList]; exact hj
        refine zF ⟨rfl, ?_⟩
        have hyl : ys.length = j := by rw [e1, List.length_map, List.length_take]; omega
        refine ⟨ao, by rw [hyl]; exact Nat.lt_of_lt_of_le (by omega) (be (n := 1000000) (by decide)), CWd.next hj ⟨?_, yB⟩⟩
        rw [e1, List.take_add_one, List.map_append, List.getElem?_eq_getElem hj']
        congr 1
        simp [Array.getD_eq_getD_getElem?, show j < y.cps.size from hj]
      · subst e2
        have ee : y.cps.toList.take y.length = y.cps.toList := List.take_of_length_le (by simp [Str.length])
        rw [ee] at e1
        refine ⟨IntMulOk.of_right (by decide), .inl ⟨be (by omega), D, y.cps.toList.map (fun c => ((c : Nat) : Int)), rfl, SqL.of (by rw [ao, e1, List.map_map]; rfl), IntMulOk.of_left (by decide), S.trans (ar.upd hD), some (.str z), some (.ref D), rfl⟩⟩
  · rintro σ H' ⟨S, x2, x3, rfl⟩
    have e : k.take (k.map kV).length = k := List.take_of_length_le (by simp)
    rw [e]
    exact ⟨by omega, q _ S⟩
theorem de.trans {P:Addr} {H H1 H2:Hp} (a:de P H H1) (b:de P H1 H2):de P H H2:=fun x o e n=>b x o (a x o e n) n
theorem de.new {P p:Addr} {H:Hp} {o:HO} (h:H p=none):de P H (upd H p o):=fun b u e _=>by rw [aI (aS e h)];exact e
theorem de.tab {P:Addr} {H:Hp} {o:HO}:de P H (upd H P o):=fun b u e n=>by rw [aI n];exact e
theorem iH {H:Hp} {P q:Addr} {o:HO} (hP:H P=some o) (hq:H q=none):q≠P:=fun e=>by rw [e,hP] at hq;cases hq
theorem oj {H:Hp} {p q:Addr} {o:HO} (h:upd H p o q=none):q≠p∧H q=none:=by
 by_cases e:q=p
 · subst e;rw [ao] at h;cases h
 · rw [aI e] at h;exact ⟨e,h⟩
theorem Fv {H:Hp} {P c f q:Addr} {o1 o2:HO} {t:dY} {v:V} (hP:H P=some o1) (hc:H c=none) (hf:H f=none) (hne:c≠f) (hq:upd (upd (upd H P o2) c (fo c t.qual)) f (fj f t [q] c) q=none):
  de P H (upd (upd (upd (upd H P o2) c (fo c t.qual)) f (fj f t [q] c)) q (dy q v))∧eM (upd (upd (upd (upd H P o2) c (fo c t.qual)) f (fj f t [q] c)) q (dy q v)) f t [q] [v]:=by
 have c1:upd H P o2 c=none:=by rw [aI (iH hP hc)];exact hc
 have f1:upd (upd H P o2) c (fo c t.qual) f=none:=by rw [aI (Ne.symm hne),aI (iH hP hf)];exact hf
 have S3:=de.new (P:=P) (o:=dy q v) hq
 have S2:=(de.new (P:=P) (o:=fj f t [q] c) f1).trans S3
 have S1:=(de.new (P:=P) (o:=fo c t.qual) c1).trans S2
 exact ⟨de.tab.trans S1,⟨⟨c,S3 _ _ ao (iH hP hf),S2 _ _ ao (iH hP hc)⟩,.cons ao .nil⟩⟩
theorem AE (K:W.Frag) (A:Adr):Ln (lV K A) 1:=by rintro vs H Q E ⟨m,rfl,_⟩;rfl
theorem ES (T:Txt K mg A) (q0:Addr) (hnd:([q0]:List Addr).Nodup) (vs:List V) (H:Hp) (Q:VK) (E:XK) (h:lV K A vs H Q E):Aq K A q0 { nx:=fun σ H'=>(∀ p∈([(0,q0)]:List (Nat×Addr)),H' p.2=none)→Q .non (ef [(0,q0)] σ H'),rt:=fun σ v H'=>(∀ p∈([(0,q0)]:List (Nat×Addr)),H' p.2=none)→Q v (ef [(0,q0)] σ H') } (L2.cq ["_law_many", "_law_short"] vs) H:=by
 obtain ⟨m,rfl,m1,m2,hP,q⟩:=h
 refine ⟨#[],hP,trivial,.inl ⟨rfl,fun c f hc hf hne hq=>?_⟩⟩
 obtain ⟨k,ca⟩:=Fv (v:=.int m) hP hc hf hne (hq _ (List.mem_singleton.mpr rfl))
 exact q f f _ _ k (.wea q0 m m1 m2 ca rfl rfl) hf
theorem Sub.rfl' {g:gOp}:Sub g g:=fun _ _ e=>e
theorem Sub.trans {g g1 g2:gOp} (a:Sub g g1) (b:Sub g1 g2):Sub g g2:=fun k v e=>b k v (a k v e)
theorem Ext.of {g g':gOp} {h:List Key→Key} (s:Sub g g') (e:Ext g' h):Ext g h:=fun k v z=>e k v (s k v z)
theorem m0 {x:dY×Sp} {l:List (dY×Sp)}:x∈x::l:=List.mem_cons_self
theorem bz.rfl' {b:Addr} {H:Hp}:bz b H H:=fun _ _ _ e=>e
theorem bz.trans {b:Addr} {H H1 H2:Hp} (a:bz b H H1) (c:bz b H1 H2):bz b H H2:=fun x o n e=>c x o n (a x o n e)
theorem bz.same {b:Addr} {H H':Hp} (S:ar H H'):bz b H H':=fun x o _ e=>S x o e
theorem Stp.clo {H:Hp} {f b:Addr} {g:gOp} {n:Nat} (s:Stp A H f b g n):∃ ts∈gn K A,∃ cs cvs,eM H f ts.1 cs cvs:=by
 obtain ⟨q,m,_,_,hc,_⟩:=s.at_
 exact ⟨_,m0,_,_,hc⟩
theorem Stp.keep {H H':Hp} {f b:Addr} {g:gOp} {n m:Nat} (s:Stp A H f b g n) (k:∀ z φ,H z=some (.ext φ)→H' z=some (.ext φ)):Stp A H' f b g m:=by
 obtain ⟨q,m,h1,h2,hc,r⟩:=s.at_
 exact ⟨q,m,h1,h2,hc.keep k,r⟩
theorem Stp.same {H H':Hp} {f b:Addr} {g:gOp} {n m:Nat} (s:Stp A H f b g n) (hn:n≤m) (S:ar H H'):Stp A H' f b g m:=s.keep fun z φ e=>S z _ e
theorem Stp.nb {H:Hp} {f b z:Addr} {g:gOp} {n:Nat} {o:HO} (s:Stp A H f b g n) (e:H z=some o) (h:∀ kvs,o≠ .dT kvs) (h2:∀ φ,o≠ .ext φ:=by exact fun _ z=>nomatch z):z≠b:=fun q=>by
 subst q
 obtain ⟨q,m,_,_,hc,hb,_⟩:=s.at_
 subst hb;obtain ⟨⟨c,h,_⟩,_⟩:=hc;rw [e] at h;exact h2 _ (Option.some.inj h)
theorem Stp.tup {H H':Hp} {f b:Addr} {g:gOp} {n:Nat} (s:Stp A H f b g n) (k:bz b H H'):∀ x xs,H x=some (.tup xs)→H' x=some (.tup xs):=fun x xs e=>k x _ (s.nb e fun _ z=>nomatch z) e
theorem Stp.lst {H H':Hp} {f b:Addr} {g:gOp} {n:Nat} (s:Stp A H f b g n) (k:bz b H H'):∀ x xs,H x=some (.lst xs)→H' x=some (.lst xs):=fun x xs e=>k x _ (s.nb e fun _ z=>nomatch z) e
theorem oJ {m:Int} (h1:1≤m) (h2:m≤2000000) (k:List Key):qT k (fO m k):=by
 have r0:=Int.emod_nonneg (k.foldl gF 0) (b:=m) (by omega)
 have r1:=Int.emod_lt_of_pos (k.foldl gF 0) (b:=m) (by omega)
 have p60:(2000000:Int)<10^60:=by decide +kernel
 exact (show 0≤_∧_<_ from ⟨r0,by omega⟩)
theorem jp {H:Hp} {f b p:Addr} {g:gOp} {n:Nat} {k:List Key} {R:VK} (s:Stp A H f b g n) (hn:n≤45000) (hp:H p=some (.tup (k.map kV))) (ok:okT k=true)
  (q:∀ (v:Key) (H':Hp) (g':gOp),bz b H H'→Stp A H' f b g' (n+1)→Sub g g'→g' k=some v→qT k v→R (kV v) H'):qa (gn K A) f [.ref p] H R E0:=by
 obtain ⟨c,m,h1,h2,hc,hb,hg⟩:=s.at_
 refine ⟨_,m0,_,_,hc,rfl,p,m,k,rfl,h1,h2,hc.cells.hide hp (fun _ z=>nomatch z),ok,fun H' S=>?_⟩
 have S:=ar.hide _ S
 exact q (fO m k) _ g (bz.same S) (s.same (Nat.le_succ _) S) Sub.rfl' (by rw [hg]) (oJ h1 h2 k)
mutual
def jg:Dat→Bool
 | .lst _=>false
 | .tup ds=>tupDs ds
 | .non=>true
 | .bl _=>true
 | .int _=>true
 | .str _=>true
 | .dic=>false
def tupDs:List Dat→Bool
 | []=>true
 | d::r=>jg d&&tupDs r
end
mutual
theorem aR.keepT {H H':Hp} {v:V} {d:Dat} (h:aR H v d) (k:∀ b xs,H b=some (.tup xs)→H' b=some (.tup xs)) (t:jg d=true):aR H' v d:=by
 cases h with
 | non=>exact .non
 | bl b=>exact .bl b
 | int i=>exact .int i
 | str z=>exact .str z
 | lst e r=>cases t
 | tup e r=>exact .tup (k _ _ e) (DatWs.keepT r k t)
 | dic e=>cases t
theorem DatWs.keepT {H H' : Hp} {xs : List V} {ds : List Dat} (h : DatWs H xs ds) (k : ∀ b xs, H b = some (.tup xs) → H' b = some (.tup xs)) (t : tupDs ds = true) : DatWs H' xs ds := by
  cases h with
  | nil => exact .nil
  | cons a r =>
    have t : (jg _ && tupDs _) = true := t
    rw [Bool.and_eq_true] at t
    exact .cons (aR.keepT a k t.1) (DatWs.keepT r k t.2)
end
theorem xW (x:Key):jg (bW x)=true:=by cases x <;> rfl
theorem fZ {x:Key} (h:okP x=true):okD (bW x)=true∧bH (bW x)=true:=by
 cases x with
 | inl i=>exact ⟨rfl,h⟩
 | inr z=>exact ⟨h,rfl⟩
theorem lN : ∀ {e : List Key}, e.all okP = true → okDs (e.map bW) = true
  | [], _ => rfl
  | x :: r, h => by
    rw [List.all_cons, Bool.and_eq_true] at h
    show (okD (bW x) && okDs (r.map bW)) = true
    rw [(fZ h.1).1, lN h.2]; rfl
theorem oM : ∀ e : List Key, PyData.depthAll (toPys (e.map bW)) = 0
  | [] => rfl
  | x :: r => by
    show max (dA (bW x)).depth (PyData.depthAll (toPys (r.map bW))) = 0
    rw [pf, oM r]; rfl
theorem jr {k:List Key} {v:Key} (h:qT k v) (hk:szT k≤100000):okP v=true∧szK v≤szT k+62:=by
 cases v with
 | inl i=>exact ⟨decide_eq_true h,by show 62≤_;omega⟩
 | inr z=>exact ⟨by show (cM z&&decide (z.length≤100000))=true;rw [h.1,decide_eq_true (Nat.le_trans h.2 hk)];rfl,by show z.length+62≤_;have:=h.2;omega⟩
def gx (g:gOp):List Key→Key:=fun k=>(g k).getD (.inl 0)
theorem cH (g:gOp):Ext g (gx g):=fun k v e=>by unfold gx;rw [e];rfl
theorem oV {H:Hp} {ps:List Addr} {ts:List (List Key)} {p:Addr} {t:List Key} (h:PK H ps ts) (e:H p=some (.tup (t.map kV))∧okT t=true):PK H (ps++[p]) (ts++[t]):=by
 induction h with
 | nil=>exact .cons e .nil
 | cons r t ih=>exact .cons r ih
theorem dn {H H':Hp} {ps:List Addr} {ts:List (List Key)} (k:∀ b xs,H b=some (.tup xs)→H' b=some (.tup xs)) (h:PK H ps ts):PK H' ps ts:=L2.Paired.imp' (fun p x e=>⟨k _ _ e.1,e.2⟩) h
theorem kR {H:Hp} {ps:List Addr} {pre:List (List Key)} {cur:List Key} (h:PK H ps (pre++[cur])):∃ qs p,ps=qs++[p]∧H p=some (.tup (cur.map kV))∧okT cur=true:=by
 have hl:=gY h
 obtain ⟨p,hp,h2⟩:=sr h (i:=pre.length) (t:=cur) (by simp)
 have hn:ps≠[]:=by intro z;subst z;simp at hl
 refine ⟨ps.dropLast,p,?_,h2⟩
 have:ps.getLast?=some p:=by
  rw [List.getLast?_eq_getElem?]
  have:ps.length - 1=pre.length:=by simp at hl;omega
  rw [this];exact hp
 obtain ⟨ys,hy⟩:=List.getLast?_eq_some_iff.mp this
 rw [hy];simp
theorem lc {K:W.Frag} {H:Hp} {Q:VK} {L:Addr} {qs:List Addr} {p:Addr} (hL:H L=some (.lst ((qs++[p]).map V.ref))) (q:Q (.ref p) H):aF K (.ref L) (.int (-1)) H Q:=by
 refine .inl (.inl ⟨L,_,-1,.ref p,rfl,rfl,SqL.of hL,?_,q⟩)
 rw [List.map_append]
 exact uW _ _
theorem nC.okE {b k:Int} {st:List (Int×Key)} {e:List Key} (g:nC b k st e):cb (.tup (e.map bW)):=.inl ⟨lN (oX g.et),by show PyData.depthAll (toPys (e.map bW))+1≤140;rw [oM];decide⟩
theorem nC.slip {b k:Int} {st:List (Int×Key)} {e:List Key} (g:nC b k st e):gS b k (.tup [.tup (st.map stD),.tup (e.map bW)])=true:=by
 show (bL b 0 (st.map stD)&&eR b k (gX (st.map stD)) (.tup (e.map bW)))=true
 have:gX (st.map stD)=dq 0 (st.map stD):=rfl
 rw [g.gs,this,g.en];rfl
def dO (o:HO):Prop:=(∃ xs,o=.lst xs)∨(∃ xs,o=.tup xs)∨∃ kvs,o=.dK kvs
theorem sx {K:W.Frag} {H:Hp} {Q:VK} {a b:Key} (q:Q (.bl (!decide (a=b))) H):dH K (kV a) (kV b) H Q:=by
 cases a <;> cases b
 · rename_i i j
   have e:decide ((Sum.inl i:Key)=Sum.inl j)=decide (i=j):=by simp
   rw [e] at q;exact q
 · have e:∀ (i:Int) (j:Str),decide ((Sum.inl i:Key)=Sum.inr j)=false:=by simp
   rw [e] at q;exact q
 · have e:∀ (i:Int) (j:Str),decide ((Sum.inr j:Key)=Sum.inl i)=false:=by simp
   rw [e] at q;exact q
 · rename_i i j
   have e:decide ((Sum.inr i:Key)=Sum.inr j)=decide (i=j):=by simp
   rw [e] at q;exact q
theorem oS {i:Nat} {σ:L2.St} {H:Hp} {Q:List V→Hp→Prop} {v:V} (h:σ[i]?=some (some v)) (q:Q [v] H):aa (af i) aj σ H Q:=by
 show (match σ[i]? with | some (some v)=>aj σ H fun xs H2=>Q (v::xs) H2 | _=>False)
 rw [h];exact q
theorem Eu (K:W.Frag) (A:Adr):Ln (rg K A) 3:=by rintro vs H Q E ⟨a,x,y,rfl,_⟩;rfl
theorem Gq (T:Txt K mg A):Rd (rg K A) (T_0 K A) ["self", "due", "came"]:=by
 intro vs H Q E h
 obtain ⟨a,x,y,rfl,ha,q⟩:=h
 refine ⟨a,rfl,T.ef_Broken_due,.inl ⟨ha,fun dx hdx ne=>?_⟩⟩
 refine ⟨a,rfl,T.ef_Broken_came,.inr ⟨dx,_,by rw [aI (Ne.symm ne)];exact ao,ao,ne,by show 1<1000;decide,?_⟩⟩
 exact q dx hdx
theorem Eh (K:W.Frag) (A:Adr):Ln (pY K A) 3:=by rintro vs H Q E ⟨a,x,y,rfl,_⟩;rfl
theorem GX (T:Txt K mg A):Rd (pY K A) (T_1 K A) ["self", "depth", "begin"]:=by
 intro vs H Q E h
 obtain ⟨a,x,y,rfl,ha,q⟩:=h
 refine ⟨a,rfl,T.ef_NoPart_depth,.inl ⟨ha,fun dx hdx ne=>?_⟩⟩
 refine ⟨a,rfl,T.ef_NoPart_begin,.inr ⟨dx,_,by rw [aI (Ne.symm ne)];exact ao,ao,ne,by show 1<1000;decide,?_⟩⟩
 exact q dx hdx
theorem jv {d:Int} (h:d≤60):(2:Int)^d.toNat≤2^60:=by
 have:(2:Nat)^d.toNat≤2^60:=Nat.pow_le_pow_right (by decide) (by omega)
 exact_mod_cast this
theorem jH (p:aP):jg (bc p)=true:=by
 induction p with
 | cut m=>show (true&&(jg (bW m)&&true))=true;rw [xW];rfl
 | bare=>rfl
 | leaf k z=>rfl
 | fork d b l r hl hr=>show (true&&(true&&(true&&(jg (bc l)&&(jg (bc r)&&true)))))=true;rw [hl,hr];rfl
theorem fE {H:Hp} {v:V} {m:Key} (h:aR H v (bc (.cut m))):∃ a,v=.ref a∧H a=some (.tup [.str "cut",kV m]):=qu (e:=[.inr "cut",m]) h
theorem fh {H:Hp} {v:V} (h:aR H v (bc .bare)):∃ a,v=.ref a∧H a=some (.tup [.str "bare"]):=qu (e:=[.inr "bare"]) h
theorem eX {H:Hp} {v:V} {k:Int} {z:Str} (h:aR H v (bc (.leaf k z))):∃ a,v=.ref a∧H a=some (.tup [.str "leaf",.int k,.str z]):=qu (e:=[.inr "leaf",.inl k,.inr z]) h
theorem fU {H : Hp} {v : V} {d b : Int} {l r : aP} (h : aR H v (bc (.fork d b l r))) : ∃ a x y, v = .ref a ∧ H a = some (.tup [.str "fork", .int d, .int b, x, y]) ∧ aR H x (bc l) ∧ aR H y (bc r) := by
  cases h with
  | @tup a xs _ ea w =>
    cases w with
    | cons w0 w =>
    cases w with
    | cons w1 w =>
    cases w with
    | cons w2 w =>
    cases w with
    | cons w3 w =>
    cases w with
    | cons w4 w =>
    cases w
    cases w0
    cases w1
    cases w2
    exact ⟨a, _, _, rfl, ea, w3, w4⟩
theorem xL:okD (.str "cut")=true:=by decide +kernel
theorem vN {b lo hi d g : Int} {p : aP} (h : bO b lo hi d g p) (hd : d ≤ b) : okD (bc p) = true := by
  induction p generalizing d g with
  | cut m => show (okD (.str "cut") && (okD (bW m) && true)) = true; rw [xL, (fZ h.2.1).1]; rfl
  | bare => decide +kernel
  | leaf k z =>
    show (okD (.str "leaf") && (true && (okD (.str z) && true))) = true
    rw [vI, CJ h.2.2.2.2.1 (by have := h.2.2.2.1; omega)]; rfl
  | fork e x l r hl hr =>
    show (okD (.str "fork") && (true && (true && (okD (bc l) && (okD (bc r) && true))))) = true
    obtain ⟨_, _, he, _, _, _, h1, h2⟩ := h
    rw [uw, hl h1 (by omega), hr h2 (by omega)]; rfl
theorem lO {e x:Int} (e0:0≤e) (x0:0≤x) (x1:x<2^e.toNat):0≤2*x∧2*x<2^(e+1).toNat∧2*x+1<2^(e+1).toNat:=by
 have:(e+1).toNat=e.toNat+1:=by omega
 rw [this,Int.pow_succ]
 omega
theorem zY (K:W.Frag) (A:Adr):Ln (mF K A) 3:=by rintro vs H Q E ⟨_,_,_,rfl,_⟩;rfl
theorem Cb (T:Txt K mg A):Rd (mF K A) (Gb K A) ["bits", "depth", "begin", "rest"]:=by
 intro vs H Q E h
 obtain ⟨b,d,g,rfl,d0,d1,b60,g0,g1,q⟩:=h
 have:=jv (d:=d) (by omega)
 exact ⟨⟨by omega,by omega,by omega⟩,⟨by omega,by omega,by omega⟩,by show 2≤sizeLine;decide,fun p hp=>q p hp⟩
theorem AH (K:W.Frag) (A:Adr):Ln (mP K A) 5:=by rintro vs H Q E ⟨_,_,_,_,_,rfl,_⟩;rfl
theorem Ff (T:Txt K mg A):Rd (mP K A) (Gm K A) ["bits", "low", "high", "depth", "begin", "ends"]:=by
 intro vs H Q E h
 obtain ⟨b,lo,hi,d,g,rfl,d0,d1,b60,g0,g1,q⟩:=h
 refine ⟨b,d,g,rfl,d0,d1,b60,g0,g1,fun p hp=>?_⟩
 refine ixT (j:=0) ao rfl rfl ?_
 have q:=q _ (ar.upd (o:=.tup [.int (g*2^(b - d).toNat),.int ((g+1)*2^(b - d).toNat - 1)]) hp)
 unfold ci at q
 refine Sel.mk (fun e=>ixT (j:=1) ao rfl rfl ?_) (fun e=>?_)
 · rw [e,Bool.true_and] at q;exact q
 · rw [e,Bool.false_and] at q;exact q
theorem jP:decide (("cut" :Str)= "fork")=false∧decide (("bare" :Str)= "fork")=false∧decide (("leaf" :Str)= "fork")=false:=by decide +kernel
theorem dW (h:List Key→Key) {p:aP} (hp:ei p=false):∃ pre,bF h p=pre++[dG h p]:=by
 cases p with
 | cut m=>cases hp
 | bare=>exact ⟨[],rfl⟩
 | leaf k z=>exact ⟨[],rfl⟩
 | fork d b l r=>exact ⟨bF h l++bF h r,rfl⟩
theorem jF (h:List Key→Key) {p:aP} (hp:ei p=false):bM h p=h (dG h p):=by
 cases p with
 | cut m=>cases hp
 | _=>rfl
theorem fT (p:aP):dm p≤2*aK p+1:=by
 induction p with
 | fork d b l r hl hr=>show dm l+dm r+1≤2*(aK l+aK r+1)+1;omega
 | cut m=>show 0≤_;omega
 | _=>exact Nat.le_refl _
theorem eF (h : List Key → Key) (p : aP) : (bF h p).length = dm p := by
  induction p with
  | fork d b l r hl hr =>
    show (bF h l ++ bF h r ++ [_]).length = dm l + dm r + 1
    rw [List.length_append, List.length_append, hl, hr]; rfl
  | _ => rfl
theorem p10 {b:Int} (h:b≤60):(2:Int)^b.toNat<10^60:=Int.lt_of_le_of_lt (jv h) (by decide +kernel)
theorem eB:okT [.inr "bare"]=true∧szT [.inr "bare"]=66:=by decide +kernel
theorem jI {k:Int} {z:Str} (k0:0≤k) (k1:k<10^60) (hz:z.length≤60) (ha:cM z=true):okT [.inr "leaf",.inl k,.inr z]=true∧szT [.inr "leaf",.inl k,.inr z]≤250:=by
 refine ⟨GW kN.2.1 (nl k0 k1) ?_ rfl,?_⟩
 · show (cM z&&decide (z.length≤100000))=true
   rw [ha,decide_eq_true (by omega)];rfl
 · show szK (.inr "leaf")+(62+((z.length+62)+0))≤250
   rw [lb.2.1];omega
theorem lF {d x:Int} {m s:Key} (d0:0≤d) (d1:d<10^60) (x0:0≤x) (x1:x<10^60) (hm:okP m=true) (hs:okP s=true):okT [.inr "fork",.inl d,.inl x,m,s]=true∧szT [.inr "fork",.inl d,.inl x,m,s]=190+szK m+szK s:=by
 refine ⟨yW kN.1 (nl d0 d1) (nl x0 x1) hm hs rfl,?_⟩
 show szK (.inr "fork")+(62+(62+(szK m+(szK s+0))))=_
 rw [lb.1];omega
def yy:aP→Bool
 | .fork _ _ _ _=>true
 | _=>false
def xV:aP→Bool
 | .leaf _ _=>true
 | _=>false
theorem fF:(decide (("cut" :Str)= "cut")=true∧decide (("bare" :Str)= "cut")=false∧decide (("leaf" :Str)= "cut")=false∧decide (("fork" :Str)= "cut")=false)∧
 (decide (("cut" :Str)= "fork")=false∧decide (("bare" :Str)= "fork")=false∧decide (("leaf" :Str)= "fork")=false∧decide (("fork" :Str)= "fork")=true)∧
 (decide (("cut" :Str)= "leaf")=false∧decide (("bare" :Str)= "leaf")=false∧decide (("leaf" :Str)= "leaf")=true∧decide (("fork" :Str)= "leaf")=false):=by decide +kernel
theorem yn {H:Hp} {v:V} {p:aP} (h:aR H v (bc p)):∃ (a:Addr) (xs:List V) (w:Str),v=.ref a∧H a=some (.tup xs)∧xs[0]?=some (.str w)∧decide (w= "cut")=ei p∧decide (w= "fork")=yy p∧decide (w= "leaf")=xV p:=by
 obtain ⟨⟨c1,c2,c3,c4⟩,⟨f1,f2,f3,f4⟩,l1,l2,l3,l4⟩:=fF
 cases p with
 | cut m=>obtain ⟨a,rfl,ha⟩:=fE h;exact ⟨a,_,_,rfl,ha,rfl,c1,f1,l1⟩
 | bare=>obtain ⟨a,rfl,ha⟩:=fh h;exact ⟨a,_,_,rfl,ha,rfl,c2,f2,l2⟩
 | leaf k z=>obtain ⟨a,rfl,ha⟩:=eX h;exact ⟨a,_,_,rfl,ha,rfl,c3,f3,l3⟩
 | fork d b l r=>obtain ⟨a,x,y,rfl,ha,_⟩:=fU h;exact ⟨a,_,_,rfl,ha,rfl,c4,f4,l4⟩
theorem dj.keep {H H':Hp} {v:V} {p:aP} (h:dj H v p) (k:∀ b xs,H b=some (.tup xs)→H' b=some (.tup xs)):dj H' v p:=⟨h.w.keepT k (jH p),h.ok,h.f,h.z⟩
theorem dj.left {H:Hp} {v y:V} {e x:Int} {l r:aP} (h:dj H v (.fork e x l r)) (w:aR H y (bc l)):dj H y l:=by
 obtain ⟨b,lo,hi,d,g,en,d0,d1,_,h1,h2,_,_,_,hl,_⟩:=h.ok
 have:aK l+aK r+1≤60:=h.f
 have:252+szP l+szP r≤90000:=h.z
 exact ⟨w,⟨b,lo,hi,e+1,2*x,en,by omega,by omega,hl⟩,by omega,by omega⟩
theorem dj.right {H:Hp} {v y:V} {e x:Int} {l r:aP} (h:dj H v (.fork e x l r)) (w:aR H y (bc r)):dj H y r:=by
 obtain ⟨b,lo,hi,d,g,en,d0,d1,_,h1,h2,_,_,_,_,hr⟩:=h.ok
 have:aK l+aK r+1≤60:=h.f
 have:252+szP l+szP r≤90000:=h.z
 exact ⟨w,⟨b,lo,hi,e+1,2*x+1,en,by omega,by omega,hr⟩,by omega,by omega⟩
theorem dj.nums {H:Hp} {v:V} {e x:Int} {l r:aP} (h:dj H v (.fork e x l r)):0≤e∧e<10^60∧0≤x∧x<10^60:=by
 obtain ⟨b,lo,hi,d,g,en,d0,d1,_,h1,h2,x0,x1,_⟩:=h.ok
 have:=en.b60
 have:=p10 (b:=e) (by omega)
 have c:(60:Int)<10^60:=by decide +kernel
 exact ⟨by omega,by omega,x0,by omega⟩
theorem Ae (K:W.Frag) (A:Adr):Ln (iJ K A) 3:=by rintro vs H Q E ⟨_,_,_,_,_,_,_,_,_,rfl,_⟩;rfl
theorem Eb (T : Txt K mg A) : Rd (iJ K A) (FP K A) ["stamper", "part", "terms"] := by
  intro vs H Q E h
  obtain ⟨f, b, L, v, p, ps, ts, g, n, rfl, w, sp, hn, hL, pk, ht, lo, q⟩ := h
  cases hc : ei p with
  | true =>
    cases p with
    | cut m =>
      obtain ⟨a, rfl, ha⟩ := fE w.w
      obtain ⟨_, _, _, _, _, _, _, _, _, hm⟩ := w.ok
      exact ixT (j := 0) ha rfl rfl (Sel.yes fF.1.1 (ixT (j := 1) ha rfl rfl (q m g H bz.rfl' (sp.same (by omega) (.refl H)) Sub.rfl' (fun _ _ => rfl) hm.1 (Nat.le_refl _))))
    | _ => cases hc
  | false =>
    obtain ⟨a, xs, wd, rfl, ha, hx, e1, _, _⟩ := yn w.w
    refine ixT (j := 0) ha rfl hx (Sel.no (e1.trans hc) ?_)
    obtain ⟨pre, e⟩ := dW (gx g) hc
    have ets := ht _ (cH g)
    rw [e] at ets
    subst ets
    obtain ⟨qs, pc, rfl, hpc, okc⟩ := kR pk
    have lk := lo (dG (gx g) p) (by simp)
    have sz := w.z
    have hf := w.f
    refine ⟨f, rfl, sp.clo, lc hL (jp sp (by omega) hpc okc fun x H2 g2 kt sp2 sub gv so => ?_)⟩
    obtain ⟨o1, o2⟩ := jr so (by omega)
    refine q x g2 H2 kt sp2 sub (fun h he => ?_) o1 (by omega)
    obtain ⟨pre', e'⟩ := dW h hc
    have e2 := (ht h (he.of sub)).trans e'
    have e3 := (List.append_inj' e2 rfl).2
    have e4 : dG (gx g) p = dG h p := List.cons.inj e3 |>.1
    rw [jF h hc, ← e4]
    exact (he _ _ gv).symm
theorem zn (K:W.Frag) (A:Adr) (n:Nat):Ln (ft K A n) 2:=by rintro vs H Q E ⟨_,_,_,_,_,_,rfl,_⟩;rfl
theorem xc (K:W.Frag) (A:Adr):∀ vs H Q E,¬ ft K A 0 vs H Q E:=by
 rintro vs H Q E ⟨_,_,_,_,_,_,_,_,h,_⟩
 omega
theorem ss {H:Hp} {ps qs:List Addr} {ts us:List (List Key)} (h:PK H ps ts) (h2:PK H qs us):PK H (ps++qs) (ts++us):=by
 induction h with
 | nil=>exact h2
 | cons r t ih=>exact .cons r ih
theorem Cc (T : Txt K mg A) (n : Nat) : Rd (ft K A (n + 1)) (GN K A n) ["stamper", "part", "left", "right", "marks"] := by
  intro vs H Q E h
  obtain ⟨f, b, v, p, g, m, rfl, w, ht, sp, hm, q⟩ := h
  obtain ⟨⟨c1, c2, c3, c4⟩, ⟨f1, f2, f3, f4⟩, _⟩ := fF
  have hf := w.f
  have one : ∀ (a : Addr) (t : List Key), aK p = 0 → H a = some (.tup (t.map kV)) → okT t = true → (∀ h, bF h p = [t]) → szT t + 62 ≤ szP p → (aN (bq (aa (af 1) (aj)))) { nx := fun _ H' => Q .non H', rt := Q } [some (.ref f), some (.ref a), none, none, none] H := fun a t h0 ha ok ht hs => by
    refine ⟨by show 1 ≤ sizeLine; decide, fun L hL => ?_⟩
    have S := ar.upd (o := .lst [V.ref a]) hL
    refine q L [a] [t] g _ (bz.same S) (sp.same (by omega) S) Sub.rfl' ao (.cons ⟨S _ _ ha, ok⟩ .nil) (fun h _ => (ht h).symm) fun t' e => ?_
    have : t = t' := by simpa using e
    rw [← this]; exact hs
  cases p with
  | cut c =>
    obtain ⟨a, rfl, ha⟩ := fE w.w
    refine ixT (j := 0) ha rfl rfl (Sel.yes c1 ⟨by show 0 ≤ sizeLine; decide, fun L hL => ?_⟩)
    have S := ar.upd (o := .lst []) hL
    exact q L [] [] g _ (bz.same S) (sp.same (by omega) S) Sub.rfl' ao .nil (fun h _ => rfl) fun t e => by cases e
  | bare =>
    obtain ⟨a, rfl, ha⟩ := fh w.w
    refine ixT (j := 0) ha rfl rfl (Sel.no c2 (ixT (j := 0) ha rfl rfl (Sel.yes (by rw [f2]; rfl) ?_)))
    exact one a [.inr "bare"] rfl ha eB.1 (fun _ => rfl) (by rw [eB.2]; exact Nat.le_refl _)
  | leaf k z =>
    obtain ⟨a, rfl, ha⟩ := eX w.w
    refine ixT (j := 0) ha rfl rfl (Sel.no c3 (ixT (j := 0) ha rfl rfl (Sel.yes (by rw [f3]; rfl) ?_)))
    obtain ⟨b', lo, hi, d, g', en, d0, d1, _, k0, k1, hz, has, _⟩ := w.ok
    have := p10 en.b60
    obtain ⟨o1, o2⟩ := jI (k := k) (z := z) k0 (by omega) hz has
    exact one a [.inr "leaf", .inl k, .inr z] rfl ha o1 (fun _ => rfl) (by show _ ≤ 312; omega)
  | fork d x l r =>
    obtain ⟨a, vl, vr, rfl, ha, wl, wr⟩ := fU w.w
    have ht' : max (bj l) (bj r) + 1 < n + 1 := ht
    have hm' : m + 2 * (aK l + aK r + 1) ≤ 42000 := hm
    obtain ⟨d0, d1, x0, x1⟩ := w.nums
    refine ixT (j := 0) ha rfl rfl (Sel.no c4 (ixT (j := 0) ha rfl rfl (Sel.no (by rw [f4]; rfl) ?_)))
    refine ixT (j := 3) ha rfl rfl ⟨f, b, vl, l, g, m, rfl, w.left wl, by omega, sp, by omega, fun L1 ps1 ts1 g1 H1 kt1 sp1 sub1 hL1 pk1 e1 lo1 => ?_⟩
    have ha1 := (sp.tup kt1) _ _ ha
    refine ixT (j := 4) ha1 rfl rfl ⟨f, b, vr, r, g1, m + 2 * aK l, rfl, (w.right wr).keep (sp.tup kt1), by omega, sp1, by omega, fun L2 ps2 ts2 g2 H2 kt2 sp2 sub2 hL2 pk2 e2 lo2 => ?_⟩
    have ha2 := (sp1.tup kt2) _ _ ha1
    have hL1b := sp1.lst kt2 _ _ hL1
    refine ixT (j := 3) ha2 rfl rfl ⟨f, b, L1, vl, l, ps1, ts1, g2, m + 2 * aK l + 2 * aK r, rfl, ((w.left wl).keep (sp.tup kt1)).keep (sp1.tup kt2), sp2, by omega, hL1b, dn (sp1.tup kt2) pk1, fun h he => e1 h (he.of sub2), lo1, fun y1 g3 H3 kt3 sp3 sub3 ey1 oy1 sy1 => ?_⟩
    have ha3 := (sp2.tup kt3) _ _ ha2
    have hL2c := sp2.lst kt3 _ _ hL2
    refine ixT (j := 4) ha3 rfl rfl ⟨f, b, L2, vr, r, ps2, ts2, g3, m + 2 * aK l + 2 * aK r + 1, rfl, (((w.right wr).keep (sp.tup kt1)).keep (sp1.tup kt2)).keep (sp2.tup kt3), sp3, by omega, hL2c, dn (sp2.tup kt3) pk2, fun h he => e2 h (he.of sub3), lo2, fun y2 g4 H4 kt4 sp4 sub4 ey2 oy2 sy2 => ?_⟩
    have ha4 := (sp3.tup kt4) _ _ ha3
    have hL1d := sp3.lst kt4 _ _ (sp2.lst kt3 _ _ hL1b)
    have hL2d := sp3.lst kt4 _ _ hL2c
    refine ⟨by show 2 ≤ sizeLine; decide, fun M hM => ?_⟩
    have S5 := ar.upd (o := .tup [kV y1, kV y2]) hM
    have p1 : ps1.length = dm l := by rw [gY pk1, e1 _ (cH g1), eF]
    have p2 : ps2.length = dm r := by rw [gY pk2, e2 _ (cH g2), eF]
    have q1 := fT l
    have q2 := fT r
    have hf' : aK l + aK r + 1 ≤ 60 := hf
    refine .inl ⟨L1, L2, _, _, rfl, rfl, S5 _ _ hL1d, S5 _ _ hL2d, be (by simp; omega), fun C hC => ?_⟩
    have S6 := S5.trans (ar.upd (o := .lst (ps1.map V.ref ++ ps2.map V.ref)) hC)
    have hM6 := ar.upd (o := .lst (ps1.map V.ref ++ ps2.map V.ref)) hC M _ (ao (o := .tup [kV y1, kV y2]))
    refine ixT (j := 1) (S6 _ _ ha4) rfl rfl (ixT (j := 2) (S6 _ _ ha4) rfl rfl (ixT (j := 0) hM6 rfl rfl (ixT (j := 1) hM6 rfl rfl ⟨by show 5 ≤ sizeLine; decide, fun t hT => ⟨by show 1 ≤ sizeLine; decide, fun D hD => ?_⟩⟩)))
    have hC7 := (ar.upd (o := .tup [V.str "fork", .int d, .int x, kV y1, kV y2]) hT).trans (ar.upd (o := .lst [V.ref t]) hD) C _ (ao (o := .lst (ps1.map V.ref ++ ps2.map V.ref)))
    refine .inl ⟨C, D, _, _, rfl, rfl, hC7, ao, be (by simp; omega), fun L hL => ?_⟩
    have S8 : ar H4 _ := ((S6.trans (ar.upd (o := .tup [V.str "fork", .int d, .int x, kV y1, kV y2]) hT)).trans (ar.upd (o := .lst [V.ref t]) hD)).trans (ar.upd (o := .lst (ps1.map V.ref ++ ps2.map V.ref ++ [V.ref t])) hL)
    have ht8 := (ar.upd (o := .lst [V.ref t]) hD).trans (ar.upd (o := .lst (ps1.map V.ref ++ ps2.map V.ref ++ [V.ref t])) hL) t _ (ao (o := .tup [V.str "fork", .int d, .int x, kV y1, kV y2]))
    have kt8 := (((kt1.trans kt2).trans kt3).trans kt4).trans (bz.same S8)
    obtain ⟨ok, sz⟩ := lF (d := d) (x := x) d0 d1 x0 x1 oy1 oy2
    have kk := (sp2.tup ((kt3.trans kt4).trans (bz.same S8)))
    have ml : ps1.map V.ref ++ ps2.map V.ref ++ [V.ref t] = (ps1 ++ ps2 ++ [t]).map V.ref := by simp
    refine q L (ps1 ++ ps2 ++ [t]) (ts1 ++ ts2 ++ [[.inr "fork", .inl d, .inl x, y1, y2]]) g4 _ kt8 (sp4.same (by show _ ≤ m + 2 * (aK l + aK r + 1); omega) S8) (((sub1.trans sub2).trans sub3).trans sub4) (by rw [ao, ml]) (oV (ss (dn kk (dn (sp1.tup kt2) pk1)) (dn kk pk2)) ⟨ht8, ok⟩) (fun h he => ?_) fun t' e => ?_
    · have h3 := he.of sub4
      have h2 := h3.of sub3
      rw [e1 h (h2.of sub2), e2 h h2, ey1 h h3, ey2 h he]; rfl
    · have : ([Sum.inr "fork", Sum.inl d, Sum.inl x, y1, y2] : List Key) = t' := by simpa using e
      rw [← this, sz]
      show 190 + szK y1 + szK y2 + 62 ≤ 252 + szP l + szP r
      omega
theorem fz {b lo hi : Int} : ∀ {p : aP} {d g : Int}, bO b lo hi d g p → szP p ≤ 1376 * aK p + 1062
  | .cut m, _, _, h => h.2.2
  | .bare, _, _, _ => by show 128 ≤ 1376 * 0 + 1062; decide
  | .leaf k z, _, _, _ => by show 312 ≤ 1376 * 0 + 1062; decide
  | .fork e x l r, _, _, h => by
    show 252 + szP l + szP r ≤ 1376 * (aK l + aK r + 1) + 1062
    have := fz h.2.2.2.2.2.2.1
    have := fz h.2.2.2.2.2.2.2
    omega
theorem da.s {H:Hp} {v:V} {b lo hi:Int} {p:aP} (w:da H v b lo hi p):dj H v p:=⟨w.w.w,⟨b,lo,hi,0,0,w.e,by decide,by have:=w.e.b1;omega,w.w.ok⟩,w.f,w.z⟩
theorem da.mono {H H':Hp} {v:V} {b lo hi:Int} {p:aP} (w:da H v b lo hi p) (k:∀ b xs,H b=some (.tup xs)→H' b=some (.tup xs)):da H' v b lo hi p:=⟨w.e,⟨w.w.w.keepT k (jH p),w.w.ok,w.w.d0,w.w.d1,w.w.g0,w.w.g1⟩,w.f,w.t,w.z⟩
theorem tT {b lo hi:Int} (e:cK b lo hi):ci b lo hi 0 0=true:=by
 unfold ci
 have h1:=e.hi1
 have h2:=e.lo0
 have h3:=e.le
 rw [Int.sub_zero,decide_eq_true (by omega),decide_eq_true (by omega)];rfl
theorem da.nc {H:Hp} {v:V} {b lo hi:Int} {p:aP} (w:da H v b lo hi p):ei p=false:=by
 have h:=w.w.ok
 have m:=tT w.e
 cases p with
 | cut c=>have:=h.1;rw [m] at this;cases this
 | _=>rfl
theorem rK {H:Hp} {f b L:Addr} {p:aP} {ps:List Addr} {ts:List (List Key)} {g:gOp} {n:Nat} {R:VK} (sp:Stp A H f b g n) (hn:n≤45000) (hc:ei p=false) (hL:H L=some (.lst (ps.map V.ref))) (pk:PK H ps ts) (ht:∀ h,Ext g h→ts=bF h p)
  (q:∀ (x:Key) (g':gOp) (H':Hp),bz b H H'→Stp A H' f b g' (n+1)→Sub g g'→(∀ h,Ext g' h→x=bM h p)→R (kV x) H'):aF K (.ref L) (.int (-1)) H (fun y H1=>qa (gn K A) f [y] H1 R E0):=by
 obtain ⟨pre,e⟩:=dW (gx g) hc
 have ets:=ht _ (cH g)
 rw [e] at ets
 subst ets
 obtain ⟨qs,pc,rfl,hpc,okc⟩:=kR pk
 refine lc hL (jp sp hn hpc okc fun x H2 g2 kt sp2 sub gv so=>?_)
 refine q x g2 H2 kt sp2 sub (fun h he=>?_)
 obtain ⟨pre',e'⟩:=dW h hc
 have e2:=(ht h (he.of sub)).trans e'
 have e3:=(List.append_inj' e2 rfl).2
 have e4:dG (gx g) p=dG h p:=List.cons.inj e3 |>.1
 rw [jF h hc,←e4]
 exact (he _ _ gv).symm
def er:List Key→Option (Int×Str)
 | [.inr w,.inl k,.inr z]=>if w= "leaf" then some (k,z) else none
 | _=>none
theorem mV (k:Int) (z:Str):er [.inr "leaf",.inl k,.inr z]=some (k,z):=by
 show (if ("leaf" :Str)= "leaf" then some (k,z) else none)=some (k,z)
 rw [if_pos rfl]
theorem qb (h : List Key → Key) (p : aP) : (bF h p).filterMap er = bS p := by
  induction p with
  | cut m => rfl
  | bare => rfl
  | leaf k z => show [_].filterMap er = _; rw [List.filterMap_cons, mV]; rfl
  | fork d b l r hl hr =>
    show (bF h l ++ bF h r ++ [_]).filterMap er = bS l ++ bS r
    rw [List.filterMap_append, List.filterMap_append, hl, hr]
    show bS l ++ bS r ++ [] = _
    rw [List.append_nil]
theorem qJ {h : List Key → Key} {p : aP} {t : List Key} (ht : t ∈ bF h p) : t = [.inr "bare"] ∨ (∃ k z, t = [.inr "leaf", .inl k, .inr z]) ∨ ∃ d b x y, t = [.inr "fork", .inl d, .inl b, x, y] := by
  induction p with
  | cut m => cases ht
  | bare => exact .inl (List.mem_singleton.mp ht)
  | leaf k z => exact .inr (.inl ⟨k, z, List.mem_singleton.mp ht⟩)
  | fork d b l r hl hr =>
    have ht : t ∈ bF h l ++ bF h r ++ [_] := ht
    rcases List.mem_append.mp ht with ht | ht
    · rcases List.mem_append.mp ht with ht | ht
      · exact hl ht
      · exact hr ht
    · exact .inr (.inr ⟨_, _, _, _, List.mem_singleton.mp ht⟩)
theorem oZ {H:Hp} {ps:List Addr} {ts:List (Int×Str)} {p:Addr} {t:Int×Str} (h:PR H ps ts) (e:H p=some (.tup ((nK t).map kV))):PR H (ps++[p]) (ts++[t]):=by
 induction h with
 | nil=>exact .cons e .nil
 | cons r t ih=>exact .cons r ih
theorem BB {H:Hp} {ps qs:List Addr} {ts us:List (Int×Str)} (h:PR H ps ts) (h2:PR H qs us):PR H (ps++qs) (ts++us):=by
 induction h with
 | nil=>exact h2
 | cons r t ih=>exact .cons r ih
theorem gU {H H':Hp} {ps:List Addr} {ts:List (Int×Str)} (k:∀ b xs,H b=some (.tup xs)→H' b=some (.tup xs)) (h:PR H ps ts):PR H' ps ts:=L2.Paired.imp' (fun p x e=>k _ _ e) h
theorem nW {H:Hp} {ps:List Addr} {ts:List (Int×Str)} (h:PR H ps ts):ps.length=ts.length:=Paired.length h
theorem yI {H : Hp} {ps : List Addr} {ts : List (Int × Str)} (h : PR H ps ts) : ∀ {i : Nat} {t : Int × Str}, ts[i]? = some t → ∃ p, ps[i]? = some p ∧ H p = some (.tup ((nK t).map kV)) := by
  induction h with
  | nil => intro i t e; cases e
  | cons a _ ih =>
    intro i t e
    cases i with
    | zero => cases e; exact ⟨_, rfl, a⟩
    | succ i => exact ih e
theorem nu {ps:List Addr} {i:Nat} {p:Addr} (h:ps[i]?=some p):(ps.map V.ref).getD i .non=.ref p:=by
 rw [List.getD_eq_getElem?_getD,List.getElem?_map,h];rfl
theorem jd {α:Type} {l:List α} {i:Nat} {x:α} (h:l[i]?=some x):l.take (i+1)=l.take i++[x]:=by rw [List.take_add_one,h];rfl
theorem zg (K:W.Frag) (A:Adr):Ln (lU K A) 3:=by rintro vs H Q E ⟨_,_,_,_,_,_,rfl,_⟩;rfl
theorem Ci (T:Txt K mg A):Rd (lU K A) (GV K A) ["low", "high", "terms"]:=by
 intro vs H Q E h
 obtain ⟨L,lo,hi,ps,hh,p,rfl,hL,pk,hl,q⟩:=h
 obtain ⟨_,_,l1,l2,l3,l4⟩:=fF
 have pl:=gY pk
 refine ⟨L,rfl,.inl ⟨⟨_,SqL.of hL⟩,fun D hD=>?_⟩⟩
 have hLD:L≠D:=aS hL hD
 refine jn (eL.list (xs:=ps.map V.ref) .non) (fun i ys H2=>∃ rs:List Addr,ys=rs.map V.ref∧H2 D=some (.lst ys)∧ar H H2∧rs.length≤i∧PR H2 rs ((((bF hh p).take i).filterMap er).filter (inI lo hi)))
   (fun i ys H2 _ ⟨_,_,_,s2,_⟩=>SqL.of (s2 _ _ hL)) ⟨[],rfl,ao,ar.upd hD,Nat.le_refl _,.nil⟩ ?_ ?_
 · rintro i ys H2 hi' ⟨rs,rfl,hd,s2,hrl,pr⟩
   rw [List.length_map] at hi'
   obtain ⟨t,ht⟩:∃ t,(bF hh p)[i]?=some t:=⟨_,List.getElem?_eq_getElem (by omega)⟩
   obtain ⟨a,ha,hat,_⟩:=sr pk ht
   have e0:=nu ha
   have hi2:i<(ps.map V.ref).length:=by rw [List.length_map];exact hi'
   have ha2:=s2 _ _ hat
   show (tOp (aF K) (af 0) (tC (.int 0))) [some ((ps.map V.ref).getD i .non),some (.int lo),some (.int hi)] H2 _
   have skip:er t=none→CWd (ps.map V.ref).length (fun i ys H2=>∃ rs:List Addr,ys=rs.map V.ref∧H2 D=some (.lst ys)∧ar H H2∧rs.length≤i∧PR H2 rs ((((bF hh p).take i).filterMap er).filter (inI lo hi))) (i+1) ((ps.map V.ref).length - (i+1)) (rs.map V.ref) H2:=fun hr=>by
     refine ⟨hi2,rfl,rs,rfl,hd,s2,by omega,?_⟩
     rw [jd ht,List.filterMap_append]
     have:[t].filterMap er=[]:=by rw [List.filterMap_cons,hr];rfl
     rw [this,List.append_nil];exact pr
   have go:∀ B,(aF K (.ref a) (.int 0) H2 B)→(tOp (aF K) (af 0) (tC (.int 0))) [some ((ps.map V.ref).getD i .non),some (.int lo),some (.int hi)] H2 B:=fun B hB=>by
     show aF K ((ps.map V.ref).getD i .non) (.int 0) H2 B
     rw [e0];exact hB
   refine go _ ?_
   rcases qJ (List.mem_of_getElem? ht) with rfl | ⟨k,z,rfl⟩ | ⟨d,b,x,y,rfl⟩
   · exact ixT (j:=0) ha2 rfl rfl (Sel.no l2 (qR ⟨_,by omega,skip rfl⟩))
   · refine ixT (j:=0) ha2 rfl rfl (Sel.yes l3 ?_)
     show aF K ((ps.map V.ref).getD i .non) (.int 1) H2 _
     rw [e0]
     refine ixT (j:=1) ha2 rfl rfl ?_
     have step:∀ b:Bool,inI lo hi (k,z)=b→((((bF hh p).take (i+1)).filterMap er).filter (inI lo hi))=((((bF hh p).take i).filterMap er).filter (inI lo hi))++(if b=true then [(k,z)] else []):=fun b hb=>by
       rw [jd ht,List.filterMap_append]
       have:[([Sum.inr "leaf",Sum.inl k,Sum.inr z]:List Key)].filterMap er=[(k,z)]:=by rw [List.filterMap_cons,mV];rfl
       rw [this,List.filter_append]
       cases b with
       | true=>rw [List.filter_cons_of_pos hb];rfl
       | false=>rw [List.filter_cons_of_neg (by rw [hb];decide)];rfl
     have out:inI lo hi (k,z)=false→∃ m',m'<(ps.map V.ref).length - i∧CWd (ps.map V.ref).length (fun i ys H2=>∃ rs:List Addr,ys=rs.map V.ref∧H2 D=some (.lst ys)∧ar H H2∧rs.length≤i∧PR H2 rs ((((bF hh p).take i).filterMap er).filter (inI lo hi))) (i+1) m' (rs.map V.ref) H2:=fun hb=>by
       refine CWd.next hi2 ⟨rs,rfl,hd,s2,by omega,?_⟩
       rw [step false hb]
       show PR H2 rs (_++[])
       rw [List.append_nil];exact pr
     refine Sel.dec (fun h1=>?_) (fun h1=>qR (out (by unfold inI;rw [decide_eq_false h1];rfl)))
     show (if decide (k≤hi)=true then _ else _)
     by_cases h2:k≤hi
     · rw [if_pos (decide_eq_true h2)]
       refine ixT (j:=1) ha2 rfl rfl ?_
       refine ixT (j:=2) ha2 rfl rfl ⟨by show 2≤sizeLine;decide,fun t hT=>?_⟩
       have s3:=ar.upd (o:=.tup [V.int k,V.str z]) hT
       have ne:D≠t:=aS hd hT
       have ne2:t≠D:=fun z=>ne z.symm
       refine ⟨s3 _ _ hd,by rw [List.length_map];exact Nat.lt_of_le_of_lt (m:=1000) (by omega) (by decide),CWd.next hi2 ⟨rs++[t],by rw [List.map_append];rfl,ao,(s2.trans s3).put hD,by rw [List.length_append];show _+1≤_;omega,?_⟩⟩
       rw [step true (by unfold inI;rw [decide_eq_true h1,decide_eq_true h2];rfl)]
       refine oZ (gU (fun c xs e=>?_) pr) ?_
       · have hc:c≠D:=fun z=>by rw [z,hd] at e;cases e
         rw [aI hc];exact s3 _ _ e
       · rw [aI ne2];exact ao
     · rw [if_neg (by rw [decide_eq_false h2];decide)]
       exact out (by unfold inI;rw [decide_eq_false h2,Bool.and_false])
   · exact ixT (j:=0) ha2 rfl rfl (Sel.no l4 (qR ⟨_,by omega,skip rfl⟩))
 · rintro ys H2 ⟨rs,rfl,hd,s2,hrl,pr⟩
   rw [List.length_map,pl,List.take_length,qb] at pr
   exact q D rs H2 s2 hD hd pr
theorem rM {H : Hp} {ps : List Addr} {ts : List (List Key)} (h : PT H ps ts) : ∀ {i : Nat} {t : List Key}, ts[i]? = some t → ∃ p, ps[i]? = some p ∧ H p = some (.tup (t.map kV)) ∧ t.length ≤ 8 := by
  induction h with
  | nil => intro i t e; cases e
  | cons a _ ih =>
    intro i t e
    cases i with
    | zero => cases e; exact ⟨_, rfl, a⟩
    | succ i => exact ih e
theorem su {H:Hp} {ps:List Addr} {ts:List (List Key)} (h:PT H ps ts):ps.length=ts.length:=Paired.length h
theorem BE (K:W.Frag) (A:Adr):Ln (jU K A) 2:=by rintro vs H Q E ⟨_,_,_,_,_,rfl,_⟩;rfl
theorem ED (T:Txt K mg A):Rd (jU K A) (Gx K A) ["_law_found", "_law_due", "_law_k"]:=by
 intro vs H Q E h
 obtain ⟨L,M,ps,rs,ts,rfl,hL,hM,w1,w2,hl,q⟩:=h
 have l1:=su w1
 have l2:=su w2
 have ty:tyN H (.ref L)=some "list" :=by unfold tyN;dsimp only;rw [hL]
 refine ⟨by decide, "list",ty,Sel.no rfl (.inl (.inl ⟨_,SqL.of hL,.inl (.inl ⟨_,SqL.of hM,?_⟩)⟩))⟩
 refine Sel.no (by simp;omega) (.inl (.inl ⟨_,SqL.of hM,_,rfl,by omega,by simp;omega,?_⟩))
 have hn:(((rs.map V.ref).length:Nat):Int).toNat=ts.length:=by simp;omega
 rw [hn]
 refine iX (fun i σ H'=>H'=H∧∃ x2,σ=[some (.ref L),some (.ref M),x2]) ⟨rfl,none,rfl⟩ ?_ ?_
 · rintro i σ _ hi ⟨rfl,x2,rfl⟩
   obtain ⟨t,ht⟩:∃ t,ts[i]?=some t:=⟨_,List.getElem?_eq_getElem hi⟩
   obtain ⟨p,hp,hp2,ok⟩:=rM w1 ht
   obtain ⟨r,hr,hr2,_⟩:=rM w2 ht
   have e1:(ps.map V.ref)[i]?=some (.ref p):=by rw [List.getElem?_map,hp];rfl
   have e2:(rs.map V.ref)[i]?=some (.ref r):=by rw [List.getElem?_map,hr];rfl
   refine ixL (j:=i) hL (by omega) e1 (ixL (j:=i) hM (by omega) e2 ⟨p,r,t,rfl,hp2,hr2,ok,Sel.no rfl ⟨rfl,_,rfl⟩⟩)
 · rintro σ _ ⟨rfl,x2,rfl⟩
   exact q
theorem wQ {H:Hp} {ps:List Addr} {ts:List (List Key)} (h:PK H ps ts):PT H ps ts:=L2.Paired.imp' (fun p k e=>⟨e.1,(xQ e.2).2⟩) h
theorem tP {H:Hp} {ps:List Addr} {ts:List (Int×Str)} (h:PR H ps ts):PT H ps (ts.map nK):=by
 induction h with
 | nil=>exact .nil
 | cons r t ih=>exact .cons ⟨r,by show 2≤8;decide⟩ ih
theorem zB (K:W.Frag) (A:Adr):Ln (mI K A) 3:=by rintro vs H Q E ⟨_,_,_,rfl,_⟩;rfl
theorem EW (T:Txt K mg A):Rd (mI K A) (Gg K A) ["_law_cell", "_law_depth", "_law_begin_here"]:=by
 intro vs H Q E h
 obtain ⟨c,d,g,rfl,q⟩:=h
 exact ⟨fg (by decide) (by decide),fg (by decide) (by decide),fg (by decide) (by decide),by decide,fg (by decide) (by decide),by decide,q _ (by omega) (by omega)⟩
theorem BA (K:W.Frag) (A:Adr):Ln (kh K A) 5:=by rintro vs H Q E ⟨_,_,_,_,_,rfl,_⟩;rfl
theorem EE (T:Txt K mg A):Rd (kh K A) (Gn K A) ["_law_bits_here", "_law_low", "_law_high", "_law_depth", "_law_begin_here", "_law_wide"]:=by
 intro vs H Q E h
 obtain ⟨b,lo,hi,d,g,rfl,e,d0,d1,g0,g1,q⟩:=h
 have b60:=e.b60
 have:=jv (d:=d) (by omega)
 refine ⟨⟨by omega,by omega,by decide⟩,gL g0 (by omega),?_⟩
 show Sel (decide (g*(1*2^(b - d).toNat)≤hi)) _ _
 rw [Int.one_mul]
 unfold ci at q
 refine Sel.mk (fun h1=>⟨gL (by omega) (by omega),?_⟩) (fun h1=>?_)
 · rw [h1,Bool.true_and] at q
   show Q (.bl (decide (lo<(g+1)*2^(b - d).toNat))) H
   have e:decide (lo≤(g+1)*2^(b - d).toNat - 1)=decide (lo<(g+1)*2^(b - d).toNat):=decide_eq_decide.mpr (by omega)
   rw [← e];exact q
 · rw [h1,Bool.false_and] at q
   exact q
theorem BY {x g m f b:Int} (g0:0≤g) (m0:0≤m) (hf:f≤b) (g1:g<2^(b - f).toNat) (h:x/2^m.toNat=g):0≤x∧x<2^(b - f+m).toNat:=by
 have W:=cR m.toNat
 have e:(b - f+m).toNat=(b - f).toNat+m.toNat:=by omega
 rw [e,Int.pow_add]
 refine ⟨?_,?_⟩
 · refine Int.not_lt.mp fun hx=>?_
   have:x/2^m.toNat<0:=Int.ediv_neg_of_neg_of_pos hx W
   omega
 · have h1:x<(x/2^m.toNat+1)*2^m.toNat:=Int.lt_ediv_add_one_mul_self x W
   rw [h] at h1
   have h2:(g+1)*2^m.toNat≤2^(b - f).toNat*2^m.toNat:=Int.mul_le_mul_of_nonneg_right (by omega) (Int.le_of_lt W)
   omega
theorem gk {g r W:Int} (hW:0<W) (r0:0≤r) (r1:r<W):(g*W+r)/W=g:=by
 rw [Int.add_comm,Int.add_mul_ediv_right _ _ (by omega),Int.ediv_eq_zero_of_lt r0 r1,Int.zero_add]
theorem Dw (K:W.Frag) (A:Adr):Ln (rh K A) 6:=by rintro vs H Q E ⟨_,_,_,_,_,_,_,rfl,_⟩;rfl
theorem GK (T:Txt K mg A):Rd (rh K A) (T_8 K A) ["_law_number_here", "_law_begin_here", "_law_more", "_law_low", "_law_high", "_law_free", "_law_own"]:=by
 intro vs H Q E h
 obtain ⟨b,n,g,m,lo,hi,f,rfl,e,n0,n1,g0,m0,mf,fb,g1,q⟩:=h
 have b60:=e.b60
 have hle:=e.le
 have gg:g<2^60:=Int.lt_of_lt_of_le g1 (jv (by omega))
 have W:=cR m.toNat
 have fin:∀ x:Int,x/2^m.toNat=g→Q (.int x) H:=fun x hx=>let ⟨a,c⟩:=BY g0 m0 fb g1 hx;q x a c hx
 refine ⟨by decide,Sel.dec (fun _=>?_) (fun _=>?_)⟩
 · refine ⟨⟨m0,by omega,by omega⟩,fg (by decide) (by decide),⟨m0,by omega,by decide⟩,by show (0:Int)<1*2^m.toNat;rw [Int.one_mul];exact W,fin _ ?_⟩
   rw [Int.one_mul]
   exact gk W (Int.emod_nonneg _ (by omega)) (Int.emod_lt_of_pos _ W)
 · refine ⟨by show (0:Int)<hi - lo+1;omega,by show (0:Int)≤f - m;omega,m0,?_⟩
   refine Sel.ndec (fun h1=>⟨⟨m0,by omega,by omega⟩,fin _ ?_⟩) (fun h1=>fin _ h1)
   have:=gk (g:=g) (r:=0) W (by decide) W
   rw [Int.add_zero] at this;exact this
theorem zy (K:W.Frag) (A:Adr):Ln (lT K A) 3:=by rintro vs H Q E ⟨_,_,_,rfl,_⟩;rfl
theorem Fc (T:Txt K mg A):Rd (lT K A) (Hf K A) ["_law_bits_here", "_law_one", "_law_other", "_law_low", "_law_high"]:=by
 intro vs H Q E h
 obtain ⟨b,c,e,rfl,b1,b60,q⟩:=h
 have W:=cR b.toNat
 have W2:=jv b60
 have last:∀ (lo hi:Int) (H2:Hp),ar H H2→0≤lo→lo<2^b.toNat→0≤hi→hi<2^b.toNat→tR K A { nx:=fun _ H'=>Q .non H',rt:=Q } [some (.int b),some (.int c),some (.int e),some (.int lo),some (.int hi)] H2:=fun lo hi H2 s2 l0 l1 h0 h1=>by
   refine ⟨by decide,Sel.dec (fun _=>?_) (fun _=>?_)⟩
   · refine ⟨⟨by omega,by omega,by decide⟩,by show 2≤sizeLine;decide,fun t hT=>q t 0 (1*2^b.toNat - 1) _ (s2.trans (ar.upd hT)) ao ⟨b1,b60,by decide,by rw [Int.one_mul];omega,by rw [Int.one_mul];omega⟩⟩
   · refine ⟨by show 2≤sizeLine;decide,fun t hT=>q t (if hi<lo then hi else lo) (if hi>lo then hi else lo) _ (s2.trans (ar.upd hT)) ao ⟨b1,b60,?_,?_,?_⟩⟩
     · split <;> omega
     · split <;> split <;> omega
     · split <;> omega
 have mid:∀ (lo hi:Int) (H2:Hp),ar H H2→0≤lo→lo<2^b.toNat→0≤hi→hi<2^b.toNat→rO K A { nx:=fun _ H'=>Q .non H',rt:=Q } [some (.int b),some (.int c),some (.int e),some (.int lo),some (.int hi)] H2:=fun lo hi H2 s2 l0 l1 h0 h1=>
   ⟨by decide,Sel.dec (fun _=>last lo lo H2 s2 l0 l1 l0 l1) (fun _=>last lo hi H2 s2 l0 l1 h0 h1)⟩
 refine ⟨by show 0≤sizeLine;decide,fun p hp=>⟨b,c,p,[],rfl,b1,b60,ao,by decide,(fun k hk=>by cases hk),fun lo H1 s1 l0 l1=>?_⟩⟩
 refine ⟨by show 1≤sizeLine;decide,fun p2 hp2=>⟨b,e,p2,[lo],rfl,b1,b60,ao,Nat.le_refl 1,(fun k hk=>by rw [List.mem_singleton.mp hk];exact ⟨l0,l1⟩),fun hi H2 s2 h0 h1=>?_⟩⟩
 have S:=((ar.upd hp).trans s1).trans ((ar.upd hp2).trans s2)
 refine ⟨by decide,Sel.dec (fun _=>?_) (fun _=>mid lo hi H2 S l0 l1 h0 h1)⟩
 refine ⟨⟨by decide,by decide⟩,by decide,⟨by omega,by omega,by decide⟩,?_⟩
 refine mid lo (if 1*2^b.toNat - 1<lo+e/7%40 then 1*2^b.toNat - 1 else lo+e/7%40) H2 S l0 l1 ?_ ?_
 · rw [Int.one_mul];split <;> omega
 · rw [Int.one_mul];split <;> omega
theorem pd {b lo hi d g:Int} {p:aP} (h:bO b lo hi d g p) (hm:ci b lo hi d g=false):aK p=0:=by
 cases p with
 | fork e x l r=>have:=h.1;rw [hm] at this;cases this
 | _=>rfl
theorem uB {b lo e x:Int} (h1:ci b lo lo e (2*x)=true) (h2:ci b lo lo e (2*x+1)=true):False:=by
 unfold ci at h1 h2
 rw [Bool.and_eq_true] at h1 h2
 have a:=of_decide_eq_true h1.2
 have c:=of_decide_eq_true h2.1
 generalize (2*x+1)*2^(b - e).toNat=P at a c
 omega
theorem xD {y:Int} (h:1≤y):(2:Nat)^y.toNat=2*2^(y - 1).toNat:=by
 have:y.toNat=(y - 1).toNat+1:=by omega
 rw [this,Nat.pow_succ];omega
theorem vO {b lo hi d e x y : Int} {l r : aP} (y1 : 1 ≤ y) (hl : bO b lo hi e (2 * x) l) (hr : bO b lo hi e (2 * x + 1) r) (fl : aK l ≤ 2 ^ (y - 1).toNat - 1) (fr : aK r ≤ 2 ^ (y - 1).toNat - 1) (gl : lo = hi → (aK l : Int) ≤ b - e) (gr : lo = hi → (aK r : Int) ≤ b - e) (hd : d < e) :
    aK l + aK r + 1 ≤ 2 ^ y.toNat - 1 ∧ (lo = hi → ((aK l + aK r + 1 : Nat) : Int) ≤ b - d) := by
  have e2 := xD y1
  have p1 : 1 ≤ 2 ^ (y - 1).toNat := Nat.one_le_two_pow
  refine ⟨by omega, fun h => ?_⟩
  have gl := gl h
  have gr := gr h
  subst h
  cases h1 : ci b lo lo e (2 * x) with
  | false => have := pd hl h1; omega
  | true =>
    cases h2 : ci b lo lo e (2 * x + 1) with
    | false => have := pd hr h2; omega
    | true => exact (uB h1 h2).elim
theorem BD (K:W.Frag) (A:Adr) (n:Nat):Ln (iB K A n) 7:=by rintro vs H Q E ⟨_,_,_,_,_,_,_,rfl,_⟩;rfl
theorem xi (K:W.Frag) (A:Adr):∀ vs H Q E,¬ iB K A 0 vs H Q E:=by
 rintro vs H Q E ⟨_,_,_,_,_,_,_,_,_,_,_,_,_,_,_,h,_⟩
 omega
theorem Cy (T : Txt K mg A) (n : Nat) : Rd (iB K A (n + 1)) (FT K A n) ["_law_cell", "_law_bits_here", "_law_low", "_law_high", "_law_depth", "_law_begin_here", "_law_deep", "_law_number_here", "_law_free", "_law_key_here", "_law_more", "_law_own", "_law_left", "_law_right"] := by
  intro vs H Q E h
  obtain ⟨c, b, lo, hi, d, g, y, rfl, e, d0, d1, g0, g1, y0, y1, hn, q⟩ := h
  have b60 := e.b60
  have e1 := e.b1
  have lo0 := e.lo0
  have le := e.le
  have hi1 := e.hi1
  have gg : g < 2 ^ 60 := Int.lt_of_lt_of_le g1 (jv (by omega))
  have W := cR (b - d).toNat
  have WW : (2 : Int) ^ b.toNat = 2 ^ d.toNat * 2 ^ (b - d).toNat := rQ d0 d1
  refine ⟨c, d, g, rfl, fun N n0 n1 => ?_⟩
  refine ⟨b, lo, hi, d, g, rfl, e, d0, d1, g0, g1, ?_⟩
  cases hm : ci b lo hi d g with
  | false =>
    refine Sel.yes rfl ⟨N, rfl, fun m hst => ⟨by show 2 ≤ sizeLine; decide, fun t hT => ?_⟩⟩
    exact q (.ref t) (.cut m) _ (ar.upd hT) ⟨.tup ao (.cons (.str _) (.cons (nD _ m) .nil)), ⟨hm, sF hst.1 hst.2.1, hst.2.2⟩, d0, d1, g0, g1⟩ (Nat.zero_le _) (fun _ => by show (0 : Int) ≤ _; omega) (by show (0 : Int) ≤ _; omega)
  | true =>
    refine Sel.no rfl ?_
    have leaf : ∀ (k : Int) (H2 : Hp), ar H H2 → 0 ≤ k → k < 2 ^ b.toNat → bd b k d = g → ∀ (a8 : Option V), (aN (aE (aa (tC (.str "leaf")) (aa (af 9) (aa (ax (jl K A) (fun _ => E0) (aa (tOp (cg) (af 7) (tC (.int 3))) (aj))) (aj)))))) { nx := fun _ H' => Q .non H', rt := Q } [some (.int c), some (.int b), some (.int lo), some (.int hi), some (.int d), some (.int g), some (.int y), some (.int N), a8, some (.int k), none, none, none, none] H2 := fun k H2 s2 k0 k1 hs a8 => by
      refine ⟨⟨by decide, by decide⟩, N / 3, rfl, fun z H3 s3 hz ha => ⟨by show 3 ≤ sizeLine; decide, fun t hT => ?_⟩⟩
      exact q (.ref t) (.leaf k z) _ ((s2.trans s3).trans (ar.upd hT)) ⟨.tup ao (.cons (.str _) (.cons (.int _) (.cons (.str _) .nil))), ⟨hm, k0, k1, hz, ha, hs⟩, d0, d1, g0, g1⟩ (Nat.zero_le _) (fun _ => by show (0 : Int) ≤ _; omega) (by show (0 : Int) ≤ _; omega)
    have fork : 1 ≤ y → d < b → mX K A n { nx := fun _ H' => Q .non H', rt := Q } [some (.int c), some (.int b), some (.int lo), some (.int hi), some (.int d), some (.int g), some (.int y), some (.int N), some (.int (b - d)), none, none, none, none, none] H := fun y1' db => by
      refine ⟨⟨by decide, by decide⟩, by show (0 : Int) < b - d; omega, ⟨by decide, by decide⟩, by show (0 : Int) < (if 3 < b - d then 3 else b - d); split <;> omega, by show 4 ≤ sizeLine; decide, fun p hp => ⟨by decide, ?_⟩⟩
      have S := ar.upd (o := .lst [V.int 0, .int (N / 7 % (b - d)), .int 0, .int (N / 7 % (if 3 < b - d then 3 else b - d))]) hp
      have go : ∀ (m : Int), 0 ≤ m → m < b - d → sY K A n { nx := fun _ H' => Q .non H', rt := Q } [some (.int c), some (.int b), some (.int lo), some (.int hi), some (.int d), some (.int g), some (.int y), some (.int N), some (.int (b - d)), none, some (.int m), none, none, none] (upd H p (.lst [V.int 0, .int (N / 7 % (b - d)), .int 0, .int (N / 7 % (if 3 < b - d then 3 else b - d))])) := fun m m0 mf => by
        have eb : b - (b - d) = d := by omega
        refine ⟨b, N, g, m, lo, hi, b - d, rfl, e, n0, n1, g0, m0, mf, by omega, by rw [eb]; exact g1, fun x x0 x1 hx => ?_⟩
        rw [eb] at x1
        obtain ⟨fn1, fn2, fn3⟩ := lO (e := d + m) (x := x) (by omega) x0 x1
        refine ⟨gL (by decide) (by decide), c, b, lo, hi, d + m + 1, 2 * x, y - 1, rfl, e, by omega, by omega, fn1, fn2, by omega, by omega, by omega, fun vl pl H3 s3 wl fl1 fl2 tl => ?_⟩
        refine ⟨gL (by decide) (by decide), c, b, lo, hi, d + m + 1, 2 * x + 1, y - 1, rfl, e, by omega, by omega, by omega, fn3, by omega, by omega, by omega, fun vr pr H4 s4 wr fr1 fr2 tr => ?_⟩
        refine ⟨by show 5 ≤ sizeLine; decide, fun t hT => ?_⟩
        have S5 := ar.upd (o := .tup [V.str "fork", .int (d + m), .int x, vl, vr]) hT
        obtain ⟨F1, F2⟩ := vO (d := d) y1' wl.ok wr.ok fl1 fr1 fl2 fr2 (by omega)
        have em : d + m - d = m := by omega
        refine q (.ref t) (.fork (d + m) x pl pr) _ (((S.trans s3).trans s4).trans S5) ⟨.tup ao (.cons (.str _) (.cons (.int _) (.cons (.int _) (.cons ((wl.w.mono s4).mono S5) (.cons (wr.w.mono S5) .nil))))), ⟨hm, by omega, by omega, x0, x1, by rw [em]; exact hx, wl.ok, wr.ok⟩, d0, d1, g0, g1⟩ F1 F2 ?_
        show ((max (bj pl) (bj pr) + 1 : Nat) : Int) ≤ b - d
        omega
      have hc : N % 4 = 0 ∨ N % 4 = 1 ∨ N % 4 = 2 ∨ N % 4 = 3 := by omega
      have r1 : 0 ≤ N / 7 % (b - d) ∧ N / 7 % (b - d) < b - d := ⟨Int.emod_nonneg _ (by omega), Int.emod_lt_of_pos _ (by omega)⟩
      have r2 : 0 ≤ N / 7 % (if 3 < b - d then 3 else b - d) ∧ N / 7 % (if 3 < b - d then 3 else b - d) < b - d := by
        split
        · exact ⟨by omega, by omega⟩
        · exact r1
      rcases hc with hk | hk | hk | hk
      · exact ixL (j := 0) ao hk rfl (go 0 (by decide) (by omega))
      · exact ixL (j := 1) ao hk rfl (go _ r1.1 r1.2)
      · exact ixL (j := 2) ao hk rfl (go 0 (by decide) (by omega))
      · exact ixL (j := 3) ao hk rfl (go _ r2.1 r2.2)
    have bR : sV K A n { nx := fun _ H' => Q .non H', rt := Q } [some (.int c), some (.int b), some (.int lo), some (.int hi), some (.int d), some (.int g), some (.int y), some (.int N), none, none, none, none, none, none] H := by
      have body : (au (aB (tOp (aH K) (tOp (bA) (af 5) (tOp (cy) (tC (.int 1)) (af 8))) (tOp (bp) (tOp (bA) (tOp (cg) (af 7) (tC (.int 7))) (tC (.int 982451653))) (tOp (cy) (tC (.int 1)) (af 8)))) (ay 9)) (au (bf (iy (aX (tOp (bC K) (tOp (bp) (af 7) (tC (.int 3))) (tC (.int 0)))) (aX (tOp (bC K) (tOp (gw) (af 2) (af 8)) (af 5)))) (aB (af 2) (ay 9)) (aY)) (aN (aE (aa (tC (.str "leaf")) (aa (af 9) (aa (ax (jl K A) (fun _ => E0) (aa (tOp (cg) (af 7) (tC (.int 3))) (aj))) (aj)))))))) { nx := mX K A n { nx := fun _ H' => Q .non H', rt := Q }, rt := Q } [some (.int c), some (.int b), some (.int lo), some (.int hi), some (.int d), some (.int g), some (.int y), some (.int N), some (.int (b - d)), none, none, none, none, none] H := by
        refine ⟨⟨by omega, by omega, by decide⟩, gL g0 (by omega), ⟨by decide, by decide⟩, fg (by decide) (by decide), ⟨by omega, by omega, by decide⟩, by show (0 : Int) < 1 * 2 ^ (b - d).toNat; rw [Int.one_mul]; exact W, ?_⟩
        have r0 : 0 ≤ N / 7 * 982451653 % (1 * 2 ^ (b - d).toNat) := Int.emod_nonneg _ (by rw [Int.one_mul]; omega)
        have r1 : N / 7 * 982451653 % (1 * 2 ^ (b - d).toNat) < 2 ^ (b - d).toNat := by
          have := Int.emod_lt_of_pos (N / 7 * 982451653) (b := 1 * 2 ^ (b - d).toNat) (by rw [Int.one_mul]; exact W)
          rw [Int.one_mul] at this ⊢; exact this
        have k0 : 0 ≤ g * (1 * 2 ^ (b - d).toNat) + N / 7 * 982451653 % (1 * 2 ^ (b - d).toNat) := by
          have := Int.mul_nonneg g0 (Int.le_of_lt W)
          rw [Int.one_mul]
          rw [Int.one_mul] at r0
          omega
        have k1 : g * (1 * 2 ^ (b - d).toNat) + N / 7 * 982451653 % (1 * 2 ^ (b - d).toNat) < 2 ^ b.toNat := by
          have h2 : (g + 1) * 2 ^ (b - d).toNat ≤ 2 ^ d.toNat * 2 ^ (b - d).toNat := Int.mul_le_mul_of_nonneg_right (by omega) (Int.le_of_lt W)
          rw [Int.add_mul, Int.one_mul] at h2
          rw [WW, Int.one_mul]
          rw [Int.one_mul] at r1
          omega
        have ks : bd b (g * (1 * 2 ^ (b - d).toNat) + N / 7 * 982451653 % (1 * 2 ^ (b - d).toNat)) d = g := by
          unfold bd
          rw [Int.one_mul] at r0 r1 ⊢
          exact gk W r0 r1
        refine ⟨by decide, Sel.dec (fun _ => ⟨by show (0 : Int) ≤ b - d; omega, Sel.dec (fun hl => ?_) (fun _ => ?_)⟩) (fun _ => Sel.f ?_)⟩
        · exact leaf lo H (.refl H) lo0 (by omega) hl _
        · exact leaf _ H (.refl H) k0 k1 ks _
        · exact leaf _ H (.refl H) k0 k1 ks _
      refine Sel.dec (fun _ => Sel.t body) (fun hy => Sel.dec (fun _ => Sel.t body) (fun hf => ?_))
      have hf : ¬ b - d = 0 := hf
      have fk := fork (by omega) (by omega)
      exact ⟨by decide, Sel.dec (fun _ => Sel.dec (fun _ => body) (fun _ => fk)) (fun _ => Sel.f fk)⟩
    refine Sel.dec (fun hd => ⟨by decide, Sel.dec (fun _ => ⟨by show 1 ≤ sizeLine; decide, fun t hT => ?_⟩) (fun _ => bR)⟩) (fun _ => Sel.f bR)
    exact q (.ref t) .bare _ (ar.upd hT) ⟨.tup ao (.cons (.str _) .nil), ⟨hm, hd⟩, d0, d1, g0, g1⟩ (Nat.zero_le _) (fun _ => by show (0 : Int) ≤ _; omega) (by show (0 : Int) ≤ _; omega)
theorem zi (K:W.Frag) (A:Adr):Ln (mU K A) 4:=by rintro vs H Q E ⟨_,_,_,_,rfl,_⟩;rfl
theorem EN (T:Txt K mg A):Rd (mU K A) (Gy K A) ["_law_cell", "_law_bits_here", "_law_low", "_law_high", "_law_deep"]:=by
 intro vs H Q E h
 obtain ⟨c,b,lo,hi,rfl,e,q⟩:=h
 have b60:=e.b60
 have b1:=e.b1
 have fin:∀ (y:Int) (H2:Hp),ar H H2→0≤y→y≤60→(lo=hi∨y≤5)→sm K A { nx:=fun _ H'=>Q .non H',rt:=Q } [some (.int c),some (.int b),some (.int lo),some (.int hi),some (.int y)] H2:=fun y H2 s2 y0 y1 hy=>by
   refine ⟨c,b,lo,hi,0,0,y,rfl,e,by decide,by omega,by decide,by decide,y0,y1,by omega,fun v p H3 s3 w f1 f2 t=>?_⟩
   have f60:aK p≤60:=by
    rcases hy with h | h
    · have:=f2 h;omega
    · have:2^y.toNat≤2^5:=Nat.pow_le_pow_right (by decide) (by omega)
      omega
   exact q v p H3 (s2.trans s3) ⟨e,w,by omega,by omega,by have:=fz w.ok;omega⟩ f60
 refine ⟨⟨by decide,by decide⟩,by decide,Sel.dec (fun h=>?_) (fun h=>fin _ H (.refl H) (by omega) (by omega) (.inr (by omega)))⟩
 refine ⟨by show 3≤sizeLine;decide,fun p hp=>⟨by decide,?_⟩⟩
 have S:=ar.upd (o:=.lst [V.int 60,.int 20,.int (1+c/7%5)]) hp
 have hc:c%3=0∨c%3=1∨c%3=2:=by omega
 rcases hc with hk | hk | hk
 · exact ixL (j:=0) ao hk rfl (fin 60 _ S (by decide) (by decide) (.inl h))
 · exact ixL (j:=1) ao hk rfl (fin 20 _ S (by decide) (by decide) (.inl h))
 · exact ixL (j:=2) ao hk rfl (fin _ _ S (by omega) (by omega) (.inl h))
theorem fS (p:aP):(bS p).length≤aK p+1:=by
 induction p with
 | fork d b l r hl hr=>show (bS l++bS r).length≤aK l+aK r+1+1;rw [List.length_append];omega
 | leaf k z=>exact Nat.le_refl 1
 | cut m=>exact Nat.zero_le _
 | bare=>exact Nat.zero_le _
theorem zR (K:W.Frag) (A:Adr) (n:Nat):Ln (hV K A n) 1:=by rintro vs H Q E ⟨_,_,rfl,_⟩;rfl
theorem xk (K:W.Frag) (A:Adr):∀ vs H Q E,¬ hV K A 0 vs H Q E:=by
 rintro vs H Q E ⟨_,_,_,_,h,_⟩
 omega
theorem gB {H H':Hp} {L:Addr} (s:ar H H') (h:H' L=none):H L=none:=by
 cases e:H L with
 | none=>rfl
 | some o=>rw [s _ _ e] at h;cases h
theorem Df (T : Txt K mg A) (n : Nat) : Rd (hV K A (n + 1)) (GC K A n) ["_law_part_here"] := by
  intro vs H Q E h
  obtain ⟨v, p, rfl, w, ht, hf, q⟩ := h
  obtain ⟨_, ⟨f1, f2, f3, f4⟩, l1, l2, l3, l4⟩ := fF
  have non : bS p = [] → (aN (bq aj)) { nx := fun _ H' => Q .non H', rt := Q } [some v] H := fun e => by
    refine ⟨by show 0 ≤ sizeLine; decide, fun M hM => q M [] _ (ar.upd hM) hM ao ?_⟩
    rw [e]; exact .nil
  cases p with
  | cut m =>
    obtain ⟨a, rfl, ha⟩ := fE w
    exact ixT (j := 0) ha rfl rfl (Sel.no l1 (ixT (j := 0) ha rfl rfl (Sel.no f1 (non rfl))))
  | bare =>
    obtain ⟨a, rfl, ha⟩ := fh w
    exact ixT (j := 0) ha rfl rfl (Sel.no l2 (ixT (j := 0) ha rfl rfl (Sel.no f2 (non rfl))))
  | leaf k z =>
    obtain ⟨a, rfl, ha⟩ := eX w
    refine ixT (j := 0) ha rfl rfl (Sel.yes l3 (ixT (j := 1) ha rfl rfl (ixT (j := 2) ha rfl rfl ⟨by show 2 ≤ sizeLine; decide, fun t hT => ⟨by show 1 ≤ sizeLine; decide, fun M hM => ?_⟩⟩)))
    have s1 := ar.upd (o := .tup [V.int k, V.str z]) hT
    have s2 := ar.upd (o := .lst [V.ref t]) hM
    exact q M [t] _ (s1.trans s2) (gB s1 hM) ao (.cons (s2 _ _ ao) .nil)
  | fork d b l r =>
    obtain ⟨a, vl, vr, rfl, ha, wl, wr⟩ := fU w
    have ht' : max (bj l) (bj r) + 1 < n + 1 := ht
    have hf' : aK l + aK r + 1 ≤ 70 := hf
    refine ixT (j := 0) ha rfl rfl (Sel.no l4 (ixT (j := 0) ha rfl rfl (Sel.yes f4 ?_)))
    refine ixT (j := 3) ha rfl rfl ⟨vl, l, rfl, wl, by omega, by omega, fun L1 r1 H1 s1 n1 h1 p1 => ?_⟩
    refine ixT (j := 4) (s1 _ _ ha) rfl rfl ⟨vr, r, rfl, wr.mono s1, by omega, by omega, fun L2 r2 H2 s2 n2 h2 p2 => ?_⟩
    have e1 := nW p1
    have e2 := nW p2
    have m1 := fS l
    have m2 := fS r
    refine .inl ⟨L1, L2, _, _, rfl, rfl, s2 _ _ h1, h2, be (by simp; omega), fun M hM => ?_⟩
    have s3 := ar.upd (o := .lst (r1.map V.ref ++ r2.map V.ref)) hM
    have ml : r1.map V.ref ++ r2.map V.ref = (r1 ++ r2).map V.ref := by simp
    exact q M (r1 ++ r2) _ ((s1.trans s2).trans s3) (gB (s1.trans s2) hM) (by rw [ao, ml]) (BB (gU (fun c xs e => s3 _ _ (s2 _ _ e)) p1) (gU (fun c xs e => s3 _ _ e) p2))
theorem AT (K:W.Frag) (A:Adr):Ln (md K A) 3:=by rintro vs H Q E ⟨_,_,_,_,rfl,_⟩;rfl
theorem Fh (T:Txt K mg A):Rd (md K A) (Gs K A) ["_law_part_here", "_law_low", "_law_high"]:=by
 intro vs H Q E h
 obtain ⟨v,p,lo,hi,rfl,w,ht,hf,q⟩:=h
 refine ⟨v,p,rfl,w,by omega,hf,fun L ps H1 s1 n1 hL pr=>?_⟩
 have pl:=nW pr
 have ml:=fS p
 refine ⟨L,rfl,.inl ⟨⟨_,SqL.of hL⟩,fun D hD=>?_⟩⟩
 refine jn (eL.list (xs:=ps.map V.ref) .non) (fun i ys H2=>∃ rs:List Addr,ys=rs.map V.ref∧H2 D=some (.lst ys)∧ar H1 H2∧rs.length≤i∧PR H2 rs (((bS p).take i).filter (inI lo hi)))
   (fun i ys H2 _ ⟨_,_,_,s2,_⟩=>SqL.of (s2 _ _ hL)) ⟨[],rfl,ao,ar.upd hD,Nat.le_refl _,.nil⟩ ?_ ?_
 · rintro i ys H2 hi' ⟨rs,rfl,hd,s2,hrl,pr2⟩
   rw [List.length_map] at hi'
   obtain ⟨t,ht⟩:∃ t,(bS p)[i]?=some t:=⟨_,List.getElem?_eq_getElem (by omega)⟩
   obtain ⟨a,ha,hat⟩:=yI pr ht
   have e0:=nu ha
   have hi2:i<(ps.map V.ref).length:=by rw [List.length_map];exact hi'
   have ha2:=s2 _ _ hat
   have step:∀ b:Bool,inI lo hi t=b→(((bS p).take (i+1)).filter (inI lo hi))=(((bS p).take i).filter (inI lo hi))++(if b=true then [t] else []):=fun b hb=>by
     rw [jd ht,List.filter_append]
     cases b with
     | true=>rw [List.filter_cons_of_pos hb];rfl
     | false=>rw [List.filter_cons_of_neg (by rw [hb];decide)];rfl
   have out:inI lo hi t=false→∃ m',m'<(ps.map V.ref).length - i∧CWd (ps.map V.ref).length (fun i ys H2=>∃ rs:List Addr,ys=rs.map V.ref∧H2 D=some (.lst ys)∧ar H1 H2∧rs.length≤i∧PR H2 rs (((bS p).take i).filter (inI lo hi))) (i+1) m' (rs.map V.ref) H2:=fun hb=>by
     refine CWd.next hi2 ⟨rs,rfl,hd,s2,by omega,?_⟩
     rw [step false hb]
     show PR H2 rs (_++[])
     rw [List.append_nil];exact pr2
   show aF K ((ps.map V.ref).getD i .non) (.int 0) H2 _
   rw [e0]
   refine ixT (j:=0) ha2 rfl rfl ?_
   refine Sel.dec (fun h1=>?_) (fun h1=>qR (out (by unfold inI;rw [decide_eq_false h1];rfl)))
   show (if decide (t.1≤hi)=true then _ else _)
   by_cases h2:t.1≤hi
   · rw [if_pos (decide_eq_true h2)]
     refine ⟨hd,by rw [List.length_map];exact Nat.lt_of_le_of_lt (m:=1000) (by omega) (by decide),CWd.next hi2 ⟨rs++[a],by rw [List.map_append];rfl,ao,s2.put hD,by rw [List.length_append];show _+1≤_;omega,?_⟩⟩
     rw [step true (by unfold inI;rw [decide_eq_true h1,decide_eq_true h2];rfl)]
     have kp:∀ (c:Addr) (xs:List V),H2 c=some (.tup xs)→(upd H2 D (.lst (rs.map V.ref++[V.ref a]))) c=some (.tup xs):=fun c xs e=>by
      have hc:c≠D:=fun z=>by rw [z,hd] at e;cases e
      rw [aI hc];exact e
     exact oZ (gU kp pr2) (kp _ _ ha2)
   · rw [if_neg (by rw [decide_eq_false h2];decide)]
     exact out (by unfold inI;rw [decide_eq_false h2,Bool.and_false])
 · rintro ys H2 ⟨rs,rfl,hd,s2,hrl,pr2⟩
   rw [List.length_map,pl,List.take_length] at pr2
   exact q D rs H2 (s1.trans s2) (gB s1 hD) hd pr2
theorem Br (K:W.Frag) (A:Adr) (n:Nat):Ln (ia K A n) 2:=by rintro vs H Q E ⟨_,_,_,_,_,_,rfl,_⟩;rfl
theorem wH (K:W.Frag) (A:Adr):∀ vs H Q E,¬ ia K A 0 vs H Q E:=by
 rintro vs H Q E ⟨_,_,_,_,_,_,_,_,h,_⟩
 omega
theorem Es (T : Txt K mg A) (n : Nat) : Rd (ia K A (n + 1)) (FV K A n) ["_law_stamper", "_law_part_here", "_law_left", "_law_right", "_law_own"] := by
  intro vs H Q E h
  obtain ⟨f, b, v, p, g, m, rfl, w, ht, sp, hm, q⟩ := h
  obtain ⟨⟨c1, c2, c3, c4⟩, ⟨f1, f2, f3, f4⟩, _⟩ := fF
  have hf := w.f
  have one : ∀ (a : Addr) (t : List Key), dm p = 1 → H a = some (.tup (t.map kV)) → okT t = true → (∀ h, bF h p = [t] ∧ bM h p = h t) → szT t + 62 ≤ szP p → szT t ≤ 1000 → (aN (aE (aa (iw (gn K A) (fun _ => E0) (af 0) (aa (af 1) (aj))) (aa (bq (aa (af 1) (aj))) (aj))))) { nx := fun _ H' => Q .non H', rt := Q } [some (.ref f), some (.ref a), none, none, none] H := fun a t h0 ha ok ht hs hs2 => by
    refine ⟨f, rfl, sp.clo, ?_⟩
    refine oS (v := .ref a) rfl ?_
    refine jp sp (by omega) ha ok fun x H2 g2 kt sp2 sub gv so => ?_
    refine ⟨by show 1 ≤ sizeLine; decide, fun L hL => ⟨by show 2 ≤ sizeLine; decide, fun t2 hT => ?_⟩⟩
    have S := ar.upd (o := .lst [V.ref a]) hL
    have S2 := ar.upd (o := .tup [kV x, V.ref L]) hT
    obtain ⟨o1, o2⟩ := jr so (by omega)
    refine q t2 L x [a] [t] g2 _ (kt.trans (bz.same (S.trans S2))) (sp2.same (by omega) (S.trans S2)) sub ao (S2 _ _ ao) (.cons ⟨S2 _ _ (S _ _ (sp.tup kt _ _ ha)), ok⟩ .nil) (fun h he => ⟨(ht h).1.symm, ?_⟩) o1 (by omega)
    rw [(ht h).2]; exact (he _ _ gv).symm
  cases p with
  | cut c =>
    obtain ⟨a, rfl, ha⟩ := fE w.w
    obtain ⟨_, _, _, _, _, _, _, _, _, hst⟩ := w.ok
    have o1 := hst.1
    have o2 : szK c ≤ szP (.cut c) := Nat.le_refl _
    refine ixT (j := 0) ha rfl rfl (Sel.yes c1 (ixT (j := 1) ha rfl rfl ⟨by show 0 ≤ sizeLine; decide, fun L hL => ⟨by show 2 ≤ sizeLine; decide, fun t hT => ?_⟩⟩))
    have S := ar.upd (o := .lst []) hL
    have S2 := ar.upd (o := .tup [kV c, V.ref L]) hT
    exact q t L c [] [] g _ (bz.same (S.trans S2)) (sp.same (by omega) (S.trans S2)) Sub.rfl' ao (S2 _ _ ao) .nil (fun h _ => ⟨rfl, rfl⟩) o1 o2
  | bare =>
    obtain ⟨a, rfl, ha⟩ := fh w.w
    refine ixT (j := 0) ha rfl rfl (Sel.no c2 (ixT (j := 0) ha rfl rfl (Sel.yes (by rw [f2]; rfl) ?_)))
    exact one a [.inr "bare"] rfl ha eB.1 (fun _ => ⟨rfl, rfl⟩) (by rw [eB.2]; exact Nat.le_refl _) (by rw [eB.2]; decide)
  | leaf k z =>
    obtain ⟨a, rfl, ha⟩ := eX w.w
    refine ixT (j := 0) ha rfl rfl (Sel.no c3 (ixT (j := 0) ha rfl rfl (Sel.yes (by rw [f3]; rfl) ?_)))
    obtain ⟨b', lo, hi, d, g', en, d0, d1, _, k0, k1, hz, has, _⟩ := w.ok
    have := p10 en.b60
    obtain ⟨o1, o2⟩ := jI (k := k) (z := z) k0 (by omega) hz has
    exact one a [.inr "leaf", .inl k, .inr z] rfl ha o1 (fun _ => ⟨rfl, rfl⟩) (by show _ ≤ 312; omega) (by omega)
  | fork d x l r =>
    obtain ⟨a, vl, vr, rfl, ha, wl, wr⟩ := fU w.w
    have ht' : max (bj l) (bj r) + 1 < n + 1 := ht
    have hm' : m + (dm l + dm r + 1) ≤ 42000 := hm
    obtain ⟨d0, d1, x0, x1⟩ := w.nums
    refine ixT (j := 0) ha rfl rfl (Sel.no c4 (ixT (j := 0) ha rfl rfl (Sel.no (by rw [f4]; rfl) ?_)))
    refine ixT (j := 3) ha rfl rfl ⟨f, b, vl, l, g, m, rfl, w.left wl, by omega, sp, by omega, fun t1 L1 y1 ps1 ts1 g1 H1 kt1 sp1 sub1 ht1 hL1 pk1 e1 oy1 sy1 => ?_⟩
    have ha1 := sp.tup kt1 _ _ ha
    refine ixT (j := 4) ha1 rfl rfl ⟨f, b, vr, r, g1, m + dm l, rfl, (w.right wr).keep (sp.tup kt1), by omega, sp1, by omega, fun t2 L2 y2 ps2 ts2 g2 H2 kt2 sp2 sub2 ht2 hL2 pk2 e2 oy2 sy2 => ?_⟩
    have ha2 := sp1.tup kt2 _ _ ha1
    have ht1b := sp1.tup kt2 _ _ ht1
    have hL1b := sp1.lst kt2 _ _ hL1
    refine ixT (j := 1) ha2 rfl rfl (ixT (j := 2) ha2 rfl rfl (ixT (j := 0) ht1b rfl rfl (ixT (j := 0) ht2 rfl rfl ⟨by show 5 ≤ sizeLine; decide, fun t hT => ?_⟩)))
    have S3 := ar.upd (o := .tup [V.str "fork", .int d, .int x, kV y1, kV y2]) hT
    obtain ⟨ok, sz⟩ := lF (d := d) (x := x) d0 d1 x0 x1 oy1 oy2
    have szp : 252 + szP l + szP r ≤ 90000 := w.z
    have hf' : aK l + aK r + 1 ≤ 60 := hf
    have sp3 := sp2.same (Nat.le_refl _) S3
    refine ⟨f, rfl, (sp2.same (Nat.le_refl _) S3).clo, ?_⟩
    refine oS (v := .ref t) rfl ?_
    refine jp (sp2.same (Nat.le_refl _) S3) (by omega) (k := [.inr "fork", .inl d, .inl x, y1, y2]) ao ok fun y H4 g4 kt4 sp4 sub4 gv so => ?_
    obtain ⟨o1, o2⟩ := jr so (by omega)
    have kt34 := (bz.same S3).trans kt4
    have ht1d := sp2.tup kt34 _ _ ht1b
    have ht2d := sp2.tup kt34 _ _ ht2
    have hL1d := sp2.lst kt34 _ _ hL1b
    have hL2d := sp2.lst kt34 _ _ hL2
    have htd := sp3.tup kt4 _ _ (ao (H := H2) (a := t) (o := .tup [V.str "fork", .int d, .int x, kV y1, kV y2]))
    have p1 : ps1.length = dm l := by rw [gY pk1, (e1 _ (cH g1)).1, eF]
    have p2 : ps2.length = dm r := by rw [gY pk2, (e2 _ (cH g2)).1, eF]
    have q1 := fT l
    have q2 := fT r
    refine ixT (j := 1) ht1d rfl rfl (ixT (j := 1) ht2d rfl rfl (.inl ⟨L1, L2, _, _, rfl, rfl, hL1d, hL2d, be (by simp; omega), fun C hC => ⟨by show 1 ≤ sizeLine; decide, fun D hD => ?_⟩⟩))
    have S5 := ar.upd (o := .lst (ps1.map V.ref ++ ps2.map V.ref)) hC
    have S6 := ar.upd (o := .lst [V.ref t]) hD
    refine .inl ⟨C, D, _, _, rfl, rfl, S6 _ _ ao, ao, be (by simp; omega), fun L hL => ⟨by show 2 ≤ sizeLine; decide, fun t5 h5 => ?_⟩⟩
    have S7 := ar.upd (o := .lst (ps1.map V.ref ++ ps2.map V.ref ++ [V.ref t])) hL
    have S8 := ar.upd (o := .tup [kV y, V.ref L]) h5
    have SS := ((S5.trans S6).trans S7).trans S8
    have ml : ps1.map V.ref ++ ps2.map V.ref ++ [V.ref t] = (ps1 ++ ps2 ++ [t]).map V.ref := by simp
    have kk := sp2.tup (kt34.trans (bz.same SS))
    have hLx := S8 _ _ (ao (o := .lst (ps1.map V.ref ++ ps2.map V.ref ++ [V.ref t])))
    rw [ml] at hLx
    refine q t5 L y (ps1 ++ ps2 ++ [t]) (ts1 ++ ts2 ++ [[.inr "fork", .inl d, .inl x, y1, y2]]) g4 _ (((kt1.trans kt2).trans kt34).trans (bz.same SS)) (sp4.same (by show _ ≤ m + (dm l + dm r + 1); omega) SS) ((sub1.trans sub2).trans sub4) (by rw [ao]) (by rw [← ml] at hLx ⊢; exact hLx) (oV (ss (dn kk (dn (sp1.tup kt2) pk1)) (dn kk pk2)) ⟨SS _ _ htd, ok⟩) (fun h he => ?_) o1 (by show _ ≤ 252 + szP l + szP r; omega)
    have h2 := he.of sub4
    have h1 := h2.of sub2
    have ge := he _ _ gv
    refine ⟨?_, ?_⟩
    · rw [(e1 h h1).1, (e2 h h2).1, (e1 h h1).2, (e2 h h2).2]; rfl
    · rw [← ge, (e1 h h1).2, (e2 h h2).2]; rfl
def qf (P:Hp→V→Prop):Prop:=∀ H H' v,ar H H'→P H v→P H' v
def ii (te:TE) (σ:L2.St) (H:Hp) (P:Hp→V→Prop):Prop:=∀ R:VK,(∀ v H',ar H H'→P H' v→R v H')→te σ H R
def cB (t:TA) (σ:L2.St) (H:Hp) (P:Hp→V→Prop) (n:Nat):Prop:=∀ R:List V→Hp→Prop,(∀ xs H',ar H H'→xs.length=n→(∀ x∈xs,P H' x)→R xs H')→t σ H R
theorem cf {σ:L2.St} {H:Hp} {P:Hp→V→Prop}:cB aj σ H P 0:=fun R h=>h [] H (.refl H) rfl (fun x hx=>nomatch hx)
theorem aA {te:TE} {tr:TA} {σ:L2.St} {H:Hp} {P:Hp→V→Prop} {n:Nat} (mo:qf P) (h1:ii te σ H P) (h2:∀ H',ar H H'→cB tr σ H' P n):cB (aa te tr) σ H P (n+1):=fun R h=>
 h1 _ fun v H1 s1 p1=>h2 H1 s1 _ fun xs H2 s2 hl p2=>h (v::xs) H2 (s1.trans s2) (by rw [List.length_cons,hl]) fun x hx=>by
  rcases List.mem_cons.mp hx with rfl | hx
  · exact mo _ _ _ s2 p1
  · exact p2 x hx
theorem Ex {ta:TA} {σ:L2.St} {H:Hp} {P:Hp→V→Prop} (vs:List V) (hl:vs.length≤1000) (ht:∀ R,R vs H→ta σ H R) (hp:∀ p H',ar H H'→H' p=some (.tup vs)→P H' (.ref p)):ii (aE ta) σ H P:=fun R h=>
 ht _ ⟨be (by omega),fun p hn=>h _ _ (ar.upd hn) (hp p _ (ar.upd hn) ao)⟩
theorem CP {ta:TA} {σ:L2.St} {H:Hp} {P:Hp→V→Prop} (vs:List V) (hl:vs.length≤1000) (ht:∀ R,R vs H→ta σ H R) (hp:∀ p H',ar H H'→H' p=some (.lst vs)→P H' (.ref p)):ii (bq ta) σ H P:=fun R h=>
 ht _ ⟨be (by omega),fun p hn=>h _ _ (ar.upd hn) (hp p _ (ar.upd hn) ao)⟩
theorem iI {te:TE} {σ:L2.St} {H:Hp} {P:Hp→V→Prop} (v:V) (ht:∀ R,R v H→te σ H R) (hp:P H v):ii te σ H P:=fun R h=>ht _ (h v H (.refl H) hp)
theorem jm {t:TA} {σ:L2.St} {H:Hp} {P:Hp→V→Prop} {n:Nat} {R:VK} (mo:qf P) (g:cB t σ H P n) (hn:n≤1000) (h:∀ p xs H',ar H H'→H' p=some (.lst xs)→xs.length=n→(∀ x∈xs,P H' x)→R (.ref p) H'):bq t σ H R:=
 g _ fun xs H1 s1 hl p1=>⟨be (by omega),fun p hn=>h p xs _ (s1.trans (ar.upd hn)) ao hl fun x hx=>mo _ _ _ (ar.upd hn) (p1 x hx)⟩
theorem bQ {K:W.Frag} {t:TA} {σ:L2.St} {H:Hp} {P:Hp→V→Prop} {n m:Nat} {i:Nat} {a:Addr} {ys:List V} {R:VK} (mo:qf P) (hi:σ[i]?=some (some (.ref a))) (ha:H a=some (.lst ys)) (hm:ys.length=m) (py:∀ y∈ys,P H y) (g:cB t σ H P n) (hn:m+n≤1000)
   (h:∀ p xs H',ar H H'→H' p=some (.lst xs)→xs.length=m+n→(∀ x∈xs,P H' x)→R (.ref p) H'):tOp (aH K) (af i) (bq t) σ H R:=by
 unfold tOp af
 rw [hi]
 refine jm mo g (by omega) fun p xs H1 s1 hp hl p1=> .inl ⟨a,p,ys,xs,rfl,rfl,s1 _ _ ha,hp,be (by omega),fun r hr=>?_⟩
 refine h r _ _ (s1.trans (ar.upd hr)) ao (by rw [List.length_append];omega) fun x hx=>mo _ _ _ (ar.upd hr) ?_
 rcases List.mem_append.mp hx with z | z
 · exact mo _ _ _ s1 (py x z)
 · exact p1 x z
theorem wM {σ:L2.St} {H:Hp} {P:Hp→V→Prop} (hp:∀ p H',ar H H'→H' p=some (.dK [])→P H' (.ref p)):ii km σ H P:=fun R h=> .inl fun p hn=>h _ _ (ar.upd hn) (hp p _ (ar.upd hn) ao)
theorem pM (w:List Int):w.map V.int=(w.map Sum.inl:List Key).map kV:=by rw [List.map_map];rfl
theorem gD (xs:List V) (j:Nat) (hj:j≤xs.length):cL xs none (some (j:Int))=xs.take j:=by
 unfold cL
 rw [HT.pF,HT.nI,List.drop_zero,Nat.sub_zero,Nat.min_eq_left hj]
theorem iu (xs:List V) (j:Nat) (hj:j≤xs.length):cL xs (some (j:Int)) none=xs.drop j:=by
 unfold cL
 rw [HT.pF,HT.nI,Nat.min_eq_left hj,List.take_of_length_le (by rw [List.length_drop];omega)]
theorem vW {b lo hi d k:Int} (l:lo≤k) (u:k≤hi):ci b lo hi d (bd b k d)=true:=by
 unfold ci bd
 have W:=cR (b - d).toNat
 have h1:k/2^(b - d).toNat*2^(b - d).toNat≤k:=Int.ediv_mul_le k (by omega)
 have h2:k<(k/2^(b - d).toNat+1)*2^(b - d).toNat:=Int.lt_ediv_add_one_mul_self k W
 rw [decide_eq_true (by omega),decide_eq_true (by omega)];rfl
theorem oY {b lo hi d k:Int} {p:aP} (h:bO b lo hi d (bd b k d) p) (l:lo≤k) (u:k≤hi):ei p=false:=by
 cases p with
 | cut m=>have:=h.1;rw [vW l u] at this;cases this
 | _=>rfl
theorem ix {b k e:Int} (he:e<b):bd b k (e+1)=2*bd b k e+k/2^(b - e - 1).toNat%2:=by
 unfold bd
 have W:=cR (b - e - 1).toNat
 have e1:b - (e+1)=b - e - 1:=by omega
 have e2:(b - e).toNat=(b - e - 1).toNat+1:=by omega
 rw [e1,e2,Int.pow_succ,←xB W]
 omega
abbrev PS (H:Hp):List Addr→List (Int×Key)→Prop:=Paired (fun (q:Addr) (m:Int×Key)=>H q=some (.tup [.int m.1,kV m.2]))
theorem xv {H:Hp} {qs:List Addr} {ms:List (Int×Key)} {q:Addr} {m:Int×Key} (h:PS H qs ms) (e:H q=some (.tup [.int m.1,kV m.2])):PS H (qs++[q]) (ms++[m]):=by
 induction h with
 | nil=>exact .cons e .nil
 | cons r t ih=>exact .cons r ih
theorem oU {H H':Hp} {qs:List Addr} {ms:List (Int×Key)} (k:∀ b xs,H b=some (.tup xs)→H' b=some (.tup xs)) (h:PS H qs ms):PS H' qs ms:=L2.Paired.imp' (fun p x e=>k _ _ e) h
theorem BO {H:Hp} {qs:List Addr} {ms:List (Int×Key)} (h:PS H qs ms):qs.length=ms.length:=Paired.length h
theorem AC {H:Hp} {qs:List Addr} {ms:List (Int×Key)} (h:PS H qs ms):DatWs H (qs.map V.ref) (ms.map stD):=by
 induction h with
 | nil=>exact .nil
 | cons r t ih=>exact .cons (.tup r (.cons (.int _) (.cons (nD H _) .nil))) ih
structure dw (b lo hi k:Int) (p:aP) (pre:List (Int×aP)) (cur:aP) (d:Int):Prop where
 way:cV b k p=(pre++(cV b k cur).1,(cV b k cur).2)
 ok:bO b lo hi d (bd b k d) cur
 d0:0≤d
 d1:d≤b
 f:aK cur+pre.length≤aK p
 t:bj cur≤bj p
theorem dw.zero {b lo hi k:Int} {p:aP} (b1:0≤b) (k0:0≤k) (k1:k<2^b.toNat) (ok:bO b lo hi 0 0 p):dw b lo hi k p [] p 0:=by
 have e:bd b k 0=0:=by unfold bd;rw [Int.sub_zero];exact Int.ediv_eq_zero_of_lt k0 k1
 exact ⟨rfl,by rw [e];exact ok,by decide,b1,by simp,Nat.le_refl _⟩
theorem dw.left {b lo hi k d e x:Int} {p l r:aP} {pre:List (Int×aP)} (w:dw b lo hi k p pre (.fork e x l r) d) (hx:bd b k e=x) (ht:k/2^(b - e - 1).toNat%2=0):dw b lo hi k p (pre++[(e,r)]) l (e+1):=by
 obtain ⟨_,hd,he,_,_,_,okl,_⟩:=w.ok
 have d0:=w.d0
 have s0:bd b k (e+1)=2*x:=by rw [ix he,hx,ht,Int.add_zero]
 have ew:cV b k (.fork e x l r)=((e,r)::(cV b k l).1,(cV b k l).2):=by conv=>lhs;unfold cV;rw [if_pos hx,if_pos ht]
 have ff:aK l+aK r+1+pre.length≤aK p:=w.f
 have tt:max (bj l) (bj r)+1≤bj p:=w.t
 refine ⟨by rw [w.way,ew,List.append_assoc];rfl,by rw [s0];exact okl,by omega,by omega,?_,by omega⟩
 rw [List.length_append]
 show aK l+(pre.length+1)≤aK p
 omega
theorem dw.right {b lo hi k d e x:Int} {p l r:aP} {pre:List (Int×aP)} (w:dw b lo hi k p pre (.fork e x l r) d) (hx:bd b k e=x) (ht:¬ k/2^(b - e - 1).toNat%2=0):dw b lo hi k p (pre++[(e,l)]) r (e+1):=by
 obtain ⟨_,hd,he,_,_,_,_,okr⟩:=w.ok
 have d0:=w.d0
 have h1:k/2^(b - e - 1).toNat%2=1:=by omega
 have s0:bd b k (e+1)=2*x+1:=by rw [ix he,hx,h1]
 have ew:cV b k (.fork e x l r)=((e,l)::(cV b k r).1,(cV b k r).2):=by conv=>lhs;unfold cV;rw [if_pos hx,if_neg ht]
 have ff:aK l+aK r+1+pre.length≤aK p:=w.f
 have tt:max (bj l) (bj r)+1≤bj p:=w.t
 refine ⟨by rw [w.way,ew,List.append_assoc];rfl,by rw [s0];exact okr,by omega,by omega,?_,by omega⟩
 rw [List.length_append]
 show aK r+(pre.length+1)≤aK p
 omega
theorem dw.stop {b lo hi k d:Int} {p cur:aP} {pre:List (Int×aP)} (w:dw b lo hi k p pre cur d) (hs:∀ e x l r,cur=.fork e x l r→¬ bd b k e=x):cV b k p=(pre,cur):=by
 have:cV b k cur=([],cur):=by
  cases cur with
  | fork e x l r=>conv=>lhs;unfold cV;rw [if_neg (hs e x l r rfl)]
  | _=>rfl
 rw [w.way,this,List.append_nil]
theorem oq (H:Hp):∀ e:List Key,DatWs H (e.map kV) (e.map bW)
 | []=> .nil
 | x::r=> .cons (nD H x) (oq H r)
def rH (h:List Key→Key):Prop:=∀ k,okT k=true→qT k (h k)
theorem gR {h : List Key → Key} (hh : rH h) {b lo hi : Int} (b60 : b ≤ 60) : ∀ {p : aP} {d g : Int}, bO b lo hi d g p → 0 ≤ d → szP p ≤ 100000 → (ei p = false → okT (dG h p) = true ∧ szT (dG h p) + 62 ≤ szP p) ∧ okP (bM h p) = true ∧ szK (bM h p) ≤ szP p := by
  intro p
  have own : ∀ {q : aP}, ei q = false → szP q ≤ 100000 → okT (dG h q) = true → szT (dG h q) + 62 ≤ szP q → (ei q = false → okT (dG h q) = true ∧ szT (dG h q) + 62 ≤ szP q) ∧ okP (bM h q) = true ∧ szK (bM h q) ≤ szP q := fun {q} hc hz ok hs => by
    have s := jr (hh _ ok) (by omega)
    refine ⟨fun _ => ⟨ok, hs⟩, ?_⟩
    rw [jF h hc]
    exact ⟨s.1, by have := s.2; omega⟩
  induction p with
  | cut m =>
    intro d g ok _ _
    exact ⟨fun z => (by cases z), ok.2.1, Nat.le_refl _⟩
  | bare =>
    intro d g ok _ hz
    exact own rfl hz eB.1 (by show szT [.inr "bare"] + 62 ≤ 128; rw [eB.2]; decide)
  | leaf k z =>
    intro d g ok _ hz
    have q := jI (k := k) (z := z) ok.2.1 (by have := ok.2.2.1; have := p10 b60; omega) ok.2.2.2.1 ok.2.2.2.2.1
    exact own rfl hz q.1 (by show _ ≤ 312; have := q.2; show szT [.inr "leaf", .inl k, .inr z] + 62 ≤ 312; omega)
  | fork e x l r hl hr =>
    intro d g ok d0 hz
    obtain ⟨_, hd, he, x0, x1, _, okl, okr⟩ := ok
    have hz : 252 + szP l + szP r ≤ 100000 := hz
    obtain ⟨_, l1, l2⟩ := hl okl (by omega) (by omega)
    obtain ⟨_, r1, r2⟩ := hr okr (by omega) (by omega)
    have e60 := p10 (b := e) (by omega)
    have p60 : (60 : Int) < 10 ^ 60 := by decide +kernel
    refine own rfl hz (yW kN.1 (nl (by omega) (by omega)) (nl x0 (by omega)) l1 r1 rfl) ?_
    show ([szK (.inr "fork"), 62, 62, szK (bM h l), szK (bM h r)] : List Nat).sum + 62 ≤ 252 + szP l + szP r
    rw [lb.1]; simp; omega
theorem qZ (d:Int) (x:Dat):∀ xs:List Dat,dq d (x::xs)=dq (fW x+1) xs
 | []=>rfl
 | y::r=>by unfold dq;rw [List.getLast?_cons_cons,List.getLast?_cons]
theorem ij:bv "leaf" (.str "leaf")=true∧bv "fork" (.str "fork")=true:=by decide +kernel
theorem uk {h : List Key → Key} (hh : rH h) {b lo hi k : Int} (b60 : b ≤ 60) (l : lo ≤ k) (u : k ≤ hi) : ∀ {p : aP} {d : Int}, bO b lo hi d (bd b k d) p → 0 ≤ d → szP p ≤ 100000 →
    bL b d ((cx h b k p).map stD) = true ∧ (∀ s ∈ cx h b k p, okP s.2 = true) ∧ okT (eO h b k p) = true ∧ szT (eO h b k p) + szS (cx h b k p) + 62 ≤ szP p ∧ eR b k (dq d ((cx h b k p).map stD)) (.tup ((eO h b k p).map bW)) = true := by
  intro p
  induction p with
  | cut m => intro d ok; have := oY ok l u; cases this
  | bare =>
    intro d ok d0 hz
    have o := (gR hh b60 ok d0 hz).1 rfl
    refine ⟨rfl, fun _ z => (by cases z), o.1, by have := o.2; show szT (dG h .bare) + 0 + 62 ≤ _; omega, ?_⟩
    show (if dF (.tup [.str "bare"]) then decide (d = 0) else _) = true
    rw [if_pos (by decide +kernel), decide_eq_true ok.2]
  | leaf j z =>
    intro d ok d0 hz
    have o := (gR hh b60 ok d0 hz).1 rfl
    refine ⟨rfl, fun _ z => (by cases z), o.1, by have := o.2; show szT (dG h (.leaf j z)) + 0 + 62 ≤ _; omega, ?_⟩
    show ((bv "leaf" (.str "leaf") && decide (0 ≤ j ∧ j < 2 ^ b.toNat) && decide (z.length ≤ 60) && decide (bd b j d = bd b k d)) || _) = true
    rw [ij.1, decide_eq_true ⟨ok.2.1, ok.2.2.1⟩, decide_eq_true ok.2.2.2.1, decide_eq_true ok.2.2.2.2.2]; rfl
  | fork e x pl pr hl hr =>
    intro d ok d0 hz
    have m := gR hh b60 ok d0 hz
    obtain ⟨_, hd, he, x0, x1, hg, okl, okr⟩ := ok
    have hz : 252 + szP pl + szP pr ≤ 100000 := hz
    have ml := (gR hh b60 okl (by omega) (by omega)).2
    have mr := (gR hh b60 okr (by omega) (by omega)).2
    have sn := ix (b := b) (k := k) (e := e) he
    have one : ∀ (q o : aP), bO b lo hi (e + 1) (bd b k (e + 1)) q → okP (bM h o) = true → szK (bM h o) + szP q ≤ szP pl + szP pr → szP q ≤ 100000 → (bL b (e + 1) ((cx h b k q).map stD) = true ∧ (∀ s ∈ cx h b k q, okP s.2 = true) ∧ okT (eO h b k q) = true ∧ szT (eO h b k q) + szS (cx h b k q) + 62 ≤ szP q ∧ eR b k (dq (e + 1) ((cx h b k q).map stD)) (.tup ((eO h b k q).map bW)) = true) →
        bL b d (((e, bM h o) :: cx h b k q).map stD) = true ∧ (∀ s ∈ ((e, bM h o) :: cx h b k q), okP s.2 = true) ∧ okT (eO h b k q) = true ∧ szT (eO h b k q) + szS ((e, bM h o) :: cx h b k q) + 62 ≤ 252 + szP pl + szP pr ∧ eR b k (dq d (((e, bM h o) :: cx h b k q).map stD)) (.tup ((eO h b k q).map bW)) = true := by
      rintro q o okq oo so hq ⟨i1, i2, i3, i4, i5⟩
      refine ⟨?_, ?_, i3, ?_, ?_⟩
      · show (decide (d ≤ e ∧ e < b) && bH (bW (bM h o)) && bL b (e + 1) ((cx h b k q).map stD)) = true
        rw [decide_eq_true ⟨hd, he⟩, (fZ oo).2, i1]; rfl
      · intro s hs
        rcases List.mem_cons.mp hs with z | z
        · rw [z]; exact oo
        · exact i2 s z
      · show _ + (szK (bM h o) + 252 + szS (cx h b k q)) + 62 ≤ _
        omega
      · rw [List.map_cons, qZ]; exact i5
    unfold eO cx cV
    by_cases hx : bd b k e = x
    · rw [if_pos hx]
      by_cases ht : k / 2 ^ (b - e - 1).toNat % 2 = 0
      · rw [if_pos ht]
        have ok' : bO b lo hi (e + 1) (bd b k (e + 1)) pl := by rw [sn, hx, ht, Int.add_zero]; exact okl
        exact one pl pr ok' mr.1 (by omega) (by omega) (hl ok' (by omega) (by omega))
      · rw [if_neg ht]
        have h1 : k / 2 ^ (b - e - 1).toNat % 2 = 1 := by omega
        have ok' : bO b lo hi (e + 1) (bd b k (e + 1)) pr := by rw [sn, hx, h1]; exact okr
        exact one pr pl ok' ml.1 (by omega) (by omega) (hr ok' (by omega) (by omega))
    · rw [if_neg hx]
      have o := m.1 rfl
      refine ⟨rfl, fun _ z => (by cases z), o.1, by have := o.2; show szT (dG h (.fork e x pl pr)) + 0 + 62 ≤ _; omega, ?_⟩
      show (false || ((bv "fork" (.str "fork") && decide (d ≤ e ∧ e < b) && decide (0 ≤ x ∧ x < 2 ^ e.toNat) && decide (x / 2 ^ (e - d).toNat = bd b k d)) && (!decide (x = bd b k e) && bH (bW (bM h pl)) && bH (bW (bM h pr))))) = true
      rw [ij.2, decide_eq_true ⟨hd, he⟩, decide_eq_true ⟨x0, x1⟩, decide_eq_true hg, decide_eq_false (fun z => hx z.symm), (fZ ml.1).2, (fZ mr.1).2]; rfl
theorem xN {K:W.Frag} {H:Hp} {v:V} {d:Dat} {w:Str} {Q:VK} (h:aR H v d) (ok:okD d=true) (dp:(dA d).depth≤150) (hw:PyData.strOk w=true) (q:Q (.bl (bv w d)) H):bC K v (.str w) H Q:=by
 have ref:∀ a,v=.ref a→(dA d).eqv (.str w)=false→bv w d=false→bC K v (.str w) H Q:=fun a e e1 e2=>by
  subst e
  refine ⟨_,_,h.toV ok,.str w,im ok,hw,dp,?_⟩
  rw [e1];rw [e2] at q;exact q
 cases h with
 | non=>exact q
 | bl b=>exact q
 | int i=>exact q
 | str z=>exact q
 | lst e r=>exact ref _ rfl rfl rfl
 | tup e r=>exact ref _ rfl rfl rfl
 | dic e=>cases ok
theorem yQ (K:W.Frag) (A:Adr):Ln (mG K A) 1:=by rintro vs H Q E ⟨_,_,rfl,_⟩;rfl
theorem CZ (T : Txt K mg A) : Rd (mG K A) (Hc K A) ["thing"] := by
  intro vs H Q E h
  obtain ⟨v, x, rfl, w, ok, q⟩ := h
  refine ⟨by decide, _, w.ty, ?_⟩
  cases w with
  | @tup a xs ds e r =>
    have el := r.len
    refine Sel.yes rfl (.inl (.inr (.inl ⟨_, SqT.of e, ?_⟩)))
    refine Sel.dec (fun he => ?_) (fun ne => ?_)
    · cases r with
      | nil => simp at he
      | @cons x0 _ d0 _ w0 r =>
      cases r with
      | nil => simp at he
      | @cons x1 _ d1 _ w1 r =>
      cases r with
      | cons _ _ => simp at he; omega
      | nil =>
      obtain ⟨o0, p0⟩ := ok.at0
      refine ixT (j := 0) e rfl rfl (xN w0 o0 (by omega) (by decide +kernel) ?_)
      have q : Q (.bl (bv "cut" d0 && bH d1)) H := q
      cases hs : bv "cut" d0 with
      | false => rw [hs] at q; exact Sel.f q
      | true => rw [hs] at q; exact Sel.t (ixT (j := 1) e rfl rfl ⟨x1, d1, rfl, w1, q⟩)
    · have e2 : fB (.tup ds) = false := by
        unfold fB
        split
        · rename_i heq; cases heq; simp at el; omega
        · rfl
      rw [e2] at q; exact q
  | _ => exact Sel.no rfl q
theorem zj (K:W.Frag) (A:Adr):Ln (lZ K A) 6:=by rintro vs H Q E ⟨_,_,_,_,_,_,_,rfl,_⟩;rfl
theorem DQ (T : Txt K mg A) : Rd (lZ K A) (GL K A) ["bits", "low", "high", "depth", "begin", "thing"] := by
  intro vs H Q E h
  obtain ⟨b, lo, hi, d, g, v, x, rfl, e, pl, w, ok, q⟩ := h
  have b1 := e.b1
  have b60 := e.b60
  obtain ⟨d0, d1, g0, g1⟩ := pl
  refine ⟨b, lo, hi, d, g, rfl, d0, d1, b60, g0, g1, fun H2 s2 => ?_⟩
  unfold bZ at q
  cases hm : ci b lo hi d g with
  | false =>
    rw [hm] at q
    exact Sel.t ⟨v, x, rfl, w.mono s2, ok, q _ s2⟩
  | true =>
    rw [hm, if_pos rfl] at q
    refine Sel.f ⟨by show 1 ≤ sizeLine; decide, fun t hT => ?_⟩
    have s3 := s2.trans (ar.upd (o := .tup [.str "bare"]) hT)
    refine pO (w.mono s3) ok ao ?_
    cases hb : dF x with
    | true => rw [hb, if_pos rfl] at q; exact Sel.t (q _ s3)
    | false =>
      rw [hb, if_neg (by decide)] at q
      refine Sel.f ⟨b, d, g, v, x, rfl, by omega, b60, d1, w.mono s3, ok, ?_⟩
      cases hl : cZ b d g x with
      | true => rw [hl] at q; exact Sel.t (q _ s3)
      | false => rw [hl] at q; exact Sel.f ⟨b, d, g, v, x, rfl, d0, b60, d1, w.mono s3, ok, q _ s3⟩
theorem gz {e y:Int} {l r:Dat}:cb (cr e y l r):=.inr (.inr ⟨_,_,_,_,rfl⟩)
theorem tU {b lo hi:Int} {p:aP} {d g:Int} (h:bO b lo hi d g p) (d1:d≤b):cb (bc p):=by
 have ok:=vN h d1
 cases p with
 | fork e y l r=>exact gz
 | cut m=>exact .inl ⟨ok,by show max 0 (max (dA (bW m)).depth 0)+1≤140;rw [pf];decide⟩
 | bare=>exact .inl ⟨ok,by decide⟩
 | leaf k z=>exact .inl ⟨ok,by show max 0 (max 0 (max 0 0))+1≤140;decide⟩
theorem gH {b lo hi:Int} {e y:Int} {l r:aP} {d g:Int} (h:bO b lo hi d g (.fork e y l r)) (l' r':Dat):bZ b lo hi d g (cr e y l' r')=true:=by
 obtain ⟨hm,h1,h2,x0,x1,hx,_⟩:=h
 unfold bZ
 rw [hm,if_pos rfl]
 show (false||(bv "fork" (.str "fork")&&decide (d≤e∧e<b)&&decide (0≤y∧y<2^e.toNat)&&decide (y/2^(e - d).toNat=g)))=true
 rw [ij.2,decide_eq_true ⟨h1,h2⟩,decide_eq_true ⟨x0,x1⟩,decide_eq_true hx];rfl
theorem xO {b lo hi : Int} {p : aP} {d g : Int} (h : bO b lo hi d g p) : bZ b lo hi d g (bc p) = true := by
  cases p with
  | fork e y l r => exact gH h _ _
  | cut m =>
    unfold bZ
    rw [h.1]
    show (bv "cut" (.str "cut") && bH (bW m)) = true
    rw [(fZ h.2.1).2, show bv "cut" (.str "cut") = true from by decide +kernel]; rfl
  | bare =>
    unfold bZ
    rw [h.1, if_pos rfl, if_pos (by decide +kernel), decide_eq_true h.2]
  | leaf k z =>
    obtain ⟨hm, k0, k1, hz, _, hs⟩ := h
    unfold bZ
    rw [hm, if_pos rfl]
    show ((bv "leaf" (.str "leaf") && decide (0 ≤ k ∧ k < 2 ^ b.toNat) && decide (z.length ≤ 60) && decide (bd b k d = g)) || _) = true
    rw [ij.1, decide_eq_true ⟨k0, k1⟩, decide_eq_true hs, decide_eq_true hz]; rfl
theorem jT {H : Hp} {v : V} {e y : Int} {l r : Dat} (h : aR H v (cr e y l r)) : ∃ a vl vr, v = .ref a ∧ H a = some (.tup [.str "fork", .int e, .int y, vl, vr]) ∧ aR H vl l ∧ aR H vr r := by
  cases h with
  | tup e ws =>
    cases ws with
    | cons w0 ws =>
    cases ws with
    | cons w1 ws =>
    cases ws with
    | cons w2 ws =>
    cases ws with
    | cons w3 ws =>
    cases ws with
    | cons w4 ws =>
    cases ws
    cases w0
    cases w1
    cases w2
    exact ⟨_, _, _, rfl, e, w3, w4⟩
theorem Plc.left {b d e y:Int} (d0:0≤d) (h:d≤e∧e<b∧0≤y∧y<2^e.toNat):Plc b (e+1) (2*y)∧Plc b (e+1) (2*y+1):=by
 obtain ⟨h1,h2,h3,h4⟩:=h
 obtain ⟨f1,f2,f3⟩:=lO (e:=e) (by omega) h3 h4
 exact ⟨⟨by omega,by omega,f1,f2⟩,by omega,by omega,by omega,f3⟩
theorem lf.same {H H':Hp} {z:Int×Int} {E:XK} (q:lf A H z E) (S:ar H H'):lf A H' z E:=fun dx H2 S2 h=>q dx H2 (S.trans S2) h
theorem AJ (K:W.Frag) (A:Adr) (n:Nat):Ln (fq K A n) 6:=by rintro vs H Q E ⟨_,_,_,_,_,_,_,_,rfl,_⟩;rfl
theorem wb (K:W.Frag) (A:Adr):∀ vs H Q E,¬ fq K A 0 vs H Q E:=by
 rintro vs H Q E ⟨_,_,_,_,_,_,_,_,_,_,_,_,h,_⟩;cases h
theorem De (T : Txt K mg A) (n : Nat) (vs : List V) (H : Hp) (Q : VK) (E : XK) (h : fq K A (n + 1) vs H Q E) : AN K A E n { nx := fun _ H' => Q .non H', rt := Q } (L2.cq ["bits", "low", "high", "depth", "begin", "part"] vs) H := by
  obtain ⟨b, lo, hi, d, g, v, x, o, rfl, e, pl, w, ck, q1, q2⟩ := h
  have bR : ∀ (e2 y : Int) (l r : Dat) (H2 : Hp), aR H2 v (cr e2 y l r) → (d ≤ e2 ∧ e2 < b ∧ 0 ≤ y ∧ y < 2 ^ e2.toNat) → ar H H2 → (∃ z, o = some z ∧ Ck b lo hi n (e2 + 1) (2 * y) l (some z)) ∨ (Ck b lo hi n (e2 + 1) (2 * y) l none ∧ Ck b lo hi n (e2 + 1) (2 * y + 1) r o) → sf K A E n { nx := fun _ H' => Q .non H', rt := Q } [some (.int b), some (.int lo), some (.int hi), some (.int d), some (.int g), some v] H2 := by
    intro e2 y l r H2 w2 he s2 hk
    obtain ⟨a, vl, vr, rfl, ha, wl, wr⟩ := jT w2
    obtain ⟨pL, pR⟩ := Plc.left pl.d0 he
    refine ixT (j := 0) ha rfl rfl (Sel.yes (decide_eq_true rfl) ?_)
    refine ixT (j := 1) ha rfl rfl (ixT (j := 2) ha rfl rfl ⟨gL (by decide) (by decide), ixT (j := 3) ha rfl rfl ?_⟩)
    rcases hk with ⟨z, hz, k⟩ | ⟨k, k2⟩
    · exact ⟨b, lo, hi, e2 + 1, 2 * y, vl, l, some z, rfl, e, pL, wl, k, (fun h => nomatch h), fun z' hz' => by cases hz'; exact (q2 z hz).same s2⟩
    · refine ⟨b, lo, hi, e2 + 1, 2 * y, vl, l, none, rfl, e, pL, wl, k, fun _ H3 s3 => ?_, fun z' hz' => nomatch hz'⟩
      have ha3 := s3 _ _ ha
      refine ixT (j := 1) ha3 rfl rfl (ixT (j := 2) ha3 rfl rfl ⟨gL (by decide) (by decide), ixT (j := 4) ha3 rfl rfl ?_⟩)
      exact ⟨b, lo, hi, e2 + 1, 2 * y + 1, vr, r, o, rfl, e, pR, wr.mono s3, k2, fun h H4 s4 => q1 h _ ((s2.trans s3).trans s4), fun z' hz' => (q2 z' hz').same (s2.trans s3)⟩
  cases ck with
  | no h ok =>
    refine ⟨b, lo, hi, d, g, v, x, rfl, e, pl, w, ok, fun H2 s2 => ?_⟩
    rw [h]
    refine Sel.yes rfl fun a ha => ⟨a, .int d, .int g, rfl, ao, fun dx hdx => ⟨rfl, some dx, ?_, ?_⟩⟩
    · obtain ⟨nd, _⟩ := oj hdx
      rw [aI (Ne.symm nd), aI (Ne.symm nd)]; exact ao
    · obtain ⟨nd, hd0⟩ := oj hdx
      refine q2 (d, g) rfl dx _ (fun z o ez => ?_) (by rw [dS nd]; exact ao)
      have ez := s2 _ _ ez
      have na := aS ez ha
      have nz := aS ez hd0
      rw [dS na, aI nz, aI nz, aI na, aI na]; exact ez
  | @one _ _ _ p h nf =>
    refine ⟨b, lo, hi, d, g, v, bc p, rfl, e, pl, w, tU h pl.d1, fun H2 s2 => ?_⟩
    rw [xO h]
    refine Sel.no rfl ?_
    have w2 := w.mono s2
    cases p with
    | cut m =>
      obtain ⟨a, rfl, ha⟩ := fE w2
      exact ixT (j := 0) ha rfl rfl (Sel.no jP.1 (q1 rfl _ s2))
    | bare =>
      obtain ⟨a, rfl, ha⟩ := fh w2
      exact ixT (j := 0) ha rfl rfl (Sel.no jP.2.1 (q1 rfl _ s2))
    | leaf k z =>
      obtain ⟨a, rfl, ha⟩ := eX w2
      exact ixT (j := 0) ha rfl rfl (Sel.no jP.2.2 (q1 rfl _ s2))
    | fork e2 y l r => exact (nf _ _ _ _ rfl).elim
  | left h he k =>
    refine ⟨b, lo, hi, d, g, v, _, rfl, e, pl, w, gz, fun H2 s2 => ?_⟩
    rw [h]
    exact Sel.no rfl (bR _ _ _ _ H2 (w.mono s2) he s2 (.inl ⟨_, rfl, k⟩))
  | right h he k k2 =>
    refine ⟨b, lo, hi, d, g, v, _, rfl, e, pl, w, gz, fun H2 s2 => ?_⟩
    rw [h]
    exact Sel.no rfl (bR _ _ _ _ H2 (w.mono s2) he s2 (.inr ⟨k, k2⟩))
theorem fV {b lo hi : Int} : ∀ {p : aP} {d g : Int} {n : Nat}, bO b lo hi d g p → bj p < n → Ck b lo hi n d g (bc p) none
  | .cut m, d, g, n + 1, h, _ => .one h (by intro _ _ _ _ z; cases z)
  | .bare, d, g, n + 1, h, _ => .one h (by intro _ _ _ _ z; cases z)
  | .leaf k z, d, g, n + 1, h, _ => .one h (by intro _ _ _ _ z; cases z)
  | .fork e y l r, d, g, n + 1, h, ht => by
    have ht : max (bj l) (bj r) + 1 < n + 1 := ht
    exact .right (gH h) ⟨h.2.1, h.2.2.1, h.2.2.2.1, h.2.2.2.2.1⟩ (fV h.2.2.2.2.2.2.1 (by omega)) (fV h.2.2.2.2.2.2.2 (by omega))
theorem iA.imp {H:Hp} {b lo hi:Int} {v:V} {E:XK} {R R':aP→Prop} (t:iA A H b lo hi v E R) (f:∀ p,da H v b lo hi p→R p→R' p):iA A H b lo hi v E R':=by
 cases t with
 | bad x z hd h q=>exact .bad x z hd h q
 | good p w q=>exact .good p w (f p w q)
theorem oh {b:Int} (h:1≤b):Plc b 0 0:=⟨by decide,by omega,by decide,by decide⟩
theorem Bh (K:W.Frag) (A:Adr):Ln (kA K A) 3:=by rintro vs H Q E ⟨_,_,_,rfl,_⟩;rfl
theorem DR (T:Txt K mg A):Rd (kA K A) (FA K A) ["bits", "low", "high"]:=by
 intro vs H Q E h
 obtain ⟨b,lo,hi,rfl,⟨b1,b60,l0,le,h1⟩,q⟩:=h
 have k1:fD b (.int lo)=true:=decide_eq_true ⟨l0,by omega⟩
 have k2:fD b (.int hi)=true:=decide_eq_true ⟨by omega,h1⟩
 refine ⟨b,.int lo,.int lo,rfl,by omega,b60,.int lo,?_⟩
 refine Sel.no (by rw [k1];rfl) ⟨b,.int hi,.int hi,rfl,by omega,b60,.int hi,?_⟩
 refine Sel.no (by rw [k2];rfl) ?_
 exact Sel.no (decide_eq_false (by omega)) q
theorem Be (K:W.Frag) (A:Adr):Ln (mS K A) 4:=by rintro vs H Q E ⟨_,_,_,_,rfl,_⟩;rfl
theorem uU {H:Hp} {b lo hi:Int} {v:V} {Q:VK} {E:XK} (en:cK b lo hi) (t:iA A H b lo hi v E fun _=>∀ H',ar H H'→Q .non H'):fq K A 70 [.int b,.int lo,.int hi,.int 0,.int 0,v] H Q E:=by
 cases t with
 | bad x z hd h q=>exact ⟨b,lo,hi,0,0,v,x,some z,rfl,en,oh en.b1,hd,h,(fun h=>nomatch h),fun z' hz=>by cases hz;exact q⟩
 | good p w q=>exact ⟨b,lo,hi,0,0,v,bc p,none,rfl,en,oh en.b1,w.w.w,fV w.w.ok (by have:=w.t;omega),fun _=>q,fun z' hz=>nomatch hz⟩
theorem CM (T:Txt K mg A) (vs:List V) (H:Hp) (Q:VK) (E:XK) (h:mS K A vs H Q E):Af K A E { nx:=fun _ H'=>Q .non H',rt:=Q } (L2.cq ["bits", "low", "high", "paper"] vs) H:=by
 obtain ⟨b,lo,hi,u,rfl,en,top⟩:=h
 exact ⟨b,lo,hi,rfl,en,uU (K:=K) en top⟩
theorem Bb (K:W.Frag) (A:Adr):Ln (hZ K A) 5:=by rintro vs H Q E ⟨_,_,_,_,_,_,_,_,rfl,_⟩;rfl
theorem CQ (T:Txt K mg A) (vs:List V) (H:Hp) (Q:VK) (E:XK) (h:hZ K A vs H Q E):yH K A E { nx:=fun _ H'=>Q .non H',rt:=Q } (L2.cq ["stamper", "bits", "low", "high", "paper"] vs) H:=by
 obtain ⟨f,b,c,lo,hi,u,g,n,rfl,en,sp,hn,top⟩:=h
 refine ⟨c,lo,hi,u,rfl,en,top.imp fun p pw q H2 s2=>?_⟩
 have hf:=pw.f
 have ht:=pw.t
 refine ⟨f,b,u,p,g,n,rfl,pw.s.keep (fun c xs e=>s2 c _ e),by omega,sp.same (Nat.le_refl _) s2,by omega,fun L ps ts g' H' kt sp' sub hL pk e lo'=>?_⟩
 exact q L ps ts g' H' ((bz.same s2).trans kt) (sp'.same (by omega) (.refl _)) sub hL pk e
theorem BN (K:W.Frag) (A:Adr):Ln (mh K A) 5:=by rintro vs H Q E ⟨_,_,_,_,_,_,_,_,rfl,_⟩;rfl
theorem Fl (T:Txt K mg A) (vs:List V) (H:Hp) (Q:VK) (E:XK) (h:mh K A vs H Q E):Bq K A E { nx:=fun _ H'=>Q .non H',rt:=Q } (L2.cq ["stamper", "bits", "low", "high", "paper"] vs) H:=by
 obtain ⟨f,b,c,lo,hi,u,g,n,rfl,en,sp,hn,top⟩:=h
 exact ⟨f,rfl,sp.clo,f,b,c,lo,hi,u,g,n,rfl,en,sp,hn,top.imp fun p pw q=>q.elim⟩
theorem zX (K:W.Frag) (A:Adr):Ln (kC K A) 6:=by rintro vs H Q E ⟨_,_,_,_,_,_,_,_,_,rfl,_⟩;rfl
theorem DJ (T:Txt K mg A) (vs:List V) (H:Hp) (Q:VK) (E:XK) (h:kC K A vs H Q E):Bn K A E { nx:=fun _ H'=>Q .non H',rt:=Q } (L2.cq ["stamper", "bits", "mark", "low", "high", "paper", "terms", "came"] vs) H:=by
 obtain ⟨f,b,c,lo,hi,m,u,g,n,rfl,en,sp,hn,top⟩:=h
 refine ⟨f,b,c,lo,hi,u,g,n,rfl,en,sp,hn,top.imp fun p pw q L ps ts g1 H1 kt sp1 sub hL pk e=>?_⟩
 refine ⟨f,rfl,sp1.clo,rK sp1 (by omega) pw.nc hL pk e fun y g2 H2 kt2 sp2 sub2 ey=>?_⟩
 refine sx ?_
 have eym:y=m:=by rw [ey _ (cH g2),q.1 _ ((cH g2).of (sub.trans sub2))]
 refine Sel.no (by rw [decide_eq_true eym];rfl) ?_
 have ets:=e _ (cH g1)
 subst ets
 have hm:=fT p
 have hf:=pw.f
 exact ⟨L,lo,hi,ps,gx g1,p,rfl,sp1.lst kt2 _ _ hL,dn (sp1.tup kt2) pk,by rw [eF];omega,fun M rs H3 s3 hM hM3 pr=>q.2 M rs g2 H3 ((kt.trans kt2).trans (bz.same s3)) (sp2.same (by omega) s3) (sub.trans sub2) hM3 pr⟩
theorem AV (K:W.Frag) (A:Adr):Ln (jY K A) 6:=by rintro vs H Q E ⟨_,_,_,_,_,_,_,_,_,rfl,_⟩;rfl
theorem DV (T : Txt K mg A) (vs : List V) (H : Hp) (Q : VK) (E : XK) (h : jY K A vs H Q E) : BS K A E { nx := fun _ H' => Q .non H', rt := Q } (L2.cq ["stamper", "bits", "low", "high", "paper", "key", "steps", "part", "turn", "aside"] vs) H := by
  obtain ⟨f, bb, b, lo, hi, k, v, g, n, rfl, en, l, u, sp, hn, top⟩ := h
  have b1 := en.b1
  have lo0 := en.lo0
  have hi1 := en.hi1
  have k0 : 0 ≤ k := by omega
  have kk : fD b (.int k) = true := decide_eq_true ⟨k0, by omega⟩
  obtain ⟨_, ⟨f1, f2, f3, f4⟩, _⟩ := fF
  refine ⟨b, .int k, .int k, rfl, by omega, en.b60, .int k, Sel.no (by rw [kk]; rfl) ⟨b, lo, hi, rfl, en, ?_⟩⟩
  refine Sel.yes (decide_eq_true l) (Sel.no (by rw [decide_eq_true u]; rfl) ?_)
  obtain ⟨x, z, hd, h, q⟩ | ⟨p, w, q⟩ := top
  · exact ⟨b, lo, hi, 0, 0, v, x, some z, rfl, en, oh en.b1, hd, h, (fun h => nomatch h), fun z' hz => by cases hz; exact q⟩
  have hf := w.f
  have ht := w.t
  refine ⟨b, lo, hi, 0, 0, v, bc p, none, rfl, en, oh en.b1, w.w.w, fV w.w.ok (by omega), fun _ H1 s1 => ?_, fun z' hz => nomatch hz⟩
  refine ⟨by show 0 ≤ sizeLine; decide, fun L hL => ?_⟩
  have S0 := s1.trans (ar.upd (o := .lst []) hL)
  have hLn := gB s1 hL
  have fin : ∀ (cur : aP) (vc : V) (pre : List (Int × aP)) (d : Int) (g1 : List Key → Option Key) (qs : List Addr) (ms : List (Int × Key)) (c : Nat) (x8 x9 : Option V) (H2 : Hp), cV b k p = (pre, cur) → bO b lo hi d (bd b k d) cur → 0 ≤ d → d ≤ b → aK cur ≤ 60 → bj cur ≤ 60 → aR H2 vc (bc cur) → H2 L = some (.lst (qs.map V.ref)) → PS H2 qs ms → (∀ h, Ext g1 h → ms = pre.map fun s => (s.1, bM h s.2)) → bz bb H H2 → Stp A H2 f bb g1 (n + c) → Sub g g1 → c + 2 * aK cur ≤ 2 * aK p →
      mW K A E { nx := fun _ H' => Q .non H', rt := Q } [some (.ref f), some (.int b), some (.int lo), some (.int hi), some v, some (.int k), some (.ref L), some vc, x8, x9] H2 := by
    intro cur vc pre d g1 qs ms c x8 x9 H2 hway hok d0 d1 hfc htc wc hL2 ps hms kt sp2 sub hc
    refine ⟨L, _, rfl, .inl ⟨SqL.of hL2, fun T1 hT1 => ?_⟩⟩
    have S1 := ar.upd (o := .tup (qs.map V.ref)) hT1
    have nc := oY hok l u
    refine ⟨f, bb, vc, cur, g1, n + c, rfl, ⟨wc.mono S1, ⟨b, lo, hi, d, _, en, d0, d1, hok⟩, hfc, by have := fz hok; omega⟩, by omega, sp2.same (Nat.le_refl _) S1, by omega, fun L1 ps1 ts g2 H3 kt3 sp3 sub3 hL3 pk3 e3 lo3 => ?_⟩
    obtain ⟨pr, e⟩ := dW (gx g2) nc
    have ets := e3 _ (cH g2)
    rw [e] at ets
    subst ets
    obtain ⟨qs3, pc, rfl, hpc, okc⟩ := kR pk3
    refine lc hL3 ⟨by show 2 ≤ sizeLine; decide, fun t5 h5 => ?_⟩
    have S5 := ar.upd (o := .tup [V.ref T1, V.ref pc]) h5
    have kT : ∀ c xs, H2 c = some (.tup xs) → (upd H3 t5 (.tup [V.ref T1, V.ref pc])) c = some (.tup xs) := fun c xs e => S5 _ _ (sp2.tup ((bz.same S1).trans kt3) _ _ e)
    have hT5 := S5 _ _ ((sp2.same (m := n + c) (Nat.le_refl _) S1).tup kt3 _ _ (ao (H := H2) (a := T1) (o := .tup (qs.map V.ref))))
    refine q (.ref t5) ms (dG (gx g2) cur) g2 _ ((kt.trans (bz.same S1)).trans (kt3.trans (bz.same S5))) (sp3.same (by omega) S5) (sub.trans sub3) (.tup ao (.cons (.tup hT5 (AC (oU kT ps))) (.cons (.tup (S5 _ _ hpc) (oq _ _)) .nil))) fun h he => ⟨?_, ?_⟩
    · unfold cx; rw [hway]; exact hms h (he.of sub3)
    · unfold eO; rw [hway]
      obtain ⟨pr', e'⟩ := dW h nc
      have e2 := (e3 h he).trans e'
      exact List.cons.inj (List.append_inj' e2 rfl).2 |>.1
  refine ⟨fun m σ H2 => ∃ (cur : aP) (vc : V) (pre : List (Int × aP)) (d : Int) (g1 : List Key → Option Key) (qs : List Addr) (ms : List (Int × Key)) (c : Nat) (x8 x9 : Option V), m = bj cur ∧ σ = [some (.ref f), some (.int b), some (.int lo), some (.int hi), some v, some (.int k), some (.ref L), some vc, x8, x9] ∧ dw b lo hi k p pre cur d ∧ aR H2 vc (bc cur) ∧ H2 L = some (.lst (qs.map V.ref)) ∧ PS H2 qs ms ∧ (∀ h, Ext g1 h → ms = pre.map fun s => (s.1, bM h s.2)) ∧ bz bb H H2 ∧ Stp A H2 f bb g1 (n + c) ∧ Sub g g1 ∧ c + 2 * aK cur ≤ 2 * aK p,
    ⟨bj p, p, v, [], 0, g, [], [], 0, none, none, rfl, rfl, dw.zero (by omega) k0 (by omega) w.w.ok, w.w.w.mono S0, ao, .nil, fun _ _ => rfl, bz.same S0, sp.same (Nat.le_refl _) S0, Sub.rfl', by omega⟩, ?_⟩
  rintro m σ H2 ⟨cur, vc, pre, d, g1, qs, ms, c, x8, x9, rfl, rfl, ow, wc, hL2, ps, hms, kt, sp2, sub, hc⟩
  have owf := ow.f
  have owt := ow.t
  have stop : (∀ e x l r, cur = .fork e x l r → ¬ bd b k e = x) → mW K A E { nx := fun _ H' => Q .non H', rt := Q } [some (.ref f), some (.int b), some (.int lo), some (.int hi), some v, some (.int k), some (.ref L), some vc, x8, x9] H2 := fun hs => fin cur vc pre d g1 qs ms c x8 x9 H2 (ow.stop hs) ow.ok ow.d0 ow.d1 (by omega) (by omega) wc hL2 ps hms kt sp2 sub hc
  cases hcur : cur with
  | cut c1 =>
    subst hcur
    obtain ⟨a, rfl, ha⟩ := fE wc
    refine ixT (j := 0) ha rfl rfl (Sel.no f1 ?_)
    show (if false = true then _ else _)
    rw [if_neg (by decide)]; exact stop (fun _ _ _ _ z => nomatch z)
  | bare =>
    subst hcur
    obtain ⟨a, rfl, ha⟩ := fh wc
    refine ixT (j := 0) ha rfl rfl (Sel.no f2 ?_)
    show (if false = true then _ else _)
    rw [if_neg (by decide)]; exact stop (fun _ _ _ _ z => nomatch z)
  | leaf k1 z1 =>
    subst hcur
    obtain ⟨a, rfl, ha⟩ := eX wc
    refine ixT (j := 0) ha rfl rfl (Sel.no f3 ?_)
    show (if false = true then _ else _)
    rw [if_neg (by decide)]; exact stop (fun _ _ _ _ z => nomatch z)
  | fork e x pl pr =>
    subst hcur
    obtain ⟨a, vl, vr, rfl, ha, wl, wr⟩ := fU wc
    obtain ⟨_, hd, he, _, _, _, okl, okr⟩ := ow.ok
    have d0 := ow.d0
    have owf' : aK pl + aK pr + 1 + pre.length ≤ aK p := owf
    have owt' : max (bj pl) (bj pr) + 1 ≤ bj p := owt
    have hc' : c + 2 * (aK pl + aK pr + 1) ≤ 2 * aK p := hc
    have psl := BO ps
    have pl1 : ms.length = pre.length := by rw [hms _ (cH g1), List.length_map]
    refine ixT (j := 0) ha rfl rfl (Sel.yes f4 (ixT (j := 1) ha rfl rfl ⟨b, k, e, rfl, by omega, ixT (j := 2) ha rfl rfl ?_⟩))
    show (if decide (bd b k e = x) = true then _ else _)
    by_cases hx : bd b k e = x
    · rw [if_pos (decide_eq_true hx)]
      refine ⟨fun σ' H' => ∃ (cur : aP) (vc : V) (pre : List (Int × aP)) (d : Int) (g1 : List Key → Option Key) (qs : List Addr) (ms : List (Int × Key)) (c : Nat) (x8 x9 : Option V), bj cur < max (bj pl) (bj pr) + 1 ∧ σ' = [some (.ref f), some (.int b), some (.int lo), some (.int hi), some v, some (.int k), some (.ref L), some vc, x8, x9] ∧ dw b lo hi k p pre cur d ∧ aR H' vc (bc cur) ∧ H' L = some (.lst (qs.map V.ref)) ∧ PS H' qs ms ∧ (∀ h, Ext g1 h → ms = pre.map fun s => (s.1, bM h s.2)) ∧ bz bb H H' ∧ Stp A H' f bb g1 (n + c) ∧ Sub g g1 ∧ c + 2 * aK cur ≤ 2 * aK p,
        fun σ' H' ⟨cur, vc, pre, d, g1, qs, ms, c, x8, x9, a0, a1, a2⟩ => ⟨bj cur, a0, cur, vc, pre, d, g1, qs, ms, c, x8, x9, rfl, a1, a2⟩, ?_⟩
      refine ixT (j := 1) ha rfl rfl ⟨b, k, e, rfl, he, k0, ?_⟩
      have turn : ∀ (tn : Int) (va vn : V) (pa pn : aP) (i j : Nat) (ga : Int), (4 - tn = (i : Int)) → (3 + tn = (j : Int)) → (∃ xs, xs[i]? = some va ∧ xs[j]? = some vn ∧ H2 a = some (.tup xs) ∧ xs[1]? = some (.int e)) → aR H2 va (bc pa) → aR H2 vn (bc pn) → bO b lo hi (e + 1) ga pa → aK pa ≤ 60 → bj pa ≤ 60 → bj pn < max (bj pl) (bj pr) + 1 → dw b lo hi k p (pre ++ [(e, pa)]) pn (e + 1) → c + 2 * aK pa + 1 + 2 * aK pn ≤ 2 * aK p →
          (au (aB (tOp (aF K) (af 7) (tOp (cw) (tC (.int 4)) (af 8))) (ay 9)) (au (ej (tBM K "list" lg (af 6) (aa (aE (aa (tOp (aF K) (af 7) (tC (.int 1))) (aa (ax (iJ K A) (fun _ => E0) (aa (af 0) (aa (af 9) (aa (ax (ft K A 70) (fun _ => E0) (aa (af 0) (aa (af 9) (aj)))) (aj))))) (aj)))) (aj)))) (aB (tOp (aF K) (af 7) (tOp (aH K) (tC (.int 3)) (af 8))) (ay 7)))) { nx := fun σ' H' => ∃ (cur : aP) (vc : V) (pre : List (Int × aP)) (d : Int) (g1 : List Key → Option Key) (qs : List Addr) (ms : List (Int × Key)) (c : Nat) (x8 x9 : Option V), bj cur < max (bj pl) (bj pr) + 1 ∧ σ' = [some (.ref f), some (.int b), some (.int lo), some (.int hi), some v, some (.int k), some (.ref L), some vc, x8, x9] ∧ dw b lo hi k p pre cur d ∧ aR H' vc (bc cur) ∧ H' L = some (.lst (qs.map V.ref)) ∧ PS H' qs ms ∧ (∀ h, Ext g1 h → ms = pre.map fun s => (s.1, bM h s.2)) ∧ bz bb H H' ∧ Stp A H' f bb g1 (n + c) ∧ Sub g g1 ∧ c + 2 * aK cur ≤ 2 * aK p, rt := Q } [some (.ref f), some (.int b), some (.int lo), some (.int hi), some v, some (.int k), some (.ref L), some (.ref a), some (.int tn), x9] H2 := by
        rintro tn va vn pa pn i j ga hi4 hj3 ⟨xs, gi, gj, hxs, g1'⟩ wa wn oka fa ta tlt own cc
        refine ixT (j := i) hxs hi4 gi ⟨.inl ⟨rfl, _, SqL.of hL2⟩, ixT (j := 1) hxs rfl g1' ?_⟩
        have PA : dj H2 va pa := ⟨wa, ⟨b, lo, hi, e + 1, ga, en, by omega, by omega, oka⟩, fa, by have := fz oka; omega⟩
        refine ⟨f, bb, va, pa, g1, n + c, rfl, PA, by omega, sp2, by omega, fun L1 ps1 ts g2 H3 kt3 sp3 sub3 hL3 pk3 e3 lo3 => ?_⟩
        refine ⟨f, bb, L1, va, pa, ps1, ts, g2, n + c + 2 * aK pa, rfl, PA.keep (sp2.tup kt3), sp3, by omega, hL3, pk3, e3, lo3, fun y g4 H4 kt4 sp4 sub4 ey oy sy => ?_⟩
        have kt34 := kt3.trans kt4
        refine ⟨by show 2 ≤ sizeLine; decide, fun t2 h2 => ?_⟩
        have S3 := ar.upd (o := .tup [V.int e, kV y]) h2
        have hL4 := S3 _ _ (sp2.lst kt34 _ _ hL2)
        refine ⟨L, _, _, rfl, rfl, hL4, by rw [List.length_map]; exact Nat.lt_of_le_of_lt (m := 1000) (by omega) (by decide), ?_⟩
        have kp : ∀ (c : Addr) (xs : List V), (upd H4 t2 (.tup [V.int e, kV y])) c = some (.tup xs) → (upd (upd H4 t2 (.tup [V.int e, kV y])) L (.lst (qs.map V.ref ++ [V.ref t2]))) c = some (.tup xs) := fun c xs e => by
          rw [aI (fun z => by subst z; rw [hL4] at e; cases e)]; exact e
        have kp2 : ∀ (c : Addr) (xs : List V), H2 c = some (.tup xs) → (upd (upd H4 t2 (.tup [V.int e, kV y])) L (.lst (qs.map V.ref ++ [V.ref t2]))) c = some (.tup xs) := fun c xs e => kp c xs (S3 _ _ (sp2.tup kt34 _ _ e))
        refine ixT (j := j) (kp2 _ _ hxs) hj3 gj ?_
        have ml : qs.map V.ref ++ [V.ref t2] = (qs ++ [t2]).map V.ref := by simp
        refine ⟨pn, vn, pre ++ [(e, pa)], e + 1, g4, qs ++ [t2], ms ++ [(e, y)], c + 2 * aK pa + 1, _, _, tlt, rfl, own, wn.keepT kp2 (jH pn), by rw [ao, ml], xv (oU kp2 ps) (kp _ _ ao), fun h he => ?_, fun z o nd ez => ?_, ?_, (sub.trans sub3).trans sub4, cc⟩
        · rw [List.map_append, ← hms h ((he.of sub4).of sub3), ey h he]; rfl
        · have hz : z ≠ L := fun q => by subst q; rw [hLn] at ez; cases ez
          rw [aI hz]; exact S3 _ _ (kt34 _ _ nd (kt _ _ nd ez))
        · refine (sp4.same (m := n + (c + 2 * aK pa + 1)) (by omega) S3).keep fun z o ez => ?_
          rw [aI (fun q => by subst q; rw [hL4] at ez; cases ez)]; exact ez
      by_cases hb : k / 2 ^ (b - e - 1).toNat % 2 = 0
      · exact turn _ vr vl pr pl 4 3 _ (by omega) (by omega) ⟨_, rfl, rfl, ha, rfl⟩ wr wl okr (by omega) (by omega) (by omega) (ow.left hx hb) (by omega)
      · exact turn _ vl vr pl pr 3 4 _ (by omega) (by omega) ⟨_, rfl, rfl, ha, rfl⟩ wl wr okl (by omega) (by omega) (by omega) (ow.right hx hb) (by omega)
    · rw [if_neg (by rw [decide_eq_false hx]; decide)]
      refine stop fun e' x' l' r' z => ?_
      cases z
      exact hx
theorem fv : ∀ (p : aP) (d g : Int), (bw p d g).length = 2 * aK p + 1
  | .cut _, _, _ => rfl
  | .bare, _, _ => rfl
  | .leaf _ _, _, _ => rfl
  | .fork e x l r, d, g => by
    show ((bw l (e + 1) (2 * x)).map _ ++ (bw r (e + 1) (2 * x + 1)).map _).length + 1 = 2 * (aK l + aK r + 1) + 1
    rw [List.length_append, List.length_map, List.length_map, fv l, fv r]
    omega
theorem eK {e x d g : Int} {l r : aP} {i : Nat} {s : Int × Int × List Int} (h : (bw (.fork e x l r) d g)[i]? = some s) :
    (i = 0 ∧ s = (d, g, [])) ∨ (∃ k t, i = k + 1 ∧ k < (bw l (e + 1) (2 * x)).length ∧ (bw l (e + 1) (2 * x))[k]? = some t ∧ s = (t.1, t.2.1, 3 :: t.2.2)) ∨ (∃ k t, i = (bw l (e + 1) (2 * x)).length + k + 1 ∧ (bw r (e + 1) (2 * x + 1))[k]? = some t ∧ s = (t.1, t.2.1, 4 :: t.2.2)) := by
  cases i with
  | zero => exact .inl ⟨rfl, (Option.some.inj h).symm⟩
  | succ k =>
    right
    have h : ((bw l (e + 1) (2 * x)).map (fun s => (s.1, s.2.1, (3 : Int) :: s.2.2)) ++ (bw r (e + 1) (2 * x + 1)).map (fun s => (s.1, s.2.1, (4 : Int) :: s.2.2)))[k]? = some s := h
    by_cases hk : k < (bw l (e + 1) (2 * x)).length
    · left
      rw [List.getElem?_append_left (by rw [List.length_map]; exact hk), List.getElem?_map] at h
      obtain ⟨t, ht, rfl⟩ := Option.map_eq_some_iff.mp h
      exact ⟨k, t, rfl, hk, ht, rfl⟩
    · right
      rw [List.getElem?_append_right (by rw [List.length_map]; omega), List.getElem?_map, List.length_map] at h
      obtain ⟨t, ht, rfl⟩ := Option.map_eq_some_iff.mp h
      exact ⟨k - (bw l (e + 1) (2 * x)).length, t, by omega, ht, rfl⟩
theorem gq {p:aP} {d g:Int} {i:Nat} {s:Int×Int×List Int} (nf:∀ e x l r,p≠ .fork e x l r) (h:(bw p d g)[i]?=some s):i=0∧s=(d,g,[]):=by
 have h:([(d,g,[])]:List (Int×Int×List Int))[i]?=some s:=by
  cases p with
  | fork e x l r=>exact (nf _ _ _ _ rfl).elim
  | _=>exact h
 cases i with
 | zero=>exact ⟨rfl,(Option.some.inj h).symm⟩
 | succ k=>cases h
theorem kL {e y:Int} {l r n:Dat} {w:List Int}:bT (cr e y l r) (3::w) n=cr e y (bT l w n) r:=by
 show (if (3:Int)=3 then _ else _)=_
 rw [if_pos rfl];rfl
theorem jZ {e y:Int} {l r n:Dat} {w:List Int}:bT (cr e y l r) (4::w) n=cr e y l (bT r w n):=by
 show (if (4:Int)=3 then _ else _)=_
 rw [if_neg (by decide)];rfl
theorem ke {x n:Dat}:bT x [] n=n:=by cases x <;> rfl
theorem lC {b lo hi : Int} : ∀ {p : aP} {d g : Int} {n i : Nat} {s : Int × Int × List Int} {x : Dat}, bO b lo hi d g p → bj p < n → (bw p d g)[i]? = some s → bZ b lo hi s.1 s.2.1 x = false → cb x → Ck b lo hi n d g (bT (bc p) s.2.2 x) (some (s.1, s.2.1)) ∧ eC (bc p) s.2.2 := by
  intro p
  have one : ∀ {p : aP} {d g : Int} {n i : Nat} {s : Int × Int × List Int} {x : Dat}, (∀ e x l r, p ≠ .fork e x l r) → bj p < n → (bw p d g)[i]? = some s → bZ b lo hi s.1 s.2.1 x = false → cb x → Ck b lo hi n d g (bT (bc p) s.2.2 x) (some (s.1, s.2.1)) ∧ eC (bc p) s.2.2 := by
    intro p d g n i s x nf hn hs hx ok
    obtain ⟨rfl, rfl⟩ := gq nf hs
    obtain ⟨m, rfl⟩ : ∃ m, n = m + 1 := ⟨n - 1, by omega⟩
    exact ⟨by rw [ke]; exact .no hx ok, .nil _⟩
  induction p with
  | cut m => intro d g n i s x _ hn hs hx ok; exact one (by intro _ _ _ _ z; cases z) hn hs hx ok
  | bare => intro d g n i s x _ hn hs hx ok; exact one (by intro _ _ _ _ z; cases z) hn hs hx ok
  | leaf k z => intro d g n i s x _ hn hs hx ok; exact one (by intro _ _ _ _ z; cases z) hn hs hx ok
  | fork e y l r hl hr =>
    intro d g n i s x o hn hs hx ok
    have hn : max (bj l) (bj r) + 1 < n := hn
    obtain ⟨m, rfl⟩ : ∃ m, n = m + 1 := ⟨n - 1, by omega⟩
    have fp := gH o
    have he : d ≤ e ∧ e < b ∧ 0 ≤ y ∧ y < 2 ^ e.toNat := ⟨o.2.1, o.2.2.1, o.2.2.2.1, o.2.2.2.2.1⟩
    have ol := o.2.2.2.2.2.2.1
    have or' := o.2.2.2.2.2.2.2
    rcases eK hs with ⟨rfl, rfl⟩ | ⟨k, t, rfl, hk, ht, rfl⟩ | ⟨k, t, rfl, ht, rfl⟩
    · exact ⟨by rw [ke]; exact .no hx ok, .nil _⟩
    · obtain ⟨c, w⟩ := hl ol (n := m) (by omega) ht hx ok
      refine ⟨?_, .left w⟩
      show Ck b lo hi (m + 1) d g (bT (cr e y (bc l) (bc r)) (3 :: t.2.2) x) _
      rw [kL]
      exact .left fp he c
    · obtain ⟨c, w⟩ := hr or' (n := m) (by omega) ht hx ok
      refine ⟨?_, .right w⟩
      show Ck b lo hi (m + 1) d g (bT (cr e y (bc l) (bc r)) (4 :: t.2.2) x) _
      rw [jZ]
      exact .right fp he (fV ol (by omega)) c
theorem sM {b lo hi : Int} : ∀ {p : aP} {d g : Int} {n i j : Nat} {s t : Int × Int × List Int} {x y : Dat}, bO b lo hi d g p → bj p < n → (bw p d g)[i]? = some s → (bw p d g)[j]? = some t → i ≤ j → bZ b lo hi s.1 s.2.1 x = false → cb x → Ck b lo hi n d g (bT (bT (bc p) t.2.2 y) s.2.2 x) (some (s.1, s.2.1)) ∧ eC (bT (bc p) t.2.2 y) s.2.2 := by
  intro p
  have one : ∀ {p : aP} {q : Dat} {d g : Int} {n i : Nat} {s : Int × Int × List Int} {x : Dat}, (∀ e x l r, p ≠ .fork e x l r) → bj p < n → (bw p d g)[i]? = some s → bZ b lo hi s.1 s.2.1 x = false → cb x → Ck b lo hi n d g (bT q s.2.2 x) (some (s.1, s.2.1)) ∧ eC q s.2.2 := by
    intro p q d g n i s x nf hn hs hx ok
    obtain ⟨rfl, rfl⟩ := gq nf hs
    obtain ⟨m, rfl⟩ : ∃ m, n = m + 1 := ⟨n - 1, by omega⟩
    exact ⟨by rw [ke]; exact .no hx ok, .nil _⟩
  induction p with
  | cut m => intro d g n i j s t x y _ hn hs _ _ hx ok; exact one (by intro _ _ _ _ z; cases z) hn hs hx ok
  | bare => intro d g n i j s t x y _ hn hs _ _ hx ok; exact one (by intro _ _ _ _ z; cases z) hn hs hx ok
  | leaf k z => intro d g n i j s t x y _ hn hs _ _ hx ok; exact one (by intro _ _ _ _ z; cases z) hn hs hx ok
  | fork e z l r hl hr =>
    intro d g n i j s t x y o hn hs ht hij hx ok
    have hn : max (bj l) (bj r) + 1 < n := hn
    obtain ⟨m, rfl⟩ : ∃ m, n = m + 1 := ⟨n - 1, by omega⟩
    have fp := gH o
    have he : d ≤ e ∧ e < b ∧ 0 ≤ z ∧ z < 2 ^ e.toNat := ⟨o.2.1, o.2.2.1, o.2.2.2.1, o.2.2.2.2.1⟩
    have ol := o.2.2.2.2.2.2.1
    have or' := o.2.2.2.2.2.2.2
    show Ck b lo hi (m + 1) d g (bT (bT (cr e z (bc l) (bc r)) t.2.2 y) s.2.2 x) _ ∧ eC (bT (cr e z (bc l) (bc r)) t.2.2 y) s.2.2
    rcases eK hs with ⟨rfl, rfl⟩ | ⟨k, s', rfl, hk, hs', rfl⟩ | ⟨k, s', rfl, hs', rfl⟩
    · exact ⟨by rw [ke]; exact .no hx ok, .nil _⟩
    · rcases eK ht with ⟨h0, rfl⟩ | ⟨k2, t', hk2, hk2', ht', rfl⟩ | ⟨k2, t', hk2, ht', rfl⟩
      · omega
      · obtain ⟨c, w⟩ := hl ol (n := m) (y := y) (by omega) hs' ht' (by omega) hx ok
        show Ck b lo hi (m + 1) d g (bT (bT (cr e z (bc l) (bc r)) (3 :: t'.2.2) y) (3 :: s'.2.2) x) _ ∧ eC (bT (cr e z (bc l) (bc r)) (3 :: t'.2.2) y) (3 :: s'.2.2)
        rw [kL, kL]
        exact ⟨.left fp he c, .left w⟩
      · obtain ⟨c, w⟩ := lC ol (n := m) (by omega) hs' hx ok
        show Ck b lo hi (m + 1) d g (bT (bT (cr e z (bc l) (bc r)) (4 :: t'.2.2) y) (3 :: s'.2.2) x) _ ∧ eC (bT (cr e z (bc l) (bc r)) (4 :: t'.2.2) y) (3 :: s'.2.2)
        rw [jZ, kL]
        exact ⟨.left fp he c, .left w⟩
    · rcases eK ht with ⟨h0, rfl⟩ | ⟨k2, t', hk2, hk2', ht', rfl⟩ | ⟨k2, t', hk2, ht', rfl⟩
      · omega
      · omega
      · obtain ⟨c, w⟩ := hr or' (n := m) (y := y) (by omega) hs' ht' (by omega) hx ok
        show Ck b lo hi (m + 1) d g (bT (bT (cr e z (bc l) (bc r)) (4 :: t'.2.2) y) (4 :: s'.2.2) x) _ ∧ eC (bT (cr e z (bc l) (bc r)) (4 :: t'.2.2) y) (4 :: s'.2.2)
        rw [jZ, jZ]
        exact ⟨.right fp he (fV ol (by omega)) c, .right w⟩
theorem sG {b lo hi : Int} : ∀ {p : aP} {d g : Int} {i : Nat} {s : Int × Int × List Int}, bO b lo hi d g p → Plc b d g → (bw p d g)[i]? = some s → Plc b s.1 s.2.1 ∧ s.2.2.length ≤ bj p := by
  intro p
  induction p with
  | fork e y l r hl hr =>
    intro d g i s o pl hs
    have he : d ≤ e ∧ e < b ∧ 0 ≤ y ∧ y < 2 ^ e.toNat := ⟨o.2.1, o.2.2.1, o.2.2.2.1, o.2.2.2.2.1⟩
    obtain ⟨pL, pR⟩ := Plc.left pl.d0 he
    rcases eK hs with ⟨rfl, rfl⟩ | ⟨k, t, rfl, hk, ht, rfl⟩ | ⟨k, t, rfl, ht, rfl⟩
    · exact ⟨pl, Nat.zero_le _⟩
    · have := hl o.2.2.2.2.2.2.1 pL ht
      exact ⟨this.1, by show t.2.2.length + 1 ≤ max (bj l) (bj r) + 1; have := this.2; omega⟩
    · have := hr o.2.2.2.2.2.2.2 pR ht
      exact ⟨this.1, by show t.2.2.length + 1 ≤ max (bj l) (bj r) + 1; have := this.2; omega⟩
  | cut m => intro d g i s _ pl hs; obtain ⟨rfl, rfl⟩ := gq (by intro _ _ _ _ z; cases z) hs; exact ⟨pl, Nat.zero_le _⟩
  | bare => intro d g i s _ pl hs; obtain ⟨rfl, rfl⟩ := gq (by intro _ _ _ _ z; cases z) hs; exact ⟨pl, Nat.zero_le _⟩
  | leaf k z => intro d g i s _ pl hs; obtain ⟨rfl, rfl⟩ := gq (by intro _ _ _ _ z; cases z) hs; exact ⟨pl, Nat.zero_le _⟩
theorem hU {H H':Hp} {w:List Int} {rs:List Addr} {ts:List (Int×Int×List Int)} (h:PSp H w rs ts) (S:∀ b xs,H b=some (.tup xs)→H' b=some (.tup xs)):PSp H' w rs ts:=L2.Paired.imp' (fun r s ⟨P,h1,h2⟩=>⟨P,S _ _ h1,S _ _ h2⟩) h
theorem tK {H : Hp} {w : List Int} {c : Int} {rs : List Addr} {ts : List (Int × Int × List Int)} (h : PSp H (w ++ [c]) rs ts) : PSp H w rs (ts.map fun s => (s.1, s.2.1, c :: s.2.2)) := by
  induction h with
  | nil => exact .nil
  | cons r t ih =>
    obtain ⟨P, h1, h2⟩ := r
    exact .cons ⟨P, h1, by rw [h2, List.append_assoc]; rfl⟩ ih
theorem yF {H:Hp} {w:List Int} {rs rs':List Addr} {ts ts':List (Int×Int×List Int)} (h:PSp H w rs ts) (h':PSp H w rs' ts'):PSp H w (rs++rs') (ts++ts'):=by
 induction h with
 | nil=>exact h'
 | cons r t ih=>exact .cons r ih
theorem oP {H : Hp} {w : List Int} {rs : List Addr} {ts : List (Int × Int × List Int)} (h : PSp H w rs ts) {i : Nat} {s : Int × Int × List Int} (hs : ts[i]? = some s) : ∃ r, rs[i]? = some r ∧ nv H w r s := by
  induction h generalizing i with
  | nil => cases hs
  | cons r t ih =>
    cases i with
    | zero => cases hs; exact ⟨_, rfl, r⟩
    | succ i => exact ih hs
theorem Bs (K:W.Frag) (A:Adr) (n:Nat):Ln (ig K A n) 4:=by rintro vs H Q E ⟨_,_,_,_,_,_,rfl,_⟩;rfl
theorem wm (K:W.Frag) (A:Adr):∀ vs H Q E,ig K A 0 vs H Q E→False:=by rintro vs H Q E ⟨_,_,_,_,_,_,_,_,h,_⟩;omega
theorem Ec (T : Txt K mg A) (n : Nat) : Rd (ig K A (n + 1)) (FF K A n) ["_law_part_here", "_law_depth", "_law_begin_here", "_law_path", "_law_found"] := by
  intro vs H Q E h
  obtain ⟨v, p, d, g, P, w, rfl, wd, htl, hP, hw, hf, q⟩ := h
  refine ⟨by show 3 ≤ sizeLine; decide, fun r hr => ⟨by show 1 ≤ sizeLine; decide, fun M hM => ?_⟩⟩
  have S1 := ar.upd (o := .tup [V.int d, V.int g, V.ref P]) hr
  have S2 := S1.trans (ar.upd (o := .lst [V.ref r]) hM)
  have hr2 : upd (upd H r (.tup [V.int d, V.int g, V.ref P])) M (.lst [V.ref r]) r = some (.tup [V.int d, V.int g, V.ref P]) := ar.upd (o := .lst [V.ref r]) hM _ _ ao
  have hM2 : upd (upd H r (.tup [V.int d, V.int g, V.ref P])) M (.lst [V.ref r]) M = some (.lst [V.ref r]) := ao
  generalize upd (upd H r (.tup [V.int d, V.int g, V.ref P])) M (.lst [V.ref r]) = H2 at S2 hr2 hM2 ⊢
  have wd2 := wd.mono S2
  have hP2 := S2 _ _ hP
  have self : nv H2 w r (d, g, []) := ⟨P, hr2, by show H2 P = some (.tup ((w ++ []).map V.int)); rw [List.append_nil]; exact hP2⟩
  have one : (∀ e x l r, p ≠ .fork e x l r) → Q (.ref M) H2 := fun nf => q M [r] H2 S2 hM2 (by
    cases p with
    | fork e x l r => exact (nf _ _ _ _ rfl).elim
    | _ => exact .cons self .nil)
  obtain ⟨_, ⟨f1, f2, f3, f4⟩, _⟩ := fF
  cases p with
  | cut m =>
    obtain ⟨a, rfl, ha⟩ := fE wd2
    exact ixT (j := 0) ha rfl rfl (Sel.no f1 (one (by intro _ _ _ _ z; cases z)))
  | bare =>
    obtain ⟨a, rfl, ha⟩ := fh wd2
    exact ixT (j := 0) ha rfl rfl (Sel.no f2 (one (by intro _ _ _ _ z; cases z)))
  | leaf k z =>
    obtain ⟨a, rfl, ha⟩ := eX wd2
    exact ixT (j := 0) ha rfl rfl (Sel.no f3 (one (by intro _ _ _ _ z; cases z)))
  | fork e x pl pr =>
    obtain ⟨a, vl, vr, rfl, ha, wl, wr⟩ := fU wd2
    have htl' : max (bj pl) (bj pr) + 1 < n + 1 := htl
    have hw' : w.length + (max (bj pl) (bj pr) + 1) ≤ 100 := hw
    have hf' : aK pl + aK pr + 1 ≤ 70 := hf
    refine ixT (j := 0) ha rfl rfl (Sel.yes f4 ?_)
    refine ixT (j := 3) ha rfl rfl (ixT (j := 1) ha rfl rfl (ixT (j := 2) ha rfl rfl ⟨IntMulOk.of_left (by decide), ?_⟩))
    refine ⟨by show 1 ≤ sizeLine; decide, fun t3 h3 => .inr ⟨P, t3, _, _, rfl, rfl, ar.upd h3 _ _ hP2, ao, be (by rw [List.length_map]; show w.length + 1 ≤ _; omega), fun P3 H3 S3 hP3 => ?_⟩⟩
    have S3 := (ar.upd (o := .tup [V.int 3]) h3).trans S3
    have hP3 : H3 P3 = some (.tup ((w ++ [3]).map V.int)) := by rw [hP3, List.map_append]; rfl
    refine ⟨vl, pl, e + 1, 2 * x, P3, w ++ [3], rfl, wl.mono S3, by omega, hP3, by rw [List.length_append]; show w.length + 1 + _ ≤ 100; omega, by omega, fun M1 rs1 H4 S4 hM1 all1 => ?_⟩
    have len1 : rs1.length = 2 * aK pl + 1 := (Paired.length all1).trans (fv _ _ _)
    have S24 := S3.trans S4
    refine .inl ⟨M, M1, _, _, rfl, rfl, S24 _ _ hM2, hM1, be (by simp only [List.length_map, List.length_cons, List.length_nil]; omega), fun M5 h5 => ?_⟩
    have S5 := ar.upd (o := .lst ([V.ref r] ++ rs1.map V.ref)) h5
    have S25 := S24.trans S5
    have hM5 : upd H4 M5 (.lst ([V.ref r] ++ rs1.map V.ref)) M5 = some (.lst ((r :: rs1).map V.ref)) := ao
    have all1' : PSp (upd H4 M5 (.lst ([V.ref r] ++ rs1.map V.ref))) (w ++ [3]) rs1 (bw pl (e + 1) (2 * x)) := hU all1 fun _ _ z => S5 _ _ z
    generalize upd H4 M5 (.lst ([V.ref r] ++ rs1.map V.ref)) = H5 at S5 S25 hM5 all1' ⊢
    have ha5 := S25 _ _ ha
    refine ixT (j := 4) ha5 rfl rfl (ixT (j := 1) ha5 rfl rfl (ixT (j := 2) ha5 rfl rfl ⟨IntMulOk.of_left (by decide), ?_⟩))
    refine ⟨by show 1 ≤ sizeLine; decide, fun t6 h6 => .inr ⟨P, t6, _, _, rfl, rfl, ar.upd h6 _ _ (S25 _ _ hP2), ao, be (by rw [List.length_map]; show w.length + 1 ≤ _; omega), fun P6 H6 S6 hP6 => ?_⟩⟩
    have S6 := (ar.upd (o := .tup [V.int 4]) h6).trans S6
    have hP6 : H6 P6 = some (.tup ((w ++ [4]).map V.int)) := by rw [hP6, List.map_append]; rfl
    refine ⟨vr, pr, e + 1, 2 * x + 1, P6, w ++ [4], rfl, wr.mono (S25.trans S6), by omega, hP6, by rw [List.length_append]; show w.length + 1 + _ ≤ 100; omega, by omega, fun M7 rs7 H7 S7 hM7 all7 => ?_⟩
    have len7 : rs7.length = 2 * aK pr + 1 := (Paired.length all7).trans (fv _ _ _)
    have S57 := S6.trans S7
    refine .inl ⟨M5, M7, _, _, rfl, rfl, S57 _ _ hM5, hM7, be (by simp only [List.length_map, List.length_cons, List.length_nil]; omega), fun M8 h8 => ?_⟩
    have S8 := ar.upd (o := .lst ((r :: rs1).map V.ref ++ rs7.map V.ref)) h8
    have S28 := S25.trans (S57.trans S8)
    refine q M8 (r :: (rs1 ++ rs7)) _ (S2.trans S28) ?_ (.cons ?_ (yF (tK (hU all1' fun _ _ y => (S57.trans S8) _ _ y)) (tK (hU all7 fun _ _ y => S8 _ _ y))))
    · rw [ao, ← List.map_append]; rfl
    · obtain ⟨P', h1, h2⟩ := self
      exact ⟨P', S28 _ _ h1, S28 _ _ h2⟩
theorem tI {H : Hp} {a b : Addr} {k l : List Key} {Q : VK} (ha : H a = some (.tup (k.map kV))) (hb : H b = some (.tup (l.map kV))) (q : Q (.bl (decide (k = l))) H) : bC K (.ref a) (.ref b) H Q := by
  have pk : ∀ k : List Key, (k.map kV).all gp = true := fun k => by
    rw [List.all_eq_true]; intro x hx; obtain ⟨y, _, rfl⟩ := List.mem_map.mp hx; cases y <;> rfl
  refine .inl ⟨a, b, _, _, rfl, rfl, SqT.of ha, SqT.of hb, pk k, pk l, ?_⟩
  have e : decide (k.map kV = l.map kV) = decide (k = l) := by
    have inj : ∀ x y : Key, kV x = kV y → x = y := by
      intro x y h; cases x <;> cases y <;> first | (injection h with h; rw [h]) | cases h
    by_cases h : k = l
    · rw [h, decide_eq_true rfl, decide_eq_true rfl]
    · rw [decide_eq_false h, decide_eq_false]
      intro z; apply h
      clear h q ha hb pk
      induction k generalizing l with
      | nil => cases l with | nil => rfl | cons => cases z
      | cons x r ih => cases l with
        | nil => cases z
        | cons y s => injection z with z1 z2; rw [inj _ _ z1, ih z2]
  rw [e]; exact q
theorem Bg (K:W.Frag) (A:Adr) (n:Nat):Ln (jq K A n) 3:=by rintro vs H Q E ⟨_,_,_,_,_,_,rfl,_⟩;rfl
theorem wj (K:W.Frag) (A:Adr):∀ vs H Q E,jq K A 0 vs H Q E→False:=by rintro vs H Q E ⟨_,_,_,_,_,_,_,_,_,_,_,h,_⟩;omega
theorem DW (T : Txt K mg A) (n : Nat) : Rd (jq K A (n + 1)) (GY K A n) ["_law_part_here", "_law_path", "_law_new", "_law_at_here"] := by
  intro vs H Q E h
  obtain ⟨v, u, x, y, P, w, rfl, wd, hP, wy, wu, hn, hl, hq⟩ := h
  refine ⟨by show 0 ≤ sizeLine; decide, fun t0 h0 => ?_⟩
  have S0 := ar.upd (o := .tup []) h0
  have hP0 := S0 _ _ hP
  rw [pM] at hP0
  refine tI (l := []) hP0 ao ?_
  have ht0 : upd H t0 (.tup []) t0 = some (.tup ([] : List V)) := ao
  generalize upd H t0 (.tup []) = H0 at S0 hP0 ht0 ⊢
  rw [← pM] at hP0
  have wd0 := wd.mono S0
  have wu0 := wu.mono S0
  cases wy with
  | nil =>
    exact Sel.yes rfl (hq u H0 S0 (by rw [ke]; exact wu0))
  | @left e z l r w k =>
    refine Sel.no rfl (ixT (j := 0) hP0 rfl rfl ?_)
    obtain ⟨a, vl, vr, rfl, ha, wl, wr⟩ := jT wd0
    have hn' : w.length + 1 < n + 1 := hn
    have hl' : w.length + 1 ≤ 100 := hl
    refine ⟨3, rfl, .inl (.inr ⟨a, _, rfl, ha, fun p1 H1 S1 hp1 => ?_⟩)⟩
    refine ixT (j := 3) (S1 _ _ ha) rfl rfl ⟨1, rfl, .inl (.inr ⟨P, _, rfl, S1 _ _ hP0, fun p2 H2 S2 hp2 => ?_⟩)⟩
    have hp2 : H2 p2 = some (.tup (w.map V.int)) := by rw [hp2]; exact congrArg (fun z => some (HO.tup z)) (iu _ 1 (by simp))
    have S12 := S1.trans S2
    refine ⟨vl, u, l, y, p2, w, rfl, wl.mono S12, hp2, k, wu0.mono S12, by omega, by omega, fun y3 H3 S3 wy3 => ?_⟩
    have S13 := S12.trans S3
    refine ⟨by show 1 ≤ sizeLine; decide, fun t4 h4 => ?_⟩
    have S4 := ar.upd (o := .tup [y3]) h4
    have hp14 : upd H3 t4 (.tup [y3]) p1 = some (.tup [.str "fork", .int e, .int z]) := (S4 _ _ (S3 _ _ (S2 _ _ hp1))).trans (congrArg (fun z => some (HO.tup z)) (gD _ 3 (by simp)))
    refine .inr ⟨p1, t4, _, _, rfl, rfl, hp14, ao, be (n := 4) (by decide), fun p5 H5 S5 hp5 => ?_⟩
    have S15 := (S13.trans S4).trans S5
    refine ⟨3 + 1, rfl, .inl (.inr ⟨a, _, rfl, S15 _ _ ha, fun p6 H6 S6 hp6 => ?_⟩)⟩
    have hp6 : H6 p6 = some (.tup [vr]) := hp6.trans (congrArg (fun z => some (HO.tup z)) (iu _ 4 (by simp)))
    refine .inr ⟨p5, p6, _, _, rfl, rfl, S6 _ _ hp5, hp6, be (n := 5) (by decide), fun p7 H7 S7 hp7 => ?_⟩
    have S17 := (S15.trans S6).trans S7
    refine hq (.ref p7) H7 (S0.trans S17) ?_
    rw [kL]
    exact .tup hp7 (.cons (.str _) (.cons (.int _) (.cons (.int _) (.cons (wy3.mono (((S4.trans S5).trans S6).trans S7)) (.cons (wr.mono S17) .nil)))))
  | @right e z l r w k =>
    refine Sel.no rfl (ixT (j := 0) hP0 rfl rfl ?_)
    obtain ⟨a, vl, vr, rfl, ha, wl, wr⟩ := jT wd0
    have hn' : w.length + 1 < n + 1 := hn
    have hl' : w.length + 1 ≤ 100 := hl
    refine ⟨4, rfl, .inl (.inr ⟨a, _, rfl, ha, fun p1 H1 S1 hp1 => ?_⟩)⟩
    refine ixT (j := 4) (S1 _ _ ha) rfl rfl ⟨1, rfl, .inl (.inr ⟨P, _, rfl, S1 _ _ hP0, fun p2 H2 S2 hp2 => ?_⟩)⟩
    have hp2 : H2 p2 = some (.tup (w.map V.int)) := by rw [hp2]; exact congrArg (fun z => some (HO.tup z)) (iu _ 1 (by simp))
    have S12 := S1.trans S2
    refine ⟨vr, u, r, y, p2, w, rfl, wr.mono S12, hp2, k, wu0.mono S12, by omega, by omega, fun y3 H3 S3 wy3 => ?_⟩
    have S13 := S12.trans S3
    refine ⟨by show 1 ≤ sizeLine; decide, fun t4 h4 => ?_⟩
    have S4 := ar.upd (o := .tup [y3]) h4
    have hp14 : upd H3 t4 (.tup [y3]) p1 = some (.tup [.str "fork", .int e, .int z, vl]) := (S4 _ _ (S3 _ _ (S2 _ _ hp1))).trans (congrArg (fun z => some (HO.tup z)) (gD _ 4 (by simp)))
    refine .inr ⟨p1, t4, _, _, rfl, rfl, hp14, ao, be (n := 5) (by decide), fun p5 H5 S5 hp5 => ?_⟩
    have S15 := (S13.trans S4).trans S5
    refine ⟨4 + 1, rfl, .inl (.inr ⟨a, _, rfl, S15 _ _ ha, fun p6 H6 S6 hp6 => ?_⟩)⟩
    have hp6 : H6 p6 = some (.tup []) := hp6.trans (congrArg (fun z => some (HO.tup z)) (iu _ 5 (by simp)))
    refine .inr ⟨p5, p6, _, _, rfl, rfl, S6 _ _ hp5, hp6, be (n := 5) (by decide), fun p7 H7 S7 hp7 => ?_⟩
    have S17 := (S15.trans S6).trans S7
    refine hq (.ref p7) H7 (S0.trans S17) ?_
    rw [jZ]
    exact .tup hp7 (.cons (.str _) (.cons (.int _) (.cons (.int _) (.cons (wl.mono S17) (.cons (wy3.mono (((S4.trans S5).trans S6).trans S7)) .nil)))))
inductive At1 where
 | n
 | b (x:Bool)
 | i (x:Int)
 | s (z:Str) (h:okD (.str z)=true)
 | l
def cG:Dat:=.tup [.str "leaf",.int 0,.str ""]
def aV (la:Addr):At1→V
 | .n=> .non
 | .b x=> .bl x
 | .i x=> .int x
 | .s z _=> .str z
 | .l=> .ref la
def aD:At1→Dat
 | .n=> .non
 | .b x=> .bl x
 | .i x=> .int x
 | .s z _=> .str z
 | .l=>cG
def nG:At1→Bool
 | .l=>false
 | _=>true
theorem aW {H : Hp} {la : Addr} : ∀ (as : List At1), (as.all nG = true ∨ aR H (.ref la) cG) → DatWs H (as.map (aV la)) (as.map aD)
  | [], _ => .nil
  | a :: r, h => by
    refine .cons ?_ (aW r (h.imp (fun h => by rw [List.all_cons, Bool.and_eq_true] at h; exact h.2) id))
    cases a with
    | n => exact .non
    | b x => exact .bl x
    | i x => exact .int x
    | s z _ => exact .str z
    | l => rcases h with h | h
           · cases h
           · exact h
theorem Ao : ∀ as : List At1, okDs (as.map aD) = true ∧ PyData.depthAll (toPys (as.map aD)) ≤ 1
  | [] => ⟨rfl, Nat.zero_le _⟩
  | a :: r => by
    have h : okD (aD a) = true ∧ (dA (aD a)).depth ≤ 1 := by
      cases a with
      | s z h => exact ⟨h, Nat.zero_le _⟩
      | l => exact ⟨by decide +kernel, by decide⟩
      | _ => exact ⟨rfl, Nat.zero_le _⟩
    have hr := Ao r
    refine ⟨by show (okD (aD a) && okDs (r.map aD)) = true; rw [h.1, hr.1]; rfl, ?_⟩
    show max (dA (aD a)).depth (PyData.depthAll (toPys (r.map aD))) ≤ 1
    omega
theorem xb (as:List At1):cb (.tup (as.map aD))∧cb (.lst (as.map aD)):=by
 obtain ⟨h1,h2⟩:=Ao as
 exact ⟨.inl ⟨h1,by show PyData.depthAll (toPys (as.map aD))+1≤140;omega⟩,.inl ⟨h1,by show PyData.depthAll (toPys (as.map aD))+1≤140;omega⟩⟩
theorem aW.mono {H H':Hp} {la:Addr} {as:List At1} (S:ar H H') (h:as.all nG=true∨aR H (.ref la) cG):as.all nG=true∨aR H' (.ref la) cG:=h.imp id fun w=>w.mono S
def cj (F:Dat→Bool) (H:Hp) (v:V):Prop:=∃ x,aR H v x∧cb x∧F x=false
theorem cj.mono (F:Dat→Bool):qf (cj F):=fun _ _ _ s ⟨d,w,h⟩=>⟨d,w.mono s,h⟩
theorem gAt {ta:TA} {σ:L2.St} {H:Hp} {F:Dat→Bool} (la:Addr) (as:List At1) (h:(as.all nG=true∨aR H (.ref la) cG)∧as.length≤1000) (ht:∀ R,R (as.map (aV la)) H→ta σ H R) (bad:F (.tup (as.map aD))=false):ii (aE ta) σ H (cj F):=
 Ex (as.map (aV la)) (by rw [List.length_map];exact h.2) ht fun p H' S hp=>⟨_,.tup hp (aW as (aW.mono S h.1)),(xb as).1,bad⟩
theorem gAl {ta:TA} {σ:L2.St} {H:Hp} {F:Dat→Bool} (la:Addr) (as:List At1) (h:(as.all nG=true∨aR H (.ref la) cG)∧as.length≤1000) (ht:∀ R,R (as.map (aV la)) H→ta σ H R) (bad:F (.lst (as.map aD))=false):ii (bq ta) σ H (cj F):=
 CP (as.map (aV la)) (by rw [List.length_map];exact h.2) ht fun p H' S hp=>⟨_,.lst hp (aW as (aW.mono S h.1)),(xb as).2,bad⟩
theorem cU:okD (.str "leaf")=true:=by decide +kernel
theorem Bk:okD (.str "Leaf")=true:=by decide +kernel
theorem bX:okD (.str "fork")=true:=by decide +kernel
theorem zk:okD (.str "Fork")=true:=by decide +kernel
theorem dI:okD (.str "cut")=true:=by decide +kernel
theorem Fi:okD (.str "Cut")=true:=by decide +kernel
theorem iW:okD (.str "bare")=true:=by decide +kernel
theorem z_a:okD (.str "a")=true:=by decide +kernel
theorem z_m:okD (.str "m")=true:=by decide +kernel
theorem z_e:okD (.str "")=true:=by decide +kernel
theorem z_0:okD (.str "0")=true:=by decide +kernel
theorem fK {m:Dat} (h:bH m=false):fB (.tup [.str "cut",m])=false:=by
 show (bv "cut" (.str "cut")&&bH m)=false
 rw [h,Bool.and_false]
theorem ip {i:Int} (h:i<0∨10^60≤i):bH (.int i)=false:=by
 show decide (0≤i∧i<10^60)=false
 exact decide_eq_false (by omega)
theorem EI {w m:Dat} (h:bv "cut" w=false):fB (.tup [w,m])=false:=by
 show (bv "cut" w&&_)=false
 rw [h];rfl
theorem CA (K:W.Frag) (A:Adr):Ln (qk K A) 3:=by rintro vs H Q E ⟨_,_,_,rfl,_⟩;rfl
theorem FI (T:Txt K mg A):Rd (qk K A) (T_5 K A) ["_law_bits_here", "_law_depth", "_law_begin_here", "_law_least", "_law_some"]:=by
 intro vs H Q E h
 obtain ⟨b,d,g,rfl,b60,⟨d0,d1,g0,g1⟩,q⟩:=h
 have p60:=fX (k:=d.toNat) (by omega)
 have g64:g.natAbs<2^64:=by
   have:(2:Int)^60<2^64:=by decide
   omega
 refine ⟨⟨by omega,by omega,g64⟩,?_⟩
 show qg K A _ [some (.int b),some (.int d),some (.int g),some (.int (g*2^(b - d).toNat)),none] H
 generalize g*2^(b - d).toNat=le
 have mo:=cj.mono fB
 unfold qg au aB
 refine jm mo (n:=7) ?_ (by decide) fun M1 xs1 H1 S1 hM1 hl1 hx1=>?_
 · refine aA mo (gAt (A.c_NoPart) [.s "cut" dI] ⟨.inl rfl,by simp⟩ (fun R h=>h) (rfl)) fun H2 S2=>?_
   refine aA mo (gAt (A.c_NoPart) [.s "cut" dI,.i (1),.i (2)] ⟨.inl rfl,by simp⟩ (fun R h=>h) (rfl)) fun H2 S2=>?_
   refine aA mo (gAl (A.c_NoPart) [.s "cut" dI,.i (1)] ⟨.inl rfl,by simp⟩ (fun R h=>h) (rfl)) fun H2 S2=>?_
   refine aA mo (gAt (A.c_NoPart) [.s "Cut" Fi,.i (1)] ⟨.inl rfl,by simp⟩ (fun R h=>h) (EI (by decide +kernel))) fun H2 S2=>?_
   refine aA mo (gAt (A.c_NoPart) [.s "cut" dI,.i (-1)] ⟨.inl rfl,by simp⟩ (fun R h=>h) (fK (ip (.inl (by decide))))) fun H2 S2=>?_
   refine aA mo (gAt (A.c_NoPart) [.s "cut" dI,.i (10^(60:Int).toNat)] ⟨.inl rfl,by simp⟩ (fun R h=>⟨⟨by decide,by decide,by decide⟩,h⟩) (fK (ip (.inr (by decide +kernel))))) fun H2 S2=>?_
   refine aA mo (gAt (A.c_NoPart) [.s "cut" dI,.n] ⟨.inl rfl,by simp⟩ (fun R h=>h) (fK rfl)) fun H2 S2=>?_
   exact cf
 show pZ K A _ [some (.int b),some (.int d),some (.int g),some (.int le),some (.ref M1)] H1
 unfold pZ au aB
 refine bQ mo (i:=4) (σ:=[some (.int b),some (.int d),some (.int g),some (.int le),some (.ref M1)]) (a:=M1) rfl hM1 hl1 hx1 (n:=9) ?_ (by decide) fun M2 xs2 H2 S2 hM2 hl2 hx2=>?_
 · refine aA mo (gAt (A.c_NoPart) [.s "cut" dI,.b true] ⟨.inl rfl,by simp⟩ (fun R h=>h) (fK rfl)) fun H2 S2=>?_
   refine aA mo (fun R h=>⟨be (n:=1) (by decide),fun l' hl=>⟨be (n:=2) (by decide),fun p hp=>h _ _ ((ar.upd hl).trans (ar.upd hp)) ⟨.tup [.str "cut",.lst [.str "a"]],.tup ao (.cons (.str _) (.cons (.lst (ar.upd hp _ _ ao) (.cons (.str _) .nil)) .nil)),.inl ⟨by decide +kernel,by decide⟩,fK rfl⟩⟩⟩) fun H2 S2=>?_
   refine aA mo (iI (.non) (fun R h=>h) ⟨.non,.non,.inl ⟨rfl,by decide⟩,rfl⟩) fun H2 S2=>?_
   refine aA mo (gAt (A.c_NoPart) [] ⟨.inl rfl,by simp⟩ (fun R h=>h) (rfl)) fun H2 S2=>?_
   refine aA mo (iI (.str "cut") (fun R h=>h) ⟨.str "cut",.str _,.inl ⟨dI,by decide⟩,rfl⟩) fun H2 S2=>?_
   refine aA mo (iI (.int 7) (fun R h=>h) ⟨.int 7,.int _,.inl ⟨rfl,by decide⟩,rfl⟩) fun H2 S2=>?_
   refine aA mo (gAt (A.c_NoPart) [.s "bare" iW] ⟨.inl rfl,by simp⟩ (fun R h=>h) (rfl)) fun H2 S2=>?_
   refine aA mo (gAt (A.c_NoPart) [.s "leaf" cU,.i (le),.s "a" z_a] ⟨.inl rfl,by simp⟩ (fun R h=>h) (rfl)) fun H2 S2=>?_
   refine aA mo (wM fun p H1 S hp=>⟨_,.dic ⟨_,hp⟩,.inr (.inl rfl),rfl⟩) fun H2 S2=>?_
   exact cf
 show qY K A _ [some (.int b),some (.int d),some (.int g),some (.int le),some (.ref M2)] H2
 unfold qY au aB
 refine bQ mo (i:=4) (σ:=[some (.int b),some (.int d),some (.int g),some (.int le),some (.ref M2)]) (a:=M2) rfl hM2 hl2 hx2 (n:=3) ?_ (by decide) fun M3 xs3 H3 S3 hM3 hl3 hx3=>?_
 · refine aA mo (gAt (A.c_NoPart) [.s "cut" dI,.i (10^(45:Int).toNat*10^(45:Int).toNat)] ⟨.inl rfl,by simp⟩ (fun R h=>⟨⟨by decide,by decide,by decide⟩,⟨by decide,by decide,by decide⟩,IntMulOk.of_bits (by decide +kernel) (by decide +kernel),h⟩) (fK (ip (.inr (by decide +kernel))))) fun H2 S2=>?_
   refine aA mo (gAt (A.c_NoPart) [.s "cut" dI,.i (-10^(45:Int).toNat)] ⟨.inl rfl,by simp⟩ (fun R h=>⟨⟨by decide,by decide,by decide⟩,h⟩) (fK (ip (.inl (by decide +kernel))))) fun H2 S2=>?_
   refine aA mo (gAt (A.c_NoPart) [.s "cut" dI,.b false] ⟨.inl rfl,by simp⟩ (fun R h=>h) (fK rfl)) fun H2 S2=>?_
   exact cf
 show rG K A _ [some (.int b),some (.int d),some (.int g),some (.int le),some (.ref M3)] H3
 unfold rG aN
 refine bQ mo (i:=4) (σ:=[some (.int b),some (.int d),some (.int g),some (.int le),some (.ref M3)]) (a:=M3) rfl hM3 hl3 hx3 (n:=3) ?_ (by decide) fun M4 xs4 H4 S4 hM4 hl4 hx4=>q M4 xs4 H4 (S1.trans (S2.trans (S3.trans S4))) hM4 hl4 hx4
 refine aA mo (gAt (A.c_NoPart) [.s "leaf" cU,.i (le),.s "" z_e] ⟨.inl rfl,by simp⟩ (fun R h=>h) (rfl)) fun H2 S2=>?_
 refine aA mo (fun R h=>⟨be (n:=2) (by decide),fun l1 h1=>⟨be (n:=2) (by decide),fun l2 h2=>⟨be (n:=5) (by decide),fun p hp=>h _ _ ((ar.upd h1).trans ((ar.upd h2).trans (ar.upd hp))) ⟨.tup [.str "fork",.int d,.int g,.tup [.str "cut",.int 1],.tup [.str "cut",.int 2]],.tup ao (.cons (.str _) (.cons (.int _) (.cons (.int _) (.cons (.tup (ar.upd hp _ _ (ar.upd h2 _ _ ao)) (.cons (.str _) (.cons (.int _) .nil))) (.cons (.tup (ar.upd hp _ _ ao) (.cons (.str _) (.cons (.int _) .nil))) .nil))))),gz,rfl⟩⟩⟩⟩) fun H2 S2=>?_
 refine aA mo (fun R h=>⟨be (n:=1) (by decide),fun l' hl=>⟨be (n:=2) (by decide),fun p hp=>h _ _ ((ar.upd hl).trans (ar.upd hp)) ⟨.tup [.str "cut",.tup [.str "a"]],.tup ao (.cons (.str _) (.cons (.tup (ar.upd hp _ _ ao) (.cons (.str _) .nil)) .nil)),.inl ⟨by decide +kernel,by decide⟩,fK rfl⟩⟩⟩) fun H2 S2=>?_
 exact cf
def cm (b d g:Int) (x:Dat):Bool:=if dF x then decide (d=0) else cZ b d g x||cz b d g x
theorem uD {b d g:Int} {w:Dat} (h:bv "bare" w=false):cm b d g (.tup [w])=false:=by
 unfold cm
 rw [show dF (.tup [w])=false from h];rfl
theorem iF {b d g x:Int} {w z:Dat} (h:bv "leaf" w=false∨(x<0∨2^b.toNat≤x)∨dP z=false∨bd b x d≠g):cm b d g (.tup [w,.int x,z])=false:=by
 have e2:cZ b d g (.tup [w,.int x,z])=false:=by
  show (bv "leaf" w&&decide (0≤x∧x<2^b.toNat)&&dP z&&decide (bd b x d=g))=false
  rcases h with h | h | h | h
  · rw [h];rfl
  · rw [decide_eq_false (by omega:¬ (0≤x∧x<2^b.toNat))];simp
  · rw [h];simp
  · rw [decide_eq_false h];simp
 have e3:cz b d g (.tup [w,.int x,z])=false:=by cases z <;> rfl
 unfold cm
 rw [e2,e3];rfl
theorem eA {b d g e y:Int} {w m n:Dat} (h:bv "fork" w=false∨(e<d∨b≤e)∨(y<0∨2^e.toNat≤y)∨y/2^(e - d).toNat≠g):cm b d g (.tup [w,.int e,.int y,m,n])=false:=by
 show (false||(bv "fork" w&&decide (d≤e∧e<b)&&decide (0≤y∧y<2^e.toNat)&&decide (y/2^(e - d).toNat=g)))=false
 rcases h with h | h | h | h
 · rw [h];rfl
 · rw [decide_eq_false (by omega:¬ (d≤e∧e<b))];simp
 · rw [decide_eq_false (by omega:¬ (0≤y∧y<2^e.toNat))];simp
 · rw [decide_eq_false h];simp
theorem turned {x p q:Nat} (h:q≤p):(x^^^2^p)/2^q≠x/2^q:=by
 intro e
 rw [← Nat.shiftRight_eq_div_pow,←Nat.shiftRight_eq_div_pow,Nat.shiftRight_xor_distrib] at e
 have e2:2^p >>> q=2^(p - q):=by rw [Nat.shiftRight_eq_div_pow];exact Nat.pow_div h (by decide)
 rw [e2] at e
 have e3:2^(p - q)=0:=by
  have:x >>> q^^^(x >>> q^^^2^(p - q))=x >>> q^^^x >>> q:=by rw [e]
  rw [← Nat.xor_assoc,Nat.xor_self,Nat.zero_xor] at this;exact this
 have:=Nat.two_pow_pos (p - q)
 omega
theorem lm {x:Int} {p q:Nat} (x0:0≤x) (h:q≤p):Builtin.bitXor x (1*2^p)/2^q≠x/2^q:=by
 obtain ⟨y,rfl⟩:=Int.eq_ofNat_of_zero_le x0
 have e:(1:Int)*2^p=((2^p:Nat):Int):=by rw [Int.one_mul,iz]
 rw [e,kH,←iz]
 intro z
 exact turned (x:=y) h (by exact_mod_cast z)
theorem Eg (K:W.Frag) (A:Adr):Ln (qy K A) 3:=by rintro vs H Q E ⟨_,_,_,rfl,_⟩;rfl
theorem Ga (T:Txt K mg A):Rd (qy K A) (T_7 K A) ["_law_bits_here", "_law_depth", "_law_begin_here", "_law_wide", "_law_least", "_law_some"]:=by
 intro vs H Q E h
 obtain ⟨b,d,g,rfl,b60,⟨d0,d1,g0,g1⟩,q⟩:=h
 have p60:=fX (k:=d.toNat) (by omega)
 have g64:g.natAbs<2^64:=by
   have:(2:Int)^60<2^64:=by decide
   omega
 refine ⟨⟨by omega,by omega,by decide⟩,gL g0 (by omega),?_⟩
 obtain ⟨wd,hwd⟩:∃ wd:Int,wd=1*2^(b - d).toNat:=⟨_,rfl⟩
 rw [← hwd]
 show qt K A _ [some (.int b),some (.int d),some (.int g),some (.int wd),some (.int (g*wd)),none] H
 obtain ⟨le,hle⟩:∃ le:Int,le=g*wd:=⟨_,rfl⟩
 rw [← hle]
 have wd0:0<wd:=by rw [hwd,Int.one_mul];exact cR _
 have le0:0≤le:=by rw [hle];exact Int.mul_nonneg g0 (by omega)
 have pb:=cR b.toNat
 have q60:=fX (k:=b.toNat) (by omega)
 have far:2^b.toNat≤(10:Int)^(45:Int).toNat*10^(45:Int).toNat:=by
   have:(2:Int)^60<10^(45:Int).toNat*10^(45:Int).toNat:=by decide +kernel
   omega
 have sp2:(2:Int)^b.toNat=2^d.toNat*wd:=by
   rw [hwd,Int.one_mul,←Int.pow_add];congr 1;omega
 have dl:le/wd=g:=by rw [hle];exact Int.mul_ediv_cancel _ (by omega)
 have sI:∀ x,bd b x d=x/wd:=fun x=>by unfold bd;rw [hwd,Int.one_mul]
 have mo:=cj.mono (cm b d g)
 unfold qt au aB
 refine jm mo (n:=13) ?_ (by decide) fun M1 xs1 H1 S1 hM1 hl1 hx1=>?_
 · refine aA mo (gAt (A.c_NoPart) [.s "cut" dI,.i (5)] ⟨.inl rfl,by simp⟩ (fun R h=>h) (rfl)) fun H2 S2=>?_
   refine aA mo (gAt (A.c_NoPart) [.s "cut" dI,.s "m" z_m] ⟨.inl rfl,by simp⟩ (fun R h=>h) (rfl)) fun H2 S2=>?_
   refine aA mo (gAt (A.c_NoPart) [.s "cut" dI] ⟨.inl rfl,by simp⟩ (fun R h=>h) (uD (by decide +kernel))) fun H2 S2=>?_
   refine aA mo (iI (.non) (fun R h=>h) ⟨.non,.non,.inl ⟨rfl,by decide⟩,rfl⟩) fun H2 S2=>?_
   refine aA mo (gAt (A.c_NoPart) [] ⟨.inl rfl,by simp⟩ (fun R h=>h) (rfl)) fun H2 S2=>?_
   refine aA mo (gAl (A.c_NoPart) [] ⟨.inl rfl,by simp⟩ (fun R h=>h) (rfl)) fun H2 S2=>?_
   refine aA mo (iI (.str "bare") (fun R h=>h) ⟨.str "bare",.str _,.inl ⟨iW,by decide⟩,rfl⟩) fun H2 S2=>?_
   refine aA mo (iI (.int 0) (fun R h=>h) ⟨.int 0,.int _,.inl ⟨rfl,by decide⟩,rfl⟩) fun H2 S2=>?_
   refine aA mo (iI (.bl true) (fun R h=>h) ⟨.bl true,.bl _,.inl ⟨rfl,by decide⟩,rfl⟩) fun H2 S2=>?_
   refine aA mo (wM fun p H1 S hp=>⟨_,.dic ⟨_,hp⟩,.inr (.inl rfl),rfl⟩) fun H2 S2=>?_
   refine aA mo (gAl (A.c_NoPart) [.s "bare" iW] ⟨.inl rfl,by simp⟩ (fun R h=>h) (rfl)) fun H2 S2=>?_
   refine aA mo (gAt (A.c_NoPart) [.s "bare" iW,.i (1)] ⟨.inl rfl,by simp⟩ (fun R h=>h) (rfl)) fun H2 S2=>?_
   refine aA mo (gAt (A.c_NoPart) [.s "" z_e] ⟨.inl rfl,by simp⟩ (fun R h=>h) (uD (by decide +kernel))) fun H2 S2=>?_
   exact cf
 show qe K A _ [some (.int b),some (.int d),some (.int g),some (.int wd),some (.int le),some (.ref M1)] H1
 unfold qe au aB
 refine bQ mo (i:=5) (σ:=[some (.int b),some (.int d),some (.int g),some (.int wd),some (.int le),some (.ref M1)]) (a:=M1) rfl hM1 hl1 hx1 (n:=4) ?_ (by decide) fun M2 xs2 H2 S2 hM2 hl2 hx2=>?_
 · refine aA mo (gAt (A.c_NoPart) [.s "leaf" cU,.i (le)] ⟨.inl rfl,by simp⟩ (fun R h=>h) (rfl)) fun H2 S2=>?_
   refine aA mo (gAt (A.c_NoPart) [.s "leaf" cU,.i (le),.s "a" z_a,.s "" z_e] ⟨.inl rfl,by simp⟩ (fun R h=>h) (rfl)) fun H2 S2=>?_
   refine aA mo (gAl (A.c_NoPart) [.s "leaf" cU,.i (le),.s "a" z_a] ⟨.inl rfl,by simp⟩ (fun R h=>h) (rfl)) fun H2 S2=>?_
   refine aA mo (gAt (A.c_NoPart) [.s "Leaf" Bk,.i (le),.s "a" z_a] ⟨.inl rfl,by simp⟩ (fun R h=>h) (iF (.inl (by decide +kernel)))) fun H2 S2=>?_
   exact cf
 show qH K A _ [some (.int b),some (.int d),some (.int g),some (.int wd),some (.int le),some (.ref M2)] H2
 unfold qH au aB
 refine bQ mo (i:=5) (σ:=[some (.int b),some (.int d),some (.int g),some (.int wd),some (.int le),some (.ref M2)]) (a:=M2) rfl hM2 hl2 hx2 (n:=4) ?_ (by decide) fun M3 xs3 H3 S3 hM3 hl3 hx3=>?_
 · refine aA mo (fun R h=>⟨⟨by decide,by decide,by decide +kernel⟩,be (n:=3) (by decide),fun p hp=>h _ _ (ar.upd hp) ⟨.tup [.str "leaf",.int le,.str (Txt.mul "a" 61)],.tup ao (.cons (.str _) (.cons (.int _) (.cons (.str _) .nil))),.inl ⟨by show (okD (.str "leaf")&&(true&&(okD (.str (Txt.mul "a" 61))&&true)))=true;decide +kernel,by show max 0 (max 0 (max 0 0))+1≤140;decide⟩,iF (.inr (.inr (.inl (by decide +kernel))))⟩⟩) fun H2 S2=>?_
   refine aA mo (gAt (A.c_NoPart) [.s "leaf" cU,.i (le),.n] ⟨.inl rfl,by simp⟩ (fun R h=>h) (iF (.inr (.inr (.inl rfl))))) fun H2 S2=>?_
   refine aA mo (gAt (A.c_NoPart) [.s "leaf" cU,.n,.s "a" z_a] ⟨.inl rfl,by simp⟩ (fun R h=>h) (rfl)) fun H2 S2=>?_
   refine aA mo (gAt (A.c_NoPart) [.s "leaf" cU,.b true,.s "a" z_a] ⟨.inl rfl,by simp⟩ (fun R h=>h) (rfl)) fun H2 S2=>?_
   exact cf
 show ql K A _ [some (.int b),some (.int d),some (.int g),some (.int wd),some (.int le),some (.ref M3)] H3
 unfold ql au aB
 refine bQ mo (i:=5) (σ:=[some (.int b),some (.int d),some (.int g),some (.int wd),some (.int le),some (.ref M3)]) (a:=M3) rfl hM3 hl3 hx3 (n:=4) ?_ (by decide) fun M4 xs4 H4 S4 hM4 hl4 hx4=>?_
 · refine aA mo (gAt (A.c_NoPart) [.s "leaf" cU,.i (-1),.s "" z_e] ⟨.inl rfl,by simp⟩ (fun R h=>h) (iF (.inr (.inl (.inl (by decide)))))) fun H2 S2=>?_
   refine aA mo (gAt (A.c_NoPart) [.s "leaf" cU,.i (1*2^b.toNat),.s "" z_e] ⟨.inl rfl,by simp⟩ (fun R h=>⟨⟨by omega,by omega,by decide⟩,h⟩) (iF (.inr (.inl (.inr (by omega)))))) fun H2 S2=>?_
   refine aA mo (gAt (A.c_NoPart) [.s "leaf" cU,.i (le+1*2^b.toNat),.s "a" z_a] ⟨.inl rfl,by simp⟩ (fun R h=>⟨⟨by omega,by omega,by decide⟩,h⟩) (iF (.inr (.inl (.inr (by omega)))))) fun H2 S2=>?_
   refine aA mo (fun R h=>⟨be (n:=0) (by decide),fun l' hl=>⟨be (n:=3) (by decide),fun p hp=>h _ _ ((ar.upd hl).trans (ar.upd hp)) ⟨.tup [.str "leaf",.lst [],.str "a"],.tup ao (.cons (.str _) (.cons (.lst (ar.upd hp _ _ ao) .nil) (.cons (.str _) .nil))),.inl ⟨by decide +kernel,by decide⟩,rfl⟩⟩⟩) fun H2 S2=>?_
   exact cf
 show qK K A _ [some (.int b),some (.int d),some (.int g),some (.int wd),some (.int le),some (.ref M4)] H4
 unfold qK au aB
 refine bQ mo (i:=5) (σ:=[some (.int b),some (.int d),some (.int g),some (.int wd),some (.int le),some (.ref M4)]) (a:=M4) rfl hM4 hl4 hx4 (n:=2) ?_ (by decide) fun M5 xs5 H5 S5 hM5 hl5 hx5=>?_
 · refine aA mo (gAt (A.c_NoPart) [.s "leaf" cU,.b (decide (0<le)),.s "a" z_a] ⟨.inl rfl,by simp⟩ (fun R h=>h) (rfl)) fun H2 S2=>?_
   refine aA mo (gAt (A.c_NoPart) [.s "leaf" cU,.i (10^(45:Int).toNat*10^(45:Int).toNat),.s "a" z_a] ⟨.inl rfl,by simp⟩ (fun R h=>⟨⟨by decide,by decide,by decide⟩,⟨by decide,by decide,by decide⟩,IntMulOk.of_bits (by decide +kernel) (by decide +kernel),h⟩) (iF (.inr (.inl (.inr far))))) fun H2 S2=>?_
   exact cf
 have SS:=S1.trans (S2.trans (S3.trans (S4.trans S5)))
 refine Sel.dec (fun hd=>?_) (fun hd=>q M5 xs5 H5 SS hM5 (by omega) (by omega) hx5)
 have hn1:bd b ((le+wd)%(1*2^b.toNat)) d≠g:=by
   have d2:(2:Int)≤2^d.toNat:=by
     obtain ⟨m,hm⟩:∃ m,d.toNat=m+1:=⟨d.toNat - 1,by omega⟩
     rw [hm,Int.pow_succ];have:=cR m;omega
   have e1:le+wd=(g+1)*wd:=by rw [hle,Int.add_mul,Int.one_mul]
   rw [sI,Int.one_mul,sp2,e1]
   by_cases hg:g+1<2^d.toNat
   · rw [Int.emod_eq_of_lt (Int.mul_nonneg (by omega) (by omega)) (Int.mul_lt_mul_of_pos_right hg wd0),Int.mul_ediv_cancel _ (by omega)];omega
   · have:g+1=2^d.toNat:=by omega
     rw [this,Int.emod_self,Int.zero_ediv];omega
 have hn2:bd b (Builtin.bitXor le wd) d≠g:=by
   have:=lm (x:=le) (p:=(b - d).toNat) (q:=(b - d).toNat) le0 (Nat.le_refl _)
   rw [sI,←dl]
   rw [← hwd] at this
   have w2:(2:Int)^(b - d).toNat=wd:=by rw [hwd,Int.one_mul]
   rw [w2] at this
   exact this
 refine bQ mo (i:=5) (σ:=[some (.int b),some (.int d),some (.int g),some (.int wd),some (.int le),some (.ref M5)]) (a:=M5) rfl hM5 hl5 hx5 (n:=3) ?_ (by decide) fun M6 xs6 H6 S6 hM6 hl6 hx6=>q M6 xs6 H6 (SS.trans S6) hM6 (by omega) (by omega) hx6
 refine aA mo (gAt (A.c_NoPart) [.s "bare" iW] ⟨.inl rfl,by simp⟩ (fun R h=>h) (by show (if dF (.tup [.str "bare"]) then decide (d=0) else _)=false;rw [if_pos (by decide +kernel)];exact decide_eq_false (by omega))) fun H2 S2=>?_
 refine aA mo (gAt (A.c_NoPart) [.s "leaf" cU,.i ((le+wd)%(1*2^b.toNat)),.s "a" z_a] ⟨.inl rfl,by simp⟩ (fun R h=>⟨⟨by omega,by omega,by decide⟩,by omega,h⟩) (iF (.inr (.inr (.inr hn1))))) fun H2 S2=>?_
 refine aA mo (gAt (A.c_NoPart) [.s "leaf" cU,.i (Builtin.bitXor le wd),.s "" z_e] ⟨.inl rfl,by simp⟩ (fun R h=>h) (iF (.inr (.inr (.inr hn2))))) fun H2 S2=>?_
 exact cf
structure FkC (b d g:Int):Prop where
 b60:b≤60
 d0:0≤d
 d1:d≤b
 g0:0≤g
 g1:g<2^d.toNat
 g64:g.natAbs<2^64
theorem Cw {b d g:Int} {H:Hp} {la:Addr} {x4 x5:Option V} (c:FkC b d g) (wl:aR H (.ref la) cG):cB (aa (aE (aa (tC (.str "fork")) (aa (tOp (cw) (af 1) (tC (.int 1))) (aa (tOp (gw) (af 2) (tC (.int 1))) (aa (af 3) (aa (af 3) (aj))))))) (aa (aE (aa (tC (.str "fork")) (aa (af 0) (aa (tOp (cy) (af 2) (tOp (cw) (af 0) (af 1))) (aa (af 3) (aa (af 3) (aj))))))) (aj))) [some (.int b),some (.int d),some (.int g),some (.ref la),x4,x5] H (cj (cm b d g)) 2:=by
 have mo:=cj.mono (cm b d g)
 obtain ⟨b60,d0,d1,g0,g1,g64⟩:=c
 refine aA mo (gAt (la) [.s "fork" bX,.i (d - 1),.i (g/2^(1:Int).toNat),.l,.l] ⟨.inr wl,by simp⟩ (fun R h=>⟨by decide,h⟩) (eA (.inr (.inl (.inl (by omega)))))) fun H2 S2=>?_
 replace wl:=wl.mono S2
 refine aA mo (gAt (la) [.s "fork" bX,.i (b),.i (g*2^(b - d).toNat),.l,.l] ⟨.inr wl,by simp⟩ (fun R h=>⟨⟨by omega,by omega,g64⟩,h⟩) (eA (.inr (.inl (.inr (by omega)))))) fun H2 S2=>?_
 replace wl:=wl.mono S2
 exact cf
theorem Du {b d g:Int} {H:Hp} {la:Addr} {x4 x5:Option V} (c:FkC b d g) (wl:aR H (.ref la) cG):cB (aa (aE (aa (tC (.str "fork")) (aa (tC .non) (aa (af 2) (aa (af 3) (aa (af 3) (aj))))))) (aa (aE (aa (tC (.str "fork")) (aa (tC (.str "0")) (aa (af 2) (aa (af 3) (aa (af 3) (aj))))))) (aa (aE (aa (tC (.str "fork")) (aj))) (aj)))) [some (.int b),some (.int d),some (.int g),some (.ref la),x4,x5] H (cj (cm b d g)) 3:=by
 have mo:=cj.mono (cm b d g)
 obtain ⟨b60,d0,d1,g0,g1,g64⟩:=c
 refine aA mo (gAt (la) [.s "fork" bX,.n,.i (g),.l,.l] ⟨.inr wl,by simp⟩ (fun R h=>h) (rfl)) fun H2 S2=>?_
 replace wl:=wl.mono S2
 refine aA mo (gAt (la) [.s "fork" bX,.s "0" z_0,.i (g),.l,.l] ⟨.inr wl,by simp⟩ (fun R h=>h) (rfl)) fun H2 S2=>?_
 replace wl:=wl.mono S2
 refine aA mo (gAt (la) [.s "fork" bX] ⟨.inr wl,by simp⟩ (fun R h=>h) (uD (by decide +kernel))) fun H2 S2=>?_
 replace wl:=wl.mono S2
 exact cf
theorem CO {b d g:Int} {H:Hp} {la:Addr} {x4 x5:Option V} (c:FkC b d g) (wl:aR H (.ref la) cG):cB (aa (aE (aa (tC (.str "fork")) (aa (af 1) (aa (af 2) (aa (af 3) (aj)))))) (aa (aE (aa (tC (.str "fork")) (aa (af 1) (aa (af 2) (aa (af 3) (aa (af 3) (aa (af 3) (aj)))))))) (aj))) [some (.int b),some (.int d),some (.int g),some (.ref la),x4,x5] H (cj (cm b d g)) 2:=by
 have mo:=cj.mono (cm b d g)
 obtain ⟨b60,d0,d1,g0,g1,g64⟩:=c
 refine aA mo (gAt (la) [.s "fork" bX,.i (d),.i (g),.l] ⟨.inr wl,by simp⟩ (fun R h=>h) (rfl)) fun H2 S2=>?_
 replace wl:=wl.mono S2
 refine aA mo (gAt (la) [.s "fork" bX,.i (d),.i (g),.l,.l,.l] ⟨.inr wl,by simp⟩ (fun R h=>h) (rfl)) fun H2 S2=>?_
 replace wl:=wl.mono S2
 exact cf
theorem CD {b d g:Int} {H:Hp} {la:Addr} {x4 x5:Option V} (c:FkC b d g) (wl:aR H (.ref la) cG):cB (aa (aE (aa (tC (.str "Fork")) (aa (af 1) (aa (af 2) (aa (af 3) (aa (af 3) (aj))))))) (aj)) [some (.int b),some (.int d),some (.int g),some (.ref la),x4,x5] H (cj (cm b d g)) 1:=by
 have mo:=cj.mono (cm b d g)
 obtain ⟨b60,d0,d1,g0,g1,g64⟩:=c
 refine aA mo (gAt (la) [.s "Fork" zk,.i (d),.i (g),.l,.l] ⟨.inr wl,by simp⟩ (fun R h=>h) (eA (.inl (by decide +kernel)))) fun H2 S2=>?_
 replace wl:=wl.mono S2
 exact cf
theorem Fp {b d g:Int} {H:Hp} {la:Addr} {x4 x5:Option V} (c:FkC b d g) (wl:aR H (.ref la) cG):cB (aa (bq (aa (tC (.str "fork")) (aa (af 1) (aa (af 2) (aa (af 3) (aa (af 3) (aj))))))) (aa (aE (aa (tC (.str "fork")) (aa (af 1) (aa (tC .non) (aa (af 3) (aa (af 3) (aj))))))) (aj))) [some (.int b),some (.int d),some (.int g),some (.ref la),x4,x5] H (cj (cm b d g)) 2:=by
 have mo:=cj.mono (cm b d g)
 obtain ⟨b60,d0,d1,g0,g1,g64⟩:=c
 refine aA mo (gAl (la) [.s "fork" bX,.i (d),.i (g),.l,.l] ⟨.inr wl,by simp⟩ (fun R h=>h) (rfl)) fun H2 S2=>?_
 replace wl:=wl.mono S2
 refine aA mo (gAt (la) [.s "fork" bX,.i (d),.n,.l,.l] ⟨.inr wl,by simp⟩ (fun R h=>h) (rfl)) fun H2 S2=>?_
 replace wl:=wl.mono S2
 exact cf
theorem Fk {b d g:Int} {H:Hp} {la:Addr} {x4 x5:Option V} (c:FkC b d g) (wl:aR H (.ref la) cG):cB (aa (aE (aa (tC (.str "fork")) (aa (af 1) (aa (tUn dQ (tC (.int 1))) (aa (af 3) (aa (af 3) (aj))))))) (aa (aE (aa (tC (.str "fork")) (aa (tC (.bl false)) (aa (tC (.int 0)) (aa (af 3) (aa (af 3) (aj))))))) (aj))) [some (.int b),some (.int d),some (.int g),some (.ref la),x4,x5] H (cj (cm b d g)) 2:=by
 have mo:=cj.mono (cm b d g)
 obtain ⟨b60,d0,d1,g0,g1,g64⟩:=c
 refine aA mo (gAt (la) [.s "fork" bX,.i (d),.i (-1),.l,.l] ⟨.inr wl,by simp⟩ (fun R h=>h) (eA (.inr (.inr (.inl (.inl (by decide))))))) fun H2 S2=>?_
 replace wl:=wl.mono S2
 refine aA mo (gAt (la) [.s "fork" bX,.b false,.i (0),.l,.l] ⟨.inr wl,by simp⟩ (fun R h=>h) (rfl)) fun H2 S2=>?_
 replace wl:=wl.mono S2
 exact cf
theorem Fd {b d g:Int} {H:Hp} {la:Addr} {x4 x5:Option V} (c:FkC b d g) (wl:aR H (.ref la) cG):cB (aa (aE (aa (tC (.str "fork")) (aa (af 1) (aa (tOp (mGt) (af 2) (tC (.int 0))) (aa (af 3) (aa (af 3) (aj))))))) (aa (aE (aa (tC (.str "fork")) (aa (tOp (mGt) (af 1) (tC (.int 0))) (aa (af 2) (aa (af 3) (aa (af 3) (aj))))))) (aj))) [some (.int b),some (.int d),some (.int g),some (.ref la),x4,x5] H (cj (cm b d g)) 2:=by
 have mo:=cj.mono (cm b d g)
 obtain ⟨b60,d0,d1,g0,g1,g64⟩:=c
 refine aA mo (gAt (la) [.s "fork" bX,.i (d),.b (decide (0<g)),.l,.l] ⟨.inr wl,by simp⟩ (fun R h=>h) (rfl)) fun H2 S2=>?_
 replace wl:=wl.mono S2
 refine aA mo (gAt (la) [.s "fork" bX,.b (decide (0<d)),.i (g),.l,.l] ⟨.inr wl,by simp⟩ (fun R h=>h) (rfl)) fun H2 S2=>?_
 replace wl:=wl.mono S2
 exact cf
theorem EO {b d g:Int} {H:Hp} {la:Addr} {x4:Option V} {fa:Int} (c:FkC b d g) (wl:aR H (.ref la) cG) (hfa:2^60<fa∧60<fa):cB (aa (aE (aa (tC (.str "fork")) (aa (af 5) (aa (af 2) (aa (af 3) (aa (af 3) (aj))))))) (aa (aE (aa (tC (.str "fork")) (aa (af 1) (aa (af 5) (aa (af 3) (aa (af 3) (aj))))))) (aj))) [some (.int b),some (.int d),some (.int g),some (.ref la),x4,some (.int fa)] H (cj (cm b d g)) 2:=by
 have mo:=cj.mono (cm b d g)
 obtain ⟨b60,d0,d1,g0,g1,g64⟩:=c
 have p60:=fX (k:=d.toNat) (by omega)
 refine aA mo (gAt (la) [.s "fork" bX,.i (fa),.i (g),.l,.l] ⟨.inr wl,by simp⟩ (fun R h=>h) (eA (.inr (.inl (.inr (by omega)))))) fun H2 S2=>?_
 replace wl:=wl.mono S2
 refine aA mo (gAt (la) [.s "fork" bX,.i (d),.i (fa),.l,.l] ⟨.inr wl,by simp⟩ (fun R h=>h) (eA (.inr (.inr (.inl (.inr (by omega))))))) fun H2 S2=>?_
 replace wl:=wl.mono S2
 exact cf
theorem zC {b d g:Int} {H:Hp} {la:Addr} {x4:Option V} {fa:Int} (c:FkC b d g) (wl:aR H (.ref la) cG) (hfa:2^60<fa∧60<fa):cB (aa (aE (aa (tC (.str "fork")) (aa (tUn dQ (af 5)) (aa (af 2) (aa (af 3) (aa (af 3) (aj))))))) (aa (aE (aa (tC (.str "fork")) (aa (af 1) (aa (tUn dQ (af 5)) (aa (af 3) (aa (af 3) (aj))))))) (aj))) [some (.int b),some (.int d),some (.int g),some (.ref la),x4,some (.int fa)] H (cj (cm b d g)) 2:=by
 have mo:=cj.mono (cm b d g)
 obtain ⟨b60,d0,d1,g0,g1,g64⟩:=c
 have p60:=fX (k:=d.toNat) (by omega)
 refine aA mo (gAt (la) [.s "fork" bX,.i (-fa),.i (g),.l,.l] ⟨.inr wl,by simp⟩ (fun R h=>h) (eA (.inr (.inl (.inl (by omega)))))) fun H2 S2=>?_
 replace wl:=wl.mono S2
 refine aA mo (gAt (la) [.s "fork" bX,.i (d),.i (-fa),.l,.l] ⟨.inr wl,by simp⟩ (fun R h=>h) (eA (.inr (.inr (.inl (.inl (by omega))))))) fun H2 S2=>?_
 replace wl:=wl.mono S2
 exact cf
theorem Ab {b d g:Int} {H:Hp} {la:Addr} {x4:Option V} {fa:Int} (c:FkC b d g) (wl:aR H (.ref la) cG):cB (aa (aE (aa (tC (.str "fork")) (aa (tOp (aH K) (af 0) (tC (.int 3))) (aa (tOp (cy) (af 2) (tOp (cw) (tOp (aH K) (af 0) (tC (.int 3))) (af 1))) (aa (af 3) (aa (af 3) (aj))))))) (aa (aE (aa (tC (.str "fork")) (aa (tOp (aH K) (af 0) (tC (.int 1))) (aa (tC (.int 0)) (aa (af 3) (aa (af 3) (aj))))))) (aj))) [some (.int b),some (.int d),some (.int g),some (.ref la),x4,some (.int fa)] H (cj (cm b d g)) 2:=by
 have mo:=cj.mono (cm b d g)
 obtain ⟨b60,d0,d1,g0,g1,g64⟩:=c
 refine aA mo (gAt (la) [.s "fork" bX,.i (b+3),.i (g*2^(b+3 - d).toNat),.l,.l] ⟨.inr wl,by simp⟩ (fun R h=>⟨⟨by omega,by omega,g64⟩,h⟩) (eA (.inr (.inl (.inr (by omega)))))) fun H2 S2=>?_
 replace wl:=wl.mono S2
 refine aA mo (gAt (la) [.s "fork" bX,.i (b+1),.i (0),.l,.l] ⟨.inr wl,by simp⟩ (fun R h=>h) (eA (.inr (.inl (.inr (by omega)))))) fun H2 S2=>?_
 replace wl:=wl.mono S2
 exact cf
theorem AY {b d g:Int} {H:Hp} {la:Addr} {x4:Option V} {fa:Int} (c:FkC b d g) (wl:aR H (.ref la) cG):cB (aa (aE (aa (tC (.str "fork")) (aa (af 1) (aa (tOp (aH K) (af 2) (tOp (cy) (tC (.int 1)) (af 1))) (aa (af 3) (aa (af 3) (aj))))))) (aj)) [some (.int b),some (.int d),some (.int g),some (.ref la),x4,some (.int fa)] H (cj (cm b d g)) 1:=by
 have mo:=cj.mono (cm b d g)
 obtain ⟨b60,d0,d1,g0,g1,g64⟩:=c
 refine aA mo (gAt (la) [.s "fork" bX,.i (d),.i (g+1*2^d.toNat),.l,.l] ⟨.inr wl,by simp⟩ (fun R h=>⟨⟨by omega,by omega,by decide⟩,h⟩) (eA (.inr (.inr (.inl (.inr (by omega))))))) fun H2 S2=>?_
 replace wl:=wl.mono S2
 exact cf
theorem EJ {b d g:Int} {H:Hp} {la:Addr} {x4:Option V} {fa:Int} (c:FkC b d g) (wl:aR H (.ref la) cG) (hd:0<d):cB (aa (aE (aa (tC (.str "fork")) (aa (af 1) (aa (tOp (gM) (af 2) (tC (.int 1))) (aa (af 3) (aa (af 3) (aj))))))) (aa (aE (aa (tC (.str "fork")) (aa (tOp (aH K) (af 1) (tC (.int 1))) (aa (tOp (bA) (tC (.int 2)) (tOp (gM) (af 2) (tC (.int 1)))) (aa (af 3) (aa (af 3) (aj))))))) (aj))) [some (.int b),some (.int d),some (.int g),some (.ref la),x4,some (.int fa)] H (cj (cm b d g)) 2:=by
 have mo:=cj.mono (cm b d g)
 obtain ⟨b60,d0,d1,g0,g1,g64⟩:=c
 have x0:Builtin.bitXor g 1≠g:=by
  have:=lm (x:=g) (p:=0) (q:=0) g0 (Nat.le_refl _)
  simpa using this
 have hx0:Builtin.bitXor g 1/2^(d - d).toNat≠g:=by
  have:(d - d).toNat=0:=by omega
  rw [this];simpa using x0
 have e1:(d+1 - d).toNat=1:=by omega
 have hx1:2*Builtin.bitXor g 1/2^(d+1 - d).toNat≠g:=by rw [e1];show 2*Builtin.bitXor g 1/2≠g;omega
 have hx2:(2*Builtin.bitXor g 1+1)/2^(d+1 - d).toNat≠g:=by rw [e1];show (2*Builtin.bitXor g 1+1)/2≠g;omega
 refine aA mo (gAt (la) [.s "fork" bX,.i (d),.i (Builtin.bitXor g 1),.l,.l] ⟨.inr wl,by simp⟩ (fun R h=>h) (eA (.inr (.inr (.inr (hx0)))))) fun H2 S2=>?_
 replace wl:=wl.mono S2
 refine aA mo (gAt (la) [.s "fork" bX,.i (d+1),.i (2*Builtin.bitXor g 1),.l,.l] ⟨.inr wl,by simp⟩ (fun R h=>⟨IntMulOk.of_left (by decide),h⟩) (eA (.inr (.inr (.inr (hx1)))))) fun H2 S2=>?_
 replace wl:=wl.mono S2
 exact cf
theorem DT {b d g:Int} {H:Hp} {la:Addr} {x4:Option V} {fa:Int} (c:FkC b d g) (wl:aR H (.ref la) cG) (hd:0<d):cB (aa (aE (aa (tC (.str "fork")) (aa (tOp (aH K) (af 1) (tC (.int 1))) (aa (tOp (aH K) (tOp (bA) (tC (.int 2)) (tOp (gM) (af 2) (tC (.int 1)))) (tC (.int 1))) (aa (af 3) (aa (af 3) (aj))))))) (aa (aE (aa (tC (.str "fork")) (aa (tC (.int 0)) (aa (tC (.int 0)) (aa (af 3) (aa (af 3) (aj))))))) (aj))) [some (.int b),some (.int d),some (.int g),some (.ref la),x4,some (.int fa)] H (cj (cm b d g)) 2:=by
 have mo:=cj.mono (cm b d g)
 obtain ⟨b60,d0,d1,g0,g1,g64⟩:=c
 have x0:Builtin.bitXor g 1≠g:=by
  have:=lm (x:=g) (p:=0) (q:=0) g0 (Nat.le_refl _)
  simpa using this
 have hx0:Builtin.bitXor g 1/2^(d - d).toNat≠g:=by
  have:(d - d).toNat=0:=by omega
  rw [this];simpa using x0
 have e1:(d+1 - d).toNat=1:=by omega
 have hx1:2*Builtin.bitXor g 1/2^(d+1 - d).toNat≠g:=by rw [e1];show 2*Builtin.bitXor g 1/2≠g;omega
 have hx2:(2*Builtin.bitXor g 1+1)/2^(d+1 - d).toNat≠g:=by rw [e1];show (2*Builtin.bitXor g 1+1)/2≠g;omega
 refine aA mo (gAt (la) [.s "fork" bX,.i (d+1),.i (2*Builtin.bitXor g 1+1),.l,.l] ⟨.inr wl,by simp⟩ (fun R h=>⟨IntMulOk.of_left (by decide),h⟩) (eA (.inr (.inr (.inr (hx2)))))) fun H2 S2=>?_
 replace wl:=wl.mono S2
 refine aA mo (gAt (la) [.s "fork" bX,.i (0),.i (0),.l,.l] ⟨.inr wl,by simp⟩ (fun R h=>h) (eA (.inr (.inl (.inl (by omega)))))) fun H2 S2=>?_
 replace wl:=wl.mono S2
 exact cf
theorem Co (K:W.Frag) (A:Adr):Ln (rf K A) 3:=by rintro vs H Q E ⟨_,_,_,rfl,_⟩;rfl
theorem Hd (T:Txt K mg A):Rd (rf K A) (T_6 K A) ["_law_bits_here", "_law_depth", "_law_begin_here", "_law_leaf", "_law_some", "_law_far"]:=by
 intro vs H Q E h
 obtain ⟨b,d,g,rfl,b60,⟨d0,d1,g0,g1⟩,q⟩:=h
 have p60:=fX (k:=d.toNat) (by omega)
 have g64:g.natAbs<2^64:=by
  have:(2:Int)^60<2^64:=by decide
  omega
 have c:FkC b d g:=⟨b60,d0,d1,g0,g1,g64⟩
 have mo:=cj.mono (cm b d g)
 refine ⟨be (n:=3) (by decide),fun la hla=>?_⟩
 have SS:=ar.upd (o:=.tup [.str "leaf",.int 0,.str ""]) hla
 have wl:aR (upd H la (.tup [.str "leaf",.int 0,.str ""])) (.ref la) cG:=.tup ao (.cons (.str _) (.cons (.int _) (.cons (.str _) .nil)))
 show qQ K A _ [some (.int b),some (.int d),some (.int g),some (.ref la),none,none] (upd H la (.tup [.str "leaf",.int 0,.str ""]))
 generalize upd H la (.tup [.str "leaf",.int 0,.str ""])=H0 at SS wl
 unfold qQ au aB
 refine jm mo (Cw c wl) (by decide) fun M1 xs1 H1 S1 hM1 hl1 hx1=>?_
 replace wl:=wl.mono S1
 replace SS:=SS.trans S1
 show rk K A _ [some (.int b),some (.int d),some (.int g),some (.ref la),some (.ref M1),none] H1
 unfold rk au aB
 refine bQ mo (i:=4) (σ:=[some (.int b),some (.int d),some (.int g),some (.ref la),some (.ref M1),none]) (a:=M1) rfl hM1 hl1 hx1 (Du c wl) (by decide) fun M2 xs2 H2 S2 hM2 hl2 hx2=>?_
 replace wl:=wl.mono S2
 replace SS:=SS.trans S2
 show qz K A _ [some (.int b),some (.int d),some (.int g),some (.ref la),some (.ref M2),none] H2
 unfold qz au aB
 refine bQ mo (i:=4) (σ:=[some (.int b),some (.int d),some (.int g),some (.ref la),some (.ref M2),none]) (a:=M2) rfl hM2 hl2 hx2 (CO c wl) (by decide) fun M3 xs3 H3 S3 hM3 hl3 hx3=>?_
 replace wl:=wl.mono S3
 replace SS:=SS.trans S3
 show rp K A _ [some (.int b),some (.int d),some (.int g),some (.ref la),some (.ref M3),none] H3
 unfold rp au aB
 refine bQ mo (i:=4) (σ:=[some (.int b),some (.int d),some (.int g),some (.ref la),some (.ref M3),none]) (a:=M3) rfl hM3 hl3 hx3 (CD c wl) (by decide) fun M4 xs4 H4 S4 hM4 hl4 hx4=>?_
 replace wl:=wl.mono S4
 replace SS:=SS.trans S4
 show qO K A _ [some (.int b),some (.int d),some (.int g),some (.ref la),some (.ref M4),none] H4
 unfold qO au aB
 refine bQ mo (i:=4) (σ:=[some (.int b),some (.int d),some (.int g),some (.ref la),some (.ref M4),none]) (a:=M4) rfl hM4 hl4 hx4 (Fp c wl) (by decide) fun M5 xs5 H5 S5 hM5 hl5 hx5=>?_
 replace wl:=wl.mono S5
 replace SS:=SS.trans S5
 show qd K A _ [some (.int b),some (.int d),some (.int g),some (.ref la),some (.ref M5),none] H5
 unfold qd au aB
 refine bQ mo (i:=4) (σ:=[some (.int b),some (.int d),some (.int g),some (.ref la),some (.ref M5),none]) (a:=M5) rfl hM5 hl5 hx5 (Fk c wl) (by decide) fun M6 xs6 H6 S6 hM6 hl6 hx6=>?_
 replace wl:=wl.mono S6
 replace SS:=SS.trans S6
 show qw K A _ [some (.int b),some (.int d),some (.int g),some (.ref la),some (.ref M6),none] H6
 unfold qw au aB
 refine bQ mo (i:=4) (σ:=[some (.int b),some (.int d),some (.int g),some (.ref la),some (.ref M6),none]) (a:=M6) rfl hM6 hl6 hx6 (Fd c wl) (by decide) fun M7 xs7 H7 S7 hM7 hl7 hx7=>?_
 replace wl:=wl.mono S7
 replace SS:=SS.trans S7
 show wR K A _ [some (.int b),some (.int d),some (.int g),some (.ref la),some (.ref M7),none] H7
 refine ⟨⟨by decide,by decide,by decide⟩,⟨by decide,by decide,by decide⟩,IntMulOk.of_bits (by decide +kernel) (by decide +kernel),?_⟩
 show mM K A _ [some (.int b),some (.int d),some (.int g),some (.ref la),some (.ref M7),some (.int (10^(45:Int).toNat*10^(45:Int).toNat))] H7
 have hfa:(2:Int)^60<10^(45:Int).toNat*10^(45:Int).toNat∧(60:Int)<10^(45:Int).toNat*10^(45:Int).toNat:=by decide +kernel
 generalize (10:Int)^(45:Int).toNat*10^(45:Int).toNat=fa at hfa
 show mM K A _ [some (.int b),some (.int d),some (.int g),some (.ref la),some (.ref M7),some (.int fa)] H7
 unfold mM au aB
 refine bQ mo (i:=4) (σ:=[some (.int b),some (.int d),some (.int g),some (.ref la),some (.ref M7),some (.int fa)]) (a:=M7) rfl hM7 hl7 hx7 (EO c wl hfa) (by decide) fun M9 xs9 H9 S9 hM9 hl9 hx9=>?_
 replace wl:=wl.mono S9
 replace SS:=SS.trans S9
 show nU K A _ [some (.int b),some (.int d),some (.int g),some (.ref la),some (.ref M9),some (.int fa)] H9
 unfold nU au aB
 refine bQ mo (i:=4) (σ:=[some (.int b),some (.int d),some (.int g),some (.ref la),some (.ref M9),some (.int fa)]) (a:=M9) rfl hM9 hl9 hx9 (zC c wl hfa) (by decide) fun M10 xs10 H10 S10 hM10 hl10 hx10=>?_
 replace wl:=wl.mono S10
 replace SS:=SS.trans S10
 show nw K A _ [some (.int b),some (.int d),some (.int g),some (.ref la),some (.ref M10),some (.int fa)] H10
 unfold nw au aB
 refine bQ mo (i:=4) (σ:=[some (.int b),some (.int d),some (.int g),some (.ref la),some (.ref M10),some (.int fa)]) (a:=M10) rfl hM10 hl10 hx10 (Ab c wl) (by decide) fun M11 xs11 H11 S11 hM11 hl11 hx11=>?_
 replace wl:=wl.mono S11
 replace SS:=SS.trans S11
 show ny K A _ [some (.int b),some (.int d),some (.int g),some (.ref la),some (.ref M11),some (.int fa)] H11
 unfold ny au aB
 refine bQ mo (i:=4) (σ:=[some (.int b),some (.int d),some (.int g),some (.ref la),some (.ref M11),some (.int fa)]) (a:=M11) rfl hM11 hl11 hx11 (AY c wl) (by decide) fun M12 xs12 H12 S12 hM12 hl12 hx12=>?_
 replace wl:=wl.mono S12
 replace SS:=SS.trans S12
 refine Sel.dec (fun hd=>?_) (fun hd=>q M12 xs12 H12 SS hM12 (by omega) hx12)
 refine bQ mo (i:=4) (σ:=[some (.int b),some (.int d),some (.int g),some (.ref la),some (.ref M12),some (.int fa)]) (a:=M12) rfl hM12 hl12 hx12 (EJ c wl hd) (by decide) fun M13 xs13 H13 S13 hM13 hl13 hx13=>?_
 replace wl:=wl.mono S13
 refine bQ mo (i:=4) (σ:=[some (.int b),some (.int d),some (.int g),some (.ref la),some (.ref M13),some (.int fa)]) (a:=M13) rfl hM13 hl13 hx13 (DT c wl hd) (by decide) fun M14 xs14 H14 S14 hM14 hl14 hx14=>q M14 xs14 H14 (SS.trans (S13.trans S14)) hM14 (by omega) hx14
theorem DF (K:W.Frag) (A:Adr):Ln (qF K A) 6:=by rintro vs H Q E ⟨_,_,_,_,_,_,rfl,_⟩;rfl
theorem Gc (T : Txt K mg A) : Rd (qF K A) (T_4 K A) ["_law_cell", "_law_bits_here", "_law_low", "_law_high", "_law_depth", "_law_begin_here", "_law_some"] := by
  intro vs H Q E h
  obtain ⟨c, b, lo, hi, d, g, rfl, en, pl, q⟩ := h
  have b60 := en.b60
  have fin : ∀ (L : Addr) (xs : List V) (H1 : Hp), ar H H1 → H1 L = some (.lst xs) → 1 ≤ xs.length → (∀ v ∈ xs, ∃ x, aR H1 v x ∧ cb x ∧ bZ b lo hi d g x = false) → wG K A { nx := fun _ H' => Q .non H', rt := Q } [some (.int c), some (.int b), some (.int lo), some (.int hi), some (.int d), some (.int g), some (.ref L)] H1 := by
    intro L xs H1 S hL hl hx
    have r0 := Int.emod_nonneg c (b := (xs.length : Int)) (by omega)
    have r1 := Int.emod_lt_of_pos c (b := (xs.length : Int)) (by omega)
    have hj : (c % (xs.length : Int)).toNat < xs.length := by omega
    refine .inl (.inl ⟨_, SqL.of hL, by omega, ixL (j := (c % (xs.length : Int)).toNat) hL (by omega) (List.getElem?_eq_getElem hj) ?_⟩)
    obtain ⟨x, w, ok, bad⟩ := hx _ (List.getElem_mem hj)
    exact q _ x H1 S w ok bad
  refine ⟨b, lo, hi, d, g, rfl, en, pl.d0, pl.d1, pl.g0, pl.g1, ?_⟩
  cases hm : ci b lo hi d g with
  | false =>
    refine Sel.t ⟨b, d, g, rfl, b60, pl, fun L xs H1 S hL hl hx => fin L xs H1 S hL (by omega) fun v hv => ?_⟩
    obtain ⟨x, w, ok, h⟩ := hx v hv
    exact ⟨x, w, ok, by unfold bZ; rw [hm]; exact h⟩
  | true =>
    refine Sel.f ⟨b, d, g, rfl, b60, pl, fun L xs H1 S hL l1 l2 hx => ⟨b, d, g, rfl, b60, pl, fun M ys H2 S2 hM hl hy => ?_⟩⟩
    refine .inl ⟨L, M, xs, ys, rfl, rfl, S2 _ _ hL, hM, be (by omega), fun r hr => ?_⟩
    have S3 := ar.upd (o := .lst (xs ++ ys)) hr
    refine fin r (xs ++ ys) _ (S.trans (S2.trans S3)) ao (by rw [List.length_append]; omega) fun v hv => ?_
    have : vK b d g (upd H2 r (.lst (xs ++ ys))) v := by
      rcases List.mem_append.mp hv with z | z
      · obtain ⟨x, w, h⟩ := hx v z; exact ⟨x, w.mono (S2.trans S3), h⟩
      · obtain ⟨x, w, h⟩ := hy v z; exact ⟨x, w.mono S3, h⟩
    obtain ⟨x, w, ok, h⟩ := this
    exact ⟨x, w, ok, by unfold bZ; rw [hm]; exact h⟩
theorem CC (K:W.Frag) (A:Adr):Ln (qC K A) 7:=by rintro vs H Q E ⟨_,_,_,_,_,_,_,_,_,_,_,_,rfl,_⟩;rfl
theorem GJ (T:Txt K mg A) (vs:List V) (H:Hp) (Q:VK) (E:XK) (h:qC K A vs H Q E):T_2 K A E { nx:=fun _ H'=>Q .non H',rt:=Q } (L2.cq ["_law_way", "_law_stamper", "_law_bits_here", "_law_mark_here", "_law_low", "_law_high", "_law_paper_here"] vs) H:=by
 obtain ⟨way,f,b,c,lo,hi,m,u,g,n,x,z,rfl,⟨w0,en,s,hn,hx,ck⟩,q⟩:=h
 refine Sel.dec (fun _=>?_) (fun _=>Sel.dec (fun _=>?_) (fun _=>Sel.dec (fun _=>?_) (fun _=>?_)))
 · exact ⟨f,b,c,lo,hi,u,g,n,rfl,en,s,by omega,.bad x z hx ck q⟩
 · exact ⟨f,b,c,lo,hi,u,g,n,rfl,en,s,by omega,.bad x z hx ck q⟩
 · exact ⟨f,b,c,lo,hi,m,u,g,n,rfl,en,s,by omega,.bad x z hx ck q⟩
 · exact ⟨f,b,c,lo,hi,lo,u,g,n,rfl,en,Int.le_refl _,en.le,s,by omega,.bad x z hx ck q⟩
theorem zq (K:W.Frag) (A:Adr):Ln (mH K A) 7:=by rintro vs H Q E ⟨_,_,_,_,_,_,_,_,_,_,_,_,rfl,_⟩;rfl
theorem Dg (T:Txt K mg A):Rd (mH K A) (Gf K A) ["_law_way", "_law_stamper", "_law_bits_here", "_law_mark_here", "_law_low", "_law_high", "_law_paper_here", "_law_found", "e"]:=by
 intro vs H Q E h
 obtain ⟨way,f,b,c,lo,hi,m,u,g,n,x,z,rfl,ak,q⟩:=h
 refine ⟨way,f,b,c,lo,hi,m,u,g,n,x,z,rfl,ak,fun dx H1 S1 hdx=>⟨A.c_NoPart,rfl,T.eo_NoPart,true,T.sb_NoPart_NoPart,Sel.t fun a ha=>?_⟩⟩
 have nd:dx≠a:=aS hdx ha
 have hx:upd H1 a (iQ A.c_NoPart (some dx) a) dx=some (fI (iq "begin" (.int z.2) [("depth",.int z.1)]) dx):=by rw [aI nd];exact hdx
 refine ⟨a,A.c_NoPart,dx,_,.int z.1,rfl,ao,hx,T.ef_NoPart_depth,rfl,a,A.c_NoPart,dx,_,.int z.2,rfl,ao,hx,T.ef_NoPart_begin,rfl,?_⟩
 refine ⟨a,A.c_NoPart,some dx,true,_,_,rfl,ao,T.eo_NoPart,T.eg_NoPart,rfl,fun _ h=>h,T.ki_NoPart_StampError,?_⟩
 refine ⟨be (show 3≤1000000 by decide),fun r hr=>?_⟩
 exact q r _ (S1.trans ((ar.upd (o:=iQ A.c_NoPart (some dx) a) ha).trans (ar.upd (o:=.tup [.int z.1,.int z.2,.bl true]) hr))) ao
def Bx (b lo hi:Int) (p:aP) (j k:Nat):Nat→Dat→Prop
 | 0,x=>x=bc p
 | 1,x=>∃ t y,(bw p 0 0)[j]?=some t∧x=bT (bc p) t.2.2 y
 | _,x=>∃ s,(bw p 0 0)[k]?=some s∧Ck b lo hi 70 0 0 x (some (s.1,s.2.1))
theorem zw (K:W.Frag) (A:Adr):Ln (mm K A) 8:=by rintro vs H Q E ⟨_,_,_,_,_,_,_,_,_,_,_,_,_,rfl,_⟩;rfl
theorem Fq (T:Txt K mg A):Rd (mm K A) (GS K A) ["_law_cell", "_law_stamper", "_law_bits_here", "_law_mark_here", "_law_low", "_law_high", "_law_paper_here", "_law_spots_here", "_law_one", "_law_other", "_law_spoilt", "_law_at_here", "_law_bad_here", "_law_found"]:=by
 intro vs H Q E h
 obtain ⟨cell,f,b,M,c,lo,hi,m,u,p,g,n,rs,rfl,w,s,hn,hM,ps,q⟩:=h
 have en:=w.e
 have wt:=w.t
 have sl:=fv p 0 0
 have rl:rs.length=(bw p 0 0).length:=Paired.length ps
 have ml:(rs.map V.ref).length=(bw p 0 0).length:=by rw [List.length_map];exact rl
 have bR:∀ i1 i2:Nat,i1<(bw p 0 0).length→i2<(bw p 0 0).length→sE K A { nx:=fun _ H'=>Q .non H',rt:=Q } [some (.int cell),some (.ref f),some (.int c),some (kV m),some (.int lo),some (.int hi),some u,some (.ref M),some (.int i1),some (.int i2),none,none,none,none] H:=by
  intro i1 i2 h1 h2
  have eJ:(if (i2:Int)>i1 then (i2:Int) else i1)=((max i1 i2:Nat):Int):=by split <;> omega
  have eI:(if (i2:Int)<i1 then (i2:Int) else i1)=((min i1 i2:Nat):Int):=by split <;> omega
  obtain ⟨J,hJ⟩:∃ J,J=max i1 i2:=⟨_,rfl⟩
  obtain ⟨I,hI⟩:∃ I,I=min i1 i2:=⟨_,rfl⟩
  rw [← hJ] at eJ
  rw [← hI] at eI
  refine ⟨be (show 2≤1000000 by decide),fun W hW=>⟨W,rfl,.inl ⟨⟨_,SqL.of ao⟩,?_⟩⟩⟩
  show ∃ _:Nat→Nat→L2.St→Hp→Prop,_
  have Sw:=ar.upd (o:=.lst [V.int (if (i2:Int)>i1 then (i2:Int) else i1),V.int (if (i2:Int)<i1 then (i2:Int) else i1)]) hW
  have hW1:upd H W (.lst [V.int (if (i2:Int)>i1 then (i2:Int) else i1),V.int (if (i2:Int)<i1 then (i2:Int) else i1)]) W=some (.lst [V.int J,V.int I]):=by rw [ao,eJ,eI]
  refine jS (xs:=[V.int J,V.int I]) (fun i σ H'=>∃ v x x11 x12,σ=[some (.int cell),some (.ref f),some (.int c),some (kV m),some (.int lo),some (.int hi),some u,some (.ref M),some (.int i1),some (.int i2),some v,x11,x12,none]∧ar H H'∧H' W=some (.lst [V.int J,V.int I])∧aR H' v x∧Bx c lo hi p J I i x)
    ⟨u,bc p,none,none,rfl,Sw,hW1,w.w.w.mono Sw,rfl⟩ ?_ ?_ ?_
  · rintro i σ H' _ ⟨_,_,_,_,_,_,h,_⟩;exact SqL.of h
  · rintro i av σ H' hv ⟨v,x,x11,x12,rfl,S1,hW',wx,st⟩
    have i2':i<2:=(List.getElem?_eq_some_iff.mp hv).1
    obtain ⟨j,rfl,hj,nxt⟩:∃ j:Nat,av=.int j∧j<(bw p 0 0).length∧∀ t y,(bw p 0 0)[j]?=some t→bZ c lo hi t.1 t.2.1 y=false→cb y→eC x t.2.2∧Bx c lo hi p J I (i+1) (bT x t.2.2 y):=by
      have hc:i=0∨i=1:=by omega
      rcases hc with rfl | rfl
      · refine ⟨J,(Option.some.inj hv).symm,by omega,fun t y ht bad ok=>?_⟩
        have st:x=bc p:=st
        subst st
        exact ⟨(lC w.w.ok (n:=70) (by omega) ht bad ok).2,t,y,ht,rfl⟩
      · refine ⟨I,(Option.some.inj hv).symm,by omega,fun t y ht bad ok=>?_⟩
        obtain ⟨t',y',ht',rfl⟩:=(show ∃ t y,(bw p 0 0)[J]?=some t∧x=bT (bc p) t.2.2 y from st)
        have:=sM w.w.ok (n:=70) (y:=y') (by omega) ht ht' (by omega) bad ok
        exact ⟨this.2,t,ht,this.1⟩
    obtain ⟨t,ht⟩:∃ t,(bw p 0 0)[j]?=some t:=⟨_,List.getElem?_eq_getElem hj⟩
    obtain ⟨pt,tl⟩:=sG w.w.ok (oh en.b1) ht
    obtain ⟨r,hr,P,hr1,hP⟩:=oP ps ht
    have hm:(rs.map V.ref)[j]?=some (.ref r):=by rw [List.getElem?_map,hr];rfl
    refine ⟨⟨by decide,by decide⟩,by decide,IntMulOk.of_right (by decide),?_⟩
    refine ixL (j:=j) (S1 _ _ hM) rfl hm (ixT (j:=0) (S1 _ _ hr1) rfl rfl (ixL (j:=j) (S1 _ _ hM) rfl hm (ixT (j:=1) (S1 _ _ hr1) rfl rfl ?_)))
    refine ⟨_,c,lo,hi,t.1,t.2.1,rfl,en,pt,fun vb y H2 S2 wy ok bad=>?_⟩
    have S12:=S1.trans S2
    obtain ⟨wd,st'⟩:=nxt t y ht bad ok
    refine ixL (j:=j) (S12 _ _ hM) rfl hm (ixT (j:=2) (S12 _ _ hr1) rfl rfl ?_)
    refine ⟨v,vb,x,y,P,t.2.2,rfl,wx.mono S2,S12 _ _ hP,wd,wy,by omega,by omega,fun v' H3 S3 w3=>?_⟩
    exact ⟨v',_,_,_,rfl,S12.trans S3,S3 _ _ (S2 _ _ hW'),w3,st'⟩
  · rintro σ H' ⟨v,x,x11,x12,rfl,S1,_,wx,s',hs',ck⟩
    obtain ⟨r,hr,P,hr1,hP⟩:=oP ps hs'
    have hm:(rs.map V.ref)[I]?=some (.ref r):=by rw [List.getElem?_map,hr];rfl
    refine ⟨⟨by decide,by decide⟩,by decide,_,f,b,c,lo,hi,m,v,g,n,x,(s'.1,s'.2.1),rfl,⟨by omega,en,s.same (Nat.le_refl _) S1,hn,wx,ck⟩,fun t H2 S2 ht=>?_⟩
    refine Sel.no rfl (ixT (j:=2) ht rfl rfl (Sel.no rfl ?_))
    have S12:=S1.trans S2
    refine ⟨2,rfl,.inl (.inr ⟨t,_,rfl,ht,fun p1 H3 S3 hp1=>?_⟩)⟩
    have S13:=S12.trans S3
    refine ixL (j:=I) (S13 _ _ hM) eI hm ⟨2,rfl,.inl (.inr ⟨r,_,rfl,S13 _ _ hr1,fun p2 H4 S4 hp2=>?_⟩)⟩
    refine ⟨p1,p2,[.inl s'.1,.inl s'.2.1],rfl,?_,?_,by show 2≤8;decide,q _ (S13.trans S4)⟩
    · exact (S4 _ _ hp1).trans (congrArg (fun z=>some (HO.tup z)) (gD _ 2 (by simp)))
    · exact hp2.trans (congrArg (fun z=>some (HO.tup z)) (gD _ 2 (by simp)))
 have nat:∀ z:Int,∃ i:Nat,z%((rs.map V.ref).length:Int)=i∧i<(bw p 0 0).length:=fun z=>by
  have r0:=Int.emod_nonneg z (b:=((rs.map V.ref).length:Int)) (by omega)
  have r1:=Int.emod_lt_of_pos z (b:=((rs.map V.ref).length:Int)) (by omega)
  exact ⟨(z%((rs.map V.ref).length:Int)).toNat,by omega,by omega⟩
 obtain ⟨i1,e1,h1⟩:=nat (cell/4)
 obtain ⟨i2,e2,h2⟩:=nat (cell*48271%65537)
 refine ⟨⟨by decide,by decide⟩,.inl (.inl ⟨_,SqL.of hM,by omega,?_⟩)⟩
 rw [e1]
 refine ⟨fg (by decide) (by decide),by decide,.inl (.inl ⟨_,SqL.of hM,by omega,?_⟩)⟩
 rw [e2]
 exact ⟨by decide,Sel.dec (fun _=>bR i1 i1 h1 h1) (fun _=>bR i1 i2 h1 h2)⟩
theorem de.seq {P:Addr} {H H':Hp} {a:Addr} {xs:List V} {ps:Array Value} (hP:H P=some (.tbl ps)) (e:de P H H') (h:SqL K H a xs):SqL K H' a xs:=by
 have ne:∀ o,H a=some o→(∀ ps,o≠ .tbl ps)→a≠P:=fun o h n z=>by subst z;rw [hP] at h;cases h;exact n _ rfl
 rcases h with (h | ⟨o,h⟩) | h
 · exact .inl (.inl (e _ _ h (ne _ h fun _ z=>nomatch z)))
 · exact .inl (.inr ⟨o,e _ _ h (ne _ h fun _ z=>nomatch z)⟩)
 · exact .inr h
theorem Stp.seq {H H':Hp} {f b a:Addr} {g:gOp} {n:Nat} {xs:List V} (s:Stp A H f b g n) (k:bz b H H') (h:SqL K H a xs):SqL K H' a xs:=by
 rcases h with (h | ⟨o,h⟩) | h
 · exact .inl (.inl (s.lst k _ _ h))
 · exact .inl (.inr ⟨o,k _ _ (s.nb h fun _ z=>nomatch z) h⟩)
 · exact .inr h
theorem xX {xs:List V} {lo hi:Option Int} {v:V} (h:v∈cL xs lo hi):v∈xs:=by
 unfold cL at h;exact List.mem_of_mem_drop (List.mem_of_mem_take h)
structure LC (A:Adr) (H:Hp) (f b:Addr) (B lo hi:Int) (v:V) (p:aP) (x:Key) (L:Addr) (ps:List Addr) (ts:List (List Key)) (M:Addr) (rs:List Addr) (g:gOp) (n:Nat):Prop where
 pw:da H v B lo hi p
 s:Stp A H f b g n
 hL:H L=some (.lst (ps.map V.ref))
 pk:PK H ps ts
 hM:H M=some (.lst (rs.map V.ref))
 pr:PSp H [] rs (bw p 0 0)
 ex:∀ h,Ext g h→ts=bF h p∧x=bM h p
theorem LC.kb {H H':Hp} {f b:Addr} {B lo hi:Int} {v:V} {p:aP} {x:Key} {L M:Addr} {ps rs:List Addr} {ts:List (List Key)} {g g':gOp} {n n':Nat} (c:LC A H f b B lo hi v p x L ps ts M rs g n) (kb:bz b H H') (s:Stp A H' f b g' n') (sub:Sub g g'):LC A H' f b B lo hi v p x L ps ts M rs g' n':=
 ⟨c.pw.mono (c.s.tup kb),s,c.s.lst kb _ _ c.hL,dn (c.s.tup kb) c.pk,c.s.lst kb _ _ c.hM,hU c.pr (c.s.tup kb),fun h he=>c.ex h (he.of sub)⟩
theorem LC.same {H H':Hp} {f b:Addr} {B lo hi:Int} {v:V} {p:aP} {x:Key} {L M:Addr} {ps rs:List Addr} {ts:List (List Key)} {g:gOp} {n n':Nat} (c:LC A H f b B lo hi v p x L ps ts M rs g n) (hn:n≤n') (S:ar H H'):LC A H' f b B lo hi v p x L ps ts M rs g n':=c.kb (bz.same S) (c.s.same hn S) Sub.rfl'
theorem tG {H:Hp} {y:V} {B lo hi:Int} {p:aP} {v:V} {f b:Addr} {g:gOp} {n:Nat} {H0:Hp} (w:da H0 v B lo hi p) (s:Stp A H f b g n) {st:List (Int×Key)} {e:List Key} (he:∀ h,Ext g h→st=cx h B lo p∧e=eO h B lo p) (sa:tF H y st e):∃ d,aR H y d∧sv d∧gS B lo d=true:=by
 obtain ⟨q,m,h1,h2,_,_,hg⟩:=s.at_
 have ex:Ext g (fO m):=fun k v z=>by rw [hg] at z;exact Option.some.inj z
 obtain ⟨rfl,rfl⟩:=he _ ex
 have en:=w.e
 have z:=w.z
 have s0:bd B lo 0=0:=by
  unfold bd
  have:B - 0=B:=by omega
  rw [this]
  exact Int.ediv_eq_zero_of_lt en.lo0 (by have:=en.le;have:=en.hi1;omega)
 have gd:=uk (h:=fO m) (fun k _=>oJ h1 h2 k) (k:=lo) en.b60 (Int.le_refl _) en.le (p:=p) (d:=0) (by rw [s0];exact w.w.ok) (by decide) (by omega)
 obtain ⟨a1,a2,a3,a4,a5⟩:=gd
 have G:nC B lo (cx (fO m) B lo p) (eO (fO m) B lo p):=⟨en.b1,en.b60,en.lo0,by have:=en.le;have:=en.hi1;omega,a1,a2,a3,a5,by omega⟩
 exact ⟨_,sa,G.okE,G.slip⟩
theorem Bv (K:W.Frag) (A:Adr):Ln (mz K A) 1:=by rintro vs H Q E ⟨a,ns,rfl,_⟩;rfl
theorem EK (T:Txt K mg A):Rd (mz K A) (GU K A) ["_law_script", "_law_bits_here", "_law_low", "_law_high", "_law_paper_here", "_law_stamper", "_law_mark_here", "_law_terms", "_law_spots_here", "_law_cell"]:=by
 intro vs H Q E h
 obtain ⟨a,ns,rfl,hs,hlen,⟨t1,_⟩,q⟩:=h
 refine ⟨a,ns,0,rfl,hs,by decide,fun z0 H0 S0=>⟨z0,rfl,fun B H1 S1 B1 B60=>?_⟩⟩
 have S1:=S0.trans S1
 show tN K A _ [some (.ref a),some (.int B),none,none,none,none,none,none,none,none] H1
 refine ⟨a,ns,1,rfl,S1.seq hs,by decide,fun z1 H2 S2=>⟨a,ns,2,rfl,(S1.trans S2).seq hs,by decide,fun z2 H3 S3=>⟨B,z1,z2,rfl,B1,B60,fun t lo hi H4 S4 ht en=>?_⟩⟩⟩
 have S4:=S1.trans (S2.trans (S3.trans S4))
 refine ⟨t,_,rfl,SqT.of ht,rfl,.int lo,[.int hi],rfl,.int hi,[],rfl,rfl,?_⟩
 show sX K A _ [some (.ref a),some (.int B),some (.int lo),some (.int hi),none,none,none,none,none,none] H4
 refine ⟨a,ns,3,rfl,S4.seq hs,by decide,fun z3 H5 S5=>⟨z3,B,lo,hi,rfl,en,fun v p H6 S6 w _=>?_⟩⟩
 have S6:=S4.trans (S5.trans S6)
 show rN K A _ [some (.ref a),some (.int B),some (.int lo),some (.int hi),some v,none,none,none,none,none] H6
 refine ⟨a,ns,4,rfl,S6.seq hs,by decide,fun c H7 S7=>⟨by decide,1000003+c%9,rfl,by omega,by omega,(S6.trans S7) _ _ t1,fun f b g H8 k8 sp _=>?_⟩⟩
 have t7:=(S6.trans S7) _ _ t1
 have hs8:=de.seq t7 k8 ((S6.trans S7).seq hs)
 have w8:da H8 v B lo hi p:=(w.mono fun _ _ e=>S7 _ _ e).mono fun b xs e=>k8 _ _ e fun z=>by subst z;rw [t7] at e;cases e
 show sH K A _ [some (.ref a),some (.int B),some (.int lo),some (.int hi),some v,some (.ref f),none,none,none,none] H8
 clear S7 S6 S5 S4 S3 S1 S0 S2 hs ht w t1 t7 k8
 have fk:=w8.f
 have mn:=fT p
 have tl:=w8.t
 refine ⟨f,b,v,p,g,0,rfl,w8.s,by omega,sp,by omega,fun t2 L9 x ps ts g1 J1 kb1 s1 sub1 ht2 hL9 pk1 ex1 okx szx=>?_⟩
 refine ⟨t2,_,rfl,SqT.of ht2,rfl,kV x,[.ref L9],rfl,.ref L9,[],rfl,rfl,?_⟩
 have w1:=w8.mono (sp.tup kb1)
 have hs1:=sp.seq kb1 hs8
 show rY K A _ [some (.ref a),some (.int B),some (.int lo),some (.int hi),some v,some (.ref f),some (kV x),some (.ref L9),none,none] J1
 refine ⟨by show 0≤sizeLine;decide,fun t3 ht3=>?_⟩
 have S2:=ar.upd (o:=.tup []) ht3
 refine ⟨v,p,0,0,t3,[],rfl,w1.w.w.mono S2,by omega,ao,by show 0+bj p≤100;omega,by omega,fun M rs J2 S3 hM pr=>?_⟩
 have S2:=S2.trans S3
 have c2:LC A J2 f b B lo hi v p x L9 ps ts M rs g1 300:=⟨w1.mono fun _ _ e=>S2 _ _ e,s1.same (by omega) S2,S2 _ _ hL9,dn (fun _ _ e=>S2 _ _ e) pk1,hM,pr,ex1⟩
 have hs2:=S2.seq hs1
 show sT K A _ [some (.ref a),some (.int B),some (.int lo),some (.int hi),some v,some (.ref f),some (kV x),some (.ref L9),some (.ref M),none] J2
 clear w1 hs1 w8 hs8 sp kb1 s1 ht2 hL9 pk1 S2 S3 hM pr ht3 ex1
 refine ⟨5,rfl,35,rfl,.inl (.inl ⟨a,_,rfl,hs2,fun W hW=>?_⟩)⟩
 have S1:=ar.upd (o:=.lst (cL (ns.map V.int) (some 5) (some 35))) hW
 have hW1:upd J2 W (.lst (cL (ns.map V.int) (some 5) (some 35))) W=some (.lst (cL (ns.map V.int) (some 5) (some 35))):=ao
 have cl:=gI (ns.map V.int) (some 5) (some 35)
 have c63:(cL (ns.map V.int) (some 5) (some 35)).length≤63:=by rw [List.length_map] at cl;omega
 have it1:∀ v∈cL (ns.map V.int) (some 5) (some 35),∃ i,v=.int i:=fun v hv=>by
   obtain ⟨i,_,rfl⟩:=List.mem_map.mp (xX hv)
   exact ⟨i,rfl⟩
 generalize upd J2 W (.lst (cL (ns.map V.int) (some 5) (some 35)))=H1 at S1 hW1
 generalize cL (ns.map V.int) (some 5) (some 35)=ws at hW1 c63 it1
 refine ⟨36,40,rfl,by decide,fun D hD=>?_⟩
 refine jn eL.range (fun i ys H'=>ar H1 H'∧H' D=some (.lst ys)∧ys.length=i∧∀ v∈ys,∃ i,v=.int i) (fun _ _ _ _ _=>trivial) ⟨ar.upd hD,ao,rfl,(fun _ z=>nomatch z)⟩ ?_ ?_
 · rintro i ys H2 hi ⟨S2,hD2,ly,hy⟩
   refine zF ⟨a,ns,_,rfl,S2.seq (S1.seq hs2),by omega,fun z H3 S3=>⟨S3 _ _ hD2,by rw [ly];exact Nat.lt_of_le_of_lt (m:=1000) (by have:i<4:=hi;omega) (by decide),CWd.next hi ⟨fun w o ew=>?_,ao,by rw [List.length_append,ly];rfl,fun v hv=>?_⟩⟩⟩
   · rw [aI (aS ew hD)];exact S3 _ _ (S2 _ _ ew)
   · rcases List.mem_append.mp hv with z | z
     · exact hy v z
     · rw [List.mem_singleton.mp z];exact ⟨_,rfl⟩
 rintro ys H2 ⟨S2,hD2,ly,hy⟩
 have ly4:ys.length=4:=ly
 refine .inl ⟨W,D,_,_,rfl,rfl,S2 _ _ hW1,hD2,be (by omega),fun C hC=>⟨C,rfl,.inl ⟨⟨_,SqL.of ao⟩,?_⟩⟩⟩
 have S3:=S1.trans (S2.trans (ar.upd (o:=.lst (ws++ys)) hC))
 have hC3:upd H2 C (.lst (ws++ys)) C=some (.lst (ws++ys)):=ao
 have its:∀ v∈ws++ys,∃ i,v=.int i:=fun v hv=>by
   rcases List.mem_append.mp hv with z | z
   · exact it1 v z
   · exact hy v z
 have c3:=c2.same (Nat.le_refl _) S3
 generalize upd H2 C (.lst (ws++ys))=H3 at hC3 c3
 generalize ws++ys=cs at hC3 its
 clear S1 S2 S3 hD hD2 hW hC hs2 hW1 c2 ly hy it1 ly4 c63
 refine jS (xs:=cs) (fun i σ H'=>∃ (x9:Option V),σ=[some (.ref a),some (.int B),some (.int lo),some (.int hi),some v,some (.ref f),some (kV x),some (.ref L9),some (.ref M),x9]∧LC A H' f b B lo hi v p x L9 ps ts M rs g1 300∧H' C=some (.lst cs)) ⟨none,rfl,c3,hC3⟩ ?_ ?_ ?_
 · rintro i σ H' _ ⟨_,_,_,e⟩;exact SqL.of e
 · rintro i u σ H4 hu ⟨x9,rfl,c4,hC4⟩
   obtain ⟨ce,rfl⟩:=its u (List.mem_of_getElem? hu)
   refine ⟨ce,f,b,M,B,lo,hi,x,v,p,g1,300,rs,rfl,c4.pw,c4.s,by decide,c4.hM,c4.pr,fun H5 S5=>Sel.no rfl ?_⟩
   exact ⟨_,rfl,c4.same (Nat.le_refl _) S5,S5 _ _ hC4⟩
 · rintro σ H4 ⟨x9,rfl,c4,_⟩
   show tJ K A _ [some (.ref a),some (.int B),some (.int lo),some (.int hi),some v,some (.ref f),some (kV x),some (.ref L9),some (.ref M),x9] H4
   refine ⟨f,b,B,lo,hi,v,g1,300,rfl,en,c4.s,by decide,.good p c4.pw fun L7 ps7 ts7 g7 H7 kb7 s7 sub7 hL7 pk7 e7=>?_⟩
   have c7:=c4.kb kb7 s7 sub7
   have et:ts7=ts:=by rw [e7 _ (cH g7),←(c7.ex _ (cH g7)).1]
   subst et
   have l5:ts7.length≤1000:=by
     have h5:=eF (gx g7) p
     rw [← (c7.ex _ (cH g7)).1] at h5
     omega
   refine ⟨L7,L9,ps7,ps,_,rfl,hL7,c7.hL,wQ pk7,wQ c7.pk,l5,Sel.no rfl ?_⟩
   show se K A _ [some (.ref a),some (.int B),some (.int lo),some (.int hi),some v,some (.ref f),some (kV x),some (.ref L9),some (.ref M),x9] H7
   refine ⟨f,b,B,lo,hi,lo,v,g7,_,rfl,en,Int.le_refl _,en.le,c7.s,by decide,.good p c7.pw fun y st e g8 H8 kb8 s8 sub8 sa he=>?_⟩
   have c8:=c7.kb kb8 s8 sub8
   obtain ⟨d,wd,so,hd⟩:=tG c7.pw s8 he sa
   refine ⟨B,lo,y,d,rfl,by omega,B60,wd,so,fun H9 S9=>?_⟩
   rw [hd]
   refine Sel.no rfl ?_
   have c9:=c8.same (n':=2000) (by decide) S9
   show sd K A _ [some (.ref a),some (.int B),some (.int lo),some (.int hi),some v,some (.ref f),some (kV x),some (.ref L9),some (.ref M),x9] H9
   refine ⟨f,b,B,lo,hi,x,v,g8,_,rfl,en,c9.s,by decide,.good p c9.pw ⟨fun h he=>(c9.ex h he).2,fun M4 rs4 g10 H10 kb10 s10 sub10 hM4 pr4=>?_⟩⟩
   have c10:=c9.kb kb10 s10 sub10
   refine ⟨v,p,lo,hi,rfl,c10.pw.w.w,tl,by omega,fun M5 rs5 H11 S11 _ hM5 pr5=>?_⟩
   have ll:(((bS p).filter (inI lo hi)).map nK).length≤1000:=by
     have h1:=fS p
     have h2:=List.length_filter_le (inI lo hi) (bS p)
     rw [List.length_map];omega
   exact ⟨M4,M5,rs4,rs5,_,rfl,S11 _ _ hM4,hM5,tP (gU (fun _ _ e=>S11 _ _ e) pr4),tP pr5,ll,q _⟩
section
structure TP (P:Program) (w:World) (K:W.Frag) (mg:Str→Option Value) (base:Heap) (A:Adr):Prop extends Txt K mg A where
 B:BM mg base
 C_27:W.CodeHd base A.k_27 A.t_27
variable {P:Program} {w:World} {K:W.Frag} {mg:Str→Option Value} {base:Heap} {A:Adr} (T:TP P w K mg base A)
include T
theorem DY (f c:Addr) (cl:List (Str×Addr)) (Ar:Around) (outer:List Env) (s:Shared) (H:Hp) (E:XK)
  (hr:bE 0 (Ar.deeper (W.envX fu.qual fu.scope s.heap.objs.size f (.ref c) cl))):PSs (mv P w K mg base ["_law_term", "_law_total", "_law_part_here", "_law_signs", "_law_many"] fu.qual fu.scope f c cl Ar outer s H E).nox (bi uC) (BU K A):=QSs.out (
 al (aG 1 jx.nd (ag)) (al (gy 2 jx.nd (fA (ae 0)) (aq (aZ (bG (ba dM T.z_isinstance boot_isinstance (ac (ae 2) (ac (dN T.z_str boot_str) (ai))))) (al (sL (ys:=[]) 3 jx.nd (by exact ⟨rfl,by decide +kernel,by decide +kernel,rfl,by decide +kernel,by decide +kernel⟩) (by exact .nil) (fA (eE fw (ae 2) (fi) (dU (ag)))) (fun C s H fp=>sW) (fun C s H fp=>(ba FY T.z_ord boot_ord (ac (ae 0) (ai))))) (aq (aG 1 jx.nd (am aO (am aO (am bI (ae 1) (ag)) (ba cI T.z_len PySem.boot_len (ac (ae 2) (ai)))) (am bI (ag) (ba (FM rfl) T.z_sum boot_sum (ac (ae 3) (ai)))))))) (aq (aG 1 jx.nd (am aO (am bI (ae 1) (ag)) (ae 2)))))) PassesOwn.never) (aq (aC (am bx (ae 1) (ae 4))))))
theorem Dr:jw P w K mg base 1 fu (rd K A):=
 ze rfl jx (fun f c cl Ar outer s H vs cvs Q E hr hl hc h=>by
  obtain ⟨a0,rfl⟩:=L2.jX hl
  obtain ⟨b0,rfl⟩:=L2.jX hc
  exact ⟨_,(DY T f c cl Ar outer s H E hr).nox,Ey T.1 a0 b0 H Q E h⟩)
theorem FD:bg P w K mg base (CX1 P w) 1 A.a_9 A.d_9 ["_law_cell"] (pQ K A):=
 T.f_9.f.okS Ge (DO K A) (Gu T.1) fun _ _ _ _ _ _ hr=>
 aq (aC (am aO (ag) (am bx (am cF (ae 0) (ag)) (aM (aw hr.units1) (bn (ac (ag) (ac (ag) (ac (ag) (ai))))) (am bx (ae 0) (ag)) (fun _ _=>rfl)))))
theorem kS:bg P w K mg base (CX1 P w) 1 A.a_3 A.d_3 ["_law_script", "_law_k"] (il K A):=
 T.f_3.f.okS nR (Do K A) (FH T.1) fun _ _ _ _ _ _ hr=>
 al (aZ (aU oLt (ae 1) (ba cI T.z_len PySem.boot_len (ac (ae 0) (ai)))) (aq (aC (aM (aw hr.units1) (ae 0) (ae 1) (fun _ _=>rfl)))) (aQ)) (al (aG 2 nR.nd (am aO (ag) (ba cI T.z_len PySem.boot_len (ac (ae 0) (ai))))) (al (gy 3 nR.nd (fA (eE fw (ae 0) (fi) (dU (ag)))) (aq (aG 2 nR.nd (am bx (am aO (am bI (ae 2) (ag)) (ae 3)) (ag)))) PassesOwn.never) (al (aG 2 nR.nd (am bx (am aO (ae 2) (am bI (ag) (ae 1))) (ag))) (aq (aC (am bx (am bI (ae 2) (ae 2)) (ag)))))))
theorem xm:bg P w K mg base (CX1 P w) 1 A.a_11 A.d_11 ["_law_bits_here", "_law_cell", "_law_others"] (kD K A):=
 T.f_11.f.okS mD (AZ K A) (DM T.1) fun _ _ _ _ _ _ hr=>
 al (aG 3 mD.nd (am cX (ag) (ae 0))) (al (aG 4 mD.nd (am cF (ae 1) (ag))) (al (aZ (aU (bJ hr.units150) (am bx (ae 1) (ag)) (ag)) (aq (aC (am bx (ae 4) (ae 3)))) (aQ)) (al (aZ (aU (bJ hr.units150) (am bx (ae 1) (ag)) (ag)) (aq (aC (am cJ (am cJ (ae 3) (ag)) (am bx (ae 4) (ae 3))))) (aQ)) (al (aZ (x_w (gO (aU (bJ hr.units150) (am bx (ae 1) (ag)) (ag)) (fY (aU (eZ hr.units150) (ae 2) (bn (ai)))))) (al (aG 5 mD.nd (am bx (am bx (am bI (ae 4) (ag)) (ag)) (ae 0))) (aq (aC (am oi (aM (aw hr.units1) (ae 2) (am bx (ae 4) (ba cI T.z_len PySem.boot_len (ac (ae 2) (ai)))) (fun _ _=>rfl)) (am cX (ag) (ae 5)))))) (aQ)) (aq (aC (am bx (am bI (ae 4) (ag)) (ae 3))))))))
theorem Dl:bg P w K mg base (CX1 P w) 2 A.a_24 A.d_24 ["_law_bits_here", "_law_one", "_law_other"] (lT K A):=
 T.f_24.f.okS kK (zy K A) (Fc T.1) fun _ _ _ _ _ _ hr=>
 al (aG 3 kK.nd (aT (xm T) hr.le T.f_11 (ac (ae 0) (ac (ae 1) (ac (bn (ai)) (ai)))))) (al (aG 4 kK.nd (aT (xm T) hr.le T.f_11 (ac (ae 0) (ac (ae 2) (ac (bn (ac (ae 3) (ai))) (ai)))))) (al (aZ (aU (bJ hr.units150) (am bx (ae 2) (ag)) (ag)) (aq (aG 4 kK.nd (ba (nX rfl) T.z_min boot_min (ac (am aO (ae 3) (am bx (am cF (ae 2) (ag)) (ag))) (ac (am cJ (am cX (ag) (ae 0)) (ag)) (ai)))))) (aQ)) (al (aZ (aU (bJ hr.units150) (am bx (ae 1) (ag)) (ag)) (aq (aG 4 kK.nd (ae 3))) (aQ)) (al (aZ (aU (bJ hr.units150) (am bx (ae 2) (ag)) (ag)) (aq (aC (aJ (ac (ag) (ac (am cJ (am cX (ag) (ae 0)) (ag)) (ai)))))) (aQ)) (aq (aC (aJ (ac (ba (nX rfl) T.z_min boot_min (ac (ae 3) (ac (ae 4) (ai)))) (ac (ba (zN rfl) T.z_max boot_max (ac (ae 3) (ac (ae 4) (ai)))) (ai))))))))))
theorem Ek:bg P w K mg base (CX1 P w) 1 A.a_15 A.d_15 ["_law_cell", "_law_depth", "_law_begin_here"] (mI K A):=
 T.f_15.f.okS DA (zB K A) (EW T.1) fun _ _ _ _ _ _ hr=>
 aq (aC (am bx (am bI (am bx (am aO (am bI (am aO (ae 0) (ag)) (ag)) (am bI (am aO (am aO (am bI (ae 2) (ag)) (ae 1)) (ag)) (ag))) (ag)) (ag)) (ag)))
theorem xt:bg P w K mg base (CX1 P w) 1 A.a_14 A.d_14 ["_law_bits_here", "_law_low", "_law_high", "_law_depth", "_law_begin_here"] (kh K A):=
 T.f_14.f.okS wU (BA K A) (EE T.1) fun _ _ _ _ _ _ hr=>
 al (aG 5 wU.nd (am cX (ag) (am cJ (ae 0) (ae 3)))) (aq (aC (dL (di oLe (am bI (ae 4) (ae 5)) (ae 2)) (eN (di oLt (ae 1) (am bI (am aO (ae 4) (ag)) (ae 5)))))))
theorem DX:bg P w K mg base (CX1 P w) 1 A.a_13 A.d_13 ["_law_number_here"] (my K A):=
 T.f_13.f.okS wO (Ba K A) (EB T.1) fun _ _ _ _ _ _ hr=>
 al (aG 0 wO.nd (am bx (am bI (ae 0) (ag)) (ag))) (al (aZ (aU (bJ hr.units150) (am bx (ae 0) (ag)) (ag)) (aq (aC (am aO (az) (nB FG T.z_str boot_str (ac (am bx (ae 0) (ag)) (ai)))))) (aQ)) (al (aZ (aU (bJ hr.units150) (am bx (ae 0) (ag)) (ag)) (aq (aC (am bx (am cF (ae 0) (ag)) (ag)))) (aQ)) (al (aZ (aU (bJ hr.units150) (am bx (ae 0) (ag)) (ag)) (aq (aC (am bI (ae 0) (am gf (ag) (ag))))) (aQ)) (aq (aC (am cJ (am cJ (am gf (ag) (ag)) (ag)) (ae 0)))))))
theorem Dx:bg P w K mg base (CX1 P w) 1 A.a_26 A.d_26 ["_law_cell"] (jl K A):=
 T.f_26.f.okS fM (Az K A) (Cu T.1) fun _ _ _ _ _ _ hr=>
 al (aG 1 fM.nd (az)) (al (aG 1 fM.nd (am aO (ae 1) (az))) (al (aG 2 fM.nd (am bx (ae 0) (ag))) (al (aZ (aU (bJ hr.units150) (am bx (am cF (ae 0) (ag)) (ag)) (ag)) (aq (aG 2 fM.nd (ag))) (aQ)) (al (aZ (aU (bJ hr.units150) (am bx (am cF (ae 0) (ag)) (ag)) (ag)) (aq (aG 2 fM.nd (am bx (am cF (ae 0) (ag)) (ag)))) (aQ)) (al (aG 3 fM.nd (az)) (al (gy 4 fM.nd (jG T.z_range (ac (ae 2) (ai))) (aq (aG 3 fM.nd (am aO (ae 3) (aM (aw hr.units1) (ae 1) (am bx (am aO (am cF (ae 0) (ag)) (am bI (ae 4) (am bx (am cF (ae 0) (ag)) (ag)))) (ba cI T.z_len PySem.boot_len (ac (ae 1) (ai)))) (fun _ _=>rfl))))) PassesOwn.never) (aq (aC (ae 3)))))))))
theorem GM:bg P w K mg base (CX1 P w) 1 A.a_8 A.d_8 ["_law_number_here", "_law_begin_here", "_law_more", "_law_low", "_law_high", "_law_free"] (rh K A):=
 T.f_8.f.okS zd (Dw K A) (GK T.1) fun _ _ _ _ _ _ hr=>
 al (aZ (aU (bJ hr.units150) (am bx (ae 0) (ag)) (ag)) (aq (aC (am aO (am cX (ae 1) (ae 2)) (am bx (am bI (ae 0) (ag)) (am cX (ag) (ae 2)))))) (aQ)) (al (aG 6 zd.nd (am jL (am aO (ae 3) (am bx (ae 0) (am aO (am cJ (ae 4) (ae 3)) (ag)))) (am cJ (ae 5) (ae 2)))) (al (aZ (aU (eZ hr.units150) (am jL (ae 6) (ae 2)) (ae 1)) (aq (aC (am cX (ae 1) (ae 2)))) (aQ)) (aq (aC (ae 6)))))
theorem rF:∀ n:Nat,bg P w K mg base (CX1 P w) (1+n) A.a_18 A.d_18 ["_law_cell", "_law_bits_here", "_law_low", "_law_high", "_law_depth", "_law_begin_here", "_law_deep"] (iB K A n)
 | 0=>⟨fun vs H Q E h=>(xi K A vs H Q E h).elim,fun _ _ _ H _ _ vs Q E _ _ _ _ h=>(xi K A vs H Q E h).elim⟩
 | n+1=>T.f_18.f.okS fQ (BD K A (n+1)) (Cy T.1 n) fun _ _ _ _ _ _ (hr:bE (1+n) _)=>
 al (aG 7 fQ.nd (aT (Ek T) hr.le T.f_15 (ac (ae 0) (ac (ae 4) (ac (ae 5) (ai)))))) (al (aZ (bN (bG (aT (xt T) hr.le T.f_14 (ac (ae 1) (ac (ae 2) (ac (ae 3) (ac (ae 4) (ac (ae 5) (ai))))))))) (aq (aC (aJ (ac (az) (ac (aT (DX T) hr.le T.f_13 (ac (ae 7) (ai))) (ai)))))) (aQ)) (al (aZ (x_w (gO (aU (bJ hr.units150) (ae 4) (ag)) (fY (aU (bJ hr.units150) (am bx (ae 7) (ag)) (ag))))) (aq (aC (aJ (ac (az) (ai))))) (aQ)) (al (aG 8 fQ.nd (am cJ (ae 1) (ae 4))) (al (aZ (x_w (dB (aU oLt (ae 6) (ag)) (dB (aU (bJ hr.units150) (ae 8) (ag)) (dD (x_w (gO (aU (bJ hr.units150) (am bx (ae 7) (ag)) (ag)) (fY (aU oLt (ae 6) (ag))))))))) (al (aG 9 fQ.nd (am aO (am bI (ae 5) (am cX (ag) (ae 8))) (am bx (am bI (am cF (ae 7) (ag)) (ag)) (am cX (ag) (ae 8))))) (al (aZ (x_w (gO (aU (bJ hr.units150) (am bx (ae 7) (ag)) (ag)) (fY (aU (bJ hr.units150) (am jL (ae 2) (ae 8)) (ae 5))))) (aq (aG 9 fQ.nd (ae 2))) (aQ)) (aq (aC (aJ (ac (az) (ac (ae 9) (ac (aT (Dx T) hr.le T.f_26 (ac (am cF (ae 7) (ag)) (ai))) (ai))))))))) (aQ)) (al (aG 10 fQ.nd (aM (aw hr.units1) (bn (ac (ag) (ac (am bx (am cF (ae 7) (ag)) (ae 8)) (ac (ag) (ac (am bx (am cF (ae 7) (ag)) (ba (nX rfl) T.z_min boot_min (ac (ae 8) (ac (ag) (ai))))) (ai)))))) (am bx (ae 7) (ag)) (fun _ _=>rfl))) (al (aG 11 fQ.nd (aT (GM T) hr.le T.f_8 (ac (ae 7) (ac (ae 5) (ac (ae 10) (ac (ae 2) (ac (ae 3) (ac (ae 8) (ai))))))))) (al (aG 12 fQ.nd (aT (rF n) hr.le T.f_18 (ac (ae 0) (ac (ae 1) (ac (ae 2) (ac (ae 3) (ac (am aO (am aO (ae 4) (ae 10)) (ag)) (ac (am bI (ag) (ae 11)) (ac (am cJ (ae 6) (ag)) (ai)))))))))) (al (aG 13 fQ.nd (aT (rF n) hr.le T.f_18 (ac (ae 0) (ac (ae 1) (ac (ae 2) (ac (ae 3) (ac (am aO (am aO (ae 4) (ae 10)) (ag)) (ac (am aO (am bI (ag) (ae 11)) (ag)) (ac (am cJ (ae 6) (ag)) (ai)))))))))) (aq (aC (aJ (ac (az) (ac (am aO (ae 4) (ae 10)) (ac (ae 11) (ac (ae 12) (ac (ae 13) (ai)))))))))))))))))
theorem CL:bg P w K mg base (CX1 P w) 72 A.a_17 A.d_17 ["_law_cell", "_law_bits_here", "_law_low", "_law_high"] (mU K A):=
 T.f_17.f.okS rj (zi K A) (EN T.1) fun _ _ _ _ _ _ hr=>
 al (aG 4 rj.nd (am aO (ag) (am bx (am cF (ae 0) (ag)) (ag)))) (al (aZ (aU (bJ hr.units150) (ae 2) (ae 3)) (aq (aG 4 rj.nd (aM (aw hr.units1) (bn (ac (ag) (ac (ag) (ac (ae 4) (ai))))) (am bx (ae 0) (ag)) (fun _ _=>rfl)))) (aQ)) (aq (aC (aT (rF T 70) hr.le T.f_18 (ac (ae 0) (ac (ae 1) (ac (ae 2) (ac (ae 3) (ac (ag) (ac (ag) (ac (ae 4) (ai))))))))))))
theorem CB (B:BM mg base) (C:W.CodeHd base A.k_27 A.t_27) (Ar:Around) (outer:List Env) (s:Shared) (H:Hp) (E:XK)
  (hr:bE 0 (Ar.deeper (envOfC "_law_weak" (ap jJ) s.heap.objs.size A.a_27 (.ref A.k_27)))):QMs (cS (CX1 P w) P w K mg base ["_law_many", "_law_short"] "_law_weak" (ap jJ) A.a_27 (.ref A.k_27) Ar outer s H E).nox (bi jJ) (Aq K A (s.heap.objs.size+1)):=(
 yV (Bi (Dz 1 wC.nd B C rfl (by rfl) (by simp <;> omega) rfl rfl rfl rfl (fun _ _ _ _ _ us hl=>by obtain ⟨_,rfl⟩:=L2.jX hl;rfl))) (DN (EG (ae 1))))
theorem Cz:bg P w K mg base (CX1 P w) 1 A.a_27 A.d_27 ["_law_many"] (lV K A):=
 T.f_27.f.okM (caps:=fun L=>[(0,L+1)]) T.kc_27 wC (AE K A) (fun L p hp=>by simp only [List.mem_cons,List.not_mem_nil,or_false] at hp;rcases hp with rfl <;> exact ⟨_,rfl,rfl,rfl⟩) (fun L=>by simp) (fun Ar outer s H vs Q E hr h=>⟨_,QMs.nox (CB T T.B T.C_27 Ar outer s H E hr),ES T.1 (s.heap.objs.size+1) (by simp) vs H Q E h⟩)
theorem iZ:ph P w K mg base 1 (gn K A):=fun ts hts=>by
 simp only [gn,List.mem_cons,List.not_mem_nil,or_false] at hts
 rcases hts with rfl
 · exact (Dr T).mono (by decide)
theorem qI:∀ n:Nat,bg P w K mg base (CX1 P w) (1+n) A.a_16 A.d_16 ["_law_stamper", "_law_part_here"] (ia K A n)
 | 0=>⟨fun vs H Q E h=>(wH K A vs H Q E h).elim,fun _ _ _ H _ _ vs Q E _ _ _ _ h=>(wH K A vs H Q E h).elim⟩
 | n+1=>T.f_16.f.okS mw (Br K A (n+1)) (Es T.1 n) fun _ _ _ _ _ _ (hr:bE (1+n) _)=>
 al (aZ (aU (bJ hr.units150) (aM (aw hr.units1) (ae 1) (ag) (fun _ _=>rfl)) (az)) (aq (aC (aJ (ac (aM (aw hr.units1) (ae 1) (ag) (fun _ _=>rfl)) (ac (bn (ai)) (ai)))))) (aQ)) (al (aZ (aU (eZ hr.units150) (aM (aw hr.units1) (ae 1) (ag) (fun _ _=>rfl)) (az)) (aq (aC (aJ (ac (iP (iZ T) hr.le jy (ae 0) (ac (ae 1) (ai))) (ac (bn (ac (ae 1) (ai))) (ai)))))) (aQ)) (al (aG 2 mw.nd (aT (qI n) hr.le T.f_16 (ac (ae 0) (ac (aM (aw hr.units1) (ae 1) (ag) (fun _ _=>rfl)) (ai))))) (al (aG 3 mw.nd (aT (qI n) hr.le T.f_16 (ac (ae 0) (ac (aM (aw hr.units1) (ae 1) (ag) (fun _ _=>rfl)) (ai))))) (al (aG 4 mw.nd (aJ (ac (az) (ac (aM (aw hr.units1) (ae 1) (ag) (fun _ _=>rfl)) (ac (aM (aw hr.units1) (ae 1) (ag) (fun _ _=>rfl)) (ac (aM (aw hr.units1) (ae 2) (ag) (fun _ _=>rfl)) (ac (aM (aw hr.units1) (ae 3) (ag) (fun _ _=>rfl)) (ai)))))))) (aq (aC (aJ (ac (iP (iZ T) hr.le jy (ae 0) (ac (ae 4) (ai))) (ac (am aO (am aO (aM (aw hr.units1) (ae 2) (ag) (fun _ _=>rfl)) (aM (aw hr.units1) (ae 3) (ag) (fun _ _=>rfl))) (bn (ac (ae 4) (ai)))) (ai))))))))))
theorem rC:∀ n:Nat,bg P w K mg base (CX1 P w) (0+n) A.a_23 A.d_23 ["_law_part_here", "_law_depth", "_law_begin_here", "_law_path"] (ig K A n)
 | 0=>⟨fun vs H Q E h=>(wm K A vs H Q E h).elim,fun _ _ _ H _ _ vs Q E _ _ _ _ h=>(wm K A vs H Q E h).elim⟩
 | n+1=>T.f_23.f.okS mJ (Bs K A (n+1)) (Ec T.1 n) fun _ _ _ _ _ _ (hr:bE (0+n) _)=>
 al (aG 4 mJ.nd (bn (ac (aJ (ac (ae 1) (ac (ae 2) (ac (ae 3) (ai))))) (ai)))) (al (aZ (aU (bJ hr.units150) (aM (aw hr.units1) (ae 0) (ag) (fun _ _=>rfl)) (az)) (al (aG 4 mJ.nd (am aO (ae 4) (aT (rC n) hr.le T.f_23 (ac (aM (aw hr.units1) (ae 0) (ag) (fun _ _=>rfl)) (ac (am aO (aM (aw hr.units1) (ae 0) (ag) (fun _ _=>rfl)) (ag)) (ac (am bI (ag) (aM (aw hr.units1) (ae 0) (ag) (fun _ _=>rfl))) (ac (am aO (ae 3) (aJ (ac (ag) (ai)))) (ai)))))))) (aq (aG 4 mJ.nd (am aO (ae 4) (aT (rC n) hr.le T.f_23 (ac (aM (aw hr.units1) (ae 0) (ag) (fun _ _=>rfl)) (ac (am aO (aM (aw hr.units1) (ae 0) (ag) (fun _ _=>rfl)) (ag)) (ac (am aO (am bI (ag) (aM (aw hr.units1) (ae 0) (ag) (fun _ _=>rfl))) (ag)) (ac (am aO (ae 3) (aJ (ac (ag) (ai)))) (ai)))))))))) (aQ)) (aq (aC (ae 4))))
theorem Ha:bg P w K mg base (CX1 P w) 1 A.a_5 A.d_5 ["_law_bits_here", "_law_depth", "_law_begin_here"] (qk K A):=
 T.f_5.f.okS nZ (CA K A) (FI T.1) fun _ _ _ _ _ _ hr=>
 al (aG 3 nZ.nd (am cX (ae 2) (am cJ (ae 0) (ae 1)))) (al (aG 4 nZ.nd (bn (ac (aJ (ac (az) (ai))) (ac (aJ (ac (az) (ac (ag) (ac (ag) (ai))))) (ac (bn (ac (az) (ac (ag) (ai)))) (ac (aJ (ac (az) (ac (ag) (ai)))) (ac (aJ (ac (az) (ac (eS (ag)) (ai)))) (ac (aJ (ac (az) (ac (am gf (ag) (ag)) (ai)))) (ac (aJ (ac (az) (ac (fL) (ai)))) (ai)))))))))) (al (aG 4 nZ.nd (am aO (ae 4) (bn (ac (aJ (ac (az) (ac (cp) (ai)))) (ac (aJ (ac (az) (ac (bn (ac (az) (ai))) (ai)))) (ac (fL) (ac (aJ (ai)) (ac (az) (ac (ag) (ac (aJ (ac (az) (ai))) (ac (aJ (ac (az) (ac (ae 3) (ac (az) (ai))))) (ac (oK) (ai))))))))))))) (al (aG 4 nZ.nd (am aO (ae 4) (bn (ac (aJ (ac (az) (ac (am bI (am gf (ag) (ag)) (am gf (ag) (ag))) (ai)))) (ac (aJ (ac (az) (ac (eS (am gf (ag) (ag))) (ai)))) (ac (aJ (ac (az) (ac (cp) (ai)))) (ai))))))) (aq (aC (am aO (ae 4) (bn (ac (aJ (ac (az) (ac (ae 3) (ac (az) (ai))))) (ac (aJ (ac (az) (ac (ae 1) (ac (ae 2) (ac (aJ (ac (az) (ac (ag) (ai)))) (ac (aJ (ac (az) (ac (ag) (ai)))) (ai))))))) (ac (aJ (ac (az) (ac (aJ (ac (az) (ai))) (ai)))) (ai)))))))))))
theorem Gz:bg P w K mg base (CX1 P w) 1 A.a_7 A.d_7 ["_law_bits_here", "_law_depth", "_law_begin_here"] (qy K A):=
 T.f_7.f.okS iv (Eg K A) (Ga T.1) fun _ _ _ _ _ _ hr=>
 al (aG 3 iv.nd (am cX (ag) (am cJ (ae 0) (ae 1)))) (al (aG 4 iv.nd (am bI (ae 2) (ae 3))) (al (aG 5 iv.nd (bn (ac (aJ (ac (az) (ac (ag) (ai)))) (ac (aJ (ac (az) (ac (az) (ai)))) (ac (aJ (ac (az) (ai))) (ac (fL) (ac (aJ (ai)) (ac (bn (ai)) (ac (az) (ac (ag) (ac (cp) (ac (oK) (ac (bn (ac (az) (ai))) (ac (aJ (ac (az) (ac (ag) (ai)))) (ac (aJ (ac (az) (ai))) (ai)))))))))))))))) (al (aG 5 iv.nd (am aO (ae 5) (bn (ac (aJ (ac (az) (ac (ae 4) (ai)))) (ac (aJ (ac (az) (ac (ae 4) (ac (az) (ac (az) (ai)))))) (ac (bn (ac (az) (ac (ae 4) (ac (az) (ai))))) (ac (aJ (ac (az) (ac (ae 4) (ac (az) (ai))))) (ai)))))))) (al (aG 5 iv.nd (am aO (ae 5) (bn (ac (aJ (ac (az) (ac (ae 4) (ac (am bI (az) (ag)) (ai))))) (ac (aJ (ac (az) (ac (ae 4) (ac (fL) (ai))))) (ac (aJ (ac (az) (ac (fL) (ac (az) (ai))))) (ac (aJ (ac (az) (ac (cp) (ac (az) (ai))))) (ai)))))))) (al (aG 5 iv.nd (am aO (ae 5) (bn (ac (aJ (ac (az) (ac (eS (ag)) (ac (az) (ai))))) (ac (aJ (ac (az) (ac (am cX (ag) (ae 0)) (ac (az) (ai))))) (ac (aJ (ac (az) (ac (am aO (ae 4) (am cX (ag) (ae 0))) (ac (az) (ai))))) (ac (aJ (ac (az) (ac (bn (ai)) (ac (az) (ai))))) (ai)))))))) (al (aG 5 iv.nd (am aO (ae 5) (bn (ac (aJ (ac (az) (ac (di oGt (ae 4) (ag)) (ac (az) (ai))))) (ac (aJ (ac (az) (ac (am bI (am gf (ag) (ag)) (am gf (ag) (ag))) (ac (az) (ai))))) (ai)))))) (al (aZ (aU oGt (ae 1) (ag)) (aq (aG 5 iv.nd (am aO (ae 5) (bn (ac (aJ (ac (az) (ai))) (ac (aJ (ac (az) (ac (am bx (am aO (ae 4) (ae 3)) (am cX (ag) (ae 0))) (ac (az) (ai))))) (ac (aJ (ac (az) (ac (am oi (ae 4) (ae 3)) (ac (az) (ai))))) (ai)))))))) (aQ)) (aq (aC (ae 5))))))))))
theorem FZ:bg P w K mg base (CX1 P w) 1 A.a_6 A.d_6 ["_law_bits_here", "_law_depth", "_law_begin_here"] (rf K A):=
 T.f_6.f.okS dZ (Co K A) (Hd T.1) fun _ _ _ _ _ _ hr=>
 al (aG 3 dZ.nd (aJ (ac (az) (ac (ag) (ac (az) (ai)))))) (al (aG 4 dZ.nd (bn (ac (aJ (ac (az) (ac (am cJ (ae 1) (ag)) (ac (am jL (ae 2) (ag)) (ac (ae 3) (ac (ae 3) (ai))))))) (ac (aJ (ac (az) (ac (ae 0) (ac (am cX (ae 2) (am cJ (ae 0) (ae 1))) (ac (ae 3) (ac (ae 3) (ai))))))) (ai))))) (al (aG 4 dZ.nd (am aO (ae 4) (bn (ac (aJ (ac (az) (ac (fL) (ac (ae 2) (ac (ae 3) (ac (ae 3) (ai))))))) (ac (aJ (ac (az) (ac (az) (ac (ae 2) (ac (ae 3) (ac (ae 3) (ai))))))) (ac (aJ (ac (az) (ai))) (ai))))))) (al (aG 4 dZ.nd (am aO (ae 4) (bn (ac (aJ (ac (az) (ac (ae 1) (ac (ae 2) (ac (ae 3) (ai)))))) (ac (aJ (ac (az) (ac (ae 1) (ac (ae 2) (ac (ae 3) (ac (ae 3) (ac (ae 3) (ai)))))))) (ai)))))) (al (aG 4 dZ.nd (am aO (ae 4) (bn (ac (aJ (ac (az) (ac (ae 1) (ac (ae 2) (ac (ae 3) (ac (ae 3) (ai))))))) (ai))))) (al (aG 4 dZ.nd (am aO (ae 4) (bn (ac (bn (ac (az) (ac (ae 1) (ac (ae 2) (ac (ae 3) (ac (ae 3) (ai))))))) (ac (aJ (ac (az) (ac (ae 1) (ac (fL) (ac (ae 3) (ac (ae 3) (ai))))))) (ai)))))) (al (aG 4 dZ.nd (am aO (ae 4) (bn (ac (aJ (ac (az) (ac (ae 1) (ac (eS (ag)) (ac (ae 3) (ac (ae 3) (ai))))))) (ac (aJ (ac (az) (ac (cp) (ac (ag) (ac (ae 3) (ac (ae 3) (ai))))))) (ai)))))) (al (aG 4 dZ.nd (am aO (ae 4) (bn (ac (aJ (ac (az) (ac (ae 1) (ac (di oGt (ae 2) (ag)) (ac (ae 3) (ac (ae 3) (ai))))))) (ac (aJ (ac (az) (ac (di oGt (ae 1) (ag)) (ac (ae 2) (ac (ae 3) (ac (ae 3) (ai))))))) (ai)))))) (al (aG 5 dZ.nd (am bI (am gf (ag) (ag)) (am gf (ag) (ag)))) (al (aG 4 dZ.nd (am aO (ae 4) (bn (ac (aJ (ac (az) (ac (ae 5) (ac (ae 2) (ac (ae 3) (ac (ae 3) (ai))))))) (ac (aJ (ac (az) (ac (ae 1) (ac (ae 5) (ac (ae 3) (ac (ae 3) (ai))))))) (ai)))))) (al (aG 4 dZ.nd (am aO (ae 4) (bn (ac (aJ (ac (az) (ac (eS (ae 5)) (ac (ae 2) (ac (ae 3) (ac (ae 3) (ai))))))) (ac (aJ (ac (az) (ac (ae 1) (ac (eS (ae 5)) (ac (ae 3) (ac (ae 3) (ai))))))) (ai)))))) (al (aG 4 dZ.nd (am aO (ae 4) (bn (ac (aJ (ac (az) (ac (am aO (ae 0) (ag)) (ac (am cX (ae 2) (am cJ (am aO (ae 0) (ag)) (ae 1))) (ac (ae 3) (ac (ae 3) (ai))))))) (ac (aJ (ac (az) (ac (am aO (ae 0) (ag)) (ac (ag) (ac (ae 3) (ac (ae 3) (ai))))))) (ai)))))) (al (aG 4 dZ.nd (am aO (ae 4) (bn (ac (aJ (ac (az) (ac (ae 1) (ac (am aO (ae 2) (am cX (ag) (ae 1))) (ac (ae 3) (ac (ae 3) (ai))))))) (ai))))) (al (aZ (aU oGt (ae 1) (ag)) (al (aG 4 dZ.nd (am aO (ae 4) (bn (ac (aJ (ac (az) (ac (ae 1) (ac (am oi (ae 2) (ag)) (ac (ae 3) (ac (ae 3) (ai))))))) (ac (aJ (ac (az) (ac (am aO (ae 1) (ag)) (ac (am bI (ag) (am oi (ae 2) (ag))) (ac (ae 3) (ac (ae 3) (ai))))))) (ai)))))) (aq (aG 4 dZ.nd (am aO (ae 4) (bn (ac (aJ (ac (az) (ac (am aO (ae 1) (ag)) (ac (am aO (am bI (ag) (am oi (ae 2) (ag))) (ag)) (ac (ae 3) (ac (ae 3) (ai))))))) (ac (aJ (ac (az) (ac (ag) (ac (ag) (ac (ae 3) (ac (ae 3) (ai))))))) (ai)))))))) (aQ)) (aq (aC (ae 4))))))))))))))))
theorem GE:bg P w K mg base (CX1 P w) 2 A.a_4 A.d_4 ["_law_cell", "_law_bits_here", "_law_low", "_law_high", "_law_depth", "_law_begin_here"] (qF K A):=
 T.f_4.f.okS uy (DF K A) (Gc T.1) fun _ _ _ _ _ _ hr=>
 al (aZ (bN (bG (aT (xt T) hr.le T.f_14 (ac (ae 1) (ac (ae 2) (ac (ae 3) (ac (ae 4) (ac (ae 5) (ai))))))))) (aq (aG 6 uy.nd (aT (Ha T) hr.le T.f_5 (ac (ae 1) (ac (ae 4) (ac (ae 5) (ai))))))) (aq (aG 6 uy.nd (am aO (aT (Gz T) hr.le T.f_7 (ac (ae 1) (ac (ae 4) (ac (ae 5) (ai))))) (aT (FZ T) hr.le T.f_6 (ac (ae 1) (ac (ae 4) (ac (ae 5) (ai))))))))) (aq (aC (aM (aw hr.units1) (ae 6) (am bx (ae 0) (ba cI T.z_len PySem.boot_len (ac (ae 6) (ai)))) (fun _ _=>rfl))))
theorem xl:∀ n:Nat,bg P w K mg base (CX1 P w) (0+n) A.a_29 A.d_29 ["_law_part_here", "_law_path", "_law_new"] (jq K A n)
 | 0=>⟨fun vs H Q E h=>(wj K A vs H Q E h).elim,fun _ _ _ H _ _ vs Q E _ _ _ _ h=>(wj K A vs H Q E h).elim⟩
 | n+1=>T.f_29.f.okS vY (Bg K A (n+1)) (DW T.1 n) fun _ _ _ _ _ _ (hr:bE (0+n) _)=>
 al (aZ (aU (bJ hr.units150) (ae 1) (aJ (ai))) (aq (aC (ae 2))) (aQ)) (al (aG 3 vY.nd (aM (aw hr.units1) (ae 1) (ag) (fun _ _=>rfl))) (aq (aC (am aO (am aO (eE fw (ae 0) (fi) (dU (ae 3))) (aJ (ac (aT (xl n) hr.le T.f_29 (ac (aM (aw hr.units1) (ae 0) (ae 3) (fun _ _=>rfl)) (ac (eE fw (ae 1) (dU (ag)) (fi)) (ac (ae 2) (ai))))) (ai)))) (eE fw (ae 0) (dU (am aO (ae 3) (ag))) (fi))))))
theorem kG:bg P w K mg base (CX1 P w) 1 A.a_44 A.d_44 ["thing"] (gA K A):=
 T.f_44.f.okS Dv (zu K A) (En T.1) fun _ _ _ _ _ _ hr=>
 aq (aC (dL (ba dM T.z_isinstance boot_isinstance (ac (ae 0) (ac (dN T.z_int boot_int) (ai)))) (eN (wB (ba dM T.z_isinstance boot_isinstance (ac (ae 0) (ac (dN T.z_bool boot_bool) (ai))))))))
theorem mT:bg P w K mg base (CX1 P w) 2 A.a_37 A.d_37 ["bits", "thing"] (ib K A):=
 T.f_37.f.okS Cd (zv K A) (Ej T.1) fun _ _ _ _ _ _ hr=>
 aq (aC (dL (aT (kG T) hr.le T.f_44 (ac (ae 1) (ai))) (eN (kP oLe oLt (ag) (ae 1) (am cX (ag) (ae 0))))))
theorem wK:bg P w K mg base (CX1 P w) 3 A.a_33 A.d_33 ["bits", "low", "high"] (kA K A):=
 T.f_33.f.okS Dq (Bh K A) (DR T.1) fun _ _ _ _ _ _ hr=>
 al (aZ (x_w (dB (bN (bG (aT (mT T) hr.le T.f_37 (ac (ae 0) (ac (ae 1) (ai)))))) (dD (bN (bG (aT (mT T) hr.le T.f_37 (ac (ae 0) (ac (ae 2) (ai))))))))) (aq (oN)) (aQ)) (aq (aZ (aU oGt (ae 1) (ae 2)) (aq (oN)) (aQ)))
theorem Dt:bg P w K mg base (CX1 P w) 1 A.a_52 A.d_52 ["bits", "depth", "begin"] (mF K A):=
 T.f_52.f.okS wW (zY K A) (Cb T.1) fun _ _ _ _ _ _ hr=>
 al (aG 3 wW.nd (am cJ (ae 0) (ae 1))) (aq (aC (aJ (ac (am cX (ae 2) (ae 3)) (ac (am cJ (am cX (am aO (ae 2) (ag)) (ae 3)) (ag)) (ai))))))
theorem Fs:bg P w K mg base (CX1 P w) 2 A.a_46 A.d_46 ["bits", "low", "high", "depth", "begin"] (mP K A):=
 T.f_46.f.okS xo (AH K A) (Ff T.1) fun _ _ _ _ _ _ hr=>
 al (aG 5 xo.nd (aT (Dt T) hr.le T.f_52 (ac (ae 0) (ac (ae 3) (ac (ae 4) (ai)))))) (aq (aC (dL (di oLe (aM (aw hr.units1) (ae 5) (ag) (fun _ _=>rfl)) (ae 2)) (eN (di oLe (ae 1) (aM (aw hr.units1) (ae 5) (ag) (fun _ _=>rfl)))))))
theorem mE:bg P w K mg base (CX1 P w) 2 A.a_41 A.d_41 ["thing"] (ie K A):=
 T.f_41.f.okS EY (AG K A) (CS T.1) fun _ _ _ _ _ _ hr=>
 al (aZ (bG (aT (kG T) hr.le T.f_44 (ac (ae 0) (ai)))) (aq (aC (kP oLe oLt (ag) (ae 0) (am gf (ag) (ag))))) (aQ)) (aq (aC (ba dM T.z_isinstance boot_isinstance (ac (ae 0) (ac (dN T.z_str boot_str) (ai))))))
theorem Cv:bg P w K mg base (CX1 P w) 3 A.a_34 A.d_34 ["thing"] (mG K A):=
 T.f_34.f.okS CT (yQ K A) (CZ T.1) fun _ _ _ _ _ _ hr=>
 aq (aC (dL (ba dM T.z_isinstance boot_isinstance (ac (ae 0) (ac (dN T.z_tuple boot_tuple) (ai)))) (dL (di (bJ hr.units150) (ba cI T.z_len PySem.boot_len (ac (ae 0) (ai))) (ag)) (dL (di (bJ hr.units150) (aM (aw hr.units1) (ae 0) (ag) (fun _ _=>rfl)) (az)) (eN (aT (mE T) hr.le T.f_41 (ac (aM (aw hr.units1) (ae 0) (ag) (fun _ _=>rfl)) (ai))))))))
theorem Dp:bg P w K mg base (CX1 P w) 1 A.a_43 A.d_43 ["thing"] (mi K A):=
 T.f_43.f.okS Dn (zI K A) (DE T.1) fun _ _ _ _ _ _ hr=>
 aq (aC (dL (ba dM T.z_isinstance boot_isinstance (ac (ae 0) (ac (dN T.z_str boot_str) (ai)))) (eN (di oLe (ba cI T.z_len PySem.boot_len (ac (ae 0) (ai))) (FQ T.c_MOST_SIGNS)))))
theorem mR:bg P w K mg base (CX1 P w) 1 A.a_53 A.d_53 ["bits", "key", "depth"] (ir K A):=
 T.f_53.f.okS ER (Au K A) (DU T.1) fun _ _ _ _ _ _ hr=>
 aq (aC (am jL (ae 1) (am cJ (ae 0) (ae 2))))
theorem xj:bg P w K mg base (CX1 P w) 3 A.a_38 A.d_38 ["bits", "depth", "begin", "thing"] (kB K A):=
 T.f_38.f.okS Fb (Bo K A) (Cm T.1) fun _ _ _ _ _ _ hr=>
 al (aZ (x_w (dB (bN (bG (ba dM T.z_isinstance boot_isinstance (ac (ae 3) (ac (dN T.z_tuple boot_tuple) (ai)))))) (dB (aU (eZ hr.units150) (ba cI T.z_len PySem.boot_len (ac (ae 3) (ai))) (ag)) (dD (aU (eZ hr.units150) (aM (aw hr.units1) (ae 3) (ag) (fun _ _=>rfl)) (az)))))) (aq (aC (cp))) (aQ)) (al (aZ (x_w (dB (bN (bG (aT (mT T) hr.le T.f_37 (ac (ae 0) (ac (aM (aw hr.units1) (ae 3) (ag) (fun _ _=>rfl)) (ai)))))) (dD (bN (bG (aT (Dp T) hr.le T.f_43 (ac (aM (aw hr.units1) (ae 3) (ag) (fun _ _=>rfl)) (ai)))))))) (aq (aC (cp))) (aQ)) (aq (aC (di (bJ hr.units150) (aT (mR T) hr.le T.f_53 (ac (ae 0) (ac (aM (aw hr.units1) (ae 3) (ag) (fun _ _=>rfl)) (ac (ae 1) (ai))))) (ae 2)))))
theorem xn:bg P w K mg base (CX1 P w) 2 A.a_36 A.d_36 ["bits", "depth", "begin", "thing"] (jW K A):=
 T.f_36.f.okS Cp (Al K A) (Eo T.1) fun _ _ _ _ _ _ hr=>
 al (aZ (x_w (dB (bN (bG (ba dM T.z_isinstance boot_isinstance (ac (ae 3) (ac (dN T.z_tuple boot_tuple) (ai)))))) (dB (aU (eZ hr.units150) (ba cI T.z_len PySem.boot_len (ac (ae 3) (ai))) (ag)) (dD (aU (eZ hr.units150) (aM (aw hr.units1) (ae 3) (ag) (fun _ _=>rfl)) (az)))))) (aq (aC (cp))) (aQ)) (al (aZ (x_w (dB (bN (bG (aT (kG T) hr.le T.f_44 (ac (aM (aw hr.units1) (ae 3) (ag) (fun _ _=>rfl)) (ai))))) (dD (bN (gc oLe oLt (ae 1) (aM (aw hr.units1) (ae 3) (ag) (fun _ _=>rfl)) (ae 0)))))) (aq (aC (cp))) (aQ)) (al (aZ (x_w (dB (bN (bG (aT (kG T) hr.le T.f_44 (ac (aM (aw hr.units1) (ae 3) (ag) (fun _ _=>rfl)) (ai))))) (dD (bN (gc oLe oLt (ag) (aM (aw hr.units1) (ae 3) (ag) (fun _ _=>rfl)) (am cX (ag) (aM (aw hr.units1) (ae 3) (ag) (fun _ _=>rfl)))))))) (aq (aC (cp))) (aQ)) (aq (aC (di (bJ hr.units150) (am jL (aM (aw hr.units1) (ae 3) (ag) (fun _ _=>rfl)) (am cJ (aM (aw hr.units1) (ae 3) (ag) (fun _ _=>rfl)) (ae 1))) (ae 2))))))
theorem EU:bg P w K mg base (CX1 P w) 4 A.a_39 A.d_39 ["bits", "low", "high", "depth", "begin", "thing"] (lZ K A):=
 T.f_39.f.okS DS (zj K A) (DQ T.1) fun _ _ _ _ _ _ hr=>
 al (aZ (bN (bG (aT (Fs T) hr.le T.f_46 (ac (ae 0) (ac (ae 1) (ac (ae 2) (ac (ae 3) (ac (ae 4) (ai))))))))) (aq (aC (aT (Cv T) hr.le T.f_34 (ac (ae 5) (ai))))) (aQ)) (al (aZ (aU (zW hr.units150) (ae 5) (aJ (ac (az) (ai)))) (aq (aC (di (bJ hr.units150) (ae 3) (ag)))) (aQ)) (aq (aC (GF (aT (xj T) hr.le T.f_38 (ac (ae 0) (ac (ae 3) (ac (ae 4) (ac (ae 5) (ai)))))) (eN (aT (xn T) hr.le T.f_36 (ac (ae 0) (ac (ae 3) (ac (ae 4) (ac (ae 5) (ai)))))))))))
theorem GG:bg P w K mg base (CX1 P w) 1 A.a_1 A.d_1 ["self", "depth", "begin"] (pY K A):=
 T.f_1.okS Gr (Eh K A) (GX T.1) fun _ _ _ _ _ _ hr=>
 al (kF (ae 0) (ae 1)) (aq (kF (ae 0) (ae 2)))
theorem Cj (n:Nat) (G_32:bg P w K mg base (CX1 P w) (4+n) A.a_32 A.d_32 ["bits", "low", "high", "depth", "begin", "part"] (fq K A n)) (cdv:Value) (Ar:Around) (outer:List Env) (s:Shared) (H:Hp) (E:XK)
  (hr:bE (4+n) (Ar.deeper (envOfC "check_part" (ap kQ) s.heap.objs.size A.a_32 cdv))):PSs (cS (CX1 P w) P w K mg base ["bits", "low", "high", "depth", "begin", "part"] "check_part" (ap kQ) A.a_32 cdv Ar outer s H E) (bi kQ) (AN K A E n):=QSs.out (
 al (aZ (bN (bG (aT (EU T) hr.le T.f_39 (ac (ae 0) (ac (ae 1) (ac (ae 2) (ac (ae 3) (ac (ae 4) (ac (ae 5) (ai)))))))))) (aq (nj T.em_NoPart (GG T) hr.le T.b_1 T.mc_NoPart gC (ac (ae 3) (ac (ae 4) (ai))))) (aQ)) (aq (aZ (aU (bJ hr.units150) (aM (aw hr.units1) (ae 5) (ag) (fun _ _=>rfl)) (az)) (al (eV (cP G_32 hr.le T.f_32.m T.f_32.f.kp T.f_32.b cT (ac (ae 0) (ac (ae 1) (ac (ae 2) (ac (am aO (aM (aw hr.units1) (ae 5) (ag) (fun _ _=>rfl)) (ag)) (ac (am bI (ag) (aM (aw hr.units1) (ae 5) (ag) (fun _ _=>rfl))) (ac (aM (aw hr.units1) (ae 5) (ag) (fun _ _=>rfl)) (ai))))))))) (aq (eV (cP G_32 hr.le T.f_32.m T.f_32.f.kp T.f_32.b cT (ac (ae 0) (ac (ae 1) (ac (ae 2) (ac (am aO (aM (aw hr.units1) (ae 5) (ag) (fun _ _=>rfl)) (ag)) (ac (am aO (am bI (ag) (aM (aw hr.units1) (ae 5) (ag) (fun _ _=>rfl))) (ag)) (ac (aM (aw hr.units1) (ae 5) (ag) (fun _ _=>rfl)) (ai))))))))))) (aQ))))
theorem qM:∀ n:Nat,bg P w K mg base (CX1 P w) (4+n) A.a_32 A.d_32 ["bits", "low", "high", "depth", "begin", "part"] (fq K A n)
 | 0=>⟨fun vs H Q E h=>(wb K A vs H Q E h).elim,fun _ _ _ H _ _ vs Q E _ _ _ _ h=>(wb K A vs H Q E h).elim⟩
 | n+1=>T.f_32.f.okX DH (AJ K A (n+1)) (fun cdv Ar outer s H vs Q E hr h=>⟨_,Cj T n (qM n) cdv Ar outer s H E hr,De T.1 n vs H Q E h⟩)
theorem Fe (cdv:Value) (Ar:Around) (outer:List Env) (s:Shared) (H:Hp) (E:XK)
  (hr:bE 74 (Ar.deeper (envOfC "check_paper" (ap kX) s.heap.objs.size A.a_31 cdv))):PSs (cS (CX1 P w) P w K mg base ["bits", "low", "high", "paper"] "check_paper" (ap kX) A.a_31 cdv Ar outer s H E) (bi kX) (Af K A E):=QSs.out (
 al (eV (aT (wK T) hr.le T.f_33 (ac (ae 0) (ac (ae 1) (ac (ae 2) (ai)))))) (aq (eV (cP (qM T 70) hr.le T.f_32.m T.f_32.f.kp T.f_32.b cT (ac (ae 0) (ac (ae 1) (ac (ae 2) (ac (ag) (ac (ag) (ac (ae 3) (ai)))))))))))
theorem Cs:bg P w K mg base (CX1 P w) 75 A.a_31 A.d_31 ["bits", "low", "high", "paper"] (mS K A):=
 T.f_31.f.okX CV (Be K A) (fun cdv Ar outer s H vs Q E hr h=>⟨_,Fe T cdv Ar outer s H E hr,CM T.1 vs H Q E h⟩)
theorem ro:bg P w K mg base (CX1 P w) 2 A.a_47 A.d_47 ["stamper", "part", "terms"] (iJ K A):=
 T.f_47.f.okS DL (Ae K A) (Eb T.1) fun _ _ _ _ _ _ hr=>
 aq (aC (yO (aU (bJ hr.units150) (aM (aw hr.units1) (ae 1) (ag) (fun _ _=>rfl)) (az)) (aM (aw hr.units1) (ae 1) (ag) (fun _ _=>rfl)) (iP (iZ T) hr.le jy (ae 0) (ac (aM (aw hr.units1) (ae 2) (eS (ag)) (fun _ _=>rfl)) (ai)))))
theorem kI:∀ n:Nat,bg P w K mg base (CX1 P w) (2+n) A.a_48 A.d_48 ["stamper", "part"] (ft K A n)
 | 0=>⟨fun vs H Q E h=>(xc K A vs H Q E h).elim,fun _ _ _ H _ _ vs Q E _ _ _ _ h=>(xc K A vs H Q E h).elim⟩
 | n+1=>T.f_48.f.okS lW (zn K A (n+1)) (Cc T.1 n) fun _ _ _ _ _ _ (hr:bE (2+n) _)=>
 al (aZ (aU (bJ hr.units150) (aM (aw hr.units1) (ae 1) (ag) (fun _ _=>rfl)) (az)) (aq (aC (bn (ai)))) (aQ)) (al (aZ (aU (eZ hr.units150) (aM (aw hr.units1) (ae 1) (ag) (fun _ _=>rfl)) (az)) (aq (aC (bn (ac (ae 1) (ai))))) (aQ)) (al (aG 2 lW.nd (aT (kI n) hr.le T.f_48 (ac (ae 0) (ac (aM (aw hr.units1) (ae 1) (ag) (fun _ _=>rfl)) (ai))))) (al (aG 3 lW.nd (aT (kI n) hr.le T.f_48 (ac (ae 0) (ac (aM (aw hr.units1) (ae 1) (ag) (fun _ _=>rfl)) (ai))))) (al (aG 4 lW.nd (aJ (ac (aT (ro T) hr.le T.f_47 (ac (ae 0) (ac (aM (aw hr.units1) (ae 1) (ag) (fun _ _=>rfl)) (ac (ae 2) (ai))))) (ac (aT (ro T) hr.le T.f_47 (ac (ae 0) (ac (aM (aw hr.units1) (ae 1) (ag) (fun _ _=>rfl)) (ac (ae 3) (ai))))) (ai))))) (aq (aC (am aO (am aO (ae 2) (ae 3)) (bn (ac (aJ (ac (az) (ac (aM (aw hr.units1) (ae 1) (ag) (fun _ _=>rfl)) (ac (aM (aw hr.units1) (ae 1) (ag) (fun _ _=>rfl)) (ac (aM (aw hr.units1) (ae 4) (ag) (fun _ _=>rfl)) (ac (aM (aw hr.units1) (ae 4) (ag) (fun _ _=>rfl)) (ai))))))) (ai))))))))))
theorem EM (cdv:Value) (Ar:Around) (outer:List Env) (s:Shared) (H:Hp) (E:XK)
  (hr:bE 75 (Ar.deeper (envOfC "stretch_terms" (ap kO) s.heap.objs.size A.a_56 cdv))):PSs (cS (CX1 P w) P w K mg base ["stamper", "bits", "low", "high", "paper"] "stretch_terms" (ap kO) A.a_56 cdv Ar outer s H E) (bi kO) (yH K A E):=QSs.out (
 al (eV (cP (Cs T) hr.le T.f_31.m T.f_31.f.kp T.f_31.b cT (ac (ae 1) (ac (ae 2) (ac (ae 3) (ac (ae 4) (ai))))))) (aq (aC (aT (kI T 70) hr.le T.f_48 (ac (ae 0) (ac (ae 4) (ai)))))))
theorem mK:bg P w K mg base (CX1 P w) 76 A.a_56 A.d_56 ["stamper", "bits", "low", "high", "paper"] (hZ K A):=
 T.f_56.f.okX CW (Bb K A) (fun cdv Ar outer s H vs Q E hr h=>⟨_,EM T cdv Ar outer s H E hr,CQ T.1 vs H Q E h⟩)
theorem CU (cdv:Value) (Ar:Around) (outer:List Env) (s:Shared) (H:Hp) (E:XK)
  (hr:bE 76 (Ar.deeper (envOfC "stretch_mark" (ap kY) s.heap.objs.size A.a_55 cdv))):PSs (cS (CX1 P w) P w K mg base ["stamper", "bits", "low", "high", "paper"] "stretch_mark" (ap kY) A.a_55 cdv Ar outer s H E) (bi kY) (Bq K A E):=QSs.out (
 aq (aC (iP (iZ T) hr.le jy (ae 0) (ac (aM (aw hr.units1) (cP (mK T) hr.le T.f_56.m T.f_56.f.kp T.f_56.b cT (ac (ae 0) (ac (ae 1) (ac (ae 2) (ac (ae 3) (ac (ae 4) (ai))))))) (eS (ag)) (fun _ _=>rfl)) (ai)))))
theorem CF:bg P w K mg base (CX1 P w) 77 A.a_55 A.d_55 ["stamper", "bits", "low", "high", "paper"] (mh K A):=
 T.f_55.f.okX Cr (BN K A) (fun cdv Ar outer s H vs Q E hr h=>⟨_,CU T cdv Ar outer s H E hr,Fl T.1 vs H Q E h⟩)
theorem Hl:bg P w K mg base (CX1 P w) 1 A.a_0 A.d_0 ["self", "due", "came"] (rg K A):=
 T.f_0.okS Hk (Eu K A) (Gq T.1) fun _ _ _ _ _ _ hr=>
 al (kF (ae 0) (ae 1)) (aq (kF (ae 0) (ae 2)))
theorem Ds:bg P w K mg base (CX1 P w) 1 A.a_49 A.d_49 ["low", "high", "terms"] (lU K A):=
 T.f_49.f.okS CK (zg K A) (Ci T.1) fun _ _ _ _ _ _ hr=>
 aq (aC (nE (ys:=["low", "high"]) (by exact ⟨rfl,by decide +kernel,by decide +kernel,rfl,by decide +kernel,by decide +kernel⟩) (by exact .cons rfl (by first | exact .inl rfl | exact .inr rfl) rfl (.cons rfl (by first | exact .inl rfl | exact .inr rfl) rfl (.nil))) (fA (ae 2)) (fun C s H fp=>oR (x_w (gO (aU (bJ hr.units150) (aM (aw hr.units1) (ae 0) (ag) (fun _ _=>rfl)) (az)) (fY (gc oLe oLe (ae 1) (aM (aw hr.units1) (ae 0) (ag) (fun _ _=>rfl)) (ae 2)))))) (fun C s H fp=>(aJ (ac (aM (aw hr.units1) (ae 0) (ag) (fun _ _=>rfl)) (ac (aM (aw hr.units1) (ae 0) (ag) (fun _ _=>rfl)) (ai)))))))
theorem Ep (cdv:Value) (Ar:Around) (outer:List Env) (s:Shared) (H:Hp) (E:XK)
  (hr:bE 76 (Ar.deeper (envOfC "stretch_answer" (ap lh) s.heap.objs.size A.a_54 cdv))):PSs (cS (CX1 P w) P w K mg base ["stamper", "bits", "mark", "low", "high", "paper", "terms", "came"] "stretch_answer" (ap lh) A.a_54 cdv Ar outer s H E) (bi lh) (Bn K A E):=QSs.out (
 al (aG 6 qi.nd (cP (mK T) hr.le T.f_56.m T.f_56.f.kp T.f_56.b cT (ac (ae 0) (ac (ae 1) (ac (ae 3) (ac (ae 4) (ac (ae 5) (ai)))))))) (al (aG 7 qi.nd (iP (iZ T) hr.le jy (ae 0) (ac (aM (aw hr.units1) (ae 6) (eS (ag)) (fun _ _=>rfl)) (ai)))) (al (aZ (aU (eZ hr.units150) (ae 7) (ae 2)) (aq (nj T.em_Broken (Hl T) hr.le T.b_0 T.mc_Broken gC (ac (ae 2) (ac (ae 7) (ai))))) (aQ)) (aq (aC (aT (Ds T) hr.le T.f_49 (ac (ae 3) (ac (ae 4) (ac (ae 6) (ai))))))))))
theorem wD:bg P w K mg base (CX1 P w) 77 A.a_54 A.d_54 ["stamper", "bits", "mark", "low", "high", "paper"] (kC K A):=
 T.f_54.f.okX qi (zX K A) (fun cdv Ar outer s H vs Q E hr h=>⟨_,Ep T cdv Ar outer s H E hr,DJ T.1 vs H Q E h⟩)
theorem EV:bg P w K mg base (CX1 P w) 1 A.a_50 A.d_50 ["bits", "key", "depth"] (mL K A):=
 T.f_50.f.okS Ca (Ah K A) (Fu T.1) fun _ _ _ _ _ _ hr=>
 aq (aC (am Ee (am jL (ae 1) (am cJ (am cJ (ae 0) (ae 2)) (ag))) (ag)))
theorem Dy (cdv:Value) (Ar:Around) (outer:List Env) (s:Shared) (H:Hp) (E:XK)
  (hr:bE 74 (Ar.deeper (envOfC "slip_from" (ap lq) s.heap.objs.size A.a_51 cdv))):PSs (cS (CX1 P w) P w K mg base ["stamper", "bits", "low", "high", "paper", "key", "steps", "part", "turn", "aside"] "slip_from" (ap lq) A.a_51 cdv Ar outer s H E) (bi lq) (BS K A E):=QSs.out (
 al (aZ (bN (bG (aT (mT T) hr.le T.f_37 (ac (ae 1) (ac (ae 5) (ai)))))) (aq (pK T.er_NoKey T.mc_NoKey gC)) (aQ)) (al (eV (aT (wK T) hr.le T.f_33 (ac (ae 1) (ac (ae 2) (ac (ae 3) (ai)))))) (al (aZ (bN (gc oLe oLe (ae 2) (ae 5) (ae 3))) (aq (pK T.er_NoKey T.mc_NoKey gC)) (aQ)) (al (eV (cP (qM T 70) hr.le T.f_32.m T.f_32.f.kp T.f_32.b cT (ac (ae 1) (ac (ae 2) (ac (ae 3) (ac (ag) (ac (ag) (ac (ae 4) (ai))))))))) (al (aG 6 jj.nd (bn (ai))) (al (aG 7 jj.nd (ae 4)) (al (yb (x_w (gO (aU (bJ hr.units150) (aM (aw hr.units1) (ae 7) (ag) (fun _ _=>rfl)) (az)) (fY (aU (bJ hr.units150) (aT (mR T) hr.le T.f_53 (ac (ae 1) (ac (ae 5) (ac (aM (aw hr.units1) (ae 7) (ag) (fun _ _=>rfl)) (ai))))) (aM (aw hr.units1) (ae 7) (ag) (fun _ _=>rfl)))))) (al (aG 8 jj.nd (aT (EV T) hr.le T.f_50 (ac (ae 1) (ac (ae 5) (ac (aM (aw hr.units1) (ae 7) (ag) (fun _ _=>rfl)) (ai)))))) (al (aG 9 jj.nd (aM (aw hr.units1) (ae 7) (am cJ (ag) (ae 8)) (fun _ _=>rfl))) (al (eV (FK PySem.F.plainAttrs_list PySem.F.slot_list_append PySem.F.type_list_append lu (ae 6) (ac (aJ (ac (aM (aw hr.units1) (ae 7) (ag) (fun _ _=>rfl)) (ac (aT (ro T) hr.le T.f_47 (ac (ae 0) (ac (ae 9) (ac (aT (kI T 70) hr.le T.f_48 (ac (ae 0) (ac (ae 9) (ai)))) (ai))))) (ai)))) (ai)))) (aq (aG 7 jj.nd (aM (aw hr.units1) (ae 7) (am aO (ag) (ae 8)) (fun _ _=>rfl))))))) PassesOwn.leaving) (aq (aC (aJ (ac (nB Bd T.z_tuple boot_tuple (ac (ae 6) (ai))) (ac (aM (aw hr.units1) (aT (kI T 70) hr.le T.f_48 (ac (ae 0) (ac (ae 7) (ai)))) (eS (ag)) (fun _ _=>rfl)) (ai)))))))))))))
theorem wg:bg P w K mg base (CX1 P w) 75 A.a_51 A.d_51 ["stamper", "bits", "low", "high", "paper", "key"] (jY K A):=
 T.f_51.f.okX jj (AV K A) (fun cdv Ar outer s H vs Q E hr h=>⟨_,Dy T cdv Ar outer s H E hr,DV T.1 vs H Q E h⟩)
theorem FL (cdv:Value) (Ar:Around) (outer:List Env) (s:Shared) (H:Hp) (E:XK)
  (hr:bE 77 (Ar.deeper (envOfC "_law_ask" (ap s_2) s.heap.objs.size A.a_2 cdv))):PSs (cS (CX1 P w) P w K mg base ["_law_way", "_law_stamper", "_law_bits_here", "_law_mark_here", "_law_low", "_law_high", "_law_paper_here"] "_law_ask" (ap s_2) A.a_2 cdv Ar outer s H E) (bi s_2) (T_2 K A E):=QSs.out (
 al (aZ (aU (bJ hr.units150) (ae 0) (ag)) (aq (aC (cP (mK T) hr.le T.f_56.m T.f_56.f.kp T.f_56.b cT (ac (ae 1) (ac (ae 2) (ac (ae 4) (ac (ae 5) (ac (ae 6) (ai))))))))) (aQ)) (al (aZ (aU (bJ hr.units150) (ae 0) (ag)) (aq (aC (cP (CF T) hr.le T.f_55.m T.f_55.f.kp T.f_55.b cT (ac (ae 1) (ac (ae 2) (ac (ae 4) (ac (ae 5) (ac (ae 6) (ai))))))))) (aQ)) (al (aZ (aU (bJ hr.units150) (ae 0) (ag)) (aq (aC (cP (wD T) hr.le T.f_54.m T.f_54.f.kp T.f_54.b cT (ac (ae 1) (ac (ae 2) (ac (ae 3) (ac (ae 4) (ac (ae 5) (ac (ae 6) (ai)))))))))) (aQ)) (aq (aC (cP (wg T) hr.le T.f_51.m T.f_51.f.kp T.f_51.b cT (ac (ae 1) (ac (ae 2) (ac (ae 4) (ac (ae 5) (ac (ae 6) (ac (ae 4) (ai)))))))))))))
theorem Fz:bg P w K mg base (CX1 P w) 78 A.a_2 A.d_2 ["_law_way", "_law_stamper", "_law_bits_here", "_law_mark_here", "_law_low", "_law_high", "_law_paper_here"] (qC K A):=
 T.f_2.f.okX Gk (CC K A) (fun cdv Ar outer s H vs Q E hr h=>⟨_,FL T cdv Ar outer s H E hr,GJ T.1 vs H Q E h⟩)
theorem DC:bg P w K mg base (CX1 P w) 79 A.a_20 A.d_20 ["_law_way", "_law_stamper", "_law_bits_here", "_law_mark_here", "_law_low", "_law_high", "_law_paper_here"] (mH K A):=
 T.f_20.f.okS mj (zq K A) (Dg T.1) fun _ _ _ _ _ E hr=>
 al (aG 7 mj.nd (fL)) (al (EL (fun pn' E' EH hEH=>aq (eV (cP (Fz T) hr.le T.f_2.m T.f_2.f.kp T.f_2.b hEH (ac (ae 0) (ac (ae 1) (ac (ae 2) (ac (ae 3) (ac (ae 4) (ac (ae 5) (ac (ae 6) (ai))))))))))) (Cg 8 mj.nd T.eo_NoPart T.mc_NoPart (fun a=>aq (aG 7 mj.nd (aJ (ac (tO (ae 8)) (ac (tO (ae 8)) (ac (ba EA T.z_isinstance boot_isinstance (ac (ae 8) (ac (GI T.mc_StampError) (ai)))) (ai))))))) (zc)) (aQ)) (aq (aC (ae 7))))
theorem DD:bg P w K mg base (CX1 P w) 1 A.a_19 A.d_19 ["_law_found", "_law_due"] (lX K A):=
 T.f_19.f.okS Di (Aw K A) (DK T.1) fun _ _ _ _ _ _ hr=>
 al (aZ (bG (ba dM T.z_isinstance boot_isinstance (ac (ae 1) (ac (dN T.z_str boot_str) (ai))))) (aq (aC (dL (ba dM T.z_isinstance boot_isinstance (ac (ae 0) (ac (dN T.z_str boot_str) (ai)))) (eN (di (bJ hr.units150) (ae 0) (ae 1)))))) (aQ)) (aq (aC (dL (ba dM T.z_isinstance boot_isinstance (ac (ae 0) (ac (dN T.z_int boot_int) (ai)))) (dL (wB (ba dM T.z_isinstance boot_isinstance (ac (ae 0) (ac (dN T.z_bool boot_bool) (ai))))) (eN (di (bJ hr.units150) (ae 0) (ae 1)))))))
theorem vZ:bg P w K mg base (CX1 P w) 2 A.a_25 A.d_25 ["_law_found", "_law_due"] (kg K A):=
 T.f_25.f.okS wL (zp K A) (Ed T.1) fun _ _ _ _ _ _ hr=>
 al (aZ (x_w (dB (bN (bG (ba dM T.z_isinstance boot_isinstance (ac (ae 0) (ac (dN T.z_tuple boot_tuple) (ai)))))) (dD (aU (eZ hr.units150) (ba cI T.z_len PySem.boot_len (ac (ae 0) (ai))) (ba cI T.z_len PySem.boot_len (ac (ae 1) (ai))))))) (aq (aC (cp))) (aQ)) (al (gy 2 wL.nd (jG T.z_range (ac (ba cI T.z_len PySem.boot_len (ac (ae 1) (ai))) (ai))) (aq (aZ (bN (bG (aT (DD T) hr.le T.f_19 (ac (aM (aw hr.units1) (ae 0) (ae 2) (fun _ _=>rfl)) (ac (aM (aw hr.units1) (ae 1) (ae 2) (fun _ _=>rfl)) (ai)))))) (aq (aC (cp))) (aQ))) PassesOwn.never) (aq (aC (cp))))
theorem Ef:bg P w K mg base (CX1 P w) 80 A.a_22 A.d_22 ["_law_cell", "_law_stamper", "_law_bits_here", "_law_mark_here", "_law_low", "_law_high", "_law_paper_here", "_law_spots_here"] (mm K A):=
 T.f_22.f.okS fJ (zw K A) (Fq T.1) fun _ _ _ _ _ _ hr=>
 al (aG 8 fJ.nd (am bx (am cF (ae 0) (ag)) (ba cI T.z_len PySem.boot_len (ac (ae 7) (ai))))) (al (aG 9 fJ.nd (am bx (am bx (am bI (ae 0) (ag)) (ag)) (ba cI T.z_len PySem.boot_len (ac (ae 7) (ai))))) (al (aZ (aU (bJ hr.units150) (am bx (ae 0) (ag)) (ag)) (aq (aG 9 fJ.nd (ae 8))) (aQ)) (al (aG 10 fJ.nd (ae 6)) (al (gy 11 fJ.nd (fA (bn (ac (ba (zN rfl) T.z_max boot_max (ac (ae 8) (ac (ae 9) (ai)))) (ac (ba (nX rfl) T.z_min boot_min (ac (ae 8) (ac (ae 9) (ai)))) (ai))))) (al (aG 12 fJ.nd (aT (GE T) hr.le T.f_4 (ac (am aO (am cF (ae 0) (ag)) (am bI (am bx (ae 0) (ag)) (ag))) (ac (ae 2) (ac (ae 4) (ac (ae 5) (ac (aM (aw hr.units1) (aM (aw hr.units1) (ae 7) (ae 11) (fun _ _=>rfl)) (ag) (fun _ _=>rfl)) (ac (aM (aw hr.units1) (aM (aw hr.units1) (ae 7) (ae 11) (fun _ _=>rfl)) (ag) (fun _ _=>rfl)) (ai))))))))) (aq (aG 10 fJ.nd (aT (xl T 70) hr.le T.f_29 (ac (ae 10) (ac (aM (aw hr.units1) (aM (aw hr.units1) (ae 7) (ae 11) (fun _ _=>rfl)) (ag) (fun _ _=>rfl)) (ac (ae 12) (ai)))))))) PassesOwn.never) (al (aG 13 fJ.nd (aT (DC T) hr.le T.f_20 (ac (am bx (am cF (ae 0) (ag)) (ag)) (ac (ae 1) (ac (ae 2) (ac (ae 3) (ac (ae 4) (ac (ae 5) (ac (ae 10) (ai)))))))))) (al (aZ (x_w (dB (aU FN (ae 13) (fL)) (dD (aU pB (aM (aw hr.units1) (ae 13) (ag) (fun _ _=>rfl)) (cp))))) (aq (aC (cp))) (aQ)) (aq (aC (aT (vZ T) hr.le T.f_25 (ac (eE fw (ae 13) (fi) (dU (ag))) (ac (eE fw (aM (aw hr.units1) (ae 7) (ba (nX rfl) T.z_min boot_min (ac (ae 8) (ac (ae 9) (ai)))) (fun _ _=>rfl)) (fi) (dU (ag))) (ai))))))))))))
theorem wv:bg P w K mg base (CX1 P w) 3 A.a_21 A.d_21 ["_law_found", "_law_due"] (jU K A):=
 T.f_21.f.okS xf (BE K A) (ED T.1) fun _ _ _ _ _ _ hr=>
 al (aZ (x_w (dB (bN (bG (ba dM T.z_isinstance boot_isinstance (ac (ae 0) (ac (dN T.z_list boot_list) (ai)))))) (dD (aU (eZ hr.units150) (ba cI T.z_len PySem.boot_len (ac (ae 0) (ai))) (ba cI T.z_len PySem.boot_len (ac (ae 1) (ai))))))) (aq (aC (cp))) (aQ)) (al (gy 2 xf.nd (jG T.z_range (ac (ba cI T.z_len PySem.boot_len (ac (ae 1) (ai))) (ai))) (aq (aZ (bN (bG (aT (vZ T) hr.le T.f_25 (ac (aM (aw hr.units1) (ae 0) (ae 2) (fun _ _=>rfl)) (ac (aM (aw hr.units1) (ae 1) (ae 2) (fun _ _=>rfl)) (ai)))))) (aq (aC (cp))) (aQ))) PassesOwn.never) (aq (aC (cp))))
theorem Ei:bg P w K mg base (CX1 P w) 3 A.a_42 A.d_42 ["bits", "least", "thing"] (me K A):=
 T.f_42.f.okS Dd (Av K A) (CH T.1) fun _ _ _ _ _ _ hr=>
 al (aZ (x_w (dB (bN (bG (ba dM T.z_isinstance boot_isinstance (ac (ae 2) (ac (dN T.z_tuple boot_tuple) (ai)))))) (dD (aU (eZ hr.units150) (ba cI T.z_len PySem.boot_len (ac (ae 2) (ai))) (ag))))) (aq (aC (cp))) (aQ)) (aq (aC (dL (aT (kG T) hr.le T.f_44 (ac (aM (aw hr.units1) (ae 2) (ag) (fun _ _=>rfl)) (ai))) (dL (kP oLe oLt (ae 1) (aM (aw hr.units1) (ae 2) (ag) (fun _ _=>rfl)) (ae 0)) (eN (aT (mE T) hr.le T.f_41 (ac (aM (aw hr.units1) (ae 2) (ag) (fun _ _=>rfl)) (ai))))))))
theorem Cf:bg P w K mg base (CX1 P w) 4 A.a_30 A.d_30 ["bits", "thing"] (ma K A):=
 T.f_30.f.okS lY (AA K A) (Dm T.1) fun _ _ _ _ _ _ hr=>
 al (aZ (bN (bG (ba dM T.z_isinstance boot_isinstance (ac (ae 1) (ac (dN T.z_tuple boot_tuple) (ai)))))) (aq (aC (cp))) (aQ)) (al (aG 2 lY.nd (ag)) (al (gy 3 lY.nd (fA (ae 1)) (al (aZ (bN (bG (aT (Ei T) hr.le T.f_42 (ac (ae 0) (ac (ae 2) (ac (ae 3) (ai))))))) (aq (aC (cp))) (aQ)) (aq (aG 2 lY.nd (am aO (aM (aw hr.units1) (ae 3) (ag) (fun _ _=>rfl)) (ag))))) PassesOwn.never) (aq (aC (cp)))))
theorem CI:bg P w K mg base (CX1 P w) 4 A.a_35 A.d_35 ["bits", "key", "place", "thing"] (mt K A):=
 T.f_35.f.okS wY (Bu K A) (Ew T.1) fun _ _ _ _ _ _ hr=>
 al (aZ (aU (zW hr.units150) (ae 3) (aJ (ac (az) (ai)))) (aq (aC (di (bJ hr.units150) (ae 2) (ag)))) (aQ)) (al (aG 4 wY.nd (aT (mR T) hr.le T.f_53 (ac (ae 0) (ac (ae 1) (ac (ae 2) (ai)))))) (al (aZ (bG (aT (xj T) hr.le T.f_38 (ac (ae 0) (ac (ae 2) (ac (ae 4) (ac (ae 3) (ai))))))) (aq (aC (cp))) (aQ)) (al (aZ (bN (bG (aT (xn T) hr.le T.f_36 (ac (ae 0) (ac (ae 2) (ac (ae 4) (ac (ae 3) (ai)))))))) (aq (aC (cp))) (aQ)) (al (aZ (aU (bJ hr.units150) (aM (aw hr.units1) (ae 3) (ag) (fun _ _=>rfl)) (aT (mR T) hr.le T.f_53 (ac (ae 0) (ac (ae 1) (ac (aM (aw hr.units1) (ae 3) (ag) (fun _ _=>rfl)) (ai)))))) (aq (aC (cp))) (aQ)) (aq (aC (dL (aT (mE T) hr.le T.f_41 (ac (aM (aw hr.units1) (ae 3) (ag) (fun _ _=>rfl)) (ai))) (eN (aT (mE T) hr.le T.f_41 (ac (aM (aw hr.units1) (ae 3) (ag) (fun _ _=>rfl)) (ai)))))))))))
theorem Ez:bg P w K mg base (CX1 P w) 5 A.a_40 A.d_40 ["bits", "key", "thing"] (mB K A):=
 T.f_40.f.okS ww (zO K A) (Ft T.1) fun _ _ _ _ _ _ hr=>
 al (aZ (x_w (dB (bN (bG (ba dM T.z_isinstance boot_isinstance (ac (ae 2) (ac (dN T.z_tuple boot_tuple) (ai)))))) (dD (aU (eZ hr.units150) (ba cI T.z_len PySem.boot_len (ac (ae 2) (ai))) (ag))))) (aq (aC (cp))) (aQ)) (al (aZ (bN (bG (aT (Cf T) hr.le T.f_30 (ac (ae 0) (ac (aM (aw hr.units1) (ae 2) (ag) (fun _ _=>rfl)) (ai)))))) (aq (aC (cp))) (aQ)) (al (aG 3 ww.nd (yO (bG (aM (aw hr.units1) (ae 2) (ag) (fun _ _=>rfl))) (am aO (aM (aw hr.units1) (aM (aw hr.units1) (aM (aw hr.units1) (ae 2) (ag) (fun _ _=>rfl)) (eS (ag)) (fun _ _=>rfl)) (ag) (fun _ _=>rfl)) (ag)) (ag))) (aq (aC (aT (CI T) hr.le T.f_35 (ac (ae 0) (ac (ae 1) (ac (ae 3) (ac (aM (aw hr.units1) (ae 2) (ag) (fun _ _=>rfl)) (ai))))))))))
theorem qU:∀ n:Nat,bg P w K mg base (CX1 P w) (0+n) A.a_12 A.d_12 ["_law_part_here"] (hV K A n)
 | 0=>⟨fun vs H Q E h=>(xk K A vs H Q E h).elim,fun _ _ _ H _ _ vs Q E _ _ _ _ h=>(xk K A vs H Q E h).elim⟩
 | n+1=>T.f_12.f.okS CY (zR K A (n+1)) (Df T.1 n) fun _ _ _ _ _ _ (hr:bE (0+n) _)=>
 al (aZ (aU (bJ hr.units150) (aM (aw hr.units1) (ae 0) (ag) (fun _ _=>rfl)) (az)) (aq (aC (bn (ac (aJ (ac (aM (aw hr.units1) (ae 0) (ag) (fun _ _=>rfl)) (ac (aM (aw hr.units1) (ae 0) (ag) (fun _ _=>rfl)) (ai)))) (ai))))) (aQ)) (al (aZ (aU (bJ hr.units150) (aM (aw hr.units1) (ae 0) (ag) (fun _ _=>rfl)) (az)) (aq (aC (am aO (aT (qU n) hr.le T.f_12 (ac (aM (aw hr.units1) (ae 0) (ag) (fun _ _=>rfl)) (ai))) (aT (qU n) hr.le T.f_12 (ac (aM (aw hr.units1) (ae 0) (ag) (fun _ _=>rfl)) (ai)))))) (aQ)) (aq (aC (bn (ai)))))
theorem EQ:bg P w K mg base (CX1 P w) 71 A.a_10 A.d_10 ["_law_part_here", "_law_low", "_law_high"] (md K A):=
 T.f_10.f.okS Cq (AT K A) (Fh T.1) fun _ _ _ _ _ _ hr=>
 aq (aC (nE (ys:=["_law_low", "_law_high"]) (by exact ⟨rfl,by decide +kernel,by decide +kernel,rfl,by decide +kernel,by decide +kernel⟩) (by exact .cons rfl (by first | exact .inl rfl | exact .inr rfl) rfl (.cons rfl (by first | exact .inl rfl | exact .inr rfl) rfl (.nil))) (fA (aT (qU T 70) hr.le T.f_12 (ac (ae 0) (ai)))) (fun C s H fp=>oR (gc oLe oLe (ae 1) (aM (aw hr.units1) (ae 0) (ag) (fun _ _=>rfl)) (ae 2))) (fun C s H fp=>(ae 0))))
theorem DI:bg P w K mg base (CX1 P w) 81 A.a_45 A.d_45 ["_law_script"] (mz K A):=
 T.f_45.f.okS gE (Bv K A) (EK T.1) fun _ _ _ _ _ _ hr=>
 al (aG 1 gE.nd (aT (FD T) hr.le T.f_9 (ac (aT (kS T) hr.le T.f_3 (ac (ae 0) (ac (ag) (ai)))) (ai)))) (al (tL 2 3 gE.nd rfl (aT (Dl T) hr.le T.f_24 (ac (ae 1) (ac (aT (kS T) hr.le T.f_3 (ac (ae 0) (ac (ag) (ai)))) (ac (aT (kS T) hr.le T.f_3 (ac (ae 0) (ac (ag) (ai)))) (ai)))))) (al (aG 4 gE.nd (aT (CL T) hr.le T.f_17 (ac (aT (kS T) hr.le T.f_3 (ac (ae 0) (ac (ag) (ai)))) (ac (ae 1) (ac (ae 2) (ac (ae 3) (ai))))))) (al (aG 5 gE.nd (aT (Cz T) hr.le T.f_27 (ac (am aO (ag) (am bx (aT (kS T) hr.le T.f_3 (ac (ae 0) (ac (ag) (ai)))) (ag))) (ai)))) (al (tL 6 7 gE.nd rfl (aT (qI T 70) hr.le T.f_16 (ac (ae 5) (ac (ae 4) (ai))))) (al (aG 8 gE.nd (aT (rC T 70) hr.le T.f_23 (ac (ae 4) (ac (ag) (ac (ag) (ac (aJ (ai)) (ai))))))) (al (gy 9 gE.nd (fA (am aO (eE fw (ae 0) (dU (ag)) (dU (ag))) (nE (ys:=["_law_script"]) (by exact ⟨rfl,by decide +kernel,by decide +kernel,rfl,by decide +kernel,by decide +kernel⟩) (by exact .cons rfl (by first | exact .inl rfl | exact .inr rfl) rfl (.nil)) (tZ T.z_range (ac (ag) (ac (ag) (ai)))) (fun C s H fp=>sW) (fun C s H fp=>(aT (kS T) hr.le T.f_3 (ac (ae 1) (ac (ae 0) (ai)))))))) (aq (aZ (bN (bG (aT (Ef T) hr.le T.f_22 (ac (ae 9) (ac (ae 5) (ac (ae 1) (ac (ae 6) (ac (ae 2) (ac (ae 3) (ac (ae 4) (ac (ae 8) (ai)))))))))))) (aq (aC (cp))) (aQ))) PassesOwn.never) (al (aZ (bN (bG (aT (wv T) hr.le T.f_21 (ac (aT (mK T) hr.le T.f_56 (ac (ae 5) (ac (ae 1) (ac (ae 2) (ac (ae 3) (ac (ae 4) (ai))))))) (ac (ae 7) (ai)))))) (aq (aC (cp))) (aQ)) (al (aZ (aU pB (aT (Ez T) hr.le T.f_40 (ac (ae 1) (ac (ae 2) (ac (aT (wg T) hr.le T.f_51 (ac (ae 5) (ac (ae 1) (ac (ae 2) (ac (ae 3) (ac (ae 4) (ac (ae 2) (ai)))))))) (ai))))) (cp)) (aq (aC (cp))) (aQ)) (aq (aC (aT (wv T) hr.le T.f_21 (ac (aT (wD T) hr.le T.f_54 (ac (ae 5) (ac (ae 1) (ac (ae 6) (ac (ae 2) (ac (ae 3) (ac (ae 4) (ai)))))))) (ac (aT (EQ T) hr.le T.f_10 (ac (ae 4) (ac (ae 2) (ac (ae 3) (ai))))) (ai))))))))))))))
omit T
def qE (P:Program) (w:World) (K:W.Frag) (mg:Str→Option Value) (fa:Addr):Prop:=∃ (fd:FuncData) (tabs:List (Addr×Addr)) (sp:Sp),(∀ (s:Shared) (v:Value),BindsTo s fd ⟨[v],[]⟩ [("_law_script",v)])∧W.noTabs K=true∧(∀ t∈tabs,∃ y∈(["_law_weak"]:List Str),W.tabIn K y=some t)∧(∀ base:Heap,K.In base→base.Ns mainGlobals mg→BM mg base→(∀ t∈tabs,W.CodeHd base t.1 t.2)→bg P w K mg base (CX1 P w) 81 fa fd ["_law_script"] sp)∧∀ (H:Hp) (a:Addr) (ns:List Int),ns.length≤63→(∀ t∈tabs,H t.2=some (.tbl #[]))→SqL K H a (ns.map V.int)→sp [.ref a] H (fun v _=>v=.bl true) fun _ _ _=>False
theorem Ai (T:Txt K mg A) (nt:W.noTabs K=true) (tb_27:W.tabIn K "_law_weak" =some (A.k_27,A.t_27)) (tdn:([A.t_27]:List Addr).Nodup):qE P w K mg A.a_45:=by
 refine ⟨A.d_45,[(A.k_27,A.t_27)],mz K A,T.f_45.f.bt,nt,?_,fun base _ _ B C=>?_,fun H a ns hl hO hS=>⟨a,ns,rfl,hS,hl,⟨hO (A.k_27,A.t_27) (by simp),tdn⟩,fun _=>rfl⟩⟩
 · intro t ht
   simp only [List.mem_cons,List.not_mem_nil,or_false] at ht
   rcases ht with rfl
   · exact ⟨"_law_weak",by simp,tb_27⟩
 · exact DI ⟨T,B,C (A.k_27,A.t_27) (by simp)⟩
theorem AQ {h:Heap} {fa:Addr} (X:K.In h) (G:h.Ns mainGlobals mg) (hfa:mg "law" =some (.ref fa)) {x_9 x_3 x_11 x_24 x_15 x_14 x_13 x_26 x_8 x_18 x_17 x_27 x_16 x_23 x_5 x_7 x_6 x_4 x_29 x_44 x_37 x_33 x_52 x_46 x_41 x_34 x_43 x_53 x_38 x_36 x_39 x_1 x_32 x_31 x_47 x_48 x_56 x_55 x_0 x_49 x_54 x_50 x_51 x_2 x_20 x_19 x_25 x_22 x_21 x_42 x_30 x_35 x_40 x_12 x_10 x_45 y_NoPart y_Broken y_NoKey y_StampError:Addr} {d0 d1 d2 d3 d4 d5 d6 d7 d8 d9 d10 d11 d12 d13 d14 d15 d16 d17 d18 d19 d20 d21 d22 d23 d24 d25 d26 d27 d28 d29 d30 d31 d32 d33 d34 d35 d36 d37 d38 d39 d40 d41 d42 d43 d44 d45 d46 d47 d48 d49 d50 d51 d52 d53 d54 d55:FuncData} {tc0:Tok}
  (bc_NoPart:W.nsIn K mainGlobals "NoPart" =some (some (.ref y_NoPart))) (bc_Broken:W.nsIn K mainGlobals "Broken" =some (some (.ref y_Broken))) (bc_NoKey:W.nsIn K mainGlobals "NoKey" =some (some (.ref y_NoKey))) (bc_StampError:W.nsIn K mainGlobals "StampError" =some (some (.ref y_StampError))) (h0:Fa K "_law_bits" "_law_bits" s_9 x_9 d0) (h1:Fa K "_law_at" "_law_at" s_3 x_3 d1) (h2:Fa K "_law_key" "_law_key" uf x_11 d2) (h3:Fa K "_law_stretch" "_law_stretch" vQ x_24 d3) (h4:Fa K "_law_number" "_law_number" vp x_15 d4) (h5:Fa K "_law_meets" "_law_meets" uR x_14 d5) (h6:Fa K "_law_mark" "_law_mark" vq x_13 d6) (h7:Fa K "_law_text" "_law_text" ux x_26 d7) (h8:Fa K "_law_begin" "_law_begin" s_8 x_8 d8) (h9:Fa K "_law_part" "_law_part" vL x_18 d9) (h10:Fa K "_law_paper" "_law_paper" ul x_17 d10) (h11:Fa K "_law_weak" "_law_weak" jJ x_27 d11) (tb_27:(W.tabIn K "_law_weak").isSome=true) (h12:Fa K "_law_open" "_law_open" ub x_16 d12) (h13:Fa K "_law_spots" "_law_spots" vM x_23 d13) (h14:Fa K "_law_bad_cuts" "_law_bad_cuts" s_5 x_5 d14) (h15:Fa K "_law_bad_leaves" "_law_bad_leaves" s_7 x_7 d15) (h16:Fa K "_law_bad_forks" "_law_bad_forks" s_6 x_6 d16) (h17:Fa K "_law_bad" "_law_bad" s_4 x_4 d17) (h18:Fa K "_law_with" "_law_with" vA x_29 d18) (h19:Fa K "is_whole" "is_whole" tX x_44 d19) (h20:Fa K "is_key" "is_key" vo x_37 d20) (h21:Fa K "check_stretch" "check_stretch" uX x_33 d21) (h22:Fa K "span" "span" vH x_52 d22) (h23:Fa K "meets" "meets" vR x_46 d23) (h24:Fa K "is_stamp" "is_stamp" ur x_41 d24) (h25:Fa K "is_cut" "is_cut" vm x_34 d25) (h26:Fa K "is_value" "is_value" vv x_43 d26) (h27:Fa K "start" "start" uN x_53 d27) (h28:Fa K "is_leaf" "is_leaf" uE x_38 d28) (h29:Fa K "is_fork" "is_fork" tY x_36 d29) (h30:Fa K "is_part" "is_part" uJ x_39 d30) (a31:W.findIn K (.ref y_NoPart) "__init__" =some (some (.ref x_1))) (h31:Fun K "__init__" "NoPart.__init__" s_1 x_1 d31) (fn31:W.isFn K (.ref x_1)=true) (h32:Fa K "check_part" "check_part" kQ x_32 d32) (h33:Fa K "check_paper" "check_paper" kX x_31 d33) (h34:Fa K "part_mark" "part_mark" uO x_47 d34) (h35:Fa K "part_terms" "part_terms" vJ x_48 d35) (h36:Fa K "stretch_terms" "stretch_terms" kO x_56 d36) (h37:Fa K "stretch_mark" "stretch_mark" kY x_55 d37) (a38:W.findIn K (.ref y_Broken) "__init__" =some (some (.ref x_0))) (h38:Fun K "__init__" "Broken.__init__" s_0 x_0 d38) (fn38:W.isFn K (.ref x_0)=true) (h39:Fa K "rows_within" "rows_within" vF x_49 d39) (h40:Fa K "stretch_answer" "stretch_answer" lh x_54 d40) (h41:Fa K "side" "side" ui x_50 d41) (h42:Fa K "slip_from" "slip_from" lq x_51 d42) (h43:Fa K "_law_ask" "_law_ask" s_2 x_2 d43) (h44:Fa K "_law_refusal" "_law_refusal" uI x_20 d44) (h45:Fa K "_law_part_alike" "_law_part_alike" uK x_19 d45) (h46:Fa K "_law_term_alike" "_law_term_alike" uz x_25 d46) (h47:Fa K "_law_spoilt_right" "_law_spoilt_right" vg x_22 d47) (h48:Fa K "_law_rows_alike" "_law_rows_alike" ut x_21 d48) (h49:Fa K "is_step" "is_step" uh x_42 d49) (h50:Fa K "are_steps" "are_steps" uT x_30 d50) (h51:Fa K "is_end" "is_end" uc x_35 d51) (h52:Fa K "is_slip" "is_slip" vV x_40 d52) (h53:Fa K "_law_leaves" "_law_leaves" ug x_12 d53) (h54:Fa K "_law_inner" "_law_inner" ue x_10 d54) (h55:Fa K "law" "law" uG x_45 d55) (eo2_NoPart:jh K y_NoPart=true) (eo2_Broken:jh K y_Broken=true) (eo_NoKey:W.excIn K y_NoKey veM "ValueError.__new__" =true) (eo_StampError:W.excIn K y_StampError veM "ValueError.__new__" =true) (sa_NoPart:W.findIn K (.ref y_NoPart) "__setattr__" =some (some (.builtin "object.__setattr__"))) (hd_NoPart:W.hasDictIn K y_NoPart=true) (sa_Broken:W.findIn K (.ref y_Broken) "__setattr__" =some (some (.builtin "object.__setattr__"))) (hd_Broken:W.hasDictIn K y_Broken=true) (na_NoPart_begin:W.findIn K (.ref y_NoPart) "begin" =some none) (na_NoPart_depth:W.findIn K (.ref y_NoPart) "depth" =some none) (na_Broken_came:W.findIn K (.ref y_Broken) "came" =some none) (na_Broken_due:W.findIn K (.ref y_Broken) "due" =some none) (kc_NoPart:W.keepIn K (.ref y_NoPart)=true) (kc_Broken:W.keepIn K (.ref y_Broken)=true) (e0_NoPart:W.findIn K (.ref y_NoPart) "__getattribute__" =some (some (.builtin "BaseException.__getattribute__"))) (e1_NoPart:W.findIn K (.ref y_NoPart) "__getattr__" =some none) (e2_NoPart:W.findIn K (.ref y_NoPart) "__class__" =some (some (.builtin "object.__class__"))) (em0_NoPart:W.mroIn K y_NoPart (.type "object")=some true) (em1_NoPart:W.mroIn K y_NoPart (.type "BaseException")=some true) (e0_Broken:W.findIn K (.ref y_Broken) "__getattribute__" =some (some (.builtin "BaseException.__getattribute__"))) (e1_Broken:W.findIn K (.ref y_Broken) "__getattr__" =some none) (e2_Broken:W.findIn K (.ref y_Broken) "__class__" =some (some (.builtin "object.__class__"))) (em0_Broken:W.mroIn K y_Broken (.type "object")=some true) (em1_Broken:W.mroIn K y_Broken (.type "BaseException")=some true) (e0_NoKey:W.findIn K (.ref y_NoKey) "__getattribute__" =some (some (.builtin "BaseException.__getattribute__"))) (e1_NoKey:W.findIn K (.ref y_NoKey) "__getattr__" =some none) (e2_NoKey:W.findIn K (.ref y_NoKey) "__class__" =some (some (.builtin "object.__class__"))) (em0_NoKey:W.mroIn K y_NoKey (.type "object")=some true) (em1_NoKey:W.mroIn K y_NoKey (.type "BaseException")=some true) (sb_NoPart_NoPart:W.mroIn K y_NoPart (.ref y_NoPart)=some true) (sb_Broken_NoPart:W.mroIn K y_Broken (.ref y_NoPart)=some false) (sb_NoKey_NoPart:W.mroIn K y_NoKey (.ref y_NoPart)=some false) (ki_NoPart_StampError:W.kitOne K (.ref y_NoPart) (.ref y_StampError)=some true) (ki_Broken_StampError:W.kitOne K (.ref y_Broken) (.ref y_StampError)=some true) (ki_NoKey_StampError:W.kitOne K (.ref y_NoKey) (.ref y_StampError)=some true) (z_bool:W.nsIn K mainGlobals "bool" =some none) (z_int:W.nsIn K mainGlobals "int" =some none) (z_isinstance:W.nsIn K mainGlobals "isinstance" =some none) (z_len:W.nsIn K mainGlobals "len" =some none) (z_list:W.nsIn K mainGlobals "list" =some none) (z_max:W.nsIn K mainGlobals "max" =some none) (z_min:W.nsIn K mainGlobals "min" =some none) (z_ord:W.nsIn K mainGlobals "ord" =some none) (z_range:W.nsIn K mainGlobals "range" =some none) (z_str:W.nsIn K mainGlobals "str" =some none) (z_sum:W.nsIn K mainGlobals "sum" =some none) (z_tuple:W.nsIn K mainGlobals "tuple" =some none) (c_MOST_SIGNS:W.nsIn K mainGlobals "MOST_SIGNS" =some (some (.int 60 tc0))) (nt:W.noTabs K=true) (td:lx K ["_law_weak"]=true):qE P w K mg fa:=by
 cases hfa.symm.trans (W.mg_of X G h55.m)
 obtain ⟨⟨z_27,t_27⟩,tb_27⟩:=Option.isSome_iff_exists.mp tb_27
 have tdn:([t_27]:List Addr).Nodup:=vy (by unfold lx at td;simp only [List.map_cons,List.map_nil,tb_27,Option.map_some] at td;exact of_decide_eq_true td)
 exact Ai (A:=⟨x_9,d0,x_3,d1,x_11,d2,x_24,d3,x_15,d4,x_14,d5,x_13,d6,x_26,d7,x_8,d8,x_18,d9,x_17,d10,x_27,d11,x_16,d12,x_23,d13,x_5,d14,x_7,d15,x_6,d16,x_4,d17,x_29,d18,x_44,d19,x_37,d20,x_33,d21,x_52,d22,x_46,d23,x_41,d24,x_34,d25,x_43,d26,x_53,d27,x_38,d28,x_36,d29,x_39,d30,x_1,d31,x_32,d32,x_31,d33,x_47,d34,x_48,d35,x_56,d36,x_55,d37,x_0,d38,x_49,d39,x_54,d40,x_50,d41,x_51,d42,x_2,d43,x_20,d44,x_19,d45,x_25,d46,x_22,d47,x_21,d48,x_42,d49,x_30,d50,x_35,d51,x_40,d52,x_12,d53,x_10,d54,fa,d55,z_27,t_27,y_NoPart,y_Broken,y_NoKey,y_StampError⟩) ⟨h0.fm1 X G,h1.fm2 X G,h2.fm3 X G,h3.fm3 X G,h4.fm3 X G,h5.fm5 X G,h6.fm1 X G,h7.fm1 X G,h8.fm6 X G,h9.fm7 X G,h10.fm4 X G,h11.fm1 X G,h12.fm2 X G,h13.fm4 X G,h14.fm3 X G,h15.fm3 X G,h16.fm3 X G,h17.fm6 X G,h18.fm3 X G,h19.fm1 X G,h20.fm2 X G,h21.fm3 X G,h22.fm3 X G,h23.fm5 X G,h24.fm1 X G,h25.fm1 X G,h26.fm1 X G,h27.fm3 X G,h28.fm4 X G,h29.fm4 X G,h30.fm6 X G,h31,h31.b3,h32.fm6 X G,h33.fm4 X G,h34.fm3 X G,h35.fm2 X G,h36.fm5 X G,h37.fm5 X G,h38,h38.b3,h39.fm3 X G,h40.fm6 X G,h41.fm3 X G,h42.fm6 X G,h43.fm7 X G,h44.fm7 X G,h45.fm2 X G,h46.fm2 X G,h47.fm8 X G,h48.fm2 X G,h49.fm3 X G,h50.fm2 X G,h51.fm4 X G,h52.fm3 X G,h53.fm1 X G,h54.fm3 X G,h55.fm1 X G,W.mg_none_of X G z_bool,W.mg_none_of X G z_int,W.mg_none_of X G z_isinstance,W.mg_none_of X G z_len,W.mg_none_of X G z_list,W.mg_none_of X G z_max,W.mg_none_of X G z_min,W.mg_none_of X G z_ord,W.mg_none_of X G z_range,W.mg_none_of X G z_str,W.mg_none_of X G z_sum,W.mg_none_of X G z_tuple,⟨_,W.mg_of X G c_MOST_SIGNS⟩,h11.code X G tb_27,W.mg_of X G bc_NoPart,eo2_NoPart,W.mg_of X G bc_Broken,eo2_Broken,W.mg_of X G bc_NoKey,eQ.ok eo_NoKey,W.mg_of X G bc_StampError,eQ.ok eo_StampError,eo_NoKey,⟨e0_NoPart,e1_NoPart,e2_NoPart,em0_NoPart,em1_NoPart⟩,⟨e0_Broken,e1_Broken,e2_Broken,em0_Broken,em1_Broken⟩,⟨e0_NoKey,e1_NoKey,e2_NoKey,em0_NoKey,em1_NoKey⟩,⟨eo2_NoPart,sa_NoPart,⟨e0_NoPart,e1_NoPart,e2_NoPart,em0_NoPart,em1_NoPart⟩,na_NoPart_begin,hd_NoPart⟩,⟨eo2_NoPart,sa_NoPart,⟨e0_NoPart,e1_NoPart,e2_NoPart,em0_NoPart,em1_NoPart⟩,na_NoPart_depth,hd_NoPart⟩,⟨eo2_Broken,sa_Broken,⟨e0_Broken,e1_Broken,e2_Broken,em0_Broken,em1_Broken⟩,na_Broken_came,hd_Broken⟩,⟨eo2_Broken,sa_Broken,⟨e0_Broken,e1_Broken,e2_Broken,em0_Broken,em1_Broken⟩,na_Broken_due,hd_Broken⟩,⟨eo2_NoPart,a31,fn31,kc_NoPart⟩,⟨eo2_Broken,a38,fn38,kc_Broken⟩,jN sb_NoPart_NoPart,jN sb_Broken_NoPart,jN sb_NoKey_NoPart,ki_NoPart_StampError,ki_Broken_StampError,ki_NoKey_StampError⟩ nt tb_27 tdn
theorem Hj {l:W.OpenLaw} {q:Program} {loose:List Str} {XP:(Str→Option Value)→Heap→Prop} {YP:World→Heap→Prop} {d:DefRec} {K:Params→W.Frag} (hn:l.most=some 63) (hdf:d.params.defaults=[])
  (hY:∀ (w:World) (h:Heap),YP w h→(K w.params).In h) (hq:∀ y∈(["_law_weak"]:List Str),((PyProof.Rows.recsOf q).find? fun e=>e.name==y).isSome=true)
  (F:∀ (w:World) (mg:Str→Option Value) (fa:Addr) (h:Heap),(K w.params).In h→h.Ns mainGlobals mg→mg d.name=some (.ref fa)→qE l.prog w (K w.params) mg fa):
  W.WalkO q loose XP YP l.row.toRowW d [] (fun f vs=>PySem.call f vs):=
 L2.vt (n:=63) (k:=81) (x:= "_law_script") (CX:=fun w=>CX1 l.prog w) hn (by decide) hdf ⟨rfl,by decide,by decide⟩ hY hq F fun _ _ _ _ _ ⟨_,_,_,_,_,_,z⟩=>z
end
end Rs
def PySem.W.Fast.tw12934464542470338176:Unit:=()
def PySem.W.Fast.tw4724126549197863787:Unit:=()
def PySem.W.Fast.tw749179745743366425:Unit:=()
def PySem.W.Fast.tw3022985611561979644:Unit:=()
def PySem.W.Fast.tw1779116081161393953:Unit:=()
def PySem.W.Fast.tw3402365266388593481:Unit:=()
def PySem.W.Fast.tw10412170763041655185:Unit:=()
def PySem.W.Fast.tw12614804490499390448:Unit:=()
def PySem.W.Fast.tw17394730467977435709:Unit:=()
def PySem.W.Fast.tw8941438766524876755:Unit:=()
def PySem.W.Fast.tw5933338070114223608:Unit:=()
def PySem.W.Fast.tw7202914844118362607:Unit:=()
def PySem.W.Fast.tw12251034848750051842:Unit:=()
def PySem.W.Fast.tw9682199367166189035:Unit:=()
def PySem.W.Fast.tw10144743409634188033:Unit:=()
def PySem.W.Fast.tw13093841969388069194:Unit:=()
def PySem.W.Fast.tw16351206048315090966:Unit:=()
def PySem.W.Fast.tw16034760633376257002:Unit:=()
def PySem.W.Fast.tw9105149724670872121:Unit:=()
def PySem.W.Fast.tw6729990060170971342:Unit:=()
def PySem.W.Fast.tw15415285305786448096:Unit:=()
def PySem.W.Fast.tw7384213714370798976:Unit:=()
def PySem.W.Fast.tw14461847538537331364:Unit:=()
def PySem.W.Fast.tw7531452748391874544:Unit:=()
def PySem.W.Fast.tw16024139607542751492:Unit:=()
def PySem.W.Fast.tw6610188039354710817:Unit:=()
def PySem.W.Fast.tw7507911204778235920:Unit:=()
def PySem.W.Fast.tw4646307317048539519:Unit:=()
def PySem.W.Fast.tw18271138527723591369:Unit:=()
def PySem.W.Fast.tw15223272749590761547:Unit:=()
def PySem.W.Fast.tw7615675250464610256:Unit:=()
def PySem.W.Fast.tw13282902498391866453:Unit:=()
def PySem.W.Fast.tw11952177402241471490:Unit:=()
def PySem.W.Fast.tw4581630011673644724:Unit:=()
def PySem.W.Fast.tw6181247230186887681:Unit:=()
def PySem.W.Fast.tw3470730558291683054:Unit:=()
def PySem.W.Fast.tw6044623754453183948:Unit:=()
def PySem.W.Fast.tw9910810463569678362:Unit:=()
def PySem.W.Fast.tw15980434483165505634:Unit:=()
def PySem.W.Fast.tw17749294385673238821:Unit:=()
def PySem.W.Fast.tw16162704592023794859:Unit:=()
def PySem.W.Fast.tw8474678069111308005:Unit:=()
def PySem.W.Fast.tw7499329153247998504:Unit:=()
def PySem.W.Fast.tw12596430538961758173:Unit:=()
def PySem.W.Fast.tw10192112864392445936:Unit:=()
def PySem.W.Fast.tw13399984655706295403:Unit:=()
def PySem.W.Fast.tw11641997100651148374:Unit:=()
def PySem.W.Fast.tw17156514274558392355:Unit:=()
def PySem.W.Fast.tw2352643755100601914:Unit:=()
def PySem.W.Fast.tw1142266400578026597:Unit:=()
def PySem.W.Fast.tw6359593415685196812:Unit:=()
def PySem.W.Fast.tw9618880941139627207:Unit:=()
def PySem.W.Fast.tw16370518414257353327:Unit:=()
def PySem.W.Fast.tw10279684393928004994:Unit:=()
def PySem.W.Fast.tw274819323444426709:Unit:=()
def PySem.W.Fast.tw16053390583754311828:Unit:=()
def PySem.W.Fast.tw14335051214515381516:Unit:=()
def PySem.W.Fast.tw6634765991753508341:Unit:=()
def PySem.W.Fast.tw8267514004366368185:Unit:=()
def PySem.W.Fast.tw8151929206674860950:Unit:=()
def PySem.W.Fast.tw9501420836695176047:Unit:=()
def PySem.W.Fast.tw7702272321161919008:Unit:=()
def PySem.W.Fast.tw16929112866479502329:Unit:=()
def PySem.W.Fast.tw8357601434848886913:Unit:=()
def PySem.W.Fast.tw11086116854370771467:Unit:=()
def PySem.W.Fast.tw18052841460005507802:Unit:=()
def PySem.W.Fast.tw12296774694698398884:Unit:=()
def PySem.W.Fast.tw10418459873582816441:Unit:=()
def PySem.W.Fast.tw18353523107308118833:Unit:=()
def PySem.W.Fast.tw14758887027436806400:Unit:=()
def PySem.W.Fast.tw13109946681960452096:Unit:=()
def PySem.W.Fast.tw5219559700360827479:Unit:=()
def PySem.W.Fast.tw14761963933779357798:Unit:=()
def PySem.W.Fast.tw6112079612723994096:Unit:=()
def PySem.W.Fast.tw11328797727038923567:Unit:=()
def PySem.W.Fast.tw1636319876028299273:Unit:=()
def PySem.W.Fast.tw15986901974434905167:Unit:=()
def PySem.W.Fast.tw14419409150820839397:Unit:=()
def PySem.W.Fast.tw14985636280339181794:Unit:=()
def PySem.W.Fast.tw1158785107785975358:Unit:=()
def PySem.W.Fast.tw6957070592935994029:Unit:=()
def PySem.W.Fast.tw3509048325863398149:Unit:=()
def PySem.W.Fast.tw14586086098637964719:Unit:=()
def PySem.W.Fast.tw4323462171186888116:Unit:=()
def PySem.W.Fast.tw6652661295517193331:Unit:=()
def PySem.W.Fast.tw2179154747898474035:Unit:=()
def PySem.W.Fast.tw2276953575989648256:Unit:=()
def PySem.W.Fast.tw4074672384063174952:Unit:=()
def PySem.W.Fast.tw15449979043358484040:Unit:=()
def PySem.W.Fast.tw2368632725163828138:Unit:=()
def PySem.W.Fast.tw119439341738310645:Unit:=()
def PySem.W.Fast.tw8099194193572435866:Unit:=()
def PySem.W.Fast.tw5008552545987587510:Unit:=()
def PySem.W.Fast.tw14527268436908631646:Unit:=()
def PySem.W.Fast.tw14102691968286782338:Unit:=()
def PySem.W.Fast.tw12061228783573976974:Unit:=()
def PySem.W.Fast.tw4023821127544175233:Unit:=()
def PySem.W.Fast.tw11433440098916541793:Unit:=()
def PySem.W.Fast.tw6871138416115224915:Unit:=()
def PySem.W.Fast.tw12874071398380398562:Unit:=()
def PySem.W.Fast.tw3774620473325993009:Unit:=()
def PySem.W.Fast.tw10866604362356993645:Unit:=()
def PySem.W.Fast.tw13327848502858566613:Unit:=()
def PySem.W.Fast.tw7279805899631617514:Unit:=()
def PySem.W.Fast.tw11233706645607516943:Unit:=()
def PySem.W.Fast.tw15735946853694046670:Unit:=()
def PySem.W.Fast.tw3506453677962984187:Unit:=()
def PySem.W.Fast.tw10095041005143249086:Unit:=()
def PySem.W.Fast.tw9677125980726726469:Unit:=()
def PySem.W.Fast.tw6290263750647111075:Unit:=()
def PySem.W.Fast.tw9596141773067523760:Unit:=()
def PySem.W.Fast.tw907694694393517417:Unit:=()
def PySem.W.Fast.tw6980628737419037533:Unit:=()
def PySem.W.Fast.tw9619167575540163448:Unit:=()
def PySem.W.Fast.tw320134714233578225:Unit:=()
def PySem.W.Fast.tw14966759324741108098:Unit:=()
def PySem.W.Fast.tw16845154007069531351:Unit:=()
def PySem.W.Fast.tw4746606948326296374:Unit:=()
def PySem.W.Fast.tw16022909939177205144:Unit:=()
def PySem.W.Fast.tw8777292901023633874:Unit:=()
def PySem.W.Fast.tw6636423588775008895:Unit:=()
def PySem.W.Fast.tw1742535515476003989:Unit:=()
def PySem.W.Fast.tw17044490961034041614:Unit:=()
def PySem.W.Fast.tw11295815433924559824:Unit:=()
def PySem.W.Fast.tw11107332099247529269:Unit:=()
def PySem.W.Fast.tw13355945941712959302:Unit:=()
def PySem.W.Fast.tw1347419991465230409:Unit:=()
def PySem.W.Fast.tw2589191466884877362:Unit:=()
def PySem.W.Fast.tw5344847836517417077:Unit:=()
def PySem.W.Fast.tw8993657380257365325:Unit:=()
def PySem.W.Fast.tw12108320901419000494:Unit:=()
def PySem.W.Fast.tw4984187643062184078:Unit:=()
def PySem.W.Fast.tw16571043520214985443:Unit:=()
def PySem.W.Fast.tw5578369687531399167:Unit:=()
def PySem.W.Fast.tw13172030141084892943:Unit:=()
def PySem.W.Fast.tw2393270075915928372:Unit:=()
def PySem.W.Fast.tw13907222267274848651:Unit:=()
def PySem.W.Fast.tw17135906998692616359:Unit:=()
def PySem.W.Fast.tw14410206706941857494:Unit:=()
def PySem.W.Fast.tw2296712277961796316:Unit:=()
def PySem.W.Fast.tw2317785575680429801:Unit:=()
def PySem.W.Fast.tw4885781627498226689:Unit:=()
open PySem PySem.W PyProof.Rows
set_option maxRecDepth 100000 in
set_option maxHeartbeats 0 in
theorem PySem.Challenge.cw_rootstamp_k31_what_is_no_part_holds : PySem.Challenge.rw_rootstamp_k31_what_is_no_part.Holds := by
 w_on; o_law; k_head; (case hw => w_witness2)
 k_fill
 refine Rs.Hj (l := PySem.Challenge.rw_rootstamp_k31_what_is_no_part) rfl rfl (fun w h Y => by first | exact PySem.W.kIn_of Y | exact PySem.W.km_in_of Y) (by decide +kernel) ?F
 case F =>
  intro w mg fa h KX G hmg
  refine' Rs.AQ KX G hmg ?bc_NoPart ?bc_Broken ?bc_NoKey ?bc_StampError (L2.bh ?a0 ?l0 ?c0 ?k0) (L2.bh ?a1 ?l1 ?c1 ?k1) (L2.bh ?a2 ?l2 ?c2 ?k2) (L2.bh ?a3 ?l3 ?c3 ?k3) (L2.bh ?a4 ?l4 ?c4 ?k4) (L2.bh ?a5 ?l5 ?c5 ?k5) (L2.bh ?a6 ?l6 ?c6 ?k6) (L2.bh ?a7 ?l7 ?c7 ?k7) (L2.bh ?a8 ?l8 ?c8 ?k8) (L2.bh ?a9 ?l9 ?c9 ?k9) (L2.bh ?a10 ?l10 ?c10 ?k10) (L2.bh ?a11 ?l11 ?c11 ?k11) ?tb_27 (L2.bh ?a12 ?l12 ?c12 ?k12) (L2.bh ?a13 ?l13 ?c13 ?k13) (L2.bh ?a14 ?l14 ?c14 ?k14) (L2.bh ?a15 ?l15 ?c15 ?k15) (L2.bh ?a16 ?l16 ?c16 ?k16) (L2.bh ?a17 ?l17 ?c17 ?k17) (L2.bh ?a18 ?l18 ?c18 ?k18) (L2.bh ?a19 ?l19 ?c19 ?k19) (L2.bh ?a20 ?l20 ?c20 ?k20) (L2.bh ?a21 ?l21 ?c21 ?k21) (L2.bh ?a22 ?l22 ?c22 ?k22) (L2.bh ?a23 ?l23 ?c23 ?k23) (L2.bh ?a24 ?l24 ?c24 ?k24) (L2.bh ?a25 ?l25 ?c25 ?k25) (L2.bh ?a26 ?l26 ?c26 ?k26) (L2.bh ?a27 ?l27 ?c27 ?k27) (L2.bh ?a28 ?l28 ?c28 ?k28) (L2.bh ?a29 ?l29 ?c29 ?k29) (L2.bh ?a30 ?l30 ?c30 ?k30) ?a31 (L2.nH ?l31 ?c31 ?k31) ?fn31 (L2.bh ?a32 ?l32 ?c32 ?k32) (L2.bh ?a33 ?l33 ?c33 ?k33) (L2.bh ?a34 ?l34 ?c34 ?k34) (L2.bh ?a35 ?l35 ?c35 ?k35) (L2.bh ?a36 ?l36 ?c36 ?k36) (L2.bh ?a37 ?l37 ?c37 ?k37) ?a38 (L2.nH ?l38 ?c38 ?k38) ?fn38 (L2.bh ?a39 ?l39 ?c39 ?k39) (L2.bh ?a40 ?l40 ?c40 ?k40) (L2.bh ?a41 ?l41 ?c41 ?k41) (L2.bh ?a42 ?l42 ?c42 ?k42) (L2.bh ?a43 ?l43 ?c43 ?k43) (L2.bh ?a44 ?l44 ?c44 ?k44) (L2.bh ?a45 ?l45 ?c45 ?k45) (L2.bh ?a46 ?l46 ?c46 ?k46) (L2.bh ?a47 ?l47 ?c47 ?k47) (L2.bh ?a48 ?l48 ?c48 ?k48) (L2.bh ?a49 ?l49 ?c49 ?k49) (L2.bh ?a50 ?l50 ?c50 ?k50) (L2.bh ?a51 ?l51 ?c51 ?k51) (L2.bh ?a52 ?l52 ?c52 ?k52) (L2.bh ?a53 ?l53 ?c53 ?k53) (L2.bh ?a54 ?l54 ?c54 ?k54) (L2.bh ?a55 ?l55 ?c55 ?k55) ?eo2_NoPart ?eo2_Broken ?eo_NoKey ?eo_StampError ?sa_NoPart ?hd_NoPart ?sa_Broken ?hd_Broken ?na_NoPart_begin ?na_NoPart_depth ?na_Broken_came ?na_Broken_due ?kc_NoPart ?kc_Broken ?e0_NoPart ?e1_NoPart ?e2_NoPart ?em0_NoPart ?em1_NoPart ?e0_Broken ?e1_Broken ?e2_Broken ?em0_Broken ?em1_Broken ?e0_NoKey ?e1_NoKey ?e2_NoKey ?em0_NoKey ?em1_NoKey ?sb_NoPart_NoPart ?sb_Broken_NoPart ?sb_NoKey_NoPart ?ki_NoPart_StampError ?ki_Broken_StampError ?ki_NoKey_StampError ?z_bool ?z_int ?z_isinstance ?z_len ?z_list ?z_max ?z_min ?z_ord ?z_range ?z_str ?z_sum ?z_tuple ?c_MOST_SIGNS ?nt ?td
  case bc_NoPart | bc_Broken | bc_NoKey | bc_StampError | a0 | l0 | c0 | k0 | a1 | l1 | c1 | k1 | a2 | l2 | c2 | k2 | a3 | l3 | c3 | k3 | a4 | l4 | c4 | k4 | a5 | l5 | c5 | k5 | a6 | l6 | c6 | k6 | a7 | l7 | c7 | k7 | a8 | l8 | c8 | k8 | a9 | l9 | c9 | k9 | a10 | l10 | c10 | k10 | a11 | l11 | c11 | k11 => k_is
  case tb_27 => kernel_rfl
  case a12 | l12 | c12 | k12 | a13 | l13 | c13 | k13 | a14 | l14 | c14 | k14 | a15 | l15 | c15 | k15 | a16 | l16 | c16 | k16 | a17 | l17 | c17 | k17 | a18 | l18 | c18 | k18 | a19 | l19 | c19 | k19 | a20 | l20 | c20 | k20 | a21 | l21 | c21 | k21 | a22 | l22 | c22 | k22 | a23 | l23 | c23 | k23 | a24 | l24 | c24 | k24 | a25 | l25 | c25 | k25 | a26 | l26 | c26 | k26 | a27 | l27 | c27 | k27 | a28 | l28 | c28 | k28 | a29 | l29 | c29 | k29 | a30 | l30 | c30 | k30 | a31 | l31 | c31 | k31 | fn31 | a32 | l32 | c32 | k32 | a33 | l33 | c33 | k33 | a34 | l34 | c34 | k34 | a35 | l35 | c35 | k35 | a36 | l36 | c36 | k36 | a37 | l37 | c37 | k37 | a38 | l38 | c38 | k38 | fn38 | a39 | l39 | c39 | k39 | a40 | l40 | c40 | k40 | a41 | l41 | c41 | k41 | a42 | l42 | c42 | k42 | a43 | l43 | c43 | k43 | a44 | l44 | c44 | k44 | a45 | l45 | c45 | k45 | a46 | l46 | c46 | k46 | a47 | l47 | c47 | k47 | a48 | l48 | c48 | k48 | a49 | l49 | c49 | k49 | a50 | l50 | c50 | k50 | a51 | l51 | c51 | k51 | a52 | l52 | c52 | k52 | a53 | l53 | c53 | k53 | a54 | l54 | c54 | k54 | a55 | l55 | c55 | k55 => k_is
  case eo2_NoPart | eo2_Broken => kernel_rfl
  case eo_NoKey | eo_StampError => k_exc
  case sa_NoPart | hd_NoPart | sa_Broken | hd_Broken | na_NoPart_begin | na_NoPart_depth | na_Broken_came | na_Broken_due | kc_NoPart | kc_Broken | e0_NoPart | e1_NoPart | e2_NoPart | em0_NoPart | em1_NoPart | e0_Broken | e1_Broken | e2_Broken | em0_Broken | em1_Broken | e0_NoKey | e1_NoKey | e2_NoKey | em0_NoKey | em1_NoKey | sb_NoPart_NoPart | sb_Broken_NoPart | sb_NoKey_NoPart => k_is
  case ki_NoPart_StampError | ki_Broken_StampError | ki_NoKey_StampError => kit_is
  case z_bool | z_int | z_isinstance | z_len | z_list | z_max | z_min | z_ord | z_range | z_str | z_sum | z_tuple | c_MOST_SIGNS => k_is
  case nt | td => kernel_rfl

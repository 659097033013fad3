import PyProof.Rows.All
import Wide.All
import OpenK.AllK
import Wide.FinOn
import Lean
import PyProof.EqAt
import PyProof.EqKinds
import PyProof.TupleCall
import PyProof.P3In
import KE.KDictLaws
import KE.KTabLook
import KE.KRevIter
import KE.KItemsList
import PyProof.TupleOfGen
import KE.KSortTup
import KE.KDictSum
import KE.KEqDict
import PyProof.EnumMake
import PyProof.EnumFor
import PyProof.EnumStmt
import PySem.Challenge.RW_rootstamp_k39_stretches_refused
set_option Elab.async false
set_option linter.all false
set_option maxRecDepth 100000
set_option maxHeartbeats 4000000
namespace L2
open PySem PySem.Spec PyProof.Rows
abbrev Key:=Sum Int Str
def jy:Key→Value→Bool
 | .inl k,v=>Value.isInt k v
 | .inr x,v=>Value.isStrOf x v
def JI (w:World):Key→Int
 | .inl k=>hashInt k
 | .inr x=>hashStr w x
theorem cG : ∀ {k : Key} {v : Value}, jy k v = true → (∃ i t, k = Sum.inl i ∧ v = Value.int i t) ∨ (∃ x t, k = Sum.inr x ∧ v = Value.str x t)
  | .inl i, v, h => by
    obtain ⟨t, e⟩ := Value.isInt_shape (k := i) (v := v) h
    exact .inl ⟨i, t, rfl, e⟩
  | .inr x, v, h => by
    obtain ⟨t, e⟩ := Value.isStrOf_shape (x := x) (v := v) h
    exact .inr ⟨x, t, rfl, e⟩
theorem vf (i:Int) (t:Tok):jy (.inl i) (.int i t)=true:=by simp [jy,Value.isInt]
theorem vw (x:Str) (t:Tok):jy (.inr x) (.str x t)=true:=by simp [jy,Value.isStrOf]
theorem Bs (a b:Int):decide ((Sum.inl a:Key)=Sum.inl b)=(a==b):=by
 by_cases e:a=b
 · subst e;simp
 · have h:¬ (Sum.inl a:Key)=Sum.inl b:=fun q=>e (Sum.inl.inj q)
   rw [decide_eq_false h]
   exact (beq_eq_false_iff_ne.mpr e).symm
theorem DA (a b:Str):decide ((Sum.inr a:Key)=Sum.inr b)=decide (a=b):=by
 by_cases e:a=b
 · subst e;simp
 · have h:¬ (Sum.inr a:Key)=Sum.inr b:=fun q=>e (Sum.inr.inj q)
   rw [decide_eq_false h,decide_eq_false e]
theorem Cm (a:Int) (b:Str):decide ((Sum.inl a:Key)=Sum.inr b)=false:=decide_eq_false (fun q=>nomatch q)
theorem DD (a:Str) (b:Int):decide ((Sum.inr a:Key)=Sum.inl b)=false:=decide_eq_false (fun q=>nomatch q)
def ck (prog:Program) (w:World):PySem.KeyKind prog w Key where
 is:=jy
 hash:=JI w
 inj:=fun v a b ha hb=>by
  rcases cG ha with ⟨i,t,rfl,rfl⟩ | ⟨x,t,rfl,rfl⟩
  · rcases cG hb with ⟨j,u,rfl,e⟩ | ⟨y,u,rfl,e⟩
    · injection e with e1 _;rw [e1]
    · exact nomatch e
  · rcases cG hb with ⟨j,u,rfl,e⟩ | ⟨y,u,rfl,e⟩
    · exact nomatch e
    · injection e with e1 _;rw [e1]
 byValue:=fun k v h=>by
  rcases cG h with ⟨i,t,rfl,rfl⟩ | ⟨x,t,rfl,rfl⟩ <;> rfl
 pyHash:=fun hv h=>by
  rcases cG hv with ⟨i,t,rfl,rfl⟩ | ⟨x,t,rfl,rfl⟩
  · exact wpAny_pyHash_int h
  · exact wpAny_pyHash_str h
 eqBool:=fun hu hv h=>by
  rcases cG hu with ⟨i,t,rfl,rfl⟩ | ⟨x,t,rfl,rfl⟩
  · rcases cG hv with ⟨j,u,rfl,rfl⟩ | ⟨y,u,rfl,rfl⟩
    · rw [Bs] at h;exact wpAny_eqBool_int h
    · rw [Cm] at h;exact SeqAt.EqAt.int_str i t y u _ _ _ _ h
  · rcases cG hv with ⟨j,u,rfl,rfl⟩ | ⟨y,u,rfl,rfl⟩
    · rw [DD] at h;exact SeqAt.EqAt.str_int x t j u _ _ _ _ h
    · rw [DA] at h;exact wpAny_eqBool_str h
 «strs»:=fun k x t v h=>by
  rcases cG h with ⟨i,u,rfl,e⟩ | ⟨y,u,rfl,e⟩
  · exact nomatch e
  · injection e with e1 _
    subst e1
    cases v <;> rfl
theorem qm (prog:Program) (w:World) (i:Int) (t:Tok):(ck prog w).is (.inl i) (.int i t)=true:=vf i t
theorem qh (prog:Program) (w:World) (x:Str) (t:Tok):(ck prog w).is (.inr x) (.str x t)=true:=vw x t
inductive V where
 | non | bl (b:Bool) | int (i:Int) | str (x:Str) | byt (b:Array UInt8) | flt (b:UInt64) | ref (a:Addr) | ty (n:String)
 deriving DecidableEq
def aX:V→Value→Prop
 | .non,u=>u=Value.none
 | .bl b,u=>u=Value.bool b
 | .int i,u=>∃ t,u=Value.int i t
 | .str x,u=>∃ t,u=Value.str x t
 | .byt b,u=>∃ t,u=Value.bytes b t
 | .flt b,u=>∃ t,u=Value.float b t
 | .ref a,u=>u=Value.ref a
 | .ty n,u=>u=Value.type n
abbrev bc:List V→List Value→Prop:=Paired aX
theorem bc.length {xs:List V} {us:List Value} (r:bc xs us):xs.length=us.length:=Paired.length r
theorem bc.get : ∀ {xs : List V} {us : List Value} {i : Nat} {x : V}, bc xs us → xs[i]? = some x → ∃ u, us[i]? = some u ∧ aX x u
  | _, _, _, _, .nil, e => by simp at e
  | _, _, 0, _, .cons r _, e => by simp at e; subst e; exact ⟨_, rfl, r⟩
  | _, _, i + 1, x, .cons _ t, e => by
    obtain ⟨u, h1, h2⟩ := bc.get (i := i) (x := x) t (by simpa using e)
    exact ⟨u, by simpa using h1, h2⟩
theorem bc.set {x:V} {u:Value} (r:aX x u):∀ {xs:List V} {us:List Value} (i:Nat),bc xs us→bc (xs.set i x) (us.set i u)
 | _,_,_,.nil=> .nil
 | _,_,0,.cons _ t=> .cons r t
 | _,_,i+1,.cons q t=> .cons q (bc.set r i t)
theorem bc.append:∀ {xs ys:List V} {us ws:List Value},bc xs us→bc ys ws→bc (xs++ys) (us++ws)
 | _,_,_,_,.nil,s=>s
 | _,_,_,_,.cons r t,s=> .cons r (bc.append t s)
theorem bc.take:∀ {xs:List V} {us:List Value} (n:Nat),bc xs us→bc (xs.take n) (us.take n)
 | _,_,0,_=> .nil
 | _,_,_+1,.nil=> .nil
 | _,_,n+1,.cons r t=> .cons r (bc.take n t)
theorem bc.drop:∀ {xs:List V} {us:List Value} (n:Nat),bc xs us→bc (xs.drop n) (us.drop n)
 | _,_,0,r=>r
 | _,_,_+1,.nil=> .nil
 | _,_,n+1,.cons _ t=>bc.drop n t
def cJ:Option V→Option Value→Prop
 | some v,some u=>aX v u
 | none,none=>True
 | _,_=>False
def KV {κ:Type}:List (κ×V)→List (κ×Value)→Prop:=Paired fun (p:κ×V) (q:κ×Value)=>p.1=q.1∧aX p.2 q.2
def kV:Key→V
 | .inl i=> .int i
 | .inr x=> .str x
inductive HO where
 | lst (xs:List V)
 | tup (xs:List V)
 | dK (kvs:List (Key×V)) | dT (kvs:List (List Key×V))
 | set (S:Int→Bool) (n:Nat)
 | ins (C dx:Addr) (fs:List (Str×V))
 | own (x:Addr)
 | xd (fs:List (Str×V))
 | met (f x:Addr)
 | rng (lo hi:Int)
 | frz (o:Obj) (u:HO)
 | tbl (ps:Array Value)
 | ext (φ:Heap→Prop)
abbrev Hp:=Addr→Option HO
def upd (H:Hp) (a:Addr) (o:HO):Hp:=fun b=>if b=a then some o else H b
theorem aj {H:Hp} {a:Addr} {o:HO}:upd H a o a=some o:=by unfold upd;rw [if_pos rfl]
theorem au {H:Hp} {a b:Addr} {o:HO} (h:b≠a):upd H a o b=H b:=by unfold upd;rw [if_neg h]
theorem jD {H:Hp} {a:Addr} {o u:HO}:upd (upd H a o) a u=upd H a u:=by
 funext b;unfold upd;split <;> rfl
theorem dR {H:Hp} {a b:Addr} {o u:HO} (h:H a=some o) (h':H b=some u) (d:o≠u):a≠b:=by
 intro e;subst e;rw [h] at h';exact d (Option.some.inj h')
theorem aD {H:Hp} {a b:Addr} {o:HO} (h:H a=some o) (h':H b=none):a≠b:=by
 intro e;subst e;rw [h] at h';cases h'
section
variable (P:Program) (w:World)
def aZ (H:Hp) (h:Heap) (a:Addr):HO→Prop
 | .lst xs=>xs.length≤sizeLine∧∃ (its:List Value) (n:Nat),bc xs its∧h.get? a=some { cls:=.type "list",data:=.seq its.toArray n }
 | .tup xs=>xs.length≤sizeLine∧∃ its:List Value,bc xs its∧IsTup h a its.toArray
 | .dK kvs=>kvs.length≤sizeLine∧(a==sysModules)=false∧∃ vs,KV kvs vs∧h.DictOf (ck P w) a vs
 | .dT kvs=>kvs.length≤sizeLine∧(a==sysModules)=false∧∃ xs:List (List Key×Addr×Value),
  Paired (fun (p:List Key×V) (q:List Key×Addr×Value)=>p.1=q.1∧H q.2.1=some (.tup (p.1.map kV))∧aX p.2 q.2.2) kvs xs∧
  ∃ o es ep,h.get? a=some o∧o.ExactDict∧o.data=.dict es ep∧es.toList=xs.map (entryOfKey (tupleKind (ck P w)))∧(xs.map (·.1)).Nodup
 | .set S n=>h.SetOf (intKind P w) a S n
 | .ins C dx fs=>H dx=some (.own a)∧fs.length≤1000∧dx≠a∧h.get? a=some (W.instObj C dx)∧
  ∃ mA,h.Ns1 dx mA∧(∀ f,cJ (fs.lookup f) (mA f))∧PySem.Within mA (fs.map (·.1))
 | .own _=>∃ o,h.get? a=some o
 | .xd fs=>∃ mA,h.Ns1 a mA∧∀ f,cJ (fs.lookup f) (mA f)
 | .rng lo hi=>∃ t u v,h.get? a=some { cls:=.type "range",data:=.fields #[.int lo t,.int hi u,.int 1 v] }
 | .frz o u=>h.get? a=some o∧aZ H h a u
 | .tbl ps=>h.get? a=some { cls:=.none,data:=.fields ps }
 | .met f x=>h.get? a=some (W.methodObj (.ref f) (.ref x))
 | .ext φ=>φ h∧(∃ o,h.get? a=some o)∧∀ h1 h2:Heap,φ h1→(∀ o,h1.get? a=some o→h2.get? a=some o)→φ h2
def HOk (H:Hp) (h:Heap):Prop:=∀ a o,H a=some o→aZ P w H h a o
end
section
variable {P:Program} {w:World} {H H':Hp} {h h':Heap} {a:Addr} {o:HO}
theorem aZ.lt (x:aZ P w H h a o):a<h.objs.size:=by
 cases o with
 | lst xs=>obtain ⟨_,_,_,_,e⟩:=x;exact Heap.lt_size e
 | tup xs=>obtain ⟨_,_,_,p⟩:=x;exact p.lt
 | dK kvs=>obtain ⟨_,_,_,_,o,_,_,e,_⟩:=x;exact Heap.lt_size e
 | dT kvs=>obtain ⟨_,_,_,_,o,_,_,e,_⟩:=x;exact Heap.lt_size e
 | set S n=>obtain ⟨o,_,_,_,e,_⟩:=x;exact Heap.lt_size e
 | ins C dx fs=>obtain ⟨_,_,_,e,_⟩:=x;exact Heap.lt_size e
 | own y=>obtain ⟨_,e⟩:=x;exact Heap.lt_size e
 | xd fs=>obtain ⟨_,⟨_,_,_,e,_⟩,_⟩:=x;exact Heap.lt_size e
 | rng lo hi=>obtain ⟨_,_,_,e⟩:=x;exact Heap.lt_size e
 | frz ob u=>obtain ⟨e,_⟩:=x;exact Heap.lt_size e
 | tbl ps=>exact Heap.lt_size (show h.get? a=some _ from x)
 | met f y=>exact Heap.lt_size (show h.get? a=some _ from x)
 | ext φ=>obtain ⟨_,⟨_,e⟩,_⟩:=x;exact Heap.lt_size e
theorem Paired.mapP {α β:Type} {F G:α→β→Prop}:∀ {l₁:List α} {l₂:List β},Paired F l₁ l₂→(∀ a b,F a b→G a b)→Paired G l₁ l₂
 | _,_,.nil,_=> .nil
 | _,_,.cons r t,f=> .cons (f _ _ r) (Paired.mapP t f)
theorem Paired.imp' {α β:Type} {F G:α→β→Prop} (f:∀ a b,F a b→G a b) {l₁:List α} {l₂:List β} (r:Paired F l₁ l₂):Paired G l₁ l₂:=Paired.mapP r f
theorem aZ.stay (x : aZ P w H h a o) (k : ∀ b u, (b = a ∨ H b = some (.own a)) → h.get? b = some u → h'.get? b = some u)
    (ho : ∀ b, H b = some (.own a) → H' b = some (.own a)) (ht : ∀ b xs, H b = some (.tup xs) → H' b = some (.tup xs)) : aZ P w H' h' a o := by
  induction o with
  | lst xs => obtain ⟨z, its, n, r, e⟩ := x; exact ⟨z, its, n, r, k _ _ (.inl rfl) e⟩
  | tup xs => obtain ⟨z, its, r, ob, e, c⟩ := x; exact ⟨z, its, r, ob, k _ _ (.inl rfl) e, c⟩
  | dK kvs => obtain ⟨z, y, vs, r, ob, es, ep, e, c⟩ := x; exact ⟨z, y, vs, r, ob, es, ep, k _ _ (.inl rfl) e, c⟩
  | dT kvs =>
    obtain ⟨z, y, xs, r, ob, es, ep, e, c⟩ := x
    exact ⟨z, y, xs, Paired.mapP r fun p q z => ⟨z.1, ht _ _ z.2.1, z.2.2⟩, ob, es, ep, k _ _ (.inl rfl) e, c⟩
  | set S n => obtain ⟨ob, es, ep, t, e, c⟩ := x; exact ⟨ob, es, ep, t, k _ _ (.inl rfl) e, c⟩
  | ins C dx fs =>
    obtain ⟨d, z, ne, e, mA, ⟨od, es, ep, e2, c⟩, r⟩ := x
    exact ⟨ho _ d, z, ne, k _ _ (.inl rfl) e, mA, ⟨od, es, ep, k _ _ (.inr d) e2, c⟩, r⟩
  | own y => obtain ⟨ob, e⟩ := x; exact ⟨ob, k _ _ (.inl rfl) e⟩
  | xd fs => obtain ⟨mA, ⟨od, es, ep, e, c⟩, r⟩ := x; exact ⟨mA, ⟨od, es, ep, k _ _ (.inl rfl) e, c⟩, r⟩
  | rng lo hi => obtain ⟨t, u, v, e⟩ := x; exact ⟨t, u, v, k _ _ (.inl rfl) e⟩
  | frz ob u ih => obtain ⟨e, q⟩ := x; exact ⟨k _ _ (.inl rfl) e, ih q⟩
  | tbl ps =>
    have e : h.get? a = some { cls := .none, data := .fields ps } := x
    show h'.get? a = some { cls := .none, data := .fields ps }
    exact k a _ (.inl rfl) e
  | met f y =>
    have e : h.get? a = some (W.methodObj (.ref f) (.ref y)) := x
    show h'.get? a = some (W.methodObj (.ref f) (.ref y))
    exact k a _ (.inl rfl) e
  | ext φ => obtain ⟨p, ⟨o, e⟩, st⟩ := x; exact ⟨st _ _ p fun o q => k _ _ (.inl rfl) q, ⟨o, k _ _ (.inl rfl) e⟩, st⟩
theorem HOk.lt (x:HOk P w H h) (e:H a=some o):a<h.objs.size:=(x a o e).lt
theorem HOk.fresh (x:HOk P w H h) (e:h.objs.size≤a):H a=none:=by
 cases q:H a with
 | none=>rfl
 | some u=>exact absurd (Nat.lt_of_lt_of_le (x.lt q) e) (Nat.lt_irrefl _)
theorem HOk.kept (x:HOk P w H h) (k:∀ b u,h.get? b=some u→h'.get? b=some u):HOk P w H h':=fun a o e=>
 (x a o e).stay (fun b u _ q=>k b u q) (fun _ q=>q) fun _ _ q=>q
theorem HOk.laid (x:HOk P w H h) (k:∀ b u,h.get? b=some u→h'.get? b=some u) (hp:h.objs.size≤a) (new:aZ P w (upd H a o) h' a o):HOk P w (upd H a o) h':=fun b u e=>by
 have hn:=x.fresh hp
 by_cases hb:b=a
 · subst hb;rw [aj] at e;cases e;exact new
 · rw [au hb] at e
   exact (x b u e).stay (fun c v _ q=>k c v q) (fun c q=>by rw [au (aD q hn)];exact q) fun c xs q=>by rw [au (aD q hn)];exact q
end
def Rd (H:Hp) (a:Addr) (u:HO):Prop:=H a=some u∨∃ o,H a=some (.frz o u)
theorem Rd.ok {P:Program} {w:World} {H:Hp} {h:Heap} {a:Addr} {u:HO} (r:Rd H a u) (x:HOk P w H h):aZ P w H h a u:=by
 rcases r with r | ⟨o,r⟩
 · exact x a u r
 · obtain ⟨_,q⟩:=x a _ r
   exact q
def Mut:Option HO→Prop
 | some (.lst _)=>True
 | some (.dK _)=>True
 | some (.dT _)=>True
 | some (.set _ _)=>True
 | some (.ins _ _ _)=>True
 | some (.ext _)=>True
 | _=>False
section
variable {P:Program} {w:World} {H:Hp} {h h':Heap} {x e:Addr} {o':HO}
theorem HOk.write (ok:HOk P w H h) (mu:Mut (H x)) (he:e=x∨H e=some (.own x)) (k:∀ b u,b≠e→h.get? b=some u→h'.get? b=some u) (heo:∃ u,h'.get? e=some u)
   (new:aZ P w (upd H x o') h' x o'):HOk P w (upd H x o') h':=fun b u q=>by
 have nown:∀ c y,H c=some (.own y)→c≠x:=fun c y r z=>by subst z;rw [r] at mu;exact mu
 have ntup:∀ c xs,H c=some (.tup xs)→c≠x:=fun c xs r z=>by subst z;rw [r] at mu;exact mu
 by_cases hb:b=x
 · subst hb;rw [aj] at q;cases q;exact new
 · rw [au hb] at q
   by_cases hbe:b=e
   · have q':H b=some (.own x):=by
       rcases he with z | z
       · exact absurd (hbe.trans z) hb
       · rw [hbe];exact z
     rw [q] at q';cases q'
     obtain ⟨v,hv⟩:=heo
     exact ⟨v,by rw [hbe];exact hv⟩
   · refine (ok b u q).stay (fun c v hc r=>k c v ?_ r) (fun c r=>by rw [au (nown c b r)];exact r) fun c xs r=>by rw [au (ntup c xs r)];exact r
     rcases hc with rfl | hc
     · exact hbe
     · rintro rfl
       rcases he with z | z
       · exact nown c b hc z
       · rw [hc] at z;cases z;exact hb rfl
end
structure Un (fs ex:List Addr) (H H':Hp) (h h':Heap):Prop where
 keep:∀ b o,h.get? b=some o→H b=none→b∉fs→b∉ex→h'.get? b=some o
 slot:∀ b o,h.get? b=some o→H b=none→b∈fs→b∉ex→∃ sl,h'.get? b=some { o with slots:=sl }
 free:∀ b o,h.get? b=some o→H b=none→b∉ex→H' b=none
 there:∀ b o,h.get? b=some o→b∉ex→∃ o',h'.get? b=some o'
 tups:∀ b xs,H b=some (.tup xs)→H' b=some (.tup xs)
 frzs:∀ b o u,H b=some (.frz o u)→H' b=some (.frz o u)
 tbls:∀ b ps,H b=some (.tbl ps)→∃ more,H' b=some (.tbl (ps++more))
section
variable {fs fs' ex ex':List Addr} {H H1 H2:Hp} {h h1 h2 h':Heap} {a x e:Addr} {o:HO}
theorem Un.any (u:Un fs ex H H1 h h1) {b:Addr} {ob:Obj} (q:h.get? b=some ob) (n:H b=none) (hx:b∉ex):∃ sl,h1.get? b=some { ob with slots:=sl }:=by
 by_cases hb:b∈fs
 · exact u.slot b ob q n hb hx
 · exact ⟨ob.slots,u.keep b ob q n hb hx⟩
theorem Un.trans (a:Un fs ex H H1 h h1) (b:Un fs ex H1 H2 h1 h2):Un fs ex H H2 h h2 where
 keep:=fun c ob q n hc hx=>b.keep c ob (a.keep c ob q n hc hx) (a.free c ob q n hx) hc hx
 slot:=fun c ob q n hc hx=>by
  obtain ⟨sl,e1⟩:=a.slot c ob q n hc hx
  obtain ⟨sl',e2⟩:=b.slot c _ e1 (a.free c ob q n hx) hc hx
  exact ⟨sl',e2⟩
 free:=fun c ob q n hx=>by
  obtain ⟨o',e1⟩:=a.there c ob q hx
  exact b.free c o' e1 (a.free c ob q n hx) hx
 there:=fun c ob q hx=>by
  obtain ⟨o',e1⟩:=a.there c ob q hx
  exact b.there c o' e1 hx
 tups:=fun c xs q=>b.tups c xs (a.tups c xs q)
 frzs:=fun c ob xs q=>b.frzs c ob xs (a.frzs c ob xs q)
 tbls:=fun c ps q=>by
  obtain ⟨m1,e1⟩:=a.tbls c ps q
  obtain ⟨m2,e2⟩:=b.tbls c _ e1
  exact ⟨m1++m2,by rw [e2,Array.append_assoc]⟩
theorem Un.kept (k:∀ b u,h.get? b=some u→h'.get? b=some u):Un fs ex H H h h':=
 ⟨fun b ob q _ _ _=>k b ob q,fun b ob q _ _ _=>⟨ob.slots,k b ob q⟩,fun _ _ _ n _=>n,fun b ob q _=>⟨ob,k b ob q⟩,fun _ _ q=>q,fun _ _ _ q=>q,fun _ ps q=>⟨#[],by rw [q];simp⟩⟩
theorem Un.refl:Un fs ex H H h h:=Un.kept fun _ _ q=>q
theorem Un.laid (k:∀ b u,h.get? b=some u→h'.get? b=some u) (hp:h.objs.size≤a) (hn:H a=none):Un fs ex H (upd H a o) h h' where
 keep:=fun b u q _ _ _=>k b u q
 slot:=fun b u q _ _ _=>⟨u.slots,k b u q⟩
 free:=fun b u q n _=>by rw [au (Nat.ne_of_lt (Nat.lt_of_lt_of_le (Heap.lt_size q) hp))];exact n
 there:=fun b u q _=>⟨u,k b u q⟩
 tups:=fun b xs q=>by rw [au (aD q hn)];exact q
 frzs:=fun b u xs q=>by rw [au (aD q hn)];exact q
 tbls:=fun b ps q=>⟨#[],by rw [au (aD q hn),q];simp⟩
theorem Un.write (mu:Mut (H x)) (he:e=x∨H e=some (.own x)) (k:∀ b u,b≠e→h.get? b=some u→h'.get? b=some u) (heo:∃ u,h'.get? e=some u):Un fs ex H (upd H x o) h h':=by
 have hx:∀ b,H b=none→b≠x:=fun b n z=>by subst z;rw [n] at mu;exact mu
 have hb:∀ b,H b=none→b≠e:=fun b n z=>by
   subst z
   rcases he with r | r
   · exact hx b n r
   · rw [n] at r;cases r
 have hm:∀ b u,H b=some u→¬ Mut (some u)→b≠x:=fun b u q nm z=>by subst z;rw [q] at mu;exact nm mu
 refine ⟨fun b u q n _ _=>k b u (hb b n) q,fun b u q n _ _=>⟨u.slots,k b u (hb b n) q⟩,fun b u q n _=>by rw [au (hx b n)];exact n,fun b u q _=>?_,
   fun b xs q=>by rw [au (hm b _ q fun z=>z)];exact q,fun b u xs q=>by rw [au (hm b _ q fun z=>z)];exact q,fun b ps q=>⟨#[],by rw [au (hm b _ q fun z=>z),q];simp⟩⟩
 by_cases hbe:b=e
 · subst hbe;exact heo
 · exact ⟨u,k b u hbe q⟩
end
def trk (h:Heap) (H:Hp):List Addr:=(List.range h.objs.size).filter fun a=>(H a).isSome
def gz (h:Heap) (H:Hp):Heap:=W.hideAll h (trk h H)
theorem vk (h:Heap) (H:Hp):(gz h H).objs.size=h.objs.size:=W.hideAll_size _ _
theorem wF {h:Heap} {H:Hp} {b:Addr} {o:Obj} (e:h.get? b=some o) (n:H b=none):(gz h H).get? b=some o:=
 W.hideAll_get _ e fun hm=>by
  have q:(H b).isSome=true:=(List.mem_filter.mp hm).2
  rw [n] at q;simp at q
theorem Ad {h : Heap} {H : Hp} {b : Addr} {o : Obj} (e : (gz h H).get? b = some o) : h.get? b = some o ∧ H b = none := by
  have e' : h.get? b = some o := W.of_hideAll (trk h H) e
  refine ⟨e', ?_⟩
  cases q : H b with
  | none => rfl
  | some x =>
    have hm : b ∈ trk h H := List.mem_filter.mpr ⟨List.mem_range.mpr (Heap.lt_size e'), by simp [q]⟩
    have z : (gz h H).get? b = none := W.hideAll_none (trk h H) hm
    rw [z] at e; cases e
def zN (g h:Heap) (L:Addr):List (Addr×Obj):=(List.range h.objs.size).filterMap fun a=>if a=L∨(g.get? a).isSome=true then none else (h.get? a).map fun o=>(a,o)
def bz (g h:Heap) (L d:Addr):List (Addr×Obj):=(zN g h L).filter fun p=>decide (p.1≠d)
structure Mod (K:W.Frag) (mg:Str→Option Value) (base:Heap):Prop where
 kin:K.In base
 glob:base.Ns mainGlobals mg
 blt:∃ mb,base.Ns builtinsNs mb∧∀ x:Str,x≠ "__name__" →mb x=bootBuiltins x
 nolimit:base.NoLimit
set_option genInjectivity false in
set_option genSizeOf false in
structure Cx where
 prog:Program
 w:World
 K:W.Frag
 mg:Str→Option Value
 base:Heap
 A:Around
 N:List Str
 s₀:Shared
 H₀:Hp
 env:Env
 outer:List Env
 stack:List Env
 ex:List Addr
 fn:Str→Bool
 calm:Bool
 pn:List (Addr×Obj)
 xe:Value→Shared→Prop
def frs (l:List Env):List Addr:=l.filterMap (·.frame)
abbrev Cx.fs (X:Cx):List Addr:=frs X.outer
def Vis (sc:Scope) (x:Str):Prop:=sc.names.lookup x=some .local∨sc.names.lookup x=some .cell∨sc.names.lookup x=some .free
def Loc (sc:Scope) (x:Str):Prop:=sc.names.lookup x=some .local∨sc.names.lookup x=some .cell
def Dt (env:Env) (h:Heap) (m:Str→Option Value) (x:Str) (u:Value):Prop:=
 (env.kindOf x=some .local∧m x=some u)∨((env.kindOf x=some .cell∨env.kindOf x=some .free)∧∃ c,env.cells.lookup x=some c∧h.IsCell c (some u))
set_option genInjectivity false in
set_option genSizeOf false in
structure Cx.Ok (X:Cx):Prop where
 mod:Mod X.K X.mg X.base
 kind:X.env.scope.kind=.function
 glob:X.env.globals=mainGlobals
 blt:X.env.builtins=builtinsNs
 above:X.s₀.heap.objs.size≤X.env.locals
 inj:∀ x y c,X.env.cells.lookup x=some c→X.env.cells.lookup y=some c→x=y
 has:∀ x,(X.env.kindOf x=some .cell∨X.env.kindOf x=some .free)→∃ c,X.env.cells.lookup x=some c
 cab:∀ x c,X.fn x=true→X.env.cells.lookup x=some c→X.s₀.heap.objs.size≤c
 hd:X.calm=true→X.A.handled=none
 frames:X.A.frames=some X.stack
 stk:X.stack=X.outer∨(X.stack=X.env::X.outer∧X.env.frame=some X.env.locals)
 exf:∀ b∈X.ex,b≠X.env.locals∧∀ x c,X.env.cells.lookup x=some c→c≠b
 bs:∀ b o,X.base.get? b=some o→X.s₀.heap.get? b=some o∧X.H₀ b=none
 bsz:X.base.objs.size≤X.s₀.heap.objs.size
 noex:∀ b o,X.base.get? b=some o→b∉X.ex
 exfs:∀ b∈X.ex,b∉X.fs
 funs:X.s₀.heap.FunFrames X.base X.outer
 frf:∀ b∈X.fs,X.H₀ b=none
structure Inv (X:Cx) (pins:List (Addr×Obj)) (σ:List (Option V)) (H:Hp) (s:Shared):Prop where
 ok:X.Ok
 os:s.os=X.s₀.os
 bare:AllBare s.gens
 base:Un X.fs X.ex X.H₀ H X.s₀.heap s.heap
 loc:∃ m,s.heap.Ns X.env.locals m∧∀ (i:Nat) (x:Str) (v:V),X.N[i]?=some x→σ[i]?=some (some v)→Vis X.env.scope x→∃ u,aX v u∧Dt X.env s.heap m x u
 cell:∀ x c,X.env.cells.lookup x=some c→∃ v,s.heap.IsCell c v
 free:H X.env.locals=none
 freeC:∀ x c,X.env.cells.lookup x=some c→H c=none
 pin:∀ p∈X.pn++pins,s.heap.get? p.1=some p.2∧H p.1=none∧p.1≠X.env.locals∧p.1∉X.fs∧∀ v,p.2.data≠ .cell v
 hok:HOk X.prog X.w H s.heap
 len:σ.length=X.N.length
section
variable {X:Cx} {pins:List (Addr×Obj)} {σ:List (Option V)} {H H':Hp} {s:Shared} {h':Heap}
theorem Cx.Ok.nofr (ok:X.Ok) {b:Addr} {o:Obj} (e:X.base.get? b=some o):b∉X.fs:=fun hb=>by
 have:=(ok.funs.mem hb).1
 rw [e] at this;cases this
theorem Inv.bs (I:Inv X pins σ H s):∀ b o,X.base.get? b=some o→s.heap.get? b=some o∧H b=none:=fun b o e=>
 ⟨I.base.keep b o (I.ok.bs b o e).1 (I.ok.bs b o e).2 (I.ok.nofr e) (I.ok.noex b o e),I.base.free b o (I.ok.bs b o e).1 (I.ok.bs b o e).2 (I.ok.noex b o e)⟩
theorem Inv.bk (I:Inv X pins σ H s):∀ b o,X.base.get? b=some o→s.heap.get? b=some o:=fun b o e=>(I.bs b o e).1
theorem Inv.mod (I:Inv X pins σ H s):Mod X.K X.mg X.base:=I.ok.mod
theorem Inv.kIn (I:Inv X pins σ H s):X.K.In s.heap:=I.ok.mod.kin.keeps I.bk
theorem Inv.lt (I:Inv X pins σ H s):X.env.locals<s.heap.objs.size:=let ⟨_,hn,_⟩:=I.loc;hn.lt
theorem Inv.sz (I:Inv X pins σ H s):X.s₀.heap.objs.size≤s.heap.objs.size:=Nat.le_trans I.ok.above (Nat.le_of_lt I.lt)
theorem Inv.nofs (I:Inv X pins σ H s) {a:Addr} (h:s.heap.objs.size≤a):a∉X.fs:=fun hb=>by
 obtain ⟨_,o,ho,_⟩:=I.ok.funs.mem hb
 exact absurd (Nat.lt_of_lt_of_le (Heap.lt_size ho) (Nat.le_trans I.sz h)) (Nat.lt_irrefl _)
theorem Inv.cne (I:Inv X pins σ H s):∀ x c,X.env.cells.lookup x=some c→c≠X.env.locals:=fun x c e z=>by
 obtain ⟨v,o,ho,hd⟩:=I.cell x c e
 obtain ⟨m,⟨o',es,ep,ho',hd',_⟩,_⟩:=I.loc
 rw [z,ho'] at ho;cases ho;rw [hd'] at hd;cases hd
theorem Inv.funs (I : Inv X pins σ H s) : s.heap.FunFrames X.base X.outer := by
  have all : ∀ (l : List Env), (∀ b ∈ frs l, b ∈ X.fs) → X.s₀.heap.FunFrames X.base l → s.heap.FunFrames X.base l := by
    intro l
    induction l with
    | nil => intro _ _; trivial
    | cons env r ih =>
      intro hs hl
      obtain ⟨hk, ⟨L, o, hf, hn, ho, hd⟩, hr⟩ := hl
      have hL : L ∈ X.fs := hs L (by unfold frs; rw [List.filterMap_cons, hf]; exact List.mem_cons_self)
      obtain ⟨sl, e⟩ := I.base.slot L o ho (I.ok.frf L hL) hL fun z => I.ok.exfs L z hL
      exact ⟨hk, ⟨L, _, hf, hn, e, hd⟩, ih (fun b hb => hs b (by unfold frs; rw [List.filterMap_cons, hf]; exact List.mem_cons_of_mem _ hb)) hr⟩
  exact all X.outer (fun _ hb => hb) I.ok.funs
theorem Inv.stack (I:Inv X pins σ H s):s.heap.FunFrames X.base X.stack:=by
 rcases I.ok.stk with e | ⟨e,hf⟩
 · rw [e];exact I.funs
 · rw [e]
   obtain ⟨m,hn,_⟩:=I.loc
   refine .cons (by rw [I.ok.kind];decide) hf hn ?_ I.funs
   exact Heap.get?_none_of_le (Nat.le_trans I.ok.bsz I.ok.above)
theorem Inv.stkSub (I:Inv X pins σ H s):∀ b∈frs X.stack,b∈X.env.locals::X.fs:=fun b hb=>by
 rcases I.ok.stk with e | ⟨e,hf⟩
 · rw [e] at hb;exact List.mem_cons_of_mem _ hb
 · rw [e] at hb
   unfold frs at hb
   rw [List.filterMap_cons,hf] at hb
   exact hb
theorem Inv.stkFree (I:Inv X pins σ H s):∀ b∈frs X.stack,H b=none:=fun b hb=>by
 rcases List.mem_cons.mp (I.stkSub b hb) with e | hb
 · rw [e];exact I.free
 · obtain ⟨_,o,ho,_⟩:=I.ok.funs.mem hb
   exact I.base.free b o ho (I.ok.frf b hb) fun z=>I.ok.exfs b z hb
theorem Inv.step {g':Array GenState} {t':Nat} {d':Drawn} {ch:List Addr} (I:Inv X pins σ H s)
   (hch:∀ b∈ch,(b∈X.ex∨X.s₀.heap.objs.size≤b)∧b≠X.env.locals∧(∀ x c,X.env.cells.lookup x=some c→c≠b)∧∀ p∈X.pn++pins,p.1≠b)
   (keep:∀ b o,b≠X.env.locals→b∉X.fs→b∉ch→s.heap.get? b=some o→H b=none→h'.get? b=some o)
   (slot:∀ b o,b≠X.env.locals→b∈X.fs→b∉ch→s.heap.get? b=some o→H b=none→∃ sl,h'.get? b=some { o with slots:=sl }) (free:∀ b o,b∉ch→s.heap.get? b=some o→H b=none→H' b=none)
   (there:∀ b o,b∉ch→s.heap.get? b=some o→∃ o',h'.get? b=some o')
   (tups:∀ b xs,H b=some (.tup xs)→H' b=some (.tup xs)) (frzs:∀ b o u,H b=some (.frz o u)→H' b=some (.frz o u)) (tbls:∀ b ps,H b=some (.tbl ps)→∃ more,H' b=some (.tbl (ps++more)))
   (ns:∀ m,s.heap.Ns X.env.locals m→h'.Ns X.env.locals m) (hok:HOk X.prog X.w H' h') (hg:AllBare g'):
   Inv X pins σ H' { s with heap:=h',gens:=g',drawn:=d',toks:=t' }:=by
 have neL:∀ b o,X.s₀.heap.get? b=some o→b≠X.env.locals:=fun b o e=>Nat.ne_of_lt (Nat.lt_of_lt_of_le (Heap.lt_size e) I.ok.above)
 have neC:∀ b o,X.s₀.heap.get? b=some o→b∉X.ex→b∉ch:=fun b o e hx hb=>by
   rcases (hch b hb).1 with z | z
   · exact hx z
   · exact absurd (Nat.lt_of_lt_of_le (Heap.lt_size e) z) (Nat.lt_irrefl _)
 have cellK:∀ x c,X.env.cells.lookup x=some c→∀ v,s.heap.IsCell c v→h'.IsCell c v:=fun x c e v ⟨o,ho,hd⟩=>by
   have nch:c∉ch:=fun z=>(hch c z).2.2.1 x c e rfl
   by_cases hc:c∈X.fs
   · obtain ⟨sl,q⟩:=slot c o (I.cne x c e) hc nch ho (I.freeC x c e)
     exact ⟨_,q,hd⟩
   · exact ⟨o,keep c o (I.cne x c e) hc nch ho (I.freeC x c e),hd⟩
 refine ⟨I.ok,I.os,hg,⟨fun b o e n hb hx=>?_,fun b o e n hb hx=>?_,fun b o e n hx=>?_,fun b o e hx=>?_,fun b xs e=>tups b xs (I.base.tups b xs e),fun b o xs e=>frzs b o xs (I.base.frzs b o xs e),fun b ps e=>?_⟩,?_,fun x c e=>?_,?_,fun x c e=>?_,fun p hp=>?_,hok,I.len⟩
 · exact keep b o (neL b o e) hb (neC b o e hx) (I.base.keep b o e n hb hx) (I.base.free b o e n hx)
 · obtain ⟨sl,e1⟩:=I.base.slot b o e n hb hx
   obtain ⟨sl',e2⟩:=slot b _ (neL b o e) hb (neC b o e hx) e1 (I.base.free b o e n hx)
   exact ⟨sl',e2⟩
 · obtain ⟨o',e1⟩:=I.base.there b o e hx
   exact free b o' (neC b o e hx) e1 (I.base.free b o e n hx)
 · obtain ⟨o',e1⟩:=I.base.there b o e hx
   exact there b o' (neC b o e hx) e1
 · obtain ⟨m1,e1⟩:=I.base.tbls b ps e
   obtain ⟨m2,e2⟩:=tbls b _ e1
   exact ⟨m1++m2,by rw [e2,Array.append_assoc]⟩
 · obtain ⟨m,hn,hl⟩:=I.loc
   refine ⟨m,ns m hn,fun i x v e1 e2 e3=>?_⟩
   obtain ⟨u,r,l⟩:=hl i x v e1 e2 e3
   refine ⟨u,r,?_⟩
   rcases l with l | ⟨k,c,e,z⟩
   · exact .inl l
   · exact .inr ⟨k,c,e,cellK x c e _ z⟩
 · obtain ⟨v,z⟩:=I.cell x c e
   exact ⟨v,cellK x c e v z⟩
 · obtain ⟨m,⟨o,_,_,ho,_⟩,_⟩:=I.loc
   exact free _ o (fun z=>(hch _ z).2.1 rfl) ho I.free
 · obtain ⟨v,o,ho,hd⟩:=I.cell x c e
   exact free c o (fun z=>(hch c z).2.2.1 x c e rfl) ho (I.freeC x c e)
 · obtain ⟨e,n,ne,nf,d⟩:=I.pin p hp
   have nch:p.1∉ch:=fun z=>(hch p.1 z).2.2.2 p hp rfl
   exact ⟨keep p.1 p.2 ne nf nch e n,free p.1 p.2 nch e n,ne,nf,d⟩
theorem Inv.un {t':Nat} (I:Inv X pins σ H s) (u:Un X.fs [] H H' s.heap h') (hok:HOk X.prog X.w H' h'):Inv X pins σ H' { s with heap:=h',toks:=t' }:=by
 obtain ⟨m,⟨o,es,ep,ho,r⟩,_⟩:=id I.loc
 obtain ⟨sl,hL⟩:=u.any ho I.free (by simp)
 exact I.step (g':=s.gens) (d':=s.drawn) (ch:=[]) (fun _ z=>nomatch z) (fun b o _ hb _ e n=>u.keep b o e n hb (by simp)) (fun b o _ hb _ e n=>u.slot b o e n hb (by simp)) (fun b o _ e n=>u.free b o e n (by simp)) (fun b o _ e=>u.there b o e (by simp)) u.tups u.frzs u.tbls (fun m' hm=>by
  obtain ⟨o',es',ep',ho',r'⟩:=hm
  rw [ho] at ho';cases ho'
  exact ⟨_,es',ep',hL,r'⟩) hok I.bare
theorem Inv.call {g':Array GenState} {t':Nat} {d':Drawn} {ch:List Addr} (I:Inv X pins σ H s) (u:Un (frs X.stack) ch H H' s.heap h') (hok:HOk X.prog X.w H' h') (hg:AllBare g')
  (hch:∀ b∈ch,(b∈X.ex∨X.s₀.heap.objs.size≤b)∧b≠X.env.locals∧(∀ x c,X.env.cells.lookup x=some c→c≠b)∧∀ p∈X.pn++pins,p.1≠b):
  Inv X pins σ H' { s with heap:=h',gens:=g',drawn:=d',toks:=t' }:=by
 obtain ⟨m,⟨o,es,ep,ho,r⟩,_⟩:=id I.loc
 obtain ⟨sl,hL⟩:=u.any ho I.free fun z=>(hch _ z).2.1 rfl
 exact I.step (ch:=ch) hch (fun b o hL hb hc e n=>u.keep b o e n (fun z=>(List.mem_cons.mp (I.stkSub b z)).elim hL hb) hc) (fun b o _ _ hc e n=>u.any e n hc) (fun b o hc e n=>u.free b o e n hc) (fun b o hc e=>u.there b o e hc) u.tups u.frzs u.tbls (fun m' hm=>by
  obtain ⟨o',es',ep',ho',r'⟩:=hm
  rw [ho] at ho';cases ho'
  exact ⟨_,es',ep',hL,r'⟩) hok hg
theorem Inv.turned {t':Nat} {it:Addr} (I:Inv X pins σ H s) (k:∀ b o,b≠it→s.heap.get? b=some o→h'.get? b=some o) (hn:H it=none) (hL:it≠X.env.locals)
   (h1:it∈X.ex∨X.s₀.heap.objs.size≤it) (h2:∀ x c,X.env.cells.lookup x=some c→c≠it) (h3:∀ p∈X.pn++pins,p.1≠it):Inv X pins σ H { s with heap:=h',toks:=t' }:=by
 have nit:∀ b u,H b=some u→b≠it:=fun b u e z=>by rw [z,hn] at e;cases e
 refine I.step (g':=s.gens) (d':=s.drawn) (ch:=[it]) (fun b hb=>?_) (fun b o _ _ hc e _=>k b o (fun z=>hc (by simp [z])) e) (fun b o _ _ hc e _=>⟨o.slots,k b o (fun z=>hc (by simp [z])) e⟩) (fun _ _ _ _ n=>n)
   (fun b o hc e=>⟨o,k b o (fun z=>hc (by simp [z])) e⟩) (fun _ _ e=>e) (fun _ _ _ e=>e) (fun b ps e=>⟨#[],by rw [e];simp⟩) (fun m hm=>?_) (fun b u e=>?_) I.bare
 · have e:b=it:=by simpa using hb
   subst e
   exact ⟨h1,hL,h2,h3⟩
 · obtain ⟨o,es,ep,ho,r⟩:=hm
   exact ⟨o,es,ep,k _ o (Ne.symm hL) ho,r⟩
 · refine (I.hok b u e).stay (fun c v hc q=>k c v ?_ q) (fun _ q=>q) fun _ _ q=>q
   rcases hc with z | z
   · rw [z];exact nit b u e
   · exact nit c _ z
theorem Inv.tok (I:Inv X pins σ H s) (t:Nat):Inv X pins σ H { s with toks:=t }:=I.un (h':=s.heap) (t':=t) Un.refl I.hok
theorem Inv.kept {t':Nat} (I:Inv X pins σ H s) (k:∀ b u,s.heap.get? b=some u→h'.get? b=some u):Inv X pins σ H { s with heap:=h',toks:=t' }:=I.un (Un.kept k) (I.hok.kept k)
theorem Inv.laid {a:Addr} {o:HO} {t':Nat} (I:Inv X pins σ H s) (k:∀ b u,s.heap.get? b=some u→h'.get? b=some u) (hp:s.heap.objs.size≤a) (new:aZ X.prog X.w (upd H a o) h' a o):
 Inv X pins σ (upd H a o) { s with heap:=h',toks:=t' }:=I.un (Un.laid k hp (I.hok.fresh hp)) (I.hok.laid k hp new)
theorem Inv.write {x e:Addr} {o:HO} {t':Nat} (I:Inv X pins σ H s) (mu:Mut (H x)) (he:e=x∨H e=some (.own x)) (k:∀ b u,b≠e→s.heap.get? b=some u→h'.get? b=some u) (heo:∃ u,h'.get? e=some u)
 (new:aZ X.prog X.w (upd H x o) h' x o):Inv X pins σ (upd H x o) { s with heap:=h',toks:=t' }:=I.un (Un.write mu he k heo) (I.hok.write mu he k heo new)
theorem Inv.pins_of {pins':List (Addr×Obj)} (I:Inv X pins σ H s) (h:∀ p∈pins',s.heap.get? p.1=some p.2∧H p.1=none∧p.1≠X.env.locals∧p.1∉X.fs∧∀ v,p.2.data≠ .cell v):Inv X pins' σ H s:=
 ⟨I.ok,I.os,I.bare,I.base,I.loc,I.cell,I.free,I.freeC,fun p hp=>(List.mem_append.mp hp).elim (fun z=>I.pin p (List.mem_append_left _ z)) (h p),I.hok,I.len⟩
theorem kh {N:List Str} (hN:N.Nodup) {i j:Nat} {x:Str} (a:N[i]?=some x) (b:N[j]?=some x):i=j:=by
 obtain ⟨h1,e1⟩:=List.getElem?_eq_some_iff.mp a
 obtain ⟨h2,e2⟩:=List.getElem?_eq_some_iff.mp b
 exact (List.getElem_inj hN).mp (e1.trans e2.symm)
theorem mH {M:Model} {A:Around} {E:Value→Shared→Prop} {i:Nat} {x:Str} {v:V} {u:Value} {Q:Unit→Shared→Prop} (I:Inv X pins σ H s) (hN:X.N.Nodup) (hi:X.N[i]?=some x) (hx:Loc X.env.scope x) (r:aX v u)
   (h:∀ s',Inv X pins (σ.set i (some v)) H s'→(∃ a,Heap.SameBut a s.heap s'.heap∧(a=X.env.locals∨X.env.cells.lookup x=some a))→Q () s') (hf:X.fn x=true∨X.env.scope.names.lookup x=some .local:=by first | exact .inl rfl | exact .inr rfl | assumption):wpAny M A (storeName X.env x u) Q E s:=by
 obtain ⟨m,hn,hl⟩:=id I.loc
 have hcls:(X.env.scope.kind==.class||(X.env.scope.kind==.module&&X.env.locals !=X.env.globals))=false:=by rw [I.ok.kind];rfl
 have hiσ:i<σ.length:=by rw [I.len];exact (List.getElem?_eq_some_iff.mp hi).1
 have cne:=I.cne
 have tracked:∀ {a:Addr} {h':Heap},(∃ o,s.heap.get? a=some o∧H a=none)→Heap.SameBut a s.heap h'→HOk X.prog X.w H h':=fun {a h'} ha hs b ob e=>by
   obtain ⟨_,_,hfree⟩:=ha
   refine (I.hok b ob e).stay (fun c w' hc q=>(hs.2 c ?_).trans q) (fun _ q=>q) fun _ _ q=>q
   rintro rfl
   rcases hc with rfl | hc
   · rw [hfree] at e;cases e
   · rw [hfree] at hc;cases hc
 rcases hx with hk | hk
 · refine wpAny_storeName_local hk hn (fun h' hn' hs=>?_) hcls
   obtain ⟨oL,_,_,hoL,_⟩:=id hn
   refine h _ ⟨I.ok,I.os,I.bare,⟨fun b o e n hb hx=>?_,fun b o e n hb hx=>?_,I.base.free,fun b o e hx=>?_,I.base.tups,I.base.frzs,I.base.tbls⟩,⟨_,hn',fun j y v' e1 e2 e3=>?_⟩,fun y c e=>?_,I.free,I.freeC,fun p hp=>?_,tracked ⟨oL,hoL,I.free⟩ hs,by simpa using I.len⟩ ⟨_,hs,.inl rfl⟩
   · exact (hs.2 b (Nat.ne_of_lt (Nat.lt_of_lt_of_le (Heap.lt_size e) I.ok.above))).trans (I.base.keep b o e n hb hx)
   · obtain ⟨sl,e1⟩:=I.base.slot b o e n hb hx
     exact ⟨sl,(hs.2 b (Nat.ne_of_lt (Nat.lt_of_lt_of_le (Heap.lt_size e) I.ok.above))).trans e1⟩
   · obtain ⟨o',e1⟩:=I.base.there b o e hx
     exact ⟨o',(hs.2 b (Nat.ne_of_lt (Nat.lt_of_lt_of_le (Heap.lt_size e) I.ok.above))).trans e1⟩
   · by_cases hj:j=i
     · subst hj
       rw [hi] at e1;cases e1
       rw [List.getElem?_set_self hiσ] at e2
       cases e2
       exact ⟨u,r,.inl ⟨hk,by simp⟩⟩
     · rw [List.getElem?_set_ne (Ne.symm hj)] at e2
       obtain ⟨u',r',q⟩:=hl j y v' e1 e2 e3
       refine ⟨u',r',?_⟩
       rcases q with ⟨k,e⟩ | ⟨k,c,e,z⟩
       · refine .inl ⟨k,?_⟩
         have:y≠x:=fun e=>hj (kh hN e1 (e▸hi))
         simp [this,e]
       · exact .inr ⟨k,c,e,z.sameBut hs (cne y c e)⟩
   · obtain ⟨w',z⟩:=I.cell y c e
     exact ⟨w',z.sameBut hs (cne y c e)⟩
   · obtain ⟨e,n,ne,nf,d⟩:=I.pin p hp
     exact ⟨(hs.2 p.1 ne).trans e,n,ne,nf,d⟩
 · have hfn:X.fn x=true:=by
     rcases hf with z | z
     · exact z
     · rw [z] at hk;cases hk
   obtain ⟨c,hc⟩:=I.ok.has x (.inl hk)
   obtain ⟨w',z⟩:=I.cell x c hc
   refine wpAny_storeName_cell I.ok.kind hk hc z (fun h' hc' hs=>?_)
   obtain ⟨oc,hoc,hocd⟩:=id z
   refine h { s with heap:=h' } ⟨I.ok,I.os,I.bare,⟨fun b o e n hb hx=>?_,fun b o e n hb hx=>?_,I.base.free,fun b o e hx=>?_,I.base.tups,I.base.frzs,I.base.tbls⟩,⟨m,hn.sameBut hs (Ne.symm (cne x c hc)),fun j y v' e1 e2 e3=>?_⟩,fun y c' e=>?_,I.free,I.freeC,fun p hp=>?_,tracked ⟨oc,hoc,I.freeC x c hc⟩ hs,by simpa using I.len⟩ ⟨c,hs,.inr hc⟩
   · exact (hs.2 b (Nat.ne_of_lt (Nat.lt_of_lt_of_le (Heap.lt_size e) (I.ok.cab x c hfn hc)))).trans (I.base.keep b o e n hb hx)
   · obtain ⟨sl,e1⟩:=I.base.slot b o e n hb hx
     exact ⟨sl,(hs.2 b (Nat.ne_of_lt (Nat.lt_of_lt_of_le (Heap.lt_size e) (I.ok.cab x c hfn hc)))).trans e1⟩
   · obtain ⟨o',e1⟩:=I.base.there b o e hx
     exact ⟨o',(hs.2 b (Nat.ne_of_lt (Nat.lt_of_lt_of_le (Heap.lt_size e) (I.ok.cab x c hfn hc)))).trans e1⟩
   · by_cases hj:j=i
     · subst hj
       rw [hi] at e1;cases e1
       rw [List.getElem?_set_self hiσ] at e2
       cases e2
       exact ⟨u,r,.inr ⟨.inl hk,c,hc,hc'⟩⟩
     · rw [List.getElem?_set_ne (Ne.symm hj)] at e2
       obtain ⟨u',r',q⟩:=hl j y v' e1 e2 e3
       refine ⟨u',r',?_⟩
       rcases q with q | ⟨k,c',e,z'⟩
       · exact .inl q
       · refine .inr ⟨k,c',e,z'.sameBut hs ?_⟩
         rintro rfl
         exact hj (kh hN e1 (I.ok.inj _ _ _ e hc▸hi))
   · by_cases hcc:c'=c
     · subst hcc;exact ⟨_,hc'⟩
     · obtain ⟨w2,z2⟩:=I.cell y c' e
       exact ⟨w2,z2.sameBut hs hcc⟩
   · obtain ⟨e,n,ne,nf,d⟩:=I.pin p hp
     refine ⟨(hs.2 p.1 ?_).trans e,n,ne,nf,d⟩
     intro q
     rw [q,hoc] at e
     have q':oc=p.2:=Option.some.inj e
     exact d w' (by rw [← q'];exact hocd)
theorem fA {M:Model} {A:Around} {E:Value→Shared→Prop} {i:Nat} {x:Str} {v:V} {u:Value} {Q:Unit→Shared→Prop} (I:Inv X pins σ H s) (hN:X.N.Nodup) (hi:X.N[i]?=some x) (hx:Loc X.env.scope x) (r:aX v u)
  (h:∀ s',Inv X pins (σ.set i (some v)) H s'→Q () s') (hf:X.fn x=true∨X.env.scope.names.lookup x=some .local:=by first | exact .inl rfl | exact .inr rfl | assumption):wpAny M A (storeName X.env x u) Q E s:=
 mH I hN hi hx r (fun s' I' _=>h s' I') hf
theorem Inv.call' {s':Shared} {ch:List Addr} (I:Inv X pins σ H s) (ho:s'.os=s.os) (u:Un (frs X.stack) ch H H' s.heap s'.heap) (hok:HOk X.prog X.w H' s'.heap) (hg:AllBare s'.gens)
  (hch:∀ b∈ch,(b∈X.ex∨X.s₀.heap.objs.size≤b)∧b≠X.env.locals∧(∀ x c,X.env.cells.lookup x=some c→c≠b)∧∀ p∈X.pn++pins,p.1≠b):Inv X pins σ H' s':=by
 obtain ⟨h',g',d',t',o'⟩:=s'
 have e:o'=s.os:=ho
 subst e
 exact I.call (g':=g') (t':=t') (d':=d') u hok hg hch
end
abbrev XK:=Value→Option Addr→Hp→Prop
abbrev St:=List (Option V)
abbrev VK:=V→Hp→Prop
abbrev TE:=St→Hp→VK→Prop
abbrev TT:=St→Hp→(Bool→Hp→Prop)→Prop
abbrev TA:=St→Hp→(List V→Hp→Prop)→Prop
structure fj where
 nx:St→Hp→Prop
 rt:VK
 bk:St→Hp→Prop:=fun _ _=>False
 ct:St→Hp→Prop:=fun _ _=>False
abbrev TS:=fj→St→Hp→Prop
def EP (X:Cx) (pins:List (Addr×Obj)) (σ:St) (Q:VK) (u:Value) (s':Shared):Prop:=∃ v H',Inv X pins σ H' s'∧aX v u∧Q v H'
def TP (X:Cx) (pins:List (Addr×Obj)) (σ:St) (Q:Bool→Hp→Prop) (b:Bool) (s':Shared):Prop:=∃ H',Inv X pins σ H' s'∧Q b H'
def AP (X:Cx) (pins:List (Addr×Obj)) (σ:St) (Q:List V→Hp→Prop) (us:List Value) (s':Shared):Prop:=∃ vs H',Inv X pins σ H' s'∧bc vs us∧Q vs H'
def SP (X:Cx) (pins:List (Addr×Obj)) (D:fj) (f:Flow) (s':Shared):Prop:=
 match f with
 | .next=>∃ σ' H',Inv X pins σ' H' s'∧D.nx σ' H'
 | .brk=>∃ σ' H',Inv X pins σ' H' s'∧D.bk σ' H'
 | .cont=>∃ σ' H',Inv X pins σ' H' s'∧D.ct σ' H'
 | .ret u=>∃ v σ' H',Inv X pins σ' H' s'∧aX v u∧D.rt v H'
def PE (X:Cx) (e:Expr) (t:TE):Prop:=
 ∀ (pins:List (Addr×Obj)) (s:Shared) (σ:St) (H:Hp) (Q:VK),Inv X pins σ H s→t σ H Q→wpAny (model X.prog X.w) X.A (eval e X.env) (EP X pins σ Q) X.xe s
def PT (X:Cx) (e:Expr) (t:TT):Prop:=
 ∀ (pins:List (Addr×Obj)) (s:Shared) (σ:St) (H:Hp) (Q:Bool→Hp→Prop),Inv X pins σ H s→t σ H Q→wpAny (model X.prog X.w) X.A (isTrue e X.env (eval e X.env)) (TP X pins σ Q) X.xe s
def PW (X:Cx) (e:Expr) (t:TT):Prop:=
 ∀ (whole:Sem Value) (pins:List (Addr×Obj)) (s:Shared) (σ:St) (H:Hp) (Q:Bool→Hp→Prop),Inv X pins σ H s→t σ H Q→wpAny (model X.prog X.w) X.A (isTrue e X.env whole) (TP X pins σ Q) X.xe s
theorem PW.pt {X:Cx} {e:Expr} {t:TT} (h:PW X e t):PT X e t:=h _
def PA (X:Cx) (es:List Expr) (t:TA):Prop:=
 ∀ (pos:Pos) (pins:List (Addr×Obj)) (s:Shared) (σ:St) (H:Hp) (Q:List V→Hp→Prop),Inv X pins σ H s→t σ H Q→wpAny (model X.prog X.w) X.A (spliced (backTo pos (starEach es X.env))) (AP X pins σ Q) X.xe s
def PS (X:Cx) (st:Stmt) (t:TS):Prop:=
 ∀ (pins:List (Addr×Obj)) (s:Shared) (σ:St) (H:Hp) (D:fj),Inv X pins σ H s→t D σ H→wpAny (model X.prog X.w) X.A (exec st X.env) (SP X pins D) X.xe s
def PSs (X:Cx) (st:List Stmt) (t:TS):Prop:=
 ∀ (pins:List (Addr×Obj)) (s:Shared) (σ:St) (H:Hp) (D:fj),Inv X pins σ H s→t D σ H→wpAny (model X.prog X.w) X.A (execs st X.env) (SP X pins D) X.xe s
theorem thn {α:Type} {t:Sem α} {Q Q':α→Shared→Prop} {M:Model} {A:Around} {E:Value→Shared→Prop} {s:Shared} (h:wpAny M A t Q E s) (hQ:∀ a s,Q a s→Q' a s):wpAny M A t Q' E s:=wpAny_mono h hQ fun _ _ x=>x
section
variable {X:Cx}
def Jn (i:Nat):TE:=fun σ H Q=>∃ v,σ[i]?=some (some v)∧Q v H
def tC (v:V):TE:=fun _ H Q=>Q v H
theorem Bp {i:Nat} {x:Str} {pos:Pos} (hN:X.N[i]?=some x) (hv:Vis X.env.scope x) (hd:(x==("__debug__" :Str))=false:=by decide) (hcd:(x==("__classdict__" :Str))=false:=by decide):PE X (.Name x pos) (Jn i):=by
 intro pins s σ H Q I h
 obtain ⟨v,e,h⟩:=h
 obtain ⟨m,hn,hl⟩:=I.loc
 obtain ⟨u,r,l⟩:=hl i x v hN e hv
 have fin:EP X pins σ Q u s:=⟨v,H,I,r,h⟩
 rcases l with ⟨hk,hm⟩ | ⟨hk,c,hc,hcell⟩
 · exact wpAny_Name (wpAny_loadName_local I.ok.kind hk hn hm fin) hd
 · rcases hk with hk | hk
   · exact wpAny_Name (wpAny_loadName_cell I.ok.kind hk hc hcell fin) hd
   · exact wpAny_Name (wpAny_loadName_free I.ok.kind hk hc hcell fin hcd) hd
theorem DO {i j pos}:PE X (.Constant (.int i) j pos) (tC (.int i)):=fun _ _ _ H _ I h=>wpAny_Constant_int ⟨.int i,H,I.tok _,⟨_,rfl⟩,h⟩
theorem GN {b j pos}:PE X (.Constant (.bool b) j pos) (tC (.bl b)):=fun _ _ _ H _ I h=>Constant_bool ⟨.bl b,H,I,rfl,h⟩
theorem De {j pos}:PE X (.Constant .none j pos) (tC .non):=fun _ _ _ H _ I h=>Constant_none ⟨.non,H,I,rfl,h⟩
theorem AA {x j pos}:PE X (.Constant (.str x) j pos) (tC (.str x)):=fun _ _ _ H _ I h=>Calls.Constant_str ⟨.str x,H,I.tok _,⟨_,rfl⟩,h⟩
def Gl (X:Cx) (x:Str):Prop:=X.env.kindOf x=some .globalImplicit
theorem fv {E:Value→Shared→Prop} {pins:List (Addr×Obj)} {s:Shared} {σ:St} {H:Hp} {x:Str} {u:Value} {pos:Pos} {Q:Value→Shared→Prop} (I:Inv X pins σ H s) (hg:Gl X x) (hm:X.mg x=some u) (h:Q u s)
  (hd:(x==("__debug__" :Str))=false:=by decide):wpAny (model X.prog X.w) X.A (eval (.Name x pos) X.env) Q E s:=
 Calls.Name_function_global I.ok.kind hg (Calls.loadGlobal_global (by rw [I.ok.glob];exact I.mod.glob.keeps I.bk) hm h) hd
theorem kS {E:Value→Shared→Prop} {pins:List (Addr×Obj)} {s:Shared} {σ:St} {H:Hp} {x:Str} {u:Value} {pos:Pos} {Q:Value→Shared→Prop} (I:Inv X pins σ H s) (hg:Gl X x) (hm:X.mg x=none) (hv:bootBuiltins x=some u) (h:Q u s)
  (hn:x≠ "__name__" :=by decide) (hd:(x==("__debug__" :Str))=false:=by decide):wpAny (model X.prog X.w) X.A (eval (.Name x pos) X.env) Q E s:=by
 obtain ⟨mb,h1,h2⟩:=I.mod.blt
 exact Calls.Name_function_global I.ok.kind hg (Calls.loadGlobal_builtin (by rw [I.ok.glob];exact I.mod.glob.keeps I.bk) hm (by rw [I.ok.blt];exact h1.keeps I.bk) ((h2 x hn).trans hv) h) hd
theorem lM {x:Str} {v:V} {u:Value} {pos:Pos} (hg:Gl X x) (hm:X.mg x=some u) (r:aX v u) (hd:(x==("__debug__" :Str))=false:=by decide):PE X (.Name x pos) (tC v):=
 fun _ _ _ H _ I h=>fv I hg hm ⟨v,H,I,r,h⟩ hd
theorem Aq {x:Str} {v:V} {u:Value} {pos:Pos} (hg:Gl X x) (hm:X.mg x=none) (hv:bootBuiltins x=some u) (r:aX v u) (hn:x≠ "__name__" :=by decide) (hd:(x==("__debug__" :Str))=false:=by decide):PE X (.Name x pos) (tC v):=
 fun _ _ _ H _ I h=>kS I hg hm hv ⟨v,H,I,r,h⟩ hn hd
variable {a b:Expr} {ta tb:TE} {pos:Pos}
variable {tA tB':TT} {bz:List Expr}
def bA (t:TT):TT:=fun σ H Q=>t σ H fun c H1=>Q (!c) H1
theorem Av (ha:PT X a tA):PW X (.BoolOp .And [a] pos) tA:=by
 intro wh pins s σ H Q I h
 refine isTrue_and (thn (ha pins s σ H Q I h) fun c s1 e=>?_)
 cases c with
 | true=>exact isTrue_and_nil e
 | false=>exact e
theorem Di (ha:PT X a tA):PW X (.BoolOp .Or [a] pos) tA:=by
 intro wh pins s σ H Q I h
 refine isTrue_or (thn (ha pins s σ H Q I h) fun c s1 e=>?_)
 cases c with
 | false=>exact isTrue_or_nil e
 | true=>exact e
theorem DK (ha:PT X a tA):PT X (.UnaryOp .Not a pos) (bA tA):=by
 intro pins s σ H Q I h
 exact isTrue_not (ha pins s σ H (fun c H1=>Q (!c) H1) I h)
theorem AF {op} {t:TE} (h:PE X a t):PE X (.BoolOp op [a] pos) t:=fun pins s σ H Q I hw=>BoolOp_one (h pins s σ H Q I hw)
end
def SqL (K:W.Frag) (H:Hp) (a:Addr) (xs:List V):Prop:=
 Rd H a (.lst xs)∨
  ∃ (o:Obj) (its:Array Value) (n:Nat),K.lookup a=some o∧o.cls=.type "list" ∧o.dict=none∧o.data=.seq its n∧its.size≤sizeLine∧bc xs its.toList
def SqT (K:W.Frag) (H:Hp) (a:Addr) (xs:List V):Prop:=
 Rd H a (.tup xs)∨
  ∃ (o:Obj) (its:Array Value) (n:Nat),K.lookup a=some o∧o.cls=.type "tuple" ∧o.data=.seq its n∧its.size≤sizeLine∧bc xs its.toList
def Im:Value→Option V
 | .none=>some .non
 | .bool b=>some (.bl b)
 | .int i _=>some (.int i)
 | .str x _=>some (.str x)
 | .bytes b _=>some (.byt b)
 | .float b _=>some (.flt b)
 | .ref a=>some (.ref a)
 | .type n=>some (.ty n)
 | _=>none
theorem aX.abs {x:V} {u:Value} (r:aX x u):Im u=some x:=by
 cases x with
 | non=>cases r;rfl
 | bl _=>cases r;rfl
 | int _=>obtain ⟨t,rfl⟩:=r;rfl
 | str _=>obtain ⟨t,rfl⟩:=r;rfl
 | byt _=>obtain ⟨t,rfl⟩:=r;rfl
 | flt _=>obtain ⟨t,rfl⟩:=r;rfl
 | ref _=>cases r;rfl
 | ty _=>cases r;rfl
theorem aX.inj {x y:V} {u:Value} (r:aX x u) (q:aX y u):x=y:=Option.some.inj (r.abs.symm.trans q.abs)
theorem bc.inj:∀ {xs ys:List V} {us:List Value},bc xs us→bc ys us→xs=ys
 | _,_,_,.nil,.nil=>rfl
 | _,_,_,.cons r t,.cons r' t'=>by rw [r.inj r',bc.inj t t']
section
variable {X:Cx} {pins:List (Addr×Obj)} {σ:St} {H:Hp} {s:Shared} {a:Addr} {xs ys:List V}
theorem SqL.of {K:W.Frag} (h:H a=some (.lst xs)):SqL K H a xs:=.inl (.inl h)
theorem SqT.of {K:W.Frag} (h:H a=some (.tup xs)):SqT K H a xs:=.inl (.inl h)
theorem Inv.list (I:Inv X pins σ H s) (h:SqL X.K H a xs):∃ its:List Value,bc xs its∧PlainL s.heap a its.toArray∧xs.length≤sizeLine:=by
 rcases h with h | ⟨o,its,n,hk,hc,hd,hs,hz,r⟩
 · obtain ⟨z,its,n,r,e⟩:=h.ok I.hok
   exact ⟨its,r,⟨_,n,e,rfl,rfl,rfl⟩,z⟩
 · refine ⟨its.toList,r,⟨o,n,I.kIn a o hk,hc,hd,by simpa using hs⟩,?_⟩
   have e:=r.length
   simp only [Array.length_toList] at e
   omega
theorem Inv.tuple (I:Inv X pins σ H s) (h:SqT X.K H a xs):∃ its:List Value,bc xs its∧IsTup s.heap a its.toArray∧xs.length≤sizeLine:=by
 rcases h with h | ⟨o,its,n,hk,hc,hs,hz,r⟩
 · obtain ⟨z,its,r,p⟩:=h.ok I.hok
   exact ⟨its,r,p,z⟩
 · refine ⟨its.toList,r,⟨o,I.kIn a o hk,hc,n,by simpa using hs⟩,?_⟩
   have e:=r.length
   simp only [Array.length_toList] at e
   omega
theorem Inv.list_inj (I:Inv X pins σ H s) (h:SqL X.K H a xs) (h':SqL X.K H a ys):xs=ys:=by
 obtain ⟨its,r,⟨o,n,e,_,_,d⟩,_⟩:=I.list h
 obtain ⟨its',r',⟨o',n',e',_,_,d'⟩,_⟩:=I.list h'
 rw [e] at e';cases e'
 rw [d] at d'
 injection d' with d1 _
 have:its=its':=by simpa using congrArg Array.toList d1
 subst this
 exact r.inj r'
theorem Inv.tuple_inj (I:Inv X pins σ H s) (h:SqT X.K H a xs) (h':SqT X.K H a ys):xs=ys:=by
 obtain ⟨its,r,⟨o,e,_,n,d⟩,_⟩:=I.tuple h
 obtain ⟨its',r',⟨o',e',_,n',d'⟩,_⟩:=I.tuple h'
 rw [e] at e';cases e'
 rw [d] at d'
 injection d' with d1 _
 have:its=its':=by simpa using congrArg Array.toList d1
 subst this
 exact r.inj r'
end
abbrev Cx.wish (X:Cx) (E:Value→Shared→Prop):Cx:={ X with xe:=E }
abbrev Cx.nox (X:Cx):Cx:=X.wish fun _ _=>False
theorem Cx.Ok.wish {X:Cx} (ok:X.Ok) (E:Value→Shared→Prop):(X.wish E).Ok:=
 ⟨ok.mod,ok.kind,ok.glob,ok.blt,ok.above,ok.inj,ok.has,ok.cab,ok.hd,ok.frames,ok.stk,ok.exf,ok.bs,ok.bsz,ok.noex,ok.exfs,ok.funs,ok.frf⟩
theorem Cx.Ok.unwish {X:Cx} {E:Value→Shared→Prop} (ok:(X.wish E).Ok):X.Ok:=
 ⟨ok.mod,ok.kind,ok.glob,ok.blt,ok.above,ok.inj,ok.has,ok.cab,ok.hd,ok.frames,ok.stk,ok.exf,ok.bs,ok.bsz,ok.noex,ok.exfs,ok.funs,ok.frf⟩
section
variable {X:Cx} {pins:List (Addr×Obj)} {σ:St} {H:Hp} {s:Shared} {E:Value→Shared→Prop}
theorem Inv.wish (I:Inv X pins σ H s) (E:Value→Shared→Prop):Inv (X.wish E) pins σ H s:=⟨I.ok.wish E,I.os,I.bare,I.base,I.loc,I.cell,I.free,I.freeC,I.pin,I.hok,I.len⟩
theorem Inv.unwish (I:Inv (X.wish E) pins σ H s):Inv X pins σ H s:=⟨I.ok.unwish,I.os,I.bare,I.base,I.loc,I.cell,I.free,I.freeC,I.pin,I.hok,I.len⟩
theorem SP.unwish {D:fj} {f:Flow} {s':Shared} (h:SP (X.wish E) pins D f s'):SP X pins D f s':=by
 cases f with
 | next=>obtain ⟨σ',H',I,q⟩:=h;exact ⟨σ',H',I.unwish,q⟩
 | brk=>obtain ⟨σ',H',I,q⟩:=h;exact ⟨σ',H',I.unwish,q⟩
 | cont=>obtain ⟨σ',H',I,q⟩:=h;exact ⟨σ',H',I.unwish,q⟩
 | ret u=>obtain ⟨v,σ',H',I,r,q⟩:=h;exact ⟨v,σ',H',I.unwish,r,q⟩
theorem PE.nox {e:Expr} {t:TE} (h:PE X.nox e t):PE X e t:=fun pins s σ H Q I hw=>
 wpAny_mono (h pins s σ H Q (I.wish _) hw) (fun _ _ ⟨v,H',I',r,q⟩=>⟨v,H',I'.unwish,r,q⟩) fun _ _ z=>False.elim z
theorem PSs.nox {st:List Stmt} {t:TS} (h:PSs X.nox st t):PSs X st t:=fun pins s σ H D I hw=>
 wpAny_mono (h pins s σ H D (I.wish _) hw) (fun _ _ q=>q.unwish) fun _ _ z=>False.elim z
end
section
variable {X:Cx} {st:Stmt} {bz:List Stmt} {t u:TS} {e:Expr} {te:TE} {pos:Pos}
def aF:TS:=fun D σ H=>D.nx σ H
def aw (t u:TS):TS:=fun D σ H=>t { D with nx:=u D } σ H
theorem zA:PSs X [] aF:=fun _ _ σ H _ I h=>wpAny_execs_nil ⟨σ,H,I,h⟩
theorem vX (h1 : PS X st t) (h2 : PSs X bz u) : PSs X (st :: bz) (aw t u) := by
  intro pins s σ H D I h
  refine wpAny_execs_cons (thn (h1 pins s σ H { D with nx := u D } I h) fun f s1 q => ?_)
  cases f with
  | next =>
    obtain ⟨σ', H', I', q⟩ := q
    exact h2 pins s1 σ' H' D I' q
  | ret v => exact q
  | brk => exact q
  | cont => exact q
theorem Ae (h1:PS X st t):PSs X [st] t:=by
 intro pins s σ H D I h
 refine wpAny_execs_cons (thn (h1 pins s σ H D I h) fun f s1 q=>?_)
 cases f with
 | next=>exact wpAny_execs_nil q
 | ret v=>exact q
 | brk=>exact q
 | cont=>exact q
theorem Inv.quiet {pins:List (Addr×Obj)} {σ:St} {H:Hp} {s:Shared} (I:Inv X pins σ H s):interactive X.env=false:=by simp [interactive,I.ok.kind]
def dF (te:TE):TS:=fun D σ H=>te σ H fun _ H1=>D.nx σ H1
theorem zJ (he:PE X e te) (hs:swapsWith e none pos.line X.env=pure false:=by rfl):PS X (.Expr e pos) (dF te):=by
 intro pins s σ H D I h
 exact wpAny_Expr_any (thn (he pins s σ H _ I h) fun v s1 ⟨x,H1,I1,r1,q1⟩=>⟨σ,H1,I1,q1⟩) I.quiet hs
def aB (te:TE):TS:=fun D σ H=>te σ H D.rt
theorem Cb (he:PE X e te):PS X (.Return (some e) pos) (aB te):=by
 intro pins s σ H D I h
 exact wpAny_Return_some (thn (he pins s σ H _ I h) fun v s1 ⟨x,H1,I1,r1,q1⟩=>⟨x,σ,H1,I1,r1,q1⟩)
def iX:TS:=fun _ _ _=>False
theorem yo:PS X st iX:=fun _ _ _ _ _ _ h=>h.elim
end
abbrev TG:=V→St→Hp→(St→Hp→Prop)→Prop
abbrev TGs:=List V→St→Hp→(St→Hp→Prop)→Prop
def PG (X:Cx) (target:Expr) (t:TG):Prop:=
 ∀ (pins:List (Addr×Obj)) (s:Shared) (σ:St) (H:Hp) (v:V) (u:Value) (Q:St→Hp→Prop),Inv X pins σ H s→aX v u→t v σ H Q→
  wpAny (model X.prog X.w) X.A (assign target X.env u) (fun _ s'=>∃ σ' H',Inv X pins σ' H' s'∧Q σ' H') X.xe s
def PGs (X:Cx) (ts:List Expr) (t:TGs):Prop:=
 ∀ (pins:List (Addr×Obj)) (s:Shared) (σ:St) (H:Hp) (vs:List V) (us:List Value) (Q:St→Hp→Prop),Inv X pins σ H s→bc vs us→t vs σ H Q→
  wpAny (model X.prog X.w) X.A (assignInOrder ((assignEach ts X.env).map (·.2)) us) (fun _ s'=>∃ σ' H',Inv X pins σ' H' s'∧Q σ' H') X.xe s
abbrev yb:=V→V→V→Hp→(Hp→Prop)→Prop
def sV (X:Cx) (t:yb):Prop:=
 ∀ (pins:List (Addr×Obj)) (s:Shared) (σ:St) (H:Hp) (o i v:V) (ov iv u:Value) (Q:Hp→Prop),Inv X pins σ H s→aX o ov→aX i iv→aX v u→t o i v H Q→
  wpAny (model X.prog X.w) X.A (setItem ov iv u) (fun _ s'=>∃ H',Inv X pins σ H' s'∧Q H') X.xe s
section
variable {X:Cx} {pos:Pos}
def ax (i:Nat):TG:=fun v σ H Q=>Q (σ.set i (some v)) H
theorem dH {i:Nat} {x:Str} (hN:X.N.Nodup) (hi:X.N[i]?=some x) (hx:Loc X.env.scope x) (hf:X.fn x=true∨X.env.scope.names.lookup x=some .local:=by first | exact .inl rfl | exact .inr rfl | assumption):PG X (.Name x pos) (ax i):=by
 intro pins s σ H v u Q I r h
 exact wpAny_assign_Name (fA I hN hi hx r (fun s' I'=>⟨_,H,I',h⟩) hf)
def jq:TGs:=fun vs σ H Q=>vs=[]∧Q σ H
def cI (t:TG) (u:TGs):TGs:=fun vs σ H Q=>∃ v r,vs=v::r∧t v σ H fun σ' H'=>u r σ' H' Q
theorem mm:PGs X [] jq:=by
 intro pins s σ H vs us Q I r h
 obtain ⟨e,h⟩:=h
 subst e
 cases r
 exact assignInOrder_nil ⟨σ,H,I,h⟩
theorem dz {e : Expr} {es : List Expr} {t : TG} {u : TGs} (h1 : PG X e t) (h2 : PGs X es u)
    (hs : (assignEach (e :: es) X.env).map (·.2) = assign e X.env :: (assignEach es X.env).map (·.2) := by rfl) : PGs X (e :: es) (cI t u) := by
  intro pins s σ H vs us Q I r h
  obtain ⟨v, vr, e1, h⟩ := h
  subst e1
  cases r with
  | cons r rr =>
    rw [hs]
    refine assignInOrder_cons (thn (h1 pins s σ H _ _ _ I r h) fun _ s1 ⟨σ1, H1, I1, q1⟩ => ?_)
    exact h2 pins s1 σ1 H1 _ _ Q I1 rr q1
def jc (K:W.Frag) (n:Nat) (t:TGs):TG:=fun v σ H Q=>∃ a xs,v=.ref a∧SqT K H a xs∧xs.length=n∧t xs σ H Q
theorem pA {es:List Expr} {k:Nat} {t:TGs} {n:Nat} (hc:X.calm=true) (h:PGs X es t)
  (hn:(assignEach es X.env).length=n:=by rfl) (hst:(assignEach es X.env).findIdx? (·.1)=none:=by rfl):PG X (.Tuple es k pos) (jc X.K n t):=by
 intro pins s σ H v u Q I r hw
 obtain ⟨a,xs,e1,hq,hl,hw⟩:=hw
 subst e1
 cases r
 obtain ⟨its,rv,ht,hz⟩:=I.tuple hq
 refine assign_Tuple_tuple (I.ok.hd hc) ht (by simp [hn,←hl,rv.length]) hst fun h' hx=>?_
 have I1:Inv X pins σ H { s with heap:=h' }:=I.kept (t':=s.toks) fun b o e=>hx b o (Nat.ne_of_lt (Heap.lt_size e)) e
 exact h pins _ σ H xs _ Q I1 (by simpa using rv) hw
def xN (to ti:TE) (t:yb):TG:=fun v σ H Q=>to σ H fun o H1=>ti σ H1 fun i H2=>t o i v H2 fun H3=>Q σ H3
theorem Bf {o i : Expr} {to ti : TE} {t : yb} (ho : PE X o to) (hi : PE X i ti) (hs : sV X t)
  (ha : ∀ v, assign (.Subscript o i pos) X.env v = (do
   let ov ← holding [v] (eval o X.env)
   let iv ← holding [v, ov] (eval i X.env)
   standAt pos
   holding [v, ov, iv] (setItem ov iv v)
   release [v, ov, iv] []) := by intro _; rfl) : PG X (.Subscript o i pos) (xN to ti t) := by
 intro pins s σ H v u Q I r h
 rw [ha]
 refine wpAny_bind (wpAny_holding (thn (ho pins s σ H _ I h) fun ov s1 ⟨x, H1, I1, r1, q1⟩ => ?_))
 refine wpAny_bind (wpAny_holding (thn (hi pins s1 σ H1 _ I1 q1) fun iv s2 ⟨y, H2, I2, r2, q2⟩ => ?_))
 refine wpAny_bind (wpAny_standAt (wpAny_bind (wpAny_holding (thn (hs pins s2 σ H2 x y v ov iv u _ I2 r1 r2 r q2) fun _ s3 ⟨H3, I3, q3⟩ => ?_))))
 exact wpAny_release ⟨σ, H3, I3, q3⟩
def aH (te:TE) (g:TG):TS:=fun D σ H=>te σ H fun x H1=>g x σ H1 D.nx
theorem kQ {tg e:Expr} {te:TE} {g:TG} (he:PE X e te) (hg:PG X tg g) (hs:swapsWithSole [tg] e pos.line X.env=pure false:=by rfl) (hw:swappedStores [tg] e X.env=pure none:=by rfl)
  (h1:(assignEach [tg] X.env).map (·.2)=[assign tg X.env]:=by rfl):PS X (.Assign [tg] e pos) (aH te g):=by
 intro pins s σ H D I h
 refine wpAny_Assign_stores (thn (he pins s σ H _ I h) fun v s1 ⟨x,H1,I1,r1,q1⟩=>?_) hs hw
 rw [h1]
 exact thn (hg pins s1 σ H1 x v _ I1 r1 q1) fun _ s2 q=>q
theorem AK {i:Nat} {x:Str} {e:Expr} {te:TE} {pos':Pos} (hN:X.N.Nodup) (hi:X.N[i]?=some x) (hx:Loc X.env.scope x) (he:PE X e te) (hs:swapsWith e (some (.Name x pos')) pos.line X.env=pure false:=by rfl) (hf:X.fn x=true∨X.env.scope.names.lookup x=some .local:=by first | exact .inl rfl | exact .inr rfl | assumption):
  PS X (.Assign [.Name x pos'] e pos) (aH te (ax i)):=by
 intro pins s σ H D I h
 refine wpAny_Assign_Name (thn (he pins s σ H _ I h) fun v s1 ⟨y,H1,I1,r1,q1⟩=>?_) hs
 exact fA I1 hN hi hx r1 (fun s2 I2=>⟨_,H1,I2,q1⟩) hf
end
section
variable {X:Cx} {pos:Pos}
def pB (c:TT) (tb:TS):TS:=fun D σ H=>∃ W:Nat→St→Hp→Prop,(∃ m,W m σ H)∧∀ m σ H,W m σ H→
 c σ H fun b H1=>if b=true then ∃ N:St→Hp→Prop,(∀ σ' H',N σ' H'→∃ m',m'<m∧W m' σ' H')∧tb { D with nx:=N,ct:=N,bk:=D.nx } σ H1 else D.nx σ H1
theorem xG {c : Expr} {body : List Stmt} {tc : TT} {tb : TS} (hp : PassesOwn (model X.prog X.w) X.A X.env X.xe) (hc : PT X c tc) (hb : PSs X body tb) : PS X (.While c body [] pos) (pB tc tb) := by
  intro pins s σ H D I h
  obtain ⟨W, ⟨m0, w0⟩, turn⟩ := h
  refine wpAny_While (codeAny_whileLoop (fun n s' => ∃ σ' H', Inv X pins σ' H' s' ∧ W n σ' H') ?_ m0 ⟨σ, H, I, w0⟩)
  rintro n s1 ⟨σ1, H1, I1, w1⟩
  refine wpAny_passesOwn hp (thn (hc pins s1 σ1 H1 _ I1 (turn n σ1 H1 w1)) fun b s2 ⟨H2, I2, q2⟩ => ?_)
  cases b with
  | true =>
    obtain ⟨N, hN, q2⟩ := q2
    rw [if_pos rfl]
    refine wpAny_passesOwn hp (thn (hb pins s2 σ1 H2 _ I2 q2) fun f s3 q3 => ?_)
    cases f with
    | next =>
      obtain ⟨σ3, H3, I3, n3⟩ := q3
      obtain ⟨m', hm, w3⟩ := hN σ3 H3 n3
      exact ⟨m', hm, σ3, H3, I3, w3⟩
    | cont =>
      obtain ⟨σ3, H3, I3, n3⟩ := q3
      obtain ⟨m', hm, w3⟩ := hN σ3 H3 n3
      exact ⟨m', hm, σ3, H3, I3, w3⟩
    | brk => exact q3
    | ret v => exact q3
  | false =>
    rw [if_neg Bool.false_ne_true]
    exact wpAny_execs_nil ⟨σ1, H2, I2, q2⟩
end
structure It where
 go:Nat→Hp→Prop
 yld:Nat→Hp→V→Hp→Prop
 stop:Nat→Hp→Prop
def jl (X:Cx) (pins:List (Addr×Obj)) (H:Hp) (b:Addr):Prop:=
 H b=none∧b≠X.env.locals∧b∉X.fs∧(b∈X.ex∨X.s₀.heap.objs.size≤b)∧(∀ x c,X.env.cells.lookup x=some c→c≠b)∧∀ p∈X.pn++pins,p.1≠b
theorem Inv.fpOk {X:Cx} {pins:List (Addr×Obj)} {σ:St} {H H':Hp} {s:Shared} {b:Addr} (I:Inv X pins σ H s) (hb:s.heap.objs.size≤b) (hn:H' b=none):jl X pins H' b:=by
 refine ⟨hn,Nat.ne_of_gt (Nat.lt_of_lt_of_le I.lt hb),I.nofs hb,.inr (Nat.le_trans I.sz hb),fun x c e z=>?_,fun p hp z=>?_⟩
 · obtain ⟨v,q⟩:=I.cell x c e
   exact absurd (Nat.lt_of_lt_of_le q.lt (by rw [z];exact hb)) (Nat.lt_irrefl _)
 · exact absurd (Nat.lt_of_lt_of_le (Heap.lt_size (I.pin p hp).1) (by rw [z];exact hb)) (Nat.lt_irrefl _)
structure lV (P:Program) (w:World) (K:W.Frag) (tg:Expr) (J:It) (fp:List Addr) (it:Addr) (tn:Nat→Heap→Prop):Prop where
 mem:it∈fp
 obj:∀ i h,tn i h→∀ b∈fp,∃ o,h.get? b=some o∧∀ v,o.data≠ .cell v
 keep:∀ i h h',tn i h→(∀ b∈fp,∀ o,h.get? b=some o→h'.get? b=some o)→tn i h'
 item:∀ (X:Cx),X.prog=P→X.w=w→X.K=K→X.calm=true→∀ (i:Nat) (pins:List (Addr×Obj)) (s:Shared) (σ:St) (H:Hp) (E:Value→Shared→Prop),Inv X pins σ H s→(∀ b∈fp,jl X pins H b)→tn i s.heap→J.go i H→
  wpAny (model P w) X.A (pyNext (.ref it)) (fun r s1=>∃ u,r=some u∧
   wpAny (model P w) X.A (letOwnedTupleGo tg (.ref it) u) (fun _ s2=>∃ x H',Inv X pins σ H' s2∧aX x u∧J.yld i H x H'∧tn (i+1) s2.heap∧∀ b∈fp,H' b=none) E s1) E s
 done:∀ (X:Cx),X.prog=P→X.w=w→X.K=K→X.calm=true→∀ (i:Nat) (pins:List (Addr×Obj)) (s:Shared) (σ:St) (H:Hp) (E:Value→Shared→Prop),Inv X pins σ H s→(∀ b∈fp,jl X pins H b)→tn i s.heap→J.stop i H→
  wpAny (model P w) X.A (pyNext (.ref it)) (fun r s1=>r=none∧Inv X pins σ H s1) E s
 self:∀ (A:Around) (i:Nat) (s:Shared) (Q:Value→Shared→Prop) (E:Value→Shared→Prop),tn i s.heap→Q (.ref it) s→wpAny (model P w) A (pyIter (.ref it)) Q E s
abbrev TI:=St→Hp→(It→Hp→Prop)→Prop
def PIE (X:Cx) (pins:List (Addr×Obj)) (σ:St) (tg:Expr) (R:It→Hp→Prop) (itv:Value) (s2:Shared):Prop:=
 ∃ (it:Addr) (fp:List Addr) (tn:Nat→Heap→Prop) (J:It) (H':Hp),itv=.ref it∧Inv X pins σ H' s2∧lV X.prog X.w X.K tg J fp it tn∧tn 0 s2.heap∧(∀ b∈fp,jl X pins H' b)∧R J H'
def PI (X:Cx) (tg iter:Expr) (wi:TI):Prop:=
 ∀ (pins:List (Addr×Obj)) (s:Shared) (σ:St) (H:Hp) (R:It→Hp→Prop),Inv X pins σ H s→wi σ H R→
  wpAny (model X.prog X.w) X.A (eval iter X.env) (fun v s1=>wpAny (model X.prog X.w) X.A (pyIter v) (PIE X pins σ tg R) X.xe s1) X.xe s
theorem oh {M : Model} {A : Around} {E : Value → Shared → Prop} {s : Shared} {tg : Expr} {it : Addr} {u : Value} {o : Obj} {n : String} {vs : Array Value} {Q : Unit → Shared → Prop} (ho : s.heap.get? it = some o) (hc : o.cls = .type n) (hd : o.data = .fields vs)
    (hn : ["enumerate", "zip", "dict_itemiterator", "dict_reverseitemiterator", "odict_iterator", "itertools.zip_longest", "itertools.pairwise"].contains n = false) (hQ : Q () s) : wpAny M A (letOwnedTupleGo tg (.ref it) u) Q E s := by
  unfold letOwnedTupleGo
  cases tg <;> first
    | exact wpAny_pure hQ
    | (cases u <;> first
        | exact wpAny_pure hQ
        | (refine wpAny_bind (wpAny_load ho ?_)
           rw [hc, hd]
           show wpAny M A (if (["enumerate", "zip", "dict_itemiterator", "dict_reverseitemiterator", "odict_iterator", "itertools.zip_longest", "itertools.pairwise"].contains n && vs[0]? == some (rawInt _)) = true then _ else _) Q E s
           rw [if_neg (by intro h; rw [hn, Bool.false_and] at h; cases h)]
           exact wpAny_pure hQ))
def Itl (K:W.Frag) (a:Addr):It:=
 ⟨fun i H=>∃ xs x,SqL K H a xs∧xs[i]?=some x,fun i H x H'=>H'=H∧∀ xs,SqL K H a xs→xs[i]?=some x,fun i H=>∃ xs,SqL K H a xs∧xs.length≤i⟩
def Itt (K:W.Frag) (a:Addr):It:=
 ⟨fun i H=>∃ xs x,SqT K H a xs∧xs[i]?=some x,fun i H x H'=>H'=H∧∀ xs,SqT K H a xs→xs[i]?=some x,fun i H=>∃ xs,SqT K H a xs∧xs.length≤i⟩
def Itr (lo:Int) (n:Nat):It:=⟨fun i _=>i<n,fun i H x H'=>H'=H∧x=.int (lo+i),fun i _=>n≤i⟩
theorem ue {P:Program} {w:World} {K:W.Frag} {tg:Expr} (a it:Addr):lV P w K tg (Itl K a) [it] it (fun i h=>h.IsListIter it a i) where
 mem:=by simp
 obj:=fun i h st b hb=>by
  have e:b=it:=by simpa using hb
  subst e
  obtain ⟨o,e,c,d⟩:=st
  exact ⟨o,e,fun v z=>by rw [d] at z;cases z⟩
 keep:=fun i h h' st k=>st.at fun o e=>k it (by simp) o e
 item:=by
  intro X hP hw hK hc i pins s σ H E I hf st hg
  subst hP hw hK
  obtain ⟨xs,x,hq,hx⟩:=hg
  obtain ⟨its,rv,p,hz⟩:=I.list hq
  obtain ⟨u,hu,ru⟩:=rv.get hx
  obtain ⟨f0,f1,f2,f3,f4,f5⟩:=hf it (by simp)
  refine wpAny_pyNext_list_item st p.isList (x:=u) (by simpa using hu) fun h' st' sb=>?_
  have I1:Inv X pins σ H { s with heap:=h' }:=I.turned (t':=s.toks) (fun b o hb e=>(sb.2 b hb).trans e) f0 f1 f3 f4 f5
  obtain ⟨o,e,c,d⟩:=id st'
  exact ⟨u,rfl,oh (s:={ s with heap:=h' }) e c d (by decide) ⟨x,H,I1,ru,⟨rfl,fun ys hy=>by rw [I.list_inj hy hq];exact hx⟩,st',fun b hb=>(hf b hb).1⟩⟩
 done:=by
  intro X hP hw hK hc i pins s σ H E I hf st hg
  subst hP hw hK
  obtain ⟨xs,hq,hx⟩:=hg
  obtain ⟨its,rv,p,hz⟩:=I.list hq
  obtain ⟨f0,f1,f2,f3,f4,f5⟩:=hf it (by simp)
  have hl:=rv.length
  exact wpAny_pyNext_list_end (I.ok.hd hc) st p.isList (by simp;omega) fun h' eb=>⟨rfl,I.turned (t':=s.toks) (fun b o hb e=>eb b o hb e) f0 f1 f3 f4 f5⟩
 self:=fun _ _ _ _ _ st h=>wpAny_pyIter_listiter st h
theorem sQ {P:Program} {w:World} {K:W.Frag} {tg:Expr} (a it:Addr):lV P w K tg (Itt K a) [it] it (fun i h=>h.IsTupleIter it a i) where
 mem:=by simp
 obj:=fun i h st b hb=>by
  have e:b=it:=by simpa using hb
  subst e
  obtain ⟨o,e,c,d⟩:=st
  exact ⟨o,e,fun v z=>by rw [d] at z;cases z⟩
 keep:=fun i h h' st k=>st.at fun o e=>k it (by simp) o e
 item:=by
  intro X hP hw hK hc i pins s σ H E I hf st hg
  subst hP hw hK
  obtain ⟨xs,x,hq,hx⟩:=hg
  obtain ⟨its,rv,p,hz⟩:=I.tuple hq
  obtain ⟨u,hu,ru⟩:=rv.get hx
  obtain ⟨f0,f1,f2,f3,f4,f5⟩:=hf it (by simp)
  refine wpAny_pyNext_tuple_item st (show s.heap.IsTuple a its.toArray from p) (x:=u) (by simpa using hu) fun h' st' sb=>?_
  have I1:Inv X pins σ H { s with heap:=h' }:=I.turned (t':=s.toks) (fun b o hb e=>(sb.2 b hb).trans e) f0 f1 f3 f4 f5
  obtain ⟨o,e,c,d⟩:=id st'
  exact ⟨u,rfl,oh (s:={ s with heap:=h' }) e c d (by decide) ⟨x,H,I1,ru,⟨rfl,fun ys hy=>by rw [I.tuple_inj hy hq];exact hx⟩,st',fun b hb=>(hf b hb).1⟩⟩
 done:=by
  intro X hP hw hK hc i pins s σ H E I hf st hg
  subst hP hw hK
  obtain ⟨xs,hq,hx⟩:=hg
  obtain ⟨its,rv,p,hz⟩:=I.tuple hq
  obtain ⟨f0,f1,f2,f3,f4,f5⟩:=hf it (by simp)
  have hl:=rv.length
  exact wpAny_pyNext_tuple_end (I.ok.hd hc) st (show s.heap.IsTuple a its.toArray from p) (by simp;omega) fun h' eb=>⟨rfl,I.turned (t':=s.toks) (fun b o hb e=>eb b o hb e) f0 f1 f3 f4 f5⟩
 self:=fun _ _ _ _ _ st h=>wpAny_pyIter_tupleiter st h
theorem rY {P:Program} {w:World} {K:W.Frag} {tg:Expr} (it:Addr) (lo:Int) (n:Nat):lV P w K tg (Itr lo n) [it] it (fun i h=>IsRangeIter h it (lo+(i:Nat)*1) ((n:Int) - (i:Nat)) 1) where
 mem:=by simp
 obj:=fun i h st b hb=>by
  have e:b=it:=by simpa using hb
  subst e
  exact ⟨_,st,fun v z=>by
   have z':Data.fields _=Data.cell v:=z
   cases z'⟩
 keep:=fun i h h' st k=>k it (by simp) _ st
 item:=by
  intro X hP hw hK hc i pins s σ H E I hf st hg
  subst hP hw hK
  obtain ⟨f0,f1,f2,f3,f4,f5⟩:=hf it (by simp)
  have W:=Walks.range (prog:=X.prog) (w:=X.w) (I.ok.hd hc) it lo 1 n
  refine W.item i s _ _ hg st fun v h' tk hv st' kk=>?_
  obtain ⟨t,rfl⟩:=hv
  have I1:Inv X pins σ H { s with heap:=h',toks:=tk }:=I.turned (fun b o hb e=>kk b o (by simpa using hb) e) f0 f1 f3 f4 f5
  refine ⟨_,rfl,oh (s:={ s with heap:=h',toks:=tk }) (n:= "range_iterator") st' rfl rfl (by decide) ⟨.int (lo+i),H,I1,⟨t,?_⟩,⟨rfl,rfl⟩,st',fun b hb=>(hf b hb).1⟩⟩
  rw [Int.mul_one]
 done:=by
  intro X hP hw hK hc i pins s σ H E I hf st hg
  subst hP hw hK
  obtain ⟨f0,f1,f2,f3,f4,f5⟩:=hf it (by simp)
  exact wpAny_pyNext_range_end (I.ok.hd hc) st (by have:n≤i:=hg;omega) fun h' eb=>⟨rfl,I.turned (t':=s.toks) (fun b o hb e=>eb b o hb e) f0 f1 f3 f4 f5⟩
 self:=fun _ _ _ _ _ st h=>wpAny_pyIter_rangeiter st h
section
variable {X:Cx} {tg:Expr}
theorem xv {pins:List (Addr×Obj)} {σ:St} {H:Hp} {s:Shared} {R:It→Hp→Prop} {E:Value→Shared→Prop} {lo hi:Int} {t u v:Tok} {tk:Nat} (I:Inv X pins σ H s) (h1: -(2^62)≤lo) (h2:lo<2^62) (h3: -(2^62)≤hi) (h4:hi<2^62)
   (q:R (Itr lo (hi - lo).toNat) H):wpAny (model X.prog X.w) X.A (pyIter (.ref s.heap.objs.size)) (PIE X pins σ tg R) E { s with heap:=s.heap.push { cls:=.type "range",data:=.fields #[.int lo t,.int hi u,.int 1 v] },toks:=tk }:=by
 refine wpAny_pyIter_range (IsRange.new ..) (small_one h1 h2 h3 h4) ?_
 have I1:Inv X pins σ H { s with heap:=s.heap.push { cls:=.type "range",data:=.fields #[.int lo t,.int hi u,.int 1 v] },toks:=tk }:=I.kept fun b o e=>Heap.get?_push_of_some _ e
 refine ⟨(s.heap.push { cls:=.type "range",data:=.fields #[.int lo t,.int hi u,.int 1 v] }).objs.size,[(s.heap.push { cls:=.type "range",data:=.fields #[.int lo t,.int hi u,.int 1 v] }).objs.size],_,_,H,rfl,
   I1.kept (t':=tk) fun b o e=>Heap.get?_push_of_some _ e,rY _ lo (hi - lo).toNat,?_,fun b hb=>?_,q⟩
 · have e1:lo+((0:Nat):Int)*1=lo:=by simp
   have e2:(((hi - lo).toNat:Nat):Int) - ((0:Nat):Int)=Builtin.Range.rangeSize lo hi 1:=by rw [rangeSize_one];split <;> omega
   show IsRangeIter _ _ (lo+((0:Nat):Int)*1) ((((hi - lo).toNat:Nat):Int) - ((0:Nat):Int)) 1
   rw [e1,e2]
   exact Heap.get?_push_size _ rfl
 · have e:b=(s.heap.push { cls:=.type "range",data:=.fields #[.int lo t,.int hi u,.int 1 v] }).objs.size:=by simpa using hb
   subst e
   exact I1.fpOk (Nat.le_refl _) (I1.hok.fresh (Nat.le_refl _))
def jH (ta:TA):TI:=fun σ H R=>ta σ H fun vs H1=>∃ j:Int,vs=[.int j]∧ -(2^62)≤j∧j<2^62∧R (Itr 0 j.toNat) H1
theorem tP {a : Expr} {ta : TA} {p pos : Pos} (hg : Gl X "range") (hm : X.mg "range" = none) (ha : PA X [a] ta) (hs : starEach [a] X.env = [(false, eval a X.env)] := by rfl) : PI X tg (.Call (.Name "range" p) [a] [] pos) (jH ta) := by
  intro pins s σ H R I h
  refine Call_ (kS I hg hm boot_range (PyProof.Rows.callWith_type1 (thn (ha pos pins s σ H _ I h) fun us s1 ⟨vs, H1, I1, r1, q1⟩ => ?_) hs rfl))
  obtain ⟨j, e, q1, q2, q⟩ := q1
  subst e
  cases r1 with
  | cons r rr =>
    cases rr
    obtain ⟨t, rfl⟩ := r
    exact call_range_1 (xv I1 (by omega) (by omega) q1 q2 (by simpa using q))
def gu (wi:TI) (g:TG) (tb:TS):TS:=fun D σ H=>wi σ H fun J H1=>∃ W:Nat→Nat→St→Hp→Prop,(∃ m,W 0 m σ H1)∧∀ i m σ H,W i m σ H→
 (J.stop i H∧D.nx σ H)∨(J.go i H∧∃ N:St→Hp→Prop,(∀ σ' H',N σ' H'→∃ m',m'<m∧W (i+1) m' σ' H')∧∀ x H',J.yld i H x H'→g x σ H' fun σ2 H2=>tb { D with nx:=N,ct:=N,bk:=D.nx } σ2 H2)
def jd (fp:List Addr) (h:Heap):List (Addr×Obj):=fp.filterMap fun b=>(h.get? b).map fun o=>(b,o)
theorem fT {fp:List Addr} {h:Heap} {b:Addr} {o:Obj} (hb:b∈fp) (e:h.get? b=some o):(b,o)∈jd fp h:=List.mem_filterMap.mpr ⟨b,hb,by rw [e];rfl⟩
theorem uY {fp : List Addr} {h : Heap} {p : Addr × Obj} (hp : p ∈ jd fp h) : p.1 ∈ fp ∧ h.get? p.1 = some p.2 := by
  obtain ⟨b, hb, e⟩ := List.mem_filterMap.mp hp
  cases q : h.get? b with
  | none => rw [q] at e; cases e
  | some o =>
    rw [q] at e
    have e' : (b, o) = p := Option.some.inj e
    subst e'
    exact ⟨hb, q⟩
theorem Inv.pinned {pins:List (Addr×Obj)} {σ:St} {H:Hp} {s:Shared} {fp:List Addr} (I:Inv X pins σ H s) (hf:∀ b∈fp,jl X pins H b) (ho:∀ b∈fp,∃ o,s.heap.get? b=some o∧∀ v,o.data≠ .cell v):Inv X (pins++jd fp s.heap) σ H s:=
 I.pins_of fun p hp=>(List.mem_append.mp hp).elim (fun z=>I.pin p (List.mem_append_right _ z)) fun z=>by
  obtain ⟨hb,e⟩:=uY z
  obtain ⟨f0,f1,f2,_⟩:=hf p.1 hb
  obtain ⟨o,e',d⟩:=ho p.1 hb
  rw [e] at e';cases e'
  exact ⟨e,f0,f1,f2,d⟩
theorem Inv.unpinned {pins pl:List (Addr×Obj)} {σ:St} {H:Hp} {s:Shared} (I:Inv X (pins++pl) σ H s):Inv X pins σ H s:=I.pins_of fun p hp=>I.pin p (List.mem_append_right _ (List.mem_append_left _ hp))
theorem Cp {iter:Expr} {body:List Stmt} {wi:TI} {g:TG} {tb:TS} {pos:Pos} (hp:PassesOwn (model X.prog X.w) X.A X.env X.xe) (hc:X.calm=true) (hi:PI X tg iter wi) (hg:PG X tg g) (hb:PSs X body tb)
   (hs:∀ x,foldedSetIterable iter X.env x=pure x:=by intro _;rfl):PS X (.For tg iter body [] pos) (gu wi g tb):=by
 intro pins s σ H D I h
 refine wpAny_For (thn (hi pins s σ H _ I h) fun v s1 h1=>thn h1 fun itv s2 h2=>?_) hs
 obtain ⟨it,fp,tn,J,H2,e,I2,T,st2,f2,W,⟨m0,w0⟩,turn⟩:=h2
 subst e
 have stat:∀ {H':Hp},(∀ b∈fp,H' b=none)→∀ b∈fp,jl X pins H' b:=fun hn b hb=>⟨hn b hb,(f2 b hb).2⟩
 refine codeAny_forLoop_any (fun n s'=>∃ i σ' H',Inv X pins σ' H' s'∧tn i s'.heap∧(∀ b∈fp,H' b=none)∧W i n σ' H') ?_ m0 ⟨0,σ,H2,I2,st2,fun b hb=>(f2 b hb).1,w0⟩
 rintro n s3 ⟨i,σ3,H3,I3,st3,fr3,w3⟩
 rcases turn i n σ3 H3 w3 with ⟨stop,qn⟩ | ⟨go,N,hN,step⟩
 · refine wpAny_passesOwn hp (thn (T.done X rfl rfl rfl hc i pins s3 σ3 H3 X.xe I3 (stat fr3) st3 stop) fun r s4 ⟨hr,I4⟩=>?_)
   subst hr
   exact wpAny_execs_nil ⟨σ3,H3,I4,qn⟩
 · refine wpAny_passesOwn hp (thn (T.item X rfl rfl rfl hc i pins s3 σ3 H3 X.xe I3 (stat fr3) st3 go) fun r s4 ⟨u,hr,h4⟩=>?_)
   subst hr
   refine wpAny_passesOwn hp (thn h4 fun _ s5 ⟨x,H5,I5,r5,y5,st5,fr5⟩=>?_)
   have I5':=I5.pinned (stat fr5) (T.obj _ _ st5)
   refine wpAny_passesOwn hp (thn (hg _ s5 σ3 H5 x u _ I5' r5 (step x H5 y5)) fun _ s6 ⟨σ6,H6,I6,q6⟩=>?_)
   refine wpAny_passesOwn hp (thn (hb _ s6 σ6 H6 _ I6 q6) fun f s7 q7=>?_)
   have again:∀ {σ7:St} {H7:Hp},Inv X (pins++jd fp s5.heap) σ7 H7 s7→N σ7 H7→∃ m,m<n∧∃ i σ' H',Inv X pins σ' H' s7∧tn i s7.heap∧(∀ b∈fp,H' b=none)∧W i m σ' H':=fun {σ7 H7} I7 n7=>by
    obtain ⟨m',hm,w7⟩:=hN σ7 H7 n7
    refine ⟨m',hm,i+1,σ7,H7,I7.unpinned,T.keep _ _ _ st5 fun b hb o e=>(I7.pin (b,o) (List.mem_append_right _ (List.mem_append_right _ (fT hb e)))).1,fun b hb=>?_,w7⟩
    obtain ⟨o,e,d⟩:=T.obj _ _ st5 b hb
    exact (I7.pin (b,o) (List.mem_append_right _ (List.mem_append_right _ (fT hb e)))).2.1
   cases f with
   | next=>obtain ⟨σ7,H7,I7,n7⟩:=q7;exact again I7 n7
   | cont=>obtain ⟨σ7,H7,I7,n7⟩:=q7;exact again I7 n7
   | brk=>obtain ⟨σ7,H7,I7,q7⟩:=q7;exact ⟨σ7,H7,I7.unpinned,q7⟩
   | ret v=>obtain ⟨x7,σ7,H7,I7,r7,q7⟩:=q7;exact ⟨x7,σ7,H7,I7.unpinned,r7,q7⟩
end
theorem ij {K:W.Frag} {a:Addr} {xs:List V} {g:TG} {tb:TS} {D:fj} {σ:St} {H:Hp} (Pv:Nat→St→Hp→Prop) (h0:Pv 0 σ H) (hl:∀ i σ H,i≤xs.length→Pv i σ H→SqL K H a xs)
   (hs:∀ i x σ H,xs[i]?=some x→Pv i σ H→g x σ H fun σ2 H2=>tb { D with nx:=Pv (i+1),ct:=Pv (i+1),bk:=D.nx } σ2 H2) (hd:∀ σ H,Pv xs.length σ H→D.nx σ H):
   ∃ W:Nat→Nat→St→Hp→Prop,(∃ m,W 0 m σ H)∧∀ i m σ H,W i m σ H→
    ((Itl K a).stop i H∧D.nx σ H)∨((Itl K a).go i H∧∃ N:St→Hp→Prop,(∀ σ' H',N σ' H'→∃ m',m'<m∧W (i+1) m' σ' H')∧∀ x H',(Itl K a).yld i H x H'→g x σ H' fun σ2 H2=>tb { D with nx:=N,ct:=N,bk:=D.nx } σ2 H2):=by
 refine ⟨fun i m σ H=>m=xs.length - i∧i≤xs.length∧Pv i σ H,⟨xs.length,by simp,Nat.zero_le _,h0⟩,?_⟩
 rintro i m σ H ⟨rfl,hi,p⟩
 have q:=hl i σ H hi p
 by_cases hlt:i<xs.length
 · refine .inr ⟨⟨xs,xs[i],q,by simp [hlt]⟩,Pv (i+1),fun σ' H' p'=>⟨xs.length - (i+1),by omega,rfl,hlt,p'⟩,fun x H' y=>?_⟩
   obtain ⟨e,y⟩:=y
   subst e
   exact hs i x σ _ (y xs q) p
 · have e:i=xs.length:=by omega
   subst e
   exact .inl ⟨⟨xs,q,Nat.le_refl _⟩,hd σ H p⟩
theorem zU {K:W.Frag} {a:Addr} {xs:List V} {g:TG} {tb:TS} {D:fj} {σ:St} {H:Hp} (Pv:Nat→St→Hp→Prop) (h0:Pv 0 σ H) (hl:∀ i σ H,i≤xs.length→Pv i σ H→SqT K H a xs)
   (hs:∀ i x σ H,xs[i]?=some x→Pv i σ H→g x σ H fun σ2 H2=>tb { D with nx:=Pv (i+1),ct:=Pv (i+1),bk:=D.nx } σ2 H2) (hd:∀ σ H,Pv xs.length σ H→D.nx σ H):
   ∃ W:Nat→Nat→St→Hp→Prop,(∃ m,W 0 m σ H)∧∀ i m σ H,W i m σ H→
    ((Itt K a).stop i H∧D.nx σ H)∨((Itt K a).go i H∧∃ N:St→Hp→Prop,(∀ σ' H',N σ' H'→∃ m',m'<m∧W (i+1) m' σ' H')∧∀ x H',(Itt K a).yld i H x H'→g x σ H' fun σ2 H2=>tb { D with nx:=N,ct:=N,bk:=D.nx } σ2 H2):=by
 refine ⟨fun i m σ H=>m=xs.length - i∧i≤xs.length∧Pv i σ H,⟨xs.length,by simp,Nat.zero_le _,h0⟩,?_⟩
 rintro i m σ H ⟨rfl,hi,p⟩
 have q:=hl i σ H hi p
 by_cases hlt:i<xs.length
 · refine .inr ⟨⟨xs,xs[i],q,by simp [hlt]⟩,Pv (i+1),fun σ' H' p'=>⟨xs.length - (i+1),by omega,rfl,hlt,p'⟩,fun x H' y=>?_⟩
   obtain ⟨e,y⟩:=y
   subst e
   exact hs i x σ _ (y xs q) p
 · have e:i=xs.length:=by omega
   subst e
   exact .inl ⟨⟨xs,q,Nat.le_refl _⟩,hd σ H p⟩
theorem gG {lo:Int} {n:Nat} {g:TG} {tb:TS} {D:fj} {σ:St} {H:Hp} (Pv:Nat→St→Hp→Prop) (h0:Pv 0 σ H)
   (hs:∀ i σ H,i<n→Pv i σ H→g (.int (lo+i)) σ H fun σ2 H2=>tb { D with nx:=Pv (i+1),ct:=Pv (i+1),bk:=D.nx } σ2 H2) (hd:∀ σ H,Pv n σ H→D.nx σ H):
   ∃ W:Nat→Nat→St→Hp→Prop,(∃ m,W 0 m σ H)∧∀ i m σ H,W i m σ H→
    ((Itr lo n).stop i H∧D.nx σ H)∨((Itr lo n).go i H∧∃ N:St→Hp→Prop,(∀ σ' H',N σ' H'→∃ m',m'<m∧W (i+1) m' σ' H')∧∀ x H',(Itr lo n).yld i H x H'→g x σ H' fun σ2 H2=>tb { D with nx:=N,ct:=N,bk:=D.nx } σ2 H2):=by
 refine ⟨fun i m σ H=>m=n - i∧i≤n∧Pv i σ H,⟨n,by simp,Nat.zero_le _,h0⟩,?_⟩
 rintro i m σ H ⟨rfl,hi,p⟩
 by_cases hlt:i<n
 · refine .inr ⟨hlt,Pv (i+1),fun σ' H' p'=>⟨n - (i+1),by omega,rfl,hlt,p'⟩,fun x H' y=>?_⟩
   obtain ⟨e,y⟩:=y
   subst e y
   exact hs i σ _ hlt p
 · have e:i=n:=by omega
   subst e
   exact .inl ⟨Nat.le_refl _,hd σ H p⟩
abbrev R2:=V→V→Hp→VK→Prop
def OpR (X:Cx) (f:Value→Value→Sem Value) (r:R2):Prop:=
 ∀ (pins:List (Addr×Obj)) (s:Shared) (σ:St) (H:Hp) (x y:V) (v u:Value) (Q:VK),Inv X pins σ H s→aX x v→aX y u→r x y H Q→
  wpAny (model X.prog X.w) X.A (f v u) (EP X pins σ Q) X.xe s
def UnR (X:Cx) (f:Value→Sem Value) (r:V→Hp→VK→Prop):Prop:=
 ∀ (pins:List (Addr×Obj)) (s:Shared) (σ:St) (H:Hp) (x:V) (v:Value) (Q:VK),Inv X pins σ H s→aX x v→r x H Q→
  wpAny (model X.prog X.w) X.A (f v) (EP X pins σ Q) X.xe s
def bx (X:Cx) (f:Value) (r:List V→Hp→VK→Prop):Prop:=
 ∀ (pins:List (Addr×Obj)) (s:Shared) (σ:St) (H:Hp) (xs:List V) (us:List Value) (Q:VK),Inv X pins σ H s→bc xs us→r xs H Q→
  wpAny (model X.prog X.w) X.A (call f us) (EP X pins σ Q) X.xe s
def Jf (X:Cx) (r:V→Hp→(Bool→Hp→Prop)→Prop):Prop:=
 ∀ (pins:List (Addr×Obj)) (s:Shared) (σ:St) (H:Hp) (x:V) (v:Value) (Q:Bool→Hp→Prop),Inv X pins σ H s→aX x v→r x H Q→
  wpAny (model X.prog X.w) X.A (truthy v) (TP X pins σ Q) X.xe s
def tOp (r:R2) (ta tb:TE):TE:=fun σ H Q=>ta σ H fun x H1=>tb σ H1 fun y H2=>r x y H2 Q
def tUn (r:V→Hp→VK→Prop) (ta:TE):TE:=fun σ H Q=>ta σ H fun x H1=>r x H1 Q
def rI (C:Int→Int→Prop) (g:Int→Int→V):R2:=fun x y H Q=>∃ i j,x=.int i∧y=.int j∧C i j∧Q (g i j) H
def rI0 (g:Int→Int→V):R2:=fun x y H Q=>∃ i j,x=.int i∧y=.int j∧Q (g i j) H
def rU (g:Int→V):V→Hp→VK→Prop:=fun x H Q=>∃ i,x=.int i∧Q (g i) H
section
variable {X:Cx} {a b c:Expr} {ta tb tc:TE} {pos:Pos}
theorem vF (ha:PE X a ta) (hb:PE X b tb) {pins:List (Addr×Obj)} {s:Shared} {σ:St} {H:Hp} {R:V→V→Hp→Prop} (I:Inv X pins σ H s)
  (h:ta σ H fun x H1=>tb σ H1 fun y H2=>R x y H2) {Q:Value→Shared→Prop} {f:Value→Value→Sem Value}
  (hf:∀ v u s2 x y H2,Inv X pins σ H2 s2→aX x v→aX y u→R x y H2→wpAny (model X.prog X.w) X.A (f v u) Q X.xe s2):
  wpAny (model X.prog X.w) X.A (eval a X.env) (fun v s₁=>wpAny (model X.prog X.w) X.A (eval b X.env) (fun u s₂=>wpAny (model X.prog X.w) X.A (f v u) Q X.xe s₂) X.xe s₁) X.xe s:=by
 refine thn (ha pins s σ H _ I h) fun v s1 ⟨x,H1,I1,r1,q1⟩=>?_
 refine thn (hb pins s1 σ H1 _ I1 q1) fun u s2 ⟨y,H2,I2,r2,q2⟩=>?_
 exact hf v u s2 x y H2 I2 r1 r2 q2
theorem GQ {op:Operator} {r:R2} (ho:OpR X (binaryOp op) r) (ha:PE X a ta) (hb:PE X b tb):PE X (.BinOp a op b pos) (tOp r ta tb):=by
 intro pins s σ H Q I h
 exact wpAny_BinOp (vF ha hb I h fun v u s2 x y H2 I2 rx ry q=>ho pins s2 σ H2 x y v u Q I2 rx ry q)
theorem HC {op:UnaryOp} {r:V→Hp→VK→Prop} (ho:UnR X (unaryOp op) r) (ha:PE X a ta):PE X (.UnaryOp op a pos) (tUn r ta):=by
 intro pins s σ H Q I h
 exact UnaryOp_ (thn (ha pins s σ H _ I h) fun v s1 ⟨x,H1,I1,r1,q1⟩=>ho pins s1 σ H1 x v Q I1 r1 q1)
theorem opI {f:Value→Value→Sem Value} {C:Int→Int→Prop} {g:Int→Int→Int}
  (rule:∀ (i j:Int) (t u:Tok) (s:Shared) (Q:Value→Shared→Prop) (E:Value→Shared→Prop),C i j→Q (.int (g i j) s.toks) { s with toks:=s.toks+1 }→wpAny (model X.prog X.w) X.A (f (.int i t) (.int j u)) Q E s):
  OpR X f (rI C fun i j=> .int (g i j)):=by
 intro pins s σ H x y v u Q I rx ry h
 obtain ⟨i,j,rfl,rfl,hc,q⟩:=h
 obtain ⟨t,rfl⟩:=rx
 obtain ⟨t',rfl⟩:=ry
 exact rule i j t t' s _ _ hc ⟨.int (g i j),H,I.tok _,⟨_,rfl⟩,q⟩
theorem sH {f:Value→Value→Sem Value} {g:Int→Int→Int}
  (rule:∀ (i j:Int) (t u:Tok) (s:Shared) (Q:Value→Shared→Prop) (E:Value→Shared→Prop),Q (.int (g i j) s.toks) { s with toks:=s.toks+1 }→wpAny (model X.prog X.w) X.A (f (.int i t) (.int j u)) Q E s):
  OpR X f (rI0 fun i j=> .int (g i j)):=by
 intro pins s σ H x y v u Q I rx ry h
 obtain ⟨i,j,rfl,rfl,q⟩:=h
 obtain ⟨t,rfl⟩:=rx
 obtain ⟨t',rfl⟩:=ry
 exact rule i j t t' s _ _ ⟨.int (g i j),H,I.tok _,⟨_,rfl⟩,q⟩
theorem xI {f:Value→Value→Sem Value} {g:Int→Int→Bool}
  (rule:∀ (i j:Int) (t u:Tok) (s:Shared) (Q:Value→Shared→Prop) (E:Value→Shared→Prop),Q (.bool (g i j)) s→wpAny (model X.prog X.w) X.A (f (.int i t) (.int j u)) Q E s):
  OpR X f (rI0 fun i j=> .bl (g i j)):=by
 intro pins s σ H x y v u Q I rx ry h
 obtain ⟨i,j,rfl,rfl,q⟩:=h
 obtain ⟨t,rfl⟩:=rx
 obtain ⟨t',rfl⟩:=ry
 exact rule i j t t' s _ _ ⟨.bl (g i j),H,I,rfl,q⟩
def Ck (i j:Int):Prop:=0≤j∧j≤1000000∧i.natAbs<2^64
theorem rE (k:Nat):(0:Int)≤2^k:=by
 rw [two_pow_cast]
 exact Int.natCast_nonneg _
theorem Ca:OpR X (binaryOp .Add) (rI0 fun i j=> .int (i+j)):=sH fun _ _ _ _ _ _ _ q=>add_int q
theorem DW:OpR X (binaryOp .Sub) (rI0 fun i j=> .int (i - j)):=sH fun _ _ _ _ _ _ _ q=>sub_int q
theorem Br:OpR X (binaryOp .Mod) (rI (fun _ j=>0<j) fun i j=> .int (i%j)):=opI fun i j _ _ _ _ _ hc q=>by
 have h1:(0:Int)<j:=hc
 exact mod_int' (by omega) (by rw [Int.fmod_eq_emod_of_nonneg i (by omega)];exact q)
theorem Cr:OpR X (binaryOp .Pow) (rI Ck fun i j=> .int (i^j.toNat)):=opI fun _ _ _ _ _ _ _ hc q=>pow_int_small hc.1 hc.2.1 hc.2.2 q
theorem Bx:OpR X (binaryOp .LShift) (rI Ck fun i j=> .int (i*2^j.toNat)):=opI fun _ _ _ _ _ _ _ hc q=>lshift_int_small hc.1 hc.2.1 hc.2.2 q
theorem CP:OpR X (binaryOp .RShift) (rI (fun _ j=>0≤j) fun i j=> .int (i/2^j.toNat)):=opI fun i j _ _ _ _ _ hc q=>
 rshift_int hc (by rw [Int.fdiv_eq_ediv_of_nonneg i (rE _)];exact q)
theorem Bm:OpR X (binaryOp .BitAnd) (rI0 fun i j=> .int (Builtin.bitAnd i j)):=sH fun _ _ _ _ _ _ _ q=>and_int q
theorem CT:OpR X (binaryOp .BitXor) (rI0 fun i j=> .int (Builtin.bitXor i j)):=sH fun _ _ _ _ _ _ _ q=>xor_int q
theorem unI {f:Value→Sem Value} {g:Int→Int}
  (rule:∀ (i:Int) (t:Tok) (s:Shared) (Q:Value→Shared→Prop) (E:Value→Shared→Prop),Q (.int (g i) s.toks) { s with toks:=s.toks+1 }→wpAny (model X.prog X.w) X.A (f (.int i t)) Q E s):
  UnR X f (rU fun i=> .int (g i)):=by
 intro pins s σ H x v Q I rx h
 obtain ⟨i,rfl,q⟩:=h
 obtain ⟨t,rfl⟩:=rx
 exact rule i t s _ _ ⟨.int (g i),H,I.tok _,⟨_,rfl⟩,q⟩
theorem Dv:UnR X (unaryOp .USub) (rU fun i=> .int (-i)):=unI fun _ _ _ _ _ q=>neg_int q
end
def BP:V→V→Bool
 | .non,.non=>true | .non,.int _=>true | .int _,.non=>true | .non,.bl _=>true | .bl _,.non=>true | .non,.str _=>true | .str _,.non=>true
 | .int _,.int _=>true | .bl _,.bl _=>true | .str _,.str _=>true | .byt _,.byt _=>true
 | .int _,.str _=>true | .str _,.int _=>true | .bl _,.str _=>true | .str _,.bl _=>true
 | _,_=>false
def rEq:R2:=fun x y H Q=>BP x y=true∧Q (.bl (decide (x=y))) H
def rNe:R2:=fun x y H Q=>BP x y=true∧Q (.bl (!decide (x=y))) H
theorem qV {i j:Int}:decide (V.int i=V.int j)=(i==j):=by
 rw [Bool.eq_iff_iff]
 simp
theorem tY {i j:Bool}:decide (V.bl i=V.bl j)=(i==j):=by
 rw [Bool.eq_iff_iff]
 simp
theorem qz {i j:Str}:decide (V.str i=V.str j)=(i==j):=by
 rw [Bool.eq_iff_iff]
 simp
theorem rh {i j:Array UInt8}:decide (V.byt i=V.byt j)=(i.toList==j.toList):=by
 rw [Bool.eq_iff_iff]
 cases i
 cases j
 simp
section
variable {X:Cx} {a b c:Expr} {ta tb tc:TE} {pos:Pos}
theorem bo {pins:List (Addr×Obj)} {σ:St} {H:Hp} {s:Shared} {Q:VK} {k k':Bool} (I:Inv X pins σ H s) (q:Q (.bl k) H) (e:k=k'):EP X pins σ Q (.bool k') s:=by
 subst e
 exact ⟨.bl k,H,I,rfl,q⟩
theorem Hr : OpR X (compareOp .Eq) rEq := by
  intro pins s σ H x y v u Q I rx ry h
  obtain ⟨hs, q⟩ := h
  cases x with
  | non =>
    cases rx
    cases y with
    | non => cases ry; exact PySem.EqNone.eq_none_none (bo I q (by simp))
    | bl j => cases ry; exact PySem.EqNone.eq_none_bool (bo I q (by simp))
    | int j => obtain ⟨t', rfl⟩ := ry; exact PySem.EqNone.eq_none_int (bo I q (by simp))
    | str j => obtain ⟨t', rfl⟩ := ry; exact PySem.EqNone.eq_none_str (bo I q (by simp))
    | _ => exact absurd (show false = true from hs) Bool.false_ne_true
  | bl i =>
    cases rx
    cases y with
    | non => cases ry; exact PySem.EqNone.eq_bool_none (bo I q (by simp))
    | bl j => cases ry; exact eq_bool (bo I q tY)
    | str j => obtain ⟨t', rfl⟩ := ry; exact PySem.EqMixed.eq_bool_str (bo I q (by simp))
    | _ => exact absurd (show false = true from hs) Bool.false_ne_true
  | int i =>
    obtain ⟨t, rfl⟩ := rx
    cases y with
    | non => cases ry; exact PySem.EqNone.eq_int_none (bo I q (by simp))
    | int j => obtain ⟨t', rfl⟩ := ry; exact eq_int (bo I q qV)
    | str j => obtain ⟨t', rfl⟩ := ry; exact PySem.EqMixed.eq_int_str (bo I q (by simp))
    | _ => exact absurd (show false = true from hs) Bool.false_ne_true
  | str i =>
    obtain ⟨t, rfl⟩ := rx
    cases y with
    | non => cases ry; exact PySem.EqNone.eq_str_none (bo I q (by simp))
    | bl j => cases ry; exact PySem.EqMixed.eq_str_bool (bo I q (by simp))
    | int j => obtain ⟨t', rfl⟩ := ry; exact PySem.EqMixed.eq_str_int (bo I q (by simp))
    | str j => obtain ⟨t', rfl⟩ := ry; exact eq_str (bo I q qz)
    | _ => exact absurd (show false = true from hs) Bool.false_ne_true
  | byt i =>
    obtain ⟨t, rfl⟩ := rx
    cases y with
    | byt j => obtain ⟨t', rfl⟩ := ry; exact W.eq_bytes (bo I q rh)
    | _ => exact absurd (show false = true from hs) Bool.false_ne_true
  | _ => cases y <;> exact absurd (show false = true from hs) Bool.false_ne_true
theorem Gp : OpR X (compareOp .NotEq) rNe := by
  intro pins s σ H x y v u Q I rx ry h
  obtain ⟨hs, q⟩ := h
  cases x with
  | non =>
    cases rx
    cases y with
    | non => cases ry; exact PySem.EqNone.ne_none_none (bo I q (by simp))
    | bl j => cases ry; exact PySem.EqNone.ne_none_bool (bo I q (by simp))
    | int j => obtain ⟨t', rfl⟩ := ry; exact PySem.EqNone.ne_none_int (bo I q (by simp))
    | str j => obtain ⟨t', rfl⟩ := ry; exact PySem.EqNone.ne_none_str (bo I q (by simp))
    | _ => exact absurd (show false = true from hs) Bool.false_ne_true
  | bl i =>
    cases rx
    cases y with
    | non => cases ry; exact PySem.EqNone.ne_bool_none (bo I q (by simp))
    | bl j => cases ry; exact ne_bool (bo I q (congrArg not tY))
    | str j => obtain ⟨t', rfl⟩ := ry; exact PySem.EqMixed.ne_bool_str (bo I q (by simp))
    | _ => exact absurd (show false = true from hs) Bool.false_ne_true
  | int i =>
    obtain ⟨t, rfl⟩ := rx
    cases y with
    | non => cases ry; exact PySem.EqNone.ne_int_none (bo I q (by simp))
    | int j => obtain ⟨t', rfl⟩ := ry; exact ne_int (bo I q (congrArg not qV))
    | str j => obtain ⟨t', rfl⟩ := ry; exact PySem.EqMixed.ne_int_str (bo I q (by simp))
    | _ => exact absurd (show false = true from hs) Bool.false_ne_true
  | str i =>
    obtain ⟨t, rfl⟩ := rx
    cases y with
    | non => cases ry; exact PySem.EqNone.ne_str_none (bo I q (by simp))
    | bl j => cases ry; exact PySem.EqMixed.ne_str_bool (bo I q (by simp))
    | int j => obtain ⟨t', rfl⟩ := ry; exact PySem.EqMixed.ne_str_int (bo I q (by simp))
    | str j => obtain ⟨t', rfl⟩ := ry; exact ne_str (bo I q (congrArg not qz))
    | _ => exact absurd (show false = true from hs) Bool.false_ne_true
  | byt i =>
    obtain ⟨t, rfl⟩ := rx
    cases y with
    | byt j => obtain ⟨t', rfl⟩ := ry; exact W.ne_bytes (bo I q (congrArg not rh))
    | _ => exact absurd (show false = true from hs) Bool.false_ne_true
  | _ => cases y <;> exact absurd (show false = true from hs) Bool.false_ne_true
theorem FR:OpR X (compareOp .Lt) (rI0 fun i j=> .bl (decide (i<j))):=xI fun _ _ _ _ _ _ _ q=>lt_int q
theorem Fw:OpR X (compareOp .LtE) (rI0 fun i j=> .bl (decide (i≤j))):=xI fun _ _ _ _ _ _ _ q=>le_int q
theorem GD:OpR X (compareOp .Gt) (rI0 fun i j=> .bl (decide (j<i))):=xI fun _ _ _ _ _ _ _ q=>gt_int q
theorem AM:OpR X (compareOp .Is) (fun x y H Q=>y=.non∧Q (.bl (decide (x=.non))) H):=by
 intro pins s σ H x y v u Q I rx ry h
 obtain ⟨rfl,q⟩:=h
 cases ry
 refine is_none_gen (bo I q ?_)
 cases x <;> first
  | (cases rx;rfl)
  | (obtain ⟨t,rfl⟩:=rx;rfl)
theorem OpR.or {f:Value→Value→Sem Value} {r r':R2} (h:OpR X f r) (h':OpR X f r'):OpR X f (fun x y H Q=>r x y H Q∨r' x y H Q):=by
 intro pins s σ H x y v u Q I rx ry q
 rcases q with q | q
 · exact h pins s σ H x y v u Q I rx ry q
 · exact h' pins s σ H x y v u Q I rx ry q
theorem kN (b:Expr) {op:CmpOp} (h:op≠ .In:=by decide) (h2:op≠ .NotIn:=by decide):behindInMarks op b=false:=by
 have e1:(op==CmpOp.In)=false:=by cases op <;> first | rfl | exact absurd rfl h
 have e2:(op==CmpOp.NotIn)=false:=by cases op <;> first | rfl | exact absurd rfl h2
 cases b <;> simp [behindInMarks,e1,e2]
theorem Af {op:CmpOp} {r:R2} (ho:OpR X (compareOp op) r) (ha:PE X a ta) (hb:PE X b tb) (hm:behindInMarks op b=false):PE X (.Compare a [op] [b] pos) (tOp r ta tb):=by
 intro pins s σ H Q I h
 exact wpAny_Compare1 (vF ha hb I h fun v u s2 x y H2 I2 rx ry q=>ho pins s2 σ H2 x y v u Q I2 rx ry q) hm
def BC (K:W.Frag) (x:V) (H:Hp) (k:Bool):Prop:=
 match x with
 | .non=>k=false
 | .bl b=>k=b
 | .int i=>k=(i !=0)
 | .str y=>y.length≤sizeLine∧k=((y.length:Int) !=0)
 | .byt y=>y.size≤sizeLine∧k=((y.size:Int) !=0)
 | .ref p=>(∃ xs,SqL K H p xs∧k= !xs.isEmpty)∨(∃ xs,SqT K H p xs∧k= !xs.isEmpty)∨∃ kvs,H p=some (.dK kvs)∧k= !kvs.isEmpty
 | _=>False
theorem rW {κ:Type} {kvs:List (κ×V)} {vs:List (κ×Value)} (r:KV kvs vs):(!vs.isEmpty)= !kvs.isEmpty:=by
 cases r <;> rfl
theorem kI {xs:List V} {its:List Value} (r:bc xs its):(!its.toArray.isEmpty)= !xs.isEmpty:=by
 cases r <;> simp
theorem hV:(sizeLine:Nat)<2^63:=by rw [sizeLine_eq];decide
theorem DE : Jf X (fun x H Q => ∃ k, BC X.K x H k ∧ Q k H) := by
  intro pins s σ H x v Q I rx h
  obtain ⟨k, e, q⟩ := h
  have hl := hV
  have hs : sizeLine = 16777216 := sizeLine_eq
  cases x with
  | non =>
    cases rx
    have e' : k = false := e
    subst e'
    exact truthy_none ⟨H, I, q⟩
  | bl b =>
    cases rx
    have e' : k = b := e
    subst e'
    exact wpAny_truthy_bool ⟨H, I, q⟩
  | int i =>
    obtain ⟨t, rfl⟩ := rx
    have e' : k = (i != 0) := e
    subst e'
    exact PySem.P.truthy_int ⟨H, I, q⟩
  | str y =>
    obtain ⟨t, rfl⟩ := rx
    obtain ⟨hy, e'⟩ : y.length ≤ sizeLine ∧ k = ((y.length : Int) != 0) := e
    subst e'
    exact PySem.P.truthy_str (by omega) ⟨H, I.tok _, q⟩
  | byt y =>
    obtain ⟨t, rfl⟩ := rx
    obtain ⟨hy, e'⟩ : y.size ≤ sizeLine ∧ k = ((y.size : Int) != 0) := e
    subst e'
    exact W.truthy_bytes (by omega) ⟨H, I.tok _, q⟩
  | ref p =>
    cases rx
    have e' : (∃ xs, SqL X.K H p xs ∧ k = !xs.isEmpty) ∨ (∃ xs, SqT X.K H p xs ∧ k = !xs.isEmpty) ∨ ∃ kvs, H p = some (.dK kvs) ∧ k = !kvs.isEmpty := e
    rcases e' with ⟨xs, hx, e'⟩ | ⟨xs, hx, e'⟩ | ⟨kvs, hx, e'⟩
    · subst e'
      obtain ⟨its, r, pl, hz⟩ := I.list hx
      have hlen := r.length
      exact wpAny_truthy_list pl.isList (by simp only [List.size_toArray]; omega) ⟨H, I.tok _, by rw [kI r]; exact q⟩
    · subst e'
      obtain ⟨its, r, pl, hz⟩ := I.tuple hx
      have hlen := r.length
      exact truthy_tuple pl (by simp only [List.size_toArray]; omega) ⟨H, I.tok _, by rw [kI r]; exact q⟩
    · subst e'
      obtain ⟨hz, hS, vs, r, m⟩ : kvs.length ≤ sizeLine ∧ (p == sysModules) = false ∧ ∃ vs, KV kvs vs ∧ s.heap.DictOf (ck X.prog X.w) p vs := I.hok p _ hx
      have hlen : kvs.length = vs.length := Paired.length r
      exact wpAny_truthy_dict hS m (by omega) ⟨H, I.tok _, by rw [rW r]; exact q⟩
  | _ => exact (show False from e).elim
theorem sF:OpR X (binaryOp .Add) (fun x y H Q=>∃ i j,x=.str i∧y=.str j∧i.length+j.length≤sizeLine∧Q (.str (i++j)) H):=by
 intro pins s σ H x y v u Q I rx ry h
 obtain ⟨i,j,rfl,rfl,hz,q⟩:=h
 obtain ⟨t,rfl⟩:=rx
 obtain ⟨t',rfl⟩:=ry
 exact add_str (fun t' tk=>⟨.str (i++j),H,I.tok _,⟨_,rfl⟩,q⟩) hz
theorem fH {x:V} {us:List Value} (r:bc [x] us):∃ u,us=[u]∧aX x u:=by
 cases r with
 | cons r1 r2=>cases r2;exact ⟨_,rfl,r1⟩
theorem jT {x y : V} {us : List Value} (r : bc [x, y] us) : ∃ u w', us = [u, w'] ∧ aX x u ∧ aX y w' := by
  cases r with
  | cons r1 r2 =>
    cases r2 with
    | cons r3 r4 => cases r4; exact ⟨_, _, rfl, r1, r3⟩
theorem uR (hc:X.calm=true):bx X (.builtin "max") (fun xs H Q=>∃ i j,xs=[.int i,.int j]∧Q (.int (if j>i then j else i)) H):=by
 intro pins s σ H xs us Q I r h
 obtain ⟨i,j,rfl,q⟩:=h
 obtain ⟨u,w',rfl,⟨t,rfl⟩,⟨t',rfl⟩⟩:=jT r
 refine max_two_ints (I.ok.hd hc) fun h' tk k=>⟨_,H,I.kept k,?_,q⟩
 by_cases hj:j>i
 · rw [if_pos hj,if_pos hj];exact ⟨_,rfl⟩
 · rw [if_neg hj,if_neg hj];exact ⟨_,rfl⟩
theorem vy (hc:X.calm=true):bx X (.builtin "min") (fun xs H Q=>∃ i j,xs=[.int i,.int j]∧Q (.int (if j<i then j else i)) H):=by
 intro pins s σ H xs us Q I r h
 obtain ⟨i,j,rfl,q⟩:=h
 obtain ⟨u,w',rfl,⟨t,rfl⟩,⟨t',rfl⟩⟩:=jT r
 refine min_two_ints (I.ok.hd hc) fun h' tk k=>⟨_,H,I.kept k,?_,q⟩
 by_cases hj:j<i
 · rw [if_pos hj,if_pos hj];exact ⟨_,rfl⟩
 · rw [if_neg hj,if_neg hj];exact ⟨_,rfl⟩
theorem iN:bx X (.type "str") (fun xs H Q=>∃ i,xs=[.int i]∧i.natAbs.log2<1920∧Q (.str (toString i)) H):=by
 intro pins s σ H xs us Q I r h
 obtain ⟨i,rfl,hz,q⟩:=h
 obtain ⟨u,rfl,t,rfl⟩:=fH r
 exact PySem.P.str_of_int hz ⟨.str _,H,I.tok _,⟨_,rfl⟩,q⟩
theorem vP:bx X (.builtin "ord") (fun xs H Q=>∃ x,xs=[.str x]∧x.length=1∧Q (.int (x.cps.getD 0 0:Nat)) H):=by
 intro pins s σ H xs us Q I r h
 obtain ⟨x,rfl,hz,q⟩:=h
 obtain ⟨u,rfl,t,rfl⟩:=fH r
 exact ord_of_one hz ⟨.int _,H,I.tok _,⟨_,rfl⟩,q⟩
def ID (K:W.Frag) (x:V) (H:Hp) (n:Nat):Prop:=
 match x with
 | .str y=>y.length≤sizeLine∧n=y.length
 | .byt y=>y.size≤sizeLine∧n=y.size
 | .ref p=>(∃ xs,SqL K H p xs∧n=xs.length)∨∃ xs,SqT K H p xs∧n=xs.length
 | _=>False
theorem kA : bx X (.builtin "len") (fun xs H Q => ∃ x n, xs = [x] ∧ ID X.K x H n ∧ Q (.int n) H) := by
  intro pins s σ H xs us Q I r h
  obtain ⟨x, n, rfl, e, q⟩ := h
  obtain ⟨u, rfl, rx⟩ := fH r
  have hl := hV
  have hs : sizeLine = 16777216 := sizeLine_eq
  cases x with
  | str y =>
    obtain ⟨t, rfl⟩ := rx
    obtain ⟨hy, e'⟩ : y.length ≤ sizeLine ∧ n = y.length := e
    subst e'
    exact len_str (by omega) ⟨.int _, H, I.tok _, ⟨_, rfl⟩, q⟩
  | byt y =>
    obtain ⟨t, rfl⟩ := rx
    obtain ⟨hy, e'⟩ : y.size ≤ sizeLine ∧ n = y.size := e
    subst e'
    exact W.len_bytes (by omega) ⟨.int _, H, I.tok _, ⟨_, rfl⟩, q⟩
  | ref p =>
    cases rx
    have e' : (∃ xs, SqL X.K H p xs ∧ n = xs.length) ∨ ∃ xs, SqT X.K H p xs ∧ n = xs.length := e
    rcases e' with ⟨xs, hx, e'⟩ | ⟨xs, hx, e'⟩
    · subst e'
      obtain ⟨its, r', pl, hz⟩ := I.list hx
      have hlen := r'.length
      exact Calls.call_len_list pl.isList (by simp only [List.size_toArray]; omega) ⟨.int xs.length, H, I.tok _, ⟨_, by simp only [List.size_toArray]; rw [hlen]⟩, q⟩
    · subst e'
      obtain ⟨its, r', pl, hz⟩ := I.tuple hx
      have hlen := r'.length
      exact len_tuple pl (by simp only [List.size_toArray]; omega) ⟨.int xs.length, H, I.tok _, ⟨_, by simp only [List.size_toArray]; rw [hlen]⟩, q⟩
  | _ => exact (show False from e).elim
end
structure kz (h:Heap) (x dx C:Addr) (mA:Str→Option Value):Prop where
 obj:h.get? x=some (W.instObj C dx)
 ns:h.Ns1 dx mA
 ne:dx≠x
theorem mP {h:Heap} {dx:Addr} {mA:Str→Option Value} (n:h.Ns1 dx mA):∃ od,h.get? dx=some od∧∀ name,W.lookIn name od=some (mA name):=by
 obtain ⟨o,es,ep,ho,hd,hk,_,hm⟩:=n
 refine ⟨o,ho,fun name=>?_⟩
 have e:=hm name
 unfold nsFind findBy at e
 rw [← Array.find?_toList] at e
 unfold W.lookIn
 rw [hd]
 dsimp only
 split
 · rename_i y q
   rw [q] at e
   exact congrArg some e
 · rename_i q
   rw [q] at e
   have a:es.toList.any (·.refKey)=false:=by
    rw [List.any_eq_false]
    intro y hy
    obtain ⟨z,t,hkey⟩:=hk y (Array.mem_toList_iff.mp hy)
    simp [DictEntry.refKey,hkey]
   have a':¬ es.toList.any (·.refKey)=true:=by rw [a];exact Bool.false_ne_true
   rw [if_neg a']
   exact congrArg some e
theorem kz.look {h:Heap} {x dx C:Addr} {mA:Str→Option Value} (I:kz h x dx C mA):∃ od,W.InstAt h x (W.instObj C dx) C (some od)∧∀ name,W.lookIn name od=some (mA name):=
 let ⟨od,ho,hl⟩:=mP I.ns
 ⟨od,⟨I.obj,rfl,rfl,ho⟩,hl⟩
section
variable {prog:Program} {w:World} {A:Around} {E:Value→Shared→Prop} {s:Shared} {K:W.Frag} {x dx C f:Addr} {mA:Str→Option Value} {name:Str} {v:Value}
theorem zy {expr:Bool} {Q:Value→Shared→Prop} (X:K.In s.heap) (I:kz s.heap x dx C mA) (hg:W.plainGet K C name=true) (hh:W.hasDictIn K C=true)
  (ha:W.findIn K (.ref C) name=some none) (hv:mA name=some v) (hv':W.handedIn v=true) (h:Q v { s with toks:=s.toks+1 }):
  wpAny (model prog w) A (getAttr (.ref x) name expr) Q E s:=by
 obtain ⟨od,J,hl⟩:=I.look
 exact W.get_value X J (W.plainGet_of hg).1 (W.findObj_own hh ha rfl (by rw [hl,hv])) hv' h
theorem xp {pl:Sem Bool} {Q:Value×List Value→Shared→Prop} (X:K.In s.heap) (I:kz s.heap x dx C mA) (hg:W.plainGet K C name=true)
  (hf:W.findIn K (.ref C) name=some (some (.ref f))) (ht:W.isFn K (.ref f)=true) (hv:mA name=none) (h:Q (.ref f,[.ref x]) s):
  wpAny (model prog w) A (getMethod (.ref x) name pl) Q E s:=by
 obtain ⟨od,J,hl⟩:=I.look
 exact W.method_fn X J (W.plainGet_of hg).1 (W.plainGet_of hg).2 hf (beq_iff_eq.mp ht) (by show (W.lookIn name od).map (·.isSome)=some false;rw [hl,hv];rfl) h
theorem Ap {ns:List Str} {Q:Unit→Shared→Prop} (X:K.In s.heap) (I:kz s.heap x dx C mA)
  (hs:W.findIn K (.ref C) "__setattr__" =some (some (.builtin "object.__setattr__"))) (hp:W.plainOver K C=true) (ht:W.takerIn K C name=some none) (hh:W.hasDictIn K C=true)
  (hw:PySem.Within mA ns) (hsz:ns.length≤sizeLine)
  (h:∀ h',kz h' x dx C (fun y=>if y=name then some v else mA y)→Heap.SameBut dx s.heap h'→Q () { s with heap:=h',toks:=s.toks+2 }):
  wpAny (model prog w) A (setAttr (.ref x) name v) Q E s:=by
 obtain ⟨od,J,hl⟩:=I.look
 refine W.set_plain X J hs (W.osa_open (s:={ s with toks:=s.toks+1 }) (r:=none) X J hp ht fun b=>?_)
 obtain ⟨cd,hc,hd'⟩:=W.any_some hh
 have hx:s.heap.get? x=some ⟨.ref C,some dx,.plain,#[]⟩:=I.obj
 refine wpAny_bind (wpAny_pure (wpAny_bind (wpAny_bind (wpAny_loadPart hx (wpAny_bind (W.Looks.here (s:={ s with toks:=s.toks+1 }) (W.looks_clsIn X hc) ?_))))))
 rw [hd']
 refine wpAny_pure (a:=some dx) (wpAny_bind (wpAny_pure (wpAny_bind ?_)))
 refine wpAny_nsSet1 (s:={ s with toks:=s.toks+1 }) I.ns fun h' hn2 hs2=>?_
 obtain ⟨oD,esD,epD,hoD,hdD,hcD⟩:=hn2.count (PySem.Within.cons name v hw)
 refine wpAny_bind (wpAny_lookBehind hoD (by rw [hdD];exact pastItsLine_dict (Nat.le_trans hcD (by rw [List.length_cons];omega))) ?_)
 exact wpAny_pure (h _ ⟨(hs2.2 _ (Ne.symm I.ne)).trans I.obj,hn2,I.ne⟩ hs2)
theorem we {R : Result → Shared → Prop} {vs : List Value} {kw : List (Str × Value)} (X : K.In s.heap) (hm : W.makesIn K C = true)
  (hi : W.findIn K (.ref C) "__init__" = some (some (.ref f))) (hf : W.typeIn K (.ref f) = some (.type "function"))
  (h : codeAny (model prog w) (A.under (.builtin "type.__call__" ⟨.ref C :: vs, kw⟩)) (.call (.ref f) ⟨.ref (s.heap.objs.size + 1) :: vs, kw⟩) (W.InitBack (s.heap.objs.size + 1) R)
   { s with heap := (s.heap.push W.emptyDict).push (W.instObj C s.heap.objs.size) }) :
  codeAny (model prog w) A (.call (.ref C) ⟨vs, kw⟩) R s := by
 obtain ⟨hh, g, d, t, os⟩ := s
 exact W.make_core (W.makes_of X hm) (W.looks_findIn X hi) (fun self => W.bind_fn X self hf) (.inl rfl) h
end
def cF (f:Str) (v:V):List (Str×V)→List (Str×V)
 | []=>[(f,v)]
 | (g,x)::r=>if g=f then (g,v)::r else (g,x)::cF f v r
theorem gI (f g : Str) (v : V) : ∀ fs : List (Str × V), (cF f v fs).lookup g = if g = f then some v else fs.lookup g
  | [] => by
    show List.lookup g [(f, v)] = _
    by_cases h : g = f
    · have hb : (g == f) = true := beq_iff_eq.mpr h
      simp only [List.lookup, hb, if_pos h]
    · have hb : (g == f) = false := beq_eq_false_iff_ne.mpr h
      simp only [List.lookup, hb, if_neg h]
  | (k, x) :: r => by
    have ih := gI f g v r
    rw [show cF f v ((k, x) :: r) = (if k = f then (k, v) :: r else (k, x) :: cF f v r) from rfl]
    by_cases hk : k = f
    · rw [if_pos hk]
      by_cases h : g = k
      · have hb : (g == k) = true := beq_iff_eq.mpr h
        simp only [List.lookup, hb, if_pos (h.trans hk)]
      · have hb : (g == k) = false := beq_eq_false_iff_ne.mpr h
        simp only [List.lookup, hb, if_neg (fun e : g = f => h (e.trans hk.symm))]
    · rw [if_neg hk]
      by_cases h : g = k
      · have hb : (g == k) = true := beq_iff_eq.mpr h
        simp only [List.lookup, hb, if_neg (fun e : g = f => hk (h.symm.trans e))]
      · have hb : (g == k) = false := beq_eq_false_iff_ne.mpr h
        simp only [List.lookup, hb]
        exact ih
theorem jm (f : Str) (v : V) : ∀ fs : List (Str × V), f ∈ (cF f v fs).map (·.1) ∧ ∀ g, g ∈ fs.map (·.1) → g ∈ (cF f v fs).map (·.1)
  | [] => ⟨by simp [cF], fun g h => by simp at h⟩
  | (k, x) :: r => by
    obtain ⟨i1, i2⟩ := jm f v r
    rw [show cF f v ((k, x) :: r) = (if k = f then (k, v) :: r else (k, x) :: cF f v r) from rfl]
    by_cases hk : k = f
    · rw [if_pos hk]
      subst hk
      exact ⟨by simp, fun g h => by simpa using h⟩
    · rw [if_neg hk]
      refine ⟨?_, fun g h => ?_⟩
      · rw [List.map_cons]
        exact List.mem_cons_of_mem _ i1
      · rw [List.map_cons] at h ⊢
        rcases List.mem_cons.mp h with e | e
        · exact List.mem_cons.mpr (.inl e)
        · exact List.mem_cons_of_mem _ (i2 g e)
theorem ke (f : Str) (v : V) : ∀ fs : List (Str × V), (cF f v fs).length ≤ fs.length + 1
  | [] => by simp [cF]
  | (k, x) :: r => by
    have ih := ke f v r
    rw [show cF f v ((k, x) :: r) = (if k = f then (k, v) :: r else (k, x) :: cF f v r) from rfl]
    by_cases hk : k = f
    · rw [if_pos hk, List.length_cons, List.length_cons]; omega
    · rw [if_neg hk, List.length_cons, List.length_cons]; omega
theorem cJ.some_of {v:V} {o:Option Value} (r:cJ (some v) o):∃ u,o=some u∧aX v u:=by
 cases o with
 | none=>exact (show False from r).elim
 | some u=>exact ⟨u,rfl,r⟩
theorem cJ.none_of {o:Option Value} (r:cJ none o):o=none:=by
 cases o with
 | none=>rfl
 | some u=>exact (show False from r).elim
theorem mq {v:V} {u:Value} (r:aX v u):W.handedIn u=true:=by
 cases v with
 | non=>cases (show u=Value.none from r);rfl
 | bl b=>cases (show u=Value.bool b from r);rfl
 | int i=>obtain ⟨t,e⟩:=(show ∃ t,u=Value.int i t from r);cases e;rfl
 | str x=>obtain ⟨t,e⟩:=(show ∃ t,u=Value.str x t from r);cases e;rfl
 | byt b=>obtain ⟨t,e⟩:=(show ∃ t,u=Value.bytes b t from r);cases e;rfl
 | flt b=>obtain ⟨t,e⟩:=(show ∃ t,u=Value.float b t from r);cases e;rfl
 | ref a=>cases (show u=Value.ref a from r);rfl
 | ty n=>cases (show u=Value.type n from r);rfl
section
variable {P:Program} {w:World} {H H':Hp} {h h':Heap} {a C dx:Addr} {fs fs':List (Str×V)}
theorem gT (hok:HOk P w H h) (e:H a=some (.ins C dx fs)):∃ mA,kz h a dx C mA∧(∀ f,cJ (fs.lookup f) (mA f))∧PySem.Within mA (fs.map (·.1))∧fs.length≤1000∧H dx=some (.own a):=by
 obtain ⟨d,z,ne,ob,mA,n,r,q⟩:=(show aZ P w H h a (.ins C dx fs) from hok a _ e)
 exact ⟨mA,⟨ob,n,ne⟩,r,q,z,d⟩
end
structure Cls (K:W.Frag) (C:Addr):Prop where
 pg:W.plainGet K C Str.empty=true
 hd:W.hasDictIn K C=true
 po:W.plainOver K C=true
 sa:W.findIn K (.ref C) "__setattr__" =some (some (.builtin "object.__setattr__"))
theorem Cls.get {K:W.Frag} {C:Addr} (c:Cls K C) (f:Str):W.plainGet K C f=true:=c.pg
def bU (K:W.Frag) (C:Addr) (f:Str):Prop:=W.findIn K (.ref C) f=some none
theorem bU.taker {K:W.Frag} {C:Addr} {f:Str} (n:bU K C f):W.takerIn K C f=some none:=by
 unfold W.takerIn
 rw [show W.findIn K (.ref C) f=some none from n]
 rfl
structure xl (K:W.Frag) (C:Addr) (m:Str) (f:Addr):Prop where
 at_:W.findIn K (.ref C) m=some (some (.ref f))
 fn:W.isFn K (.ref f)=true
 kp:W.keepIn K (.ref f)=true
section
variable {X:Cx} {pins:List (Addr×Obj)} {σ:St} {H:Hp} {s:Shared} {a C dx:Addr} {fs:List (Str×V)} {f:Str} {v:V} {A:Around} {E:Value→Shared→Prop}
theorem tK {b:Bool} {Q:Value→Shared→Prop} (I:Inv X pins σ H s) (e:H a=some (.ins C dx fs)) (c:Cls X.K C) (n:bU X.K C f) (l:fs.lookup f=some v)
  (h:∀ u s',Inv X pins σ H s'→aX v u→Q u s'):wpAny (model X.prog X.w) A (getAttr (.ref a) f b) Q E s:=by
 obtain ⟨mA,O,r,_,_,_⟩:=gT I.hok e
 obtain ⟨u,hu,ru⟩:=cJ.some_of (v:=v) (o:=mA f) (by rw [← l];exact r f)
 exact zy I.kIn O (c.get f) c.hd n hu (mq ru) (h u _ (I.tok _) ru)
theorem sB {m:Str} {g:Addr} {pl:Sem Bool} {Q:Value×List Value→Shared→Prop} (I:Inv X pins σ H s) (e:H a=some (.ins C dx fs)) (c:Cls X.K C) (k:xl X.K C m g) (l:fs.lookup m=none)
  (h:Q (.ref g,[.ref a]) s):wpAny (model X.prog X.w) A (getMethod (.ref a) m pl) Q E s:=by
 obtain ⟨mA,O,r,_,_,_⟩:=gT I.hok e
 have hn:mA m=none:=cJ.none_of (by rw [← l];exact r m)
 exact xp I.kIn O (c.get m) k.at_ k.fn hn h
theorem rG {y:V} {u:Value} {Q:Unit→Shared→Prop} (I:Inv X pins σ H s) (e:H a=some (.ins C dx fs)) (c:Cls X.K C) (n:bU X.K C f) (hl:fs.length<1000) (ry:aX y u)
   (h:∀ s',Inv X pins σ (upd H a (.ins C dx (cF f y fs))) s'→Q () s'):wpAny (model X.prog X.w) A (setAttr (.ref a) f u) Q E s:=by
 obtain ⟨mA,O,r,wi,_,ho⟩:=gT I.hok e
 have hz:(fs.map (·.1)).length≤sizeLine:=by rw [List.length_map,sizeLine_eq];omega
 refine Ap I.kIn O c.sa c.po n.taker c.hd wi hz fun h' O' sb=>h _ ?_
 have hd:∃ o,h'.get? dx=some o:=let ⟨o,_,_,e',_⟩:=O'.ns;⟨o,e'⟩
 refine I.write (x:=a) (e:=dx) (by rw [e];exact True.intro) (.inr ho) (fun b q hb z=>(sb.2 b hb).trans z) hd ?_
 refine ⟨by rw [au O.ne];exact ho,?_,O.ne,O'.obj,_,O'.ns,fun g=>?_,fun g hg=>?_⟩
 · have:=ke f y fs;omega
 · show cJ ((cF f y fs).lookup g) (if g=f then some u else mA g)
   rw [gI]
   by_cases q:g=f
   · rw [if_pos q,if_pos q];exact ry
   · rw [if_neg q,if_neg q];exact r g
 · by_cases q:g=f
   · rw [q];exact (jm f y fs).1
   · refine (jm f y fs).2 g (wi g fun z=>hg ?_)
     show (if g=f then some u else mA g)=none
     rw [if_neg q];exact z
theorem Inv.made (I:Inv X pins σ H s):Inv X pins σ (upd (upd H s.heap.objs.size (.own (s.heap.objs.size+1))) (s.heap.objs.size+1) (.ins C s.heap.objs.size []))
  { s with heap:=(s.heap.push W.emptyDict).push (W.instObj C s.heap.objs.size) }:=by
 have e1:(s.heap.push W.emptyDict).get? s.heap.objs.size=some W.emptyDict:=Heap.get?_push_size s.heap rfl
 have e2:((s.heap.push W.emptyDict).push (W.instObj C s.heap.objs.size)).get? (s.heap.objs.size+1)=some (W.instObj C s.heap.objs.size):=by
  have:=Heap.get?_push_size (s.heap.push W.emptyDict) (o:=W.instObj C s.heap.objs.size) rfl
  rwa [Heap.size_push] at this
 have e3:(s.heap.push W.emptyDict).Ns s.heap.objs.size (fun _=>none):=⟨W.emptyDict,#[],_,e1,rfl,(fun e he=>absurd he (by simp)),fun _=>rfl⟩
 have I1:=I.laid (a:=s.heap.objs.size) (o:=.own (s.heap.objs.size+1)) (h':=s.heap.push W.emptyDict) (t':=s.toks) (fun b u q=>Heap.get?_push_of_some _ q) (Nat.le_refl _) ⟨_,e1⟩
 refine I1.laid (a:=s.heap.objs.size+1) (o:=.ins C s.heap.objs.size []) (t':=s.toks) (fun b u q=>Heap.get?_push_of_some _ q) (Nat.le_of_eq (Heap.size_push _ _)) ?_
 have ne:s.heap.objs.size≠s.heap.objs.size+1:=Nat.ne_of_lt (Nat.lt_succ_self _)
 refine ⟨by rw [au ne,aj],Nat.zero_le _,ne,e2,fun _=>none,(Heap.Ns1.of_empty e3).at fun o q=>Heap.get?_push_of_some _ q,fun _=>True.intro,fun y hy=>absurd rfl hy⟩
theorem qJ {prog:Program} {w:World} {env:Env} {e:Expr} {f:Str} {pos:Pos} {s:Shared} {Q:Value→Shared→Prop} (hb:attributeBase e f env (eval e env)=eval e env)
  (h:wpAny (model prog w) A (eval e env) (fun o s₁=>wpAny (model prog w) A (getAttr o f true) Q E s₁) E s):wpAny (model prog w) A (eval (.Attribute e f pos) env) Q E s:=
 Attribute_any_ h (by rw [arm_eval_Attribute,hb])
end
def dC (K:W.Frag) (ta:TE) (f:Str):TE:=fun σ H Q=>ta σ H fun x H1=>∃ a C dx fs v,x=.ref a∧H1 a=some (.ins C dx fs)∧Cls K C∧bU K C f∧fs.lookup f=some v∧Q v H1
def iT (K:W.Frag) (ta tv:TE) (f:Str):TS:=fun D σ H=>tv σ H fun y H1=>ta σ H1 fun x H2=>∃ a C dx fs,x=.ref a∧H2 a=some (.ins C dx fs)∧Cls K C∧bU K C f∧fs.length<1000∧
 D.nx σ (upd H2 a (.ins C dx (cF f y fs)))
section
variable {X:Cx} {o e value:Expr} {f:Str} {pos pos' tpos:Pos} {ta tv:TE}
theorem Cf (he:PE X e ta) (hb:attributeBase e f X.env (eval e X.env)=eval e X.env):PE X (.Attribute e f pos) (dC X.K ta f):=by
 intro pins s σ H Q I h
 refine qJ hb (thn (he pins s σ H _ I h) fun u s1 ⟨x,H1,I1,rx,a,C,dx,fs,v,ex,ea,c,n,l,q⟩=>?_)
 subst ex
 obtain rfl:u=Value.ref a:=rx
 exact tK I1 ea c n l fun u' s2 I2 ru=>⟨v,H1,I2,ru,q⟩
theorem CW (ha:PE X o ta) (hv:PE X value tv) (hs:swapsWith value (some (.Attribute o f pos')) pos.line X.env=pure false):PS X (.Assign [.Attribute o f pos'] value pos) (iT X.K ta tv f):=by
 intro pins s σ H D I h
 refine plainObj_wpAny_Assign_Attribute (thn (hv pins s σ H _ I h) fun u s1 ⟨y,H1,I1,ry,q⟩=>thn (ha pins s1 σ H1 _ I1 q) fun ov s2 ⟨x,H2,I2,rx,a,C,dx,fs,ex,ea,c,n,l,q2⟩=>?_) hs
 subst ex
 obtain rfl:ov=Value.ref a:=rx
 exact rG I2 ea c n l ry fun s3 I3=>⟨σ,_,I3,q2⟩
end
section
variable {X:Cx} {pins:List (Addr×Obj)} {σ:St} {H:Hp} {s:Shared} {A:Around} {E:Value→Shared→Prop} {Q:Value→Shared→Prop} {c:Value} {b:Bool}
inductive fq (K:W.Frag) (H:Hp):V→Value→Prop where
 | non:fq K H .non (.type "NoneType")
 | bl (x:Bool):fq K H (.bl x) (.type "bool")
 | int (i:Int):fq K H (.int i) (.type "int")
 | str (x:Str):fq K H (.str x) (.type "str")
 | flt (x:UInt64):fq K H (.flt x) (.type "float")
 | lst {a:Addr} {xs:List V} (e:H a=some (.lst xs)):fq K H (.ref a) (.type "list")
 | frz {a:Addr} {o:Obj} {xs:List V} (e:H a=some (.frz o (.lst xs))):fq K H (.ref a) (.type "list")
 | tup {a:Addr} {xs:List V} (e:H a=some (.tup xs)):fq K H (.ref a) (.type "tuple")
 | dK {a:Addr} {kvs:List (Key×V)} (e:H a=some (.dK kvs)):fq K H (.ref a) (.type "dict")
 | dT {a:Addr} {kvs:List (List Key×V)} (e:H a=some (.dT kvs)):fq K H (.ref a) (.type "dict")
 | ins {a C dx:Addr} {fs:List (Str×V)} (e:H a=some (.ins C dx fs)) (cl:Cls K C) (ha:W.findIn K (.ref C) "__class__" =some (some (.builtin "object.__class__")))
  (hn:W.specialIn K (.builtin "object.__class__") "__get__" =some (some (.builtin "getset_descriptor.__get__"))) (htk:W.takesIn K (.builtin "object.__class__")=some true)
  (hm:W.mroIn K C (.type "object")=some true):fq K H (.ref a) (.ref C)
theorem vd {x : V} {u t : Value} (I : Inv X pins σ H s) (rx : aX x u) (ty : fq X.K H x t) (e : W.kitOne X.K t c = some b) (h : ∀ tk, Q (.bool b) { s with toks := tk }) :
    wpAny (model X.prog X.w) A (call (.builtin "isinstance") [u, c]) Q E s := by
  cases ty with
  | non => cases (show u = Value.none from rx); exact W.kia_one W.kitx_none I.kIn True.intro e (fun z => nomatch z) h
  | bl y => cases (show u = Value.bool y from rx); exact W.kia_one W.kitx_bool I.kIn True.intro e (fun z => nomatch z) h
  | int i => obtain ⟨t, q⟩ := (show ∃ t, u = Value.int i t from rx); cases q; exact W.kia_one W.kitx_int I.kIn True.intro e (fun z => nomatch z) h
  | str y => obtain ⟨t, q⟩ := (show ∃ t, u = Value.str y t from rx); cases q; exact W.kia_one W.kitx_str I.kIn True.intro e (fun z => nomatch z) h
  | flt y => obtain ⟨t, q⟩ := (show ∃ t, u = Value.float y t from rx); cases q; exact W.kia_one W.kitx_float I.kIn True.intro e (fun z => nomatch z) h
  | @lst a xs ea =>
    cases (show u = Value.ref a from rx)
    obtain ⟨_, _, n, _, h1⟩ := (show aZ X.prog X.w H s.heap a (.lst xs) from I.hok a _ ea)
    exact W.kia_one W.kitx_list I.kIn ⟨_, h1, rfl⟩ e (fun z => nomatch z) h
  | @frz a ob xs ea =>
    cases (show u = Value.ref a from rx)
    obtain ⟨_, _, _, n, _, h1⟩ := (show aZ X.prog X.w H s.heap a (.frz ob (.lst xs)) from I.hok a _ ea)
    exact W.kia_one W.kitx_list I.kIn ⟨_, h1, rfl⟩ e (fun z => nomatch z) h
  | @tup a xs ea =>
    cases (show u = Value.ref a from rx)
    obtain ⟨_, _, _, p⟩ := (show aZ X.prog X.w H s.heap a (.tup xs) from I.hok a _ ea)
    obtain ⟨o, h1, h2, _⟩ := p
    exact W.kia_one W.kitx_tuple I.kIn ⟨o, h1, h2⟩ e (fun z => nomatch z) h
  | @dK a kvs ea =>
    cases (show u = Value.ref a from rx)
    obtain ⟨_, _, vs, _, p⟩ := (show aZ X.prog X.w H s.heap a (.dK kvs) from I.hok a _ ea)
    obtain ⟨o, es, ep, h1, h2, _⟩ := p
    exact W.kia_one W.kitx_dict I.kIn ⟨o, h1, h2.1⟩ e (fun z => nomatch z) h
  | @dT a kvs ea =>
    cases (show u = Value.ref a from rx)
    obtain ⟨_, _, xs, _, o, es, ep, h1, h2, _⟩ := (show aZ X.prog X.w H s.heap a (.dT kvs) from I.hok a _ ea)
    exact W.kia_one W.kitx_dict I.kIn ⟨o, h1, h2.1⟩ e (fun z => nomatch z) h
  | @ins a C dx fs ea cl ha hn htk hm =>
    cases (show u = Value.ref a from rx)
    obtain ⟨mA, O, _⟩ := gT I.hok ea
    obtain ⟨od, J, _⟩ := O.look
    exact W.kia_one (W.kitx_own (cl.get _) cl.hd ha hn htk hm) I.kIn J e (fun z => nomatch z) h
end
structure be (k:Nat) (A:Around):Prop where
 hd:A.handled=none
 dp:A.depth+3*k+5<recursionLimit
 un:A.units+16*k+200<cLine
theorem be.mono {j k:Nat} {A:Around} (r:be k A) (h:j≤k):be j A:=⟨r.hd,by have:=r.dp;omega,by have:=r.un;omega⟩
theorem be.deeper {k:Nat} {A:Around} (r:be (k+1) A) (env:Env):be k (A.deeper env):=
 ⟨r.hd,by have:=r.dp;show A.depth+1+3*k+5<_;omega,by have:=r.un;show A.units+3+16*k+200<_;omega⟩
theorem rL {A:Around} {C:Addr} {us:List Value} {kw:List (Str×Value)}:(A.under (.builtin "type.__call__" ⟨.ref C::us,kw⟩)).depth=A.depth+1:=by
 first | rfl | simp [Around.under,Code.weight,Code.isCreation,Code.isGuard,Code.isCaller,Code.frames,Code.isFrame,guardIds]
theorem rD {A:Around} {C:Addr} {us:List Value} {kw:List (Str×Value)}:(A.under (.builtin "type.__call__" ⟨.ref C::us,kw⟩)).units=A.units+1:=by
 first | rfl | simp [Around.under,Code.cUnits,Code.frames,Code.isFrame]
theorem be.make {k:Nat} {A:Around} (r:be (k+1) A) (C:Addr) (us:List Value) (kw:List (Str×Value)):be k (A.under (.builtin "type.__call__" ⟨.ref C::us,kw⟩)):=
 ⟨r.hd,by have:=r.dp;rw [rL];omega,by have:=r.un;rw [rD];omega⟩
theorem be.depth {k:Nat} {A:Around} (r:be k A):A.depth<recursionLimit:=by have:=r.dp;omega
def al:TA:=fun _ H Q=>Q [] H
def ae (ta:TE) (tr:TA):TA:=fun σ H Q=>ta σ H fun x H1=>tr σ H1 fun xs H2=>Q (x::xs) H2
section
variable {X:Cx} {e:Expr} {es:List Expr} {te:TE} {t:TA} {pos:Pos}
theorem AD:PA X [] al:=fun _ _ _ _ H Q I h=>Calls.spliced_nil ⟨[],H,I,.nil,h⟩
theorem Ao (ha:PE X e te) (hr:PA X es t) (hs:starEach (e::es) X.env=(false,eval e X.env)::starEach es X.env:=by rfl):PA X (e::es) (ae te t):=by
 intro pos pins s σ H Q I h
 rw [hs]
 show wpAny _ _ (spliced ((false,eval e X.env)::backTo pos (starEach es X.env))) _ _ s
 refine Calls.spliced_cons (thn (ha pins s σ H _ I h) fun u s1 ⟨x,H1,I1,r1,q1⟩=>?_)
 exact thn (hr pos pins s1 σ H1 _ I1 q1) fun us s2 ⟨xs,H2,I2,r2,q2⟩=>⟨x::xs,H2,I2,.cons r1 r2,q2⟩
def br (t:TA):TE:=fun σ H Q=>t σ H fun xs H1=>xs.length≤sizeLine∧∀ p,H1 p=none→Q (.ref p) (upd H1 p (.tup xs))
def bJ (t:TA):TE:=fun σ H Q=>t σ H fun xs H1=>xs.length≤sizeLine∧∀ p,H1 p=none→Q (.ref p) (upd H1 p (.lst xs))
theorem Dl {x1} (h:PA X es t):PE X (.Tuple es x1 pos) (br t):=by
 intro pins s σ H Q I hq
 refine wpAny_Tuple_spliced (thn (h pos pins s σ H _ I hq) fun us s1 ⟨xs,H1,I1,r,z,q⟩=>⟨by rw [← r.length];exact z,?_⟩)
 have hf:H1 s1.heap.objs.size=none:=I1.hok.fresh (Nat.le_refl _)
 refine ⟨.ref s1.heap.objs.size,upd H1 s1.heap.objs.size (.tup xs),I1.laid (t':=s1.toks) (fun b u e=>Heap.get?_push_of_some _ e) (Nat.le_refl _) ?_,rfl,q _ hf⟩
 exact ⟨z,us,r,⟨_,Heap.get?_push_size _ rfl,rfl,_,rfl⟩⟩
theorem CN (h:PA X es t):PE X (.List es pos) (bJ t):=by
 intro pins s σ H Q I hq
 refine wpAny_List_spliced (thn (h pos pins s σ H _ I hq) fun us s1 ⟨xs,H1,I1,r,z,q⟩=>⟨by rw [← r.length];exact z,?_⟩)
 have hf:H1 s1.heap.objs.size=none:=I1.hok.fresh (Nat.le_refl _)
 refine ⟨.ref s1.heap.objs.size,upd H1 s1.heap.objs.size (.lst xs),I1.laid (t':=s1.toks) (fun b u e=>Heap.get?_push_of_some _ e) (Nat.le_refl _) ?_,rfl,q _ hf⟩
 exact ⟨z,us,0,r,Heap.get?_push_size _ rfl⟩
end
abbrev Sp:=List V→Hp→VK→XK→Prop
abbrev CXT:=List Env→Hp→Shared→XK→Value→Shared→Prop
structure iA (P:Program) (w:World) (K:W.Frag) (mg:Str→Option Value) (base:Heap) (A:Around) (outer:List Env) (s:Shared) (H:Hp):Prop where
 frames:A.frames=some outer
 mod:Mod K mg base
 bs:∀ b o,base.get? b=some o→s.heap.get? b=some o∧H b=none
 bsz:base.objs.size≤s.heap.objs.size
 funs:s.heap.FunFrames base outer
 frf:∀ b∈frs outer,H b=none
 hok:HOk P w H s.heap
 bare:AllBare s.gens
def CE (outer:List Env) (P:Program) (w:World) (H:Hp) (s:Shared) (Q:VK) (u:Value) (s':Shared):Prop:=
 ∃ v H',s'.os=s.os∧AllBare s'.gens∧Un (frs outer) [] H H' s.heap s'.heap∧HOk P w H' s'.heap∧aX v u∧Q v H'
def CR (CX:CXT) (outer:List Env) (P:Program) (w:World) (H:Hp) (s:Shared) (Q:VK) (E:XK) (r:Result) (s':Shared):Prop:=
 match r with
 | .ok (.ret u)=>CE outer P w H s Q u s'
 | .ok _=>False
 | .error e=>CX outer H s E e s'
structure aO (P:Program) (w:World) (K:W.Frag) (mg:Str→Option Value) (base:Heap) (CX:CXT) (k:Nat) (f:Addr) (fd:FuncData) (ps:List Str) (sp:Sp):Prop where
 len:∀ vs H Q E,sp vs H Q E→vs.length=ps.length
 run:∀ (A:Around) (outer:List Env) (s:Shared) (H:Hp) (args:Args) (us:List Value) (vs:List V) (Q:VK) (E:XK),be k A→iA P w K mg base A outer s H→BindsTo s fd args (ps.zip us)→bc vs us→sp vs H Q E→
  codeAny (model P w) A (.call (.ref f) args) (CR CX outer P w H s Q E) s
theorem iA.make {P:Program} {w:World} {K:W.Frag} {mg:Str→Option Value} {base:Heap} {A:Around} {outer:List Env} {s:Shared} {H:Hp} (e:iA P w K mg base A outer s H) (C:Addr) (us:List Value) (kw:List (Str×Value)):
 iA P w K mg base (A.under (.builtin "type.__call__" ⟨.ref C::us,kw⟩)) outer s H:=⟨by first | exact e.frames | (simpa [Around.under,Code.envs,Code.isFrame,pushEnvs] using e.frames),e.mod,e.bs,e.bsz,e.funs,e.frf,e.hok,e.bare⟩
section
variable {X:Cx} {pins:List (Addr×Obj)} {σ:St} {H:Hp} {s s':Shared}
theorem Inv.env0 (I:Inv X pins σ H s):iA X.prog X.w X.K X.mg X.base X.A X.stack s H:=
 ⟨I.ok.frames,I.ok.mod,I.bs,Nat.le_trans I.ok.bsz I.sz,I.stack,I.stkFree,I.hok,I.bare⟩
theorem Inv.after {Q:VK} {u:Value} (I:Inv X pins σ H s) (h:CE X.stack X.prog X.w H s Q u s'):EP X pins σ Q u s':=by
 obtain ⟨v,H',os,bare,un,hok,r,q⟩:=h
 obtain ⟨hh,g,d,t,os'⟩:=s'
 obtain rfl:os'=s.os:=os
 exact ⟨v,H',I.call (h':=hh) (g':=g) (d':=d) (t':=t) (ch:=[]) un hok bare (fun b z=>absurd z (by simp)),r,q⟩
end
def bO (K:W.Frag) (fd:FuncData) (ps:List Str) (ds:List Value):Prop:=
 ∀ (s:Shared) (us:List Value),K.In s.heap→(us++ds).length=ps.length→BindsTo s fd ⟨us,[]⟩ (ps.zip (us++ds))
theorem bO.all {K:W.Frag} {fd:FuncData} {ps:List Str} (h:∀ us:List Value,us.length=ps.length→bindArgs fd ⟨us,[]⟩=pure (ps.zip us)):bO K fd ps []:=fun s us _ hl=>by
 rw [List.append_nil] at hl ⊢
 exact .of_eq (h us hl)
section
variable {X:Cx} {CX:CXT} {k:Nat} {f C:Addr} {fd:FuncData} {ps:List Str} {sp:Sp} {dvs:List V} {ds:List Value} {E:XK} {x m:Str} {p pos apos:Pos} {e o:Expr} {es:List Expr} {ta:TE} {t:TA}
structure Mk (K:W.Frag) (C f:Addr):Prop where
 makes:W.makesIn K C=true
 init:W.findIn K (.ref C) "__init__" =some (some (.ref f))
 fn:W.isFn K (.ref f)=true
 kp:W.keepIn K (.ref C)=true
end
def PK (X:Cx) (kws:List Keyword) (t:TA):Prop:=
 ∀ (pos:Pos) (pins:List (Addr×Obj)) (s:Shared) (σ:St) (H:Hp) (Q:List V→Hp→Prop),Inv X pins σ H s→t σ H Q→wpAny (model X.prog X.w) X.A (evalAll ((backToKw pos (keywordEach kws X.env)).map (·.2))) (AP X pins σ Q) X.xe s
structure aA (N P:List Str) (sc:Scope):Prop where
 kind:sc.kind=.function
 co:sc.isCoroutine=false
 gen:sc.isGenerator=false
 nd:N.Nodup
 pre:N.take P.length=P
 par:∀ x∈P,sc.names.lookup x=some .local∨sc.names.lookup x=some .cell
 nofree:∀ y∈sc.names,y.2≠ .free
theorem mR {kindOf : Str → Option NameKind} {x : Str} : ∀ {binds : List (Str × Value)} {m : Str → Option Value}, (∀ v, (x, v) ∉ binds) → bindL kindOf binds m x = m x
  | [], _, _ => rfl
  | (n, v) :: r, m, h => by
    unfold bindL
    rw [mR fun w hw => h w (List.mem_cons_of_mem _ hw)]
    split
    · have : x ≠ n := by rintro rfl; exact h v List.mem_cons_self
      simp [this]
    · rfl
theorem mK {kindOf : Str → Option NameKind} {x : Str} : ∀ {binds : List (Str × Value)} {m : Str → Option Value}, (∀ v, (x, v) ∉ binds) → bindC kindOf binds m x = m x
  | [], _, _ => rfl
  | (n, v) :: r, m, h => by
    unfold bindC
    rw [mK fun w hw => h w (List.mem_cons_of_mem _ hw)]
    split
    · rfl
    · have : x ≠ n := by rintro rfl; exact h v List.mem_cons_self
      simp [this]
theorem mT {kindOf : Str → Option NameKind} {x : Str} {v : Value} : ∀ {P : List Str} {vs : List Value} {i : Nat} {m : Str → Option Value}, P.Nodup → P[i]? = some x → vs[i]? = some v → kindOf x = some .local →
    bindL kindOf (P.zip vs) m x = some v
  | [], _, _, _, _, h, _, _ => by simp at h
  | _ :: _, [], _, _, _, _, h, _ => by simp at h
  | p :: P, w :: vs, 0, m, nd, h1, h2, hk => by
    simp at h1 h2; subst h1; subst h2
    show bindL kindOf ((p, w) :: P.zip vs) m p = _
    unfold bindL
    rw [mR fun v hv => (List.nodup_cons.mp nd).1 (List.of_mem_zip hv).1, if_pos hk]
    simp
  | p :: P, w :: vs, i + 1, m, nd, h1, h2, hk => by
    show bindL kindOf ((p, w) :: P.zip vs) m x = _
    unfold bindL
    exact mT (i := i) (List.nodup_cons.mp nd).2 (by simpa using h1) (by simpa using h2) hk
theorem mV {kindOf : Str → Option NameKind} {x : Str} {v : Value} : ∀ {P : List Str} {vs : List Value} {i : Nat} {m : Str → Option Value}, P.Nodup → P[i]? = some x → vs[i]? = some v → kindOf x ≠ some .local →
    bindC kindOf (P.zip vs) m x = some v
  | [], _, _, _, _, h, _, _ => by simp at h
  | _ :: _, [], _, _, _, _, h, _ => by simp at h
  | p :: P, w :: vs, 0, m, nd, h1, h2, hk => by
    simp at h1 h2; subst h1; subst h2
    show bindC kindOf ((p, w) :: P.zip vs) m p = _
    unfold bindC
    rw [mK fun v hv => (List.nodup_cons.mp nd).1 (List.of_mem_zip hv).1, if_neg hk]
    simp
  | p :: P, w :: vs, i + 1, m, nd, h1, h2, hk => by
    show bindC kindOf ((p, w) :: P.zip vs) m x = _
    unfold bindC
    exact mV (i := i) (List.nodup_cons.mp nd).2 (by simpa using h1) (by simpa using h2) hk
def bL (N:List Str) (vs:List V):St:=vs.map some++List.replicate (N.length - vs.length) none
def cq (CX:CXT) (P:Program) (w:World) (K:W.Frag) (mg:Str→Option Value) (base:Heap) (N:List Str) (qual:Str) (scope:Scope) (f:Addr) (cd:Value) (A:Around) (outer:List Env) (s:Shared) (H:Hp) (E:XK):Cx where
 prog:=P
 w:=w
 K:=K
 mg:=mg
 base:=base
 A:=A.deeper (envOfC qual scope s.heap.objs.size f cd)
 N:=N
 s₀:=s
 H₀:=H
 env:=envOfC qual scope s.heap.objs.size f cd
 outer:=outer
 stack:=envOfC qual scope s.heap.objs.size f cd::outer
 ex:=[]
 calm:=true
 fn:=fun _=>true
 pn:=[]
 xe:=fun e s'=>wpAny (model P w) (A.deeper (envOfC qual scope s.heap.objs.size f cd)) (leaving (envOfC qual scope s.heap.objs.size f cd) e) (fun _ s''=>CX outer H s E e s'') (fun e' s''=>CX outer H s E e' s'') s'
theorem pW {sc:Scope} {n:Nat} {x:Str} (h:sc.names.lookup x=some .cell):∃ c,(cellsFrom n sc.names []).lookup x=some c:=by
 have q:=W.cellsFrom_some sc.names n [] (.inl h)
 exact Option.isSome_iff_exists.mp q
theorem mW {CX:CXT} {P:Program} {w:World} {K:W.Frag} {mg:Str→Option Value} {base:Heap} {N ps:List Str} {qual:Str} {scope:Scope} {f:Addr} {cd:Value} {A:Around} {outer:List Env} {s s1:Shared} {H:Hp} {E:XK} {us:List Value} {vs:List V}
   (S:aA N ps scope) (hd:A.handled=none) (e0:iA P w K mg base A outer s H) (hl:vs.length=ps.length) (r:bc vs us)
   (x:InCallC s s.heap.objs.size (bindL (envOfC qual scope s.heap.objs.size f cd).kindOf (ps.zip us) fun _=>none) (cellsFrom (s.heap.objs.size+1) scope.names []) (bindC (envOfC qual scope s.heap.objs.size f cd).kindOf (ps.zip us) fun _=>none) s1):
   Inv (cq CX P w K mg base N qual scope f cd A outer s H E) [] (bL N vs) H s1:=by
 have hpl:ps.length≤N.length:=by have:=congrArg List.length S.pre;rw [List.length_take] at this;omega
 obtain ⟨h1,tk,rfl,hk⟩:=x.done
 have noA:∀ b:Addr,b∉(cq CX P w K mg base N qual scope f cd A outer s H E).ex:=fun b z=>absurd (show b∈([]:List Addr) from z) (by simp)
 refine ⟨⟨e0.mod,S.kind,rfl,rfl,Nat.le_refl _,fun y z c h1 h2=>?_,fun y hy=>?_,fun y c _ h=>?_,fun _=>hd,Around.frames_deeper e0.frames,.inr ⟨rfl,rfl⟩,fun b z=>absurd z (noA b),e0.bs,e0.bsz,fun b _ _=>noA b,fun b z=>absurd z (noA b),e0.funs,e0.frf⟩,
   rfl,e0.bare,Un.kept hk,⟨_,x.toInCall.ns,fun i y v h1 h2 h3=>?_⟩,fun y c h=>⟨_,x.cell y c h⟩,e0.hok.fresh (Nat.le_refl _),fun y c h=>?_,fun p hp=>absurd (show p∈([]:List (Addr×Obj)) from hp) (by simp),e0.hok.kept hk,?_⟩
 · exact name_of_addr x.apart (PySem.mem_of_lookup h1) (PySem.mem_of_lookup h2)
 · have hy:scope.names.lookup y=some .cell∨scope.names.lookup y=some .free:=hy
   rcases hy with hy | hy
   · exact pW hy
   · exact absurd rfl (S.nofree _ (PySem.mem_of_lookup hy))
 · exact Nat.le_of_lt (x.above y c (PySem.mem_of_lookup h))
 · have hi:i<vs.length:=by
     unfold bL at h2
     by_cases hi:i<vs.length
     · exact hi
     · rw [List.getElem?_append_right (by simpa using hi)] at h2
       rw [List.getElem?_replicate] at h2
       split at h2 <;> cases h2
   have ha:vs[i]?=some v:=by
     unfold bL at h2
     rw [List.getElem?_append_left (by simpa using hi),List.getElem?_map] at h2
     cases e:vs[i]? with
     | none=>rw [e] at h2;cases h2
     | some a=>rw [e] at h2;cases h2;rfl
   obtain ⟨u,hu,rv⟩:=r.get ha
   have hp:ps[i]?=some y:=by
     rw [← S.pre,List.getElem?_take_of_lt (by omega)];exact h1
   have ndP:ps.Nodup:=by rw [← S.pre];exact S.nd.sublist (List.take_sublist _ _)
   refine ⟨u,rv,?_⟩
   rcases S.par y (List.mem_of_getElem? hp) with k | k
   · exact .inl ⟨k,mT ndP hp hu k⟩
   · obtain ⟨c,e⟩:=pW (n:=s.heap.objs.size+1) k
     refine .inr ⟨.inl k,c,e,?_⟩
     have q:=x.cell y c e
     rw [mV ndP hp hu (by show scope.names.lookup y≠_;rw [k];decide)] at q
     exact q
 · exact e0.hok.fresh (Nat.le_of_lt (x.above y c (PySem.mem_of_lookup h)))
 · unfold bL
   show _=N.length
   rw [List.length_append,List.length_map,List.length_replicate]
   omega
theorem yY {CX : CXT} {P : Program} {w : World} {K : W.Frag} {mg : Str → Option Value} {base : Heap} {k : Nat} {f : Addr} {name qual : Str} {params : Arguments} {body : List Stmt} {scope : Scope} {dV kV doc pm cdv ct oc : Value} {an od : Option Addr}
    {osl : Array (Option Value)} {N ps : List Str} {sp : Sp} (lk : K.lookup f = some ⟨oc, od, .func (W.fnOf name qual params body scope dV kV doc pm an cdv ct), osl⟩) (hcd : W.codeIn K cdv qual = true) (S : aA N ps scope)
    (len : ∀ vs H Q E, sp vs H Q E → vs.length = ps.length)
    (hbody : ∀ (A : Around) (outer : List Env) (s : Shared) (H : Hp) (vs : List V) (Q : VK) (E : XK), be k (A.deeper (envOfC qual scope s.heap.objs.size f cdv)) → sp vs H Q E →
      ∃ t, PSs (cq CX P w K mg base N qual scope f cdv A outer s H E) body t ∧ t { nx := fun _ H' => Q .non H', rt := Q } (bL N vs) H) :
    aO P w K mg base CX (k + 1) f (W.fnOf name qual params body scope dV kV doc pm an cdv ct) ps sp := by
  refine ⟨len, fun A outer s H args us vs Q E hr e0 hb r hsp => ?_⟩
  have hl := len _ _ _ _ hsp
  have KX : K.In s.heap := e0.mod.kin.keeps fun b o e => (e0.bs b o e).1
  have lim : s.heap.NoLimit := e0.mod.nolimit.keeps fun b o e => (e0.bs b o e).1
  have hkind : ∀ y ∈ ps.zip us, scope.names.lookup y.1 = some .local ∨ (scope.names.lookup y.1 = some .cell ∧ ((cellsFrom (s.heap.objs.size + 1) scope.names []).lookup y.1).isSome = true) := fun ⟨n, v⟩ hy => by
    rcases S.par n (List.of_mem_zip hy).1 with q | q
    · exact .inl q
    · exact .inr ⟨q, W.cellsFrom_some _ _ _ (.inl q)⟩
  refine codeAny_call_function hr.depth (KX _ _ lk) rfl S.co S.gen rfl (W.codeRec_of KX hcd) (hb _ _ _ _ ?_)
  refine wpAny_newFunctionEnv_cells S.kind hkind fun env he s1 x => ?_
  subst he
  refine ⟨lim.keeps x.toInCall.keep, codeAny_func ?_⟩
  obtain ⟨t, ht, hq⟩ := hbody A outer s H vs Q E (hr.deeper _) hsp
  have I : Inv (cq CX P w K mg base N qual scope f cdv A outer s H E) [] (bL N vs) H s1 := mW S hr.hd e0 hl r x
  refine wpAny_mono (ht [] s1 (bL N vs) H _ I hq) (fun fl s' hs => ?_) fun e s' hs => hs
  have fin : ∀ {σ' : St} {H' : Hp} {v : V} {u : Value}, Inv (cq CX P w K mg base N qual scope f cdv A outer s H E) [] σ' H' s' → aX v u → Q v H' → CE outer P w H s Q u s' :=
    fun {σ' H' v u} J rv q => ⟨v, H', J.os, J.bare, J.base, J.hok, rv, q⟩
  cases fl with
  | ret u =>
    obtain ⟨v, σ', H', J, rv, q⟩ := hs
    exact fin J rv q
  | next =>
    obtain ⟨σ', H', J, q⟩ := hs
    exact fin (v := V.non) (u := Value.none) J rfl q
  | brk =>
    obtain ⟨_, _, _, q⟩ := hs
    exact False.elim q
  | cont =>
    obtain ⟨_, _, _, q⟩ := hs
    exact False.elim q
section
variable {X:Cx} {x:Str} {p pos:Pos} {e:Expr} {es:List Expr} {t:TA} {id T:String} {r:List V→Hp→VK→Prop}
def tCB (r:List V→Hp→VK→Prop) (t:TA):TE:=fun σ H Q=>t σ H fun vs H1=>r vs H1 Q
theorem xo (hc:bx X (.builtin id) r) (hg:Gl X x) (hm:X.mg x=none) (hv:bootBuiltins x=some (.builtin id)) (ha:PA X (e::es) t) (hn:x≠ "__name__" :=by decide) (hdb:(x==("__debug__" :Str))=false:=by decide)
  (he:starEach (e::es) X.env=(false,eval e X.env)::starEach es X.env:=by rfl) (hpl:(backTo pos (starEach es X.env)).any (·.1)=false:=by rfl):PE X (.Call (.Name x p) (e::es) [] pos) (tCB r t):=by
 intro pins s σ H Q I h
 refine wpAny_Call_Name_kw (kS I hg hm hv ?_ hn hdb)
 exact PyProof.Rows.callWith_builtin1 (thn (ha pos pins s σ H _ I h) fun us s1 ⟨vs,H1,I1,r1,q1⟩=>hc pins s1 σ H1 vs us Q I1 r1 q1) he hpl
theorem uT (hc:bx X (.type T) r) (hg:Gl X x) (hm:X.mg x=none) (hv:bootBuiltins x=some (.type T)) (ha:PA X (e::es) t) (hn:x≠ "__name__" :=by decide) (hdb:(x==("__debug__" :Str))=false:=by decide)
  (he:starEach (e::es) X.env=(false,eval e X.env)::starEach es X.env:=by rfl) (hpl:(backTo pos (starEach es X.env)).any (·.1)=false:=by rfl):PE X (.Call (.Name x p) (e::es) [] pos) (tCB r t):=by
 intro pins s σ H Q I h
 refine wpAny_Call_Name_kw (kS I hg hm hv ?_ hn hdb)
 exact PyProof.Rows.callWith_type1 (thn (ha pos pins s σ H _ I h) fun us s1 ⟨vs,H1,I1,r1,q1⟩=>hc pins s1 σ H1 vs us Q I1 r1 q1) he hpl
end
end L2
namespace HT
open PySem PyProof.Rows
section
open PySem.SeqAt
open PySem.AutoSeq1 (wpAny_loadPart')
open PySem.MeetsSeq PySem.MeetsSeq2 PySem.MeetsSeq3
end
section
variable {prog:Program} {w:World} {A:Around} {E:Value→Shared→Prop} {s:Shared}
theorem Ac {t b:Addr} {vs ws:List Value} {Q:Value→Shared→Prop} (ht:IsTup s.heap t vs.toArray) (hb:IsTup s.heap b ws.toArray) (hv:vs≠[])
   (h1:ws=[]→Q (.ref t) s) (h2:ws≠[]→Q (.ref s.heap.objs.size) { s with heap:=s.heap.push { cls:=.type "tuple",data:=.seq (vs++ws).toArray } })
   (hsz:vs.length+ws.length≤sizeLine):wpAny (model prog w) A (binaryOp .Add (.ref t) (.ref b)) Q E s:=by
 obtain ⟨⟨cls,dd,data,sl⟩,ho,hc,n,hd⟩:=id ht
 obtain ⟨⟨cls2,dd2,data2,sl2⟩,ho2,hc2,n2,hd2⟩:=id hb
 simp only at hc hd hc2 hd2
 subst hc hd hc2 hd2
 have e:vs.toArray++ws.toArray=(vs++ws).toArray:=by simp
 by_cases hw:ws=[]
 · exact concat_meets ⟨_,ho,rfl⟩ ⟨_,ho2,rfl⟩ noFill_tuple_add seq_tuple_add PySem.F.slot_tuple_add PySem.F.entry_tuple_add (PySem.F.args_tuple_add_2 _ _)
    (tuple_addW1 t b vs.toArray ws.toArray n n2 dd dd2 sl sl2 (by simpa using hv) (by simp [hw])) ⟨ho,ho2,h1 hw⟩
 · refine concat_meets ⟨_,ho,rfl⟩ ⟨_,ho2,rfl⟩ noFill_tuple_add seq_tuple_add PySem.F.slot_tuple_add PySem.F.entry_tuple_add (PySem.F.args_tuple_add_2 _ _)
    (tuple_addW2 t b vs.toArray ws.toArray n n2 dd dd2 sl sl2 (by simpa using hv) (by simpa using hw) (by rw [List.size_toArray,List.size_toArray];exact hsz)) ⟨ho,ho2,?_⟩
   rw [e]
   exact h2 hw
def sIx (n d:Nat):Option Int→Nat
 | none=>d
 | some v=>if v<0 then (v+(n:Int)).toNat else min v.toNat n
theorem wg (n d:Nat):sIx n d none=d:=rfl
theorem rj (n d k:Nat):sIx n d (some (k:Int))=min k n:=by
 show (if (k:Int)<0 then ((k:Int)+(n:Int)).toNat else min (k:Int).toNat n)=min k n
 rw [if_neg (by omega),Int.toNat_natCast]
theorem Dp (n d : Nat) (hd : d ≤ n) (o : Option Int) : sIx n d o ≤ n := by
  cases o with
  | none => exact hd
  | some v =>
    show (if v < 0 then (v + (n : Int)).toNat else min v.toNat n) ≤ n
    by_cases hv : v < 0
    · rw [if_pos hv]; omega
    · rw [if_neg hv]; exact Nat.min_le_right _ _
theorem qK (v:Int) (n d:Nat):(if v<0 then max (v+(n:Int)) 0 else min v (n:Int))=((sIx n d (some v):Nat):Int):=by
 show (if v<0 then max (v+(n:Int)) 0 else min v (n:Int))=(((if v<0 then (v+(n:Int)).toNat else min v.toNat n):Nat):Int)
 by_cases hv:v<0
 · simp only [if_pos hv];omega
 · simp only [if_neg hv];omega
theorem sY (lo hi:Option Int) (n:Nat):Builtin.Slice.sliceAdjust lo hi 1 (n:Int)=(((sIx n 0 lo:Nat):Int),((sIx n n hi:Nat):Int)):=by
 have h1:¬ ((1:Int)<0):=by omega
 unfold Builtin.Slice.sliceAdjust
 simp only [h1,if_false]
 refine Prod.ext ?_ ?_
 · cases lo with
   | none=>rfl
   | some v=>exact qK v n 0
 · cases hi with
   | none=>rfl
   | some v=>exact qK v n n
theorem sD (i j:Nat):Builtin.Slice.slicePlaces (i:Int) (j:Int) 1=j - i:=by
 unfold Builtin.Slice.slicePlaces
 have h1:(1:Int)>0:=by omega
 simp only [h1,if_true,Int.ediv_one]
 split <;> omega
theorem lf {v:Value} {o:Option Int} {Q:Option Int→Shared→Prop} (p:IsPart v o) (h:Q o s):wpAny (model prog w) A (Builtin.Slice.slicePartIndex v) Q E s:=by
 cases p with
 | none=>exact slicePart_none h
 | int i t=>exact slicePart_int h
theorem gw {sl:Addr} {vl vu:Value} {lo hi:Option Int} {n:Nat} {Q:Int×Int×Nat→Shared→Prop} (hs:s.heap.IsSliceOf sl vl vu .none) (pl:IsPart vl lo) (pu:IsPart vu hi)
  (h:Q (((sIx n 0 lo:Nat):Int),1,sIx n n hi - sIx n 0 lo) s):wpAny (model prog w) A (Builtin.Slice.sliceApplied (.ref sl) (pure (n:Int))) Q E s:=by
 obtain ⟨os,hos,hcs,hds⟩:=id hs
 unfold Builtin.Slice.sliceApplied Builtin.Slice.sliceFields
 refine wpAny_bind (wpAny_bind (wpAny_field hos hds (x:=vl) rfl (wpAny_bind (wpAny_field hos hds (x:=vu) rfl (wpAny_bind (wpAny_field hos hds (x:=.none) rfl (wpAny_pure ?_)))))))
 refine wpAny_bind (slicePart_none ?_)
 show wpAny _ _ (if ((1:Int)==0)=true then _ else _) _ _ s
 rw [if_neg (by decide)]
 refine wpAny_bind (lf pl (wpAny_bind (lf pu (wpAny_bind (wpAny_pure ?_)))))
 show wpAny _ _ (match Builtin.Slice.sliceAdjust lo hi 1 (n:Int) with | (lo,hi)=>pure (lo,(1:Int),Builtin.Slice.slicePlaces lo hi 1)) _ _ s
 rw [sY lo hi n]
 show wpAny _ _ (pure (((sIx n 0 lo:Nat):Int),(1:Int),Builtin.Slice.slicePlaces ((sIx n 0 lo:Nat):Int) ((sIx n n hi:Nat):Int) 1)) _ _ s
 rw [sD]
 exact wpAny_pure h
theorem vQ (xs:Array Value) (i k:Nat):((List.range k).filterMap fun (m:Nat)=>xs[((i:Int)+(m:Int)*1).toNat]?).toArray=((xs.toList.drop i).take k).toArray:=by
 have e:(fun (m:Nat)=>xs[((i:Int)+(m:Int)*1).toNat]?)=fun m=>xs[i+m]?:=by
  funext m
  have:((i:Int)+(m:Int)*1).toNat=i+m:=by omega
  rw [this]
 rw [e]
 have:=pick_run xs i k
 rw [List.filterMap_map] at this
 have e2:((fun x=>xs[x]?)∘fun x=>i+x)=fun m=>xs[i+m]?:=rfl
 rw [e2] at this
 rw [this]
theorem jY {t sl:Addr} {items:Array Value} {vl vu:Value} {lo hi:Option Int} {Q:Value→Shared→Prop} (ht:IsTup s.heap t items) (hs:s.heap.IsSliceOf sl vl vu .none) (pl:IsPart vl lo) (pu:IsPart vu hi)
  (hw:¬ (sIx items.size 0 lo=0∧sIx items.size items.size hi=items.size))
  (h:Q (.ref s.heap.objs.size) { s with heap:=s.heap.push { cls:=.type "tuple",data:=.seq ((items.toList.drop (sIx items.size 0 lo)).take (sIx items.size items.size hi - sIx items.size 0 lo)).toArray } })
  (hsz:items.size≤sizeLine):wpAny (model prog w) A (getItem (.ref t) (.ref sl)) Q E s:=by
 have htake:sizeOk (.seq ((items.toList.drop (sIx items.size 0 lo)).take (sIx items.size items.size hi - sIx items.size 0 lo)).toArray):=by
  show ((items.toList.drop (sIx items.size 0 lo)).take (sIx items.size items.size hi - sIx items.size 0 lo)).toArray.size≤sizeLine
  rw [List.size_toArray,List.length_take,List.length_drop,Array.length_toList]
  omega
 have hj:sIx items.size items.size hi≤items.size:=Dp _ _ (Nat.le_refl _) hi
 obtain ⟨os,hos,hcs,hds⟩:=id hs
 have hTs:s.TypeIs (.ref sl) "slice" :=⟨os,hos,hcs⟩
 unfold getItem
 try with_reducible refine wpAny_holding ?_
 first | refine wpAny_bind (wpAny_pure ?_) | skip
 refine wpAny_bind (wpAny_sequenceKey ht.typeIs (by decide) ?_)
 refine wpAny_bind (wpAny_callSpecial?_slot (name:=Str.ofString "__getitem__") ht.typeIs PyProof.Rows.slot_tuple_getitem
  (wpAny_call_entry PyProof.Rows.slot_tuple_getitem ht.typeIs entry_tuple_getitem ?_ (args_tuple_getitem _ _)))
 show wpAny _ _ (Builtin.Tuple.tupleItemsOf (.ref t)>>=_) _ _ s
 refine wpAny_bind (tupleItemsOf_ ht ?_)
 refine wpAny_bind (wpAny_typeOf hTs ?_)
 rw [if_pos (by decide)]
 refine wpAny_bind (gw hs pl pu ?_)
 have hno:¬ ((((sIx items.size 0 lo:Nat):Int)==0&&(1:Int)==1&&(sIx items.size items.size hi - sIx items.size 0 lo)==items.size)=true):=by
  intro q
  rw [Bool.and_eq_true,Bool.and_eq_true] at q
  have q1:((sIx items.size 0 lo:Nat):Int)=0:=eq_of_beq q.1.1
  have q2:sIx items.size items.size hi - sIx items.size 0 lo=items.size:=eq_of_beq q.2
  exact hw ⟨by omega,by omega⟩
 show wpAny _ _ (if (((sIx items.size 0 lo:Nat):Int)==0&&(1:Int)==1&&(sIx items.size items.size hi - sIx items.size 0 lo)==items.size)=true then _ else _) _ _ s
 rw [if_neg hno,vQ]
 first
  | exact wpAny_bind (m:=Builtin.Tuple.tupleExact _) (wpAny_newObj_type (wpAny_pure ⟨_,rfl,wpAny_pure h⟩) htake)
  | exact wpAny_bind (m:=Builtin.Tuple.tupleExact _) (wpAny_newObj_type (wpAny_bind (wpAny_pure (wpAny_pure ⟨_,rfl,wpAny_pure h⟩))) htake)
  | exact wpAny_bind (wpAny_bind (m:=Builtin.Tuple.tupleExact _) (wpAny_newObj_type (wpAny_pure (wpAny_pure ⟨_,rfl,wpAny_pure h⟩)) htake))
  | exact wpAny_bind (wpAny_bind (m:=Builtin.Tuple.tupleExact _) (wpAny_newObj_type (wpAny_pure ⟨_,rfl,wpAny_pure h⟩) htake))
end
end HT
namespace L2
open PySem PySem.Spec PyProof.Rows
abbrev TO:=St→Hp→(Option Int→Hp→Prop)→Prop
def PO (X:Cx) (e:Option Expr) (t:TO):Prop:=
 ∀ (pins:List (Addr×Obj)) (s:Shared) (σ:St) (H:Hp) (Q:Option Int→Hp→Prop),Inv X pins σ H s→t σ H Q→
  wpAny (model X.prog X.w) X.A (evalPart e X.env) (fun u s'=>∃ o H',Inv X pins σ H' s'∧IsPart u o∧Q o H') X.xe s
def ie:TO:=fun _ H Q=>Q none H
def ix (t:TE):TO:=fun σ H Q=>t σ H fun x H1=>∃ i,x=.int i∧Q (some i) H1
section
variable {X:Cx} {e:Expr} {te:TE} {lo hi:Option Expr} {tl th:TO} {pos p2:Pos}
theorem Aj:PO X none ie:=by
 intro pins s σ H Q I h
 rw [evalPart_none]
 exact wpAny_pure ⟨none,H,I,.none,h⟩
theorem Ay (h:PE X e te):PO X (some e) (ix te):=by
 intro pins s σ H Q I hw
 rw [evalPart_some]
 refine thn (h pins s σ H _ I hw) fun u s1 ⟨x,H1,I1,r1,q1⟩=>?_
 obtain ⟨i,rfl,q⟩:=q1
 obtain ⟨t,rfl⟩:=r1
 exact ⟨some i,H1,I1,.int i t,q⟩
def SlR (X:Cx) (r:V→Option Int→Option Int→Hp→VK→Prop):Prop:=
 ∀ (pins:List (Addr×Obj)) (s:Shared) (σ:St) (H:Hp) (x:V) (v vl vu:Value) (lo hi:Option Int) (sl:Addr) (Q:VK),Inv X pins σ H s→aX x v→s.heap.IsSliceOf sl vl vu .none→IsPart vl lo→IsPart vu hi→r x lo hi H Q→
  ∃ T id,typeLookup (.type T) "__getitem__" =pure (some (.builtin id))∧s.TypeIs v T∧wpAny (model X.prog X.w) X.A (getItem v (.ref sl)) (EP X pins σ Q) X.xe s
theorem SlR.or {r r':V→Option Int→Option Int→Hp→VK→Prop} (h:SlR X r) (h':SlR X r'):SlR X (fun x lo hi H Q=>r x lo hi H Q∨r' x lo hi H Q):=by
 intro pins s σ H x v vl vu lo hi sl Q I rx hs pl pu q
 rcases q with q | q
 · exact h pins s σ H x v vl vu lo hi sl Q I rx hs pl pu q
 · exact h' pins s σ H x v vl vu lo hi sl Q I rx hs pl pu q
def tSl (r:V→Option Int→Option Int→Hp→VK→Prop) (te:TE) (tl th:TO):TE:=fun σ H Q=>te σ H fun x H1=>tl σ H1 fun l H2=>th σ H2 fun u H3=>r x l u H3 Q
theorem xt {r:V→Option Int→Option Int→Hp→VK→Prop} (hr:SlR X r) (he:PE X e te) (hl:PO X lo tl) (hu:PO X hi th):PE X (.Subscript e (.Slice lo hi none p2) pos) (tSl r te tl th):=by
 intro pins s σ H Q I h
 refine Subscript_ (thn (he pins s σ H _ I h) fun v s1 ⟨x,H1,I1,r1,q1⟩=>?_)
 refine wpAny_Slice (thn (hl pins s1 σ H1 _ I1 q1) fun vl s2 ⟨l,H2,I2,pl,q2⟩=>thn (hu pins s2 σ H2 _ I2 q2) fun vu s3 ⟨u,H3,I3,pu,q3⟩=>?_)
 rw [evalPart_none]
 refine wpAny_pure ?_
 have I4:Inv X pins σ H3 { s3 with heap:=s3.heap.push { cls:=.type "slice",data:=.fields #[vl,vu,.none] } }:=I3.kept (t':=s3.toks) fun b ob q=>Heap.get?_push_of_some _ q
 obtain ⟨T,id,hT,ht,hg⟩:=hr pins { s3 with heap:=s3.heap.push { cls:=.type "slice",data:=.fields #[vl,vu,.none] } } σ H3 x v vl vu l u s3.heap.objs.size Q I4 r1 (Heap.IsSliceOf.new ..) pl pu q3
 show wpAny (model X.prog X.w) X.A (subscriptTail e (.Slice lo hi none p2) v (.ref s3.heap.objs.size)) (EP X pins σ Q) X.xe { s3 with heap:=s3.heap.push { cls:=.type "slice",data:=.fields #[vl,vu,.none] } }
 exact tail_any (ops:=[.ref s3.heap.objs.size,v]) ht hT hg (by with_unfolding_all rfl)
def cM (xs:List V) (lo hi:Option Int):List V:=(xs.drop (HT.sIx xs.length 0 lo)).take (HT.sIx xs.length xs.length hi - HT.sIx xs.length 0 lo)
theorem kc (xs:List V) (lo hi:Option Int):(cM xs lo hi).length≤xs.length:=by
 unfold cM
 rw [List.length_take,List.length_drop]
 omega
def Jq (K:W.Frag):V→Option Int→Option Int→Hp→VK→Prop:=fun x lo hi H Q=>∃ a xs,x=.ref a∧SqT K H a xs∧
 ¬ (HT.sIx xs.length 0 lo=0∧HT.sIx xs.length xs.length hi=xs.length)∧∀ p,H p=none→Q (.ref p) (upd H p (.tup (cM xs lo hi)))
theorem Cu:SlR X (Jq X.K):=by
 intro pins s σ H x v vl vu lo hi sl Q I rx hs pl pu h
 obtain ⟨a,xs,rfl,hx,hw,q⟩:=h
 cases rx
 obtain ⟨its,r,ht,hz⟩:=I.tuple hx
 have hlen:its.toArray.size=xs.length:=by rw [List.size_toArray];exact r.length.symm
 refine ⟨"tuple",_,PyProof.Rows.slot_tuple_getitem.lookup,ht.typeIs,?_⟩
 refine HT.jY ht hs pl pu (by rw [hlen];exact hw) ?_ (by rw [hlen];exact hz)
 rw [hlen]
 refine ⟨.ref s.heap.objs.size,_,I.laid (t':=s.toks) (o:=.tup (cM xs lo hi)) (fun b ob q=>Heap.get?_push_of_some _ q) (Nat.le_refl _) ?_,rfl,q _ (I.hok.fresh (Nat.le_refl _))⟩
 exact ⟨Nat.le_trans (kc xs lo hi) hz,_,(r.drop (HT.sIx xs.length 0 lo)).take (HT.sIx xs.length xs.length hi - HT.sIx xs.length 0 lo),IsTup.new _ _⟩
def EU (K:W.Frag):R2:=fun x y H Q=>∃ a b xs ys,x=.ref a∧y=.ref b∧SqT K H a xs∧SqT K H b ys∧xs≠[]∧xs.length+ys.length≤sizeLine∧
 (ys=[]→Q (.ref a) H)∧(ys≠[]→∀ p,H p=none→Q (.ref p) (upd H p (.tup (xs++ys))))
theorem bc.nil_iff {xs:List V} {us:List Value} (r:bc xs us):us=[]↔xs=[]:=by
 cases r with
 | nil=>simp
 | cons _ _=>simp
theorem Ai:OpR X (binaryOp .Add) (EU X.K):=by
 intro pins s σ H x y v u Q I rx ry h
 obtain ⟨a,b,xs,ys,rfl,rfl,ha,hb,hx,hz,q1,q2⟩:=h
 cases rx
 cases ry
 obtain ⟨its,r1,p1,_⟩:=I.tuple ha
 obtain ⟨its2,r2,p2,_⟩:=I.tuple hb
 refine HT.Ac p1 p2 (fun z=>hx (r1.nil_iff.mp z)) (fun z=>⟨.ref a,H,I,rfl,q1 (r2.nil_iff.mp z)⟩) (fun z=>?_) (by rw [← r1.length,←r2.length];exact hz)
 refine ⟨.ref s.heap.objs.size,_,I.laid (t':=s.toks) (o:=.tup (xs++ys)) (fun b ob q=>Heap.get?_push_of_some _ q) (Nat.le_refl _) ?_,rfl,q2 (fun w=>z (r2.nil_iff.mpr w)) _ (I.hok.fresh (Nat.le_refl _))⟩
 exact ⟨by rw [List.length_append];exact hz,_,r1.append r2,IsTup.new _ _⟩
end
def ixN (n:Nat) (i:Int):Option Nat:=if 0≤i then (if i<n then some i.toNat else none) else if -(n:Int)≤i then some (i+n).toNat else none
def atI {α:Type} (xs:List α) (i:Int):Option α:=(ixN xs.length i).bind fun j=>xs[j]?
theorem qB {n:Nat} {i:Int} {j:Nat} (h:ixN n i=some j):seqIndex? i n=some j∧j<n∧ -(n:Int)≤i∧i<n:=by
 unfold ixN at h
 by_cases h0:0≤i
 · rw [if_pos h0] at h
   by_cases h1:i<n
   · rw [if_pos h1] at h
     have e:i.toNat=j:=Option.some.inj h
     exact ⟨by rw [seqIndex_of h0 h1,e],by omega,by omega,h1⟩
   · rw [if_neg h1] at h;cases h
 · rw [if_neg h0] at h
   by_cases h1: -(n:Int)≤i
   · rw [if_pos h1] at h
     have e:(i+n).toNat=j:=Option.some.inj h
     exact ⟨by rw [seqIndex_neg (by omega) h1,e],by omega,h1,by omega⟩
   · rw [if_neg h1] at h;cases h
theorem gp {α : Type} {xs : List α} {i : Int} {v : α} (h : atI xs i = some v) : ∃ j, seqIndex? i xs.length = some j ∧ xs[j]? = some v ∧ j < xs.length ∧ -(xs.length : Int) ≤ i ∧ i < xs.length := by
  unfold atI at h
  cases e : ixN xs.length i with
  | none => rw [e] at h; cases h
  | some j =>
    rw [e] at h
    obtain ⟨h1, h2, h3, h4⟩ := qB e
    exact ⟨j, h1, h, h2, h3, h4⟩
theorem vL {α:Type} (xs:List α) (v:α):atI (xs++[v]) (-1)=some v:=by
 have hl:(xs++[v]).length=xs.length+1:=by simp
 have e:ixN (xs++[v]).length (-1)=some xs.length:=by
  unfold ixN
  rw [hl,if_neg (by decide),if_pos (by omega)]
  congr 1
  omega
 unfold atI
 rw [e]
 show (xs++[v])[xs.length]?=some v
 simp
def qR (b:Expr):Prop:=∀ o i,subscripted b false o i=operate [o,i] (getItem o i)
def IxR (X:Cx) (r:R2):Prop:=
 ∀ (value slice:Expr) (pins:List (Addr×Obj)) (s:Shared) (σ:St) (H:Hp) (x y:V) (v u:Value) (Q:VK),Inv X pins σ H s→aX x v→aX y u→r x y H Q→
  subscripted slice false v u=operate [v,u] (getItem v u)→wpAny (model X.prog X.w) X.A (subscriptTail value slice v u) (EP X pins σ Q) X.xe s
def MtR (X:Cx) (id:String) (r:V→List V→Hp→VK→Prop):Prop:=
 ∀ (pins:List (Addr×Obj)) (s:Shared) (σ:St) (H:Hp) (x:V) (xs:List V) (v:Value) (us:List Value) (Q:VK),Inv X pins σ H s→aX x v→bc xs us→r x xs H Q→
  wpAny (model X.prog X.w) X.A (call (.builtin id) (v::us)) (EP X pins σ Q) X.xe s
section
variable {X:Cx} {a b:Expr} {ta tb:TE} {pos:Pos}
theorem IxR.or {r r':R2} (h:IxR X r) (h':IxR X r'):IxR X (fun x y H Q=>r x y H Q∨r' x y H Q):=by
 intro value slice pins s σ H x y v u Q I rx ry q hs
 rcases q with q | q
 · exact h value slice pins s σ H x y v u Q I rx ry q hs
 · exact h' value slice pins s σ H x y v u Q I rx ry q hs
theorem EK {r:R2} (hr:IxR X r) (ha:PE X a ta) (hb:PE X b tb) (hs:qR b):PE X (.Subscript a b pos) (tOp r ta tb):=by
 intro pins s σ H Q I h
 exact Subscript_ (vF ha hb I h fun v u s2 x y H2 I2 rx ry q=>hr a b pins s2 σ H2 x y v u Q I2 rx ry q (hs _ _))
def DF (K:W.Frag):R2:=fun x y H Q=>∃ p xs i v,x=.ref p∧y=.int i∧SqL K H p xs∧atI xs i=some v∧Q v H
def Bl (K:W.Frag):R2:=fun x y H Q=>∃ p xs i v,x=.ref p∧y=.int i∧SqT K H p xs∧atI xs i=some v∧Q v H
def DZ:R2:=fun x y H Q=>∃ z i c,x=.str z∧y=.int i∧z.length≤sizeLine∧atI z.cps.toList i=some c∧Q (.str ⟨#[c]⟩) H
theorem zv:IxR X (DF X.K):=by
 intro value slice pins s σ H x y v u Q I rx ry h hs
 obtain ⟨p,xs,i,z,rfl,rfl,hq,he,q⟩:=h
 cases rx
 obtain ⟨t,rfl⟩:=ry
 obtain ⟨its,r,pl,hz⟩:=I.list hq
 obtain ⟨j,h1,h2,h3,h4,h5⟩:=gp he
 obtain ⟨w,ew,rw'⟩:=r.get h2
 have hl:=r.length
 have hn:=hV
 have fin:EP X pins σ Q w s:=⟨z,H,I,rw',q⟩
 by_cases h0:0≤i
 · have hj:i.toNat=j:=by
    rw [seqIndex_of h0 h5] at h1
    exact Option.some.inj h1
   exact item_listR pl.isList h0 (by omega) (by rw [hj];simpa using ew) fin hs
 · have hj:(i+(its.toArray.size:Int)).toNat=j:=by
    rw [seqIndex_neg (by omega) h4] at h1
    rw [List.size_toArray,←hl]
    exact Option.some.inj h1
   exact subscriptTail_builtinR (x:=w) pl.isList.typeIs slot_list_getitem.lookup
    (wpAny_getItem_list_neg (Q:=fun r s'=>r=w∧EP X pins σ Q r s') pl.isList (by omega) (by rw [List.size_toArray] <;> omega) (by omega) (by rw [hj];simpa using ew) ⟨rfl,fin⟩) hs
theorem CA:IxR X (Bl X.K):=by
 intro value slice pins s σ H x y v u Q I rx ry h hs
 obtain ⟨p,xs,i,z,rfl,rfl,hq,he,q⟩:=h
 cases rx
 obtain ⟨t,rfl⟩:=ry
 obtain ⟨its,r,pl,hz⟩:=I.tuple hq
 obtain ⟨j,h1,h2,h3,h4,h5⟩:=gp he
 obtain ⟨w,ew,rw'⟩:=r.get h2
 have hl:=r.length
 have hn:=hV
 have fin:EP X pins σ Q w s:=⟨z,H,I,rw',q⟩
 exact subscriptTail_builtinR (x:=w) pl.typeIs slot_tuple_getitem.lookup
  (getItem_tuple (j:=j) (Q:=fun r s'=>r=w∧EP X pins σ Q r s') pl (by omega) (by omega) (by rw [List.size_toArray,←hl];exact h1) (by simpa using ew) ⟨rfl,fin⟩) hs
theorem BB:IxR X DZ:=by
 intro value slice pins s σ H x y v u Q I rx ry h hs
 obtain ⟨z,i,c,rfl,rfl,hz,he,q⟩:=h
 obtain ⟨t,rfl⟩:=rx
 obtain ⟨t',rfl⟩:=ry
 obtain ⟨j,h1,h2,h3,h4,h5⟩:=gp he
 have hl:z.cps.toList.length=z.length:=by simp [Str.length]
 rw [hl] at h1 h4 h5
 have hn:=hV
 exact tail_any (typeIs_str s z t) slot_str_getitem.lookup (getItem_str (c:=c) (by
  have e1:decide (i< -(2^63:Int))=false:=decide_eq_false (by omega)
  have e2:decide (i≥2^63)=false:=decide_eq_false (by omega)
  rw [e1,e2,Bool.or_false]) (by rw [h1];simpa using h2) ⟨.str ⟨#[c]⟩,H,I.tok _,⟨_,rfl⟩,q⟩) hs
def rIx (K:W.Frag):R2:=fun x y H Q=>DF K x y H Q∨Bl K x y H Q∨DZ x y H Q
theorem DN:IxR X (rIx X.K):=zv.or (CA.or BB)
theorem tM (its:List Value) (n j:Nat) (u:Value):Obj.mapSeq (·.setIfInBounds j u) { cls:=.type "list",data:=.seq its.toArray n }={ cls:=.type "list",data:=.seq (its.set j u).toArray n }:=by
 simp [Obj.mapSeq]
theorem Inv.lst {pins:List (Addr×Obj)} {σ:St} {H:Hp} {s:Shared} {p:Addr} {xs:List V} (I:Inv X pins σ H s) (h:H p=some (.lst xs)):
  ∃ (its:List Value) (n:Nat),bc xs its∧s.heap.get? p=some { cls:=.type "list",data:=.seq its.toArray n }∧xs.length≤sizeLine:=by
 obtain ⟨z,its,n,r,e⟩:=I.hok p _ h
 exact ⟨its,n,r,e,z⟩
theorem Inv.lstUpd {pins:List (Addr×Obj)} {σ:St} {H:Hp} {s:Shared} {p:Addr} {xs ys:List V} {its its':List Value} {n n':Nat} {f:Obj→Obj} (I:Inv X pins σ H s) (h:H p=some (.lst xs))
  (ho:s.heap.get? p=some { cls:=.type "list",data:=.seq its.toArray n }) (hf:f { cls:=.type "list",data:=.seq its.toArray n }={ cls:=.type "list",data:=.seq its'.toArray n' }) (r:bc ys its') (hz:ys.length≤sizeLine) (t:Nat):
  Inv X pins σ (upd H p (.lst ys)) { s with heap:=s.heap.update p f,toks:=t }:=by
 have e:(s.heap.update p f).get? p=some { cls:=.type "list",data:=.seq its'.toArray n' }:=by
  rw [Heap.get?_update_self f ho (by rw [hf] <;> rfl),hf]
 refine I.write (x:=p) (e:=p) (by rw [h];trivial) (.inl rfl) (fun b u hb q=>(Heap.get?_update_other _ _ (Ne.symm hb)).trans q) ⟨_,e⟩ ?_
 exact ⟨hz,its',n',r,e⟩
def yD:V→V→V→Hp→(Hp→Prop)→Prop:=fun o i v H Q=>∃ p xs k j,o=.ref p∧i=.int k∧H p=some (.lst xs)∧ixN xs.length k=some j∧Q (upd H p (.lst (xs.set j v)))
theorem vU:sV X yD:=by
 intro pins s σ H o i v ov iv u Q I ro ri rv h
 obtain ⟨p,xs,k,j,rfl,rfl,hp,hj,q⟩:=h
 cases ro
 obtain ⟨t,rfl⟩:=ri
 obtain ⟨its,n,r,ho,hz⟩:=I.lst hp
 obtain ⟨h1,h2,h3,h4⟩:=qB hj
 have hl:=r.length
 have hn:=hV
 have I':Inv X pins σ (upd H p (.lst (xs.set j v))) { s with heap:=s.heap.update p (Obj.mapSeq (·.setIfInBounds j u)) }:=
   I.lstUpd hp ho (tM its n j u) (r.set rv j) (by rw [List.length_set];exact hz) s.toks
 by_cases h0:0≤k
 · have hk:k.toNat=j:=by
    rw [seqIndex_of h0 h4] at h1
    exact Option.some.inj h1
   exact W.ki_setAt ho h0 (by omega) (by rw [List.size_toArray,←hl];exact h4) (by rw [hk];exact ⟨_,I',q⟩)
 · have hk:(k+(its.toArray.size:Int)).toNat=j:=by
    rw [seqIndex_neg (by omega) h3] at h1
    rw [List.size_toArray,←hl]
    exact Option.some.inj h1
   exact W.ki_setBack ho (by omega) (by rw [List.size_toArray,←hl];exact h3) (by omega) (by rw [hk];exact ⟨_,I',q⟩)
theorem oR (lo hi : Option Int) (n : Nat) : (sliceBounds lo hi none n).1 = ((HT.sIx n 0 lo : Nat) : Int) ∧ (sliceBounds lo hi none n).2.1 = ((HT.sIx n n hi : Nat) : Int) ∧ (sliceBounds lo hi none n).2.2 = 1 := by
  refine ⟨?_, ?_, rfl⟩
  · cases lo with
    | none => simp [sliceBounds, HT.sIx]
    | some i =>
      simp only [sliceBounds, HT.sIx, Option.getD_none, show (1 : Int) > 0 by decide, if_true]
      by_cases h : i < 0
      · simp only [h, if_true] <;> omega
      · simp only [h, if_false] <;> omega
  · cases hi with
    | none => simp [sliceBounds, HT.sIx]
    | some i =>
      simp only [sliceBounds, HT.sIx, Option.getD_none, show (1 : Int) > 0 by decide, if_true]
      by_cases h : i < 0
      · simp only [h, if_true] <;> omega
      · simp only [h, if_false] <;> omega
theorem mY (its:List Value) (lo hi:Option Int):slicePick its.toArray lo hi none=((its.drop (HT.sIx its.length 0 lo)).take (HT.sIx its.length its.length hi - HT.sIx its.length 0 lo)).toArray:=by
 obtain ⟨h1,h2,h3⟩:=oR lo hi its.toArray.size
 unfold slicePick
 rw [h1,h2,h3]
 simp only [sliceRange_one,pick_run,List.size_toArray] <;> rfl
def CO (K:W.Frag):V→Option Int→Option Int→Hp→VK→Prop:=fun x lo hi H Q=>∃ a xs,x=.ref a∧SqL K H a xs∧∀ p,H p=none→Q (.ref p) (upd H p (.lst (cM xs lo hi)))
theorem As:SlR X (CO X.K):=by
 intro pins s σ H x v vl vu lo hi sl Q I rx hs pl pu h
 obtain ⟨a,xs,rfl,hx,q⟩:=h
 cases rx
 obtain ⟨its,r,ht,hz⟩:=I.list hx
 have hlen:=r.length
 refine ⟨"list",_,slot_list_getitem.lookup,ht.isList.typeIs,?_⟩
 refine wpAny_getItem_list_slice ht.isList hs pl pu .none (by simp) ?_ (by rw [List.size_toArray] <;> omega)
 rw [mY,←hlen]
 refine ⟨.ref s.heap.objs.size,_,I.laid (t':=s.toks) (o:=.lst (cM xs lo hi)) (fun b ob q=>Heap.get?_push_of_some _ q) (Nat.le_refl _) ?_,rfl,q _ (I.hok.fresh (Nat.le_refl _))⟩
 exact ⟨Nat.le_trans (kc xs lo hi) hz,_,0,(r.drop (HT.sIx xs.length 0 lo)).take (HT.sIx xs.length xs.length hi - HT.sIx xs.length 0 lo),Heap.get?_push_size _ rfl⟩
theorem bx.or {f:Value} {r r':List V→Hp→VK→Prop} (h:bx X f r) (h':bx X f r'):bx X f (fun xs H Q=>r xs H Q∨r' xs H Q):=by
 intro pins s σ H xs us Q I rs q
 rcases q with q | q
 · exact h pins s σ H xs us Q I rs q
 · exact h' pins s σ H xs us Q I rs q
theorem pX:bx X (.type "list") (fun xs H Q=>∃ p ys,xs=[.ref p]∧(SqL X.K H p ys∨SqT X.K H p ys)∧∀ l,H l=none→Q (.ref l) (upd H l (.lst ys))):=by
 intro pins s σ H xs us Q I r h
 obtain ⟨p,ys,rfl,hq,q⟩:=h
 obtain ⟨u,rfl,rx⟩:=fH r
 cases rx
 have fin:∀ (its:List Value),bc ys its→ys.length≤sizeLine→∀ (h':Heap) (c':Nat),(∀ b o',s.heap.get? b=some o'→h'.get? b=some o')→
    h'.get? s.heap.objs.size=some { cls:=.type "list",dict:=none,data:=.seq its.toArray c',slots:=#[] }→EP X pins σ Q (.ref s.heap.objs.size) { s with heap:=h' }:=fun its r' hz h' c' kp e=>
   ⟨.ref s.heap.objs.size,_,I.laid (t':=s.toks) kp (Nat.le_refl _) (show aZ X.prog X.w _ h' _ (.lst ys) from ⟨hz,its,c',r',e⟩),rfl,q _ (I.hok.fresh (Nat.le_refl _))⟩
 rcases hq with hq | hq
 · obtain ⟨its,r',pl,hz⟩:=I.list hq
   have hlen:=r'.length
   obtain ⟨o,ho,hc,n,hd⟩:=pl.isList
   exact call_list_seq p (.inl rfl) ho hc hd (fun h' c' kp e=>fin its r' hz h' c' kp e) (by simp only [List.size_toArray] <;> omega)
 · obtain ⟨its,r',pl,hz⟩:=I.tuple hq
   have hlen:=r'.length
   obtain ⟨o,ho,hc,n,hd⟩:=pl
   exact call_list_seq p (.inr rfl) ho hc hd (fun h' c' kp e=>fin its r' hz h' c' kp e) (by simp only [List.size_toArray] <;> omega)
theorem mZ:bx X (.type "tuple") (fun xs H Q=>∃ p ys,xs=[.ref p]∧((SqL X.K H p ys∧∀ l,H l=none→Q (.ref l) (upd H l (.tup ys)))∨(SqT X.K H p ys∧Q (.ref p) H))):=by
 intro pins s σ H xs us Q I r h
 obtain ⟨p,ys,rfl,h⟩:=h
 obtain ⟨u,rfl,rx⟩:=fH r
 cases rx
 rcases h with ⟨hq,q⟩ | ⟨hq,q⟩
 · obtain ⟨its,r',pl,hz⟩:=I.list hq
   have hlen:=r'.length
   refine call_tuple_list pl.isList (fun h' kp=>?_) (by simp only [List.size_toArray] <;> omega)
   have I1:Inv X pins σ H { s with heap:=h' }:=I.kept (t':=s.toks) kp
   have I2:Inv X pins σ (upd H h'.objs.size (.tup ys)) { s with heap:=h'.push { cls:=.type "tuple",data:=.seq its.toArray } }:=
    I1.laid (t':=s.toks) (fun b o e=>Heap.get?_push_of_some _ e) (Nat.le_refl _) (show aZ X.prog X.w _ _ _ (.tup ys) from ⟨hz,its,r',IsTup.new _ _⟩)
   exact ⟨.ref h'.objs.size,_,I2,rfl,q _ (I1.hok.fresh (Nat.le_refl _))⟩
 · obtain ⟨its,r',pl,hz⟩:=I.tuple hq
   exact call_tuple_same pl ⟨.ref p,H,I,rfl,q⟩
def tyV (K:W.Frag) (T:String) (x:V) (H:Hp):Prop:=match x with
 | .str _=>T= "str"
 | .int _=>T= "int"
 | .ref p=>(T= "list" ∧∃ xs,SqL K H p xs)∨(T= "tuple" ∧∃ o,K.lookup p=some o∧o.cls=.type "tuple" ∧o.dict=none)∨
  (T= "dict" ∧((∃ kvs,H p=some (.dK kvs))∨∃ kvs,H p=some (.dT kvs)))∨(T= "set" ∧∃ S n,H p=some (.set S n))
 | _=>False
theorem BV {pins : List (Addr × Obj)} {σ : St} {H : Hp} {s : Shared} {T : String} {x : V} {v : Value} (I : Inv X pins σ H s) (r : aX x v) (ty : tyV X.K T x H) :
    s.TypeIs v T ∧ ∀ a, v = .ref a → ∃ ob, s.heap.get? a = some ob ∧ ob.dict = none := by
  cases x with
  | str z =>
    obtain ⟨t, rfl⟩ := r
    cases (show T = "str" from ty)
    exact ⟨typeIs_str s z t, fun _ e => nomatch e⟩
  | int i =>
    obtain ⟨t, rfl⟩ := r
    cases (show T = "int" from ty)
    exact ⟨typeIs_int s i t, fun _ e => nomatch e⟩
  | ref p =>
    cases r
    rcases ty with ⟨rfl, xs, hq⟩ | ⟨rfl, o, hk, hc, hd⟩ | ⟨rfl, hk⟩ | ⟨rfl, S, n, hk⟩
    · obtain ⟨its, _, pl, _⟩ := I.list hq
      refine ⟨pl.isList.typeIs, fun a e => ?_⟩
      cases e
      obtain ⟨o, n, e, c, hd, _⟩ := pl
      exact ⟨o, e, hd⟩
    · refine ⟨⟨o, I.kIn p o hk, hc⟩, fun a e => ?_⟩
      cases e
      exact ⟨o, I.kIn _ o hk, hd⟩
    · have z : ∃ o, s.heap.get? p = some o ∧ o.ExactDict := by
        rcases hk with ⟨kvs, hk⟩ | ⟨kvs, hk⟩
        · obtain ⟨_, _, _, _, o, _, _, e, ex, _⟩ := I.hok p _ hk
          exact ⟨o, e, ex⟩
        · obtain ⟨_, _, _, _, o, _, _, e, ex, _⟩ := I.hok p _ hk
          exact ⟨o, e, ex⟩
      obtain ⟨o, e, ex⟩ := z
      refine ⟨⟨o, e, ex.1⟩, fun a e2 => ?_⟩
      cases e2
      exact ⟨o, e, ex.2.1⟩
    · obtain ⟨o, _, _, _, e, ex, _⟩ := I.hok p _ hk
      refine ⟨⟨o, e, ex.1⟩, fun a e2 => ?_⟩
      cases e2
      exact ⟨o, e, ex.2.1⟩
  | _ => exact False.elim ty
def tBM (K:W.Frag) (T:String) (r:V→List V→Hp→VK→Prop) (to:TE) (t:TA):TE:=fun σ H Q=>to σ H fun x H1=>tyV K T x H1∧t σ H1 fun xs H2=>r x xs H2 Q
variable {o e:Expr} {es:List Expr} {to:TE} {t:TA} {name:Str} {apos cpos:Pos} {T id:String} {r:V→List V→Hp→VK→Prop}
theorem Gy (pa : PlainAttrs T) (slot : Slot T name id) (hty : typeOf (.builtin id) = pure (.type "method_descriptor")) (hm : MtR X id r) (ho : PE X o to) (ha : PA X (e :: es) t)
  (hbase : attributeBase o name X.env (eval o X.env) = eval o X.env := by rfl)
  (hfew : ((backTo cpos (starEach (e :: es) X.env)).all (fun x => !x.1) && (backToKw cpos (keywordEach [] X.env)).all (fun x => x.1.isSome)
   && decide ((e :: es).length + ([] : List Keyword).length + (if ([] : List Keyword).isEmpty then 0 else 1) < 30)) = true := by rfl)
  (hline : (apos.endLine == cpos.line) = true := by rfl) (hs : starEach (e :: es) X.env = (false, eval e X.env) :: starEach es X.env := by rfl) (hplain : (backTo cpos (starEach es X.env)).any (·.1) = false := by rfl) :
  PE X (.Call (.Attribute o name apos) (e :: es) [] cpos) (tBM X.K T r to t) := by
 intro pins s σ H Q I h
 refine wpAny_Call_method_late hbase hfew hline rfl (thn (ho pins s σ H _ I h) fun v s1 ⟨x, H1, I1, r1, ty, q1⟩ => ?_)
 obtain ⟨h1, h2⟩ := BV I1 r1 ty
 refine ⟨T, id, pa, slot, hty, h1, h2, ?_⟩
 have hA := ha cpos pins s1 σ H1 _ I1 q1
 rw [hs] at hA ⊢
 refine Calls.callWith_builtin (by show (false || (backTo cpos (starEach es X.env)).any (·.1)) = false; rw [hplain] <;> rfl) (Calls.evalArgs_plain ?_)
 exact thn hA fun us s2 ⟨vs, H2, I2, r2, q2⟩ => hm pins s2 σ H2 x vs v us Q I2 r1 r2 q2
end
def MtM (X:Cx) (id:String) (r:V→List V→Hp→VK→Prop):Prop:=
 ∀ (pins:List (Addr×Obj)) (s:Shared) (σ:St) (H:Hp) (x:V) (xs:List V) (v:Value) (us:List Value) (Q:VK),Inv X pins σ H s→aX x v→bc xs us→r x xs H Q→
  wpAny (model X.prog X.w) X.A (call (.builtin id) (v::us)) (EP X pins σ Q) X.xe s
theorem bc.one:∀ {x:V} {us:List Value},bc [x] us→∃ u,us=[u]∧aX x u
 | _,_,.cons r .nil=>⟨_,rfl,r⟩
section
variable {X:Cx} {pins:List (Addr×Obj)} {σ:St} {H:Hp} {s:Shared} {l b:Addr} {xs ys zs:List V}
theorem Inv.lset {its its':List Value} {n:Nat} {f:Array Value→Array Value} {t':Nat} (I:Inv X pins σ H s) (hH:H l=some (.lst xs))
  (e:s.heap.get? l=some { cls:=.type "list",data:=.seq its.toArray n }) (hf:f its.toArray=its'.toArray) (hv:bc ys its') (hz:ys.length≤sizeLine):
  Inv X pins σ (upd H l (.lst ys)) { s with heap:=s.heap.update l (Obj.mapSeq f),toks:=t' }:=by
 have q:=PySem.IsL.update e f
 rw [hf] at q
 refine I.write (x:=l) (e:=l) (by rw [hH];exact trivial) (.inl rfl) (fun b' u hb hu=>(Heap.get?_update_other s.heap (Obj.mapSeq f) (Ne.symm hb)).trans hu) ⟨_,q⟩ ?_
 exact ⟨hz,its',_,hv,q⟩
theorem Inv.lnew {its:List Value} {t':Nat} (I:Inv X pins σ H s) (hv:bc ys its) (hz:ys.length≤sizeLine):
  Inv X pins σ (upd H s.heap.objs.size (.lst ys)) { s with heap:=s.heap.push { cls:=.type "list",data:=.seq its.toArray },toks:=t' }:=
 I.laid (fun _ _ q=>Heap.get?_push_of_some _ q) (Nat.le_refl _) ⟨hz,its,0,hv,Heap.get?_push_size _ rfl⟩
theorem Inv.fresh (I:Inv X pins σ H s):H s.heap.objs.size=none:=I.hok.fresh (Nat.le_refl _)
theorem Inv.lstM (I:Inv X pins σ H s) (hH:H l=some (.lst xs)):xs.length≤sizeLine∧∃ (its:List Value) (n:Nat),bc xs its∧xs.length=its.length∧s.heap.get? l=some { cls:=.type "list",data:=.seq its.toArray n }:=by
 obtain ⟨z,its,n,r,e⟩:=I.hok l _ hH
 exact ⟨z,its,n,r,r.length,e⟩
end
section
variable {X:Cx}
def rk:V→List V→Hp→VK→Prop:=fun x vs H Q=>∃ l xs y,x=.ref l∧vs=[y]∧H l=some (.lst xs)∧xs.length<sizeLine∧Q .non (upd H l (.lst (xs++[y])))
theorem my:MtM X "list.append" rk:=by
 intro pins s σ H x vs v us Q I rx rv h
 obtain ⟨l,xs,y,rfl,rfl,hH,hz,q⟩:=h
 cases rx
 obtain ⟨u,rfl,ru⟩:=rv.one
 obtain ⟨z,its,n,r,hl,e⟩:=I.lstM hH
 refine call_meets F.slot_list_append ⟨_,e,rfl⟩ F.entry_list_append (F.args_list_append_2 _ _) (PySem.list_append l its.toArray n u (by rw [List.size_toArray];omega)) ⟨e,?_⟩
 refine ⟨.non,_,I.lset (its':=its++[u]) hH e (by simp) (r.append (.cons ru .nil)) ?_,rfl,q⟩
 rw [List.length_append,List.length_singleton]
 omega
def Cz:R2:=fun x y H Q=>∃ l b xs zs,x=.ref l∧y=.ref b∧H l=some (.lst xs)∧H b=some (.lst zs)∧xs.length+zs.length≤sizeLine∧∀ p,H p=none→Q (.ref p) (upd H p (.lst (xs++zs)))
theorem AE:OpR X (binaryOp .Add) Cz:=by
 intro pins s σ H x y v u Q I rx ry h
 obtain ⟨l,b,xs,zs,rfl,rfl,hH,hB,hz,q⟩:=h
 cases rx
 cases ry
 obtain ⟨z,its,n,r,hl,e⟩:=I.lstM hH
 obtain ⟨z2,its2,n2,r2,hl2,e2⟩:=I.lstM hB
 refine PySem.P.add_list e e2 ?_ (by rw [List.size_toArray,List.size_toArray];omega)
 have ea:its.toArray++its2.toArray=(its++its2).toArray:=by simp
 rw [ea]
 exact ⟨.ref _,_,I.lnew (t':=s.toks) (r.append r2) (by rw [List.length_append];omega),rfl,q _ I.fresh⟩
end
section
variable {prog:Program} {w:World} {A:Around} {E:Value→Shared→Prop} {s:Shared}
set_option maxRecDepth 100000 in
end

section
variable {κ:Type} [DecidableEq κ]
def cf (kvs:List (κ×V)) (k:κ):Option V:=(kvs.find? fun kv=>decide (kv.1=k)).map (·.2)
def cX (kvs:List (κ×V)) (k:κ) (v:V):List (κ×V):=
 if (kvs.any fun kv=>decide (kv.1=k))=true then kvs.map (fun kv=>if kv.1=k then (kv.1,v) else kv) else kvs++[(k,v)]
theorem cR {p:κ×V} {r:List (κ×V)} {k:κ} (e:p.1=k):cf (p::r) k=some p.2:=by simp [cf,List.find?_cons,e]
theorem cU {p:κ×V} {r:List (κ×V)} {k:κ} (e:¬ p.1=k):cf (p::r) k=cf r k:=by simp [cf,List.find?_cons,e]
theorem gx (k : κ) : ∀ kvs : List (κ × V), (kvs.any fun kv => decide (kv.1 = k)) = (cf kvs k).isSome
  | [] => rfl
  | p :: r => by
    rw [List.any_cons]
    by_cases e : p.1 = k
    · simp only [cR e, decide_eq_true e, Bool.true_or, Option.isSome_some]
    · rw [cU e, decide_eq_false e, Bool.false_or]; exact gx k r
theorem pZ (k j : κ) (y : V) : ∀ kvs : List (κ × V), cf (kvs.map fun kv => if kv.1 = k then (kv.1, y) else kv) j = (cf kvs j).map fun x => if j = k then y else x
  | [] => rfl
  | p :: r => by
    have ih := pZ k j y r
    rw [List.map_cons]
    by_cases h : p.1 = k
    · rw [if_pos h]
      by_cases e : p.1 = j
      · rw [cR (p := (p.1, y)) e, cR e, Option.map_some, if_pos (e.symm.trans h)]
      · rw [cU (p := (p.1, y)) e, cU e, ih]
    · rw [if_neg h]
      by_cases e : p.1 = j
      · rw [cR (p := p) e, cR e, Option.map_some, if_neg (fun z => h (e.trans z))]
      · rw [cU (p := p) e, cU e, ih]
theorem mF (k j : κ) (y : V) : ∀ kvs : List (κ × V), cf kvs k = none → cf (kvs ++ [(k, y)]) j = if j = k then some y else cf kvs j
  | [], _ => by
    by_cases e : k = j
    · rw [if_pos e.symm]; exact cR (p := (k, y)) e
    · rw [if_neg (fun z => e z.symm)]; exact cU (p := (k, y)) e
  | p :: r, hn => by
    rw [List.cons_append]
    have hk : ¬ p.1 = k := fun z => by rw [cR z] at hn; cases hn
    rw [cU hk] at hn
    have ih := mF k j y r hn
    by_cases e : p.1 = j
    · rw [cR e, cR e, if_neg (fun z => hk (e.trans z))]
    · rw [cU e, cU e, ih]
theorem wb (kvs:List (κ×V)) (k j:κ) (y:V):cf (cX kvs k y) j=if j=k then some y else cf kvs j:=by
 unfold cX
 by_cases a:(kvs.any fun kv=>decide (kv.1=k))=true
 · rw [if_pos a,pZ]
   rw [gx] at a
   by_cases e:j=k
   · obtain ⟨x,hx⟩:=Option.isSome_iff_exists.mp a
     rw [if_pos e,e,hx,Option.map_some,if_pos rfl]
   · rw [if_neg e]
     cases cf kvs j with
     | none=>rfl
     | some x=>rw [Option.map_some,if_neg e]
 · rw [if_neg a]
   refine mF k j y kvs ?_
   rw [gx] at a
   cases q:cf kvs k with
   | none=>rfl
   | some x=>rw [q] at a;exact (a rfl).elim
theorem fG (kvs:List (κ×V)) (k:κ) (v:V):(cX kvs k v).length≤kvs.length+1:=by
 unfold cX
 split
 · rw [List.length_map];omega
 · rw [List.length_append,List.length_cons,List.length_nil];omega
theorem xJ {kvs:List (κ×V)} {k:κ} (v:V) (h:cf kvs k=none):cX kvs k v=kvs++[(k,v)]:=by
 unfold cX
 rw [gx,h]
 exact if_neg (by decide)
theorem cJ.isSome_eq {o : Option V} {u : Option Value} (r : cJ o u) : o.isSome = u.isSome := by
  cases o with
  | none => cases u with
    | none => rfl
    | some _ => exact (show False from r).elim
  | some _ => cases u with
    | none => exact (show False from r).elim
    | some _ => rfl
theorem KV.val {kvs : List (κ × V)} {vs : List (κ × Value)} (r : KV kvs vs) (k : κ) : cJ (cf kvs k) (valueAt vs k) := by
  unfold KV at r
  induction r with
  | nil => exact True.intro
  | @cons p q ps qs h t ih =>
    obtain ⟨h1, h2⟩ := h
    by_cases e : p.1 = k
    · have e' : q.1 = k := h1.symm.trans e
      have b : valueAt (q :: qs) k = some q.2 := by simp [valueAt, List.find?_cons, e']
      rw [cR e, b]; exact h2
    · have e' : ¬ q.1 = k := fun z => e (h1.trans z)
      have b : valueAt (q :: qs) k = valueAt qs k := by simp [valueAt, List.find?_cons, e']
      rw [cU e, b]; exact ih
theorem KV.any {kvs:List (κ×V)} {vs:List (κ×Value)} (r:KV kvs vs) (k:κ):(kvs.any fun kv=>decide (kv.1=k))=vs.any fun kv=>decide (kv.1=k):=by
 unfold KV at r
 induction r with
 | nil=>rfl
 | cons h t ih=>rw [List.any_cons,List.any_cons,ih,h.1]
theorem KV.repl {kvs : List (κ × V)} {vs : List (κ × Value)} (r : KV kvs vs) (k : κ) {y : V} {u : Value} (ry : aX y u) :
    KV (kvs.map fun kv => if kv.1 = k then (kv.1, y) else kv) (vs.map fun kv => if kv.1 = k then (kv.1, u) else kv) := by
  unfold KV at r ⊢
  induction r with
  | nil => exact .nil
  | @cons p q ps qs h t ih =>
    rw [List.map_cons, List.map_cons]
    refine .cons ?_ ih
    obtain ⟨h1, h2⟩ := h
    by_cases e : p.1 = k
    · rw [if_pos e, if_pos (h1.symm.trans e)]; exact ⟨h1, ry⟩
    · rw [if_neg e, if_neg (fun z => e (h1.trans z))]; exact ⟨h1, h2⟩
theorem KV.put {kvs:List (κ×V)} {vs:List (κ×Value)} (r:KV kvs vs) (k:κ) {y:V} {u:Value} (ry:aX y u):KV (cX kvs k y) (stored vs k u):=by
 unfold cX stored
 rw [r.any k]
 by_cases e:(vs.any fun kv=>decide (kv.1=k))=true
 · rw [if_pos e,if_pos e];exact r.repl k ry
 · rw [if_neg e,if_neg e];exact Paired.snoc r ⟨rfl,ry⟩
theorem KV.length {kvs:List (κ×V)} {vs:List (κ×Value)} (r:KV kvs vs):kvs.length=vs.length:=Paired.length r
end
theorem jF {P:Program} {w:World} {k:Key} {u:Value} (r:aX (kV k) u):(ck P w).is k u=true:=by
 cases k with
 | inl i=>obtain ⟨t,e⟩:=(show ∃ t,u=Value.int i t from r);subst e;exact qm P w i t
 | inr x=>obtain ⟨t,e⟩:=(show ∃ t,u=Value.str x t from r);subst e;exact qh P w x t
theorem CY {a b : Key} (e : kV a = kV b) : a = b := by
  cases a with
  | inl i => cases b with
    | inl j => have e' : V.int i = V.int j := e; injection e' with e'; rw [e']
    | inr y => exact nomatch (show V.int i = V.str y from e)
  | inr x => cases b with
    | inl j => exact nomatch (show V.str x = V.int j from e)
    | inr y => have e' : V.str x = V.str y := e; injection e' with e'; rw [e']
theorem qD : ∀ {a b : List Key}, a.map kV = b.map kV → a = b
  | [], [], _ => rfl
  | [], _ :: _, e => by simp at e
  | _ :: _, [], e => by simp at e
  | x :: xs, y :: ys, e => by
    rw [List.map_cons, List.map_cons] at e
    injection e with e1 e2
    rw [CY e1, qD e2]
theorem mE {P : Program} {w : World} : ∀ {ks : List Key} {us : List Value}, bc (ks.map kV) us → ItemsAre (ck P w) ks us
  | [], _, r => by rw [List.map_nil] at r; cases r; exact .nil
  | k :: ks, _, r => by
    rw [List.map_cons] at r
    cases r with
    | cons h t => exact .cons (jF h) (mE t)
abbrev KT (H:Hp):List (List Key×V)→List (List Key×Addr×Value)→Prop:=Paired fun p q=>p.1=q.1∧H q.2.1=some (.tup (p.1.map kV))∧aX p.2 q.2.2
theorem KT.val {H : Hp} {kvs : List (List Key × V)} {xs : List (List Key × Addr × Value)} (r : KT H kvs xs) (k : List Key) : cJ (cf kvs k) ((atKey xs k).map (·.2)) := by
  induction r with
  | nil => exact True.intro
  | @cons p q ps qs h t ih =>
    obtain ⟨h1, _, h2⟩ := h
    by_cases e : p.1 = k
    · have e' : q.1 = k := h1.symm.trans e
      have b : atKey (q :: qs) k = some q.2 := by simp [atKey, List.find?_cons, e']
      rw [cR e, b]; exact h2
    · have e' : ¬ q.1 = k := fun z => e (h1.trans z)
      have b : atKey (q :: qs) k = atKey qs k := by simp [atKey, List.find?_cons, e']
      rw [cU e, b]; exact ih
theorem KT.repl {H : Hp} {kvs : List (List Key × V)} {xs : List (List Key × Addr × Value)} (r : KT H kvs xs) (k : List Key) {y : V} {u : Value} (ry : aX y u) :
    KT H (kvs.map fun kv => if kv.1 = k then (kv.1, y) else kv) (xs.map (putAt k u)) := by
  induction r with
  | nil => exact .nil
  | @cons p q ps qs h t ih =>
    rw [List.map_cons, List.map_cons]
    refine .cons ?_ ih
    obtain ⟨h1, h2, h3⟩ := h
    unfold putAt
    by_cases e : p.1 = k
    · rw [if_pos e, if_pos (h1.symm.trans e)]; exact ⟨h1, h2, ry⟩
    · rw [if_neg e, if_neg (fun z => e (h1.trans z))]; exact ⟨h1, h2, h3⟩
theorem KT.put {H:Hp} {kvs:List (List Key×V)} {xs:List (List Key×Addr×Value)} (r:KT H kvs xs) (k:List Key) {b:Addr} {y:V} {u:Value} (hb:H b=some (.tup (k.map kV))) (ry:aX y u):
   KT H (cX kvs k y) (storedH xs k b u):=by
 have e:(kvs.any fun kv=>decide (kv.1=k))=(atKey xs k).isSome:=by
   rw [gx,(r.val k).isSome_eq,Option.isSome_map]
 unfold cX storedH
 rw [e]
 by_cases q:(atKey xs k).isSome=true
 · rw [if_pos q,if_pos q];exact r.repl k ry
 · rw [if_neg q,if_neg q];exact Paired.snoc r ⟨rfl,hb,ry⟩
theorem KT.keeps {H H':Hp} {kvs:List (List Key×V)} {xs:List (List Key×Addr×Value)} (r:KT H kvs xs) (ht:∀ b ys,H b=some (.tup ys)→H' b=some (.tup ys)):KT H' kvs xs:=
 Paired.mapP r fun _ _ z=>⟨z.1,ht _ _ z.2.1,z.2.2⟩
section
variable {P:Program} {w:World} {H:Hp} {h:Heap} {a:Addr}
theorem zt {u:HO} (ok:HOk P w H h) (e:Rd H a u):aZ P w H h a u:=e.ok ok
theorem jL {kvs:List (Key×V)} (ok:HOk P w H h) (e:Rd H a (.dK kvs)):kvs.length≤sizeLine∧(a==sysModules)=false∧∃ vs,KV kvs vs∧h.DictOf (ck P w) a vs:=
 show aZ P w H h a (.dK kvs) from zt ok e
theorem yw {kvs:List (Key×V)} (ok:HOk P w H h) (e:H a=some (.dK kvs)):kvs.length≤sizeLine∧(a==sysModules)=false∧∃ vs,KV kvs vs∧h.DictOf (ck P w) a vs:=jL ok (.inl e)
theorem ia {ks:List Key} (ok:HOk P w H h) (e:H a=some (.tup (ks.map kV))):(tupleKind (ck P w)).is h ks a:=by
 obtain ⟨_,its,r,o,h1,h2,n,h3⟩:=(show aZ P w H h a (.tup (ks.map kV)) from ok a _ e)
 exact ⟨o,its.toArray,n,h1,h2,h3,by simpa using mE r⟩
theorem li {kvs : List (List Key × V)} (ok : HOk P w H h) (e : Rd H a (.dT kvs)) : kvs.length ≤ sizeLine ∧ (a == sysModules) = false ∧
    ∃ xs, KT H kvs xs ∧ h.DictOfH (tupleKind (ck P w)) a xs := by
  obtain ⟨z, y, xs, r, o, es, ep, h1, h2, h3, h4, h5⟩ := (show aZ P w H h a (.dT kvs) from zt ok e)
  refine ⟨z, y, xs, r, o, es, ep, h1, h2, h3, h4, fun x hx => ?_, h5⟩
  have all : ∀ {l : List (List Key × V)} {m : List (List Key × Addr × Value)}, KT H l m → ∀ x ∈ m, (tupleKind (ck P w)).is h x.1 x.2.1 := by
    intro l m q
    induction q with
    | nil => intro x hx; exact nomatch hx
    | @cons p q ps qs hq t ih =>
      intro x hx
      rcases List.mem_cons.mp hx with e | hx
      · subst e
        exact ia ok (by rw [← hq.1]; exact hq.2.1)
      · exact ih x hx
  exact all r x hx
theorem sO {kvs:List (List Key×V)} (ok:HOk P w H h) (e:H a=some (.dT kvs)):kvs.length≤sizeLine∧(a==sysModules)=false∧
 ∃ xs,KT H kvs xs∧h.DictOfH (tupleKind (ck P w)) a xs:=li ok (.inl e)
end
def fN (H:Hp) (a:Addr) (y:V) (r:Option V):Prop:=
 (∃ kvs k,Rd H a (.dK kvs)∧y=kV k∧r=cf kvs k)∨∃ kvs k b,Rd H a (.dT kvs)∧y=.ref b∧H b=some (.tup (k.map kV))∧r=cf kvs k
def ym (H:Hp) (a:Addr) (y v:V) (H':Hp):Prop:=
 (∃ kvs k,H a=some (.dK kvs)∧y=kV k∧kvs.length<sizeLine∧H'=upd H a (.dK (cX kvs k v)))∨
 ∃ kvs k b,H a=some (.dT kvs)∧y=.ref b∧H b=some (.tup (k.map kV))∧kvs.length<sizeLine∧H'=upd H a (.dT (cX kvs k v))
theorem fN.t {H:Hp} {a b:Addr} {kvs:List (List Key×V)} {k:List Key} (e:H a=some (.dT kvs)) (eb:H b=some (.tup (k.map kV))):fN H a (.ref b) (cf kvs k):=.inr ⟨kvs,k,b,.inl e,rfl,eb,rfl⟩
section
variable {X:Cx} {pins:List (Addr×Obj)} {σ:St} {H:Hp} {s:Shared} {a:Addr} {y v:V} {u r:Value} {o:Option V} {A:Around} {E:Value→Shared→Prop}
theorem Inv.big (I:Inv X pins σ H s):sysModules<s.heap.objs.size:=by
 have h:mainGlobals<s.heap.objs.size:=(I.mod.glob.keeps I.bk).lt
 exact Nat.lt_trans (by decide) h
theorem vp {Q:Value→Shared→Prop} (hu:A.units+1<cLine) (I:Inv X pins σ H s) (g:fN H a y (some v)) (ry:aX y u) (h:∀ w' s',Inv X pins σ H s'→aX v w'→Q w' s'):
   wpAny (model X.prog X.w) A (getItem (.ref a) u) Q E s:=by
 rcases g with ⟨kvs,k,e,ey,l⟩ | ⟨kvs,k,b,e,ey,eb,l⟩
 · subst ey
   obtain ⟨z,hd,vs,rel,dd⟩:=jL I.hok e
   obtain ⟨w',hw,rw'⟩:=cJ.some_of (v:=v) (o:=valueAt vs k) (by rw [l];exact rel.val k)
   exact wpAny_getItem_of (jF ry) dd.mapOf hw (h w' _ (I.tok _) rw')
 · subst ey
   cases (show u=Value.ref b from ry)
   obtain ⟨z,hd,xs,rel,dd⟩:=li I.hok e
   obtain ⟨w',hw,rw'⟩:=cJ.some_of (v:=v) (o:=(atKey xs k).map (·.2)) (by rw [l];exact rel.val k)
   obtain ⟨p,hp,hp2⟩:=Option.map_eq_some_iff.mp hw
   refine wpAny_getItem_heap (tupleKind_room_in1 hu) (ia I.hok eb) dd hp ?_
   rw [hp2]
   exact h w' _ (I.tok _) rw'
theorem Am {Q:Value→Shared→Prop} (hu:A.units+1<cLine) (I:Inv X pins σ H s) (g:fN H a y o) (ry:aX y u) (h:∀ s',Inv X pins σ H s'→Q (.bool (!o.isSome)) s'):
   wpAny (model X.prog X.w) A (compareOp .NotIn u (.ref a)) Q E s:=by
 rcases g with ⟨kvs,k,e,ey,l⟩ | ⟨kvs,k,b,e,ey,eb,l⟩
 · subst ey
   obtain ⟨z,hd,vs,rel,dd⟩:=jL I.hok e
   refine wpAny_notIn_of (jF ry) hd dd.mapOf ?_
   rw [← (rel.val k).isSome_eq,←l]
   exact h _ (I.tok _)
 · subst ey
   cases (show u=Value.ref b from ry)
   obtain ⟨z,hd,xs,rel,dd⟩:=li I.hok e
   refine wpAny_notIn_heap (tupleKind_room_in1 hu) (ia I.hok eb) hd dd ?_
   have q:=(rel.val k).isSome_eq
   rw [Option.isSome_map] at q
   rw [← q,←l]
   exact h _ (I.tok _)
theorem jz {h':Heap} {t':Nat} {ob:HO} (I:Inv X pins σ H s) (mu:Mut (H a)) (hs:Heap.SameBut a s.heap h') (he:∃ q,h'.get? a=some q) (new:aZ X.prog X.w (upd H a ob) h' a ob):
  Inv X pins σ (upd H a ob) { s with heap:=h',toks:=t' }:=
 I.write (x:=a) (e:=a) mu (.inl rfl) (fun b q hb z=>(hs.2 b hb).trans z) he new
theorem um {P:Program} {w:World} {H':Hp} {h':Heap} {kvs:List (Key×V)} {vs:List (Key×Value)} (z:kvs.length≤sizeLine) (hd:(a==sysModules)=false) (rel:KV kvs vs) (dd:h'.DictOf (ck P w) a vs):
 aZ P w H' h' a (.dK kvs):=⟨z,hd,vs,rel,dd⟩
theorem tT {H':Hp} {Q:Unit→Shared→Prop} (hu:A.units+1<cLine) (I:Inv X pins σ H s) (g:ym H a y v H') (ry:aX y u) (rv:aX v r) (h:∀ s',Inv X pins σ H' s'→Q () s'):
   wpAny (model X.prog X.w) A (setItem (.ref a) u r) Q E s:=by
 rcases g with ⟨kvs,k,e,ey,l,eH⟩ | ⟨kvs,k,b,e,ey,eb,l,eH⟩
 · subst ey eH
   obtain ⟨z,hd,vs,rel,dd⟩:=yw I.hok e
   have hz:vs.length≤sizeLine:=by rw [← rel.length];exact z
   have hl:(cX kvs k v).length≤sizeLine:=by have:=fG kvs k v;omega
   refine wpAny_setItem_pairs (hsz:=hz) (jF ry) dd fun h' dd' hs=>h _ ?_
   have he:∃ q,h'.get? a=some q:=let ⟨q,_,_,hq,_⟩:=dd';⟨q,hq⟩
   exact jz I (by rw [e];exact True.intro) hs he (um hl hd (rel.put k rv) dd')
 · subst ey eH
   cases (show u=Value.ref b from ry)
   obtain ⟨z,hd,xs,rel,dd⟩:=sO I.hok e
   have hz:xs.length≤sizeLine:=by rw [← Paired.length rel];exact z
   have hl:(cX kvs k v).length≤sizeLine:=by have:=fG kvs k v;omega
   refine wpAny_setItem_heap (hsz:=hz) (tupleKind_room_in1 hu) (ia I.hok eb) dd fun h' dd' hs=>h _ ?_
   obtain ⟨q,es,ep,hq,h2,h3,h4,_,h5⟩:=dd'
   refine jz I (by rw [e];exact True.intro) hs ⟨q,hq⟩ ⟨hl,hd,_,(rel.put k eb rv).keeps fun c ys ec=>?_,q,es,ep,hq,h2,h3,h4,h5⟩
   rw [au (dR ec e (fun z=>nomatch z))]
   exact ec
end
section
variable {X:Cx} {pins:List (Addr×Obj)} {σ:St} {H:Hp} {s:Shared} {a:Addr} {kvs:List (Key×V)} {k:Key} {u:Value} {A:Around} {E:Value→Shared→Prop}
theorem EM {Q:Value→Shared→Prop} (I:Inv X pins σ H s) (e:Rd H a (.dK kvs)) (h:∀ t s',Inv X pins σ H s'→Q (.int kvs.length t) s'):wpAny (model X.prog X.w) A (call (.builtin "len") [.ref a]) Q E s:=by
 obtain ⟨z,hd,vs,rel,dd⟩:=jL I.hok e
 refine call_len_dict hd dd (by rw [← rel.length];rw [sizeLine_eq] at z;omega) ?_
 rw [← rel.length]
 exact h _ _ (I.tok _)
end
theorem qb {X:Cx} {pins:List (Addr×Obj)} {σ:St} {H:Hp} {s:Shared} {a:Addr} {y:V} {o:Option V} (I:Inv X pins σ H s) (g:fN H a y o):s.TypeIs (.ref a) "dict" :=by
 rcases g with ⟨kvs,k,e,_,_⟩ | ⟨kvs,k,b,e,_,_,_⟩
 · obtain ⟨_,_,vs,_,dd⟩:=jL I.hok e
   exact dd.typeIs
 · obtain ⟨_,_,xs,_,dd⟩:=li I.hok e
   exact dd.typeIs
theorem xK {P:Program} {w:World} {H:Hp} (h:Heap) (hb:sysModules<h.objs.size):aZ P w H (h.push { cls:=.type "dict",data:=.dict #[] }) h.objs.size (.dK []):=
 ⟨Nat.zero_le _,beq_eq_false_iff_ne.mpr (Ne.symm (Nat.ne_of_lt hb)),[],.nil,Heap.DictOf.new h⟩
theorem wK {P:Program} {w:World} {H:Hp} (h:Heap) (hb:sysModules<h.objs.size):aZ P w H (h.push { cls:=.type "dict",data:=.dict #[] }) h.objs.size (.dT []):=
 ⟨Nat.zero_le _,beq_eq_false_iff_ne.mpr (Ne.symm (Nat.ne_of_lt hb)),[],.nil,_,#[],0,Heap.get?_push_size _ rfl,⟨rfl,rfl,rfl⟩,rfl,rfl,List.nodup_nil⟩
def ul:TE:=fun _ H Q=>∀ p,H p=none→Q (.ref p) (upd H p (.dK []))
def vm:TE:=fun _ H Q=>∀ p,H p=none→Q (.ref p) (upd H p (.dT []))
section
variable {X:Cx} {pos:Pos}
theorem wD:PE X (.Dict [] [] pos) ul:=fun pins s σ H Q I h=>
 wpAny_Dict_empty ⟨.ref s.heap.objs.size,_,I.laid (a:=s.heap.objs.size) (o:=.dK []) (t':=s.toks) (fun _ _ q=>Heap.get?_push_of_some _ q) (Nat.le_refl _) (xK s.heap I.big),rfl,h _ (I.hok.fresh (Nat.le_refl _))⟩
theorem vK:PE X (.Dict [] [] pos) vm:=fun pins s σ H Q I h=>
 wpAny_Dict_empty ⟨.ref s.heap.objs.size,_,I.laid (a:=s.heap.objs.size) (o:=.dT []) (t':=s.toks) (fun _ _ q=>Heap.get?_push_of_some _ q) (Nat.le_refl _) (wK s.heap I.big),rfl,h _ (I.hok.fresh (Nat.le_refl _))⟩
end

end L2
namespace Att
open PySem PySem.W PySem.Calls PyProof.Rows
theorem ints_of_wellAll {P : Params} {h : Heap} : ∀ (ns : List Int) (vs : List Value), WellAll P h vs (ns.map WData.int) → IntsAre vs ns := by
  intro ns
  induction ns with
  | nil =>
    intro vs w
    rw [List.map_nil] at w
    cases w
    exact .nil
  | cons n ns ih =>
    intro vs w
    rw [List.map_cons] at w
    cases w with
    | cons a b =>
      cases a
      exact .cons _ _ (ih _ b)
theorem script_of {l : OpenLaw} {n : Nat} (hn : l.most = some n) {P : Params} {h : Heap} {args : List WData} {vals : List Value}
    (hpre : l.row.toRowW.claim.pre args = true) (hwl : WellAll P h vals args) :
    ∃ a vs ns, vals = [Value.ref a] ∧ args = [WData.list (ns.map WData.int)] ∧ h.get? a = some { cls := .type "list", data := .seq vs.toArray } ∧ IntsAre vs ns ∧ ns.length ≤ n := by
  have hsh : WShape.hasAll [] args [.list .int] = true := (pre_splitW hpre).1
  have hc : l.pre.holds [] { args := args } = true := (pre_splitW hpre).2
  obtain ⟨d, r, rfl, h1, h2⟩ := hasAllW_cons hsh
  obtain rfl := hasAllW_nil h2
  obtain ⟨xs, rfl, h3⟩ := hasW_list h1
  obtain ⟨ns, rfl⟩ := items_int h3
  have hlen : ns.length ≤ n := by
    unfold OpenLaw.pre at hc
    have h4 : (WTm.not (.lt (.lit (.int (n : Int))) (.len (.arg 0)))).holds [] { args := [.list (ns.map .int)] } = true := by
      have h4 := (holds_andW hc).1
      rw [hn] at h4
      exact h4
    have h5 := condW_of h4 (w_not (w_lt w_lit (w_len_list (w_arg rfl))))
    rw [List.length_map] at h5
    refine Nat.le_of_not_lt fun q => ?_
    have q' : (n : Int) < ((ns.length : Nat) : Int) := by omega
    first
      | (rw [decide_eq_true q'] at h5; exact absurd h5 (by decide))
      | (simp at h5; omega)
  cases hwl with
  | cons w1 w2 =>
    cases w2
    cases w1 with
    | list ho hall => exact ⟨_, _, ns, rfl, rfl, ho, ints_of_wellAll ns _ hall, hlen⟩
theorem post_true (l:OpenLaw) (args:List WData):l.row.toRowW.claim.post args (.bool true) args=true:=
 postW_of (r:=l.row.toRowW) (X:=(true==true))
  (show WShape.has [] (.bool true) .bool=true by first | rfl | decide | simp [WShape.has,WShape.arms,WShape.armsAll])
  (show (WTm.eq .res (.lit (.bool true))).value [] { args:=args,res:=some (.bool true),after:=args }=some (.bool (true==true)) from w_eq_bool (w_res rfl) w_lit) rfl
theorem attach_call {l : OpenLaw} {n : Nat} {q : Program} {loose : List Str} {XP : (Str → Option Value) → Heap → Prop} {YP : World → Heap → Prop} {d : DefRec}
  (hn : l.most = some n) (hdf : d.params.defaults = [])
  (call : ∀ (w : World) (s₀ s₁ : Shared) (mg mb : Str → Option Value) (fa : Addr) (o : Obj) (pm cd doc : Value) (a : Addr) (vs : List Value) (ns : List Int),
   Ground q loose [] XP w s₀ mg mb s₁.heap → YP w s₁.heap →
   s₁.heap.get? fa = some o → o.data = .func (docDef d.name d.params d.body d.scope pm cd doc) → s₁.heap.CodeRec cd d.name → mg d.name = some (.ref fa) →
   s₁.heap.get? a = some { cls := .type "list", data := .seq vs.toArray } → IntsAre vs ns → ns.length ≤ n → s₁.gens = #[] →
   codeAny (model l.prog w) callerA (.call (.ref fa) ⟨[.ref a], []⟩) (fun r s' => r = .ok (.ret (.bool true)) ∧ OldK s₁.heap s'.heap ∧ s'.os = s₁.os ∧ AllBare s'.gens) s₁) :
  WalkO q loose XP YP l.row.toRowW d [] (fun f vs => PySem.call f vs) := by
 intro w s₀ s₁ mg mb G Y fa o pm cd doc dV kV ho hd hcd hD hmg hg args vals as hpre hlay hrd hwl hlo
 obtain rfl : dV = .none := Dflts.none hD hdf
 obtain rfl : kV = .none := Dflts.noKw hD
 obtain ⟨a, vs, ns, rfl, rfl, hobj, hints, hlen⟩ := script_of hn hpre hwl
 refine enter_call (codeAny_mono (call w s₀ s₁ mg mb fa o pm cd doc a vs ns G Y ho (fd_plain hd) hcd hmg hobj hints hlen hg) fun r s' hq => ?_)
 obtain ⟨rfl, h2, h3, h4⟩ := hq
 exact ⟨.inl ⟨.bool true, .bool true, [], rfl, fun _ => rfl, .bool true, post_true l _, fun _ => ⟨List.Pairwise.nil, fun _ hm => (nomatch hm)⟩⟩, h2, h3, h4⟩

end Att
namespace L2
open PySem PySem.Spec PyProof.Rows
theorem mr:∀ {vs:List Value} {ns:List Int},IntsAre vs ns→bc (ns.map V.int) vs
 | _,_,.nil=> .nil
 | _,_,.cons n t h=> .cons ⟨t,rfl⟩ (mr h)
def bI (s:Stmt):Arguments:=match s with
 | .FunctionDef _ a _ _ _ _ _ _ _ _=>a
 | _=>{ posonlyargs:=[],args:=[],vararg:=none,kwonlyargs:=[],kw_defaults:=[],kwarg:=none,defaults:=[] }
def aP (s:Stmt):List Stmt:=match s with
 | .FunctionDef _ _ b _ _ _ _ _ _ _=>b
 | _=>[]
def am (s:Stmt):Scope:=match s with
 | .FunctionDef _ _ _ _ _ _ sc _ _ _=>sc
 | _=>{ kind:=.function,names:=[],isGenerator:=false,isCoroutine:=false }
abbrev E0:XK:=fun _ _ _=>False
structure Fun (K:W.Frag) (x qual:Str) (st:Stmt) (f:Addr) (fd:FuncData):Prop where
 ex:∃ (oc:Value) (od:Option Addr) (kV doc pm:Value) (an:Option Addr) (cdv ct:Value) (osl:Array (Option Value)),
  fd=W.fnOf x qual (bI st) (aP st) (am st) .none kV doc pm an cdv ct∧K.lookup f=some ⟨oc,od,.func fd,osl⟩∧W.codeIn K cdv qual=true
 kp:W.keepIn K (.ref f)=true
section
variable {P:Program} {w:World} {K:W.Frag} {mg:Str→Option Value} {base:Heap}
theorem Fun.binds {x qual:Str} {st:Stmt} {f:Addr} {fd:FuncData} {ps:List Str} (F:Fun K x qual st f fd)
  (h:∀ (kV doc pm:Value) (an:Option Addr) (cdv ct:Value) (us:List Value),us.length=ps.length→bindArgs (W.fnOf x qual (bI st) (aP st) (am st) .none kV doc pm an cdv ct) ⟨us,[]⟩=pure (ps.zip us)):bO K fd ps []:=by
 obtain ⟨oc,od,kV,doc,pm,an,cdv,ct,osl,rfl,lk,hcd⟩:=F.ex
 exact .all (h kV doc pm an cdv ct)
theorem fJ {x qual:Str} {st:Stmt} {f:Addr} {oc:Value} {od an:Option Addr} {osl:Array (Option Value)} {kV doc pm cdv ct:Value} (l:K.lookup f=some ⟨oc,od,.func (W.fnOf x qual (bI st) (aP st) (am st) .none kV doc pm an cdv ct),osl⟩)
 (c:W.codeIn K cdv qual=true) (k:W.keepIn K (.ref f)=true):Fun K x qual st f (W.fnOf x qual (bI st) (aP st) (am st) .none kV doc pm an cdv ct):=⟨⟨oc,od,kV,doc,pm,an,cdv,ct,osl,rfl,l,c⟩,k⟩
end
theorem iV {n:Nat} (h:n≤1000):n<sizeLine:=Nat.lt_of_le_of_lt h (by decide)
section
variable {X:Cx}
theorem vC:bx X (.builtin "len") (fun xs H Q=>∃ a kvs,xs=[V.ref a]∧H a=some (.dK kvs)∧Q (.int kvs.length) H):=by
 intro pins s σ H xs us Q I r h
 obtain ⟨a,kvs,rfl,ha,q⟩:=h
 obtain ⟨u,rfl,ru⟩:=fH r
 cases ru
 exact EM I (.inl ha) fun t s' I'=>⟨.int kvs.length,H,I',⟨t,rfl⟩,q⟩
end
theorem rK {A B:Prop} (h:B):if false=true then A else B:=by
 rw [if_neg Bool.false_ne_true]
 exact h
theorem sr {A B:Prop} (h:A):if true=true then A else B:=by
 rw [if_pos rfl]
 exact h
def av (H H':Hp):Prop:=∀ b o,H b=some o→H' b=some o
theorem av.refl (H:Hp):av H H:=fun _ _ h=>h
theorem av.trans {H H1 H2:Hp} (a:av H H1) (b:av H1 H2):av H H2:=fun c o h=>b c o (a c o h)
theorem av.seq {K:W.Frag} {H H':Hp} {a:Addr} {xs:List V} (e:av H H') (h:SqL K H a xs):SqL K H' a xs:=by
 rcases h with (h | ⟨o,h⟩) | h
 · exact .inl (.inl (e _ _ h))
 · exact .inl (.inr ⟨o,e _ _ h⟩)
 · exact .inr h

def dw:List (Str×NameKind)→List (Str×Addr)→List (Str×Addr)→List (Str×Addr)
 | [],_,cs=>cs
 | (n,k)::r,cells,cs=>dw r cells (if k==.free then (match cells.lookup n with | some a=>(n,a)::cs | none=>cs) else cs)
theorem oO {scope : Scope} {env : Env} (h : ∀ y ∈ scope.names, y.2 = .free → (env.cells.lookup y.1).isSome = true) : closureFor scope env = pure (dw scope.names env.cells []) := by
  have key : ∀ (l : List (Str × NameKind)) (cs : List (Str × Addr)), (∀ y ∈ l, y.2 = .free → (env.cells.lookup y.1).isSome = true) →
      (forIn l cs (fun (x : Str × NameKind) (cs : List (Str × Addr)) => (if (x.2 == NameKind.free) = true then (do let a ← cellOf env x.1; pure (ForInStep.yield ((x.1, a) :: cs))) else (pure (ForInStep.yield cs) : Sem _))) : Sem (List (Str × Addr))) = pure (dw l env.cells cs) := by
    intro l
    induction l with
    | nil => intro cs _; rfl
    | cons y r ih =>
      intro cs hy
      obtain ⟨n, k⟩ := y
      rw [List.forIn_cons]
      by_cases hk : k = .free
      · subst hk
        have hs := hy (n, .free) List.mem_cons_self rfl
        cases e : env.cells.lookup n with
        | none => rw [e] at hs; cases hs
        | some a =>
          have := ih ((n, a) :: cs) (fun z hz => hy z (List.mem_cons_of_mem _ hz))
          simp only [dw, beq_self_eq_true, if_true, e, cellOf, pure_bind]
          exact this
      · have hb : (k == NameKind.free) = false := by simpa using hk
        have := ih cs (fun z hz => hy z (List.mem_cons_of_mem _ hz))
        simp only [dw, hb, Bool.false_eq_true, if_false, pure_bind]
        exact this
  have := key scope.names [] h
  unfold closureFor
  simpa using this
theorem mt : ∀ {l : List (Str × NameKind)} {cells cs : List (Str × Addr)} {x : Str} {c : Addr}, (∀ x c, cs.lookup x = some c → cells.lookup x = some c) → (dw l cells cs).lookup x = some c → cells.lookup x = some c
  | [], _, _, _, _, h, e => h _ _ e
  | (n, k) :: r, cells, cs, x, c, h, e => by
    refine mt (l := r) (fun y d hy => ?_) e
    split at hy
    · split at hy
      · rename_i a ha
        by_cases hyn : y = n
        · subst hyn
          rw [List.lookup_cons_self] at hy
          rw [← hy]; exact ha
        · rw [List.lookup_cons] at hy
          have : (y == n) = false := by simpa using hyn
          rw [this] at hy
          exact h _ _ hy
      · exact h _ _ hy
    · exact h _ _ hy
theorem lD : ∀ {l : List (Str × NameKind)} {cells cs : List (Str × Addr)} {x : Str}, (cs.lookup x).isSome = true → ((dw l cells cs).lookup x).isSome = true
  | [], _, _, _, h => h
  | (n, k) :: r, cells, cs, x, h => by
    refine lD (l := r) ?_
    split
    · split
      · rw [List.lookup_cons]
        split
        · rfl
        · exact h
      · exact h
    · exact h
theorem jh : ∀ {l : List (Str × NameKind)} {cells cs : List (Str × Addr)} {x : Str}, (x, NameKind.free) ∈ l → (cells.lookup x).isSome = true → ((dw l cells cs).lookup x).isSome = true
  | [], _, _, _, h, _ => by cases h
  | (n, k) :: r, cells, cs, x, h, hs => by
    rcases List.mem_cons.mp h with e | h
    · cases e
      refine lD (l := r) ?_
      simp only [beq_self_eq_true, if_true]
      cases e : cells.lookup n with
      | none => rw [e] at hs; cases hs
      | some a => simp only [List.lookup_cons_self]; rfl
    · exact jh (l := r) h hs
theorem ly {x:Str} {k:NameKind}:∀ {l:List (Str×NameKind)},l.lookup x=some k→(x,k)∈l:=fun h=>PySem.mem_of_lookup h
inductive fR (X:Cx) (scope:Scope):List Str→List Nat→Prop where
 | nil:fR X scope [] []
 | cons {y:Str} {i:Nat} {ys:List Str} {is:List Nat} (h1:X.N[i]?=some y) (h2:X.env.kindOf y=some .cell∨X.env.kindOf y=some .free) (h3:scope.names.lookup y=some .free) (h:fR X scope ys is):fR X scope (y::ys) (i::is)
structure fc (scope:Scope) (x:Str) (ys:List Str):Prop where
 kind:scope.kind=.function
 nocell:∀ y∈scope.names,y.2≠ .cell
 names:∀ y∈scope.names,y.2=.local→scope.names.lookup y.1=some .local
 own:scope.names.lookup x=some .local
 all:∀ y∈scope.names,y.2=.free→y.1∈ys
 nd:(x::ys).Nodup
def bB (X:Cx) (scope:Scope) (C:Addr) (N:List Str) (s:Shared) (H:Hp) (fp:List Addr):Cx:=
 { X with N:=N,s₀:=s,H₀:=H,env:=compEnvC scope (dw scope.names X.env.cells []) C X.env,outer:=X.stack,ex:=fp,fn:=fun _=>false,pn:=[],xe:=fun _ _=>False }
def bM (σ:St) (is:List Nat):St:=is.map fun i=>(σ[i]?).getD none
theorem ig {f : Str × NameKind → Str × NameKind} (hf : ∀ p, (f p).1 = p.1) {x : Str} : ∀ (l : List (Str × NameKind)), (l.map f).lookup x = (l.lookup x).map fun k => (f (x, k)).2
  | [] => rfl
  | (n, k) :: r => by
    have ih := ig hf (x := x) r
    have e : f (n, k) = (n, (f (n, k)).2) := Prod.ext (hf (n, k)) rfl
    rw [List.map_cons, e, List.lookup_cons, List.lookup_cons]
    cases hx : x == n with
    | true =>
      have e' : x = n := by simpa using hx
      subst e'; rfl
    | false => exact ih
theorem iC (scope:Scope) (env:Env) (x:Str):(relabel scope env).names.lookup x=(scope.names.lookup x).map fun k=>if (k==NameKind.free&&env.scope.kind==.function&&env.kindOf x==some .cell) then NameKind.cell else k:=by
 have hf:∀ p:Str×NameKind,((fun (n,k)=>if (k==NameKind.free&&env.scope.kind==.function&&env.kindOf n==some .cell) then (n,NameKind.cell) else (n,k)) p:Str×NameKind).1=p.1:=by
  intro p
  obtain ⟨n,k⟩:=p
  show (if _ then (n,NameKind.cell) else (n,k)).1=n
  split <;> rfl
 have:=ig hf (x:=x) scope.names
 show List.lookup x (List.map _ scope.names)=_
 rw [this]
 congr 1
 funext k
 show (if _ then (x,NameKind.cell) else (x,k)).2=_
 split <;> rfl
theorem gR {scope : Scope} {env : Env} {x : Str} {k : NameKind} (nc : ∀ y ∈ scope.names, y.2 ≠ .cell) (h : (relabel scope env).names.lookup x = some k) (hk : k = .cell ∨ k = .free) : (x, NameKind.free) ∈ scope.names := by
  rw [iC] at h
  cases q : scope.names.lookup x with
  | none => rw [q] at h; cases h
  | some k' =>
    have hm := ly q
    rw [q] at h
    have h : (if (k' == NameKind.free && env.scope.kind == .function && env.kindOf x == some .cell) then NameKind.cell else k') = k := Option.some.inj h
    by_cases hc : k' = .free
    · subst hc; exact hm
    · have hb : (k' == NameKind.free) = false := by simpa using hc
      rw [hb] at h
      have h : k' = k := h
      subst h
      rcases hk with z | z
      · exact absurd z (nc _ hm)
      · exact absurd z hc
theorem oV {scope:Scope} {env:Env} {x:Str} (h:scope.names.lookup x=some .free):(relabel scope env).names.lookup x=some .cell∨(relabel scope env).names.lookup x=some .free:=by
 rw [iC,h]
 show some (if _ then _ else _)=_∨some (if _ then _ else _)=_
 split
 · exact .inl rfl
 · exact .inr rfl
theorem ng {scope:Scope} {env:Env} {x:Str} (h:scope.names.lookup x=some .local):(relabel scope env).names.lookup x=some .local:=by
 rw [iC,h];rfl
theorem tU {X : Cx} {scope : Scope} {ys : List Str} {is : List Nat} {m : Str → Option Value} {h : Heap} {σ : St} (hc : fR X scope ys is)
    (hl : ∀ (i : Nat) (x : Str) (v : V), X.N[i]? = some x → σ[i]? = some (some v) → Vis X.env.scope x → ∃ u, aX v u ∧ Dt X.env h m x u) (nd : True) :
    ∀ (j : Nat) (y : Str) (v : V), ys[j]? = some y → (bM σ is)[j]? = some (some v) → ∃ u, aX v u ∧ scope.names.lookup y = some .free ∧ ∃ c, X.env.cells.lookup y = some c ∧ h.IsCell c (some u) := by
  induction hc with
  | nil => intro j y v e; simp at e
  | @cons z i zs js h1 h2 h3 hr ih =>
    intro j y v e1 e2
    cases j with
    | zero =>
      simp at e1; subst e1
      have e2 : (σ[i]?).getD none = some v := by simpa [bM] using e2
      have e3 : σ[i]? = some (some v) := by
        cases q : σ[i]? with
        | none => rw [q] at e2; simp at e2
        | some o => rw [q] at e2; simp at e2; rw [e2]
      have hv : Vis X.env.scope z := by
        rcases h2 with q | q
        · exact .inr (.inl q)
        · exact .inr (.inr q)
      obtain ⟨u, r, l⟩ := hl i z v h1 e3 hv
      refine ⟨u, r, h3, ?_⟩
      rcases l with ⟨k, _⟩ | ⟨_, c, e, ic⟩
      · rcases h2 with q | q
        · rw [q] at k; cases k
        · rw [q] at k; cases k
      · exact ⟨c, e, ic⟩
    | succ j =>
      exact ih j y v (by simpa using e1) (by simpa [bM] using e2)
def rJ (is:List Nat) (tc:TT) (te:TE) (σ:St) (D:Addr) (J:It) (H1:Hp) (Q:VK):Prop:=∃ W:Nat→Nat→List V→Hp→Prop,(∃ m,W 0 m [] (upd H1 D (.lst [])))∧
 ∀ i m ys H2,W i m ys H2→(J.stop i H2∧Q (.ref D) H2)∨(J.go i H2∧∀ x H3,J.yld i H2 x H3→tc (some x::bM σ is) H3 fun b H4=>if b=true then
  te (some x::bM σ is) H4 fun y H5=>H5 D=some (.lst ys)∧ys.length<sizeLine∧∃ m',m'<m∧W (i+1) m' (ys++[y]) (upd H5 D (.lst (ys++[y])))
  else ∃ m',m'<m∧W (i+1) m' ys H4)
def fI (is:List Nat) (wi:TI) (tc:TT) (te:TE):TE:=fun σ H Q=>wi σ H fun J H1=>∀ D,H1 D=none→rJ is tc te σ D J H1 Q
theorem qi (elt target iter c : Expr) (scope : Scope) (pos : Pos) (it acc : Value) (env : Env) :
    compTurn (.ListComp elt [⟨target, iter, [c], 0⟩] scope pos) 0 it acc env = (standAt iter.pos >>= fun _ => pyNext it >>= fun r => match r with
      | none => pure (.done .next)
      | some v => letOwnedTupleGo target it v >>= fun _ => assign target env v >>= fun _ => isTrue c env (eval c env) >>= fun ok =>
        (if ok = true then (eval elt env >>= fun x => call (.builtin "list.append") [acc, x] >>= fun _ => pure ()) else pure ()) >>= fun _ =>
          again (.compLoop (.ListComp elt [⟨target, iter, [c], 0⟩] scope pos) 0 it acc env)) := by
  unfold compTurn
  simp only [List.forIn_cons, List.forIn_nil, List.getElem?_cons_zero, List.getElem?_cons_succ, List.getElem?_nil, bind_assoc, pure_bind, bne_self_eq_false, Bool.false_eq_true, if_false, if_true]
  congr 1
  funext _
  congr 1
  funext r
  cases r with
  | none => rfl
  | some v =>
    simp only [bind_assoc, pure_bind, if_true]
    congr 1; funext _
    congr 1; funext _
    congr 1; funext b
    cases b <;> simp
section
variable {prog:Program} {w:World} {A:Around} {R:Result→Shared→Prop} {s:Shared}
theorem iL {elt target iter c : Expr} {scope : Scope} {pos : Pos} {it acc : Value} {env : Env} (I : Nat → Shared → Prop)
    (turn : ∀ n s, I n s → wpAny (model prog w) A (pyNext it) (fun r s₁ => match r with
      | none => R (.ok .next) s₁
      | some v => wpAny (model prog w) A (letOwnedTupleGo target it v) (fun _ s₁ => wpAny (model prog w) A (assign target env v) (fun _ s₂ => wpAny (model prog w) A (isTrue c env (eval c env)) (fun ok s₂ => if ok = true then wpAny (model prog w) A (eval elt env) (fun x s₃ =>
          wpAny (model prog w) A (call (.builtin "list.append") [acc, x]) (fun _ s₄ => ∃ m, m < n ∧ I m s₄) (notedBy (model prog w) A env fun e s' => R (.error e) s') s₃)
          (notedBy (model prog w) A env fun e s' => R (.error e) s') s₂ else ∃ m, m < n ∧ I m s₂) (notedBy (model prog w) A env fun e s' => R (.error e) s') s₂) (notedBy (model prog w) A env fun e s' => R (.error e) s') s₁) (notedBy (model prog w) A env fun e s' => R (.error e) s') s₁) (notedBy (model prog w) A env fun e s' => R (.error e) s') s)
    (n : Nat) (h : I n s) :
    codeAny (model prog w) A (.compLoop (.ListComp elt [⟨target, iter, [c], 0⟩] scope pos) 0 it acc env) R s := by
  refine codeAny_loop rfl I (fun n s hI => ?_) n h
  show wpAny _ _ ((compTurn (.ListComp elt [⟨target, iter, [c], 0⟩] scope pos) 0 it acc env).onRaise (fun x => do noteFrame x env; theTreesLotGoes x)) _ _ s
  refine wpAny_noted ?_
  rw [qi]
  refine wpAny_bind (wpAny_standAt (wpAny_bind (wpAny_mono (turn n s hI) (fun r s₁ h₁ => ?_) fun _ _ h' => h')))
  cases r with
  | none => exact wpAny_pure h₁
  | some v =>
    refine wpAny_bind (wpAny_mono h₁ (fun _ s₁ h₁ => wpAny_bind (wpAny_mono h₁ (fun _ s₂ h₂ => wpAny_bind (wpAny_mono h₂ (fun ok s₃ h₃ => ?_) fun _ _ h' => h')) fun _ _ h' => h')) fun _ _ h' => h')
    cases ok with
    | true =>
      rw [if_pos rfl] at h₃
      simp only [if_true]
      exact wpAny_bind (wpAny_bind (wpAny_mono h₃ (fun x s₃ h₃ => wpAny_bind (wpAny_mono h₃ (fun _ s₄ h₄ => wpAny_pure (wpAny_pure ⟨rfl, h₄⟩)) fun _ _ h' => h')) fun _ _ h' => h'))
    | false =>
      rw [if_neg Bool.false_ne_true] at h₃
      simp only [Bool.false_eq_true, if_false]
      exact wpAny_bind (wpAny_pure (wpAny_pure ⟨rfl, h₃⟩))
theorem iM {elt target iter : Expr} {scope : Scope} {pos : Pos} {it acc : Value} {env : Env} (I : Nat → Shared → Prop)
    (turn : ∀ n s, I n s → wpAny (model prog w) A (pyNext it) (fun r s₁ => match r with
      | none => R (.ok .next) s₁
      | some v => wpAny (model prog w) A (letOwnedTupleGo target it v) (fun _ s₁ => wpAny (model prog w) A (assign target env v) (fun _ s₂ => wpAny (model prog w) A (eval elt env) (fun x s₃ =>
          wpAny (model prog w) A (call (.builtin "list.append") [acc, x]) (fun _ s₄ => ∃ m, m < n ∧ I m s₄) (notedBy (model prog w) A env fun e s' => R (.error e) s') s₃)
          (notedBy (model prog w) A env fun e s' => R (.error e) s') s₂) (notedBy (model prog w) A env fun e s' => R (.error e) s') s₁) (notedBy (model prog w) A env fun e s' => R (.error e) s') s₁) (notedBy (model prog w) A env fun e s' => R (.error e) s') s)
    (n : Nat) (h : I n s) :
    codeAny (model prog w) A (.compLoop (.ListComp elt [⟨target, iter, [], 0⟩] scope pos) 0 it acc env) R s := by
  refine codeAny_loop rfl I (fun n s hI => ?_) n h
  show wpAny _ _ ((compTurn (.ListComp elt [⟨target, iter, [], 0⟩] scope pos) 0 it acc env).onRaise (fun x => do noteFrame x env; theTreesLotGoes x)) _ _ s
  refine wpAny_noted ?_
  rw [compTurn_list1]
  refine wpAny_bind (wpAny_standAt (wpAny_bind (wpAny_mono (turn n s hI) (fun r s₁ h₁ => ?_) fun _ _ h' => h')))
  cases r with
  | none => exact wpAny_pure h₁
  | some v =>
    exact wpAny_bind (wpAny_mono h₁ (fun _ s₁ h₁ => wpAny_bind (wpAny_mono h₁ (fun _ s₂ h₂ => wpAny_bind (wpAny_bind (wpAny_mono h₂ (fun x s₃ h₃ => wpAny_bind (wpAny_mono h₃
      (fun _ s₄ h₄ => wpAny_pure (wpAny_pure ⟨rfl, h₄⟩)) fun _ _ h' => h')) fun _ _ h' => h'))) fun _ _ h' => h')) fun _ _ h' => h')
end
def sx (X:Cx) (ifs:List Expr) (tc:TT):Prop:=match ifs with
 | []=>tc=fun _ H Q=>Q true H
 | [c]=>PT X c tc
 | _=>False
section
variable {X:Cx}
theorem yn {scope:Scope} {ys:List Str} {is:List Nat} (h:fR X scope ys is):is.length=ys.length:=by
 induction h with
 | nil=>rfl
 | cons _ _ _ _ ih=>simp [ih]
theorem mG {scope : Scope} {ys : List Str} {is : List Nat} (h : fR X scope ys is) {y : Str} (hy : y ∈ ys) : X.env.kindOf y = some .cell ∨ X.env.kindOf y = some .free := by
  induction h with
  | nil => cases hy
  | cons _ h2 _ _ ih =>
    rcases List.mem_cons.mp hy with e | e
    · rw [e]; exact h2
    · exact ih e
theorem mz {elt iter : Expr} {ifs : List Expr} {x : Str} {px pos : Pos} {scope : Scope} {ys : List Str} {is : List Nat} {tc : TT} {te : TE} {pins : List (Addr × Obj)} {σ : St} {H2 : Hp} {s2 : Shared} {it : Addr} {fp : List Addr} {tn : Nat → Heap → Prop} {J : It} {E : Value → Shared → Prop} {Q : VK} {RR : Value → Addr → Result → Shared → Prop}
    (hc : X.calm = true) (S : fc scope x ys) (hcap : fR X scope ys is)
    (hif : ∀ C s H fp, sx (bB X scope C (x :: ys) s H fp) ifs tc) (he : ∀ C s H fp, PE (bB X scope C (x :: ys) s H fp) elt te)
    (I2 : Inv X pins σ H2 s2) (T : lV X.prog X.w X.K (.Name x px) J fp it tn) (st2 : tn 0 s2.heap) (f2 : ∀ b ∈ fp, jl X pins H2 b)
    (hW : ∀ D, H2 D = none → ∃ W : Nat → Nat → List V → Hp → Prop, (∃ m, W 0 m [] (upd H2 D (.lst []))) ∧
      ∀ i m ys H2, W i m ys H2 → (J.stop i H2 ∧ Q (.ref D) H2) ∨ (J.go i H2 ∧ ∀ x H3, J.yld i H2 x H3 → tc (some x :: bM σ is) H3 fun b H4 => if b = true then
        te (some x :: bM σ is) H4 fun y H5 => H5 D = some (.lst ys) ∧ ys.length < sizeLine ∧ ∃ m', m' < m ∧ W (i + 1) m' (ys ++ [y]) (upd H5 D (.lst (ys ++ [y])))
        else ∃ m', m' < m ∧ W (i + 1) m' ys H4))
    (hRR : ∀ D C H' s', (X.s₀.heap.objs.size ≤ C ∧ ∀ p ∈ X.pn ++ pins, p.1 ≠ C) → (∃ m, s'.heap.Ns C m) → C ≠ X.env.locals → H' C = none → Inv X pins σ H' s' → (∀ h', Heap.SameBut C s'.heap h' → Inv X pins σ H' { s' with heap := h' }) → Q (.ref D) H' → RR (.ref D) C (.ok .next) s') :
    wpAny (model X.prog X.w) X.A (newList []) (fun acc s₃ => wpAny (model X.prog X.w) X.A (newFunctionEnv scope X.env.globals (dw scope.names X.env.cells []) [] X.env.qual none .none (some X.env)) (fun cenv s₄ =>
      codeAny (model X.prog X.w) X.A (.compStart (.ListComp elt [⟨.Name x px, iter, ifs, 0⟩] scope pos) 0 (.ref it) acc { cenv with scope := relabel scope X.env }) (RR acc cenv.locals) s₄) E s₃) E s2 := by
  have hf2 : H2 s2.heap.objs.size = none := I2.fresh
  refine wpAny_newObj_type (wpAny_newFunctionEnv S.nocell (by intro y hy; simp at hy) (fun h₁ hns₁ hsb₁ => ?_) S.kind)
  dsimp only at hns₁ hsb₁ ⊢
  have I3 : Inv X pins σ (upd H2 s2.heap.objs.size (.lst [])) { s2 with heap := s2.heap.push { cls := .type "list", data := .seq ([] : List Value).toArray } } := I2.lnew (t' := s2.toks) (ys := []) .nil (Nat.zero_le _)
  obtain ⟨W, ⟨m0, w0⟩, turn⟩ := hW _ hf2
  generalize hD : s2.heap.objs.size = D at I3 w0 turn hf2 ⊢
  generalize hs3 : ({ s2 with heap := s2.heap.push { cls := .type "list", data := .seq ([] : List Value).toArray } } : Shared) = s3 at I3
  have hp3 : s2.heap.push { cls := .type "list", dict := none, data := .seq ([] : List Value).toArray } = s3.heap := by rw [← hs3]
  rw [hp3] at hns₁ hsb₁ ⊢
  have tk3 : s2.toks = s3.toks := by rw [← hs3]
  generalize hH3 : upd H2 D (.lst []) = H3 at I3 w0
  generalize hC : s3.heap.objs.size = C at hns₁ hsb₁ ⊢
  have keep2 : ∀ b o, s2.heap.get? b = some o → s3.heap.get? b = some o := fun b o e => by rw [← hp3]; exact Heap.get?_push_of_some _ e
  have keep3 : ∀ b o, s3.heap.get? b = some o → h₁.get? b = some o := fun b o e => hsb₁.extBut b o (by rw [← hC]; exact Nat.ne_of_lt (Heap.lt_size e)) (Heap.get?_push_of_some _ e)
  have st3 : tn 0 s3.heap := T.keep _ _ _ st2 fun b _ o e => keep2 b o e
  have st4 : tn 0 h₁ := T.keep _ _ _ st3 fun b _ o e => keep3 b o e
  have fp3 : ∀ b ∈ fp, H3 b = none ∧ b < C := fun b hb => by
    obtain ⟨o, e, _⟩ := T.obj _ _ st2 b hb
    refine ⟨?_, by rw [← hC]; exact Heap.lt_size (keep2 b o e)⟩
    rw [← hH3, au (by rw [← hD]; exact Nat.ne_of_lt (Heap.lt_size e))]
    exact (f2 b hb).1
  have hcells : ∀ {z : Str} {c : Addr}, (dw scope.names X.env.cells []).lookup z = some c → X.env.cells.lookup z = some c := fun h => mt (fun _ _ q => by cases q) h
  have hX : (bB X scope C (x :: ys) s3 H3 fp).Ok := by
    refine ⟨I3.ok.mod, S.kind, I3.ok.glob, I3.ok.blt, Nat.le_of_eq hC, fun y z c h1 h2 => I3.ok.inj y z c (hcells h1) (hcells h2), fun y hy => ?_, fun y c h _ => absurd (show false = true from h) Bool.false_ne_true, I3.ok.hd, I3.ok.frames, .inl rfl, fun b hb => ⟨Nat.ne_of_lt (fp3 b hb).2, fun y c h => (f2 b hb).2.2.2.2.1 y c (hcells h)⟩, fun b o e => I3.bs b o e, Nat.le_trans I3.ok.bsz I3.sz, fun b o e hb => ?_, fun b hb z => ?_, I3.stack, I3.stkFree⟩
    · have hy : (relabel scope X.env).names.lookup y = some .cell ∨ (relabel scope X.env).names.lookup y = some .free := hy
      have hm : (y, NameKind.free) ∈ scope.names := by
        rcases hy with q | q
        · exact gR S.nocell q (.inl rfl)
        · exact gR S.nocell q (.inr rfl)
      have hs : ∃ c, X.env.cells.lookup y = some c := by
        by_cases hk : X.env.kindOf y = some .cell ∨ X.env.kindOf y = some .free
        · exact I3.ok.has y hk
        · exact absurd (mG hcap (S.all _ hm rfl)) hk
      exact Option.isSome_iff_exists.mp (jh hm (Option.isSome_iff_exists.mpr hs))
    · rcases (f2 b hb).2.2.2.1 with z | z
      · exact I3.ok.noex b o e z
      · exact absurd (Nat.lt_of_lt_of_le (Heap.lt_size e) (Nat.le_trans I3.ok.bsz z)) (Nat.lt_irrefl _)
    · rcases List.mem_cons.mp (I3.stkSub b z) with q | q
      · exact (f2 b hb).2.1 q
      · exact (f2 b hb).2.2.1 q
  have I4 : Inv (bB X scope C (x :: ys) s3 H3 fp) [] (none :: bM σ is) H3 { s2 with heap := h₁, toks := s2.toks + ([] : List (Str × Value)).length } := by
    obtain ⟨m3, hm3, hl3⟩ := id I3.loc
    refine ⟨hX, ?_, ?_, Un.kept keep3, ⟨_, hns₁, fun i y v e1 e2 e3 => ?_⟩, fun y c e => ?_, ?_, fun y c e => I3.freeC y c (hcells e), fun p hp => absurd (show p ∈ ([] : List (Addr × Obj)) from hp) (by simp), I3.hok.kept keep3, ?_⟩
    · show s2.os = s3.os
      rw [← hs3]
    · have := I2.bare; exact this
    · cases i with
      | zero => simp at e2
      | succ j =>
        obtain ⟨u, r, hfr, c, ec, ic⟩ := tU hcap hl3 trivial j y v (by have e1' : (x :: ys)[j + 1]? = some y := e1; simpa using e1') (by simpa using e2)
        have hk := oV (env := X.env) hfr
        obtain ⟨c', ec'⟩ := Option.isSome_iff_exists.mp (jh (cs := []) (ly hfr) (by rw [ec]; rfl) (cells := X.env.cells))
        have : c' = c := by have := hcells ec'; rw [ec] at this; exact (Option.some.inj this).symm
        subst this
        obtain ⟨o, ho, hd⟩ := ic
        exact ⟨u, r, .inr ⟨hk, c', ec', o, keep3 _ _ ho, hd⟩⟩
    · obtain ⟨v, o, ho, hd⟩ := I3.cell y c (hcells e)
      exact ⟨v, o, keep3 _ _ ho, hd⟩
    · have := I3.hok.fresh (a := C) (Nat.le_of_eq hC)
      exact this
    · have := yn hcap
      show (none :: bM σ is).length = (x :: ys).length
      simp [bM, this]
  have lenσ : ∀ v : Option V, (v :: bM σ is).set 0 = fun w => w :: bM σ is := fun v => rfl
  have hown : (relabel scope X.env).names.lookup x = some .local := ng S.own
  have loop : codeAny (model X.prog X.w) X.A (.compLoop (.ListComp elt [⟨.Name x px, iter, ifs, 0⟩] scope pos) 0 (.ref it) (.ref D) (compEnvC scope (dw scope.names X.env.cells []) C X.env)) (RR (.ref D) C)
      { s2 with heap := h₁, toks := s2.toks + ([] : List (Str × Value)).length } := by
    have fin : ∀ {H' : Hp} {v : Option V} {s' : Shared}, Inv (bB X scope C (x :: ys) s3 H3 fp) [] (v :: bM σ is) H' s' → Q (.ref D) H' → RR (.ref D) C (.ok .next) s' := fun {H' v s'} J q => by
      obtain ⟨m', hm', _⟩ := J.loc
      have hCL : C ≠ X.env.locals := Ne.symm (by rw [← hC]; exact Nat.ne_of_lt I3.lt)
      have back : ∀ h', Heap.SameBut C s'.heap h' → Inv X pins σ H' { s' with heap := h' } := fun h' hs' => by
        have os' : s'.os = s3.os := J.os
        refine I3.call' (s' := { s' with heap := h' }) (ch := fp) os' ⟨fun b o e n hb hx => ?_, fun b o e n hb hx => ?_, fun b o e n hx => J.base.free b o e n hx, fun b o e hx => ?_, J.base.tups, J.base.frzs, J.base.tbls⟩ (fun b o e => ?_) J.bare fun b hb => ?_
        · exact hs'.extBut b o (by rw [← hC]; exact Nat.ne_of_lt (Heap.lt_size e)) (J.base.keep b o e n hb hx)
        · obtain ⟨sl, e1⟩ := J.base.slot b o e n hb hx
          exact ⟨sl, hs'.extBut b _ (by rw [← hC]; exact Nat.ne_of_lt (Heap.lt_size e)) e1⟩
        · obtain ⟨o', e1⟩ := J.base.there b o e hx
          exact ⟨o', hs'.extBut b _ (by rw [← hC]; exact Nat.ne_of_lt (Heap.lt_size e)) e1⟩
        · refine (J.hok b o e).stay (fun c w' hc q => (hs'.2 c ?_).trans q) (fun _ q => q) fun _ _ q => q
          have fC : H' C = none := J.free
          rintro rfl
          rcases hc with rfl | hc
          · rw [fC] at e; cases e
          · rw [fC] at hc; cases hc
        · obtain ⟨_, a1, _, a2, a3, a4⟩ := f2 b hb
          exact ⟨a2, a1, a3, a4⟩
      refine hRR D C H' s' ⟨by rw [← hC]; exact I3.sz, fun p hp => by rw [← hC]; exact Nat.ne_of_lt (Heap.lt_size (I3.pin p hp).1)⟩ ⟨m', hm'⟩ hCL J.free ?_ back q
      have := back s'.heap (.refl ..)
      exact this
    have stat : ∀ {H' : Hp}, (∀ b ∈ fp, H' b = none) → ∀ b ∈ fp, jl (bB X scope C (x :: ys) s3 H3 fp) [] H' b := fun hn b hb => by
      obtain ⟨_, a1, a5, a2, a3, a4⟩ := f2 b hb
      refine ⟨hn b hb, Nat.ne_of_lt (fp3 b hb).2, fun z => ?_, .inl hb, fun y c e => a3 y c (hcells e), fun p hp => absurd (show p ∈ ([] : List (Addr × Obj)) from hp) (by simp)⟩
      rcases List.mem_cons.mp (I3.stkSub b z) with q | q
      · exact a1 q
      · exact a5 q
    have turnAt : ∀ n s, (∃ i v ys' H', Inv (bB X scope C (x :: ys) s3 H3 fp) [] (v :: bM σ is) H' s ∧ tn i s.heap ∧ (∀ b ∈ fp, H' b = none) ∧ W i n ys' H') →
        wpAny (model X.prog X.w) X.A (pyNext (.ref it)) (fun r s₁ => match r with
          | none => RR (.ref D) C (.ok .next) s₁
          | some u => wpAny (model X.prog X.w) X.A (letOwnedTupleGo (.Name x px) (.ref it) u) (fun _ s₁ => wpAny (model X.prog X.w) X.A (assign (.Name x px) (compEnvC scope (dw scope.names X.env.cells []) C X.env) u) (fun _ s₂ =>
            ∃ (xx : V) (i : Nat) (ys' : List V) (H3' H6 : Hp) (pl : List (Addr × Obj)), Inv (bB X scope C (x :: ys) s3 H3 fp) ([] ++ pl) (some xx :: bM σ is) H6 s₂ ∧
              (∀ s7 v7 H7, Inv (bB X scope C (x :: ys) s3 H3 fp) ([] ++ pl) (v7 :: bM σ is) H7 s7 → Inv (bB X scope C (x :: ys) s3 H3 fp) [] (v7 :: bM σ is) H7 s7 ∧ tn (i + 1) s7.heap ∧ ∀ b ∈ fp, H7 b = none) ∧
              (tc (some xx :: bM σ is) H6 fun b H4 => if b = true then te (some xx :: bM σ is) H4 fun y H5 => H5 D = some (.lst ys') ∧ ys'.length < sizeLine ∧ ∃ m', m' < n ∧ W (i + 1) m' (ys' ++ [y]) (upd H5 D (.lst (ys' ++ [y])))
                else ∃ m', m' < n ∧ W (i + 1) m' ys' H4)) (fun _ _ => False) s₁) (fun _ _ => False) s₁) (fun _ _ => False) s := by
      rintro n s ⟨i, v, ys', H', J, st, fr, w'⟩
      rcases turn i n ys' H' w' with ⟨stop, qn⟩ | ⟨go, step⟩
      · refine thn (T.done (bB X scope C (x :: ys) s3 H3 fp) rfl rfl rfl hc i [] s _ H' (fun _ _ => False) J (stat fr) st stop) fun r s4 ⟨hr, J4⟩ => ?_
        subst hr
        exact fin J4 qn
      · refine thn (T.item (bB X scope C (x :: ys) s3 H3 fp) rfl rfl rfl hc i [] s _ H' (fun _ _ => False) J (stat fr) st go) fun r s4 ⟨u, hr, h4⟩ => ?_
        subst hr
        refine thn h4 fun _ s5 ⟨xx, H5, J5, r5, y5, st5, fr5⟩ => ?_
        have J5' := J5.pinned (stat fr5) (T.obj _ _ st5)
        refine wpAny_assign_Name (fA (i := 0) J5' S.nd rfl (.inl hown) r5 (fun s6 J6 => ?_) (.inr hown))
        refine ⟨xx, i, ys', H5, H5, jd fp s5.heap, J6, fun s7 v7 H7 J7 => ⟨J7.unpinned, T.keep _ _ _ st5 fun b hb o e => (J7.pin (b, o) (List.mem_append_right _ (List.mem_append_right _ (fT hb e)))).1, fun b hb => ?_⟩, step xx H5 y5⟩
        obtain ⟨o, e, d⟩ := T.obj _ _ st5 b hb
        exact (J7.pin (b, o) (List.mem_append_right _ (List.mem_append_right _ (fT hb e)))).2.1
    have start0 : ∃ i v ys' H', Inv (bB X scope C (x :: ys) s3 H3 fp) [] (v :: bM σ is) H' { s2 with heap := h₁, toks := s2.toks + ([] : List (Str × Value)).length } ∧ tn i h₁ ∧ (∀ b ∈ fp, H' b = none) ∧ W i m0 ys' H' :=
      ⟨0, none, [], H3, I4, st4, fun b hb => (fp3 b hb).1, w0⟩
    have emit : ∀ (n : Nat) (xx : V) (i : Nat) (ys' : List V) (H4 : Hp) (pl : List (Addr × Obj)) (s₂ : Shared), Inv (bB X scope C (x :: ys) s3 H3 fp) ([] ++ pl) (some xx :: bM σ is) H4 s₂ →
        (∀ s7 v7 H7, Inv (bB X scope C (x :: ys) s3 H3 fp) ([] ++ pl) (v7 :: bM σ is) H7 s7 → Inv (bB X scope C (x :: ys) s3 H3 fp) [] (v7 :: bM σ is) H7 s7 ∧ tn (i + 1) s7.heap ∧ ∀ b ∈ fp, H7 b = none) →
        (te (some xx :: bM σ is) H4 fun y H5 => H5 D = some (.lst ys') ∧ ys'.length < sizeLine ∧ ∃ m', m' < n ∧ W (i + 1) m' (ys' ++ [y]) (upd H5 D (.lst (ys' ++ [y])))) →
        wpAny (model X.prog X.w) X.A (eval elt (compEnvC scope (dw scope.names X.env.cells []) C X.env)) (fun y s₃ => wpAny (model X.prog X.w) X.A (call (.builtin "list.append") [.ref D, y]) (fun _ s₄ =>
          ∃ m, m < n ∧ ∃ i v ys' H', Inv (bB X scope C (x :: ys) s3 H3 fp) [] (v :: bM σ is) H' s₄ ∧ tn i s₄.heap ∧ (∀ b ∈ fp, H' b = none) ∧ W i m ys' H') (fun _ _ => False) s₃) (fun _ _ => False) s₂ := by
      intro n xx i ys' H4 pl s₂ J2 back q
      refine thn (he C s3 H3 fp ([] ++ pl) s₂ _ H4 _ J2 q) fun y s₃ ⟨yv, H5, J3, r3, q1, q2, q3⟩ => ?_
      refine thn (my (X := bB X scope C (x :: ys) s3 H3 fp) ([] ++ pl) s₃ _ H5 (.ref D) [yv] (.ref D) [y] (fun v H7 => v = .non ∧ H7 = upd H5 D (.lst (ys' ++ [yv]))) J3 rfl (.cons r3 .nil) ⟨D, ys', yv, rfl, rfl, q1, q2, rfl, rfl⟩) fun _ s₄ ⟨_, H7, J4, _, _, e7⟩ => ?_
      subst e7
      obtain ⟨m', hm', w'⟩ := q3
      obtain ⟨b1, b2, b3⟩ := back s₄ _ _ J4
      exact ⟨m', hm', i + 1, some xx, ys' ++ [yv], _, b1, b2, b3, w'⟩
    have ex0 : ∀ {α : Type} {t : Sem α} {Q' : α → Shared → Prop} {E' : Value → Shared → Prop} {s : Shared}, wpAny (model X.prog X.w) X.A t Q' (fun _ _ => False) s → wpAny (model X.prog X.w) X.A t Q' E' s := fun h => wpAny_mono h (fun _ _ q => q) fun _ _ q => q.elim
    cases ifs with
    | nil =>
      have htc : tc = fun _ H Q => Q true H := hif C s3 H3 fp
      subst htc
      refine iM (fun n s => ∃ i v ys' H', Inv (bB X scope C (x :: ys) s3 H3 fp) [] (v :: bM σ is) H' s ∧ tn i s.heap ∧ (∀ b ∈ fp, H' b = none) ∧ W i n ys' H') (fun n s hI => ?_) m0 start0
      refine wpAny_mono (turnAt n s hI) (fun r s₁ h₁ => ?_) fun _ _ q => q.elim
      cases r with
      | none => exact h₁
      | some u =>
        refine wpAny_mono h₁ (fun _ s₁ h₁ => wpAny_mono h₁ (fun _ s₂ h₂ => ?_) fun _ _ q => q.elim) fun _ _ q => q.elim
        obtain ⟨xx, i, ys', _, H6, pl, J2, back, q⟩ := h₂
        dsimp only at q
        rw [if_pos rfl] at q
        exact wpAny_mono (emit n xx i ys' H6 pl s₂ J2 back q) (fun y s₃ h₃ => ex0 h₃) fun _ _ q => q.elim
    | cons c r0 =>
      cases r0 with
      | cons _ _ => exact (hif C s3 H3 fp).elim
      | nil =>
        have hpt : PT (bB X scope C (x :: ys) s3 H3 fp) c tc := hif C s3 H3 fp
        refine iL (fun n s => ∃ i v ys' H', Inv (bB X scope C (x :: ys) s3 H3 fp) [] (v :: bM σ is) H' s ∧ tn i s.heap ∧ (∀ b ∈ fp, H' b = none) ∧ W i n ys' H') (fun n s hI => ?_) m0 start0
        refine wpAny_mono (turnAt n s hI) (fun r s₁ h₁ => ?_) fun _ _ q => q.elim
        cases r with
        | none => exact h₁
        | some u =>
          refine wpAny_mono h₁ (fun _ s₁ h₁ => wpAny_mono h₁ (fun _ s₂ h₂ => ?_) fun _ _ q => q.elim) fun _ _ q => q.elim
          obtain ⟨xx, i, ys', _, H6, pl, J2, back, q⟩ := h₂
          refine wpAny_mono (hpt ([] ++ pl) s₂ _ H6 _ J2 q) (fun b s₃ h₃ => ?_) fun _ _ q => q.elim
          obtain ⟨H4, J4, q4⟩ := h₃
          cases b with
          | true =>
            rw [if_pos rfl] at q4 ⊢
            exact wpAny_mono (emit n xx i ys' H4 pl s₃ J4 back q4) (fun y s₃ h₃ => ex0 h₃) fun _ _ q => q.elim
          | false =>
            rw [if_neg Bool.false_ne_true] at q4 ⊢
            obtain ⟨m', hm', w'⟩ := q4
            obtain ⟨b1, b2, b3⟩ := back s₃ _ _ J4
            exact ⟨m', hm', i + 1, some xx, ys', _, b1, b2, b3, w'⟩
  exact codeAny_compStart_list loop (T.self X.A 0 _ _ _ st4 loop)
end
section
variable {X:Cx}
theorem qX {scope:Scope} {x:Str} {ys:List Str} {is:List Nat} (ok:X.Ok) (S:fc scope x ys) (hcap:fR X scope ys is):closureFor scope X.env=pure (dw scope.names X.env.cells []):=
 oO fun y hy hk=>by
  obtain ⟨c,e⟩:=ok.has y.1 (mG hcap (S.all y hy hk))
  rw [e];rfl
theorem Au {elt iter:Expr} {ifs:List Expr} {x:Str} {px pos:Pos} {scope:Scope} {ys:List Str} {is:List Nat} {wi:TI} {tc:TT} {te:TE}
  (hc:X.calm=true) (S:fc scope x ys) (hcap:fR X scope ys is) (hi:PI X (.Name x px) iter wi)
  (hif:∀ C s H fp,sx (bB X scope C (x::ys) s H fp) ifs tc) (he:∀ C s H fp,PE (bB X scope C (x::ys) s H fp) elt te)
  (hs:∀ x,foldedSetIterable iter X.env x=pure x:=by intro _;rfl):PE X (.ListComp elt [⟨.Name x px,iter,ifs,0⟩] scope pos) (fI is wi tc te):=by
 intro pins s σ H Q I h
 rw [eval_ListComp]
 refine wpAny_comprehension_free (use:=none) rfl hs (qX I.ok S hcap) S.kind S.names (thn (hi pins s σ H _ I h) fun v s1 h1=>thn h1 fun itv s2 h2=>?_)
 obtain ⟨it,fp,tn,J,H2,rfl,I2,T,st2,f2,hW⟩:=h2
 refine mz (RR:=fun acc C=>compPost (model X.prog X.w) X.A X.xe none (EP X pins σ Q) acc C) hc S hcap hif he I2 T st2 f2 hW ?_
 intro D C H' s' hlt hns hne hfr I' back q
 obtain ⟨m,hm⟩:=hns
 exact ⟨m,hm,fun h' hs'=>⟨.ref D,H',back h' hs',rfl,q⟩⟩
theorem tN {elt iter:Expr} {ifs:List Expr} {x y:Str} {px py pos spos:Pos} {scope:Scope} {ys:List Str} {is:List Nat} {wi:TI} {tc:TT} {te:TE} {j:Nat}
  (hN:X.N.Nodup) (hj:X.N[j]?=some y) (hy:Loc X.env.scope y)
  (hc:X.calm=true) (S:fc scope x ys) (hcap:fR X scope ys is) (hi:PI X (.Name x px) iter wi)
  (hif:∀ C s H fp,sx (bB X scope C (x::ys) s H fp) ifs tc) (he:∀ C s H fp,PE (bB X scope C (x::ys) s H fp) elt te)
  (hsw:swapsWith (.ListComp elt [⟨.Name x px,iter,ifs,0⟩] scope pos) (some (.Name y py)) spos.line X.env=pure true:=by rfl)
  (hf:X.fn y=true∨X.env.scope.names.lookup y=some .local:=by first | exact .inl rfl | exact .inr rfl | assumption)
  (hs:∀ x,foldedSetIterable iter X.env x=pure x:=by intro _;rfl):PS X (.Assign [.Name y py] (.ListComp elt [⟨.Name x px,iter,ifs,0⟩] scope pos) spos) (aH (fI is wi tc te) (ax j)):=by
 intro pins s σ H D I h
 rw [exec_Assign_Name_used _ _ _ _ hsw]
 refine wpAny_bind (wpAny_standAt (wpAny_bind ?_))
 show wpAny _ X.A (do let _←comprehension (.ListComp elt [⟨.Name x px,iter,ifs,0⟩] scope pos) scope X.env _ (newList []) false (eval iter X.env) (some (assign (.Name y py) X.env))) _ _ s
 refine wpAny_bind (wpAny_mono (wpAny_comprehension_free (use:=some (assign (.Name y py) X.env)) (Q:=fun _ s'=>SP X pins D .next s') rfl hs (qX I.ok S hcap) S.kind S.names
  (thn (hi pins s σ H _ I h) fun v s1 h1=>thn h1 fun itv s2 h2=>?_)) (fun _ s' hq=>wpAny_pure (wpAny_pure hq)) fun _ _ e=>e)
 obtain ⟨it,fp,tn,J,H2,rfl,I2,T,st2,f2,hW⟩:=h2
 refine mz (Q:=fun x H1=>ax j x σ H1 D.nx) (RR:=fun acc C=>compPost (model X.prog X.w) X.A X.xe (some (assign (.Name y py) X.env)) (fun _ s'=>SP X pins D .next s') acc C) hc S hcap hif he I2 T st2 f2 hW ?_
 intro Da C H' s' hlt hns hne hfr I' back q
 show wpAny _ X.A (assign (.Name y py) X.env (.ref Da)) _ _ _
 obtain ⟨m,hm⟩:=hns
 refine wpAny_assign_Name (mH I' hN hj hy (v:=.ref Da) rfl (fun s2 I2' ⟨a,hsb,ha⟩=>?_) hf)
 have hCa:C≠a:=by
  rcases ha with e | e
  · rw [e];exact hne
  · rintro rfl
    obtain ⟨v,o,ho,hd⟩:=I'.cell y C e
    obtain ⟨o2,es,ep,ho2,hd2,_⟩:=hm
    rw [ho] at ho2;cases ho2;rw [hd] at hd2;cases hd2
 refine ⟨m,hm.sameBut hsb hCa,fun h' hs'=>?_⟩
 have hCn:∀ y c,X.env.cells.lookup y=some c→c≠C:=fun z c e q=>by
  subst q
  obtain ⟨v,o,ho,hd⟩:=I'.cell z c e
  obtain ⟨o2,es,ep,ho2,hd2,_⟩:=hm
  rw [ho] at ho2;cases ho2;rw [hd] at hd2;cases hd2
 have I3:Inv X pins (σ.set j (some (.ref Da))) H' { s2 with heap:=h' }:=by
  refine I2'.step (g':=s2.gens) (d':=s2.drawn) (t':=s2.toks) (ch:=[C]) (fun b hb=>?_) (fun b o _ _ hb e _=>(hs'.2 b (fun z=>hb (by simp [z]))).trans e) (fun b o _ _ hb e _=>⟨o.slots,(hs'.2 b (fun z=>hb (by simp [z]))).trans e⟩) (fun _ _ _ _ n=>n) (fun b o hb e=>⟨o,(hs'.2 b (fun z=>hb (by simp [z]))).trans e⟩)
    (fun _ _ e=>e) (fun _ _ _ e=>e) (fun b ps e=>⟨#[],by rw [e];simp⟩) (fun m' hm'=>hm'.sameBut hs' (Ne.symm hne)) (fun b o e=>?_) I2'.bare
  · have e:b=C:=by simpa using hb
    subst e
    exact ⟨.inr hlt.1,hne,fun z c e=>hCn z c e,hlt.2⟩
  · refine (I2'.hok b o e).stay (fun c w' hc q=>(hs'.2 c ?_).trans q) (fun _ q=>q) fun _ _ q=>q
    rintro rfl
    rcases hc with rfl | hc
    · rw [hfr] at e;cases e
    · rw [hfr] at hc;cases hc
 exact ⟨_,H',I3,q⟩
end
def tyN (H : Hp) : V → Option String
  | .non => some "NoneType"
  | .bl _ => some "bool"
  | .int _ => some "int"
  | .str _ => some "str"
  | .ref a => match H a with
    | some (.lst _) => some "list"
    | some (.frz _ (.lst _)) => some "list"
    | some (.tup _) => some "tuple"
    | some (.dK _) => some "dict"
    | some (.dT _) => some "dict"
    | _ => none
  | _ => none
theorem Bw {K : W.Frag} {H : Hp} {x : V} {t : String} (h : tyN H x = some t) : fq K H x (.type t) := by
  cases x with
  | non => cases h; exact .non
  | bl b => cases h; exact .bl b
  | int i => cases h; exact .int i
  | str x => cases h; exact .str x
  | byt _ => cases h
  | flt _ => cases h
  | ty _ => cases h
  | ref a =>
    unfold tyN at h
    dsimp only at h
    split at h
    · rename_i e; cases h; exact .lst e
    · rename_i e; cases h; exact .frz e
    · rename_i e; cases h; exact .tup e
    · rename_i e; cases h; exact .dK e
    · rename_i e; cases h; exact .dT e
    · cases h
def tyL:List String:=["NoneType", "bool", "int", "str", "list", "tuple", "dict"]
theorem Ea {H : Hp} {x : V} {t : String} (h : tyN H x = some t) : t ∈ tyL := by
  cases x with
  | non => cases h; decide
  | bl b => cases h; decide
  | int i => cases h; decide
  | str x => cases h; decide
  | byt _ => cases h
  | flt _ => cases h
  | ty _ => cases h
  | ref a =>
    unfold tyN at h
    dsimp only at h
    split at h <;> first | (cases h; decide) | cases h
def isI (t T:String):Bool:=t==T||(T== "int" &&t== "bool")
theorem Cs (K:W.Frag):∀ t∈tyL,∀ T∈["int", "bool", "str", "tuple", "list", "dict"],W.kitOne K (.type t) (.type T)=some (isI t T):=by
 intro t ht T hT
 simp only [tyL,List.mem_cons,List.not_mem_nil,or_false] at ht hT
 rcases ht with rfl | rfl | rfl | rfl | rfl | rfl | rfl <;> rcases hT with rfl | rfl | rfl | rfl | rfl | rfl <;> (unfold W.kitOne;first | rfl | decide +kernel | (simp only [W.kitCls];rfl))
section
variable {X:Cx}
theorem xD:bx X (.builtin "isinstance") (fun xs H Q=>∃ x T t,xs=[x,.ty T]∧T∈["int", "bool", "str", "tuple", "list", "dict"]∧tyN H x=some t∧Q (.bl (isI t T)) H):=by
 intro pins s σ H xs us Q I r h
 obtain ⟨x,T,t,rfl,hT,ht,q⟩:=h
 obtain ⟨u,w',rfl,r1,r2⟩:=jT r
 cases r2
 exact vd I r1 (Bw ht) (Cs X.K t (Ea ht) T hT) fun tk=>⟨.bl _,H,I.tok tk,rfl,q⟩
end
section
variable {X:Cx}
theorem qU : ∀ {bs : List Bool} {us : List Value}, bc (bs.map V.bl) us → us = bs.map Value.bool
  | [], _, .nil => rfl
  | b :: bs, _, .cons r t => by
    have e : _ = Value.bool b := r
    rw [qU t, List.map_cons, e]
theorem uu (bs:List Bool):(List.range bs.length).all (fun i=>bs.getD i false)=bs.all id:=by
 rw [Bool.eq_iff_iff,List.all_eq_true,List.all_eq_true]
 constructor
 · intro h b hb
   obtain ⟨i,hi,e⟩:=List.mem_iff_getElem.mp hb
   have:=h i (List.mem_range.mpr hi)
   simp only [List.getD_eq_getElem?_getD,List.getElem?_eq_getElem hi,Option.getD_some] at this
   rw [← e];exact this
 · intro h i hi
   have hi:=List.mem_range.mp hi
   simp only [List.getD_eq_getElem?_getD,List.getElem?_eq_getElem hi,Option.getD_some]
   exact h _ (List.getElem_mem hi)
theorem ql {prog : Program} {w : World} {A : Around} {bs : List Bool} : TruthOf prog w A (fun i v => (bs.map Value.bool).toArray[i]? = some v) (fun i => bs.getD i false) := by
  intro i v s Q E hP hQ
  have hP : (bs.map Value.bool)[i]? = some v := by simpa using hP
  rw [List.getElem?_map] at hP
  cases e : bs[i]? with
  | none => rw [e] at hP; cases hP
  | some b =>
    rw [e] at hP
    cases hP
    have hQ' : Q b s := by
      have e2 : bs.getD i false = b := by rw [List.getD_eq_getElem?_getD, e]; rfl
      have hQ2 : Q (bs.getD i false) s := hQ
      rw [e2] at hQ2; exact hQ2
    exact wpAny_of_eq (a := b) rfl hQ'
theorem yc (hc:X.calm=true):bx X (.builtin "all") (fun xs H Q=>∃ (a:Addr) (bs:List Bool),xs=[.ref a]∧H a=some (.lst (bs.map V.bl))∧Q (.bl (bs.all id)) H):=by
 intro pins s σ H xs us Q I r h
 obtain ⟨a,bs,rfl,hH,q⟩:=h
 obtain ⟨u,rfl,ru⟩:=fH r
 cases ru
 obtain ⟨z,its,n,rv,e⟩:=I.hok a _ hH
 have ei:=qU rv
 subst ei
 have hl:s.heap.IsList a (bs.map Value.bool).toArray:=⟨_,e,rfl,_,rfl⟩
 refine call_all_walk (wpAny_pyIter_list hl ?_)
 have hne:a≠s.heap.objs.size:=Nat.ne_of_lt (Heap.lt_size e)
 refine ⟨s.heap.objs.size,_,_,_,_,_,_,rfl,Walks.list (by show X.A.handled=none;exact I.ok.hd hc) _ a hne (bs.map Value.bool).toArray,⟨⟨_,Heap.get?_push_size _ rfl,rfl,rfl⟩,⟨_,Heap.get?_push_of_some _ e,rfl,_,rfl⟩⟩,ql,fun h' tk hk=>?_⟩
 have e2:((bs.map Value.bool).toArray).size=bs.length:=by simp
 rw [e2,uu]
 refine ⟨.bl _,H,I.kept (t':=tk) fun b o hb=>hk b o ?_ (Heap.get?_push_of_some _ hb),rfl,q⟩
 intro z
 have:b=s.heap.objs.size:=by simpa using z
 rw [this] at hb
 exact absurd (Heap.lt_size hb) (Nat.lt_irrefl _)
theorem qG : ∀ {xs : List Str} {us : List Value}, bc (xs.map V.str) us → StrsAre us xs
  | [], _, .nil => .nil
  | x :: xs, _, .cons r t => by
    obtain ⟨tk, e⟩ := (show ∃ t, _ = Value.str x t from r)
    rw [e]
    exact .cons _ _ (qG t)
def zc:V→List V→Hp→VK→Prop:=fun x vs H Q=>∃ (z:Str) (a:Addr) (xs:List Str),x=.str z∧vs=[.ref a]∧H a=some (.lst (xs.map V.str))∧(xs.map (·.length)).sum+xs.length*z.length≤16777216∧Q (.str (Txt.join z xs)) H
theorem zD:MtM X "str.join" zc:=by
 intro pins s σ H x vs v us Q I rx rv h
 obtain ⟨z,a,xs,rfl,rfl,hH,hz,q⟩:=h
 obtain ⟨t,rfl⟩:=(show ∃ t,v=Value.str z t from rx)
 obtain ⟨u,rfl,ru⟩:=rv.one
 cases ru
 obtain ⟨_,its,n,rv,e⟩:=I.hok a _ hH
 refine join_list (items:=its.toArray) ⟨_,e,rfl,_,rfl⟩ (by simpa using qG rv) hz fun t' k=>⟨.str _,H,I.tok k,⟨_,rfl⟩,q⟩
end
@[irreducible] def Sel (b:Bool) (A B:Prop):Prop:=if b=true then A else B
theorem Sel.mk {b:Bool} {A B:Prop} (h1:b=true→A) (h2:b=false→B):Sel b A B:=by
 unfold Sel
 cases b with
 | true=>exact h1 rfl
 | false=>exact h2 rfl
theorem Sel.t {A B:Prop} (h:A):Sel true A B:=.mk (fun _=>h) fun e=>by cases e
theorem Sel.f {A B:Prop} (h:B):Sel false A B:=.mk (fun e=>by cases e) fun _=>h
theorem Sel.dec {p A B:Prop} [Decidable p] (h1:p→A) (h2:¬ p→B):Sel (decide p) A B:=.mk (fun e=>h1 (of_decide_eq_true e)) fun e=>h2 (of_decide_eq_false e)
theorem Sel.ndec {p A B:Prop} [Decidable p] (h1:¬ p→A) (h2:p→B):Sel (!decide p) A B:=.mk (fun e=>h1 (by simpa using e)) fun e=>h2 (by simpa using e)
theorem Sel.yes {b:Bool} {A B:Prop} (e:b=true) (h:A):Sel b A B:=by rw [e];exact .t h
theorem Sel.no {b:Bool} {A B:Prop} (e:b=false) (h:B):Sel b A B:=by rw [e];exact .f h
theorem dJ {b:Bool} {A B:Prop} (h:Sel b A B):if b=true then A else B:=by unfold Sel at h;exact h
def af (i:Nat):TE:=fun σ H Q=>match σ[i]? with | some (some v)=>Q v H | _=>False
section
variable {X:Cx}
theorem PE.imp {e:Expr} {t t':TE} (h:PE X e t) (i:∀ σ H Q,t' σ H Q→t σ H Q):PE X e t':=fun pins s σ H Q I q=>h pins s σ H Q I (i _ _ _ q)
theorem OpR.imp {f:Value→Value→Sem Value} {r r':R2} (h:OpR X f r) (i:∀ x y H Q,r' x y H Q→r x y H Q):OpR X f r':=fun pins s σ H x y v u Q I rx ry q=>h pins s σ H x y v u Q I rx ry (i _ _ _ _ q)
theorem qv (i:Nat) {x:Str} {pos:Pos} (hN:X.N[i]?=some x:=by rfl) (hv:Vis X.env.scope x:=by first | exact Or.inl rfl | exact Or.inr (Or.inl rfl) | exact Or.inr (Or.inr rfl)) (hd:(x==("__debug__" :Str))=false:=by decide)
   (hcd:(x==("__classdict__" :Str))=false:=by decide):PE X (.Name x pos) (af i):=(Bp hN hv hd hcd).imp fun σ H Q q=>by
 unfold af at q
 split at q
 · rename_i v e;exact ⟨v,e,q⟩
 · exact q.elim
theorem qgi {x:Str} {i:Int} {pos:Pos} (hm:∃ t,X.mg x=some (.int i t)) (hg:Gl X x:=by rfl) (hd:(x==("__debug__" :Str))=false:=by decide):PE X (.Name x pos) (tC (.int i)):=by
 obtain ⟨t,e⟩:=hm
 exact lM hg e ⟨t,rfl⟩ hd
def cT:R2:=fun x y H Q=>match x,y with | .int i,.int j=>Q (.int (i - j)) H | _,_=>False
theorem df:OpR X (binaryOp .Sub) cT:=DW.imp fun x y H Q q=>by
 unfold cT at q
 split at q
 · exact ⟨_,_,rfl,rfl,q⟩
 · exact q.elim
theorem Az:OpR X (binaryOp .Mult) (rI IntMulOk fun i j=> .int (i*j)):=opI fun _ _ _ _ _ _ _ hc q=>mul_int q hc
def bZ:R2:=fun x y H Q=>match x,y with
 | .int i,.int j=>IntMulOk i j∧Q (.int (i*j)) H
 | _,_=>False
theorem cD:OpR X (binaryOp .Mult) bZ:=Az.imp fun x y H Q q=>by
 unfold bZ at q
 split at q
 · exact ⟨_,_,rfl,rfl,q.1,q.2⟩
 · exact q.elim
def bi:R2:=fun x y H Q=>match x,y with | .int i,.int j=>0<j∧Q (.int (i%j)) H | _,_=>False
theorem bj:OpR X (binaryOp .Mod) bi:=Br.imp fun x y H Q q=>by
 unfold bi at q
 split at q
 · exact ⟨_,_,rfl,rfl,q.1,q.2⟩
 · exact q.elim
def lN:R2:=fun x y H Q=>match x,y with | .int i,.int j=>(0≤j∧j≤1000000∧i.natAbs<2^64)∧Q (.int (i^j.toNat)) H | _,_=>False
theorem sj:OpR X (binaryOp .Pow) lN:=Cr.imp fun x y H Q q=>by
 unfold lN at q
 split at q
 · exact ⟨_,_,rfl,rfl,q.1,q.2⟩
 · exact q.elim
def cZ:R2:=fun x y H Q=>match x,y with | .int i,.int j=>(0≤j∧j≤1000000∧i.natAbs<2^64)∧Q (.int (i*2^j.toNat)) H | _,_=>False
theorem dN:OpR X (binaryOp .LShift) cZ:=Bx.imp fun x y H Q q=>by
 unfold cZ at q
 split at q
 · exact ⟨_,_,rfl,rfl,q.1,q.2⟩
 · exact q.elim
def ik:R2:=fun x y H Q=>match x,y with | .int i,.int j=>0≤j∧Q (.int (i/2^j.toNat)) H | _,_=>False
theorem lS:OpR X (binaryOp .RShift) ik:=CP.imp fun x y H Q q=>by
 unfold ik at q
 split at q
 · exact ⟨_,_,rfl,rfl,q.1,q.2⟩
 · exact q.elim
def yp:R2:=fun x y H Q=>match x,y with | .int i,.int j=>Q (.int (Builtin.bitXor i j)) H | _,_=>False
theorem Ii:OpR X (binaryOp .BitXor) yp:=CT.imp fun x y H Q q=>by
 unfold yp at q
 split at q
 · exact ⟨_,_,rfl,rfl,q⟩
 · exact q.elim
def sk:R2:=fun x y H Q=>match x,y with | .int i,.int j=>Q (.int (Builtin.bitAnd i j)) H | _,_=>False
theorem HL:OpR X (binaryOp .BitAnd) sk:=Bm.imp fun x y H Q q=>by
 unfold sk at q
 split at q
 · exact ⟨_,_,rfl,rfl,q⟩
 · exact q.elim
def mLt:R2:=fun x y H Q=>match x,y with | .int i,.int j=>Q (.bl (decide (i<j))) H | _,_=>False
theorem oLt:OpR X (compareOp .Lt) mLt:=FR.imp fun x y H Q q=>by
 unfold mLt at q
 split at q
 · exact ⟨_,_,rfl,rfl,q⟩
 · exact q.elim
def mLe:R2:=fun x y H Q=>match x,y with | .int i,.int j=>Q (.bl (decide (i≤j))) H | _,_=>False
theorem oLe:OpR X (compareOp .LtE) mLe:=Fw.imp fun x y H Q q=>by
 unfold mLe at q
 split at q
 · exact ⟨_,_,rfl,rfl,q⟩
 · exact q.elim
def mGt:R2:=fun x y H Q=>match x,y with | .int i,.int j=>Q (.bl (decide (j<i))) H | _,_=>False
theorem oGt:OpR X (compareOp .Gt) mGt:=GD.imp fun x y H Q q=>by
 unfold mGt at q
 split at q
 · exact ⟨_,_,rfl,rfl,q⟩
 · exact q.elim
def mEq:R2:=fun x y H Q=>match x,y with
 | .int i,.int j=>Q (.bl (decide (i=j))) H
 | .str i,.str j=>Q (.bl (decide (i=j))) H
 | .bl i,.bl j=>Q (.bl (decide (i=j))) H
 | .non,.non=>Q (.bl true) H
 | .non,.int _=>Q (.bl false) H | .int _,.non=>Q (.bl false) H | .non,.bl _=>Q (.bl false) H | .bl _,.non=>Q (.bl false) H | .non,.str _=>Q (.bl false) H | .str _,.non=>Q (.bl false) H
 | .int _,.str _=>Q (.bl false) H | .str _,.int _=>Q (.bl false) H | .bl _,.str _=>Q (.bl false) H | .str _,.bl _=>Q (.bl false) H
 | _,_=>False
theorem jo {α:Type} [DecidableEq α] {f:α→V} (hf:∀ a b,f a=f b→a=b) (a b:α):decide (f a=f b)=decide (a=b):=by
 by_cases h:a=b
 · subst h;simp
 · rw [decide_eq_false h,decide_eq_false fun e=>h (hf a b e)]
theorem oEq:OpR X (compareOp .Eq) mEq:=Hr.imp fun x y H Q q=>by
 unfold mEq at q
 split at q
 · exact ⟨rfl,by rw [jo (f:=V.int) fun _ _ e=>V.int.inj e];exact q⟩
 · exact ⟨rfl,by rw [jo (f:=V.str) fun _ _ e=>V.str.inj e];exact q⟩
 · exact ⟨rfl,by rw [jo (f:=V.bl) fun _ _ e=>V.bl.inj e];exact q⟩
 · exact ⟨rfl,by simpa using q⟩
 all_goals first | exact q.elim | exact ⟨rfl,q⟩
def mNe:R2:=fun x y H Q=>match x,y with
 | .int i,.int j=>Q (.bl (!decide (i=j))) H
 | .str i,.str j=>Q (.bl (!decide (i=j))) H
 | .bl i,.bl j=>Q (.bl (!decide (i=j))) H
 | .non,.non=>Q (.bl false) H
 | .non,.int _=>Q (.bl true) H | .int _,.non=>Q (.bl true) H | .non,.bl _=>Q (.bl true) H | .bl _,.non=>Q (.bl true) H | .non,.str _=>Q (.bl true) H | .str _,.non=>Q (.bl true) H
 | .int _,.str _=>Q (.bl true) H | .str _,.int _=>Q (.bl true) H | .bl _,.str _=>Q (.bl true) H | .str _,.bl _=>Q (.bl true) H
 | _,_=>False
theorem oNe:OpR X (compareOp .NotEq) mNe:=Gp.imp fun x y H Q q=>by
 unfold mNe at q
 split at q
 · exact ⟨rfl,by rw [jo (f:=V.int) fun _ _ e=>V.int.inj e];exact q⟩
 · exact ⟨rfl,by rw [jo (f:=V.str) fun _ _ e=>V.str.inj e];exact q⟩
 · exact ⟨rfl,by rw [jo (f:=V.bl) fun _ _ e=>V.bl.inj e];exact q⟩
 · exact ⟨rfl,by simpa using q⟩
 all_goals first | exact q.elim | exact ⟨rfl,q⟩
def wR:R2:=fun x y H Q=>match y with | .non=>Q (.bl (match x with | .non=>true | _=>false)) H | _=>False
theorem oIs:OpR X (compareOp .Is) wR:=AM.imp fun x y H Q q=>by
 unfold wR at q
 split at q
 · refine ⟨rfl,?_⟩
   cases x <;> simpa using q
 · exact q.elim
def aL (t:TE):TT:=fun σ H Q=>t σ H fun x H'=>match x with | .bl k=>Q k H' | _=>False
theorem qtc {op:CmpOp} {r:R2} {a b:Expr} {ta tb:TE} {pos:Pos} (ho:OpR X (compareOp op) r) (ha:PE X a ta) (hb:PE X b tb) (hm:behindInMarks op b=false:=by first | exact kN _ | rfl):PT X (.Compare a [op] [b] pos) (aL (tOp r ta tb)):=by
 intro pins s σ H Q I h
 refine wpAny_isTrue_Compare1 (thn (ha pins s σ H _ I h) fun v s1 ⟨x,H1,I1,r1,q1⟩=>thn (hb pins s1 σ H1 _ I1 q1) fun u s2 ⟨y,H2,I2,r2,q2⟩=>
  thn (ho pins s2 σ H2 x y v u _ I2 r1 r2 q2) fun c s3 ⟨z,H3,I3,r3,q3⟩=>?_) hm
 cases z <;> first | exact q3.elim | (cases r3;exact wpAny_truthy_bool ⟨H3,I3,q3⟩)
theorem qc {op:CmpOp} {r:R2} {a b:Expr} {ta tb:TE} {pos:Pos} (ho:OpR X (compareOp op) r) (ha:PE X a ta) (hb:PE X b tb) (hm:behindInMarks op b=false:=by first | exact kN _ | rfl):PE X (.Compare a [op] [b] pos) (tOp r ta tb):=Af ho ha hb hm
def cS (r r':R2) (ta tb tc:TE):TE:=fun σ H Q=>ta σ H fun x H1=>tb σ H1 fun y H2=>r x y H2 fun z H3=>match z with
 | .bl k=>Sel k (tc σ H3 fun w' H4=>r' y w' H4 Q) (Q (.bl false) H3)
 | _=>False
theorem qch {op op':CmpOp} {r r':R2} {a b c:Expr} {ta tb tc:TE} {pos:Pos} (ho:OpR X (compareOp op) r) (ho':OpR X (compareOp op') r') (ha:PE X a ta) (hb:PE X b tb) (hc:PE X c tc)
  (hm:lastMarks [op,op'] [b,c]=false:=by with_unfolding_all rfl):PE X (.Compare a [op,op'] [b,c] pos) (cS r r' ta tb tc):=by
 intro pins s σ H Q I h
 refine Compare_chain (thn (ha pins s σ H _ I h) fun v s1 ⟨x,H1,I1,r1,q1⟩=>chain_link (thn (hb pins s1 σ H1 _ I1 q1) fun u s2 ⟨y,H2,I2,r2,q2⟩=>
  thn (ho pins s2 σ H2 x y v u _ I2 r1 r2 q2) fun d s3 ⟨z,H3,I3,r3,q3⟩=>?_)) hm
 cases z <;> first | exact q3.elim | skip
 rename_i k
 cases r3
 refine wpAny_truthy_bool ?_
 have q3:=dJ q3
 cases k with
 | false=>exact ite_ff ⟨.bl false,H3,I3,rfl,q3⟩
 | true=>exact ite_tt (chain_last (thn (hc pins s3 σ H3 _ I3 q3) fun w' s4 ⟨z',H4,I4,r4,q4⟩=>ho' pins s4 σ H4 y z' u w' Q I4 r2 r4 q4))
theorem IJ {op op' : CmpOp} {r r' : R2} {a b c : Expr} {ta tb tc : TE} {pos : Pos} (ho : OpR X (compareOp op) r) (ho' : OpR X (compareOp op') r') (ha : PE X a ta) (hb : PE X b tb) (hc : PE X c tc)
    (hm : lastMarks [op, op'] [b, c] = false := by with_unfolding_all rfl) : PT X (.Compare a [op, op'] [b, c] pos) (aL (cS r r' ta tb tc)) := by
  intro pins s σ H Q I h
  refine isTrue_chain (thn (ha pins s σ H _ I h) fun v s1 ⟨x, H1, I1, r1, q1⟩ => test_link (thn (hb pins s1 σ H1 _ I1 q1) fun u s2 ⟨y, H2, I2, r2, q2⟩ =>
    thn (ho pins s2 σ H2 x y v u _ I2 r1 r2 q2) fun d s3 ⟨z, H3, I3, r3, q3⟩ => ?_)) hm
  cases z <;> first | exact q3.elim | skip
  rename_i k
  cases r3
  refine wpAny_truthy_bool ?_
  have q3 := dJ q3
  cases k with
  | false => exact ite_ff ⟨H3, I3, q3⟩
  | true =>
    refine ite_tt (test_last (thn (hc pins s3 σ H3 _ I3 q3) fun w' s4 ⟨z', H4, I4, r4, q4⟩ => thn (ho' pins s4 σ H4 y z' u w' _ I4 r2 r4 q4) fun d' s5 ⟨z2, H5, I5, r5, q5⟩ => ?_))
    cases z2 <;> first | exact q5.elim | (cases r5; exact wpAny_truthy_bool ⟨H5, I5, q5⟩)
def bC (K:W.Frag) (t:TE):TT:=fun σ H Q=>t σ H fun x H'=>match x with
 | .bl k=>Q k H'
 | .non=>Q false H'
 | .int i=>Q (i !=0) H'
 | x=>∃ k,BC K x H' k∧Q k H'
theorem qtb {e:Expr} {t:TE} (h:PE X e t) (he:∀ whole,isTrue e X.env whole=(do let v←whole;standAt e.pos;holding [v] (truthy v)):=by intro _;rfl):PT X e (bC X.K t):=by
 intro pins s σ H Q I q
 refine isTrue_plain (thn (h pins s σ H _ I q) fun v s1 ⟨x,H1,I1,r1,q1⟩=>DE pins s1 σ H1 x v Q I1 r1 ?_) (he _)
 cases x <;> first | exact ⟨_,rfl,q1⟩ | exact q1
def fi (t u:TT):TT:=fun σ H Q=>t σ H fun c H1=>Sel c (u σ H1 Q) (Q false H1)
def mOr (t u:TT):TT:=fun σ H Q=>t σ H fun c H1=>Sel c (Q true H1) (u σ H1 Q)
variable {a b c:Expr} {ta tb:TE} {tA tB':TT} {bz:List Expr} {pos:Pos}
theorem zF (ha:PT X a tA):PW X (.BoolOp .And [a] pos) tA:=Av ha
theorem CS (ha:PT X a tA):PW X (.BoolOp .Or [a] pos) tA:=Di ha
theorem Bq (ha:PT X a tA) (hb:PW X (.BoolOp .And (b::bz) pos) tB'):PW X (.BoolOp .And (a::b::bz) pos) (fi tA tB'):=by
 intro wh pins s σ H Q I h
 refine isTrue_and (thn (ha pins s σ H _ I h) fun c s1 ⟨H1,I1,q1⟩=>?_)
 have q1:=dJ q1
 cases c with
 | true=>exact hb wh pins s1 σ H1 Q I1 q1
 | false=>exact ⟨H1,I1,q1⟩
theorem GB (ha:PT X a tA) (hb:PW X (.BoolOp .Or (b::bz) pos) tB'):PW X (.BoolOp .Or (a::b::bz) pos) (mOr tA tB'):=by
 intro wh pins s σ H Q I h
 refine isTrue_or (thn (ha pins s σ H _ I h) fun c s1 ⟨H1,I1,q1⟩=>?_)
 have q1:=dJ q1
 cases c with
 | true=>exact ⟨H1,I1,q1⟩
 | false=>exact hb wh pins s1 σ H1 Q I1 q1
def dB (ta tb:TE):TE:=fun σ H Q=>ta σ H fun x H1=>match x with | .bl c=>Sel c (tb σ H1 Q) (Q (.bl false) H1) | _=>False
def xq (ta tb:TE):TE:=fun σ H Q=>ta σ H fun x H1=>match x with | .bl c=>Sel c (Q (.bl true) H1) (tb σ H1 Q) | _=>False
def nB (ta:TE):TE:=fun σ H Q=>ta σ H fun x H1=>match x with | .bl c=>Q (.bl (!c)) H1 | _=>False
theorem II (ha:PE X a ta) (hb:PE X (.BoolOp .And (b::bz) pos) tb):PE X (.BoolOp .And (a::b::bz) pos) (dB ta tb):=by
 intro pins s σ H Q I h
 refine BoolOp_and (thn (ha pins s σ H _ I h) fun v s1 ⟨x,H1,I1,r1,q1⟩=>?_)
 cases x <;> first | exact q1.elim | skip
 rename_i c
 cases r1
 refine wpAny_truthy_bool ?_
 have q1:=dJ q1
 cases c with
 | true=>exact hb pins s1 σ H1 Q I1 q1
 | false=>exact ⟨.bl false,H1,I1,rfl,q1⟩
theorem qor (ha:PE X a ta) (hb:PE X (.BoolOp .Or (b::bz) pos) tb):PE X (.BoolOp .Or (a::b::bz) pos) (xq ta tb):=by
 intro pins s σ H Q I h
 refine BoolOp_or (thn (ha pins s σ H _ I h) fun v s1 ⟨x,H1,I1,r1,q1⟩=>?_)
 cases x <;> first | exact q1.elim | skip
 rename_i c
 cases r1
 refine wpAny_truthy_bool ?_
 have q1:=dJ q1
 cases c with
 | false=>exact hb pins s1 σ H1 Q I1 q1
 | true=>exact ⟨.bl true,H1,I1,rfl,q1⟩
theorem Er (ha:PE X a ta):PE X (.UnaryOp .Not a pos) (nB ta):=by
 intro pins s σ H Q I h
 refine UnaryOp_ (thn (ha pins s σ H _ I h) fun v s1 ⟨x,H1,I1,r1,q1⟩=>?_)
 cases x <;> first | exact q1.elim | skip
 rename_i c
 cases r1
 exact not_of (wpAny_truthy_bool ⟨.bl (!c),H1,I1,rfl,q1⟩)
def mIf (t:TT) (ta tb:TE):TE:=fun σ H Q=>t σ H fun c H1=>Sel c (ta σ H1 Q) (tb σ H1 Q)
theorem Jd {c:Expr} (hc:PT X c tA) (ha:PE X a ta) (hb:PE X b tb):PE X (.IfExp c a b pos) (mIf tA ta tb):=by
 intro pins s σ H Q I h
 refine wpAny_IfExp (thn (hc pins s σ H _ I h) fun d s1 ⟨H1,I1,q1⟩=>?_)
 have q1:=dJ q1
 cases d with
 | true=>exact ha pins s1 σ H1 Q I1 q1
 | false=>exact hb pins s1 σ H1 Q I1 q1
def aR (c:TT) (t u:TS):TS:=fun D σ H=>c σ H fun b H1=>Sel b (t D σ H1) (u D σ H1)
theorem qif {c:Expr} {l m:List Stmt} {tc:TT} {t u:TS} (hc:PT X c tc) (ha:PSs X l t) (hb:PSs X m u):PS X (.If c l m pos) (aR tc t u):=by
 intro pins s σ H D I h
 refine wpAny_If (thn (hc pins s σ H _ I h) fun d s1 ⟨H1,I1,q1⟩=>?_)
 have q1:=dJ q1
 cases d with
 | true=>exact ha pins s1 σ H1 D I1 q1
 | false=>exact hb pins s1 σ H1 D I1 q1
theorem Jg:bx X (.builtin "len") (fun xs H Q=>match xs with
   | [.str y]=>y.length≤sizeLine∧Q (.int y.length) H
   | [.ref p]=>(∃ xs,SqL X.K H p xs∧Q (.int xs.length) H)∨(∃ xs,SqT X.K H p xs∧Q (.int xs.length) H)∨∃ kvs,H p=some (.dK kvs)∧Q (.int kvs.length) H
   | _=>False):=by
 intro pins s σ H xs us Q I r h
 split at h
 · rename_i y
   exact kA pins s σ H _ us Q I r ⟨_,_,rfl,⟨h.1,rfl⟩,h.2⟩
 · rename_i p
   rcases h with ⟨ys,h1,h2⟩ | ⟨ys,h1,h2⟩ | ⟨kvs,h1,h2⟩
   · exact kA pins s σ H _ us Q I r ⟨_,_,rfl,.inl ⟨ys,h1,rfl⟩,h2⟩
   · exact kA pins s σ H _ us Q I r ⟨_,_,rfl,.inr ⟨ys,h1,rfl⟩,h2⟩
   · exact vC pins s σ H _ us Q I r ⟨p,kvs,rfl,h1,h2⟩
 · exact h.elim
end
section
variable {X:Cx} {tg:Expr}
def gJ:V→Hp→VK→Prop:=fun x H Q=>match x with | .int i=>Q (.int (-i)) H | _=>False
theorem IX:UnR X (unaryOp .USub) gJ:=fun pins s σ H x v Q I rx q=>Dv pins s σ H x v Q I rx (by
 unfold gJ at q
 split at q
 · exact ⟨_,rfl,q⟩
 · exact q.elim)
def DS (K:W.Frag):List V→Hp→VK→Prop:=fun xs H Q=>match xs with
 | [.str y]=>y.length≤sizeLine∧Q (.int y.length) H
 | [.ref p]=>(∃ xs,SqL K H p xs∧Q (.int xs.length) H)∨(∃ xs,SqT K H p xs∧Q (.int xs.length) H)∨∃ kvs,H p=some (.dK kvs)∧Q (.int kvs.length) H
 | _=>False
theorem Io:bx X (.builtin "len") (DS X.K):=Jg
def dM:List V→Hp→VK→Prop:=fun xs H Q=>match xs with
 | [x,.ty T]=>T∈["int", "bool", "str", "tuple", "list", "dict"]∧∃ t,tyN H x=some t∧Q (.bl (isI t T)) H
 | _=>False
theorem eF:bx X (.builtin "isinstance") dM:=fun pins s σ H xs us Q I r h=>by
 unfold dM at h
 split at h
 · obtain ⟨h1,t,h2,h3⟩:=h
   exact xD pins s σ H _ us Q I r ⟨_,_,t,rfl,h1,h2,h3⟩
 · exact h.elim
def Dm:List V→Hp→VK→Prop:=fun xs H Q=>∃ (a:Addr) (bs:List Bool),xs=[.ref a]∧H a=some (.lst (bs.map V.bl))∧Q (.bl (bs.all id)) H
theorem JY (hc:X.calm=true):bx X (.builtin "all") Dm:=yc hc
def yN (K:W.Frag):List V→Hp→VK→Prop:=fun xs H Q=>∃ p ys,xs=[.ref p]∧(SqL K H p ys∨SqT K H p ys)∧∀ l,H l=none→Q (.ref l) (upd H l (.lst ys))
theorem Hn:bx X (.type "list") (yN X.K):=pX
def ve (K:W.Frag):List V→Hp→VK→Prop:=fun xs H Q=>∃ p ys,xs=[.ref p]∧((SqL K H p ys∧∀ l,H l=none→Q (.ref l) (upd H l (.tup ys)))∨(SqT K H p ys∧Q (.ref p) H))
theorem BE:bx X (.type "tuple") (ve X.K):=mZ
def wO:List V→Hp→VK→Prop:=fun xs H Q=>match xs with
 | [.int i]=>i.natAbs.log2<1920∧Q (.str (toString i)) H
 | _=>False
theorem IQ:bx X (.type "str") wO:=fun pins s σ H xs us Q I r h=>by
 unfold wO at h
 split at h
 · exact iN pins s σ H _ us Q I r ⟨_,rfl,h.1,h.2⟩
 · exact h.elim
def wU:List V→Hp→VK→Prop:=fun xs H Q=>match xs with
 | [.str x]=>x.length=1∧Q (.int (x.cps.getD 0 0:Nat)) H
 | _=>False
theorem Iz:bx X (.builtin "ord") wU:=fun pins s σ H xs us Q I r h=>by
 unfold wU at h
 split at h
 · exact vP pins s σ H _ us Q I r ⟨_,rfl,h.1,h.2⟩
 · exact h.elim
end
theorem Bn:bootBuiltins "all" =some (.builtin "all"):=by decide +kernel
structure eA (J:It) (n:Nat) (it:Nat→V) (Pv:Hp→Prop):Prop where
 go:∀ i H,i<n→Pv H→J.go i H
 yld:∀ i H x H',i<n→Pv H→J.yld i H x H'→H'=H∧x=it i
 stop:∀ H,Pv H→J.stop n H
theorem eA.list {K:W.Frag} {a:Addr} {xs:List V} (d:V):eA (Itl K a) xs.length (fun i=>xs.getD i d) (fun H=>SqL K H a xs) where
 go:=fun i H hi h=>⟨xs,xs[i],h,by simp [hi]⟩
 yld:=fun i H x H' hi h y=>⟨y.1,by have:=y.2 xs h;rw [List.getD_eq_getElem?_getD,this];rfl⟩
 stop:=fun H h=>⟨xs,h,Nat.le_refl _⟩
theorem eA.tuple {K:W.Frag} {a:Addr} {xs:List V} (d:V):eA (Itt K a) xs.length (fun i=>xs.getD i d) (fun H=>SqT K H a xs) where
 go:=fun i H hi h=>⟨xs,xs[i],h,by simp [hi]⟩
 yld:=fun i H x H' hi h y=>⟨y.1,by have:=y.2 xs h;rw [List.getD_eq_getElem?_getD,this];rfl⟩
 stop:=fun H h=>⟨xs,h,Nat.le_refl _⟩
def CWd (n:Nat) (Pv:Nat→List V→Hp→Prop):Nat→Nat→List V→Hp→Prop:=fun i m ys H=>i≤n∧m=n - i∧Pv i ys H
theorem CWd.next {n i:Nat} {Pv:Nat→List V→Hp→Prop} {ys:List V} {H:Hp} (hi:i<n) (h:Pv (i+1) ys H):∃ m',m'<n - i∧CWd n Pv (i+1) m' ys H:=⟨n - (i+1),by omega,hi,rfl,h⟩
theorem gn {J : It} {n : Nat} {it : Nat → V} {Pk : Hp → Prop} {σ : St} {is : List Nat} {tc : TT} {te : TE} {Q : VK} {H1 : Hp} {D : Addr} (T : eA J n it Pk) (Pv : Nat → List V → Hp → Prop)
   (hk : ∀ i ys H, i ≤ n → Pv i ys H → Pk H) (h0 : Pv 0 [] (upd H1 D (.lst [])))
   (hs : ∀ i ys H2, i < n → Pv i ys H2 → tc (some (it i) :: bM σ is) H2 fun b H4 => if b = true then
    te (some (it i) :: bM σ is) H4 fun y H5 => H5 D = some (.lst ys) ∧ ys.length < sizeLine ∧ ∃ m', m' < n - i ∧ CWd n Pv (i + 1) m' (ys ++ [y]) (upd H5 D (.lst (ys ++ [y])))
    else ∃ m', m' < n - i ∧ CWd n Pv (i + 1) m' ys H4)
   (hd : ∀ ys H, Pv n ys H → Q (.ref D) H) : rJ is tc te σ D J H1 Q := by
 refine ⟨CWd n Pv, ⟨n, Nat.zero_le _, rfl, h0⟩, ?_⟩
 rintro i m ys H2 ⟨hi, rfl, p⟩
 by_cases hlt : i < n
 · refine .inr ⟨T.go i H2 hlt (hk i ys H2 hi p), fun x H3 y => ?_⟩
   obtain ⟨rfl, rfl⟩ := T.yld i H2 x H3 hlt (hk i ys H2 hi p) y
   exact hs i ys _ hlt p
 · have e : i = n := by omega
   subst e
   exact .inl ⟨T.stop H2 (hk _ ys H2 hi p), hd ys H2 p⟩
theorem av.upd {H:Hp} {p:Addr} {o:HO} (h:H p=none):av H (upd H p o):=fun b u e=>by rw [au (aD e h)];exact e
theorem av.put {H H':Hp} {p:Addr} {o:HO} (s:av H H') (h:H p=none):av H (L2.upd H' p o):=fun b u e=>by rw [au (aD e h)];exact s b u e
theorem vx {xs:List V} {i:Int} (h0:0≤i) (h1:i<xs.length):atI xs i=some (xs.getD i.toNat .non):=by
 unfold atI ixN
 rw [if_pos h0,if_pos h1]
 show xs[i.toNat]?=_
 rw [List.getD_eq_getElem?_getD]
 have:i.toNat<xs.length:=by omega
 rw [List.getElem?_eq_getElem this];rfl
def cn:Expr→Bool
 | .Starred _ _=>false
 | _=>true
theorem bv {e:Expr} (h:cn e=true) (bz:List Expr) (env:Env):starEach (e::bz) env=(false,eval e env)::starEach bz env:=by
 cases e <;> first | rfl | cases h
def bp:List Expr→Bool
 | []=>true
 | e::r=>cn e&&bp r
theorem cg : ∀ {es : List Expr} {env : Env} {pos : Pos}, bp es = true → (backTo pos (starEach es env)).any (·.1) = false
  | [], _, _, _ => rfl
  | e :: r, env, pos, h => by
    have h : (cn e && bp r) = true := h
    rw [Bool.and_eq_true] at h
    rw [bv h.1]
    show (false || (backTo pos (starEach r env)).any (·.1)) = false
    rw [cg h.2]; rfl
section
variable {X:Cx} {e:Expr} {es:List Expr} {te:TE} {t:TA} {pos:Pos}
theorem zZ (ha:PE X e te) (hr:PA X es t) (hs:cn e=true:=by rfl):PA X (e::es) (ae te t):=Ao ha hr (bv hs es X.env)
variable {x:Str} {p apos cpos:Pos} {id T:String} {r:List V→Hp→VK→Prop}
theorem zG (hc:bx X (.builtin id) r) (hg:Gl X x) (hm:X.mg x=none) (hv:bootBuiltins x=some (.builtin id)) (ha:PA X (e::es) t) (hn:x≠ "__name__" :=by decide) (hdb:(x==("__debug__" :Str))=false:=by decide)
  (hs:bp (e::es)=true:=by rfl):PE X (.Call (.Name x p) (e::es) [] pos) (tCB r t):=
 have h:(cn e&&bp es)=true:=hs
 xo hc hg hm hv ha hn hdb (bv (Bool.and_eq_true_iff.mp h).1 es X.env) (cg (Bool.and_eq_true_iff.mp h).2)
theorem vZ (hc:bx X (.type T) r) (hg:Gl X x) (hm:X.mg x=none) (hv:bootBuiltins x=some (.type T)) (ha:PA X (e::es) t) (hn:x≠ "__name__" :=by decide) (hdb:(x==("__debug__" :Str))=false:=by decide)
  (hs:bp (e::es)=true:=by rfl):PE X (.Call (.Name x p) (e::es) [] pos) (tCB r t):=
 have h:(cn e&&bp es)=true:=hs
 uT hc hg hm hv ha hn hdb (bv (Bool.and_eq_true_iff.mp h).1 es X.env) (cg (Bool.and_eq_true_iff.mp h).2)
variable {CX:CXT} {k:Nat} {f C:Addr} {fd:FuncData} {ps:List Str} {sp:Sp} {dvs:List V} {ds:List Value} {E:XK} {m:Str} {o:Expr} {ta:TE}
theorem kf : ∀ {es : List Expr} {env : Env} {pos : Pos}, bp es = true → (backTo pos (starEach es env)).all (fun x => !x.1) = true
  | [], _, _, _ => rfl
  | e :: r, env, pos, h => by
    have h : (cn e && bp r) = true := h
    rw [Bool.and_eq_true] at h
    rw [bv h.1]
    show (true && (backTo pos (starEach r env)).all (fun x => !x.1)) = true
    rw [kf h.2]; rfl
variable {to:TE} {name:Str} {rm:V→List V→Hp→VK→Prop}
theorem JQ (pa:PlainAttrs T) (slot:Slot T name id) (hty:typeOf (.builtin id)=pure (.type "method_descriptor")) (hm:MtR X id rm) (ho:PE X o to) (ha:PA X (e::es) t)
  (hbase:attributeBase o name X.env (eval o X.env)=eval o X.env:=by rfl) (hfew:decide ((e::es).length<30)=true:=by rfl)
  (hline:(apos.endLine==cpos.line)=true:=by rfl) (hs:bp (e::es)=true:=by rfl):PE X (.Call (.Attribute o name apos) (e::es) [] cpos) (tBM X.K T rm to t):=
 have h:(cn e&&bp es)=true:=hs
 Gy pa slot hty hm ho ha hbase (by rw [kf hs];exact hfew) hline (bv (Bool.and_eq_true_iff.mp h).1 es X.env) (cg (Bool.and_eq_true_iff.mp h).2)
end
structure QE (X:Cx) (e:Expr) (t:TE):Prop where
 out:PE X e t
structure QT (X:Cx) (e:Expr) (t:TT):Prop where
 out:PT X e t
structure QW (X:Cx) (e:Expr) (t:TT):Prop where
 out:PW X e t
structure QA (X:Cx) (e:List Expr) (t:TA):Prop where
 out:PA X e t
structure QS (X:Cx) (e:Stmt) (t:TS):Prop where
 out:PS X e t
structure QSs (X:Cx) (e:List Stmt) (t:TS):Prop where
 out:PSs X e t
structure QI (X:Cx) (tg iter:Expr) (t:TI):Prop where
 out:PI X tg iter t
structure QO (X:Cx) (e:Option Expr) (t:TO):Prop where
 out:PO X e t
structure rO (X:Cx) (e:List Expr) (t:TT):Prop where
 out:sx X e t
section
variable {X:Cx} {a b c e o:Expr} {es bz:List Expr} {ta tb tc te to tv:TE} {tA tB':TT} {t:TA} {pos apos cpos p:Pos} {x y:Str}
theorem ac (i:Nat) (hN:X.N[i]?=some x:=by rfl) (hv:Vis X.env.scope x:=by first | exact Or.inl rfl | exact Or.inr (Or.inl rfl) | exact Or.inr (Or.inr rfl)) (hd:(x==("__debug__" :Str))=false:=by decide)
 (hcd:(x==("__classdict__" :Str))=false:=by decide):QE X (.Name x pos) (af i):=⟨qv i hN hv hd hcd⟩
theorem xg {i:Int} (hm:∃ t,X.mg x=some (.int i t)) (hg:Gl X x:=by rfl) (hd:(x==("__debug__" :Str))=false:=by decide):QE X (.Name x pos) (tC (.int i)):=⟨qgi hm hg hd⟩
theorem dZ {T:String} (hm:X.mg x=none) (hv:bootBuiltins x=some (.type T)) (hg:Gl X x:=by rfl) (hn:x≠ "__name__" :=by decide) (hd:(x==("__debug__" :Str))=false:=by decide):QE X (.Name x pos) (tC (.ty T)):=⟨Aq hg hm hv rfl hn hd⟩
theorem ag {i:Int} {j}:QE X (.Constant (.int i) j pos) (tC (.int i)):=⟨DO⟩
theorem bT {b:Bool} {j}:QE X (.Constant (.bool b) j pos) (tC (.bl b)):=⟨GN⟩
theorem lg {j}:QE X (.Constant .none j pos) (tC .non):=⟨De⟩
theorem aW {z:Str} {j}:QE X (.Constant (.str z) j pos) (tC (.str z)):=⟨AA⟩
theorem iq (ha:QE X a ta):QE X (.UnaryOp .USub a pos) (tUn gJ ta):=⟨HC IX ha.out⟩
theorem yB (ha:QE X a ta):QE X (.UnaryOp .Not a pos) (nB ta):=⟨Er ha.out⟩
theorem aq {op:Operator} {r:R2} (ho:OpR X (binaryOp op) r) (ha:QE X a ta) (hb:QE X b tb):QE X (.BinOp a op b pos) (tOp r ta tb):=⟨GQ ho ha.out hb.out⟩
theorem dS {op:CmpOp} {r:R2} (ho:OpR X (compareOp op) r) (ha:QE X a ta) (hb:QE X b tb) (hm:behindInMarks op b=false:=by first | exact kN _ | rfl):QE X (.Compare a [op] [b] pos) (tOp r ta tb):=⟨qc ho ha.out hb.out hm⟩
theorem lG {op op':CmpOp} {r r':R2} (ho:OpR X (compareOp op) r) (ho':OpR X (compareOp op') r') (ha:QE X a ta) (hb:QE X b tb) (hc:QE X c tc) (hm:lastMarks [op,op'] [b,c]=false:=by with_unfolding_all rfl):
 QE X (.Compare a [op,op'] [b,c] pos) (cS r r' ta tb tc):=⟨qch ho ho' ha.out hb.out hc.out hm⟩
theorem fh {op} (h:QE X a ta):QE X (.BoolOp op [a] pos) ta:=⟨AF h.out⟩
theorem eB (ha:QE X a ta) (hb:QE X (.BoolOp .And (b::bz) pos) tb):QE X (.BoolOp .And (a::b::bz) pos) (dB ta tb):=⟨II ha.out hb.out⟩
theorem JN (ha:QE X a ta) (hb:QE X (.BoolOp .Or (b::bz) pos) tb):QE X (.BoolOp .Or (a::b::bz) pos) (xq ta tb):=⟨qor ha.out hb.out⟩
theorem IU (hc:QT X c tA) (ha:QE X a ta) (hb:QE X b tb):QE X (.IfExp c a b pos) (mIf tA ta tb):=⟨Jd hc.out ha.out hb.out⟩
theorem ai:QA X [] al:=⟨AD⟩
theorem aa (ha:QE X e te) (hr:QA X es t) (hs:cn e=true:=by rfl):QA X (e::es) (ae te t):=⟨zZ ha.out hr.out hs⟩
theorem bK (h:QA X es t):QE X (.List es pos) (bJ t):=⟨CN h.out⟩
theorem bn {x1} (h:QA X es t):QE X (.Tuple es x1 pos) (br t):=⟨Dl h.out⟩
theorem aM {r:R2} (hr:IxR X r) (ha:QE X a ta) (hb:QE X b tb) (hs:qR b):QE X (.Subscript a b pos) (tOp r ta tb):=⟨EK hr ha.out hb.out hs⟩
theorem lT:QO X none ie:=⟨Aj⟩
theorem gS (h:QE X e te):QO X (some e) (ix te):=⟨Ay h.out⟩
theorem jP {r:V→Option Int→Option Int→Hp→VK→Prop} {lo hi:Option Expr} {tl th:TO} {p2:Pos} (hr:SlR X r) (he:QE X e te) (hl:QO X lo tl) (hu:QO X hi th):QE X (.Subscript e (.Slice lo hi none p2) pos) (tSl r te tl th):=⟨xt hr he.out hl.out hu.out⟩
variable {id T:String} {r:List V→Hp→VK→Prop}
theorem aN (hc:bx X (.builtin id) r) (hm:X.mg x=none) (hv:bootBuiltins x=some (.builtin id)) (ha:QA X (e::es) t) (hg:Gl X x:=by rfl) (hn:x≠ "__name__" :=by decide) (hdb:(x==("__debug__" :Str))=false:=by decide)
 (hs:bp (e::es)=true:=by rfl):QE X (.Call (.Name x p) (e::es) [] pos) (tCB r t):=⟨zG hc hg hm hv ha.out hn hdb hs⟩
theorem iw (hc:bx X (.type T) r) (hm:X.mg x=none) (hv:bootBuiltins x=some (.type T)) (ha:QA X (e::es) t) (hg:Gl X x:=by rfl) (hn:x≠ "__name__" :=by decide) (hdb:(x==("__debug__" :Str))=false:=by decide)
 (hs:bp (e::es)=true:=by rfl):QE X (.Call (.Name x p) (e::es) [] pos) (tCB r t):=⟨vZ hc hg hm hv ha.out hn hdb hs⟩
variable {CX:CXT} {k:Nat} {f C:Addr} {fd:FuncData} {ps:List Str} {sp:Sp} {dvs:List V} {ds:List Value} {E:XK} {m:Str}
variable {name:Str} {rm:V→List V→Hp→VK→Prop}
theorem wI (pa:PlainAttrs T) (slot:Slot T name id) (hty:typeOf (.builtin id)=pure (.type "method_descriptor")) (hm:MtR X id rm) (ho:QE X o to) (ha:QA X (e::es) t)
 (hbase:attributeBase o name X.env (eval o X.env)=eval o X.env:=by rfl) (hfew:decide ((e::es).length<30)=true:=by rfl)
 (hline:(apos.endLine==cpos.line)=true:=by rfl) (hs:bp (e::es)=true:=by rfl):QE X (.Call (.Attribute o name apos) (e::es) [] cpos) (tBM X.K T rm to t):=⟨JQ pa slot hty hm ho.out ha.out hbase hfew hline hs⟩
theorem aQ {op:CmpOp} {r:R2} (ho:OpR X (compareOp op) r) (ha:QE X a ta) (hb:QE X b tb) (hm:behindInMarks op b=false:=by first | exact kN _ | rfl):QT X (.Compare a [op] [b] pos) (aL (tOp r ta tb)):=⟨qtc ho ha.out hb.out hm⟩
theorem er {op op':CmpOp} {r r':R2} (ho:OpR X (compareOp op) r) (ho':OpR X (compareOp op') r') (ha:QE X a ta) (hb:QE X b tb) (hc:QE X c tc) (hm:lastMarks [op,op'] [b,c]=false:=by with_unfolding_all rfl):
 QT X (.Compare a [op,op'] [b,c] pos) (aL (cS r r' ta tb tc)):=⟨IJ ho ho' ha.out hb.out hc.out hm⟩
theorem bh (h:QE X e te) (he:∀ whole,isTrue e X.env whole=(do let v←whole;standAt e.pos;holding [v] (truthy v)):=by intro _;rfl):QT X e (bC X.K te):=⟨qtb h.out he⟩
theorem bf (ha:QT X a tA):QT X (.UnaryOp .Not a pos) (bA tA):=⟨DK ha.out⟩
theorem x_w (h:QW X e tA):QT X e tA:=⟨h.out.pt⟩
theorem dG (ha:QT X a tA):QW X (.BoolOp .And [a] pos) tA:=⟨zF ha.out⟩
theorem eL (ha:QT X a tA):QW X (.BoolOp .Or [a] pos) tA:=⟨CS ha.out⟩
theorem eK (ha:QT X a tA) (hb:QW X (.BoolOp .And (b::bz) pos) tB'):QW X (.BoolOp .And (a::b::bz) pos) (fi tA tB'):=⟨Bq ha.out hb.out⟩
theorem eC (ha:QT X a tA) (hb:QW X (.BoolOp .Or (b::bz) pos) tB'):QW X (.BoolOp .Or (a::b::bz) pos) (mOr tA tB'):=⟨GB ha.out hb.out⟩
variable {tg iter elt:Expr} {wi:TI} {ifs:List Expr} {scope:Scope} {ys:List Str} {is:List Nat} {px py spos:Pos}
theorem iF (hm:X.mg "range" =none) (ha:QA X [a] t) (hg:Gl X "range" :=by rfl) (hs:cn a=true:=by rfl):QI X tg (.Call (.Name "range" p) [a] [] pos) (jH t):=⟨tP hg hm ha.out (bv hs [] X.env)⟩
theorem kY:rO X [] (fun _ H Q=>Q true H):=⟨rfl⟩
theorem qw (h:QT X c tA):rO X [c] tA:=⟨h.out⟩
theorem iO {tcn:TT} (S:fc scope x ys) (hcap:fR X scope ys is) (hi:QI X (.Name x px) iter wi)
 (hif:∀ C s H fp,rO (bB X scope C (x::ys) s H fp) ifs tcn) (he:∀ C s H fp,QE (bB X scope C (x::ys) s H fp) elt te) (hc:X.calm=true:=by rfl)
 (hs:∀ x,foldedSetIterable iter X.env x=pure x:=by intro _;rfl):QE X (.ListComp elt [⟨.Name x px,iter,ifs,0⟩] scope pos) (fI is wi tcn te):=⟨Au hc S hcap hi.out (fun C s H fp=>(hif C s H fp).out) (fun C s H fp=>(he C s H fp).out) hs⟩
variable {st:Stmt} {sts:List Stmt} {tS uS:TS} {i j:Nat}
theorem aC:QSs X [] aF:=⟨zA⟩
theorem ap (h:QS X st tS):QSs X [st] tS:=⟨Ae h.out⟩
theorem ao (h1:QS X st tS) (h2:QSs X sts uS):QSs X (st::sts) (aw tS uS):=⟨vX h1.out h2.out⟩
theorem ay (h:QE X e te):QS X (.Return (some e) pos) (aB te):=⟨Cb h.out⟩
theorem aJ {l m:List Stmt} (hc:QT X c tA) (ha:QSs X l tS) (hb:QSs X m uS):QS X (.If c l m pos) (aR tA tS uS):=⟨qif hc.out ha.out hb.out⟩
theorem aI (i:Nat) (hN:X.N.Nodup) (he:QE X e te) (hi:X.N[i]?=some x:=by rfl) (hx:Loc X.env.scope x:=by first | exact .inl rfl | exact .inr rfl)
 (hs:swapsWith e (some (.Name x p)) pos.line X.env=pure false:=by rfl) (hf:X.fn x=true∨X.env.scope.names.lookup x=some .local:=by first | exact .inl rfl | exact .inr rfl):QS X (.Assign [.Name x p] e pos) (aH te (ax i)):=⟨AK hN hi hx he.out hs hf⟩
theorem tV (j:Nat) {tcn:TT} (hN:X.N.Nodup) (S:fc scope x ys) (hcap:fR X scope ys is) (hi:QI X (.Name x px) iter wi)
  (hif:∀ C s H fp,rO (bB X scope C (x::ys) s H fp) ifs tcn) (he:∀ C s H fp,QE (bB X scope C (x::ys) s H fp) elt te) (hc:X.calm=true:=by rfl)
  (hj:X.N[j]?=some y:=by rfl) (hy:Loc X.env.scope y:=by first | exact .inl rfl | exact .inr rfl)
  (hsw:swapsWith (.ListComp elt [⟨.Name x px,iter,ifs,0⟩] scope pos) (some (.Name y py)) spos.line X.env=pure true:=by rfl) (hf:X.fn y=true∨X.env.scope.names.lookup y=some .local:=by first | exact .inl rfl | exact .inr rfl)
  (hs:∀ x,foldedSetIterable iter X.env x=pure x:=by intro _;rfl):QS X (.Assign [.Name y py] (.ListComp elt [⟨.Name x px,iter,ifs,0⟩] scope pos) spos) (aH (fI is wi tcn te) (ax j)):=
 ⟨tN hN hj hy hc S hcap hi.out (fun C s H fp=>(hif C s H fp).out) (fun C s H fp=>(he C s H fp).out) hsw hf hs⟩
theorem dj (h:QE X e te) (hs:swapsWith e none pos.line X.env=pure false:=by rfl):QS X (.Expr e pos) (dF te):=⟨zJ h.out hs⟩
theorem fS (i:Nat) (hN:X.N.Nodup) {body:List Stmt} (hi:QI X (.Name x px) iter wi) (hb:QSs X body tS) (hp:PassesOwn (model X.prog X.w) X.A X.env X.xe) (hc:X.calm=true:=by rfl)
 (hj:X.N[i]?=some x:=by rfl) (hx:Loc X.env.scope x:=by first | exact .inl rfl | exact .inr rfl) (hf:X.fn x=true∨X.env.scope.names.lookup x=some .local:=by first | exact .inl rfl | exact .inr rfl)
 (hs:∀ x,foldedSetIterable iter X.env x=pure x:=by intro _;rfl):QS X (.For (.Name x px) iter body [] pos) (gu wi (ax i) tS):=⟨Cp hp hc hi.out (dH hN hj hx hf) hb.out hs⟩
theorem zR {body:List Stmt} (hc:QT X c tA) (hb:QSs X body tS) (hp:PassesOwn (model X.prog X.w) X.A X.env X.xe):QS X (.While c body [] pos) (pB tA tS):=⟨xG hp hc.out hb.out⟩
theorem mj:QS X st iX:=⟨yo⟩
end
end L2
namespace HT
open PySem PyProof.Rows
structure Hd0 (vs:Array Value) (a0:Value):Prop where
 a:vs[0]?=some a0
 b:vs[2]?=some .none
structure TrD (h base:Heap) (e:Addr) (cls a0:Value) (d:Option Addr) (fl:Value):Prop where
 ex:∃ oe vs T oT ts,h.get? e=some oe∧oe.cls=cls∧oe.dict=d∧oe.data=.fields vs∧Hd0 vs a0∧vs[1]?=some (.ref T)∧base.get? T=none∧T≠e∧h.get? T=some oT∧oT.data=.fields ts∧ts[3]?=some fl
structure kg (base:Heap) (l:List Env) (e:Addr) (cls a0:Value) (d:Option Addr) (fl:Value) (h h':Heap):Prop where
 st:base.StaysIn h'
 fr:h'.FunFrames base l
 tr:TrD h' base e cls a0 d fl
 up:h.UpToSlots h'
theorem lL (o:Obj) (f:Array Value→Array Value):(Obj.mapFields f o).dict=o.dict:=by
 obtain ⟨c,d,dt,sl⟩:=o
 cases dt <;> rfl
section
variable {M:Model} {A:Around} {E:Value→Shared→Prop} {s:Shared} {base:Heap} {env:Env} {outer:List Env} {L e:Addr} {cls a0:Value} {d:Option Addr} {Q:Unit→Shared→Prop}
theorem vg {oe:Obj} {vs:Array Value} {head:Value} {hadNext:Bool} (hfr:A.frames=some (env::outer)) (hl:s.heap.FunFrames base (env::outer)) (hf:env.frame=some L) (he:s.heap.get? e=some oe) (hc:oe.cls=cls) (hdc:oe.dict=d)
   (hkb:base.StaysIn s.heap) (hen:base.get? e=none) (hd:oe.data=.fields vs) (hsz:1<vs.size) (h0:Hd0 vs a0) (h:∀ h',kg base (env::outer) e cls a0 d (rawInt L) s.heap h'→Q () { s with heap:=h' }):
   wpAny M A (do let a←frameOf env;let pl←entryPlaceOf L hadNext;let b←EntryCells.newEntry head a .none (rawInt L) .none pl;setField (.ref e) 1 b) Q E s:=by
 have nfr:e∉(env::outer).filterMap (·.frame):=fun hm=>by
   obtain ⟨_,o,ho,hnf⟩:=hl.mem hm
   rw [he] at ho
   cases ho
   exact hnf vs hd
 refine wpAny_bind (wpAny_frameOf_fun hfr hl hf fun h1 s1=>wpAny_bind (wpAny_entryPlaceOf fun pl hpl=>?_))
 unfold EntryCells.newEntry newFields
 refine wpAny_bind (wpAny_newObj_type ?_ (hpl.sizeOk5 _ _ _ _ _))
 generalize hts:([head,Value.ref L,.none,rawInt L,.none]++(if pl.isEmpty then List.replicate 6 Value.none else pl)).toArray=ts
 have hts3:ts[3]?=some (rawInt L):=by rw [← hts];first | (simp;done) | (rcases hpl with rfl | ⟨_,_,_,_,_,_,_,rfl⟩ <;> simp)
 have e1:h1.get? e=some oe:=(s1.2.1 e nfr).trans he
 have kb1:base.StaysIn h1:=fun b o hbo=>(s1.2.1 b fun hm=>by rw [(hl.mem hm).1] at hbo;cases hbo).trans (hkb b o hbo)
 have e2:(h1.push { cls:=.type "traceback",dict:=none,data:=.fields ts }).get? e=some oe:=Heap.get?_push_of_some _ e1
 have nT:h1.objs.size≠e:=Nat.ne_of_gt (Heap.lt_size e1)
 refine wpAny_setField e2 hd hsz (h _ ?_)
 have d3:=Obj.data_mapFields hd (·.setIfInBounds 1 (Value.ref h1.objs.size))
 have e3:=Heap.get?_update_self (Obj.mapFields (·.setIfInBounds 1 (Value.ref h1.objs.size))) e2 (Obj.isFreed_of_fields d3)
 have kp:∀ b o,b≠e→h1.get? b=some o→((h1.push { cls:=.type "traceback",dict:=none,data:=.fields ts }).update e (Obj.mapFields (·.setIfInBounds 1 (Value.ref h1.objs.size)))).get? b=some o:=fun b o nb eb=>
   (Heap.get?_update_other _ _ (Ne.symm nb)).trans (Heap.get?_push_of_some _ eb)
 have T3:=(Heap.get?_update_other (h1.push { cls:=.type "traceback",dict:=none,data:=.fields ts }) (Obj.mapFields (·.setIfInBounds 1 (Value.ref h1.objs.size))) (Ne.symm nT)).trans (Heap.get?_push_size h1 rfl)
 have nr:∀ b o,s.heap.get? b=some o→(∀ vs,o.data≠ .fields vs)→b≠e:=fun b o hb hnf q=>by
   rw [q,he] at hb
   cases hb
   exact hnf vs hd
 refine ⟨fun b o hbo=>kp b o (fun q=>by rw [q,hen] at hbo;cases hbo) (kb1 b o hbo),hl.of_keeps fun b o hb hnf=>?_,⟨_,_,h1.objs.size,_,ts,e3,(Obj.cls_mapFields ..).trans hc,(lL ..).trans hdc,d3,?_,by simp [hsz],kb1.fresh,nT,T3,rfl,hts3⟩,fun b o hb hnf=>?_⟩
 · obtain ⟨sl,hs⟩:=s1.2.2 b o hb
   exact ⟨_,kp b _ (nr b o hb hnf) hs,rfl⟩
 · exact ⟨by rw [Array.getElem?_setIfInBounds_ne (by decide)];exact h0.a,by rw [Array.getElem?_setIfInBounds_ne (by decide)];exact h0.b⟩
 · obtain ⟨sl,hs⟩:=s1.2.2 b o hb
   exact ⟨sl,kp b _ (nr b o hb hnf) hs⟩
theorem qo {oe:Obj} {vs:Array Value} (hfr:A.frames=some (env::outer)) (hl:s.heap.FunFrames base (env::outer)) (hf:env.frame=some L) (he:s.heap.get? e=some oe) (hc:oe.cls=cls) (hdc:oe.dict=d) (hkb:base.StaysIn s.heap) (hen:base.get? e=none)
  (hd:oe.data=.fields vs) (h1:vs[1]?=some .none) (h0:Hd0 vs a0) (h:∀ h',kg base (env::outer) e cls a0 d (rawInt L) s.heap h'→Q () { s with heap:=h' }):wpAny M A (noteFrame (.ref e) env) Q E s:=by
 unfold noteFrame
 simp only [hf]
 refine wpAny_bind (wpAny_field he hd h1 ?_)
 rw [if_neg (by decide)]
 exact vg hfr hl hf he hc hdc hkb hen hd (Array.getElem?_eq_some_iff.mp h1).1 h0 h
theorem CF {fl fl':Value} {T:Addr} {oT:Obj} {ts:Array Value} {l:List Env} {oe:Obj} {vs:Array Value} (hkb:base.StaysIn s.heap) (hl:s.heap.FunFrames base l) (he:s.heap.get? e=some oe) (hc:oe.cls=cls) (hdc:oe.dict=d) (hd:oe.data=.fields vs) (h0:Hd0 vs a0)
  (h1:vs[1]?=some (.ref T)) (nT:base.get? T=none) (Te:T≠e) (hT:s.heap.get? T=some oT) (hdT:oT.data=.fields ts) (h3:ts[3]?=some fl) (h:∀ h',kg base l e cls a0 d fl' s.heap h'→(h'.get? e=some oe)→Q () { s with heap:=h' }):wpAny M A (setField (.ref T) 3 fl') Q E s:=by
 have sz:=(Array.getElem?_eq_some_iff.mp h3).1
 have ot:∀ b,b≠T→(s.heap.update T (Obj.mapFields (·.setIfInBounds 3 fl'))).get? b=s.heap.get? b:=fun b hb=>Heap.get?_update_other _ _ (Ne.symm hb)
 have nr:∀ b o,s.heap.get? b=some o→(∀ vs,o.data≠ .fields vs)→b≠T:=fun b o hb hnf q=>by
  rw [q,hT] at hb
  cases hb
  exact hnf ts hdT
 refine wpAny_setField hT hdT sz (h _ ⟨fun b o hbo=>(ot b fun q=>by rw [q,nT] at hbo;cases hbo).trans (hkb b o hbo),hl.of_keeps fun b o hb hnf=>⟨o,(ot b (nr b o hb hnf)).trans hb,rfl⟩,
  ⟨oe,vs,T,_,_,(ot e (Ne.symm Te)).trans he,hc,hdc,hd,h0,h1,nT,Te,Heap.get?_update_self _ hT (Obj.isFreed_of_fields (Obj.data_mapFields hdT _)),Obj.data_mapFields hdT _,by simp [sz]⟩,fun b o hb hnf=>⟨o.slots,(ot b (nr b o hb hnf)).trans hb⟩⟩ ((ot e (Ne.symm Te)).trans he))
theorem jN {fl:Value} {l:List Env} (hkb:base.StaysIn s.heap) (hl:s.heap.FunFrames base l) (ht:TrD s.heap base e cls a0 d fl) (h:∀ h',kg base l e cls a0 d .none s.heap h'→Q () { s with heap:=h' }):wpAny M A (setFlight (.ref e) none) Q E s:=by
 obtain ⟨oe,vs,T,oT,ts,he,hc,hdc,hd,h0,h1,nT,Te,hT,hdT,h3⟩:=ht.ex
 unfold setFlight
 refine wpAny_bind (wpAny_field he hd h1 ?_)
 rw [if_pos (show (Value.ref T !=Value.none)=true from by simp)]
 exact CF hkb hl he hc hdc hd h0 h1 nT Te hT hdT h3 fun h' n _=>h h' n
theorem lE (hfr:A.frames=some (env::outer)) (hl:s.heap.FunFrames base (env::outer)) (hf:env.frame=some L) (ht:TrD s.heap base e cls a0 d .none) (hkb:base.StaysIn s.heap) (hen:base.get? e=none)
  (h:∀ h',kg base (env::outer) e cls a0 d (rawInt L) s.heap h'→Q () { s with heap:=h' }):wpAny M A (noteFrame (.ref e) env) Q E s:=by
 obtain ⟨oe,vs,T,oT,ts,he,hc,hdc,hd,h0,h1,nT,Te,hT,hdT,h3⟩:=ht.ex
 unfold noteFrame
 simp only [hf]
 refine wpAny_bind (wpAny_field he hd h1 ?_)
 rw [if_pos (show (Value.ref T !=Value.none)=true from by simp)]
 refine wpAny_bind (wpAny_field hT hdT h3 ?_)
 rw [if_neg (show ¬ ((Value.none==rawInt L)=true) from by simp [rawInt])]
 refine wpAny_bind (CF (fl':=.none) hkb hl he hc hdc hd h0 h1 nT Te hT hdT h3 fun h' n he'=>?_)
 exact vg (s:={ s with heap:=h' }) hfr n.fr hf he' hc hdc n.st hen hd (Array.getElem?_eq_some_iff.mp h1).1 h0 fun h2 n2=>h h2 ⟨n2.st,n2.fr,n2.tr,n.up.trans n2.up⟩
theorem pP {oe:Obj} {vs:Array Value} (hfr:A.frames=some (env::outer)) (hl:s.heap.FunFrames base (env::outer)) (hf:env.frame=some L) (he:s.heap.get? e=some oe) (hc:oe.cls=cls) (hdc:oe.dict=d) (hkb:base.StaysIn s.heap) (hen:base.get? e=none)
  (hd:oe.data=.fields vs) (h1:vs[1]?=some .none) (h0:Hd0 vs a0) (h:∀ h',kg base outer e cls a0 d .none s.heap h'→Q () { s with heap:=h' }):wpAny M A (leaving env (.ref e)) Q E s:=by
 unfold leaving
 refine wpAny_bind (qo hfr hl hf he hc hdc hkb hen hd h1 h0 fun h' n=>?_)
 obtain ⟨n1,⟨_,_,n2⟩,n3,n4⟩:=n
 exact jN (s:={ s with heap:=h' }) n1 n2 n3 fun h2 m=>h h2 ⟨m.st,m.fr,m.tr,n4.trans m.up⟩
theorem qj (hfr:A.frames=some (env::outer)) (hl:s.heap.FunFrames base (env::outer)) (hf:env.frame=some L) (ht:TrD s.heap base e cls a0 d .none) (hkb:base.StaysIn s.heap) (hen:base.get? e=none)
  (h:∀ h',kg base outer e cls a0 d .none s.heap h'→Q () { s with heap:=h' }):wpAny M A (leaving env (.ref e)) Q E s:=by
 unfold leaving
 refine wpAny_bind (lE hfr hl hf ht hkb hen fun h' n=>?_)
 obtain ⟨n1,⟨_,_,n2⟩,n3,n4⟩:=n
 exact jN (s:={ s with heap:=h' }) n1 n2 n3 fun h2 m=>h h2 ⟨m.st,m.fr,m.tr,n4.trans m.up⟩
end
end HT
namespace L2
open PySem PySem.Spec PyProof.Rows
abbrev veM:List Value:=[.type "ValueError",.type "Exception",.type "BaseException",.type "object"]
def bN (K:W.Frag) (C D:Addr):Option Bool:=match K.lookup C with
 | some ⟨_,_,.cls cd,_⟩=>some (cd.mro.contains (.ref D))
 | _=>none
def ja (K : W.Frag) (C : Addr) : Bool := match K.lookup C with
  | some ⟨.type "type", _, .cls cd, sl⟩ => (match cd.mro, sl.toList with
    | .ref C' :: bm, [_, _, _, _, some (.builtin n), _] => C' == C && n == "ValueError.__new__" && !cd.hasDel && W.tailIn K veM bm && W.nsOkIn K cd.ns
    | _, _ => false)
  | _ => false
def bX (K:W.Frag) (C:Addr):Prop:=ja K C=true
def ej (K:W.Frag) (C:Addr):Prop:=W.excIn K C veM "ValueError.__new__" =true
theorem ej.ok {K:W.Frag} {C:Addr} (q:ej K C):bX K C:=by
 unfold ej W.excIn at q
 unfold bX ja
 split at q
 · rename_i dd cd sl ho
   split at q
   · rename_i C' bm k0 k1 k2 k3 n k5 hm hs
     rw [ho]
     simp only [hm,hs]
     simp only [Bool.and_eq_true] at q ⊢
     exact q.1
   · cases q
 · cases q
theorem eZ {K : W.Frag} {h : Heap} {C : Addr} (X : K.In h) (q : bX K C) :
   ∃ bm N nm qn bs hdct sn sub ab col dd k0 k1 k2 k3 k5 mN, h.get? C = some (excClassObj nm qn C N bs bm hdct sn sub ab col dd k0 k1 k2 k3 k5 "ValueError.__new__") ∧ h.Ns N mN ∧ (ej K C → mN "__init__" = none) ∧ OwnTail h veM bm ∧
     ∀ D, bN K C D = some ((Value.ref C :: bm).contains (.ref D)) := by
 have q2 := q
 unfold bX ja at q
 split at q
 · rename_i dd cd sl ho
   split at q
   · rename_i C' bm k0 k1 k2 k3 n k5 hm hs
     simp only [Bool.and_eq_true, beq_iff_eq, Bool.not_eq_true'] at q
     obtain ⟨⟨⟨⟨rfl, rfl⟩, hdel⟩, ht⟩, hok⟩ := q
     obtain ⟨nm, bs, mro, ns, qn, hd, sn, sub, ab, col, del⟩ := cd
     dsimp only at hm hdel hok
     subst hm hdel
     have hsl : sl = #[k0, k1, k2, k3, some (.builtin "ValueError.__new__"), k5] := by
       obtain ⟨l⟩ := sl
       simp only at hs
       rw [hs]
     subst hsl
     refine ⟨bm, ns, nm, qn, bs, hd, sn, sub, ab, col, dd, k0, k1, k2, k3, k5, _, X _ _ ho, .of_isNs (W.isNs_of_in X hok), fun r => ?_, W.tail_of_in X ht, fun D => ?_⟩
     · unfold ej W.excIn at r
       rw [ho] at r
       simp only [Bool.and_eq_true, beq_iff_eq] at r
       exact W.nsMap_none_of_in X hok r.2
     · unfold bN
       rw [ho]
   · cases q
 · cases q
theorem gP {M:Model} {A:Around} {E:Value→Shared→Prop} {s:Shared} {K:W.Frag} {C D e:Addr} {oe:Obj} {Q:Bool→Shared→Prop} {b:Bool} (X:K.In s.heap) (hC:bX K C) (hD:bX K D) (he:s.heap.get? e=some oe) (hcls:oe.cls=.ref C)
  (hs:bN K C D=some b) (hq:Q b s):wpAny M A (excMatches (.ref e) (.ref D)) Q E s:=by
 obtain ⟨bm,N,nm,qn,bs,hdct,sn,sub,ab,col,dd,k0,k1,k2,k3,k5,mN,oC,_,_,_,hsub⟩:=eZ X hC
 obtain ⟨bm',N',nm',qn',bs',hdct',sn',sub',ab',col',dd',k0',k1',k2',k3',k5',mN',oD,_,_,T',_⟩:=eZ X hD
 have hb:(Value.ref C::bm).contains (.ref D)=b:=Option.some.inj ((hsub D).symm.trans hs)
 have hbase:(Value.ref D::bm').contains (.type "BaseException")=true:=by
  rw [List.contains_cons,T'.hasType (X:= "BaseException") (b:=true) (by decide +kernel),Bool.or_true]
 have f:=tc_notTuple
 obtain ⟨hp,g,d,t,os⟩:=s
 unfold excMatches
 repeat (first | (with_reducible refine wpAny_loadPart_at he ?_;rw [hcls]) | with_reducible refine wpAny_loadPart_at oD ?_ | (with_reducible refine wpAny_isSubtype_exc oC ?_;rw [hb]) | (with_reducible refine wpAny_isSubtype_exc oD ?_;rw [hbase]) | wp_step)
 all_goals first | exact hq | (cases b <;> first | exact hq | (repeat (first | exact hq | wp_step)))
structure Fly (P:Program) (w:World) (l:List Env) (H:Hp) (s:Shared) (cls fl:Value) (a:Addr) (d:Option Addr) (H':Hp) (s':Shared):Prop where
 os:s'.os=s.os
 bare:AllBare s'.gens
 un:Un (frs l) [] H H' s.heap s'.heap
 hok:HOk P w H' s'.heap
 new:s.heap.get? a=none
 free:H' a=none
 tr:∃ oe vs a0 T oT ts,s'.heap.get? a=some oe∧oe.cls=cls∧oe.dict=d∧oe.data=.fields vs∧HT.Hd0 vs a0∧vs[1]?=some (.ref T)∧T≠a∧s'.heap.get? T=some oT∧oT.data=.fields ts∧ts[3]?=some fl∧s.heap.get? T=none∧H' T=none
def CX1 (P:Program) (w:World):CXT:=fun outer H s E e s'=>∃ a C d H',e=.ref a∧Fly P w outer H s (.ref C) .none a d H' s'∧E (.ref C) d H'
theorem ii {P:Program} {w:World} {H:Hp} {h:Heap} {a:Addr} {o:HO} (x:aZ P w H h a o):∃ u,h.get? a=some u:=by
 cases o with
 | lst xs=>obtain ⟨_,_,_,_,e⟩:=x;exact ⟨_,e⟩
 | tup xs=>obtain ⟨_,_,_,p⟩:=x;obtain ⟨o,e,_⟩:=p;exact ⟨_,e⟩
 | dK kvs=>obtain ⟨_,_,_,_,o,_,_,e,_⟩:=x;exact ⟨_,e⟩
 | dT kvs=>obtain ⟨_,_,_,_,o,_,_,e,_⟩:=x;exact ⟨_,e⟩
 | set S n=>obtain ⟨o,_,_,_,e,_⟩:=x;exact ⟨_,e⟩
 | ins C dx fs=>obtain ⟨_,_,_,e,_⟩:=x;exact ⟨_,e⟩
 | own y=>exact x
 | xd fs=>obtain ⟨_,⟨_,_,_,e,_⟩,_⟩:=x;exact ⟨_,e⟩
 | rng lo hi=>obtain ⟨_,_,_,e⟩:=x;exact ⟨_,e⟩
 | frz ob u=>obtain ⟨e,_⟩:=x;exact ⟨_,e⟩
 | tbl ps=>exact ⟨_,(show h.get? a=some _ from x)⟩
 | met f y=>exact ⟨_,(show h.get? a=some _ from x)⟩
 | ext φ=>obtain ⟨_,e,_⟩:=x;exact e
section
variable {P:Program} {w:World} {l:List Env} {H H':Hp} {s s':Shared} {cls fl fl':Value} {a:Addr} {d:Option Addr} {base:Heap}
def fD (h:Heap) (l:List Env) (a T:Addr):Heap:=W.hideAll h (a::T::frs l)
theorem Fly.frames (F : Fly P w l H s cls fl a d H' s') (ff : s.heap.FunFrames base l) (frf : ∀ b ∈ frs l, H b = none) : s'.heap.FunFrames base l := by
  have all : ∀ (k : List Env), (∀ b ∈ frs k, b ∈ frs l) → s.heap.FunFrames base k → s'.heap.FunFrames base k := by
    intro k
    induction k with
    | nil => intro _ _; trivial
    | cons env r ih =>
      intro hs hl
      obtain ⟨hk, ⟨L, o, hf, hn, ho, hd⟩, hr⟩ := hl
      have hL : L ∈ frs l := hs L (by unfold frs; rw [List.filterMap_cons, hf]; exact List.mem_cons_self)
      obtain ⟨sl, e⟩ := F.un.slot L o ho (frf L hL) hL (by simp)
      exact ⟨hk, ⟨L, _, hf, hn, e, hd⟩, ih (fun b hb => hs b (by unfold frs; rw [List.filterMap_cons, hf]; exact List.mem_cons_of_mem _ hb)) hr⟩
  exact all l (fun _ hb => hb) ff
theorem iZ {h B B':Heap}:∀ {k:List Env},h.FunFrames B k→(∀ b∈frs k,B'.get? b=none)→h.FunFrames B' k
 | [],_,_=>trivial
 | env::r,⟨hk,⟨L,o,hf,hn,ho,hd⟩,hr⟩,hb=>⟨hk,⟨L,o,hf,hb L (by unfold frs;rw [List.filterMap_cons,hf];exact List.mem_cons_self),ho,hd⟩,iZ hr fun b h=>hb b (by unfold frs;rw [List.filterMap_cons,hf];exact List.mem_cons_of_mem _ h)⟩
theorem Fly.moved (F : Fly P w l H s cls fl a d H' s') (ff : s.heap.FunFrames base l) (frf : ∀ b ∈ frs l, H b = none) (ffs : ∀ b ∈ frs l, H' b = none) {T : Addr} {oT : Obj} (hT0 : s.heap.get? T = none) (hT1 : H' T = none) {h' : Heap} {a0 : Value}
    (st : (fD s'.heap l a T).StaysIn h') (up : s'.heap.UpToSlots h') (tr : HT.TrD h' (fD s'.heap l a T) a cls a0 d fl') : Fly P w l H s cls fl' a d H' { s' with heap := h' } := by
  have kp : ∀ b o, s'.heap.get? b = some o → b ≠ a → b ≠ T → b ∉ frs l → h'.get? b = some o := fun b o e h1 h2 h3 => st b o (W.hideAll_get _ e (by simp [h1, h2, h3]))
  have ff' := F.frames ff frf
  have nf : ∀ b ∈ frs l, ∀ o, s'.heap.get? b = some o → ∀ vs, o.data ≠ .fields vs := fun b hb o e vs z => by
    obtain ⟨_, o', ho, hd⟩ := ff'.mem hb
    rw [e] at ho; cases ho
    exact hd vs z
  have old : ∀ b o, s.heap.get? b = some o → b ≠ a ∧ b ≠ T := fun b o e => ⟨fun z => (by rw [z, F.new] at e; cases e), fun z => (by rw [z, hT0] at e; cases e)⟩
  refine ⟨F.os, F.bare, ⟨fun b o e n hb hx => ?_, fun b o e n hb hx => ?_, F.un.free, fun b o e hx => ?_, F.un.tups, F.un.frzs, F.un.tbls⟩, fun b o e => ?_, F.new, F.free, ?_⟩
  · exact kp b o (F.un.keep b o e n hb hx) (old b o e).1 (old b o e).2 hb
  · obtain ⟨sl, e1⟩ := F.un.slot b o e n hb hx
    obtain ⟨sl', e2⟩ := up b _ e1 (nf b hb _ e1)
    exact ⟨sl', e2⟩
  · obtain ⟨o', e1⟩ := F.un.there b o e hx
    by_cases hb : b ∈ frs l
    · obtain ⟨sl', e2⟩ := up b _ e1 (nf b hb _ e1)
      exact ⟨_, e2⟩
    · exact ⟨o', kp b o' e1 (old b o e).1 (old b o e).2 hb⟩
  · refine (F.hok b o e).stay (fun c u hc q => kp c u q ?_ ?_ ?_) (fun _ q => q) fun _ _ q => q
    · rintro rfl
      rcases hc with r | r
      · rw [← r, F.free] at e; cases e
      · rw [F.free] at r; cases r
    · rintro rfl
      rcases hc with r | r
      · rw [← r, hT1] at e; cases e
      · rw [hT1] at r; cases r
    · intro hm
      rcases hc with r | r
      · rw [← r, ffs _ hm] at e; cases e
      · rw [ffs _ hm] at r; cases r
  · obtain ⟨oe, vs, T', oT', ts, he, hc, hdc, hd, h0, h1, hn, hne, hT', hdT, h3⟩ := tr.ex
    have key : s'.heap.get? T' = none ∨ T' = T := by
      cases q : s'.heap.get? T' with
      | none => exact .inl rfl
      | some o =>
        refine .inr (Classical.byContradiction fun hz => ?_)
        by_cases hf : T' ∈ frs l
        · obtain ⟨sl', e2⟩ := up T' o q (nf T' hf o q)
          rw [hT'] at e2; cases e2
          exact nf T' hf o q ts hdT
        · have : (fD s'.heap l a T).get? T' = some o := W.hideAll_get _ q (by simp [hz, hne, hf])
          rw [hn] at this; cases this
    refine ⟨oe, vs, a0, T', oT', ts, he, hc, hdc, hd, h0, h1, hne, hT', hdT, h3, ?_, ?_⟩
    · rcases key with z | z
      · cases q : s.heap.get? T' with
        | none => rfl
        | some o =>
          obtain ⟨o', e⟩ := F.un.there T' o q (by simp)
          rw [z] at e; cases e
      · rw [z]; exact hT0
    · rcases key with z | z
      · cases q : H' T' with
        | none => rfl
        | some o =>
          obtain ⟨o1, e1⟩ := ii (F.hok T' o q)
          rw [z] at e1; cases e1
      · rw [z]; exact hT1
end
section
variable {X:Cx} {pins:List (Addr×Obj)} {σ:St} {H H':Hp} {s s':Shared} {cls fl:Value} {a:Addr} {d:Option Addr}
theorem Fly.inv (I:Inv X pins σ H s) (F:Fly X.prog X.w X.stack H s cls fl a d H' s'):Inv X pins σ H' s':=I.call' (ch:=[]) F.os F.un F.hok F.bare fun b z=>absurd z (by simp)
theorem Fly.up (I : Inv X pins σ H s) (hex : X.ex = []) (F : Fly X.prog X.w X.stack H s cls fl a d H' s') : Fly X.prog X.w X.outer X.H₀ X.s₀ cls fl a d H' s' := by
  have I2 := F.inv I
  have back : ∀ b, s.heap.get? b = none → X.s₀.heap.get? b = none := fun b e => by
    cases q : X.s₀.heap.get? b with
    | none => rfl
    | some o =>
      obtain ⟨o', e'⟩ := I.base.there b o q (by rw [hex]; simp)
      rw [e] at e'; cases e'
  obtain ⟨oe, vs, a0, T, oT, ts, h1, h2, hd, h3, h4, h5, h6, h7, h8, h9, h10, h11⟩ := F.tr
  have b := I2.base
  rw [hex] at b
  exact ⟨I2.os, I2.bare, b, I2.hok, back a F.new, F.free, oe, vs, a0, T, oT, ts, h1, h2, hd, h3, h4, h5, h6, h7, h8, h9, back T h10, h11⟩
theorem Fly.flying (I:Inv X pins σ H s) (F:Fly X.prog X.w X.stack H s cls .none a d H' s'):∃ T a0,s.heap.get? T=none∧H' T=none∧(fD s'.heap X.stack a T).StaysIn s'.heap∧(fD s'.heap X.stack a T).get? a=none∧s'.heap.FunFrames (fD s'.heap X.stack a T) X.stack∧
  HT.TrD s'.heap (fD s'.heap X.stack a T) a cls a0 d .none:=by
 obtain ⟨oe,vs,a0,T,oT,ts,h1,h2,hd,h3,h4,h5,h6,h7,h8,h9,h10,h11⟩:=F.tr
 exact ⟨T,a0,h10,h11,fun b o e=>W.of_hideAll _ e,W.hideAll_none _ (by simp),iZ (F.frames I.stack I.stkFree) fun b hb=>W.hideAll_none _ (by simp [hb]),⟨oe,vs,T,oT,ts,h1,h2,hd,h3,h4,h5,W.hideAll_none _ (by simp),h6,h7,h8,h9⟩⟩
end
structure rF (P:Program) (w:World) (l:List Env) (H:Hp) (s:Shared) (cls:Value) (a:Addr) (d:Option Addr) (H':Hp) (s':Shared):Prop where
 os:s'.os=s.os
 bare:AllBare s'.gens
 un:Un (frs l) [] H H' s.heap s'.heap
 hok:HOk P w H' s'.heap
 new:s.heap.get? a=none
 free:H' a=none
 tr:∃ oe vs a0,s'.heap.get? a=some oe∧oe.cls=cls∧oe.dict=d∧oe.data=.fields vs∧HT.Hd0 vs a0∧vs[1]?=some .none
section
variable {P:Program} {w:World} {l:List Env} {H H':Hp} {s s':Shared} {cls fl':Value} {a:Addr} {d:Option Addr} {base:Heap}
theorem mM (un : Un (frs l) [] H H' s.heap s'.heap) (ff : s.heap.FunFrames base l) (frf : ∀ b ∈ frs l, H b = none) : s'.heap.FunFrames base l := by
  have all : ∀ (k : List Env), (∀ b ∈ frs k, b ∈ frs l) → s.heap.FunFrames base k → s'.heap.FunFrames base k := by
    intro k
    induction k with
    | nil => intro _ _; trivial
    | cons env r ih =>
      intro hs hl
      obtain ⟨hk, ⟨L, o, hf, hn, ho, hd⟩, hr⟩ := hl
      have hL : L ∈ frs l := hs L (by unfold frs; rw [List.filterMap_cons, hf]; exact List.mem_cons_self)
      obtain ⟨sl, e⟩ := un.slot L o ho (frf L hL) hL (by simp)
      exact ⟨hk, ⟨L, _, hf, hn, e, hd⟩, ih (fun b hb => hs b (by unfold frs; rw [List.filterMap_cons, hf]; exact List.mem_cons_of_mem _ hb)) hr⟩
  exact all l (fun _ hb => hb) ff
theorem rF.moved (F : rF P w l H s cls a d H' s') (ff : s.heap.FunFrames base l) (frf : ∀ b ∈ frs l, H b = none) (ffs : ∀ b ∈ frs l, H' b = none) {h' : Heap} {a0 : Value}
    (st : (fD s'.heap l a a).StaysIn h') (up : s'.heap.UpToSlots h') (tr : HT.TrD h' (fD s'.heap l a a) a cls a0 d fl') : Fly P w l H s cls fl' a d H' { s' with heap := h' } := by
  have kp : ∀ b o, s'.heap.get? b = some o → b ≠ a → b ∉ frs l → h'.get? b = some o := fun b o e h1 h3 => st b o (W.hideAll_get _ e (by simp [h1, h3]))
  have ff' := mM F.un ff frf
  have nf : ∀ b ∈ frs l, ∀ o, s'.heap.get? b = some o → ∀ vs, o.data ≠ .fields vs := fun b hb o e vs z => by
    obtain ⟨_, o', ho, hd⟩ := ff'.mem hb
    rw [e] at ho; cases ho
    exact hd vs z
  have old : ∀ b o, s.heap.get? b = some o → b ≠ a := fun b o e z => by rw [z, F.new] at e; cases e
  refine ⟨F.os, F.bare, ⟨fun b o e n hb hx => ?_, fun b o e n hb hx => ?_, F.un.free, fun b o e hx => ?_, F.un.tups, F.un.frzs, F.un.tbls⟩, fun b o e => ?_, F.new, F.free, ?_⟩
  · exact kp b o (F.un.keep b o e n hb hx) (old b o e) hb
  · obtain ⟨sl, e1⟩ := F.un.slot b o e n hb hx
    obtain ⟨sl', e2⟩ := up b _ e1 (nf b hb _ e1)
    exact ⟨sl', e2⟩
  · obtain ⟨o', e1⟩ := F.un.there b o e hx
    by_cases hb : b ∈ frs l
    · obtain ⟨sl', e2⟩ := up b _ e1 (nf b hb _ e1)
      exact ⟨_, e2⟩
    · exact ⟨o', kp b o' e1 (old b o e) hb⟩
  · refine (F.hok b o e).stay (fun c u hc q => kp c u q ?_ ?_) (fun _ q => q) fun _ _ q => q
    · rintro rfl
      rcases hc with r | r
      · rw [← r, F.free] at e; cases e
      · rw [F.free] at r; cases r
    · intro hm
      rcases hc with r | r
      · rw [← r, ffs _ hm] at e; cases e
      · rw [ffs _ hm] at r; cases r
  · obtain ⟨oe, vs, T', oT', ts, he, hc, hdc, hd, h0, h1, hn, hne, hT', hdT, h3⟩ := tr.ex
    have key : s'.heap.get? T' = none := by
      cases q : s'.heap.get? T' with
      | none => rfl
      | some o =>
        by_cases hf : T' ∈ frs l
        · obtain ⟨sl', e2⟩ := up T' o q (nf T' hf o q)
          rw [hT'] at e2; cases e2
          exact (nf T' hf o q ts hdT).elim
        · have : (fD s'.heap l a a).get? T' = some o := W.hideAll_get _ q (by simp [hne, hf])
          rw [hn] at this; cases this
    refine ⟨oe, vs, a0, T', oT', ts, he, hc, hdc, hd, h0, h1, hne, hT', hdT, h3, ?_, ?_⟩
    · cases q : s.heap.get? T' with
      | none => rfl
      | some o =>
        obtain ⟨o', e⟩ := F.un.there T' o q (by simp)
        rw [key] at e; cases e
    · cases q : H' T' with
      | none => rfl
      | some o =>
        obtain ⟨o1, e1⟩ := ii (F.hok T' o q)
        rw [key] at e1; cases e1
end
def eE (CX:CXT) (X:Cx) (E:St→XK):Prop:=∀ (pins:List (Addr×Obj)) (σ:St) (H:Hp) (s:Shared) (e:Value) (s':Shared),Inv X pins σ H s→CX X.stack H s (E σ) e s'→X.xe e s'
def pY (X:Cx) (E:St→XK):Prop:=∀ (pins:List (Addr×Obj)) (σ:St) (H:Hp) (s:Shared) (C a:Addr) (d:Option Addr) (H2:Hp) (s2:Shared),Inv X pins σ H s→rF X.prog X.w X.stack H s (.ref C) a d H2 s2→E σ (.ref C) d H2→X.xe (.ref a) s2
theorem dU {P:Program} {w:World} {X:Cx}:eE (CX1 P w) X (fun _=>E0):=fun pins σ H s e s' I ⟨_,_,_,_,_,_,h⟩=>h.elim
section
variable {P:Program} {w:World} {K:W.Frag} {mg:Str→Option Value} {base:Heap} {N:List Str} {qual:Str} {scope:Scope} {f:Addr} {cd:Value} {A:Around} {outer:List Env} {s:Shared} {H:Hp} {E:XK}
theorem bY:eE (CX1 P w) (cq (CX1 P w) P w K mg base N qual scope f cd A outer s H E) (fun _=>E):=by
 intro pins σ H1 s1 e s' I hx
 obtain ⟨a,C,d,H',rfl,F,hE⟩:=hx
 obtain ⟨T,a0,hT0,hT1,f1,f2,f3,f4⟩:=F.flying I
 refine HT.qj (I.ok.frames) f3 rfl f4 f1 f2 fun h' n=>?_
 have F2:=F.moved (oT:={ cls:=.none,data:=.dict #[] }) I.stack I.stkFree (F.inv I).stkFree hT0 hT1 n.st n.up n.tr
 exact ⟨a,C,d,H',rfl,F2.up I rfl,hE⟩
theorem eX:pY (cq (CX1 P w) P w K mg base N qual scope f cd A outer s H E) (fun _=>E):=by
 intro pins σ H1 s1 C a d H2 s2 I F hE
 have I2:Inv (cq (CX1 P w) P w K mg base N qual scope f cd A outer s H E) pins σ H2 s2:=I.call' (ch:=[]) F.os F.un F.hok F.bare fun b z=>absurd z (by simp)
 obtain ⟨oe,vs,a0,he,hc,hdc,hd,h0,h1⟩:=F.tr
 refine HT.pP I.ok.frames (iZ (B':=fD s2.heap (cq (CX1 P w) P w K mg base N qual scope f cd A outer s H E).stack a a) (mM F.un I.stack I.stkFree) fun b hb=>W.hideAll_none _ (List.mem_cons_of_mem _ (List.mem_cons_of_mem _ hb))) rfl he hc hdc (fun b o e=>W.of_hideAll _ e) (W.hideAll_none _ (by simp)) hd h1 h0 fun h' n=>?_
 have F2:=F.moved I.stack I.stkFree I2.stkFree n.st n.up n.tr
 exact ⟨a,C,d,H2,rfl,F2.up I rfl,hE⟩
theorem FY {X : Cx} {pins : List (Addr × Obj)} {σ : St} {H : Hp} {s : Shared} {C a : Addr} {h1 : Heap} (I : Inv X pins σ H s) (hm : Heap.MadeExcOf s.heap h1 a (.ref C) []) : rF X.prog X.w X.stack H s (.ref C) a none H { s with heap := h1 } := by
  obtain ⟨t, ht, _, _⟩ := hm.there
  refine ⟨rfl, I.bare, Un.kept hm.keeps, I.hok.kept hm.keeps, hm.new, ?_, ⟨_, _, .ref t, ht, rfl, rfl, rfl, ⟨rfl, rfl⟩, rfl⟩⟩
  cases q : H a with
  | none => rfl
  | some o =>
    obtain ⟨u, e'⟩ := ii (I.hok a o q)
    rw [hm.new] at e'; cases e'
end
def ar (sp:Sp) (E:St→XK) (t:TA):TE:=fun σ H Q=>t σ H fun vs H1=>sp vs H1 Q (E σ)
section
variable {X:Cx} {CX:CXT} {k:Nat} {f:Addr} {fd:FuncData} {ps:List Str} {sp:Sp} {E:St→XK} {x:Str} {p pos:Pos} {e:Expr} {es:List Expr} {t:TA}
theorem jV {pins : List (Addr × Obj)} {σ : St} {H : Hp} {s : Shared} {Q : VK} {us : List Value} {vs : List V} (F : aO X.prog X.w X.K X.mg X.base CX k f fd ps sp) (hr : be k X.A) (hb : bO X.K fd ps []) (hx : eE CX X E)
    (I : Inv X pins σ H s) (r : bc vs us) (h : sp vs H Q (E σ)) : wpAny (model X.prog X.w) X.A (call (.ref f) us) (EP X pins σ Q) X.xe s := by
  have hl : us.length = ps.length := by rw [← r.length]; exact F.len _ _ _ _ h
  have hb' := hb s us I.kIn (by rw [List.append_nil]; exact hl)
  rw [List.append_nil] at hb'
  refine wpAny_call (codeAny_mono (F.run X.A X.stack s H ⟨us, []⟩ us vs Q (E σ) hr I.env0 hb' r h) fun r s' hq => ?_)
  cases r with
  | error e => exact hx pins σ H s e s' I hq
  | ok fl =>
    cases fl with
    | ret u => exact I.after hq
    | next => exact False.elim hq
    | brk => exact False.elim hq
    | cont => exact False.elim hq
theorem bR (F:aO X.prog X.w X.K X.mg X.base CX k f fd ps sp) (hr:be k X.A) (hm:X.mg x=some (.ref f)) (hk:W.keepIn X.K (.ref f)=true) (hb:bO X.K fd ps []) (hx:eE CX X E)
  (ha:QA X (e::es) t) (hg:Gl X x:=by rfl) (hdb:(x==("__debug__" :Str))=false:=by decide) (hs:bp (e::es)=true:=by rfl):QE X (.Call (.Name x p) (e::es) [] pos) (ar sp E t):=by
 refine ⟨fun pins s σ H Q I h=>?_⟩
 have h':(cn e&&bp es)=true:=hs
 refine wpAny_Call_Name_kw (fv I hg hm ?_ hdb)
 refine W.callWith_K (h₀:=X.base) I.ok.mod.kin hk (thn (ha.out pos pins s σ H _ I h) fun us s1 ⟨vs,H1,I1,r,q⟩=>⟨I1.kIn,?_⟩) (bv (Bool.and_eq_true_iff.mp h').1 es X.env) (cg (Bool.and_eq_true_iff.mp h').2)
 exact jV F hr hb hx I1 r q
theorem pe (F:aO X.prog X.w X.K X.mg X.base CX k f fd ps sp) (hr:be k X.A) (hm:X.mg x=some (.ref f)) (hk:W.keepIn X.K (.ref f)=true) (hb:bO X.K fd ps []) (hx:eE CX X E)
  (hg:Gl X x:=by rfl) (hdb:(x==("__debug__" :Str))=false:=by decide):QE X (.Call (.Name x p) [] [] pos) (ar sp E al):=by
 refine ⟨fun pins s σ H Q I h=>?_⟩
 refine wpAny_Call_Name_kw (fv I hg hm ?_ hdb)
 exact W.callWith_K0 I.kIn hk (jV (us:=[]) F hr hb hx I .nil h)
def iS (C:Addr) (E:St→XK):TS:=fun _ σ H=>E σ (.ref C) none H
theorem jv {C:Addr} {np cpos:Pos} (hC:ej X.K C) (hm:X.mg x=some (.ref C)) (hR:pY X E) (hc:X.calm=true:=by rfl) (hg:Gl X x:=by rfl) (hdb:(x==("__debug__" :Str))=false:=by decide):
  QS X (.Raise (some (.Call (.Name x np) [] [] cpos)) none pos) (iS C E):=by
 refine ⟨fun pins s σ H D I h=>?_⟩
 obtain ⟨bm,N,nm,qn,bs,hdct,sn,sub,ab,col,dd,k0,k1,k2,k3,k5,mN,oC,hN,hni,T,_⟩:=eZ I.kIn hC.ok
 refine wpAny_Raise_call_subU (C:=C) (nm:=nm) (q:=qn) (N:=N) (bs:=bs) (bm:=bm) (hdct:=hdct) (sn:=sn) (sub:=sub) (ab:=ab) (col:=col) (dd:=dd) (k0:=k0) (k1:=k1) (k2:=k2) (k3:=k3) (k5:=k5)
  F.excBase_ValueError (by decide +kernel) F.excBase_ValueError (mN:=mN) (T.hasType F.excBase_ValueError.hasBase) (I.ok.hd hc) rfl (hni hC) (fv I hg hm ⟨rfl,?_⟩ hdb)
 exact evalArgs_empty ⟨rfl,Nat.zero_le _,oC,hN,T,fun h' e hm'=>hR pins σ H s C e none H _ I (FY I hm') h⟩
end
theorem Fun.okX {P : Program} {w : World} {K : W.Frag} {mg : Str → Option Value} {base : Heap} {x qual : Str} {st : Stmt} {f : Addr} {fd : FuncData} {N ps : List Str} {k : Nat} {sp : Sp} (F : Fun K x qual st f fd) (S : aA N ps (am st)) (len : ∀ vs H Q E, sp vs H Q E → vs.length = ps.length)
  (hbody : ∀ (cdv : Value) (A : Around) (outer : List Env) (s : Shared) (H : Hp) (vs : List V) (Q : VK) (E : XK), be k (A.deeper (envOfC qual (am st) s.heap.objs.size f cdv)) → sp vs H Q E →
   ∃ t, PSs (cq (CX1 P w) P w K mg base N qual (am st) f cdv A outer s H E) (aP st) t ∧ t { nx := fun _ H' => Q .non H', rt := Q } (bL N vs) H) : aO P w K mg base (CX1 P w) (k + 1) f fd ps sp := by
 obtain ⟨oc, od, kV, doc, pm, an, cdv, ct, osl, rfl, lk, hcd⟩ := F.ex
 exact yY lk hcd S len fun A outer s H vs Q E hr hsp => hbody cdv A outer s H vs Q E hr hsp
def gs (C:Addr) (d:Option Addr) (a:Addr):HO:=.ext fun h=>∃ o vs,h.get? a=some o∧o.cls=.ref C∧o.dict=d∧o.data=.fields vs∧vs[2]?=some .none
theorem zV {P:Program} {w:World} {H:Hp} {h:Heap} {C a:Addr} {d:Option Addr} {o:Obj} {vs:Array Value} (e:h.get? a=some o) (hc:o.cls=.ref C) (hdc:o.dict=d) (hd:o.data=.fields vs) (h2:vs[2]?=some .none):aZ P w H h a (gs C d a):=
 ⟨⟨o,vs,e,hc,hdc,hd,h2⟩,⟨o,e⟩,fun _ _ ⟨o1,vs1,e1,c1,x1,d1,y1⟩ k=>⟨o1,vs1,k o1 e1,c1,x1,d1,y1⟩⟩
theorem qy {P:Program} {w:World} {H:Hp} {h:Heap} {C a:Addr} {d:Option Addr} (x:aZ P w H h a (gs C d a)):∃ o vs,h.get? a=some o∧o.cls=.ref C∧o.dict=d∧o.data=.fields vs∧vs[2]?=some .none:=x.1
section
variable {X:Cx} {pins:List (Addr×Obj)} {σ:St} {H H1 H':Hp} {s s0:Shared} {a:Addr} {o:HO}
theorem Inv.track (I0:Inv X pins σ H1 s0) (hex:X.ex=[]) (I:Inv X pins σ H s) (new:s0.heap.get? a=none) (hn:H a=none) (ok:aZ X.prog X.w (upd H a o) s.heap a o):Inv X pins σ (upd H a o) s:=by
 have ne:∀ b u,s0.heap.get? b=some u→b≠a:=fun b u e z=>by rw [z,new] at e;cases e
 have ne0:∀ b u,X.s₀.heap.get? b=some u→b≠a:=fun b u e=>by
   obtain ⟨u',e'⟩:=I0.base.there b u e (by rw [hex];simp)
   exact ne b u' e'
 have nL:X.env.locals≠a:=by
   obtain ⟨m,⟨o',_,_,e,_⟩,_⟩:=I0.loc
   exact ne _ _ e
 refine ⟨I.ok,I.os,I.bare,⟨I.base.keep,I.base.slot,fun b u e n hx=>?_,I.base.there,fun b xs e=>?_,fun b u v e=>?_,fun b ps e=>?_⟩,I.loc,I.cell,?_,fun x c e=>?_,fun p hp=>?_,fun b u e=>?_,I.len⟩
 · rw [au (ne0 b u e)];exact I.base.free b u e n hx
 · have:=I.base.tups b xs e
   rw [au (aD this hn)];exact this
 · have:=I.base.frzs b u v e
   rw [au (aD this hn)];exact this
 · obtain ⟨more,this⟩:=I.base.tbls b ps e
   exact ⟨more,by rw [au (aD this hn)];exact this⟩
 · rw [au nL];exact I.free
 · obtain ⟨v,o',e',_⟩:=I0.cell x c e
   rw [au (ne _ _ e')];exact I.freeC x c e
 · obtain ⟨h1,h2,h3⟩:=I.pin p hp
   exact ⟨h1,by rw [au (ne _ _ (I0.pin p hp).1)];exact h2,h3⟩
 · by_cases hb:b=a
   · subst hb
     rw [aj] at e;cases e
     exact ok
   · rw [au hb] at e
     exact (I.hok b u e).stay (fun c v _ q=>q) (fun c q=>by
      have:c≠a:=aD q hn
      rw [au this];exact q) fun c xs q=>by
      have:c≠a:=aD q hn
      rw [au this];exact q
end
def cxH (X:Cx) (a:Addr):Cx:={ X with A:=X.A.mark (some (.ref a)),calm:=false,xe:=fun _ _=>False }
section
variable {X:Cx} {pins:List (Addr×Obj)} {σ:St} {H:Hp} {s:Shared} {a:Addr}
theorem Cx.Ok.toH (ok:X.Ok):(cxH X a).Ok:=⟨ok.mod,ok.kind,ok.glob,ok.blt,ok.above,ok.inj,ok.has,ok.cab,fun h=>absurd (show false=true from h) Bool.false_ne_true,ok.frames,ok.stk,ok.exf,ok.bs,ok.bsz,ok.noex,ok.exfs,ok.funs,ok.frf⟩
theorem Inv.toH (I:Inv X pins σ H s):Inv (cxH X a) pins σ H s:=⟨I.ok.toH,I.os,I.bare,I.base,I.loc,I.cell,I.free,I.freeC,I.pin,I.hok,I.len⟩
theorem Inv.ofH (ok:X.Ok) (I:Inv (cxH X a) pins σ H s):Inv X pins σ H s:=⟨ok,I.os,I.bare,I.base,I.loc,I.cell,I.free,I.freeC,I.pin,I.hok,I.len⟩
theorem SP.ofH {D:fj} {f:Flow} (ok:X.Ok) (h:SP (cxH X a) pins D f s):SP X pins D f s:=by
 cases f with
 | next=>obtain ⟨σ',H',J,q⟩:=h;exact ⟨σ',H',J.ofH ok,q⟩
 | brk=>obtain ⟨σ',H',J,q⟩:=h;exact ⟨σ',H',J.ofH ok,q⟩
 | cont=>obtain ⟨σ',H',J,q⟩:=h;exact ⟨σ',H',J.ofH ok,q⟩
 | ret u=>obtain ⟨v,σ',H',J,r,q⟩:=h;exact ⟨v,σ',H',J.ofH ok,r,q⟩
end
abbrev TH:=fj→St→Addr→Option Addr→Hp→Prop
def PH (X:Cx) (hs:List ExceptHandler) (t:TH):Prop:=∀ (pins:List (Addr×Obj)) (s0:Shared) (σ:St) (H1 H':Hp) (C a:Addr) (d:Option Addr) (s3:Shared) (D:fj),X.stack=X.env::X.outer→X.env.frame=some X.env.locals→X.ex=[]→
 Inv X pins σ H1 s0→Fly X.prog X.w X.stack H1 s0 (.ref C) .none a d H' s3→bX X.K C→t D σ C d H'→wpAny (model X.prog X.w) X.A (handleBy (.ref a) X.env hs) (SP X pins D) X.xe s3
structure QH (X:Cx) (hs:List ExceptHandler) (t:TH):Prop where
 out:PH X hs t
def nI:TH:=fun _ _ _ _ _=>False
def pK (K:W.Frag) (Dc:Addr) (ts:TS) (r:TH):TH:=fun D σ C d H=>∃ b,bN K C Dc=some b∧Sel b (ts D σ H) (r D σ C d H)
def uc (i:Nat) (D:fj):fj:=⟨fun σ H=>D.nx (σ.set i none) H,D.rt,fun σ H=>D.bk (σ.set i none) H,fun σ H=>D.ct (σ.set i none) H⟩
def hAs (K:W.Frag) (Dc:Addr) (i:Nat) (ts:TS) (r:TH):TH:=fun D σ C d H=>∃ b,bN K C Dc=some b∧Sel b (∀ a,H a=none→ts (uc i D) (σ.set i (some (.ref a))) (upd H a (gs C d a))) (r D σ C d H)
section
variable {X:Cx}
theorem oW:QH X [] nI:=⟨fun _ _ _ _ _ _ _ _ _ _ _ _ _ _ _ _ h=>h.elim⟩
theorem mU {pins:List (Addr×Obj)} {σ:St} {H H':Hp} {s s':Shared} {cls:Value} {a:Addr} {d:Option Addr} {M:Model} {A:Around} {E:Value→Shared→Prop} {Q:Unit→Shared→Prop} (I:Inv X pins σ H s) (F:Fly X.prog X.w X.stack H s cls .none a d H' s')
  (hQ:∀ s'',Fly X.prog X.w X.stack H s cls .none a d H' s''→Q () s''):wpAny M A (setFlight (.ref a) none) Q E s':=by
 obtain ⟨T,a0,hT0,hT1,f1,f2,f3,f4⟩:=F.flying I
 refine HT.jN f1 f3 f4 fun h' n=>?_
 exact hQ _ (F.moved (oT:={ cls:=.none,data:=.dict #[] }) I.stack I.stkFree (F.inv I).stkFree hT0 hT1 n.st n.up n.tr)
variable {x n:Str} {np hp:Pos} {Dc:Addr} {b0:Stmt} {suite:List Stmt} {bz:List ExceptHandler} {ts:TS} {r:TH} {i:Nat}
theorem pb {A:Around} {E:Value→Shared→Prop} {pins:List (Addr×Obj)} {s:Shared} {σ:St} {H:Hp} {u:Value} {pos:Pos} {Q:Value→Shared→Prop} (I:Inv X pins σ H s) (hg:Gl X x) (hm:X.mg x=some u) (h:Q u s)
  (hd:(x==("__debug__" :Str))=false:=by decide):wpAny (model X.prog X.w) A (eval (.Name x pos) X.env) Q E s:=
 Calls.Name_function_global I.ok.kind hg (Calls.loadGlobal_global (by rw [I.ok.glob];exact I.mod.glob.keeps I.bk) hm h) hd
theorem lr (hD : bX X.K Dc) (hm : X.mg x = some (.ref Dc)) (hs : ∀ a, QSs (cxH X a) (b0 :: suite) ts) (hr : QH X bz r) (hg : Gl X x := by rfl) (hdb : (x == ("__debug__" : Str)) = false := by decide) :
    QH X (.ExceptHandler (some (.Name x np)) none (b0 :: suite) hp :: bz) (pK X.K Dc ts r) := by
  refine ⟨fun pins s0 σ H1 H' C a d s3 D e1 e2 hex I F hC h => ?_⟩
  obtain ⟨b, hb, q⟩ := h
  have I3 := F.inv I
  obtain ⟨oe, vs, _, _, _, _, he, hc, hdc, hd, _⟩ := F.tr
  refine wpAny_handleBy_cons (codeAny_handlers_test (pb I3 hg hm ?_ hdb)) (by intro q; cases q)
  refine gP I3.kIn hC hD he hc hb ?_
  have q := dJ q
  cases b with
  | false => exact hr.out pins s0 σ H1 H' C a d s3 D e1 e2 hex I F hC q
  | true =>
    refine codeAny_handlers_suite (mU I F fun s4 F4 => ?_)
    refine wpAny_mono ((hs a).out pins s4 σ H' D (F4.inv I).toH q) (fun f s5 h5 => ?_) fun _ _ z => z.elim
    exact SP.ofH I.ok h5
theorem ze (i : Nat) (hN : X.N.Nodup) (hD : bX X.K Dc) (hm : X.mg x = some (.ref Dc)) (hs : ∀ a, QSs (cxH X a) (b0 :: suite) ts) (hr : QH X bz r) (hg : Gl X x := by rfl) (hdb : (x == ("__debug__" : Str)) = false := by decide)
    (hi : X.N[i]? = some n := by rfl) (hl : X.env.scope.names.lookup n = some .local := by rfl) :
    QH X (.ExceptHandler (some (.Name x np)) (some n) (b0 :: suite) hp :: bz) (hAs X.K Dc i ts r) := by
  refine ⟨fun pins s0 σ H1 H' C a d s3 D e1 e2 hex I F hC h => ?_⟩
  obtain ⟨b, hb, q⟩ := h
  have I3 := F.inv I
  obtain ⟨oe, vs, _, _, _, _, he, hc, hdc, hd, _⟩ := F.tr
  refine wpAny_handleBy_cons (codeAny_handlers_test (pb I3 hg hm ?_ hdb)) (by intro q; cases q)
  refine gP I3.kIn hC hD he hc hb ?_
  have q := dJ q
  cases b with
  | false => exact hr.out pins s0 σ H1 H' C a d s3 D e1 e2 hex I F hC q
  | true =>
    refine codeAny_handlers_suite_as (mU I F fun s4 F4 => ?_)
    have I4 := F4.inv I
    obtain ⟨oe4, vs4, _, _, _, _, he4, hc4, hdc4, hd4, h04, _⟩ := F4.tr
    have I5 : Inv X pins σ (upd H' a (gs C d a)) s4 := Inv.track I hex I4 F.new F.free (zV he4 hc4 hdc4 hd4 h04.b)
    have hcls : (X.env.scope.kind == .class || (X.env.scope.kind == .module && X.env.locals != X.env.globals)) = false := by rw [I.ok.kind]; rfl
    refine fA (v := .ref a) I5 hN hi (.inl hl) rfl (fun s6 I6 => ?_) (.inr hl)
    refine wpAny_mono ((hs a).out pins s6 _ _ (uc i D) I6.toH (q a F.free)) (fun f s7 h7 => ?_) fun _ _ z => z.elim
    have h7 := SP.ofH I.ok h7
    have go : ∀ {σ' : St} {H'' : Hp} {Q : Unit → Shared → Prop}, Inv X pins σ' H'' s7 → (∀ s8, Inv X pins (σ'.set i none) H'' s8 → Q () s8) → wpAny (model X.prog X.w) X.A (do bindName X.env n .none; unbindBehindTheSuite X.env n hp) Q X.xe s7 := fun {σ' H'' Q} J hQ => by
      obtain ⟨m, hn, hloc⟩ := id J.loc
      refine wpAny_nameGoes_keeps hl hn hcls fun h' v hn' hs' => hQ _ ?_
      obtain ⟨oL, _, _, hoL, _⟩ := id hn
      refine ⟨J.ok, J.os, J.bare, ⟨fun b o e n hb hx => ?_, fun b o e n hb hx => ?_, J.base.free, fun b o e hx => ?_, J.base.tups, J.base.frzs, J.base.tbls⟩, ⟨_, hn', fun j y v' e1 e2 e3 => ?_⟩, fun y c e => ?_, J.free, J.freeC, fun p hp => ?_, fun b ob e => ?_, by simpa using J.len⟩
      · exact (hs'.2 b (Nat.ne_of_lt (Nat.lt_of_lt_of_le (Heap.lt_size e) J.ok.above))).trans (J.base.keep b o e n hb hx)
      · obtain ⟨sl, e1⟩ := J.base.slot b o e n hb hx
        exact ⟨sl, (hs'.2 b (Nat.ne_of_lt (Nat.lt_of_lt_of_le (Heap.lt_size e) J.ok.above))).trans e1⟩
      · obtain ⟨o', e1⟩ := J.base.there b o e hx
        exact ⟨o', (hs'.2 b (Nat.ne_of_lt (Nat.lt_of_lt_of_le (Heap.lt_size e) J.ok.above))).trans e1⟩
      · have hji : j ≠ i := by
          rintro rfl
          have : j < σ'.length := by rw [J.len]; exact (List.getElem?_eq_some_iff.mp hi).1
          rw [List.getElem?_set_self this] at e2; cases e2
        rw [List.getElem?_set_ne (Ne.symm hji)] at e2
        obtain ⟨u, ru, lk⟩ := hloc j y v' e1 e2 e3
        refine ⟨u, ru, ?_⟩
        rcases lk with ⟨k, e⟩ | ⟨k, c, e, z⟩
        · refine .inl ⟨k, ?_⟩
          have : y ≠ n := fun e => hji (kh hN e1 (e ▸ hi))
          simp [this, e]
        · exact .inr ⟨k, c, e, z.sameBut hs' (J.cne y c e)⟩
      · obtain ⟨w', z⟩ := J.cell y c e
        exact ⟨w', z.sameBut hs' (J.cne y c e)⟩
      · obtain ⟨e, n, ne, nf, d⟩ := J.pin p hp
        exact ⟨(hs'.2 p.1 ne).trans e, n, ne, nf, d⟩
      · refine (J.hok b ob e).stay (fun c w' hc q => (hs'.2 c ?_).trans q) (fun _ q => q) fun _ _ q => q
        rintro rfl
        rcases hc with r | hc
        · rw [← r, J.free] at e; cases e
        · rw [J.free] at hc; cases hc
    cases f with
    | next => obtain ⟨σ', H'', J, q'⟩ := h7; exact go J fun s8 J8 => ⟨_, _, J8, q'⟩
    | brk => obtain ⟨σ', H'', J, q'⟩ := h7; exact go J fun s8 J8 => ⟨_, _, J8, q'⟩
    | cont => obtain ⟨σ', H'', J, q'⟩ := h7; exact go J fun s8 J8 => ⟨_, _, J8, q'⟩
    | ret u => obtain ⟨v, σ', H'', J, rv, q'⟩ := h7; exact go J fun s8 J8 => ⟨v, _, _, J8, rv, q'⟩
end
def rZ (K:W.Frag) (tb:(St→XK)→TS) (th:TH) (te:TS):TS:=fun D σ H=>
 tb (fun σ' cls d H'=>∃ C,cls=.ref C∧bX K C∧th D σ' C d H') { D with nx:=te D } σ H
abbrev cxT (X:Cx) (pn:List (Addr×Obj)) (E':Value→Shared→Prop):Cx:={ X with pn:=pn,xe:=E' }
section
variable {X:Cx} {pins pn:List (Addr×Obj)} {σ:St} {H:Hp} {s:Shared} {E':Value→Shared→Prop}
theorem Cx.Ok.toT (ok:X.Ok):(cxT X pn E').Ok:=⟨ok.mod,ok.kind,ok.glob,ok.blt,ok.above,ok.inj,ok.has,ok.cab,ok.hd,ok.frames,ok.stk,ok.exf,ok.bs,ok.bsz,ok.noex,ok.exfs,ok.funs,ok.frf⟩
theorem Inv.toT (I:Inv X pins σ H s):Inv (cxT X (X.pn++pins) E') [] σ H s:=⟨I.ok.toT,I.os,I.bare,I.base,I.loc,I.cell,I.free,I.freeC,fun p hp=>I.pin p (by
 have hp:p∈(X.pn++pins)++[]:=hp
 rwa [List.append_nil] at hp),I.hok,I.len⟩
theorem Inv.ofT {pins':List (Addr×Obj)} (ok:X.Ok) (I:Inv (cxT X (X.pn++pins) E') pins' σ H s):Inv X pins σ H s:=⟨ok,I.os,I.bare,I.base,I.loc,I.cell,I.free,I.freeC,fun p hp=>I.pin p (List.mem_append_left _ hp),I.hok,I.len⟩
theorem sA {body orelse : List Stmt} {h0 : ExceptHandler} {hs : List ExceptHandler} {pos : Pos} {tb : (St → XK) → TS} {te : TS} {th : TH}
    (hb : ∀ (pn' : List (Addr × Obj)) (E' : Value → Shared → Prop) (EH : St → XK), eE (CX1 X.prog X.w) (cxT X pn' E') EH → QSs (cxT X pn' E') body (tb EH)) (hh : QH X (h0 :: hs) th) (he : QSs X orelse te)
    (e1 : X.stack = X.env :: X.outer := by rfl) (e2 : X.env.frame = some X.env.locals := by rfl) (hex : X.ex = [] := by rfl) : QS X (.Try body (h0 :: hs) orelse [] pos) (rZ X.K tb th te) := by
  refine ⟨fun pins s σ H D I h => ?_⟩
  let E' : Value → Shared → Prop := fun e s1 => ∃ σ1 H1 s0 C a d H', e = .ref a ∧ Inv X pins σ1 H1 s0 ∧ Fly X.prog X.w X.stack H1 s0 (.ref C) .none a d H' s1 ∧ bX X.K C ∧ th D σ1 C d H'
  have pass : eE (CX1 X.prog X.w) (cxT X (X.pn ++ pins) E') (fun σ' cls d H' => ∃ C, cls = .ref C ∧ bX X.K C ∧ th D σ' C d H') := by
    intro pins' σ1 H1 s0 e s1 I1 hx
    obtain ⟨a, C, d, H', rfl, F, C', ec, hC, ht⟩ := hx
    cases ec
    exact ⟨σ1, H1, s0, C, a, d, H', rfl, I1.ofT I.ok, F, hC, ht⟩
  refine wpAny_Try_except (wpAny_mono ((hb (X.pn ++ pins) E' _ pass).out [] s σ H _ I.toT h) (fun f s1 h1 => ?_) fun e s1 h1 => ?_)
  · cases f with
    | next =>
      obtain ⟨σ', H', J, q⟩ := h1
      exact he.out pins s1 σ' H' D (J.ofT I.ok) q
    | brk => obtain ⟨σ', H', J, q⟩ := h1; exact ⟨σ', H', J.ofT I.ok, q⟩
    | cont => obtain ⟨σ', H', J, q⟩ := h1; exact ⟨σ', H', J.ofT I.ok, q⟩
    | ret u => obtain ⟨v, σ', H', J, rv, q⟩ := h1; exact ⟨v, σ', H', J.ofT I.ok, rv, q⟩
  · obtain ⟨σ1, H1, s0, C, a, d, H', rfl, I1, F, hC, ht⟩ := h1
    obtain ⟨T, a0, hT0, hT1, f1, f2, f3, f4⟩ := F.flying I1
    have hfr := I1.ok.frames
    rw [e1] at hfr
    have f3' := f3
    rw [e1] at f3'
    have f1' := f1
    have f2' := f2
    have f4' := f4
    rw [e1] at f1' f2' f4'
    refine HT.lE hfr f3' e2 f4' f1' f2' fun h' n1 => ?_
    refine HT.jN (s := { s1 with heap := h' }) n1.st n1.fr n1.tr fun h'' n2 => ?_
    have st : (fD s1.heap X.stack a T).StaysIn h'' := by rw [e1]; exact n2.st
    have tr : HT.TrD h'' (fD s1.heap X.stack a T) a (.ref C) a0 d .none := by rw [e1]; exact n2.tr
    have F3 := F.moved (oT := { cls := .none, data := .dict #[] }) I1.stack I1.stkFree (F.inv I1).stkFree hT0 hT1 st (n1.up.trans n2.up) tr
    exact hh.out pins s0 σ1 H1 H' C a d _ D e1 e2 hex I1 F3 hC ht
end

structure cK (K:W.Frag) (C:Addr):Prop where
 ga:W.findIn K (.ref C) "__getattribute__" =some (some (.builtin "BaseException.__getattribute__"))
 na:W.findIn K (.ref C) "__getattr__" =some none
 cl:W.findIn K (.ref C) "__class__" =some (some (.builtin "object.__class__"))
 mo:W.mroIn K C (.type "object")=some true
 mb:W.mroIn K C (.type "BaseException")=some true
section
variable {K:W.Frag} {prog:Program} {w:World} {A:Around} {E:Value→Shared→Prop} {h:Heap} {g:Array GenState} {d:Drawn} {t:Nat} {os:OsState} {a C:Addr} {o:Obj}
theorem zB {M:Model} (hx:h.get? a=some o) (hc:o.cls=.ref C):W.Looks M h (typeOf (.ref a)) (.ref C):=hc▸(W.Looks.ld hx).andThen .now
theorem DG {R:Result→Shared→Prop} (X:K.In h) (G:cK K C) (hx:h.get? a=some o) (hc:o.cls=.ref C) (hq:R (.ok (.ret (.ref C))) ⟨h,g,d,t,os⟩):
  codeAny (model prog w) A (.call (.builtin "getset_descriptor.__get__") ⟨[.builtin "object.__class__",.ref a,.ref C],[]⟩) R ⟨h,g,d,t,os⟩:=by
 have hT5:(⟨h,g,d,t,os⟩:Shared).TypeIs (.builtin "object.__class__") "getset_descriptor" :=F.typeOf_object_class
 have f8:=W.looks_mroIn (M:=model prog w) X G.mo
 have hcB:(".".intercalate ("object.__class__".cutAt '.').dropLast)= "object" :=F.owner_object_class
 refine codeAny_call_builtin F.slot_gs_get.plain F.entry_gs_get (F.slot_gs_get.check _ _ _ _ _ _ _ _ hT5 (F.args_gs_get _ _ _) ?_)
 repeat (any_goals (first | assumption | (with_reducible refine wpAny_loadPart_at hx ?_;rw [hc]) | (rw [hcB];with_reducible refine f8.at ?_) | wp_step))
 refine ⟨Code.quiet_builtin _ (by decide +kernel),codeAny_builtin F.entry_object_class ?_⟩
 repeat (any_goals (first | assumption | (with_reducible refine wpAny_loadPart_at hx ?_;rw [hc]) | wp_step))
theorem wa {tk:Tok} {Q:Fin→Shared→Prop} (X:K.In h) (G:cK K C) (hx:h.get? a=some o) (hc:o.cls=.ref C) (hq:Q (.done (.ret (.ref C))) ⟨h,g,d,t,os⟩):
  wpAny (model prog w) A (Builtin.«object.__getattribute__» ⟨[.ref a,.str "__class__" tk],[]⟩) Q E ⟨h,g,d,t,os⟩:=by
 have hT5:(⟨h,g,d,t,os⟩:Shared).TypeIs (.builtin "object.__class__") "getset_descriptor" :=F.typeOf_object_class
 have f4:=W.looks_findIn (M:=model prog w) X G.cl
 have f5:=F.typeOf_object_class
 have f6:=F.slot_gs_get.lookup
 have f7:=F.slot_gs_set.lookup
 repeat (any_goals (first | assumption | (with_reducible refine wpAny_loadPart_at hx ?_;rw [hc]) | with_reducible refine f4.at ?_ | wp_step))
 refine DG X G hx hc ?_
 repeat (any_goals (first | assumption | wp_step))
theorem pR {M:Model} {nameV:Value} {Q:Unit→Shared→Prop} (X:K.In h) (G:cK K C) (hx:h.get? a=some o) (hc:o.cls=.ref C) (hq:Q () ⟨h,g,d,t,os⟩):wpAny M A (checkBuiltinCall "BaseException.__getattribute__" ⟨[.ref a,nameV],[]⟩) Q E ⟨h,g,d,t,os⟩:=by
 have hk:builtinKind "BaseException.__getattribute__" =some .slot:=by decide +kernel
 have hsplit:splitId "BaseException.__getattribute__" =some ("BaseException", "__getattribute__"):=by decide +kernel
 have f8:=W.looks_mroIn (M:=M) X G.mb
 have ha:=F.args_bexc_ga (.ref a) nameV
 simp only [checkBuiltinCall,hk,hsplit]
 refine wpAny_bind ?_
 · unfold isInstance
   repeat (first | (with_reducible refine wpAny_loadPart_at hx ?_;rw [hc]) | with_reducible refine f8.at ?_ | wp_step)
   exact hq
theorem Aa {tk:Tok} {R:Result→Shared→Prop} (X:K.In h) (G:cK K C) (hx:h.get? a=some o) (hc:o.cls=.ref C) (hq:R (.ok (.ret (.ref C))) ⟨h,g,d,t,os⟩):
  codeAny (model prog w) A (.call (.builtin "BaseException.__getattribute__") ⟨[.ref a,.str "__class__" tk],[]⟩) R ⟨h,g,d,t,os⟩:=
 codeAny_call_builtin F.excAttr_ValueError.ga.plain F.entry_bexc_ga (pR X G hx hc (wa X G hx hc hq))
theorem Gg {tk:Tok} {Q:Value→Shared→Prop} (X:K.In h) (G:cK K C) (hx:h.get? a=some o) (hc:o.cls=.ref C) (hq:Q (.ref C) ⟨h,g,d,t,os⟩):
  wpAny (model prog w) A (getAttrBy (.ref a) (.str "__class__" tk) false) Q E ⟨h,g,d,t,os⟩:=by
 have f3:=F.excAttr_ValueError.ga.bind (.ref a)
 have f1:=W.looks_findIn (M:=model prog w) X G.ga
 have f2:=W.looks_findIn (M:=model prog w) X G.na
 have hx2:(Value.builtin "BaseException.__getattribute__" ==Value.builtin "object.__getattribute__")=false:=by decide +kernel
 have hx1:(onTheHeap (Value.ref C)&&Value.builtin "BaseException.__getattribute__" ==Value.builtin "object.__getattribute__")=false:=by rw [hx2];rfl
 repeat (any_goals (first | assumption | (with_reducible refine wpAny_loadPart_at hx ?_;rw [hc]) | with_reducible refine f1.at ?_ | with_reducible refine f2.at ?_ | wp_step))
 refine Aa X G hx hc ?_
 repeat (any_goals (first | assumption | wp_step))
theorem zX {Q:Option Value→Shared→Prop} (X:K.In h) (G:cK K C) (hx:h.get? a=some o) (hc:o.cls=.ref C) (hq:Q (some (.ref C)) ⟨h,g,d,t+1,os⟩):
  wpAny (model prog w) A (getAttr? (.ref a) "__class__") Q E ⟨h,g,d,t,os⟩:=by
 unfold getAttr? getAttrBy?
 repeat (any_goals (first | assumption | with_reducible apply Gg X G hx hc | wp_step))
theorem CD {a C:Addr} (hC:bX K C) (G:cK K C):W.KitX K (.ref a) (.ref C) (fun h=>∃ o,h.get? a=some o∧o.cls=.ref C) where
 ty:=fun M h X ⟨o,hx,hc⟩=>zB hx hc
 it:=fun M h X _=>by
  obtain ⟨bm,N,nm,qn,bs,hdct,sn,sub,ab,col,dd,k0,k1,k2,k3,k5,mN,oC,_⟩:=eZ X hC
  intro A' Q' E' s' k q
  unfold isType loadHead
  exact wpAny_bind (wpAny_loadPart (k _ _ oC) (wpAny_pure q))
 ne:=fun h tp dd its n sl X htp=>by
  obtain ⟨bm,N,nm,qn,bs,hdct,sn,sub,ab,col,dd,k0,k1,k2,k3,k5,mN,oC,_⟩:=eZ X hC
  refine Bool.eq_false_iff.mpr fun q=>?_
  have e:C=tp:=Value.ref.inj (beq_iff_eq.mp q)
  subst e
  rw [oC] at htp
  have z:Value.type "type" =Value.type "tuple" :=congrArg Obj.cls (Option.some.inj htp)
  exact absurd z (by decide)
 ca:=fun {prog w A E Q s} X ⟨o,hx,hc⟩ k=>by
  obtain ⟨h,g,d,t,os⟩:=s
  exact zX X G hx hc k
end
section
variable {X:Cx}
def jG (K:W.Frag):List V→Hp→VK→Prop:=fun xs H Q=>∃ a C dd b c cv,xs=[.ref a,c]∧H a=some (gs C dd a)∧bX K C∧cK K C∧aX c cv∧(∀ u,aX c u→u=cv)∧W.kitOne K (.ref C) cv=some b∧Q (.bl b) H
theorem lp:bx X (.builtin "isinstance") (jG X.K):=fun pins s σ H xs us Q I r h=>by
 obtain ⟨a,C,dd,b,c,cv,rfl,ha,hC,G,rc,un,hk,q⟩:=h
 obtain ⟨u,w',rfl,r1,r2⟩:=jT r
 cases un _ r2
 cases (show u=Value.ref a from r1)
 obtain ⟨o,vs,ho,hc,_,_⟩:=qy (P:=X.prog) (w:=X.w) (I.hok a _ ha)
 exact W.kia_one (CD hC G) I.kIn ⟨o,ho,hc⟩ hk (fun z=>nomatch z) fun tk=>⟨.bl _,H,I.tok tk,rfl,q⟩
theorem pj {x:Str} {D:Addr} {pos:Pos} (hm:X.mg x=some (.ref D)) (hg:Gl X x:=by rfl) (hd:(x==("__debug__" :Str))=false:=by decide):QE X (.Name x pos) (tC (.ref D)):=⟨lM hg hm rfl hd⟩
end
end L2
namespace HT
open PySem PyProof.Rows
section
variable {prog:Program} {w:World} {A:Around} {E:Value→Shared→Prop} {s:Shared}
theorem iK {t sl:Addr} {items:Array Value} {vl vu:Value} {lo hi:Option Int} {Q:Value→Shared→Prop} (ht:IsTup s.heap t items) (hs:s.heap.IsSliceOf sl vl vu .none) (pl:IsPart vl lo) (pu:IsPart vu hi)
  (hw:sIx items.size 0 lo=0∧sIx items.size items.size hi=items.size) (h:Q (.ref t) s):wpAny (model prog w) A (getItem (.ref t) (.ref sl)) Q E s:=by
 obtain ⟨os,hos,hcs,hds⟩:=id hs
 have hTs:s.TypeIs (.ref sl) "slice" :=⟨os,hos,hcs⟩
 unfold getItem
 try with_reducible refine wpAny_holding ?_
 first | refine wpAny_bind (wpAny_pure ?_) | skip
 refine wpAny_bind (wpAny_sequenceKey ht.typeIs (by decide) ?_)
 refine wpAny_bind (wpAny_callSpecial?_slot (name:=Str.ofString "__getitem__") ht.typeIs PyProof.Rows.slot_tuple_getitem
  (wpAny_call_entry PyProof.Rows.slot_tuple_getitem ht.typeIs entry_tuple_getitem ?_ (args_tuple_getitem _ _)))
 show wpAny _ _ (Builtin.Tuple.tupleItemsOf (.ref t)>>=_) _ _ s
 refine wpAny_bind (tupleItemsOf_ ht ?_)
 refine wpAny_bind (wpAny_typeOf hTs ?_)
 rw [if_pos (by decide)]
 refine wpAny_bind (gw hs pl pu ?_)
 have hyes:(((sIx items.size 0 lo:Nat):Int)==0&&(1:Int)==1&&(sIx items.size items.size hi - sIx items.size 0 lo)==items.size)=true:=by
  rw [hw.1,hw.2];simp
 show wpAny _ _ (if (((sIx items.size 0 lo:Nat):Int)==0&&(1:Int)==1&&(sIx items.size items.size hi - sIx items.size 0 lo)==items.size)=true then _ else _) _ _ s
 rw [if_pos hyes]
 have hte:s.TypeIs (.ref t) "tuple" :=ht.typeIs
 unfold Builtin.Tuple.tupleIsExact
 repeat (first | exact ⟨_,rfl,wpAny_pure h⟩ | (with_reducible refine wpAny_typeOf hte ?_) | wp_step)
end
section
variable {prog:Program} {w:World} {A:Around} {E:Value→Shared→Prop} {s:Shared}
theorem xZ {t b:Addr} {ws:List Value} {Q:Value→Shared→Prop} (ht:IsTup s.heap t #[]) (hb:IsTup s.heap b ws.toArray) (h1:Q (.ref b) s):wpAny (model prog w) A (binaryOp .Add (.ref t) (.ref b)) Q E s:=by
 obtain ⟨⟨cls,dd,data,sl⟩,ho,hc,n,hd⟩:=id ht
 obtain ⟨⟨cls2,dd2,data2,sl2⟩,ho2,hc2,n2,hd2⟩:=id hb
 simp only at hc hd hc2 hd2
 subst hc hd hc2 hd2
 exact concat_meets ⟨_,ho,rfl⟩ ⟨_,ho2,rfl⟩ noFill_tuple_add seq_tuple_add PySem.F.slot_tuple_add PySem.F.entry_tuple_add (PySem.F.args_tuple_add_2 _ _)
  (tuple_addW0 t b #[] ws.toArray n n2 dd dd2 sl sl2 (by simp)) ⟨ho,ho2,h1⟩
end
end HT
namespace L2
open PySem PySem.Spec PyProof.Rows
theorem av.rfl' {H:Hp}:av H H:=fun _ _ e=>e
theorem tJ {xs:List V} {lo hi:Option Int} (h:HT.sIx xs.length 0 lo=0∧HT.sIx xs.length xs.length hi=xs.length):cM xs lo hi=xs:=by
 unfold cM
 rw [h.1,h.2,List.drop_zero,Nat.sub_zero,List.take_length]
section
variable {X:Cx}
def zo:V→Option Int→Option Int→Hp→VK→Prop:=fun x lo hi H Q=>∃ a xs,x=.ref a∧H a=some (.tup xs)∧∀ p H',av H H'→H' p=some (.tup (cM xs lo hi))→Q (.ref p) H'
theorem zK:SlR X zo:=by
 intro pins s σ H x v vl vu lo hi sl Q I rx hs pl pu h
 obtain ⟨a,xs,rfl,hx,q⟩:=h
 have hq:SqT X.K H a xs:=.inl (.inl hx)
 by_cases hw:HT.sIx xs.length 0 lo=0∧HT.sIx xs.length xs.length hi=xs.length
 · cases rx
   obtain ⟨its,r,ht,hz⟩:=I.tuple hq
   have hlen:its.toArray.size=xs.length:=by rw [List.size_toArray];exact r.length.symm
   refine ⟨"tuple",_,PyProof.Rows.slot_tuple_getitem.lookup,ht.typeIs,?_⟩
   refine HT.iK ht hs pl pu (by rw [hlen];exact hw) ?_
   exact ⟨.ref a,H,I,rfl,q a H av.rfl' (by rw [tJ hw];exact hx)⟩
 · exact Cu pins s σ H _ v vl vu lo hi sl Q I rx hs pl pu ⟨a,xs,rfl,hq,hw,fun p hp=>q p _ (av.upd hp) (aj ..)⟩
def yZ:R2:=fun x y H Q=>∃ a b xs ys,x=.ref a∧y=.ref b∧H a=some (.tup xs)∧H b=some (.tup ys)∧xs.length+ys.length≤sizeLine∧∀ p H',av H H'→H' p=some (.tup (xs++ys))→Q (.ref p) H'
theorem Ax:OpR X (binaryOp .Add) yZ:=by
 intro pins s σ H x y v u Q I rx ry h
 obtain ⟨a,b,xs,ys,rfl,rfl,ha,hb,hz,q⟩:=h
 by_cases hx:xs=[]
 · subst hx
   cases rx
   cases ry
   obtain ⟨its,r1,p1,_⟩:=I.tuple (.inl (.inl ha))
   obtain ⟨its2,r2,p2,_⟩:=I.tuple (.inl (.inl hb))
   cases r1
   exact HT.xZ p1 p2 ⟨.ref b,H,I,rfl,q b H av.rfl' hb⟩
 · refine Ai pins s σ H _ _ v u Q I rx ry ⟨a,b,xs,ys,rfl,rfl,.inl (.inl ha),.inl (.inl hb),hx,hz,fun e=>?_,fun _ p hp=>q p _ (av.upd hp) (aj ..)⟩
   subst e
   exact q a H av.rfl' (by rw [List.append_nil];exact ha)
def aY (K:W.Frag):R2:=fun x y H Q=>match x,y with
 | .int i,.int j=>Q (.int (i+j)) H
 | .str i,.str j=>i.length+j.length≤sizeLine∧Q (.str (i++j)) H
 | .ref a,.ref b=>Cz (.ref a) (.ref b) H Q∨yZ (.ref a) (.ref b) H Q
 | _,_=>False
theorem ba:OpR X (binaryOp .Add) (aY X.K):=(Ca.or (sF.or (AE.or Ax))).imp fun x y H Q q=>by
 unfold aY at q
 split at q
 · exact .inl ⟨_,_,rfl,rfl,q⟩
 · exact .inr (.inl ⟨_,_,rfl,rfl,q.1,q.2⟩)
 · exact .inr (.inr q)
 · exact q.elim
def AB (K:W.Frag):V→Option Int→Option Int→Hp→VK→Prop:=fun x lo hi H Q=>CO K x lo hi H Q∨zo x lo hi H Q
theorem Dw:SlR X (AB X.K):=As.or zK
def sd (t:TE):TE:=fun σ H Q=>t σ H fun x H'=>match x with
 | .int i=>i.natAbs.log2<1920∧Q (.str (toString i)) H'
 | .str z=>z.length≤sizeLine∧Q (.str z) H'
 | _=>False
theorem rQ {e:Expr} {te:TE} {pos:Pos} (h:QE X e te):QE X (.FormattedValue e (-1) none pos) (sd te):=⟨fun pins s σ H Q I q=>by
 refine FormattedValue_plain (thn (h.out pins s σ H _ I q) fun v s1 ⟨x,H1,I1,r1,q1⟩=>?_)
 cases x <;> first | exact q1.elim | skip
 · rename_i i
   obtain ⟨t,rfl⟩:=(show ∃ t,v=Value.int i t from r1)
   exact formatField_int_small q1.1 ⟨.str _,H1,I1.tok _,⟨_,rfl⟩,q1.2⟩
 · rename_i z
   obtain ⟨t,rfl⟩:=(show ∃ t,v=Value.str z t from r1)
   exact formatField_str (fun t' tk=>⟨.str _,H1,I1.tok _,⟨_,rfl⟩,q1.2⟩) q1.1⟩
def mJ : List TE → Str → TE
  | [], acc => fun σ H Q => acc.length ≤ sizeLine ∧ Q (.str acc) H
  | t :: r, acc => fun σ H Q => t σ H fun x H' => match x with
    | .str y => (acc ++ y).length ≤ sizeLine ∧ mJ r (acc ++ y) σ H' Q
    | _ => False
inductive QJ (X:Cx):List Expr→List TE→Prop where
 | nil:QJ X [] []
 | cons {e:Expr} {t:TE} {es:List Expr} {ts:List TE}:QE X e t→QJ X es ts→QJ X (e::es) (t::ts)
theorem Gs {es : List Expr} {ts : List TE} (j : QJ X es ts) : ∀ {pins : List (Addr × Obj)} {s : Shared} {σ : St} {H : Hp} {Q : VK} {acc : Str}, Inv X pins σ H s → mJ ts acc σ H Q → wpAny (model X.prog X.w) X.A (joinParts acc (evalEach es X.env)) (EP X pins σ Q) X.xe s := by
  induction j with
  | nil => intro pins s σ H Q acc I q; exact joinParts_nil ⟨.str _, H, I.tok _, ⟨_, rfl⟩, q.2⟩ q.1
  | cons h _ ih =>
    intro pins s σ H Q acc I q
    refine joinParts_cons (thn (h.out pins s σ H _ I q) fun v s1 ⟨x, H1, I1, r1, q1⟩ => ?_)
    cases x <;> first | exact q1.elim | skip
    rename_i z
    obtain ⟨t, rfl⟩ := (show ∃ t, v = Value.str z t from r1)
    exact ⟨q1.1, ih I1 q1.2⟩
theorem vb {v1 v2:Expr} {bz:List Expr} {ts:List TE} {pos:Pos} (j:QJ X (v1::v2::bz) ts):QE X (.JoinedStr (v1::v2::bz) pos) (mJ ts Str.empty):=⟨fun pins s σ H Q I q=>JoinedStr_many (Gs j I q)⟩
end
theorem mX:bootBuiltins "ValueError" =some (.type "ValueError"):=by decide +kernel
theorem bG {K:W.Frag} {C D:Addr} {b:Bool} (h:W.mroIn K C (.ref D)=some b):bN K C D=some b:=by
 unfold W.mroIn W.clsIn at h
 unfold bN
 split at h
 · rename_i cd sl e
   rw [e]
   dsimp only [Option.bind] at h ⊢
   split at h
   · cases h
   · exact h
 · cases h
theorem Fun.okN {P : Program} {w : World} {K : W.Frag} {mg : Str → Option Value} {base : Heap} {CX : CXT} {x qual : Str} {st : Stmt} {f : Addr} {fd : FuncData} {N ps : List Str} {k : Nat} {sp : Sp} (F : Fun K x qual st f fd) (S : aA N ps (am st)) (len : ∀ vs H Q E, sp vs H Q E → vs.length = ps.length)
  (hbody : ∀ (cdv : Value) (A : Around) (outer : List Env) (s : Shared) (H : Hp) (vs : List V) (Q : VK) (E : XK), be k (A.deeper (envOfC qual (am st) s.heap.objs.size f cdv)) → sp vs H Q E →
   ∃ t, PSs (cq CX P w K mg base N qual (am st) f cdv A outer s H E).nox (aP st) t ∧ t { nx := fun _ H' => Q .non H', rt := Q } (bL N vs) H) : aO P w K mg base CX (k + 1) f fd ps sp := by
 obtain ⟨oc, od, kV, doc, pm, an, cdv, ct, osl, rfl, lk, hcd⟩ := F.ex
 refine yY lk hcd S len fun A outer s H vs Q E hr hsp => ?_
 obtain ⟨t, h, q⟩ := hbody cdv A outer s H vs Q E hr hsp
 exact ⟨t, h.nox, q⟩
section
variable {X:Cx}
def DR:V→Option Int→Option Int→Hp→VK→Prop:=fun x lo hi H Q=>∃ z,x=.str z∧z.length≤sizeLine∧Q (.str (Txt.slice z lo hi)) H
theorem Bd : SlR X DR := by
  intro pins s σ H x v vl vu lo hi sl Q I rx hs pl pu h
  obtain ⟨z, rfl, hz, q⟩ := h
  obtain ⟨t, rfl⟩ := (show ∃ t, v = Value.str z t from rx)
  refine ⟨"str", _, F.slot_str_getitem.lookup, typeIs_str _ _ _, ?_⟩
  have fin : ∀ (l u : Option (Int × Tok)), l.map (·.1) = lo → u.map (·.1) = hi → s.heap.IsSlice sl l u none → wpAny (model X.prog X.w) X.A (getItem (.str z t) (.ref sl)) (EP X pins σ Q) X.xe s := fun l u e1 e2 hs' => by
    subst e1 e2
    refine wpAny_getItem_str_slice (l := l) (u := u) (st := none) hs' rfl (post_val_or_str ⟨Nat.le_trans (Txt.slice_le z _ _) hz, fun t' k => ⟨.str _, H, I.tok k, ⟨_, rfl⟩, q⟩⟩)
  obtain ⟨os, hos, hcs, hds⟩ := hs
  cases pl with
  | none => cases pu with
    | none => exact fin none none rfl rfl ⟨os, hos, hcs, hds⟩
    | int j tj => exact fin none (some (j, tj)) rfl rfl ⟨os, hos, hcs, hds⟩
  | int i ti => cases pu with
    | none => exact fin (some (i, ti)) none rfl rfl ⟨os, hos, hcs, hds⟩
    | int j tj => exact fin (some (i, ti)) (some (j, tj)) rfl rfl ⟨os, hos, hcs, hds⟩
def oF (K:W.Frag):V→Option Int→Option Int→Hp→VK→Prop:=fun x lo hi H Q=>AB K x lo hi H Q∨DR x lo hi H Q
theorem lb:SlR X (oF X.K):=Dw.or Bd
def kZ:V→Bool
 | .int _=>true
 | .str _=>true
 | _=>false
theorem tH {A:Around} {s:Shared} {x y:V} {u v:Value} (rx:aX x u) (ry:aX y v) (hx:kZ x=true) (hy:kZ y=true):PySem.SeqAt.EqAt A s u v (decide (x=y)):=by
 cases x <;> first | cases hx | skip
 all_goals (cases y <;> first | cases hy | skip)
 · obtain ⟨t,rfl⟩:=rx;obtain ⟨t',rfl⟩:=ry
   have e:=PySem.SeqAt.EqAt.int_int (A:=A) (s:=s) ‹Int› t ‹Int› t'
   rename_i i j
   have e2:decide (V.int i=V.int j)=(i==j):=by rw [jo (f:=V.int) fun _ _ e=>V.int.inj e];rfl
   rw [e2];exact PySem.SeqAt.EqAt.int_int i t j t'
 · obtain ⟨t,rfl⟩:=rx;obtain ⟨t',rfl⟩:=ry
   exact PySem.SeqAt.EqAt.int_str _ _ _ _
 · obtain ⟨t,rfl⟩:=rx;obtain ⟨t',rfl⟩:=ry
   exact PySem.SeqAt.EqAt.str_int _ _ _ _
 · obtain ⟨t,rfl⟩:=rx;obtain ⟨t',rfl⟩:=ry
   rename_i i j
   have e2:decide (V.str i=V.str j)=(i==j):=by
    rw [jo (f:=V.str) fun _ _ e=>V.str.inj e]
    by_cases h:i=j
    · rw [h];simp
    · rw [decide_eq_false h];exact (beq_eq_false_iff_ne.mpr h).symm
   rw [e2];exact PySem.SeqAt.EqAt.str_str i t j t'
theorem vc {xs ys:List V}:decide (xs=ys)=((List.range (min xs.length ys.length)).all (fun j=>decide (xs[j]?=ys[j]?))&&xs.length==ys.length):=by
 by_cases h:xs=ys
 · subst h;simp
 · rw [decide_eq_false h]
   by_cases hl:xs.length=ys.length
   · rw [hl,Nat.min_self,beq_self_eq_true,Bool.and_true]
     symm
     rw [List.all_eq_false]
     apply Classical.byContradiction
     intro hn
     apply h
     apply List.ext_getElem? fun i=>?_
     by_cases hi:i<ys.length
     · apply Classical.byContradiction
       intro hne
       exact hn ⟨i,List.mem_range.mpr hi,by simpa using hne⟩
     · rw [List.getElem?_eq_none (by omega),List.getElem?_eq_none (by omega)]
   · have:(xs.length==ys.length)=false:=by simpa using hl
     rw [this,Bool.and_false]
def Cv (K:W.Frag):R2:=fun x y H Q=>∃ a b xs ys,x=.ref a∧y=.ref b∧SqT K H a xs∧SqT K H b ys∧xs.all kZ=true∧ys.all kZ=true∧Q (.bl (decide (xs=ys))) H
theorem DY (hu:X.A.units<cLine):OpR X (compareOp .Eq) (Cv X.K):=by
 intro pins s σ H x y v u Q I rx ry h
 obtain ⟨a,b,xs,ys,rfl,rfl,ha,hb,px,py,q⟩:=h
 cases rx
 cases ry
 obtain ⟨its,r1,p1,_⟩:=I.tuple ha
 obtain ⟨its2,r2,p2,_⟩:=I.tuple hb
 have l1:=r1.length
 have l2:=r2.length
 refine PySem.SeqAt.eq_tupleAt (e:=fun j=>decide (xs[j]?=ys[j]?)) p1 p2 hu (fun j h1 h2=>?_) ?_
 · have h1:j<its.length:=by simpa using h1
   have h2:j<its2.length:=by simpa using h2
   have e1:xs[j]?=some xs[j]:=List.getElem?_eq_getElem (by omega)
   have e2:ys[j]?=some ys[j]:=List.getElem?_eq_getElem (by omega)
   obtain ⟨u1,g1,ru1⟩:=r1.get e1
   obtain ⟨u2,g2,ru2⟩:=r2.get e2
   have g1':its.toArray[j]=u1:=by
    rw [List.getElem?_eq_getElem h1] at g1;simpa using Option.some.inj g1
   have g2':its2.toArray[j]=u2:=by
    rw [List.getElem?_eq_getElem h2] at g2;simpa using Option.some.inj g2
   rw [g1',g2',e1,e2]
   have:decide (some xs[j]=some ys[j])=decide (xs[j]=ys[j]):=by simp
   rw [this]
   exact tH ru1 ru2 (List.all_eq_true.mp px _ (List.getElem_mem _)) (List.all_eq_true.mp py _ (List.getElem_mem _))
 · have e:=vc (xs:=xs) (ys:=ys)
   rw [l1,l2] at e
   simp only [List.size_toArray]
   rw [← e]
   exact ⟨.bl _,H,I,rfl,q⟩
end
section
variable {X:Cx} {pins:List (Addr×Obj)} {σ:St} {H H1:Hp} {s s0:Shared} {a:Addr} {o:HO}
theorem Inv.track2 (I0:Inv X pins σ H1 s0) (I:Inv X pins σ H s) (new:s0.heap.objs.size≤a) (hn:H a=none) (ok:aZ X.prog X.w (upd H a o) s.heap a o):Inv X pins σ (upd H a o) s:=by
 have ne:∀ b u,s0.heap.get? b=some u→b≠a:=fun b u e=>Nat.ne_of_lt (Nat.lt_of_lt_of_le (Heap.lt_size e) new)
 have ne0:∀ b u,X.s₀.heap.get? b=some u→b≠a:=fun b u e=>Nat.ne_of_lt (Nat.lt_of_lt_of_le (Heap.lt_size e) (Nat.le_trans I0.sz new))
 have nL:X.env.locals≠a:=by
   obtain ⟨m,⟨o',_,_,e,_⟩,_⟩:=I0.loc
   exact ne _ _ e
 refine ⟨I.ok,I.os,I.bare,⟨I.base.keep,I.base.slot,fun b u e n hx=>?_,I.base.there,fun b xs e=>?_,fun b u v e=>?_,fun b ps e=>?_⟩,I.loc,I.cell,?_,fun x c e=>?_,fun p hp=>?_,fun b u e=>?_,I.len⟩
 · rw [au (ne0 b u e)];exact I.base.free b u e n hx
 · have:=I.base.tups b xs e
   rw [au (aD this hn)];exact this
 · have:=I.base.frzs b u v e
   rw [au (aD this hn)];exact this
 · obtain ⟨more,this⟩:=I.base.tbls b ps e
   exact ⟨more,by rw [au (aD this hn)];exact this⟩
 · rw [au nL];exact I.free
 · obtain ⟨v,o',e',_⟩:=I0.cell x c e
   rw [au (ne _ _ e')];exact I.freeC x c e
 · obtain ⟨h1,h2,h3⟩:=I.pin p hp
   exact ⟨h1,by rw [au (ne _ _ (I0.pin p hp).1)];exact h2,h3⟩
 · by_cases hb:b=a
   · subst hb
     rw [aj] at e;cases e
     exact ok
   · rw [au hb] at e
     exact (I.hok b u e).stay (fun c v _ q=>q) (fun c q=>by
      have:c≠a:=aD q hn
      rw [au this];exact q) fun c xs q=>by
      have:c≠a:=aD q hn
      rw [au this];exact q
end
def uC (C:Addr) (m:Str) (sp:Sp) (E:St→XK) (ta:TE) (t:TA):TE:=fun σ H Q=>ta σ H fun x H1=>∃ a dx fs,x=.ref a∧H1 a=some (.ins C dx fs)∧fs.lookup m=none∧t σ H1 fun vs H2=>sp (x::vs) H2 Q (E σ)
def iR (C:Addr) (sp:Sp) (E:St→XK) (t:TA):TE:=fun σ H Q=>t σ H fun vs H1=>∀ x dx,H1 x=none→H1 dx=none→dx≠x→
 sp (.ref x::vs) (upd (upd H1 dx (.own x)) x (.ins C dx [])) (fun v H2=>v=.non∧Q (.ref x) H2) (E σ)
section
variable {X:Cx} {CX:CXT} {k:Nat} {f C:Addr} {fd:FuncData} {ps:List Str} {sp:Sp} {E:St→XK} {x m fl:Str} {p pos apos pos':Pos} {e o value:Expr} {es:List Expr} {ta tv to:TE} {t:TA}
theorem de (he:QE X e ta) (hb:attributeBase e fl X.env (eval e X.env)=eval e X.env:=by rfl):QE X (.Attribute e fl pos) (dC X.K ta fl):=⟨Cf he.out hb⟩
theorem fo (ho:QE X o to) (hv:QE X value tv) (hs:swapsWith value (some (.Attribute o fl pos')) pos.line X.env=pure false:=by rfl):QS X (.Assign [.Attribute o fl pos'] value pos) (iT X.K to tv fl):=⟨CW ho.out hv.out hs⟩
theorem zM {pl : Sem Bool} (he : QE X o ta) (c : Cls X.K C) (hm : xl X.K C m f) (F : aO X.prog X.w X.K X.mg X.base CX k f fd ps sp) (hr : be k X.A) (hb : bO X.K fd ps []) (hx : eE CX X E) (ha : QA X (e :: es) t)
  (hs : bp (e :: es) = true := by rfl)
  (ht : eval (.Call (.Attribute o m apos) (e :: es) [] pos) X.env = (do
   let ov ← eval o X.env
   standAt apos.atName
   let (f, first) ← holding [ov] (getMethod ov m pl)
   callWith pos f first (backTo pos (starEach (e :: es) X.env)) (backToKw pos (keywordEach [] X.env))) := by rfl) :
  QE X (.Call (.Attribute o m apos) (e :: es) [] pos) (uC C m sp E ta t) := ⟨fun pins s σ H Q I h => by
 have h' : (cn e && bp es) = true := hs
 refine W.methodCall_KW (pl := pl) (thn (he.out pins s σ H _ I h) fun u s1 ⟨x, H1, I1, rx, a, dx, fs, ex, ea, l, q⟩ => ?_) ht
 subst ex
 obtain rfl : u = Value.ref a := rx
 refine sB I1 ea c hm l ?_
 refine W.callWith_K (first := [.ref a]) (h₀ := X.base) I.ok.mod.kin hm.kp (thn (ha.out pos pins s1 σ H1 _ I1 q) fun us s2 ⟨vs, H2, I2, r, q2⟩ => ⟨I2.kIn, ?_⟩)
  (bv (Bool.and_eq_true_iff.mp h').1 es X.env) (cg (Bool.and_eq_true_iff.mp h').2)
 exact jV (us := .ref a :: us) (vs := .ref a :: vs) F hr hb hx I2 (.cons rfl r) q2⟩
theorem mD {pins : List (Addr × Obj)} {σ : St} {H : Hp} {s : Shared} {Q : VK} {us : List Value} {vs : List V} (M : Mk X.K C f) (F : aO X.prog X.w X.K X.mg X.base CX k f fd ps sp) (hr : be (k + 1) X.A) (hb : bO X.K fd ps [])
    (hx : eE CX X E) (I : Inv X pins σ H s) (r : bc vs us)
    (h : ∀ x dx, H x = none → H dx = none → dx ≠ x → sp (.ref x :: vs) (upd (upd H dx (.own x)) x (.ins C dx [])) (fun v H2 => v = .non ∧ Q (.ref x) H2) (E σ)) :
    wpAny (model X.prog X.w) X.A (call (.ref C) us) (EP X pins σ Q) X.xe s := by
  have hq := h (s.heap.objs.size + 1) s.heap.objs.size (I.hok.fresh (Nat.le_succ _)) (I.hok.fresh (Nat.le_refl _)) (Nat.ne_of_lt (Nat.lt_succ_self _))
  have I2 := Inv.made (C := C) I
  have r2 : bc (V.ref (s.heap.objs.size + 1) :: vs) (Value.ref (s.heap.objs.size + 1) :: us) := .cons rfl r
  have hl : (Value.ref (s.heap.objs.size + 1) :: us).length = ps.length := by
    have e := r2.length
    rw [F.len _ _ _ _ hq] at e
    exact e.symm
  have hb' := hb _ (Value.ref (s.heap.objs.size + 1) :: us) I2.kIn (by rw [List.append_nil]; exact hl)
  rw [List.append_nil] at hb'
  refine wpAny_call (we (f := f) I.kIn M.makes M.init (beq_iff_eq.mp M.fn) (codeAny_mono (F.run _ X.stack _ _ ⟨Value.ref (s.heap.objs.size + 1) :: us, []⟩ (Value.ref (s.heap.objs.size + 1) :: us) _ _ (E σ) (hr.make C us [])
    (I2.env0.make C us []) hb' r2 hq) fun r s' hq' => ?_))
  cases r with
  | error e => exact hx pins σ _ _ e s' I2 hq'
  | ok fl =>
    cases fl with
    | ret u =>
      obtain ⟨v, H', I3, rv, ev, q3⟩ := I2.after hq'
      subst ev
      exact ⟨rv, ⟨V.ref (s.heap.objs.size + 1), H', I3, rfl, q3⟩⟩
    | next => exact False.elim hq'
    | brk => exact False.elim hq'
    | cont => exact False.elim hq'
theorem rz (M:Mk X.K C f) (F:aO X.prog X.w X.K X.mg X.base CX k f fd ps sp) (hr:be (k+1) X.A) (hm:X.mg x=some (.ref C)) (hb:bO X.K fd ps []) (hx:eE CX X E) (ha:QA X (e::es) t)
  (hg:Gl X x:=by rfl) (hdb:(x==("__debug__" :Str))=false:=by decide) (hs:bp (e::es)=true:=by rfl):QE X (.Call (.Name x p) (e::es) [] pos) (iR C sp E t):=⟨fun pins s σ H Q I h=>by
 have h':(cn e&&bp es)=true:=hs
 refine wpAny_Call_Name_kw (fv I hg hm ?_ hdb)
 refine W.callWith_K (h₀:=X.base) I.ok.mod.kin M.kp (thn (ha.out pos pins s σ H _ I h) fun us s1 ⟨vs,H1,I1,r,q⟩=>⟨I1.kIn,?_⟩) (bv (Bool.and_eq_true_iff.mp h').1 es X.env) (cg (Bool.and_eq_true_iff.mp h').2)
 exact mD M F hr hb hx I1 r q⟩
theorem vM (M:Mk X.K C f) (F:aO X.prog X.w X.K X.mg X.base CX k f fd ps sp) (hr:be (k+1) X.A) (hm:X.mg x=some (.ref C)) (hb:bO X.K fd ps []) (hx:eE CX X E)
  (hg:Gl X x:=by rfl) (hdb:(x==("__debug__" :Str))=false:=by decide):QE X (.Call (.Name x p) [] [] pos) (iR C sp E al):=⟨fun pins s σ H Q I h=>by
 refine wpAny_Call_Name_kw (fv I hg hm ?_ hdb)
 exact W.callWith_K0 I.kIn M.kp (mD (us:=[]) M F hr hb hx I .nil h)⟩
end
mutual
inductive dQ (K:W.Frag) (H:Hp):V→PyData→Prop
 | non:dQ K H .non .none
 | bl (b):dQ K H (.bl b) (.bool b)
 | int (i):dQ K H (.int i) (.int i)
 | str (z):dQ K H (.str z) (.str z)
 | lst {a xs ds}:SqL K H a xs→DatVs K H xs ds→dQ K H (.ref a) (.list ds)
 | tup {a xs ds}:SqT K H a xs→DatVs K H xs ds→dQ K H (.ref a) (.tuple ds)
inductive DatVs (K:W.Frag) (H:Hp):List V→List PyData→Prop
 | nil:DatVs K H [] []
 | cons {x xs d ds}:dQ K H x d→DatVs K H xs ds→DatVs K H (x::xs) (d::ds)
end
section
variable {X:Cx}
mutual
theorem da {pins : List (Addr × Obj)} {σ : St} {H : Hp} {s : Shared} (I : Inv X pins σ H s) : ∀ {x : V} {d : PyData}, dQ X.K H x d → ∀ {v : Value}, aX x v → ∃ as, Reads s.heap v d as
  | _, _, .non, _, r => by cases r; exact ⟨_, .none⟩
  | _, _, .bl b, _, r => by cases r; exact ⟨_, .bool b⟩
  | _, _, .int i, _, r => by obtain ⟨t, rfl⟩ := r; exact ⟨_, .int i t⟩
  | _, _, .str z, _, r => by obtain ⟨t, rfl⟩ := r; exact ⟨_, .str z t⟩
  | _, _, .lst h hs, _, r => by
    cases r
    obtain ⟨its, r1, ⟨o, n, h1, h2, _, h3⟩, _⟩ := I.list h
    obtain ⟨as, ra⟩ := datVs_reads I hs r1
    exact ⟨_, .list h1 h2 h3 (by simpa using ra)⟩
  | _, _, .tup h hs, _, r => by
    cases r
    obtain ⟨its, r1, ⟨o, h1, h2, n, h3⟩, _⟩ := I.tuple h
    obtain ⟨as, ra⟩ := datVs_reads I hs r1
    exact ⟨_, .tuple h1 h2 h3 (by simpa using ra)⟩
theorem datVs_reads {pins : List (Addr × Obj)} {σ : St} {H : Hp} {s : Shared} (I : Inv X pins σ H s) : ∀ {xs : List V} {ds : List PyData}, DatVs X.K H xs ds → ∀ {vs : List Value}, bc xs vs → ∃ as, ReadsAll s.heap vs ds as
  | _, _, .nil, _, r => by cases r; exact ⟨_, .nil⟩
  | _, _, .cons h hs, _, r => by
    cases r with
    | cons r1 r2 =>
      obtain ⟨as, a⟩ := da I h r1
      obtain ⟨bs, b⟩ := datVs_reads I hs r2
      exact ⟨_, .cons a b⟩
end
def pO (K:W.Frag):R2:=fun x y H Q=>∃ d e,dQ K H x d∧dQ K H y e∧d.canLay0=true∧e.canLay0=true∧d.depth≤150∧Q (.bl (d.eqv e)) H
def oQ (K:W.Frag):R2:=fun x y H Q=>∃ d e,dQ K H x d∧dQ K H y e∧d.canLay0=true∧e.canLay0=true∧d.depth≤150∧Q (.bl (!d.eqv e)) H
theorem BW (hu:X.A.units+150<cLine):OpR X (compareOp .Eq) (pO X.K):=by
 intro pins s σ H x y v u Q I rx ry h
 obtain ⟨d,e,hd,he,cd,ce,dp,q⟩:=h
 obtain ⟨as,ra⟩:=da I hd rx
 obtain ⟨bs,rb⟩:=da I he ry
 exact PySem.SeqAt.compareEq_reads ra rb cd ce (by have:=Nat.min_le_left d.depth e.depth;omega) ⟨.bl _,H,I,rfl,q⟩
theorem DX (hu:X.A.units+150<cLine):OpR X (compareOp .NotEq) (oQ X.K):=by
 intro pins s σ H x y v u Q I rx ry h
 obtain ⟨d,e,hd,he,cd,ce,dp,q⟩:=h
 obtain ⟨as,ra⟩:=da I hd rx
 obtain ⟨bs,rb⟩:=da I he ry
 exact PySem.SeqAt.compareNe_reads ra rb cd ce (by have:=Nat.min_le_left d.depth e.depth;omega) ⟨.bl _,H,I,rfl,q⟩
theorem be.units150 {k:Nat} {A:Around} (r:be k A):A.units+150<cLine:=by have:=r.un;omega
def dh (K:W.Frag):R2:=fun x y H Q=>match x,y with
 | .ref a,y=>oQ K (.ref a) y H Q
 | x,.ref b=>oQ K x (.ref b) H Q
 | x,y=>mNe x y H Q
theorem fg (hu:X.A.units+150<cLine):OpR X (compareOp .NotEq) (dh X.K):=((DX hu).or oNe).imp fun x y H Q q=>by
 unfold dh at q
 split at q
 · exact .inl q
 · exact .inl q
 · exact .inr q
def oP:List V→Hp→VK→Prop:=fun xs H Q=>match xs with | [.int i,.int j]=>Q (.int (if j<i then j else i)) H | _=>False
theorem xQ (hc:X.calm=true):bx X (.builtin "min") oP:=fun pins s σ H xs us Q I r q=>by
 unfold oP at q
 split at q
 · exact vy hc pins s σ H _ us Q I r ⟨_,_,rfl,q⟩
 · exact q.elim
variable {o:Expr} {to:TE} {name:Str} {apos cpos:Pos} {T id:String} {rm:V→List V→Hp→VK→Prop}
end
def jW (ns:List Int):List PyData:=ns.map PyData.int
theorem kD {K:W.Frag} {H:Hp}:∀ ns:List Int,DatVs K H (ns.map V.int) (jW ns)
 | []=> .nil
 | i::r=> .cons (.int i) (kD r)
theorem jZ:∀ ns:List Int,(PyData.list (jW ns)).canLay0=true
 | []=>rfl
 | i::r=>jZ r
theorem iJ:∀ ns:List Int,PyData.depthAll (jW ns)=0
 | []=>rfl
 | i::r=>by show max 0 (PyData.depthAll (jW r))=0;rw [iJ r];rfl
theorem tm (ns:List Int):(PyData.list (jW ns)).depth≤150:=by show PyData.depthAll (jW ns)+1≤150;rw [iJ];decide
theorem uO:(("" :String):Str)=Str.empty:=by decide
theorem zg : ∀ xs : List Str, Str.join "" xs = xs.foldr (· ++ ·) Str.empty
  | [] => rfl
  | [x] => (Str.append_empty x).symm
  | x :: y :: r => by
    show x ++ (("" : String) : Str) ++ Str.join "" (y :: r) = x ++ (y :: r).foldr (· ++ ·) Str.empty
    rw [zg (y :: r), uO, Str.append_empty]
theorem Ah (xs:List Str):Txt.join "" xs=xs.foldr (·++·) Str.empty:=(eq_of_beq (join_plain_closes "" xs)).trans (zg xs)
theorem aS {n:Nat} (h:n≤1000000):n≤sizeLine:=by rw [sizeLine_eq];omega
theorem nl (k:Nat):((2^k:Nat):Int)=(2:Int)^k:=by simp
theorem eV (k:Nat):(0:Int)<2^k:=by have:=Nat.two_pow_pos k;rw [← nl];omega
theorem uP (ns:List Int) (lo hi:Option Int):∃ zs:List Int,cM (ns.map V.int) lo hi=zs.map V.int∧zs.length≤ns.length:=by
 refine ⟨(ns.drop (HT.sIx ns.length 0 lo)).take (HT.sIx ns.length ns.length hi - HT.sIx ns.length 0 lo),?_,?_⟩
 · unfold cM
   rw [List.length_map,List.map_take,List.map_drop]
 · rw [List.length_take,List.length_drop];omega
theorem ph {α:Type} {xs:List α} {i:Int} (h0:0≤i) (h1:i<xs.length):∃ c,atI xs i=some c:=by
 unfold atI ixN
 rw [if_pos h0,if_pos h1]
 have:i.toNat<xs.length:=by omega
 exact ⟨xs[i.toNat],by show xs[i.toNat]?=_;rw [List.getElem?_eq_getElem this]⟩
theorem rT (x y : Nat) : x ||| y = (x &&& y) + (x ^^^ y) := by
  have h : ∀ n, ∀ x y : Nat, x < 2 ^ n → y < 2 ^ n → x ||| y = (x &&& y) + (x ^^^ y) := by
    intro n
    induction n with
    | zero => intro x y hx hy; have : x = 0 := by simpa using hx
              have : y = 0 := by simpa using hy
              subst_vars; rfl
    | succ n ih =>
      intro x y hx hy
      have i := ih (x / 2) (y / 2) (by omega) (by omega)
      rw [← Nat.div_add_mod (x ||| y) 2, ← Nat.div_add_mod (x &&& y) 2, ← Nat.div_add_mod (x ^^^ y) 2]
      rw [Nat.or_div_two, Nat.and_div_two, Nat.xor_div_two, i]
      have hm : (x ||| y) % 2 = (x &&& y) % 2 + (x ^^^ y) % 2 := by
        have a := @Nat.or_mod_two_pow x y 1
        have b := @Nat.and_mod_two_pow x y 1
        have c := @Nat.xor_mod_two_pow x y 1
        rw [Nat.pow_one] at a b c
        rw [a, b, c]
        rcases Nat.mod_two_eq_zero_or_one x with h | h <;> rcases Nat.mod_two_eq_zero_or_one y with h' | h' <;> rw [h, h'] <;> rfl
      omega
  have h2 : max x y < 2 ^ (max x y) := Nat.lt_two_pow_self
  exact h (max x y) x y (by omega) (by omega)
theorem sg (x y:Nat):Builtin.bitXor x y=((x^^^y:Nat):Int):=by
 unfold Builtin.bitXor Builtin.bitOr
 have e1:Builtin.bitAnd x y=((x &&& y:Nat):Int):=by
  unfold Builtin.bitAnd
  rw [decide_eq_true (by omega:(0:Int)≤x),decide_eq_true (by omega:(0:Int)≤y)];rfl
 have n (z:Nat):Builtin.bitNot z<0:=by unfold Builtin.bitNot;omega
 have nn (z:Nat):(Builtin.bitNot (Builtin.bitNot z)).toNat=z:=by unfold Builtin.bitNot;omega
 have e2:Builtin.bitAnd (Builtin.bitNot x) (Builtin.bitNot y)=Builtin.bitNot ((x ||| y:Nat):Int):=by
  unfold Builtin.bitAnd
  rw [decide_eq_false (by have:=n x;omega:¬ 0≤Builtin.bitNot x),decide_eq_false (by have:=n y;omega:¬ 0≤Builtin.bitNot y)]
  show Builtin.bitNot (((Builtin.bitNot (Builtin.bitNot x)).toNat ||| (Builtin.bitNot (Builtin.bitNot y)).toNat:Nat):Int)=_
  rw [nn,nn]
 rw [e1,e2,rT]
 unfold Builtin.bitNot
 omega
theorem rS (x:Nat):Builtin.bitAnd x 1=((x%2:Nat):Int):=by
 unfold Builtin.bitAnd
 rw [decide_eq_true (by omega:(0:Int)≤x),decide_eq_true (by decide:(0:Int)≤1)]
 show (((x:Int).toNat &&& (1:Int).toNat:Nat):Int)=_
 rw [Int.toNat_natCast,show (1:Int).toNat=1 from rfl,Nat.and_one_is_mod]
section
variable {X:Cx}
theorem be.units1 {k:Nat} {A:Around} (r:be k A):A.units+1<cLine:=by have:=r.un;omega
def BG:R2:=fun x y H Q=>∃ a v,x=.ref a∧fN H a y (some v)∧Q v H
theorem zW (hu:X.A.units+1<cLine):IxR X BG:=by
 intro value slice pins s σ H x y v u Q I rx ry h hs
 obtain ⟨a,w0,rfl,g,q⟩:=h
 obtain rfl:v=Value.ref a:=rx
 have hT:=qb I g
 have h2:wpAny (model X.prog X.w) X.A (getItem (.ref a) u) (EP X pins σ Q) X.xe s:=vp hu I g ry fun w' s3 I3 rw'=>⟨w0,H,I3,rw',q⟩
 unfold subscriptTail
 refine wpAny_bind ?_
 rw [getitemInPython_of_ne hT.not_modules]
 refine wpAny_bind (wpAny_specialOf hT PySem.F.slot_dict_getitem.lookup ?_)
 have fin:wpAny (model X.prog X.w) X.A (subscripted slice false (.ref a) u) (fun r s₃=>wpAny (model X.prog X.w) X.A (letTemporaryGo value (.ref a) r>>=fun _=>pure r) (EP X pins σ Q) X.xe s₃) X.xe s:=by
  rw [hs]
  exact wpAny_operating (wpAny_mono h2 (fun r s₃ h₃=>wpAny_bind (wpAny_letTemporaryGo (wpAny_pure h₃))) fun _ _ x=>x)
 first
  | exact wpAny_pure (wpAny_bind fin)
  | exact wpAny_bind (wpAny_pure (wpAny_bind fin))
  | exact wpAny_bind fin
def aG (K:W.Frag):R2:=fun x y H Q=>rIx K x y H Q∨BG x y H Q
theorem az (hu:X.A.units+1<cLine):IxR X (aG X.K):=DN.or (zW hu)
def yV:V→V→V→Hp→(Hp→Prop)→Prop:=fun o i v H Q=>∃ a H',o=.ref a∧ym H a i v H'∧Q H'
theorem wn (hu:X.A.units+1<cLine):sV X yV:=by
 intro pins s σ H o i v ov iv u Q I ro ri rv h
 obtain ⟨a,H',rfl,g,q⟩:=h
 obtain rfl:ov=Value.ref a:=ro
 exact tT hu I g ri rv fun s4 I4=>⟨H',I4,q⟩
def sf:V→V→V→Hp→(Hp→Prop)→Prop:=fun o i v H Q=>yD o i v H Q∨yV o i v H Q
theorem zC (hu:X.A.units+1<cLine):sV X sf:=by
 intro pins s σ H o i v ov iv u Q I ro ri rv h
 rcases h with h | h
 · exact vU pins s σ H o i v ov iv u Q I ro ri rv h
 · exact wn hu pins s σ H o i v ov iv u Q I ro ri rv h
variable {o e:Expr} {to te:TE} {p pos:Pos}
theorem wA {ti:TE} {i:Expr} (hu:X.A.units+1<cLine) (ho:QE X o to) (hi:QE X i ti) (he:QE X e te) (hs:swapsWithSole [.Subscript o i p] e pos.line X.env=pure false:=by rfl) (hw:swappedStores [.Subscript o i p] e X.env=pure none:=by rfl) (ha:∀ v,assign (.Subscript o i p) X.env v=(do let ov←holding [v] (eval o X.env);let iv←holding [v,ov] (eval i X.env);standAt p;holding [v,ov,iv] (setItem ov iv v);release [v,ov,iv] []):=by intro _;rfl):QS X (.Assign [.Subscript o i p] e pos) (aH te (xN to ti sf)):=⟨kQ he.out (Bf ho.out hi.out (zC hu) ha) hs hw⟩
def rp:R2:=fun y x H Q=>∃ a o,x=.ref a∧fN H a y o∧Q (.bl (!o.isSome)) H
theorem uV (hu:X.A.units+1<cLine):OpR X (compareOp .NotIn) rp:=by
 intro pins s σ H x y v u Q I rx ry h
 obtain ⟨a,ov,rfl,g,q⟩:=h
 obtain rfl:u=Value.ref a:=ry
 exact Am hu I g rx fun s3 I3=>⟨.bl (!ov.isSome),H,I3,rfl,q⟩
def qL (K:W.Frag):R2:=fun y x H Q=>∃ d ds,dQ K H y d∧(dQ K H x (.list ds)∨dQ K H x (.tuple ds))∧PyData.canLayAll0 ds=true∧d.canLay0=true∧d.depth≤140∧Q (.bl (!ds.any fun e=>e.eqv d)) H
theorem uf (hu:X.A.units+150<cLine):OpR X (compareOp .NotIn) (qL X.K):=by
 intro pins s σ H x y v u Q I rx ry h
 obtain ⟨d,ds,hd,hx,c1,c2,dp,q⟩:=h
 obtain ⟨as,ra⟩:=da I hd rx
 have hm:X.A.units+1+min (PyData.depthAll ds) d.depth<cLine:=by have:=Nat.min_le_right (PyData.depthAll ds) d.depth;omega
 rcases hx with hx | hx
 · obtain ⟨bs,rb⟩:=da I hx ry
   exact PySem.SeqAt.notIn_list_reads rb ra c1 c2 hm ⟨.bl _,H,I,rfl,q⟩
 · obtain ⟨bs,rb⟩:=da I hx ry
   exact PySem.SeqAt.notIn_tuple_reads rb ra c1 c2 hm ⟨.bl _,H,I,rfl,q⟩
def qY (K:W.Frag):R2:=fun y x H Q=>rp y x H Q∨qL K y x H Q
theorem zY (hu:X.A.units+150<cLine):OpR X (compareOp .NotIn) (qY X.K):=(uV (by omega)).or (uf hu)
def gZ:TE:=fun σ H Q=>ul σ H Q∨vm σ H Q
theorem jB:QE X (.Dict [] [] pos) gZ:=⟨fun pins s σ H Q I h=>h.elim (wD pins s σ H Q I) (vK pins s σ H Q I)⟩
theorem vv:bx X (.builtin "len") (fun xs H Q=>∃ p kvs,xs=[.ref p]∧H p=some (.dT kvs)∧Q (.int kvs.length) H):=by
 intro pins s σ H xs us Q I r h
 obtain ⟨a,kvs,rfl,e,q⟩:=h
 obtain ⟨u,rfl,r1⟩:=fH r
 cases r1
 obtain ⟨z,hd,ps,rel,dd⟩:=sO I.hok e
 have hl:ps.length=kvs.length:=(Paired.length rel).symm
 have hT:s.TypeIs (.ref a) "dict" :=dd.typeIs
 obtain ⟨o,es,ep,ho,hc,hdat,he,his,hn⟩:=dd
 have hsz:es.size=kvs.length:=by rw [← hl];have:=congrArg List.length he;simpa using this
 have M:MeetsIn X.prog X.w (Builtin.«dict.__len__» ⟨[.ref a],[]⟩) (fun _ R s=>s.heap.get? a=some o∧R (.ok (.ret (.int kvs.length s.toks))) { s with toks:=s.toks+1 }):=
  .of_wp fun A R s ⟨ho,h⟩=>by
   show wpAny _ _ (dictSize a>>=_) _ _ s
   unfold dictSize
   refine wpAny_bind (wpAny_bind (wpAny_dictEntries ho hdat (wpAny_pure ?_)))
   show wpAny _ _ (Builtin.Dict.pendingCount a>>=_) _ _ s
   refine wpAny_bind (wpAny_pendingCount_other hd ?_)
   refine wpAny_ret_mkInt ?_
   rw [Nat.add_zero,hsz];exact h
 refine Calls.call_function_entry kind_len plain_len entry_len (args_len1 _) ?_
 unfold Builtin.«len»
 refine wpAny_bind (m:=oneArg "len" _) (wpAny_pure ?_)
 refine wpAny_bind (m:=callSpecial? (.ref a) (Str.ofString "__len__")) (wpAny_callSpecial?_slot (name:=Str.ofString "__len__") hT F.slot_dict_len
  (call_meetsIn F.slot_dict_len hT F.entry_dict_len (F.args_dict_len_1 _) M ⟨ho,?_⟩))
 show wpAny _ _ _ _ _ { s with toks:=s.toks+1 }
 refine wpAny_bind (wpAny_holding (wpAny_pure ?_))
 refine wpAny_bind (wpAny_letGo ?_)
 have zz:kvs.length≤sizeLine:=z
 rw [sizeLine_eq] at zz
 show wpAny _ _ (if ((kvs.length:Nat):Int)<0 then _ else _) _ _ _
 rw [if_neg (by omega)]
 show wpAny _ _ (if ((kvs.length:Nat):Int)≥2^63 then _ else _) _ _ _
 rw [if_neg (by omega)]
 exact wpAny_bind (wpAny_mkInt (wpAny_pure ⟨_,rfl,⟨.int kvs.length,H,I.tok _,⟨_,rfl⟩,q⟩⟩))
def cu (K:W.Frag):List V→Hp→VK→Prop:=fun xs H Q=>DS K xs H Q∨∃ p kvs,xs=[.ref p]∧H p=some (.dT kvs)∧Q (.int kvs.length) H
theorem cH:bx X (.builtin "len") (cu X.K):=Io.or vv
def AG (H:Hp) (a:Addr) (y d:V) (r:V) (H':Hp):Prop:=(fN H a y (some r)∧H'=H)∨(fN H a y none∧ym H a y d H'∧r=d)
theorem fm {A:Around} {E:Value→Shared→Prop} {s:Shared} {P:Program} {w:World} {K:Type} [DecidableEq K] {knd:HeapKind P w K} {d a:Addr} {xs:List (K×Addr×Value)} {k:K} {v:Value} {Q:Value→Shared→Prop} (hu:knd.room A) (hkey:knd.is s.heap k a) (hm:s.heap.DictOfH knd d xs)
   (hthere:∀ p,atKey xs k=some p→Q p.2 { s with toks:=s.toks+knd.draws k })
   (hQ:atKey xs k=none→∀ h',h'.DictOfH knd d (storedH xs k a v)→Heap.SameBut d s.heap h'→Q v { s with heap:=h',toks:=s.toks+knd.draws k })
   (hsz:xs.length≤sizeLine):
   wpAny (model P w) A (dictSetDefault d (.ref a) v) Q E s:=by
 obtain ⟨o,es,ep,ho,hc,hd,he,his,hn⟩:=hm
 unfold dictSetDefault
 try with_reducible refine wpAny_holding ?_
 refine wpAny_bind (knd.pyHash hu hkey ?_)
 refine wpAny_bind (wpAny_dictFind_heap (s:={ s with toks:=s.toks+knd.draws k }) hu hkey ho hd he his hn ?_ ?_)
 · intro hno
   have hnot:k∉xs.map (·.1):=not_mem_keys_of_get hno
   refine wpAny_bind (wpAny_rule (wpAny_bind (wpAny_updateDictKeys (hz:=by have e:=size_of_entries he;omega) (s:={ s with toks:=s.toks+knd.draws k }) ho hd (wpAny_pure (hQ (atKey_none_of_get hno) _ ⟨_,_,ep+1,Heap.get?_update_self _ ho (Obj.isFreed_of_dict (Obj.data_mapDictKeys hd _)),
     hc.mapDictKeys _,Obj.data_mapDictKeys hd _,?_,?_,?_⟩ (Heap.SameBut.update ..))))))
   · rw [storedH_new (atKey_none_of_get hno)]
     simp [he,entryOfKey]
   · rw [storedH_new (atKey_none_of_get hno)]
     intro x hx
     rcases List.mem_append.mp hx with hx | hx
     · exact knd.keeps (his x hx) ho hd (Heap.SameBut.update ..)
     · simp only [List.mem_singleton] at hx
       subst hx
       exact knd.keeps hkey ho hd (Heap.SameBut.update ..)
   · rw [storedH_new (atKey_none_of_get hno)]
     rw [List.map_append,List.nodup_append]
     refine ⟨hn,by simp,?_⟩
     intro x hx y hy
     simp only [List.map_cons,List.map_nil,List.mem_singleton] at hy
     subst hy
     exact fun e=>hnot (e▸hx)
 · intro j p hj
   refine wpAny_bind (wpAny_dictEntries (s:={ s with toks:=s.toks+knd.draws k }) ho hd ?_)
   rw [entry_at he j,hj]
   exact wpAny_bind (wpAny_rule (wpAny_pure (hthere p (atKey_of_get hn hj))))
end
theorem pV {h:Heap} {a:Addr} {its:Array Value} (p:PlainL h a its):h.IsList a its:=let ⟨o,n,e,c,_,d⟩:=p;⟨o,e,c,n,d⟩

set_option genInjectivity false in
set_option genSizeOf false in
structure cV where
 qual:Str
 body:FuncBody
 scope:Scope
 ps:List Str
 ys:List Str
def kU (t:cV) (cs:List Addr) (c:Addr) (fd:FuncData):Prop:=
 fd.qualname=t.qual∧fd.body=t.body∧fd.scope=t.scope∧fd.globals=mainGlobals∧fd.closure=t.ys.zip cs∧fd.code=.ref c∧fd.builtins=builtinsNs∧
  (∀ us:List Value,us.length=t.ps.length→bindArgs fd ⟨us,[]⟩=pure (t.ps.zip us))∧cs.Nodup∧cs.length=t.ys.length
def dq (f:Addr) (t:cV) (cs:List Addr) (c:Addr):HO:=.ext fun h=>∃ od fd sl,h.get? f=some ⟨.type "function",od,.func fd,sl⟩∧kU t cs c fd
def cO (c:Addr) (qual:Str):HO:=.ext fun h=>∃ o vs tk,h.get? c=some o∧o.data=.fields vs∧vs[1]?=some (.str qual tk)
def cy (c:Addr) (v:V):HO:=.ext fun h=>∃ u o,aX v u∧h.get? c=some o∧o.data=.cell (some u)
abbrev cC (H:Hp):List Addr→List V→Prop:=Paired fun c v=>H c=some (cy c v)
structure dX (H:Hp) (f:Addr) (t:cV) (cs:List Addr) (cvs:List V):Prop where
 ex:∃ c,H f=some (dq f t cs c)∧H c=some (cO c t.qual)
 cells:cC H cs cvs
theorem cC.mem {H : Hp} {cs : List Addr} {cvs : List V} (h : cC H cs cvs) : ∀ c ∈ cs, ∃ v, H c = some (cy c v) := by
  induction h with
  | nil => intro c hc; cases hc
  | cons r t ih =>
    intro c hc
    rcases List.mem_cons.mp hc with rfl | hc
    · exact ⟨_, r⟩
    · exact ih c hc
theorem cC.get {H : Hp} {cs : List Addr} {cvs : List V} (h : cC H cs cvs) : ∀ {i : Nat} {v : V}, cvs[i]? = some v → ∃ c, cs[i]? = some c ∧ H c = some (cy c v) := by
  induction h with
  | nil => intro i v e; cases e
  | @cons c w cs ws r t ih =>
    intro i v e
    cases i with
    | zero => cases e; exact ⟨c, rfl, r⟩
    | succ i => exact ih e
def cN (cs:List Addr) (H:Hp):Hp:=fun b=>if b∈cs then none else H b
def cw (cs:List Addr) (H H':Hp):Hp:=fun b=>if b∈cs then H b else H' b
theorem gA {cs:List Addr} {H:Hp} {b:Addr} (h:b∈cs):cN cs H b=none:=if_pos h
theorem cQ {cs:List Addr} {H:Hp} {b:Addr} (h:b∉cs):cN cs H b=H b:=if_neg h
theorem iz {cs:List Addr} {H H':Hp} {b:Addr} (h:b∈cs):cw cs H H' b=H b:=if_pos h
theorem cp {cs:List Addr} {H H':Hp} {b:Addr} (h:b∉cs):cw cs H H' b=H' b:=if_neg h
theorem uJ {cs:List Addr} {H H':Hp} {d:Addr} {o:HO} (h:d∉cs):cw cs H (upd H' d o)=upd (cw cs H H') d o:=by
 funext b
 by_cases hb:b∈cs
 · have:b≠d:=fun e=>h (e▸hb)
   rw [iz hb,au this,iz hb]
 · rw [cp hb]
   by_cases e:b=d
   · subst e;rw [aj,aj]
   · rw [au e,au e,cp hb]
theorem cC.notin {H:Hp} {cs:List Addr} {cvs:List V} (h:cC H cs cvs) {b:Addr} {o:HO} (e:H b=some o) (hn:∀ φ,o≠ .ext φ):b∉cs:=fun hb=>by
 obtain ⟨v,ev⟩:=h.mem b hb
 rw [e] at ev
 exact hn _ (Option.some.inj ev)
theorem cC.hide {H:Hp} {cs:List Addr} {cvs:List V} (h:cC H cs cvs) {b:Addr} {o:HO} (e:H b=some o) (hn:∀ φ,o≠ .ext φ):cN cs H b=some o:=by
 rw [cQ (h.notin e hn)];exact e
theorem av.hide {H H':Hp} (cs:List Addr) (s:av (cN cs H) H'):av H (cw cs H H'):=fun b o e=>by
 by_cases hb:b∈cs
 · rw [iz hb];exact e
 · rw [cp hb];exact s _ _ (by rw [cQ hb];exact e)
section
variable {P:Program} {w:World} {fs:List Addr} {H H':Hp} {h h':Heap} {cs:List Addr} {cvs:List V}
theorem Aw (hc:cC H cs cvs) (ok:HOk P w H h):HOk P w (cN cs H) h:=fun b o e=>by
 by_cases hb:b∈cs
 · rw [gA hb] at e;cases e
 · rw [cQ hb] at e
   exact (ok b o e).stay (fun c u _ q=>q) (fun c q=>hc.hide q fun φ z=>nomatch z) fun c xs q=>hc.hide q fun φ z=>nomatch z
theorem qF (hc:cC H cs cvs) (hfs:∀ b∈fs,H b=none) (ok:HOk P w H h) (u:Un fs [] (cN cs H) H' h h') (ok':HOk P w H' h'):Un fs [] H (cw cs H H') h h'∧HOk P w (cw cs H H') h':=by
 have obj:∀ c∈cs,∃ v o,H c=some (cy c v)∧h.get? c=some o∧h'.get? c=some o∧H' c=none:=fun c hm=>by
   obtain ⟨v,ev⟩:=hc.mem c hm
   obtain ⟨_,⟨o,eo⟩,_⟩:=(show aZ P w H h c (cy c v) from ok c _ ev)
   refine ⟨v,o,ev,eo,u.keep c o eo (gA hm) (fun z=>?_) (by simp),u.free c o eo (gA hm) (by simp)⟩
   rw [hfs c z] at ev;cases ev
 have nin:∀ b,H b=none→b∉cs:=fun b e hb=>by
   obtain ⟨v,ev⟩:=hc.mem b hb
   rw [e] at ev;cases ev
 have nin':∀ b o,H' b=some o→b∉cs:=fun b o e hb=>by
   obtain ⟨_,_,_,_,_,z⟩:=obj b hb
   rw [e] at z;cases z
 refine ⟨⟨fun b o e n hb hx=>u.keep b o e (by rw [cQ (nin b n)];exact n) hb hx,fun b o e n hb hx=>u.slot b o e (by rw [cQ (nin b n)];exact n) hb hx,
   fun b o e n hx=>by rw [cp (nin b n)];exact u.free b o e (by rw [cQ (nin b n)];exact n) hx,u.there,fun b xs e=>?_,fun b o v e=>?_,fun b ps e=>?_⟩,fun b o e=>?_⟩
 · have hb:=hc.notin e fun φ z=>nomatch z
   rw [cp hb];exact u.tups b xs (by rw [cQ hb];exact e)
 · have hb:=hc.notin e fun φ z=>nomatch z
   rw [cp hb];exact u.frzs b o v (by rw [cQ hb];exact e)
 · have hb:=hc.notin e fun φ z=>nomatch z
   rw [cp hb];exact u.tbls b ps (by rw [cQ hb];exact e)
 · by_cases hb:b∈cs
   · rw [iz hb] at e
     obtain ⟨v,o',ev,e1,e2,_⟩:=obj b hb
     rw [e] at ev;cases ev
     obtain ⟨φ1,_,φ3⟩:=(show aZ P w H h b (cy b v) from ok b _ e)
     exact ⟨φ3 h h' φ1 fun q hq=>by rw [e1] at hq;cases hq;exact e2,⟨o',e2⟩,φ3⟩
   · rw [cp hb] at e
     exact (ok' b o e).stay (fun c u _ q=>q) (fun c q=>by rw [cp (nin' c _ q)];exact q) fun c xs q=>by rw [cp (nin' c _ q)];exact q
theorem CR.back {outer : List Env} {s s' : Shared} {Q : VK} {E : XK} {r : Result} (hc : cC H cs cvs) (hfs : ∀ b ∈ frs outer, H b = none) (ok : HOk P w H s.heap)
    (h : CR (CX1 P w) outer P w (cN cs H) s (fun v H' => Q v (cw cs H H')) (fun c a H' => E c a (cw cs H H')) r s') : CR (CX1 P w) outer P w H s Q E r s' := by
  cases r with
  | error e =>
    obtain ⟨a, C, d, H', rfl, F, q⟩ := h
    obtain ⟨u, k⟩ := qF hc hfs ok F.un F.hok
    have na : a ∉ cs := fun hb => by
      obtain ⟨v, ev⟩ := hc.mem a hb
      obtain ⟨_, ⟨o, eo⟩, _⟩ := (show aZ P w H s.heap a (cy a v) from ok a _ ev)
      rw [F.new] at eo; cases eo
    obtain ⟨oe, vs, a0, T, oT, ts, t1, t2, td, t3, t4, t5, t6, t7, t8, t9, t10, t11⟩ := F.tr
    have nT : T ∉ cs := fun hb => by
      obtain ⟨v, ev⟩ := hc.mem T hb
      obtain ⟨_, ⟨o, eo⟩, _⟩ := (show aZ P w H s.heap T (cy T v) from ok T _ ev)
      rw [t10] at eo; cases eo
    exact ⟨a, C, d, _, rfl, ⟨F.os, F.bare, u, k, F.new, by rw [cp na]; exact F.free, ⟨oe, vs, a0, T, oT, ts, t1, t2, td, t3, t4, t5, t6, t7, t8, t9, t10, by rw [cp nT]; exact t11⟩⟩, q⟩
  | ok fl =>
    cases fl with
    | ret u =>
      obtain ⟨v, H', os, bare, un, hok, rv, q⟩ := h
      obtain ⟨u', k⟩ := qF hc hfs ok un hok
      exact ⟨v, _, os, bare, u', k, rv, q⟩
    | next => exact False.elim h
    | brk => exact False.elim h
    | cont => exact False.elim h
end
structure fF (P:Program) (w:World) (K:W.Frag) (mg:Str→Option Value) (base:Heap) (k:Nat) (t:cV) (sp:Sp):Prop where
 run:∀ (A:Around) (outer:List Env) (s:Shared) (H:Hp) (f:Addr) (cs:List Addr) (us:List Value) (vs cvs:List V) (Q:VK) (E:XK),be k A→iA P w K mg base A outer s H→dX H f t cs cvs→bc vs us→vs.length=t.ps.length→
  sp (vs++cvs) (cN cs H) (fun v H'=>Q v (cw cs H H')) (fun c a H'=>E c a (cw cs H H'))→codeAny (model P w) A (.call (.ref f) ⟨us,[]⟩) (CR (CX1 P w) outer P w H s Q E) s
def eh (N:List Str) (vs cvs:List V):St:=vs.map some++(List.replicate (N.length - vs.length - cvs.length) none++cvs.map some)
def gF (P:Program) (w:World) (K:W.Frag) (mg:Str→Option Value) (base:Heap) (N:List Str) (qual:Str) (scope:Scope) (f c:Addr) (cl:List (Str×Addr)) (A:Around) (outer:List Env) (s:Shared) (H:Hp) (E:XK):Cx where
 prog:=P
 w:=w
 K:=K
 mg:=mg
 base:=base
 A:=A.deeper (W.envX qual scope s.heap.objs.size f (.ref c) cl)
 N:=N
 s₀:=s
 H₀:=H
 env:=W.envX qual scope s.heap.objs.size f (.ref c) cl
 outer:=outer
 stack:=W.envX qual scope s.heap.objs.size f (.ref c) cl::outer
 ex:=[]
 calm:=true
 fn:=fun _=>false
 pn:=[]
 xe:=fun e s'=>wpAny (model P w) (A.deeper (W.envX qual scope s.heap.objs.size f (.ref c) cl)) (leaving (W.envX qual scope s.heap.objs.size f (.ref c) cl) e) (fun _ s''=>CX1 P w outer H s E e s'') (fun e' s''=>CX1 P w outer H s E e' s'') s'
structure eW (N ps ys:List Str) (sc:Scope):Prop where
 kind:sc.kind=.function
 co:sc.isCoroutine=false
 gen:sc.isGenerator=false
 nd:N.Nodup
 pre:N.take ps.length=ps
 suf:N.drop (N.length - ys.length)=ys
 le:ps.length+ys.length≤N.length
 par:∀ x∈ps,sc.names.lookup x=some .local
 nocell:∀ x∈sc.names,x.2≠ .cell
 fr:∀ x∈ys,sc.names.lookup x=some .free
 frs:∀ y∈sc.names,y.2=.free→y.1∈ys
theorem lA {ys : List Str} {cs : List Addr} (hl : cs.length = ys.length) (nd : ys.Nodup) : ∀ {i : Nat} {y : Str} {c : Addr}, ys[i]? = some y → cs[i]? = some c → (ys.zip cs).lookup y = some c := by
  induction ys generalizing cs with
  | nil => intro i y c e; cases e
  | cons a r ih =>
    intro i y c e1 e2
    cases cs with
    | nil => cases e2
    | cons b cs =>
      cases i with
      | zero => cases e1; cases e2; show (List.lookup _ ((_, _) :: _)) = _; rw [List.lookup_cons]; simp
      | succ i =>
        have hne : y ≠ a := fun e => (List.nodup_cons.mp nd).1 (e ▸ List.mem_of_getElem? (show r[i]? = some y from e1))
        show (List.lookup y ((a, b) :: r.zip cs)) = _
        rw [List.lookup_cons, show (y == a) = false from by simpa using hne]
        exact ih (by simpa using hl) (List.nodup_cons.mp nd).2 (show r[i]? = some y from e1) (show cs[i]? = some c from e2)
theorem fQ {ys : List Str} {cs : List Addr} : ∀ {y : Str} {c : Addr}, (ys.zip cs).lookup y = some c → ∃ i : Nat, ys[i]? = some y ∧ cs[i]? = some c := by
  induction ys generalizing cs with
  | nil => intro y c e; cases e
  | cons a r ih =>
    intro y c e
    cases cs with
    | nil => cases e
    | cons b cs =>
      have e : (List.lookup y ((a, b) :: r.zip cs)) = some c := e
      rw [List.lookup_cons] at e
      by_cases hy : (y == a) = true
      · rw [hy] at e; cases e; exact ⟨0, by simpa using (eq_of_beq hy).symm, rfl⟩
      · rw [show (y == a) = false from by simpa using hy] at e
        obtain ⟨i, h1, h2⟩ := ih e
        exact ⟨i + 1, h1, h2⟩
theorem ma {ps : List Str} {us : List Value} (nd : ps.Nodup) : ∀ {i : Nat} {x : Str} {u : Value}, ps[i]? = some x → us[i]? = some u → (ps.zip us).reverse.lookup x = some u := by
  induction ps generalizing us with
  | nil => intro i x u e; cases e
  | cons a r ih =>
    intro i x u e1 e2
    cases us with
    | nil => cases e2
    | cons b us =>
      show (List.lookup x ((a, b) :: r.zip us).reverse) = _
      rw [List.reverse_cons, List.lookup_append]
      cases i with
      | zero =>
        cases e1; cases e2
        have : (r.zip us).reverse.lookup a = none := by
          rw [List.lookup_eq_none_iff]
          intro p hp
          have := (List.of_mem_zip (List.mem_reverse.mp hp)).1
          simp only [beq_eq_false_iff_ne, ne_eq, bne_iff_ne]
          intro e
          exact (List.nodup_cons.mp nd).1 (by rw [← e] at this; exact this)
        rw [this]; simp
      | succ i =>
        rw [ih (List.nodup_cons.mp nd).2 (show r[i]? = some x from e1) (show us[i]? = some u from e2)]; rfl
section
variable {P:Program} {w:World} {K:W.Frag} {mg:Str→Option Value} {base:Heap} {N ps ys:List Str} {qual:Str} {scope:Scope} {f c:Addr} {A:Around} {outer:List Env} {s:Shared} {H:Hp} {E:XK} {us:List Value} {vs cvs:List V} {cs:List Addr} {h1:Heap} {tk:Nat}
theorem rA (S:eW N ps ys scope) (hd:A.handled=none) (e0:iA P w K mg base A outer s H) (ca:cC H cs cvs) (hcs:cs.Nodup) (hcl:cs.length=ys.length) (hl:vs.length=ps.length) (r:bc vs us)
   (hns:h1.Ns s.heap.objs.size (fun x=>(ps.zip us).reverse.lookup x)) (hk:∀ b o,s.heap.get? b=some o→h1.get? b=some o):
   Inv (gF P w K mg base N qual scope f c (ys.zip cs) A outer s (cN cs H) E) [] (eh N vs cvs) (cN cs H) { s with heap:=h1,toks:=tk }:=by
 have ndY:ys.Nodup:=by rw [← S.suf];exact S.nd.sublist (List.drop_sublist _ _)
 have ndP:ps.Nodup:=by rw [← S.pre];exact S.nd.sublist (List.take_sublist _ _)
 have lcv:cvs.length=ys.length:=by rw [← hcl];exact (Paired.length ca).symm
 have cellOf:∀ c∈cs,∃ v,h1.IsCell c v:=fun c hm=>by
   obtain ⟨v,ev⟩:=ca.mem c hm
   obtain ⟨⟨u,o,_,eo,hd⟩,_,_⟩:=(show aZ P w H s.heap c (cy c v) from e0.hok c _ ev)
   exact ⟨_,o,hk _ _ eo,hd⟩
 have memC:∀ x c,(ys.zip cs).lookup x=some c→c∈cs:=fun x c e=>by
   obtain ⟨i,_,e2⟩:=fQ e
   exact List.mem_of_getElem? e2
 have noA:∀ b:Addr,b∉(gF P w K mg base N qual scope f c (ys.zip cs) A outer s (cN cs H) E).ex:=fun b z=>absurd (show b∈([]:List Addr) from z) (by simp)
 have hid:∀ b,H b=none→cN cs H b=none:=fun b e=>by
   by_cases hb:b∈cs
   · exact gA hb
   · rw [cQ hb];exact e
 refine ⟨⟨e0.mod,S.kind,rfl,rfl,Nat.le_refl _,fun y z c h1 h2=>?_,fun y hy=>?_,fun y c hf _=>?_,fun _=>hd,Around.frames_deeper e0.frames,.inr ⟨rfl,rfl⟩,fun b z=>absurd z (noA b),fun b o e=>⟨(e0.bs b o e).1,hid b (e0.bs b o e).2⟩,e0.bsz,fun b _ _=>noA b,fun b z=>absurd z (noA b),e0.funs,fun b hb=>hid b (e0.frf b hb)⟩,
   rfl,e0.bare,Un.kept hk,⟨_,hns,fun i y v q1 q2 q3=>?_⟩,fun y c h=>cellOf c (memC y c h),hid _ (e0.hok.fresh (Nat.le_refl _)),fun y c h=>gA (memC y c h),fun p hp=>absurd (show p∈([]:List (Addr×Obj)) from hp) (by simp),(Aw ca e0.hok).kept hk,?_⟩
 · obtain ⟨i,e1,e2⟩:=fQ (show (ys.zip cs).lookup y=some c from h1)
   obtain ⟨j,e3,e4⟩:=fQ (show (ys.zip cs).lookup z=some c from h2)
   have:i=j:=by
     obtain ⟨a1,b1⟩:=List.getElem?_eq_some_iff.mp e2
     obtain ⟨a2,b2⟩:=List.getElem?_eq_some_iff.mp e4
     exact (List.getElem_inj hcs).mp (b1.trans b2.symm)
   subst this
   rw [e1] at e3;exact Option.some.inj e3
 · have hy:scope.names.lookup y=some .cell∨scope.names.lookup y=some .free:=hy
   rcases hy with hy | hy
   · exact absurd rfl (S.nocell _ (PySem.mem_of_lookup hy))
   · obtain ⟨i,hi,e⟩:=List.mem_iff_getElem.mp (S.frs _ (PySem.mem_of_lookup hy) rfl)
     have hi2:i<cs.length:=by omega
     exact ⟨cs[i],lA hcl ndY (List.getElem?_eq_some_iff.mpr ⟨hi,e⟩) (List.getElem?_eq_getElem hi2)⟩
 · exact absurd (show false=true from hf) Bool.false_ne_true
 · unfold eh at q2
   by_cases hi:i<vs.length
   · rw [List.getElem?_append_left (by simpa using hi),List.getElem?_map] at q2
     have ha:vs[i]?=some v:=by
       cases e:vs[i]? with
       | none=>rw [e] at q2;cases q2
       | some a=>rw [e] at q2;cases q2;rfl
     obtain ⟨u,hu,rv⟩:=r.get ha
     have hp:ps[i]?=some y:=by
       rw [← S.pre,List.getElem?_take_of_lt (by omega)];exact q1
     exact ⟨u,rv,.inl ⟨S.par y (List.mem_of_getElem? hp),ma ndP hp hu⟩⟩
   · rw [List.getElem?_append_right (by simpa using hi),List.length_map] at q2
     by_cases hj:i - vs.length<N.length - vs.length - cvs.length
     · rw [List.getElem?_append_left (by simpa using hj),List.getElem?_replicate] at q2
       split at q2 <;> cases q2
     · rw [List.getElem?_append_right (by simpa using hj),List.length_replicate,List.getElem?_map] at q2
       have ha:cvs[i - vs.length - (N.length - vs.length - cvs.length)]?=some v:=by
        cases e:cvs[i - vs.length - (N.length - vs.length - cvs.length)]? with
        | none=>rw [e] at q2;cases q2
        | some a=>rw [e] at q2;cases q2;rfl
       have hle:=S.le
       have hiN:i<N.length:=(List.getElem?_eq_some_iff.mp q1).1
       have hx:i - vs.length - (N.length - vs.length - cvs.length)=i - (N.length - ys.length):=by omega
       rw [hx] at ha
       have hy:ys[i - (N.length - ys.length)]?=some y:=by
        have e1:N.drop (N.length - ys.length)=ys:=S.suf
        have e2:(N.drop (N.length - ys.length))[i - (N.length - ys.length)]?=some y:=by
         rw [List.getElem?_drop]
         rw [show N.length - ys.length+(i - (N.length - ys.length))=i by omega];exact q1
        rw [e1] at e2;exact e2
       obtain ⟨c,ec,hc⟩:=ca.get ha
       obtain ⟨⟨u,o,ru,eo,hdo⟩,_,_⟩:=(show aZ P w H s.heap c (cy c v) from e0.hok c _ hc)
       exact ⟨u,ru,.inr ⟨.inr (S.fr y (List.mem_of_getElem? hy)),c,lA hcl ndY hy ec,o,hk _ _ eo,hdo⟩⟩
 · unfold eh
   show _=N.length
   have:=S.le
   rw [List.length_append,List.length_append,List.length_map,List.length_map,List.length_replicate]
   omega
end
section
variable {P:Program} {w:World} {K:W.Frag} {mg:Str→Option Value} {base:Heap} {k:Nat} {t:cV} {N:List Str} {sp:Sp}
theorem uM {body : List Stmt} (hb : t.body = .stmts body) (S : eW N t.ps t.ys t.scope)
    (hbody : ∀ (f c : Addr) (cl : List (Str × Addr)) (A : Around) (outer : List Env) (s : Shared) (H : Hp) (vs cvs : List V) (Q : VK) (E : XK), be k (A.deeper (W.envX t.qual t.scope s.heap.objs.size f (.ref c) cl)) → vs.length = t.ps.length → cvs.length = t.ys.length → sp (vs ++ cvs) H Q E →
      ∃ td, PSs (gF P w K mg base N t.qual t.scope f c cl A outer s H E) body td ∧ td { nx := fun _ H' => Q .non H', rt := Q } (eh N vs cvs) H) : fF P w K mg base (k + 1) t sp := by
  refine ⟨fun A outer s H f cs us vs cvs Q E hr e0 ca r hl hsp => ?_⟩
  obtain ⟨c, hf, hcc⟩ := ca.ex
  have KX : K.In s.heap := e0.mod.kin.keeps fun b o e => (e0.bs b o e).1
  have lim : s.heap.NoLimit := e0.mod.nolimit.keeps fun b o e => (e0.bs b o e).1
  obtain ⟨⟨od, fd, sl, ho, h1, h2, h3, h4, h5, h6, h7, h8, h9, h10⟩, _, _⟩ := (show aZ P w H s.heap f (dq f t cs c) from e0.hok f _ hf)
  obtain ⟨⟨o, vs', tk, hco, hdo, hv⟩, _, _⟩ := (show aZ P w H s.heap c (cO c t.qual) from e0.hok c _ hcc)
  have hcd : s.heap.CodeRec fd.code fd.qualname := ⟨c, o, vs', tk, h6, hco, hdo, by rw [h1]; exact hv⟩
  refine codeAny_mono (codeAny_call_function (R := CR (CX1 P w) outer P w (cN cs H) s (fun v H' => Q v (cw cs H H')) (fun c a H' => E c a (cw cs H H'))) hr.depth ho rfl (by rw [h3]; exact S.co) (by rw [h3]; exact S.gen) (h2.trans hb) hcd ?_) fun r s' h => CR.back ca.cells e0.frf e0.hok h
  rw [h8 us (by rw [← r.length]; exact hl), h3, h4, h5, h1, h6, h7]
  refine wpAny_pure (wpAny_newFunctionEnv S.nocell (fun y hy => S.par y.1 (List.of_mem_zip hy).1) (fun h' hns hsb => ⟨lim.fresh _ hsb, ?_⟩) S.kind)
  have hk : ∀ b o, s.heap.get? b = some o → h'.get? b = some o := fun b o e => hsb.extBut b o (Nat.ne_of_lt (Heap.lt_size e)) (Heap.get?_push_of_some _ e)
  have lcv : cvs.length = t.ys.length := by rw [← h10]; exact (Paired.length ca.cells).symm
  obtain ⟨td, ht, hq⟩ := hbody f c (t.ys.zip cs) A outer s (cN cs H) vs cvs _ _ (hr.deeper _) hl lcv hsp
  have I := rA (tk := s.toks + (t.ps.zip us).length) (qual := t.qual) (f := f) (c := c) (E := fun c a H' => E c a (cw cs H H')) S hr.hd e0 ca.cells h9 h10 hl r hns hk
  show codeAny _ _ (.func body (W.envX t.qual t.scope s.heap.objs.size f (.ref c) (t.ys.zip cs))) _ _
  refine codeAny_func ?_
  refine wpAny_mono (ht [] _ (eh N vs cvs) _ _ I hq) (fun fl s' hs => ?_) fun e s' hs => hs
  cases fl with
  | ret u =>
    obtain ⟨v, σ', H', J, rv, q⟩ := hs
    exact ⟨v, H', J.os, J.bare, J.base, J.hok, rv, q⟩
  | next =>
    obtain ⟨σ', H', J, q⟩ := hs
    exact ⟨V.non, H', J.os, J.bare, J.base, J.hok, rfl, q⟩
  | brk =>
    obtain ⟨_, _, _, q⟩ := hs
    exact False.elim q
  | cont =>
    obtain ⟨_, _, _, q⟩ := hs
    exact False.elim q
theorem qO {body : Expr} (hb : t.body = .expr body) (S : eW N t.ps t.ys t.scope)
  (hbody : ∀ (f c : Addr) (cl : List (Str × Addr)) (A : Around) (outer : List Env) (s : Shared) (H : Hp) (vs cvs : List V) (Q : VK) (E : XK), be k (A.deeper (W.envX t.qual t.scope s.heap.objs.size f (.ref c) cl)) → vs.length = t.ps.length → cvs.length = t.ys.length → sp (vs ++ cvs) H Q E →
   ∃ te, PE (gF P w K mg base N t.qual t.scope f c cl A outer s H E) body te ∧ te (eh N vs cvs) H Q) : fF P w K mg base (k + 1) t sp := by
 refine ⟨fun A outer s H f cs us vs cvs Q E hr e0 ca r hl hsp => ?_⟩
 obtain ⟨c, hf, hcc⟩ := ca.ex
 have KX : K.In s.heap := e0.mod.kin.keeps fun b o e => (e0.bs b o e).1
 have lim : s.heap.NoLimit := e0.mod.nolimit.keeps fun b o e => (e0.bs b o e).1
 obtain ⟨⟨od, fd, sl, ho, h1, h2, h3, h4, h5, h6, h7, h8, h9, h10⟩, _, _⟩ := (show aZ P w H s.heap f (dq f t cs c) from e0.hok f _ hf)
 obtain ⟨⟨o, vs', tk, hco, hdo, hv⟩, _, _⟩ := (show aZ P w H s.heap c (cO c t.qual) from e0.hok c _ hcc)
 have hcd : s.heap.CodeRec fd.code fd.qualname := ⟨c, o, vs', tk, h6, hco, hdo, by rw [h1]; exact hv⟩
 refine codeAny_mono (W.kla_callFunE (R := CR (CX1 P w) outer P w (cN cs H) s (fun v H' => Q v (cw cs H H')) (fun c a H' => E c a (cw cs H H'))) hr.depth ho rfl (by rw [h3]; exact S.co) (by rw [h3]; exact S.gen) (h2.trans hb) hcd ?_) fun r s' h => CR.back ca.cells e0.frf e0.hok h
 rw [h8 us (by rw [← r.length]; exact hl), h3, h4, h5, h1, h6, h7]
 refine wpAny_pure (wpAny_newFunctionEnv S.nocell (fun y hy => S.par y.1 (List.of_mem_zip hy).1) (fun h' hns hsb => ⟨lim.fresh _ hsb, ?_⟩) S.kind)
 have hk : ∀ b o, s.heap.get? b = some o → h'.get? b = some o := fun b o e => hsb.extBut b o (Nat.ne_of_lt (Heap.lt_size e)) (Heap.get?_push_of_some _ e)
 have lcv : cvs.length = t.ys.length := by rw [← h10]; exact (Paired.length ca.cells).symm
 obtain ⟨te, ht, hq⟩ := hbody f c (t.ys.zip cs) A outer s (cN cs H) vs cvs _ _ (hr.deeper _) hl lcv hsp
 have I := rA (tk := s.toks + (t.ps.zip us).length) (qual := t.qual) (f := f) (c := c) (E := fun c a H' => E c a (cw cs H H')) S hr.hd e0 ca.cells h9 h10 hl r hns hk
 show codeAny _ _ (.expr body (W.envX t.qual t.scope s.heap.objs.size f (.ref c) (t.ys.zip cs))) _ _
 refine W.kla_codeExpr ?_
 refine wpAny_mono (ht [] _ (eh N vs cvs) _ _ I hq) (fun v s' hs => ?_) fun e s' hs => hs
 obtain ⟨x, H', J, rv, q⟩ := hs
 exact ⟨x, H', J.os, J.bare, J.base, J.hok, rv, q⟩
end
def BM (mg:Str→Option Value) (h:Heap):Prop:=∃ bm ob,mg "__builtins__" =some (.ref bm)∧bm≠builtinsNs∧h.get? bm=some ob∧ob.cls=.type "module" ∧ob.dict=some builtinsNs∧ob.data=.plain
section
variable {X:Cx} {pins:List (Addr×Obj)} {σ:St} {H:Hp} {s:Shared} {P c:Addr} {ps:Array Value} {t:cV} {cs:List Addr} {h':Heap} {tk:Nat} {fd:FuncData}
theorem pM {more:Array Value} (I:Inv X pins σ H s) (hP:H P=some (.tbl ps)) (hx:Heap.ExtBut P s.heap h') (hge:s.heap.objs.size≤c) (hlt:c<h'.objs.size) (hrec:h'.CodeRec (.ref c) t.qual)
   (htb:h'.get? P=some (W.tabObj (ps++more))) (hfd:kU t cs c fd):
   Inv X pins σ (upd (upd (upd H P (.tbl (ps++more))) c (cO c t.qual)) h'.objs.size (dq h'.objs.size t cs c)) { s with heap:=h'.push { cls:=.type "function",data:=.func fd },toks:=tk }:=by
 have hcn:H c=none:=I.hok.fresh hge
 have hfn:H h'.objs.size=none:=I.hok.fresh (Nat.le_of_lt (Nat.lt_of_le_of_lt hge hlt))
 have ncP:c≠P:=(aD hP hcn).symm
 have nfP:h'.objs.size≠P:=(aD hP hfn).symm
 have ncf:c≠h'.objs.size:=Nat.ne_of_lt hlt
 have old:∀ b o,s.heap.get? b=some o→b≠c∧b≠h'.objs.size:=fun b o e=>⟨Nat.ne_of_lt (Nat.lt_of_lt_of_le (Heap.lt_size e) hge),Nat.ne_of_lt (Nat.lt_of_lt_of_le (Heap.lt_size e) (Nat.le_of_lt (Nat.lt_of_le_of_lt hge hlt)))⟩
 have keepP:∀ b o,b≠P→s.heap.get? b=some o→(h'.push { cls:=.type "function",data:=.func fd }).get? b=some o:=fun b o hb e=>Heap.get?_push_of_some _ (hx b o hb e)
 have neP:∀ b,H b=none→b≠P:=fun b e z=>by rw [z,hP] at e;cases e
 have obj:∀ b o,H b=some o→∃ u,s.heap.get? b=some u:=fun b o e=>ii (I.hok b o e)
 have same:∀ b o,H b=some o→b≠P→(upd (upd (upd H P (.tbl (ps++more))) c (cO c t.qual)) h'.objs.size (dq h'.objs.size t cs c)) b=some o:=fun b o e hb=>by
   rw [au (aD e hfn),au (aD e hcn),au hb];exact e
 refine I.un ⟨fun b o e n hb hx'=>keepP b o (neP b n) e,fun b o e n hb hx'=>⟨o.slots,keepP b o (neP b n) e⟩,fun b o e n hx'=>?_,fun b o e hx'=>?_,fun b xs e=>same b _ e (dR e hP (fun z=>nomatch z)),fun b o u e=>same b _ e (dR e hP (fun z=>nomatch z)),fun b qs e=>?_⟩ fun b o e=>?_
 · rw [au (old b o e).2,au (old b o e).1,au (neP b n)];exact n
 · by_cases hb:b=P
   · subst hb;exact ⟨_,Heap.get?_push_of_some _ htb⟩
   · exact ⟨o,keepP b o hb e⟩
 · by_cases hb:b=P
   · subst hb
     rw [hP] at e;cases e
     exact ⟨more,by rw [au nfP.symm,au ncP.symm,aj]⟩
   · exact ⟨#[],by rw [same b _ e hb];simp⟩
 · by_cases hf:b=h'.objs.size
   · subst hf
     rw [aj] at e;cases e
     refine ⟨⟨_,fd,_,Heap.get?_push_size _ rfl,hfd⟩,⟨_,Heap.get?_push_size _ rfl⟩,?_⟩
     rintro h1 h2 ⟨od,fd',sl,e1,e2⟩ k
     exact ⟨od,fd',sl,k _ e1,e2⟩
   · rw [au hf] at e
     by_cases hc:b=c
     · subst hc
       rw [aj] at e;cases e
       obtain ⟨c2,oc,vs,tq,e0,e1,e2,e3⟩:=hrec
       cases e0
       refine ⟨⟨oc,vs,tq,Heap.get?_push_of_some _ e1,e2,e3⟩,⟨_,Heap.get?_push_of_some _ e1⟩,?_⟩
       rintro h1 h2 ⟨o,vs,tk,a1,a2,a3⟩ k
       exact ⟨o,vs,tk,k _ a1,a2,a3⟩
     · rw [au hc] at e
       by_cases hp:b=P
       · subst hp
         rw [aj] at e;cases e
         exact Heap.get?_push_of_some _ htb
       · rw [au hp] at e
         refine (I.hok b o e).stay (fun a u ha q=>keepP a u ?_ q) (fun a q=>same a _ q (dR q hP (fun z=>nomatch z))) fun a xs q=>same a _ q (dR q hP (fun z=>nomatch z))
         rcases ha with rfl | ha
         · exact hp
         · exact dR ha hP (fun z=>nomatch z)
theorem pN (I:Inv X pins σ H s) (hk:∀ b o,s.heap.get? b=some o→h'.get? b=some o) (hsz:s.heap.objs.size≤h'.objs.size) (hfd:kU t cs c fd):
  Inv X pins σ (upd H h'.objs.size (dq h'.objs.size t cs c)) { s with heap:=h'.push { cls:=.type "function",data:=.func fd },toks:=tk }:=by
 refine I.laid (a:=h'.objs.size) (o:=dq h'.objs.size t cs c) (fun b u e=>Heap.get?_push_of_some _ (hk b u e)) hsz ⟨⟨_,fd,_,Heap.get?_push_size _ rfl,hfd⟩,⟨_,Heap.get?_push_size _ rfl⟩,?_⟩
 rintro h1 h2 ⟨od,fd',sl,e1,e2⟩ k
 exact ⟨od,fd',sl,k _ e1,e2⟩
end
def lO (P : Addr) (pos : Pos) (t : cV) (cs : List Addr) : TE := fun _ H Q => ∃ ps, H P = some (.tbl ps) ∧ TriplesOk ps.toList ∧
  ((codeAmong pos ps.toList = none ∧ ∀ c f, H c = none → H f = none → c ≠ f → Q (.ref f) (upd (upd (upd H P (.tbl (ps ++ #[rawInt pos.line, rawInt pos.col, .ref c]))) c (cO c t.qual)) f (dq f t cs c))) ∨
   ∃ c, codeAmong pos ps.toList = some (.ref c) ∧ ∀ f, H f = none → Q (.ref f) (upd H f (dq f t cs c)))
section
variable {X:Cx} {c0 P:Addr} {params:Arguments} {scope:Scope} {pos:Pos} {t:cV} {cs:List Addr}
theorem rq {pins:List (Addr×Obj)} {σ:St} {H:Hp} {s:Shared} {ps:Array Value} (I:Inv X pins σ H s) (hP:H P=some (.tbl ps)) (B:BM X.mg X.base):
   s.heap.get? P=some (W.tabObj ps)∧s.heap.Ns mainGlobals X.mg∧mainGlobals≠P∧s.heap.BuiltinsAt X.mg P:=by
 have hPo:s.heap.get? P=some (W.tabObj ps):=I.hok P _ hP
 have hg:s.heap.Ns mainGlobals X.mg:=I.mod.glob.keeps I.bk
 have hgP:mainGlobals≠P:=fun q=>by
   obtain ⟨o,es,ep,e,hd,_⟩:=hg
   rw [q,hPo] at e;cases e;cases hd
 obtain ⟨bm,ob,b1,b2,b3,b4,b5,b6⟩:=B
 have b3':=I.bk _ _ b3
 refine ⟨hPo,hg,hgP,bm,ob,b1,b2,fun q=>?_,fun q=>?_,b3',b4,b5,b6⟩
 · obtain ⟨o,es,ep,e,hd,_⟩:=hg
   rw [q,e] at b3';cases b3';rw [hd] at b6;cases b6
 · rw [q,hPo] at b3';cases b3';cases b4
theorem yW {body:Expr} (B:BM X.mg X.base) (C:W.CodeHd X.base c0 P) (hcode:X.env.code=.ref c0) (hcl:closureFor scope X.env=pure (t.ys.zip cs)) (nd:cs.Nodup) (hl:cs.length=t.ys.length)
   (hq:X.env.qual++ "<lambda>" =t.qual) (hb:t.body=.expr body) (hs:t.scope=scope)
   (hbind:∀ (cl:List (Str×Addr)) (pm cdv ct:Value) (us:List Value),us.length=t.ps.length→bindArgs (W.kla_fn "<lambda>" t.qual params body scope cl pm cdv ct) ⟨us,[]⟩=pure (t.ps.zip us))
   (hdef:defaultsOf params X.env=([],[]):=by rfl):QE X (.Lambda params body scope pos) (lO P pos t cs):=⟨fun pins s σ H Q I h=>by
 obtain ⟨ps,hP,ht,h⟩:=h
 obtain ⟨hPo,hg,hgP,hB⟩:=rq I hP B
 have hfd:∀ (pm ct:Value) (c:Addr),kU t cs c (W.kla_fn "<lambda>" t.qual params body scope (t.ys.zip cs) pm (.ref c) ct):=fun pm ct c=>⟨rfl,hb.symm,hs.symm,rfl,rfl,rfl,rfl,hbind _ _ _ _,nd,hl⟩
 refine W.kla_eval hdef ?_
 rw [hq]
 rcases h with ⟨hn,q⟩ | ⟨c,hf,q⟩
 · refine W.kla_makeFunction hcl I.ok.glob hg hcode (C.keeps I.bk) hPo ht hn hgP hB fun c ctv h' tk hx hge hlt hrec htb=>?_
   exact ⟨.ref h'.objs.size,_,pM I hP hx hge hlt hrec htb (hfd _ _ _),rfl,q c h'.objs.size (I.hok.fresh hge) (I.hok.fresh (Nat.le_of_lt (Nat.lt_of_le_of_lt hge hlt))) (Nat.ne_of_lt hlt)⟩
 · refine W.kla_makeFunctionHit hcl I.ok.glob hg hcode (C.keeps I.bk) hPo ht hf hB fun ctv h' tk hk hsz=>?_
   exact ⟨.ref h'.objs.size,_,pN I hk hsz (hfd _ _ _),rfl,q h'.objs.size (I.hok.fresh hsz)⟩⟩
theorem yR (i:Nat) {name:Str} {body:List Stmt} (hN:X.N.Nodup) (B:BM X.mg X.base) (C:W.CodeHd X.base c0 P) (hcode:X.env.code=.ref c0) (hcl:closureFor scope X.env=pure (t.ys.zip cs)) (nd:cs.Nodup) (hl:cs.length=t.ys.length)
   (hq:qualnameIn X.env name name=t.qual) (hb:t.body=.stmts body) (hs:t.scope=scope)
   (hbind:∀ (cl:List (Str×Addr)) (doc pm cdv ct:Value) (us:List Value),us.length=t.ps.length→bindArgs (W.fnX name t.qual params body scope cl .none .none doc pm none cdv ct) ⟨us,[]⟩=pure (t.ps.zip us))
   (hi:X.N[i]?=some name:=by rfl) (hx:Loc X.env.scope name:=by first | exact .inl rfl | exact .inr rfl) (hf:X.fn name=true∨X.env.scope.names.lookup name=some .local:=by first | exact .inl rfl | exact .inr rfl)
   (hd0:params.defaults=[]:=by rfl) (hk0:params.kw_defaults=[]:=by rfl) (ha:annTrees params none X.env=[]:=by rfl):
   QS X (.FunctionDef name params body [] none [] scope none name pos) (aH (lO P pos t cs) (ax i)):=⟨fun pins s σ H D I h=>by
 obtain ⟨ps,hP,ht,h⟩:=h
 obtain ⟨hPo,hg,hgP,hB⟩:=rq I hP B
 have hfd:∀ (doc pm ct:Value) (c:Addr),kU t cs c (W.fnX name t.qual params body scope (t.ys.zip cs) .none .none doc pm none (.ref c) ct):=fun doc pm ct c=>⟨rfl,hb.symm,hs.symm,rfl,rfl,rfl,rfl,hbind _ _ _ _ _,nd,hl⟩
 refine W.nestDef_K hd0 hk0 ha ?_
 rw [hq]
 rcases h with ⟨hn,q⟩ | ⟨c,hff,q⟩
 · refine W.makeFunction_K hcl I.ok.glob hg hcode (C.keeps I.bk) hPo ht hn hgP hB fun c ctv doc h' tk hx' hge hlt hrec htb=>?_
   have I2:=pM (tk:=tk) (cs:=cs) I hP hx' hge hlt hrec htb (hfd doc ((X.mg "__name__").getD .none) ctv c)
   exact fA I2 hN hi hx (v:=.ref h'.objs.size) rfl (fun s' I3=>⟨_,_,I3,q c h'.objs.size (I.hok.fresh hge) (I.hok.fresh (Nat.le_of_lt (Nat.lt_of_le_of_lt hge hlt))) (Nat.ne_of_lt hlt)⟩) hf
 · refine W.makeFunction_hit hcl I.ok.glob hg hcode (C.keeps I.bk) hPo ht hff hB fun ctv doc h' tk hk hsz=>?_
   have I2:=pN (tk:=tk) (cs:=cs) I hk hsz (hfd doc ((X.mg "__name__").getD .none) ctv c)
   exact fA I2 hN hi hx (v:=.ref h'.objs.size) rfl (fun s' I3=>⟨_,_,I3,q h'.objs.size (I.hok.fresh hsz)⟩) hf⟩
end
section
variable {X:Cx} {k:Nat} {E:St→XK} {x:Str} {p pos:Pos} {e:Expr} {es:List Expr} {ta:TE}
abbrev kW:=List (cV×Sp)
def tD (ks:kW) (f:Addr) (vs:List V) (H:Hp) (Q:VK) (E:XK):Prop:=∃ ts∈ks,∃ cs cvs,dX H f ts.1 cs cvs∧vs.length=ts.1.ps.length∧ts.2 (vs++cvs) (cN cs H) (fun v H'=>Q v (cw cs H H')) (fun c a H'=>E c a (cw cs H H'))
def gE (ks:kW) (E:St→XK) (ta:TE) (t:TA):TE:=fun σ H Q=>ta σ H fun x H1=>∃ f,x=.ref f∧(∃ ts∈ks,∃ cs cvs,dX H1 f ts.1 cs cvs)∧t σ H1 fun vs H2=>tD ks f vs H2 Q (E σ)
theorem ur {P:Program} {w:World} {H:Hp} {h:Heap} {f:Addr} {t:cV} {cs:List Addr} {cvs:List V} (ok:HOk P w H h) (c:dX H f t cs cvs):W.FnAt f h:=by
 obtain ⟨c',hf,_⟩:=c.ex
 obtain ⟨⟨od,fd,sl,ho,_⟩,_,_⟩:=(show aZ P w H h f (dq f t cs c') from ok f _ hf)
 exact ⟨_,_,_,_,ho⟩
def qT (P:Program) (w:World) (K:W.Frag) (mg:Str→Option Value) (base:Heap) (k:Nat) (ks:kW):Prop:=∀ ts∈ks,fF P w K mg base k ts.1 ts.2
theorem gK {ks : kW} {t : TA} (hk : qT X.prog X.w X.K X.mg X.base k ks) (hr : be k X.A) (hx : eE (CX1 X.prog X.w) X E) (hg : QE X (.Name x p) ta) (ha : QA X (e :: es) t) (hs : bp (e :: es) = true := by rfl) :
    QE X (.Call (.Name x p) (e :: es) [] pos) (gE ks E ta t) := ⟨fun pins s σ H Q I h => by
  have h' : (cn e && bp es) = true := hs
  refine wpAny_Call_Name_kw (thn (hg.out pins s σ H _ I h) fun u s1 ⟨y, H1, I1, ry, f, ey, ⟨ts, hts, cs, cvs, ca⟩, q⟩ => ?_)
  subst ey
  obtain rfl : u = Value.ref f := ry
  refine W.callWith_F (ur I1.hok ca) (thn (ha.out pos pins s1 σ H1 _ I1 q) fun us s2 ⟨vs, H2, I2, rv, ts2, hm2, cs2, cvs2, ca2, hl, hsp⟩ => ⟨ur I2.hok ca2, ?_⟩)
    (bv (Bool.and_eq_true_iff.mp h').1 es X.env) (cg (Bool.and_eq_true_iff.mp h').2)
  refine wpAny_call (codeAny_mono ((hk ts2 hm2).run X.A X.stack s2 H2 f cs2 us vs cvs2 Q (E σ) hr I2.env0 ca2 rv hl hsp) fun r s' hq => ?_)
  cases r with
  | error e => exact hx pins σ H2 s2 e s' I2 hq
  | ok fl =>
    cases fl with
    | ret u => exact I2.after hq
    | next => exact False.elim hq
    | brk => exact False.elim hq
    | cont => exact False.elim hq⟩
end
structure kR where
 nx:St→Hp→Prop
 rt:St→VK
abbrev TSM:=kR→St→Hp→Prop
def SPM (X:Cx) (pins:List (Addr×Obj)) (D:kR) (f:Flow) (s':Shared):Prop:=
 match f with
 | .next=>∃ σ' H',Inv X pins σ' H' s'∧D.nx σ' H'
 | .ret u=>∃ v σ' H',Inv X pins σ' H' s'∧aX v u∧D.rt σ' v H'
 | _=>False
structure QM (X:Cx) (st:Stmt) (t:TSM):Prop where
 out:∀ (pins:List (Addr×Obj)) (s:Shared) (σ:St) (H:Hp) (D:kR),Inv X pins σ H s→t D σ H→wpAny (model X.prog X.w) X.A (exec st X.env) (SPM X pins D) X.xe s
structure QMs (X:Cx) (st:List Stmt) (t:TSM):Prop where
 out:∀ (pins:List (Addr×Obj)) (s:Shared) (σ:St) (H:Hp) (D:kR),Inv X pins σ H s→t D σ H→wpAny (model X.prog X.w) X.A (execs st X.env) (SPM X pins D) X.xe s
def oI (t u:TSM):TSM:=fun D σ H=>t { D with nx:=fun σ' H'=>u D σ' H' } σ H
def lq (t:TS):TSM:=fun D σ H=>t { nx:=D.nx,rt:=fun _ _=>False } σ H
def pS (te:TE):TSM:=fun D σ H=>te σ H (D.rt σ)
section
variable {X:Cx} {st:Stmt} {sts l m:List Stmt} {t u:TSM} {tS:TS} {e c:Expr} {te:TE} {tc:TT} {pos:Pos}
theorem la (h:QS X st tS):QM X st (lq tS):=⟨fun pins s σ H D I hq=>thn (h.out pins s σ H _ I hq) fun f s1 q=>by
 cases f with
 | next=>exact q
 | ret v=>obtain ⟨_,_,_,_,_,z⟩:=q;exact z.elim
 | brk=>obtain ⟨_,_,_,z⟩:=q;exact z.elim
 | cont=>obtain ⟨_,_,_,z⟩:=q;exact z.elim⟩
theorem nA (h:QE X e te):QM X (.Return (some e) pos) (pS te):=⟨fun pins s σ H D I hq=>
 wpAny_Return_some (thn (h.out pins s σ H _ I hq) fun v s1 ⟨x,H1,I1,r1,q1⟩=>⟨x,σ,H1,I1,r1,q1⟩)⟩
theorem kG (h1 : QM X st t) (h2 : QMs X sts u) : QMs X (st :: sts) (oI t u) := ⟨fun pins s σ H D I h => by
  refine wpAny_execs_cons (thn (h1.out pins s σ H _ I h) fun f s1 q => ?_)
  cases f with
  | next =>
    obtain ⟨σ', H', I', q⟩ := q
    exact h2.out pins s1 σ' H' D I' q
  | ret v => exact q
  | brk => exact q
  | cont => exact q⟩
theorem nF (h1:QM X st t):QMs X [st] t:=⟨fun pins s σ H D I h=>by
 refine wpAny_execs_cons (thn (h1.out pins s σ H D I h) fun f s1 q=>?_)
 cases f with
 | next=>exact wpAny_execs_nil q
 | ret v=>exact q
 | brk=>exact q
 | cont=>exact q⟩
end
def cL : List (Nat × Addr) → St → Hp → Hp
  | [], _, H => H
  | (i, c) :: r, σ, H => match σ[i]? with
    | some (some v) => cL r σ (upd H c (cy c v))
    | _ => cL r σ H
theorem ky {P : Program} {w : World} {fs : List Addr} {H : Hp} {h h' : Heap} {σ : St} : ∀ (cs : List (Nat × Addr)) (H' : Hp), (cs.map (·.2)).Nodup → (∀ p ∈ cs, H' p.2 = none ∧ h.objs.size ≤ p.2 ∧ ∀ v, σ[p.1]? = some (some v) → ∃ u o, aX v u ∧ h'.get? p.2 = some o ∧ o.data = .cell (some u)) →
    Un fs [] H H' h h' → HOk P w H' h' → Un fs [] H (cL cs σ H') h h' ∧ HOk P w (cL cs σ H') h'
  | [], H', _, _, u, ok => ⟨u, ok⟩
  | (i, c) :: r, H', nd, hc, u, ok => by
    unfold cL
    have ndr := (List.nodup_cons.mp nd).2
    have hcr : ∀ p ∈ r, H' p.2 = none ∧ h.objs.size ≤ p.2 ∧ ∀ v, σ[p.1]? = some (some v) → ∃ u o, aX v u ∧ h'.get? p.2 = some o ∧ o.data = .cell (some u) := fun p hp => hc p (List.mem_cons_of_mem _ hp)
    split
    · rename_i v hv
      obtain ⟨hn, hge, hcell⟩ := hc (i, c) List.mem_cons_self
      have hn : H' c = none := hn
      have hge : h.objs.size ≤ c := hge
      obtain ⟨uv, o, ru, eo, hd⟩ := hcell v hv
      have eo : h'.get? c = some o := eo
      refine ky r (upd H' c (cy c v)) ndr (fun p hp => ⟨?_, (hcr p hp).2⟩) ⟨u.keep, u.slot, fun b ob e n hx => ?_, u.there, fun b xs e => ?_, fun b ob z e => ?_, fun b ps e => ?_⟩ fun b ob e => ?_
      · have : p.2 ≠ c := fun z => (List.nodup_cons.mp nd).1 (by rw [← z]; exact List.mem_map.mpr ⟨p, hp, rfl⟩)
        rw [au this]; exact (hcr p hp).1
      · rw [au (Nat.ne_of_lt (Nat.lt_of_lt_of_le (Heap.lt_size e) hge))]; exact u.free b ob e n hx
      · have z := u.tups b xs e; rw [au (aD z hn)]; exact z
      · have z := u.frzs b ob _ e; rw [au (aD z hn)]; exact z
      · obtain ⟨more, z⟩ := u.tbls b ps e; exact ⟨more, by rw [au (aD z hn)]; exact z⟩
      · by_cases hb : b = c
        · subst hb
          rw [aj] at e; cases e
          refine ⟨⟨uv, o, ru, eo, hd⟩, ⟨o, eo⟩, ?_⟩
          rintro h1 h2 ⟨u', o', r', e', d'⟩ k
          exact ⟨u', o', r', k _ e', d'⟩
        · rw [au hb] at e
          exact (ok b ob e).stay (fun a q _ z => z) (fun a q => by rw [au (aD q hn)]; exact q) fun a xs q => by rw [au (aD q hn)]; exact q
    · exact ky r H' ndr hcr u ok
theorem Fun.okM {P : Program} {w : World} {K : W.Frag} {mg : Str → Option Value} {base : Heap} {x qual : Str} {st : Stmt} {f c0 : Addr} {fd : FuncData} {N ps : List Str} {k : Nat} {sp : Sp} {caps : Nat → List (Nat × Addr)} (F : Fun K x qual st f fd) (hcd : fd.code = .ref c0) (S : aA N ps (am st)) (len : ∀ vs H Q E, sp vs H Q E → vs.length = ps.length)
    (hcaps : ∀ (L : Nat) (p : Nat × Addr), p ∈ caps L → ∃ y, N[p.1]? = some y ∧ (am st).names.lookup y = some .cell ∧ (cellsFrom (L + 1) (am st).names []).lookup y = some p.2) (hnd : ∀ L, ((caps L).map (·.2)).Nodup)
    (hbody : ∀ (A : Around) (outer : List Env) (s : Shared) (H : Hp) (vs : List V) (Q : VK) (E : XK), be k (A.deeper (envOfC qual (am st) s.heap.objs.size f (.ref c0))) → sp vs H Q E →
      ∃ t, QMs (cq (CX1 P w) P w K mg base N qual (am st) f (.ref c0) A outer s H E) (aP st) t ∧ t { nx := fun σ H' => (∀ p ∈ caps s.heap.objs.size, H' p.2 = none) → Q .non (cL (caps s.heap.objs.size) σ H'), rt := fun σ v H' => (∀ p ∈ caps s.heap.objs.size, H' p.2 = none) → Q v (cL (caps s.heap.objs.size) σ H') } (bL N vs) H) : aO P w K mg base (CX1 P w) (k + 1) f fd ps sp := by
  obtain ⟨oc, od, kV, doc, pm, an, cdv, ct, osl, rfl, lk, hcd'⟩ := F.ex
  obtain rfl : cdv = .ref c0 := hcd
  refine ⟨len, fun A outer s H args us vs Q E hr e0 hb r hsp => ?_⟩
  have hl := len _ _ _ _ hsp
  have KX : K.In s.heap := e0.mod.kin.keeps fun b o e => (e0.bs b o e).1
  have lim : s.heap.NoLimit := e0.mod.nolimit.keeps fun b o e => (e0.bs b o e).1
  have hkind : ∀ y ∈ ps.zip us, (am st).names.lookup y.1 = some .local ∨ ((am st).names.lookup y.1 = some .cell ∧ ((cellsFrom (s.heap.objs.size + 1) (am st).names []).lookup y.1).isSome = true) := fun ⟨n, v⟩ hy => by
    rcases S.par n (List.of_mem_zip hy).1 with q | q
    · exact .inl q
    · exact .inr ⟨q, W.cellsFrom_some _ _ _ (.inl q)⟩
  refine codeAny_call_function hr.depth (KX _ _ lk) rfl S.co S.gen rfl (W.codeRec_of KX hcd') (hb _ _ _ _ ?_)
  refine wpAny_newFunctionEnv_cells S.kind hkind fun env he s1 x => ?_
  subst he
  refine ⟨lim.keeps x.toInCall.keep, codeAny_func ?_⟩
  obtain ⟨t, ht, hq⟩ := hbody A outer s H vs Q E (hr.deeper _) hsp
  have I : Inv (cq (CX1 P w) P w K mg base N qual (am st) f (.ref c0) A outer s H E) [] (bL N vs) H s1 := mW S hr.hd e0 hl r x
  refine wpAny_mono (ht.out [] s1 (bL N vs) H _ I hq) (fun fl s' hs => ?_) fun e s' hs => hs
  have fin : ∀ {σ' : St} {H' : Hp} {v : V} {u : Value}, Inv (cq (CX1 P w) P w K mg base N qual (am st) f (.ref c0) A outer s H E) [] σ' H' s' → aX v u → ((∀ p ∈ caps s.heap.objs.size, H' p.2 = none) → Q v (cL (caps s.heap.objs.size) σ' H')) → CE outer P w H s Q u s' :=
    fun {σ' H' v u} J rv q => by
      have free : ∀ p ∈ caps s.heap.objs.size, H' p.2 = none := fun p hp => by
        obtain ⟨y, _, _, hc⟩ := hcaps _ p hp
        exact J.freeC y p.2 hc
      have hcond : ∀ p ∈ caps s.heap.objs.size, H' p.2 = none ∧ s.heap.objs.size ≤ p.2 ∧ ∀ v, σ'[p.1]? = some (some v) → ∃ u o, aX v u ∧ s'.heap.get? p.2 = some o ∧ o.data = .cell (some u) := fun p hp => by
        obtain ⟨y, hy, hk, hc⟩ := hcaps _ p hp
        refine ⟨free p hp, J.ok.cab y p.2 rfl hc, fun v hv => ?_⟩
        obtain ⟨m, _, hloc⟩ := J.loc
        obtain ⟨u', r', lk'⟩ := hloc p.1 y v hy hv (.inr (.inl hk))
        rcases lk' with ⟨z, _⟩ | ⟨_, c, ec, o, eo, hd⟩
        · have z : (am st).names.lookup y = some .local := z
          rw [hk] at z; cases z
        · have ec : (cellsFrom (s.heap.objs.size + 1) (am st).names []).lookup y = some c := ec
          rw [hc] at ec; cases ec
          exact ⟨u', o, r', eo, hd⟩
      obtain ⟨un, ok⟩ := ky (P := P) (w := w) (σ := σ') (caps s.heap.objs.size) H' (hnd _) hcond J.base J.hok
      exact ⟨v, _, J.os, J.bare, un, ok, rv, q free⟩
  cases fl with
  | ret u =>
    obtain ⟨v, σ', H', J, rv, q⟩ := hs
    exact fin J rv q
  | next =>
    obtain ⟨σ', H', J, q⟩ := hs
    exact fin (v := V.non) (u := Value.none) J rfl q
  | brk => exact False.elim hs
  | cont => exact False.elim hs
theorem uq {P : Program} {w : World} {K : W.Frag} {mg mb : Str → Option Value} {CX : CXT} {k : Nat} {fa a : Addr} {fd : FuncData} {x : Str} {sp : Sp} {s₁ : Shared} {vs : List Value} {ns : List Int} {tabs : List (Addr × Addr)}
    (KX : K.In s₁.heap) (hns : s₁.heap.Ns mainGlobals mg) (hb : s₁.heap.Ns builtinsNs mb) (hbb : ∀ x : Str, x ≠ "__name__" → mb x = bootBuiltins x) (hlim : s₁.heap.NoLimit) (hg : s₁.gens = #[]) (hB : BM mg s₁.heap)
    (hT : ∀ q ∈ tabs, W.CodeHd s₁.heap q.1 q.2 ∧ s₁.heap.get? q.2 = some (W.tabObj #[])) (hKT : W.noTabs K = true)
    (ha : s₁.heap.get? a = some { cls := .type "list", data := .seq vs.toArray }) (hi : IntsAre vs ns) (hl : ns.length ≤ sizeLine) (hr : be k callerA)
    (F : ∀ base : Heap, K.In base → base.Ns mainGlobals mg → BM mg base → (∀ q ∈ tabs, W.CodeHd base q.1 q.2) → aO P w K mg base CX k fa fd [x] sp) (hbind : ∀ (s : Shared) (u : Value), BindsTo s fd ⟨[u], []⟩ [(x, u)])
    (hsp : ∀ H : Hp, (∀ q ∈ tabs, H q.2 = some (.tbl #[])) → SqL K H a (ns.map V.int) → sp [.ref a] H (fun v _ => v = .bl true) fun _ _ _ => False)
    (hCX : ∀ H e s', CX [] H s₁ (fun _ _ _ => False) e s' → False) :
    codeAny (model P w) callerA (.call (.ref fa) ⟨[.ref a], []⟩) (fun r s' => r = .ok (.ret (.bool true)) ∧ OldK s₁.heap s'.heap ∧ s'.os = s₁.os ∧ AllBare s'.gens) s₁ := by
  have rv := mr hi
  have lenV := hi.length
  have tabK : ∀ q ∈ tabs, K.lookup q.2 = none := fun q hq => by
    cases e : K.lookup q.2 with
    | none => rfl
    | some o =>
      have e2 := KX _ _ e
      rw [(hT q hq).2] at e2; cases e2
      have := List.all_eq_true.mp hKT _ (W.mem_of_lookupK e)
      exact absurd (show false = true from this) Bool.false_ne_true
  have tabA : ∀ q ∈ tabs, q.2 ≠ a := fun q hq e => by
    have e2 := (hT q hq).2
    rw [e, ha] at e2; cases e2
  have core : ∀ H : Hp, (∀ q ∈ tabs, H q.2 = some (.tbl #[])) → SqL K H a (ns.map V.int) → HOk P w H s₁.heap → (∀ b, H b ≠ none → (b = a ∧ ∃ o xs, H b = some (.frz o (.lst xs))) ∨ ∃ q ∈ tabs, q.2 = b) → (∀ b, H b ≠ none → K.lookup b = none) →
      codeAny (model P w) callerA (.call (.ref fa) ⟨[.ref a], []⟩) (fun r s' => r = .ok (.ret (.bool true)) ∧ OldK s₁.heap s'.heap ∧ s'.os = s₁.os ∧ AllBare s'.gens) s₁ := by
    intro H hO hS hok hA hK
    have base_of : ∀ {b : Addr} {o : Obj}, s₁.heap.get? b = some o → H b = none → (gz s₁.heap H).get? b = some o := fun e n => wF e n
    have noA : ∀ {b : Addr} {o : Obj}, s₁.heap.get? b = some o → o.cls ≠ .none → o.cls ≠ .type "list" → H b = none := fun {b o} e c1 c2 => by
      cases q : H b with
      | none => rfl
      | some u =>
        rcases hA b (by rw [q]; simp) with ⟨rfl, _⟩ | ⟨p, hp, rfl⟩
        · rw [ha] at e; cases e; exact absurd rfl c2
        · rw [(hT p hp).2] at e; cases e; exact absurd rfl c1
    have noD : ∀ {b : Addr} {o : Obj} {es : Array DictEntry} {ep : Nat}, s₁.heap.get? b = some o → o.data = .dict es ep → H b = none := fun {b o es ep} e d => by
      cases q : H b with
      | none => rfl
      | some u =>
        rcases hA b (by rw [q]; simp) with ⟨rfl, _⟩ | ⟨p, hp, rfl⟩
        · rw [ha] at e; cases e; cases d
        · rw [(hT p hp).2] at e; cases e; cases d
    have nsK : ∀ {b : Addr} {m : Str → Option Value}, s₁.heap.Ns b m → (gz s₁.heap H).Ns b m := fun {b m} ⟨o, es, ep, e, d, r⟩ => ⟨o, es, ep, base_of e (noD e d), d, r⟩
    have hKb : K.In (gz s₁.heap H) := fun b o e => base_of (KX b o e) (by
      cases q : H b with
      | none => rfl
      | some u => rw [hK b (by rw [q]; simp)] at e; cases e)
    have hBb : BM mg (gz s₁.heap H) := by
      obtain ⟨bm, ob, b1, b2, b3, b4, b5, b6⟩ := hB
      exact ⟨bm, ob, b1, b2, base_of b3 (noA b3 (by rw [b4]; intro z; cases z) (by rw [b4]; intro z; exact absurd (Value.type.inj z) (by decide))), b4, b5, b6⟩
    have hCb : ∀ q ∈ tabs, W.CodeHd (gz s₁.heap H) q.1 q.2 := fun q hq => by
      obtain ⟨o, vs, file, tf, flags, tg, inF, text, tt, e1, e2, r⟩ := (hT q hq).1
      exact ⟨o, vs, file, tf, flags, tg, inF, text, tt, base_of e1 (noA e1 (by rw [e2]; intro z; cases z) (by rw [e2]; intro z; exact absurd (Value.type.inj z) (by decide))), e2, r⟩
    have hM : Mod K mg (gz s₁.heap H) := ⟨hKb, nsK hns, ⟨mb, nsK hb, hbb⟩, let ⟨mc, h1, h2⟩ := hlim; ⟨mc, nsK h1, h2⟩⟩
    have e0 : iA P w K mg (gz s₁.heap H) callerA [] s₁ H := ⟨rfl, hM, fun b o e => Ad e, Nat.le_of_eq (vk _ _), trivial, fun b hb => absurd (show b ∈ ([] : List Addr) from hb) (by simp), hok, .of_eq hg⟩
    refine codeAny_mono ((F _ hKb (nsK hns) hBb hCb).run callerA [] s₁ H ⟨[.ref a], []⟩ [.ref a] [.ref a] _ _ hr e0 (hbind s₁ (.ref a)) (.cons rfl .nil) (hsp H hO hS)) fun r s' h => ?_
    cases r with
    | error e => exact (hCX H e s' h).elim
    | ok fl =>
      cases fl with
      | next => exact False.elim h
      | brk => exact False.elim h
      | cont => exact False.elim h
      | ret u =>
        obtain ⟨v, H', os, bare, un, hok', r', q⟩ := h
        have q' : v = .bl true := q
        subst q'
        obtain rfl : u = Value.bool true := r'
        have all : ∀ b o, s₁.heap.get? b = some o → s'.heap.get? b = some o ∨ ∃ q ∈ tabs, q.2 = b ∧ ∃ more, s'.heap.get? b = some (W.tabObj more) := fun b o e => by
          cases q : H b with
          | none => exact .inl (un.keep b o e q (by intro z; exact absurd (show b ∈ ([] : List Addr) from z) (by simp)) (by simp))
          | some u =>
            rcases hA b (by rw [q]; simp) with ⟨rfl, ob, xs, z⟩ | ⟨p, hp, rfl⟩
            · have z2 := un.frzs b ob _ z
              obtain ⟨e1, _⟩ := hok b _ z
              obtain ⟨e2, _⟩ := hok' b _ z2
              rw [e] at e1; cases e1
              exact .inl e2
            · obtain ⟨more, z2⟩ := un.tbls p.2 _ (hO p hp)
              exact .inr ⟨p, hp, rfl, _, hok' p.2 _ z2⟩
        refine ⟨rfl, ⟨fun b o e => ?_, fun b o e => ?_⟩, os, bare⟩
        · rcases all b o e with z | ⟨p, hp, rfl, more, z⟩
          · exact .inl z
          · have e2 := (hT p hp).2
            rw [e] at e2; cases e2
            exact .inr (.inl ⟨((hT p hp).1.tab (hT p hp).2).isCodeTable, rfl, #[], more, rfl, by rw [Array.empty_append]; exact z⟩)
        · rcases all b o e with z | ⟨p, hp, rfl, more, z⟩
          · exact ⟨_, z⟩
          · exact ⟨_, z⟩
  cases hk : K.lookup a with
  | some o =>
    have e := KX a o hk
    rw [ha] at e
    cases e
    refine core (fun b => if b ∈ tabs.map (·.2) then some (.tbl #[]) else none) (fun q hq => if_pos (List.mem_map.mpr ⟨q, hq, rfl⟩)) (.inr ⟨_, vs.toArray, _, hk, rfl, rfl, rfl, by rw [List.size_toArray, lenV]; exact hl, by simpa using rv⟩) (fun b u z => ?_) (fun b z => ?_) fun b z => ?_
    · by_cases hb : b ∈ tabs.map (·.2)
      · have z' := (if_pos hb).symm.trans z
        cases z'
        obtain ⟨q, hq, rfl⟩ := List.mem_map.mp hb
        exact (hT q hq).2
      · have z' := (if_neg hb).symm.trans z
        cases z'
    · by_cases hb : b ∈ tabs.map (·.2)
      · obtain ⟨q, hq, e⟩ := List.mem_map.mp hb
        exact .inr ⟨q, hq, e⟩
      · exact absurd (if_neg hb) z
    · by_cases hb : b ∈ tabs.map (·.2)
      · obtain ⟨q, hq, rfl⟩ := List.mem_map.mp hb
        exact tabK q hq
      · exact absurd (if_neg hb) z
  | none =>
    refine core (fun b => if b = a then some (.frz { cls := .type "list", data := .seq vs.toArray } (.lst (ns.map V.int))) else if b ∈ tabs.map (·.2) then some (.tbl #[]) else none)
      (fun q hq => by show (if q.2 = a then _ else _) = _; rw [if_neg (tabA q hq), if_pos (List.mem_map.mpr ⟨q, hq, rfl⟩)]) (.inl (.inr ⟨{ cls := .type "list", data := .seq vs.toArray }, if_pos rfl⟩)) (fun b u z => ?_) (fun b z => ?_) fun b z => ?_
    · by_cases hb : b = a
      · have z' := (if_pos hb).symm.trans z
        cases z'
        subst hb
        exact ⟨ha, by rw [List.length_map]; exact hl, vs, _, rv, ha⟩
      · have z' : (if b ∈ tabs.map (·.2) then some (HO.tbl #[]) else none) = some u := (if_neg hb).symm.trans z
        by_cases hb2 : b ∈ tabs.map (·.2)
        · rw [if_pos hb2] at z'; cases z'
          obtain ⟨q, hq, rfl⟩ := List.mem_map.mp hb2
          exact (hT q hq).2
        · rw [if_neg hb2] at z'; cases z'
    · by_cases hb : b = a
      · exact .inl ⟨hb, _, _, if_pos hb⟩
      · by_cases hb2 : b ∈ tabs.map (·.2)
        · obtain ⟨q, hq, e⟩ := List.mem_map.mp hb2
          exact .inr ⟨q, hq, e⟩
        · exact absurd ((if_neg hb).trans (if_neg hb2)) z
    · by_cases hb : b = a
      · rw [hb]; exact hk
      · by_cases hb2 : b ∈ tabs.map (·.2)
        · obtain ⟨q, hq, rfl⟩ := List.mem_map.mp hb2
          exact tabK q hq
        · exact absurd ((if_neg hb).trans (if_neg hb2)) z
theorem xk {l : W.OpenLaw} {n k : Nat} {q : Program} {loose : List Str} {XP : (Str → Option Value) → Heap → Prop} {YP : World → Heap → Prop} {d : DefRec} {K : Params → W.Frag} {CX : World → CXT} {x : Str} {names : List Str}
  (hn : l.most = some n) (hn2 : n ≤ sizeLine) (hdf : d.params.defaults = []) (hr : be k callerA)
  (hY : ∀ (w : World) (h : Heap), YP w h → (K w.params).In h)
  (hq : ∀ y ∈ names, ((PyProof.Rows.recsOf q).find? fun e => e.name == y).isSome = true)
  (F : ∀ (w : World) (mg : Str → Option Value) (fa : Addr) (h : Heap), (K w.params).In h → h.Ns mainGlobals mg → mg d.name = some (.ref fa) →
   ∃ (fd : FuncData) (tabs : List (Addr × Addr)) (sp : Sp), (∀ (s : Shared) (u : Value), BindsTo s fd ⟨[u], []⟩ [(x, u)]) ∧ W.noTabs (K w.params) = true ∧ (∀ t ∈ tabs, ∃ y ∈ names, W.tabIn (K w.params) y = some t) ∧
    (∀ base : Heap, (K w.params).In base → base.Ns mainGlobals mg → BM mg base → (∀ t ∈ tabs, W.CodeHd base t.1 t.2) → aO l.prog w (K w.params) mg base (CX w) k fa fd [x] sp) ∧
    ∀ (H : Hp) (a : Addr) (ns : List Int), ns.length ≤ n → (∀ t ∈ tabs, H t.2 = some (.tbl #[])) → SqL (K w.params) H a (ns.map V.int) → sp [.ref a] H (fun v _ => v = .bl true) fun _ _ _ => False)
  (hCX : ∀ (w : World) (H : Hp) (s : Shared) (e : Value) (s' : Shared), CX w [] H s (fun _ _ _ => False) e s' → False) :
  W.WalkO q loose XP YP l.row.toRowW d [] (fun f vs => PySem.call f vs) := by
 refine Att.attach_call hn hdf fun w s₀ s₁ mg mb fa o pm cd doc a vs ns G Y ho hd hcd hmg hobj hints hlen hg => ?_
 have KX := hY w _ Y
 obtain ⟨fd, tabs, sp, hb, hKT, htabs, hF, hsp⟩ := F w mg fa _ KX G.T.g hmg
 refine uq (tabs := tabs) KX G.T.g G.T.b G.T.builtins G.T.nolimit hg G.T.bmain (fun t ht => ?_) hKT hobj hints (Nat.le_trans hlen hn2) hr hF hb (fun H hO hS => hsp H a ns hlen hO hS) fun H e s' => hCX w H s₁ e s'
 obtain ⟨y, hy, e⟩ := htabs t ht
 obtain ⟨dd, hdd⟩ := Option.isSome_iff_exists.mp (hq y hy)
 exact W.tab_of G.T KX hdd e
section
variable {X:Cx}
theorem SPM.unwish {E:Value→Shared→Prop} {pins:List (Addr×Obj)} {D:kR} {f:Flow} {s':Shared} (h:SPM (X.wish E) pins D f s'):SPM X pins D f s':=by
 cases f with
 | next=>obtain ⟨σ',H',I,q⟩:=h;exact ⟨σ',H',I.unwish,q⟩
 | brk=>exact h
 | cont=>exact h
 | ret u=>obtain ⟨v,σ',H',I,r,q⟩:=h;exact ⟨v,σ',H',I.unwish,r,q⟩
theorem QMs.nox {st:List Stmt} {t:TSM} (h:QMs X.nox st t):QMs X st t:=⟨fun pins s σ H D I hw=>
 wpAny_mono (h.out pins s σ H D (I.wish _) hw) (fun _ _ q=>SPM.unwish q) fun _ _ z=>False.elim z⟩
theorem fF.mono {P:Program} {w:World} {K:W.Frag} {mg:Str→Option Value} {base:Heap} {j k:Nat} {t:cV} {sp:Sp} (F:fF P w K mg base j t sp) (h:j≤k):fF P w K mg base k t sp:=
 ⟨fun A outer s H f cs us vs cvs Q E hr=>F.run A outer s H f cs us vs cvs Q E (hr.mono h)⟩
def qE:V→List V→Hp→VK→Prop:=fun x vs H Q=>∃ a y d r H',x=.ref a∧vs=[y,d]∧AG H a y d r H'∧Q r H'
theorem uH (hu:X.A.units+1<cLine):MtR X "dict.setdefault" qE:=by
 intro pins s σ H x xs v us Q I rx rs h
 obtain ⟨a,y,d,r,H',rfl,rfl,g,q⟩:=h
 obtain rfl:v=Value.ref a:=rx
 obtain ⟨uy,ud,rfl,ry,rd⟩:=jT rs
 rcases g with ⟨g,rfl⟩ | ⟨g,p,rfl⟩
 · rcases g with ⟨kvs,k,e,rfl,l⟩ | ⟨kvs,k,b,e,rfl,eb,l⟩
   · obtain ⟨z,hd,vs,rel,dd⟩:=jL I.hok e
     obtain ⟨w',hw,rw'⟩:=cJ.some_of (v:=r) (o:=valueAt vs k) (by rw [l];exact rel.val k)
     exact call_meetsIn PySem.F.slot_dict_setdefault dd.typeIs PySem.F.entry_dict_setdefault (PySem.F.args_dict_setdefault_3 _ _ _) (kt_meets_setdefault (ck X.prog X.w) a (jF ry) hd ud)
       ⟨vs,dd,by rw [← rel.length];exact z,(fun v' hv'=>by rw [hw] at hv';cases hv';exact ⟨r,H',I.tok _,rw',q⟩),(fun hn=>by rw [hw] at hn;cases hn)⟩
   · cases (show uy=Value.ref b from ry)
     obtain ⟨z,hd,xs,rel,dd⟩:=li I.hok e
     obtain ⟨w',hw,rw'⟩:=cJ.some_of (v:=r) (o:=(atKey xs k).map (·.2)) (by rw [l];exact rel.val k)
     obtain ⟨pp,hp,hp2⟩:=Option.map_eq_some_iff.mp hw
     refine wpAny_call_entry PySem.F.slot_dict_setdefault dd.typeIs PySem.F.entry_dict_setdefault ?_ (PySem.F.args_dict_setdefault_3 _ _ _)
     unfold Builtin.«dict.setdefault»
     refine wpAny_bind ?_
     unfold Builtin.Dict.keyAndDefault
     refine wpAny_bind (wpAny_notOrdered_dict dd.typeIs ?_)
     show wpAny _ _ (pure (a,Value.ref b,some ud)) _ _ s
     refine wpAny_pure ?_
     show wpAny _ _ (if (a==sysModules)=true then _ else (dictSetDefault a (.ref b) ud>>=_)) _ _ s
     rw [if_neg (by rw [hd];exact Bool.false_ne_true)]
     refine wpAny_bind (fm (tupleKind_room_in1 hu) (ia I.hok eb) dd (fun p' hp'=>?_) (fun hn=>?_) (by rw [← Paired.length rel];exact z))
     · rw [hp] at hp';cases hp'
       exact wpAny_pure ⟨_,rfl,⟨r,H',I.tok _,by rw [hp2];exact rw',q⟩⟩
     · rw [hp] at hn;cases hn
 · rcases g with ⟨kvs,k,e,rfl,l⟩ | ⟨kvs,k,b,e,rfl,eb,l⟩
   · rcases p with ⟨kvs',k',e',ey,lz,rfl⟩ | ⟨kvs',k',b',e',ey,_⟩
     · have ek:k=k':=by cases k <;> cases k' <;> first | (cases ey;rfl) | cases ey
       subst ek
       obtain ⟨z,hd,vs,rel,dd⟩:=yw I.hok e'
       have ee:kvs=kvs':=by
         rcases e with e | ⟨o,e⟩
         · rw [e'] at e;cases e;rfl
         · rw [e'] at e;cases e
       subst ee
       have hn:valueAt vs k=none:=cJ.none_of (by rw [l];exact rel.val k)
       refine call_meetsIn PySem.F.slot_dict_setdefault dd.typeIs PySem.F.entry_dict_setdefault (PySem.F.args_dict_setdefault_3 _ _ _) (kt_meets_setdefault (ck X.prog X.w) a (jF ry) hd ud)
         ⟨vs,dd,by rw [← rel.length];exact z,(fun v' hv'=>by rw [hn] at hv';cases hv'),fun _ h' dd' hs=>?_⟩
       have he:∃ q,h'.get? a=some q:=let ⟨q,_,_,hq,_⟩:=dd';⟨q,hq⟩
       have hl:(cX kvs k r).length≤sizeLine:=by have:=fG kvs k r;omega
       exact ⟨r,_,jz I (by rw [e'];exact True.intro) hs he (um hl hd (rel.put k rd) dd'),rd,q⟩
     · cases k <;> cases ey
   · rcases p with ⟨kvs',k',e',ey,_⟩ | ⟨kvs',k',b',e',ey,eb',lz,rfl⟩
     · cases k' <;> cases ey
     · cases ey
       have ek:k=k':=qD (HO.tup.inj (Option.some.inj (eb.symm.trans eb')))
       subst ek
       cases (show uy=Value.ref b from ry)
       obtain ⟨z,hd,xs,rel,dd⟩:=sO I.hok e'
       have ee:kvs=kvs':=by
         rcases e with e | ⟨o,e⟩
         · rw [e'] at e;cases e;rfl
         · rw [e'] at e;cases e
       subst ee
       have hn:atKey xs k=none:=by
         have:=cJ.none_of (o:=(atKey xs k).map (·.2)) (by rw [l];exact rel.val k)
         exact Option.map_eq_none_iff.mp this
       refine wpAny_call_entry PySem.F.slot_dict_setdefault dd.typeIs PySem.F.entry_dict_setdefault ?_ (PySem.F.args_dict_setdefault_3 _ _ _)
       unfold Builtin.«dict.setdefault»
       refine wpAny_bind ?_
       unfold Builtin.Dict.keyAndDefault
       refine wpAny_bind (wpAny_notOrdered_dict dd.typeIs ?_)
       show wpAny _ _ (pure (a,Value.ref b,some ud)) _ _ s
       refine wpAny_pure ?_
       show wpAny _ _ (if (a==sysModules)=true then _ else (dictSetDefault a (.ref b) ud>>=_)) _ _ s
       rw [if_neg (by rw [hd];exact Bool.false_ne_true)]
       refine wpAny_bind (fm (tupleKind_room_in1 hu) (ia I.hok eb) dd (fun p' hp'=>?_) (fun _ h' dd' hs=>?_) (by rw [← Paired.length rel];exact z))
       · rw [hn] at hp';cases hp'
       · obtain ⟨q',es,ep,hq,h2,h3,h4,_,h5⟩:=dd'
         have hl:(cX kvs k r).length≤sizeLine:=by have:=fG kvs k r;omega
         refine wpAny_pure ⟨_,rfl,⟨r,_,jz (ob:=.dT (cX kvs k r)) I (by rw [e'];exact True.intro) hs ⟨q',hq⟩ ⟨hl,hd,_,(rel.put k eb rd).keeps fun c ys ec=>?_,q',es,ep,hq,h2,h3,h4,h5⟩,rd,q⟩⟩
         rw [au (dR ec e' (fun z=>nomatch z))]
         exact ec
def Its (z:Str):It:=⟨fun i _=>i<z.length,fun i H x H'=>H'=H∧∃ c,z.cps[i]?=some c∧x=.str ⟨#[c]⟩,fun i _=>z.length≤i⟩
theorem vT {P:Program} {w:World} {K:W.Frag} {tg:Expr} (z:Str) (t:Tok) (it:Addr):lV P w K tg (Its z) [it] it (fun i h=>h.IsStrIter it "str_ascii_iterator" z t i) where
 mem:=by simp
 obj:=fun i h st b hb=>by
  have e:b=it:=by simpa using hb
  subst e
  obtain ⟨o,e,c,d⟩:=st
  exact ⟨o,e,fun v z=>by rw [d] at z;cases z⟩
 keep:=fun i h h' st k=>let ⟨o,ho,r⟩:=st;⟨o,k it (by simp) o ho,r⟩
 item:=by
  intro X hP hw hK hc i pins s σ H E I hf st hg
  subst hP hw hK
  obtain ⟨f0,f1,f2,f3,f4,f5⟩:=hf it (by simp)
  have hi:i<z.cps.size:=hg
  refine wpAny_pyNext_ascii_item st (c:=z.cps[i]) (Array.getElem?_eq_getElem hi) fun h' st' sb=>?_
  have I1:Inv X pins σ H { s with heap:=h',toks:=s.toks+1 }:=I.turned (t':=s.toks+1) (fun b o hb e=>(sb.2 b hb).trans e) f0 f1 f3 f4 f5
  obtain ⟨o,e,c,d⟩:=id st'
  exact ⟨_,rfl,oh (s:={ s with heap:=h',toks:=s.toks+1 }) e c d (by decide) ⟨.str ⟨#[z.cps[i]]⟩,H,I1,⟨_,rfl⟩,⟨rfl,_,Array.getElem?_eq_getElem hi,rfl⟩,st',fun b hb=>(hf b hb).1⟩⟩
 done:=by
  intro X hP hw hK hc i pins s σ H E I hf st hg
  subst hP hw hK
  obtain ⟨f0,f1,f2,f3,f4,f5⟩:=hf it (by simp)
  exact wpAny_pyNext_ascii_end (I.ok.hd hc) st (Array.getElem?_eq_none (show z.cps.size≤i from hg)) fun h' eb=>⟨rfl,I.turned (t':=s.toks) (fun b o hb e=>eb b o hb e) f0 f1 f3 f4 f5⟩
 self:=fun A i s Q E st h=>by
  refine wpAny_pyIter_slot st.typeIs F.slot_str_ascii_iterator_iter (wpAny_call_entry F.slot_str_ascii_iterator_iter st.typeIs F.entry_str_ascii_iterator_iter ?_ (F.args_str_ascii_iterator_iter_1 _))
  show wpAny _ _ (ret (.ref it)) _ _ s
  exact wpAny_pure ⟨_,rfl, "str_ascii_iterator",_,st.typeIs,F.slot_str_ascii_iterator_next.lookup,h⟩
variable {a:Expr} {ta:TE} {tg:Expr}
def eR (K:W.Frag) (tl:TE):TI:=fun σ H R=>tl σ H fun x H1=>match x with
 | .str z=>z.cps.all (·<128)=true∧R (Its z) H1
 | x=>∃ a,x=.ref a∧(((∃ xs,SqL K H1 a xs)∧R (Itl K a) H1)∨((∃ xs,SqT K H1 a xs)∧R (Itt K a) H1))
theorem ef (h : QE X a ta) : QI X tg a (eR X.K ta) := ⟨fun pins s σ H R I hw => by
  refine thn (h.out pins s σ H _ I hw) fun v s1 ⟨x, H1, I1, r1, q1⟩ => ?_
  cases x with
  | str z =>
    obtain ⟨t, rfl⟩ := r1
    refine wpAny_pyIter_ascii q1.1 ?_
    refine ⟨s1.heap.objs.size, [s1.heap.objs.size], _, _, H1, rfl, I1.kept (t' := s1.toks) fun b o e => Heap.get?_push_of_some _ e, vT z t _, ⟨_, Heap.get?_push_size _ rfl, rfl, rfl⟩, fun b hb => ?_, q1.2⟩
    have e : b = s1.heap.objs.size := by simpa using hb
    subst e
    exact I1.fpOk (Nat.le_refl _) (I1.hok.fresh (Nat.le_refl _))
  | ref c =>
    obtain ⟨a, e, q⟩ := q1
    cases e
    cases r1
    rcases q with ⟨⟨xs, hq⟩, q⟩ | ⟨⟨xs, hq⟩, q⟩
    · obtain ⟨its, rv, p, hz⟩ := I1.list hq
      refine wpAny_pyIter_list (pV p) ?_
      refine ⟨s1.heap.objs.size, [s1.heap.objs.size], _, _, H1, rfl, I1.kept (t' := s1.toks) fun b o e => Heap.get?_push_of_some _ e, ue _ _, ⟨_, Heap.get?_push_size _ rfl, rfl, rfl⟩, fun b hb => ?_, q⟩
      have e : b = s1.heap.objs.size := by simpa using hb
      subst e
      exact I1.fpOk (Nat.le_refl _) (I1.hok.fresh (Nat.le_refl _))
    · obtain ⟨its, rv, p, hz⟩ := I1.tuple hq
      refine wpAny_pyIter_tuple (show s1.heap.IsTuple c its.toArray from p) ?_
      refine ⟨s1.heap.objs.size, [s1.heap.objs.size], _, _, H1, rfl, I1.kept (t' := s1.toks) fun b o e => Heap.get?_push_of_some _ e, sQ _ _, ⟨_, Heap.get?_push_size _ rfl, rfl, rfl⟩, fun b hb => ?_, q⟩
      have e : b = s1.heap.objs.size := by simpa using hb
      subst e
      exact I1.fpOk (Nat.le_refl _) (I1.hok.fresh (Nat.le_refl _))
  | _ => obtain ⟨_, e, _⟩ := q1; cases e⟩
end
theorem eA.str (z:Str):eA (Its z) z.length (fun i=> .str ⟨#[z.cps.getD i 0]⟩) (fun _=>True) where
 go:=fun i H hi _=>hi
 yld:=fun i H x H' hi _ y=>⟨y.1,by obtain ⟨_,c,hc,rfl⟩:=y;simp [Array.getD_eq_getD_getElem?,hc]⟩
 stop:=fun H _=>Nat.le_refl _
theorem rN {α β:Type} (f:β→α→β) (b:β) (l:List α) (i:Nat) (x:α) (h:l[i]?=some x):(l.take (i+1)).foldl f b=f ((l.take i).foldl f b) x:=by
 rw [List.take_succ,h];simp
theorem jE {α β:Type} {f:α→β} {l:List α} {i:Nat} {x:β} (h:(l.map f)[i]?=some x):∃ a,l[i]?=some a∧x=f a:=by
 rw [List.getElem?_map] at h
 cases e:l[i]? with
 | none=>rw [e] at h;cases h
 | some a=>rw [e] at h;cases h;exact ⟨a,rfl,rfl⟩
theorem dX.keep {H H':Hp} {f:Addr} {t:cV} {cs:List Addr} {cvs:List V} (k:∀ b φ,H b=some (.ext φ)→H' b=some (.ext φ)) (c:dX H f t cs cvs):dX H' f t cs cvs:=by
 obtain ⟨⟨a,h1,h2⟩,h3⟩:=c
 refine ⟨⟨a,k _ _ h1,k _ _ h2⟩,?_⟩
 clear h1 h2
 induction h3 with
 | nil=>exact .nil
 | cons r t ih=>exact .cons (k _ _ r) ih
theorem ixL {K:W.Frag} {H:Hp} {Q:VK} {L:Addr} {xs:List V} {x:V} {i:Int} {j:Nat} (hL:H L=some (.lst xs)) (e:i=j) (hx:xs[j]?=some x) (q:Q x H):aG K (.ref L) (.int i) H Q:=by
 subst e
 refine .inl (.inl ⟨L,xs,j,x,rfl,rfl,SqL.of hL,?_,q⟩)
 have hj:=(List.getElem?_eq_some_iff.mp hx).1
 rw [vx (by omega) (by omega)]
 simp [List.getD_eq_getElem?_getD,hx]
def mO (K:W.Frag) (ns:List Str):Bool:=decide ((ns.map fun n=>(W.tabIn K n).map (·.2)).Nodup)
theorem wZ {l:List Addr} (h:(l.map some).Nodup):l.Nodup:=List.Pairwise.of_map some (fun a b h e=>h (congrArg some e)) h
section
variable {X:Cx}
def Gc:R2:=fun _ _ _ _=>False
def yH:R2:=fun x y H Q=>match x,y with
 | .str z,.int n=>(-1000≤n∧n≤1000∧z.length≤1000)∧Q (.str (Txt.mul z n)) H
 | .ref a,.int n=>Gc (.ref a) (.int n) H Q
 | x,y=>bZ x y H Q
end
section
variable {X:Cx}
theorem Ds:OpR X (compareOp .Is) (fun x y H Q=>∃ b c,x=.bl b∧y=.bl c∧Q (.bl (decide (b=c))) H):=by
 intro pins s σ H x y v u Q I rx ry h
 obtain ⟨b,c,rfl,rfl,q⟩:=h
 cases rx
 cases ry
 refine wpAny_is_plain (by rfl) (bo I q ?_)
 cases b <;> cases c <;> rfl
def vN:R2:=fun x y H Q=>match x,y with
 | .bl b,.bl c=>Q (.bl (decide (b=c))) H
 | x,y=>wR x y H Q
theorem Iv:OpR X (compareOp .Is) vN:=(Ds.or oIs).imp fun x y H Q q=>by
 unfold vN at q
 split at q
 · exact .inl ⟨_,_,rfl,rfl,q⟩
 · exact .inr q
theorem tW {x y:Str} {px py ep pos:Pos} {ek:Nat} {e:Expr} {te:TE} (i j:Nat) (hN:X.N.Nodup) (hc:X.calm=true) (he:QE X e te) (hi:X.N[i]?=some x:=by rfl) (hj:X.N[j]?=some y:=by rfl)
  (hx:Loc X.env.scope x:=by first | exact .inl rfl | exact .inr rfl) (hy:Loc X.env.scope y:=by first | exact .inl rfl | exact .inr rfl)
  (fx:X.fn x=true∨X.env.scope.names.lookup x=some .local:=by first | exact .inl rfl | exact .inr rfl) (fy:X.fn y=true∨X.env.scope.names.lookup y=some .local:=by first | exact .inl rfl | exact .inr rfl)
  (hs:swapsWithSole [.Tuple [.Name x px,.Name y py] ek ep] e pos.line X.env=pure false:=by rfl) (hw:swappedStores [.Tuple [.Name x px,.Name y py] ek ep] e X.env=pure none:=by rfl):
  QS X (.Assign [.Tuple [.Name x px,.Name y py] ek ep] e pos) (aH te (jc X.K 2 (cI (ax i) (cI (ax j) jq)))):=
 ⟨kQ he.out (pA hc (dz (dH hN hi hx fx) (dz (dH hN hj hy fy) mm))) hs hw⟩
end
end L2
namespace HT
open PySem PyProof.Rows
theorem sub_tuple_dict:isSubtype (.type "tuple") (.type "dict")=pure false:=by rw [isSubtype_type];kernel_rfl
theorem gO:isSubtype (.type "dict") (.type "tuple")=pure false:=by rw [isSubtype_type];kernel_rfl
theorem sJ (l b:Addr) (o:Obj) (hc:o.cls=.type "dict") (o2:Obj) (hc2:o2.cls=.type "tuple"):
  Meets (Builtin.«dict.__eq__» ⟨[.ref l,.ref b],[]⟩) (fun _ R s=>s.heap.get? l=some o∧s.heap.get? b=some o2∧R (.ok (.ret .notImplemented)) s):=
 .of_wp fun prog w A R s h=>by
  obtain ⟨hp,g,d,tk,os⟩:=s;obtain ⟨hl,hb,h⟩:=h;obtain ⟨cls,dd,data,sl⟩:=o;obtain ⟨cls2,dd2,data2,sl2⟩:=o2
  simp only at hc hc2;subst hc hc2
  have f1:=sub_tuple_dict;wp_walk using wpAny_loadPart' hl,wpAny_loadPart' hb;exact ⟨_,rfl,h⟩
theorem qd (l b:Addr) (o:Obj) (hc:o.cls=.type "tuple") (o2:Obj) (hc2:o2.cls=.type "dict"):
  Meets (Builtin.«tuple.__eq__» ⟨[.ref l,.ref b],[]⟩) (fun _ R s=>s.heap.get? l=some o∧s.heap.get? b=some o2∧R (.ok (.ret .notImplemented)) s):=
 .of_wp fun prog w A R s h=>by
  obtain ⟨hp,g,d,tk,os⟩:=s;obtain ⟨hl,hb,h⟩:=h;obtain ⟨cls,dd,data,sl⟩:=o;obtain ⟨cls2,dd2,data2,sl2⟩:=o2
  simp only at hc hc2;subst hc hc2
  have f1:=gO;wp_walk using wpAny_loadPart' hl,wpAny_loadPart' hb;exact ⟨_,rfl,h⟩
end HT
namespace L2
open PySem PySem.Spec PyProof.Rows
section
variable {X:Cx}
def yt (K:W.Frag):R2:=fun x y H Q=>∃ a b ys,x=.ref a∧y=.ref b∧((∃ kvs,H a=some (.dK kvs))∨∃ kvs,H a=some (.dT kvs))∧SqT K H b ys∧Q (.bl false) H
theorem zH (hu:X.A.units<cLine):OpR X (compareOp .Eq) (yt X.K):=by
 intro pins s σ H x y v u Q I rx ry h
 obtain ⟨a,b,ys,rfl,rfl,ha,hb,q⟩:=h
 cases rx
 cases ry
 obtain ⟨its,_,p1,_⟩:=I.tuple hb
 obtain ⟨o2,ho2,hc2,_⟩:=id p1
 obtain ⟨o,ho,hc⟩:∃ o,s.heap.get? a=some o∧o.cls=.type "dict" :=by
  rcases ha with ⟨kvs,e⟩ | ⟨kvs,e⟩
  · obtain ⟨_,_,_,_,o,_,_,h1,h2,_⟩:=(show aZ X.prog X.w H s.heap a (.dK kvs) from I.hok a _ e)
    exact ⟨o,h1,h2.1⟩
  · obtain ⟨_,_,_,_,o,_,_,h1,h2,_⟩:=(show aZ X.prog X.w H s.heap a (.dT kvs) from I.hok a _ e)
    exact ⟨o,h1,h2.1⟩
 have hne:a≠b:=fun e=>by
  subst e
  rw [ho] at ho2;cases ho2
  rw [hc] at hc2;exact absurd hc2 (by simp)
 show wpAny _ _ (richCompare .Eq (.ref a) (.ref b)) _ _ s
 exact SeqAt.rc_eq_decline_or (k:=false) ⟨_,ho,hc⟩ ⟨_,ho2,hc2⟩ (by decide) F.sub_tuple_dict F.slot_dict_eq F.slot_tuple_eq_refl
  (fun _ hq=>call_meets F.slot_dict_eq ⟨_,ho,hc⟩ F.entry_dict_eq (F.args_dict_eq_2 _ _) (HT.sJ a b o hc o2 hc2) ⟨ho,ho2,hq⟩)
  (fun _ hq=>call_meets F.slot_tuple_eq_refl ⟨_,ho2,hc2⟩ F.entry_tuple_eq (F.args_tuple_eq_2 _ _) (HT.qd b a o2 hc2 o hc) ⟨ho2,ho,hq⟩)
  (fun _ hq=>wpAny_isSame_ref_other hne ho ho2 (by rw [hc];simp) hq) (.inr hu) ⟨.bl false,H,I,rfl,q⟩
def bu (K:W.Frag):R2:=fun x y H Q=>match x,y with
 | .ref a,.ref b=>Cv K (.ref a) (.ref b) H Q∨pO K (.ref a) (.ref b) H Q∨yt K (.ref a) (.ref b) H Q
 | .ref a,y=>pO K (.ref a) y H Q
 | x,.ref b=>pO K x (.ref b) H Q
 | x,y=>mEq x y H Q
theorem bF (hu:X.A.units+150<cLine):OpR X (compareOp .Eq) (bu X.K):=((DY (by omega)).or ((BW hu).or ((zH (by omega)).or oEq))).imp fun x y H Q q=>by
 unfold bu at q
 split at q
 · exact q.elim .inl fun z=>z.elim (fun z=> .inr (.inl z)) fun z=> .inr (.inr (.inl z))
 · exact .inr (.inl q)
 · exact .inr (.inl q)
 · exact .inr (.inr (.inr q))
end
section
variable {X:Cx} {a:Expr} {t:TA} {p pos:Pos} {tg:Expr}
def xW:List V→Hp→VK→Prop:=fun xs H Q=>match xs with | [.int i,.int j]=>Q (.int (if j>i then j else i)) H | _=>False
theorem Ka (hc:X.calm=true):bx X (.builtin "max") xW:=fun pins s σ H xs us Q I r q=>by
 unfold xW at q
 split at q
 · exact uR hc pins s σ H _ us Q I r ⟨_,_,rfl,q⟩
 · exact q.elim
theorem pC : ∀ {ns : List Int} {its : List Value}, bc (ns.map V.int) its → PyProof.Rows.IntsAre its ns
  | [], its, h => by cases h; exact .nil
  | n :: r, its, h => by
    cases h with
    | cons h1 h2 =>
      obtain ⟨t, rfl⟩ := h1
      exact .cons _ _ (pC h2)
def Bu (K:W.Frag):List V→Hp→VK→Prop:=fun xs H Q=>∃ (a:Addr) (ns:List Int),xs=[.ref a]∧SqL K H a (ns.map V.int)∧Q (.int ns.sum) H
theorem JS (hc:X.calm=true):bx X (.builtin "sum") (Bu X.K):=fun pins s σ H xs us Q I r h=>by
 obtain ⟨a,ns,rfl,hq,q⟩:=h
 obtain ⟨u,rfl,ru⟩:=fH r
 cases ru
 obtain ⟨its,rv,p,hz⟩:=I.list hq
 have hi:=pC rv
 obtain ⟨ys,hy⟩:=hi.allInts.items
 have hl':s.heap.IsList a (intItems ys):=hy▸pV p
 refine sum_intListG (I.ok.hd hc) hl' fun h' tk t' hk=>?_
 have e1:ns=ys.toList.map (·.1):=by
  rw [← nums_intItems,←hy]
  exact (show numsOf its.toArray.toList=ns from hi.numsOf).symm
 have e2:preSum (numAt ys) ys.size=ns.sum:=by
  rw [preSum_eq,List.take_of_length_le (by simp),e1]
 rw [e2]
 exact ⟨.int ns.sum,H,I.kept (t':=tk) hk,⟨_,rfl⟩,q⟩
theorem xi:OpR X (binaryOp .FloorDiv) (rI (fun _ j=>0<j∧j<1267650600228229401496703205376) fun i j=> .int (i/j)):=opI fun i j _ _ _ _ _ hc q=>by
 have h1:(0:Int)<j:=hc.1
 have h2:j<1267650600228229401496703205376:=hc.2
 have h3:j.natAbs.log2<100:=(Nat.log2_lt (by omega)).mpr (Nat.lt_of_lt_of_eq (m:=1267650600228229401496703205376) (by omega) (by decide))
 exact floordiv_int (by omega) (by rw [Int.fdiv_eq_ediv_of_nonneg i (by omega)];exact q) (.inl (PyProof.noPylong_of_log2 (by omega)))
def bQ:R2:=fun x y H Q=>match x,y with | .int i,.int j=>(0<j∧j<1267650600228229401496703205376)∧Q (.int (i/j)) H | _,_=>False
theorem cz:OpR X (binaryOp .FloorDiv) bQ:=xi.imp fun x y H Q q=>by
 unfold bQ at q
 split at q
 · exact ⟨_,_,rfl,rfl,q.1,q.2⟩
 · exact q.elim
end
section
variable {α:Type} {l:List α}
theorem sX (h:l.length=0):l=[]:=List.length_eq_zero_iff.mp h
theorem eM (h : l.length = 1) : ∃ a0, l = [a0] := by
  cases l with
  | nil => simp at h
  | cons a l =>
    obtain rfl := sX (l := l) (by simpa using h)
    exact ⟨a, rfl⟩
theorem ss (h : l.length = 2) : ∃ a0 a1, l = [a0, a1] := by
  cases l with
  | nil => simp at h
  | cons a l =>
    obtain ⟨b0, rfl⟩ := eM (l := l) (by simpa using h)
    exact ⟨a, b0, rfl⟩
theorem zl (h : l.length = 3) : ∃ a0 a1 a2, l = [a0, a1, a2] := by
  cases l with
  | nil => simp at h
  | cons a l =>
    obtain ⟨b0, b1, rfl⟩ := ss (l := l) (by simpa using h)
    exact ⟨a, b0, b1, rfl⟩
theorem zi (h : l.length = 4) : ∃ a0 a1 a2 a3, l = [a0, a1, a2, a3] := by
  cases l with
  | nil => simp at h
  | cons a l =>
    obtain ⟨b0, b1, b2, rfl⟩ := zl (l := l) (by simpa using h)
    exact ⟨a, b0, b1, b2, rfl⟩
theorem yx (h : l.length = 5) : ∃ a0 a1 a2 a3 a4, l = [a0, a1, a2, a3, a4] := by
  cases l with
  | nil => simp at h
  | cons a l =>
    obtain ⟨b0, b1, b2, b3, rfl⟩ := zi (l := l) (by simpa using h)
    exact ⟨a, b0, b1, b2, b3, rfl⟩
theorem yL (h : l.length = 6) : ∃ a0 a1 a2 a3 a4 a5, l = [a0, a1, a2, a3, a4, a5] := by
  cases l with
  | nil => simp at h
  | cons a l =>
    obtain ⟨b0, b1, b2, b3, b4, rfl⟩ := yx (l := l) (by simpa using h)
    exact ⟨a, b0, b1, b2, b3, b4, rfl⟩
theorem Hy (h : l.length = 7) : ∃ a0 a1 a2 a3 a4 a5 a6, l = [a0, a1, a2, a3, a4, a5, a6] := by
  cases l with
  | nil => simp at h
  | cons a l =>
    obtain ⟨b0, b1, b2, b3, b4, b5, rfl⟩ := yL (l := l) (by simpa using h)
    exact ⟨a, b0, b1, b2, b3, b4, b5, rfl⟩
end
theorem be.le {A:Around} {m n:Nat} (h:be m A) (d:n≤m:=by first | decide | omega):be n A:=h.mono d
theorem scF {N P:List Str} {sc:Scope} (h1:sc.kind=.function:=by rfl) (h2:sc.isCoroutine=false:=by rfl) (h3:sc.isGenerator=false:=by rfl) (h4:N.Nodup:=by decide +kernel) (h5:N.take P.length=P:=by rfl)
 (h6:∀ x∈P,sc.names.lookup x=some .local∨sc.names.lookup x=some .cell:=by decide +kernel) (h7:∀ y∈sc.names,y.2≠ .free:=by decide +kernel):aA N P sc:=⟨h1,h2,h3,h4,h5,h6,h7⟩
structure Fm (K:W.Frag) (mg:Str→Option Value) (x qual:Str) (st:Stmt) (a:Addr) (d:FuncData) (ps:List Str):Prop where
 f:Fun K x qual st a d
 m:mg x=some (.ref a)
 b:bO K d ps []
structure Fa (K:W.Frag) (x qual:Str) (st:Stmt) (a:Addr) (d:FuncData):Prop where
 m:W.nsIn K mainGlobals x=some (some (.ref a))
 f:Fun K x qual st a d
section
variable {P:Program} {w:World} {K:W.Frag} {mg:Str→Option Value} {base h:Heap} {x qual:Str} {st:Stmt} {a:Addr} {d:FuncData} {ps:List Str}
theorem aT {oc:Value} {od an:Option Addr} {osl:Array (Option Value)} {kV doc pm cdv ct:Value} (m:W.nsIn K mainGlobals x=some (some (.ref a))) (l:K.lookup a=some ⟨oc,od,.func (W.fnOf x qual (bI st) (aP st) (am st) .none kV doc pm an cdv ct),osl⟩)
 (c:W.codeIn K cdv qual=true) (k:W.keepIn K (.ref a)=true):Fa K x qual st a (W.fnOf x qual (bI st) (aP st) (am st) .none kV doc pm an cdv ct):=⟨m,fJ l c k⟩
theorem Fa.code (F:Fa K x qual st a d) (X:K.In h) (G:h.Ns mainGlobals mg) {z t:Addr} (ht:W.tabIn K x=some (z,t)):d.code=.ref z:=by
 obtain ⟨oc,od,kV,doc,pm,an,cdv,ct,osl,e,lk,hcd⟩:=F.f.ex
 exact W.law_code X G ht (W.mg_of X G F.m) (X _ _ lk) rfl
theorem Fun.bt {p:Str} (F:Fun K x qual st a d) (hb:∀ (kV doc pm:Value) (an:Option Addr) (cdv ct v:Value),bindArgs (W.fnOf x qual (bI st) (aP st) (am st) .none kV doc pm an cdv ct) ⟨[v],[]⟩=pure [(p,v)]:=by intros;rfl) (s:Shared) (v:Value):BindsTo s d ⟨[v],[]⟩ [(p,v)]:=by
 obtain ⟨oc,od,kV,doc,pm,an,cdv,ct,osl,rfl,lk,hcd⟩:=F.ex
 exact .of_eq (hb kV doc pm an cdv ct v)
theorem Fun.b0 (F:Fun K x qual st a d) (hb:∀ (kV doc pm:Value) (an:Option Addr) (cdv ct:Value),bindArgs (W.fnOf x qual (bI st) (aP st) (am st) .none kV doc pm an cdv ct) ⟨[],[]⟩=pure (List.zip [] []):=by intros;rfl):bO K d [] []:=F.binds fun kV doc pm an cdv ct us hl=>by
 obtain rfl:=L2.sX hl
 exact hb kV doc pm an cdv ct
theorem Fa.fm0 (F:Fa K x qual st a d) (X:K.In h) (G:h.Ns mainGlobals mg) (hb:∀ (kV doc pm:Value) (an:Option Addr) (cdv ct:Value),bindArgs (W.fnOf x qual (bI st) (aP st) (am st) .none kV doc pm an cdv ct) ⟨[],[]⟩=pure (List.zip [] []):=by intros;rfl):Fm K mg x qual st a d []:=⟨F.f,W.mg_of X G F.m,F.f.b0 hb⟩
theorem Fun.b1 {p0:Str} (F:Fun K x qual st a d) (hb:∀ (kV doc pm:Value) (an:Option Addr) (cdv ct u0:Value),bindArgs (W.fnOf x qual (bI st) (aP st) (am st) .none kV doc pm an cdv ct) ⟨[u0],[]⟩=pure (List.zip [p0] [u0]):=by intros;rfl):bO K d [p0] []:=F.binds fun kV doc pm an cdv ct us hl=>by
 obtain ⟨u0,rfl⟩:=L2.eM hl
 exact hb kV doc pm an cdv ct u0
theorem Fa.fm1 {p0:Str} (F:Fa K x qual st a d) (X:K.In h) (G:h.Ns mainGlobals mg) (hb:∀ (kV doc pm:Value) (an:Option Addr) (cdv ct u0:Value),bindArgs (W.fnOf x qual (bI st) (aP st) (am st) .none kV doc pm an cdv ct) ⟨[u0],[]⟩=pure (List.zip [p0] [u0]):=by intros;rfl):Fm K mg x qual st a d [p0]:=⟨F.f,W.mg_of X G F.m,F.f.b1 hb⟩
theorem Fun.b2 {p0 p1:Str} (F:Fun K x qual st a d) (hb:∀ (kV doc pm:Value) (an:Option Addr) (cdv ct u0 u1:Value),bindArgs (W.fnOf x qual (bI st) (aP st) (am st) .none kV doc pm an cdv ct) ⟨[u0,u1],[]⟩=pure (List.zip [p0,p1] [u0,u1]):=by intros;rfl):bO K d [p0,p1] []:=F.binds fun kV doc pm an cdv ct us hl=>by
 obtain ⟨u0,u1,rfl⟩:=L2.ss hl
 exact hb kV doc pm an cdv ct u0 u1
theorem Fa.fm2 {p0 p1:Str} (F:Fa K x qual st a d) (X:K.In h) (G:h.Ns mainGlobals mg) (hb:∀ (kV doc pm:Value) (an:Option Addr) (cdv ct u0 u1:Value),bindArgs (W.fnOf x qual (bI st) (aP st) (am st) .none kV doc pm an cdv ct) ⟨[u0,u1],[]⟩=pure (List.zip [p0,p1] [u0,u1]):=by intros;rfl):Fm K mg x qual st a d [p0,p1]:=⟨F.f,W.mg_of X G F.m,F.f.b2 hb⟩
theorem Fun.b3 {p0 p1 p2:Str} (F:Fun K x qual st a d) (hb:∀ (kV doc pm:Value) (an:Option Addr) (cdv ct u0 u1 u2:Value),bindArgs (W.fnOf x qual (bI st) (aP st) (am st) .none kV doc pm an cdv ct) ⟨[u0,u1,u2],[]⟩=pure (List.zip [p0,p1,p2] [u0,u1,u2]):=by intros;rfl):bO K d [p0,p1,p2] []:=F.binds fun kV doc pm an cdv ct us hl=>by
 obtain ⟨u0,u1,u2,rfl⟩:=L2.zl hl
 exact hb kV doc pm an cdv ct u0 u1 u2
theorem Fa.fm3 {p0 p1 p2:Str} (F:Fa K x qual st a d) (X:K.In h) (G:h.Ns mainGlobals mg) (hb:∀ (kV doc pm:Value) (an:Option Addr) (cdv ct u0 u1 u2:Value),bindArgs (W.fnOf x qual (bI st) (aP st) (am st) .none kV doc pm an cdv ct) ⟨[u0,u1,u2],[]⟩=pure (List.zip [p0,p1,p2] [u0,u1,u2]):=by intros;rfl):Fm K mg x qual st a d [p0,p1,p2]:=⟨F.f,W.mg_of X G F.m,F.f.b3 hb⟩
theorem Fun.b4 {p0 p1 p2 p3:Str} (F:Fun K x qual st a d) (hb:∀ (kV doc pm:Value) (an:Option Addr) (cdv ct u0 u1 u2 u3:Value),bindArgs (W.fnOf x qual (bI st) (aP st) (am st) .none kV doc pm an cdv ct) ⟨[u0,u1,u2,u3],[]⟩=pure (List.zip [p0,p1,p2,p3] [u0,u1,u2,u3]):=by intros;rfl):bO K d [p0,p1,p2,p3] []:=F.binds fun kV doc pm an cdv ct us hl=>by
 obtain ⟨u0,u1,u2,u3,rfl⟩:=L2.zi hl
 exact hb kV doc pm an cdv ct u0 u1 u2 u3
theorem Fa.fm4 {p0 p1 p2 p3:Str} (F:Fa K x qual st a d) (X:K.In h) (G:h.Ns mainGlobals mg) (hb:∀ (kV doc pm:Value) (an:Option Addr) (cdv ct u0 u1 u2 u3:Value),bindArgs (W.fnOf x qual (bI st) (aP st) (am st) .none kV doc pm an cdv ct) ⟨[u0,u1,u2,u3],[]⟩=pure (List.zip [p0,p1,p2,p3] [u0,u1,u2,u3]):=by intros;rfl):Fm K mg x qual st a d [p0,p1,p2,p3]:=⟨F.f,W.mg_of X G F.m,F.f.b4 hb⟩
theorem Fun.b5 {p0 p1 p2 p3 p4:Str} (F:Fun K x qual st a d) (hb:∀ (kV doc pm:Value) (an:Option Addr) (cdv ct u0 u1 u2 u3 u4:Value),bindArgs (W.fnOf x qual (bI st) (aP st) (am st) .none kV doc pm an cdv ct) ⟨[u0,u1,u2,u3,u4],[]⟩=pure (List.zip [p0,p1,p2,p3,p4] [u0,u1,u2,u3,u4]):=by intros;rfl):bO K d [p0,p1,p2,p3,p4] []:=F.binds fun kV doc pm an cdv ct us hl=>by
 obtain ⟨u0,u1,u2,u3,u4,rfl⟩:=L2.yx hl
 exact hb kV doc pm an cdv ct u0 u1 u2 u3 u4
theorem Fa.fm5 {p0 p1 p2 p3 p4:Str} (F:Fa K x qual st a d) (X:K.In h) (G:h.Ns mainGlobals mg) (hb:∀ (kV doc pm:Value) (an:Option Addr) (cdv ct u0 u1 u2 u3 u4:Value),bindArgs (W.fnOf x qual (bI st) (aP st) (am st) .none kV doc pm an cdv ct) ⟨[u0,u1,u2,u3,u4],[]⟩=pure (List.zip [p0,p1,p2,p3,p4] [u0,u1,u2,u3,u4]):=by intros;rfl):Fm K mg x qual st a d [p0,p1,p2,p3,p4]:=⟨F.f,W.mg_of X G F.m,F.f.b5 hb⟩
theorem Fun.b6 {p0 p1 p2 p3 p4 p5:Str} (F:Fun K x qual st a d) (hb:∀ (kV doc pm:Value) (an:Option Addr) (cdv ct u0 u1 u2 u3 u4 u5:Value),bindArgs (W.fnOf x qual (bI st) (aP st) (am st) .none kV doc pm an cdv ct) ⟨[u0,u1,u2,u3,u4,u5],[]⟩=pure (List.zip [p0,p1,p2,p3,p4,p5] [u0,u1,u2,u3,u4,u5]):=by intros;rfl):bO K d [p0,p1,p2,p3,p4,p5] []:=F.binds fun kV doc pm an cdv ct us hl=>by
 obtain ⟨u0,u1,u2,u3,u4,u5,rfl⟩:=L2.yL hl
 exact hb kV doc pm an cdv ct u0 u1 u2 u3 u4 u5
theorem Fa.fm6 {p0 p1 p2 p3 p4 p5:Str} (F:Fa K x qual st a d) (X:K.In h) (G:h.Ns mainGlobals mg) (hb:∀ (kV doc pm:Value) (an:Option Addr) (cdv ct u0 u1 u2 u3 u4 u5:Value),bindArgs (W.fnOf x qual (bI st) (aP st) (am st) .none kV doc pm an cdv ct) ⟨[u0,u1,u2,u3,u4,u5],[]⟩=pure (List.zip [p0,p1,p2,p3,p4,p5] [u0,u1,u2,u3,u4,u5]):=by intros;rfl):Fm K mg x qual st a d [p0,p1,p2,p3,p4,p5]:=⟨F.f,W.mg_of X G F.m,F.f.b6 hb⟩
theorem Fun.b7 {p0 p1 p2 p3 p4 p5 p6:Str} (F:Fun K x qual st a d) (hb:∀ (kV doc pm:Value) (an:Option Addr) (cdv ct u0 u1 u2 u3 u4 u5 u6:Value),bindArgs (W.fnOf x qual (bI st) (aP st) (am st) .none kV doc pm an cdv ct) ⟨[u0,u1,u2,u3,u4,u5,u6],[]⟩=pure (List.zip [p0,p1,p2,p3,p4,p5,p6] [u0,u1,u2,u3,u4,u5,u6]):=by intros;rfl):bO K d [p0,p1,p2,p3,p4,p5,p6] []:=F.binds fun kV doc pm an cdv ct us hl=>by
 obtain ⟨u0,u1,u2,u3,u4,u5,u6,rfl⟩:=L2.Hy hl
 exact hb kV doc pm an cdv ct u0 u1 u2 u3 u4 u5 u6
theorem Fa.fm7 {p0 p1 p2 p3 p4 p5 p6:Str} (F:Fa K x qual st a d) (X:K.In h) (G:h.Ns mainGlobals mg) (hb:∀ (kV doc pm:Value) (an:Option Addr) (cdv ct u0 u1 u2 u3 u4 u5 u6:Value),bindArgs (W.fnOf x qual (bI st) (aP st) (am st) .none kV doc pm an cdv ct) ⟨[u0,u1,u2,u3,u4,u5,u6],[]⟩=pure (List.zip [p0,p1,p2,p3,p4,p5,p6] [u0,u1,u2,u3,u4,u5,u6]):=by intros;rfl):Fm K mg x qual st a d [p0,p1,p2,p3,p4,p5,p6]:=⟨F.f,W.mg_of X G F.m,F.f.b7 hb⟩
theorem Fun.okS {CX:CXT} {N:List Str} {k:Nat} {sp:Sp} {t:TS} (F:Fun K x qual st a d) (S:aA N ps (am st)) (len:∀ vs H Q E,sp vs H Q E→vs.length=ps.length)
  (hrd:∀ (vs:List V) (H:Hp) (Q:VK) (E:XK),sp vs H Q E→t { nx:=fun _ H'=>Q .non H',rt:=Q } (bL N vs) H)
  (hq:∀ (cdv:Value) (A:Around) (outer:List Env) (s:Shared) (H:Hp) (E:XK),be k (A.deeper (envOfC qual (am st) s.heap.objs.size a cdv))→QSs (cq CX P w K mg base N qual (am st) a cdv A outer s H E).nox (aP st) t):aO P w K mg base CX (k+1) a d ps sp:=
 F.okN S len fun cdv A outer s H vs Q E hr h=>⟨t,(hq cdv A outer s H E hr).out,hrd vs H Q E h⟩
end
section
variable {X:Cx} {x q:Str} {e:Expr} {es:List Expr} {t:TA} {p pos:Pos} {st:Stmt} {f:Addr} {fd:FuncData} {ps:List Str} {k:Nat} {sp:Sp}
theorem aK {P:Program} {w:World} (F:aO X.prog X.w X.K X.mg X.base (CX1 P w) k f fd ps sp) (hr:be k X.A) (M:Fm X.K X.mg x q st f fd ps)
 (ha:QA X (e::es) t) (hg:Gl X x:=by rfl) (hdb:(x==("__debug__" :Str))=false:=by decide) (hs:bp (e::es)=true:=by rfl):QE X (.Call (.Name x p) (e::es) [] pos) (ar sp (fun _=>E0) t):=bR F hr M.m M.f.kp M.b dU ha hg hdb hs
end
section
variable {X:Cx}
theorem Dz {x y z:Str} {px py pz ep pos:Pos} {ek:Nat} {e:Expr} {te:TE} (i j k:Nat) (hN:X.N.Nodup) (hc:X.calm=true) (he:QE X e te) (hi:X.N[i]?=some x:=by rfl) (hj:X.N[j]?=some y:=by rfl) (hk:X.N[k]?=some z:=by rfl)
  (hx:Loc X.env.scope x:=by first | exact .inl rfl | exact .inr rfl) (hy:Loc X.env.scope y:=by first | exact .inl rfl | exact .inr rfl) (hz:Loc X.env.scope z:=by first | exact .inl rfl | exact .inr rfl)
  (fx:X.fn x=true∨X.env.scope.names.lookup x=some .local:=by first | exact .inl rfl | exact .inr rfl) (fy:X.fn y=true∨X.env.scope.names.lookup y=some .local:=by first | exact .inl rfl | exact .inr rfl) (fz:X.fn z=true∨X.env.scope.names.lookup z=some .local:=by first | exact .inl rfl | exact .inr rfl)
  (hs:swapsWithSole [.Tuple [.Name x px,.Name y py,.Name z pz] ek ep] e pos.line X.env=pure false:=by rfl) (hw:swappedStores [.Tuple [.Name x px,.Name y py,.Name z pz] ek ep] e X.env=pure none:=by rfl):
  QS X (.Assign [.Tuple [.Name x px,.Name y py,.Name z pz] ek ep] e pos) (aH te (jc X.K 3 (cI (ax i) (cI (ax j) (cI (ax k) jq))))):=
 ⟨kQ he.out (pA hc (dz (dH hN hi hx fx) (dz (dH hN hj hy fy) (dz (dH hN hk hz fz) mm)))) hs hw⟩
end
end L2
namespace HT
open PySem PySem.W PyProof.Rows
abbrev kn (C t:Addr) (d:Option Addr):Obj:={ cls:=.ref C,dict:=d,data:=.fields #[.ref t,.none,.none,.none,.bool false,.none] }
abbrev gH (h:Heap) (C:Addr) (us:List Value):Heap:=(h.push { cls:=.type "tuple",data:=.seq us.toArray }).push (kn C h.objs.size none)
section
variable {prog:Program} {w:World} {A:Around} {K:Frag} {C f:Addr} {R:Result→Shared→Prop} {h:Heap} {g:Array GenState} {d:Drawn} {t:Nat} {os:OsState}
theorem yk {us:List Value} (X:K.In h) (hC:L2.bX K C) (hi:findIn K (.ref C) "__init__" =some (some (.ref f))) (hf:typeIn K (.ref f)=some (.type "function")) (hus:us.length≤sizeLine)
  (hq:codeAny (model prog w) (A.under (.builtin "type.__call__" ⟨.ref C::us,[]⟩)) (.call (.ref f) ⟨.ref (h.objs.size+1)::us,[]⟩) (InitBack (h.objs.size+1) R) ⟨gH h C us,g,d,t,os⟩):
  codeAny (model prog w) A (.call (.ref C) ⟨us,[]⟩) R ⟨h,g,d,t,os⟩:=by
 obtain ⟨bm,N,nm,qn,bs,hdct,sn,sub,ab,col,dd,k0,k1,k2,k3,k5,mN,oC,hN,_,T,_⟩:=L2.eZ X hC
 have f1:=tc_lookup
 have f2:=tc_bind (.ref C)
 have hT:(⟨h,g,d,t,os⟩:Shared).TypeIs (.ref C) "type" :=⟨_,oC,rfl⟩
 have FB:=F.excBase_ValueError
 have hBn:(L2.veM).contains (.type "ValueError")=true:=by decide +kernel
 refine codeAny_of_tree ?_
 show wpAny _ _ (callAny (.ref C) _) _ _ _
 repeat (any_goals (first | assumption | with_reducible refine wpAny_loadPart_at oC ?_ | wp_step))
 refine ⟨rfl,?_⟩
 refine codeAny_call_builtin_at (Code.quiet_builtin _ (by decide +kernel)) entry_typeCall (wpAny_check_type_call_sub oC ?_)
 repeat (first | with_reducible refine wpAny_loadPart_at oC ?_ | with_reducible refine wpAny_madeBy_exc oC ?_ | wp_step)
 refine codeAny_call_builtin_code (Code.quiet_builtin _ FB.quiet) (wpAny_check_new_subU FB hBn T oC ?_)
 refine codeAny_exc_new_subU FB hBn FB T oC ?_ hus
 show wpAny _ _ _ _ _ _
 have k:∀ b o,h.get? b=some o→(gH h C us).get? b=some o:=fun b o e=>Heap.get?_push_of_some _ (Heap.get?_push_of_some _ e)
 have hx:(gH h C us).get? (h.objs.size+1)=some (kn C h.objs.size none):=by heap_get
 have oC1:=k _ _ oC
 have hcC:(Value.ref C::bm).contains (.ref C)=true:=by simp
 have t1:Looks (model prog w) (gH h C us) (typeOf (.ref (h.objs.size+1))) (.ref C):=(Looks.ld hx).andThen .now
 have i1:=(looks_findIn (M:=model prog w) X hi).keeps k
 have b1:=(bind_fn (M:=model prog w) X (.ref (h.objs.size+1)) hf).keeps k
 unfold isInstance
 repeat (first | with_reducible refine wpAny_loadPart_at hx ?_ | (with_reducible refine wpAny_isSubtype_exc oC1 ?_;rw [hcC]) | wp_step)
 show wpAny _ _ (isSubtype (.ref C) (.ref C)) _ _ ⟨gH h C us,g,d,t,os⟩
 refine wpAny_isSubtype_exc oC1 ?_
 rw [hcC,if_neg (by decide)]
 unfold callSpecial? specialOf
 repeat (first | with_reducible refine wpAny_call ?_ | lk)
 refine codeAny_mono hq fun r s' z=>?_
 rcases r with e | (v | _ | _ | _) <;> first | exact z | exact z.elim | skip
 obtain ⟨rfl,z⟩:=z
 exact wpAny_pure (wpAny_pure z)
end
end HT
namespace HT
open PySem PySem.W PyProof.Rows
open Builtin Builtin.ObjectAttr
theorem qf (self:Value) {h:Heap} {bm:List Value} (T:OwnTail h L2.veM bm):refuseLoop self "__setattr__" bm=pure ():=by
 induction T with
 | base=>exact PySem.F.store_ValueError.passes self
 | own _ _ _ _ ih=>rw [refuseLoop_ref];exact ih
structure eI (K:Frag) (C:Addr) (name:Str):Prop where
 ok:L2.bX K C
 sa:findIn K (.ref C) "__setattr__" =some (some (.builtin "object.__setattr__"))
 eg:L2.cK K C
 no:findIn K (.ref C) name=some none
 hd:hasDictIn K C=true
section
variable {prog:Program} {w:World} {A:Around} {E:Value→Shared→Prop} {s:Shared} {K:Frag} {x C:Addr} {name:Str} {v:Value}
theorem qC {ox : Obj} {od : Option Obj} {tk : Tok} {R : Result → Shared → Prop} (X : K.In s.heap) (I : InstAt s.heap x ox C od) (G : eI K C name)
  (h : wpAny (model prog w) A.in1 (storeInOwnDict (.ref x) (.ref C) (.str name tk) name v false)
   (fun fin s' => match fin with | .done f => R (.ok f) s' | .again c' => c'.quiet = true ∧ codeAny (model prog w) A c' R s') (fun e s' => R (.error e) s') s) :
  codeAny (model prog w) A (.call (.builtin "object.__setattr__") ⟨[.ref x, .str name tk, v], []⟩) R s := by
 have SF := PySem.F.store_object
 obtain ⟨bm, N, nm, qn, bs, hdct, sn, sub, ab, col, dd, k0, k1, k2, k3, k5, mN, oC, hN, _, T, _⟩ := L2.eZ X G.ok
 have hm : Looks (model prog w) s.heap (mroOf (.ref C)) (.ref C :: bm) := ((Looks.ld (part := none) oC).andThen .now).andThen .now
 have hsub : Looks (model prog w) s.heap (isSubtype (.ref C) (.type "object")) true := fun A' Q' E' s' k q => by
  obtain ⟨hh, g, d, t, os⟩ := s'
  refine wpAny_isSubtype_exc (k _ _ oC) ?_
  rw [List.contains_cons, T.hasType (X := "object") (b := true) (by decide +kernel), Bool.or_true]; exact q
 have hsub' : Looks (model prog w) s.heap (isInstance (.ref x) (.type "object")) true := I.type.andThen hsub
 refine codeAny_call_builtin SF.slot.plain SF.entry (@check_slot (model prog w) _ _ s "object.__setattr__" "object" "__setattr__" (.ref x) [.str name tk, v] [] _ SF.kind SF.split hsub' (SF.args (.ref x) (.str name tk) v) ?_)
 rw [osa_eq, refuse_eq]
 refine wpAny_bind (wpAny_bind (I.type.here (wpAny_bind (hm.here ?_))))
 rw [refuseLoop_ref, qf _ T]
 exact wpAny_pure (wpAny_bind (I.type.here (wpAny_bind ((looks_findIn X G.no).here (wpAny_bind (wpAny_pure h))))))
theorem zS {ox:Obj} {dx:Addr} {mA:Str→Option Value} {ns:List Str} {Q:Unit→Shared→Prop} (X:K.In s.heap) (hx:s.heap.get? x=some ox) (hc:ox.cls=.ref C) (hdx:ox.dict=some dx) (hf:∃ vs,ox.data=.fields vs) (hn:s.heap.Ns1 dx mA) (ne:dx≠x) (G:eI K C name)
  (hw:Within mA ns) (hsz:ns.length≤sizeLine) (h:∀ h' t',h'.Ns1 dx (fun y=>if y=name then some v else mA y)→Heap.SameBut dx s.heap h'→Q () { s with heap:=h',toks:=t' }):wpAny (model prog w) A (setAttr (.ref x) name v) Q E s:=by
 obtain ⟨vs,hvs⟩:=hf
 obtain ⟨oc,od,odt,osl⟩:=ox
 dsimp only at hc hdx hvs
 subst hc hdx hvs
 obtain ⟨oD0,esD0,epD0,hoD0,_⟩:=id hn
 have J:InstAt s.heap x _ C (some oD0):=⟨hx,rfl,rfl,hoD0⟩
 refine set_plain X J G.sa (qC (s:={ s with toks:=s.toks+1 }) X J G ?_)
 obtain ⟨cd,hcc,hd'⟩:=any_some G.hd
 refine wpAny_bind (wpAny_pure (wpAny_bind (wpAny_bind (wpAny_loadPart hx (wpAny_bind (Looks.here (s:={ s with toks:=s.toks+1 }) (looks_clsIn X hcc) ?_))))))
 rw [hd']
 refine wpAny_pure (a:=some dx) (wpAny_bind (wpAny_pure (wpAny_bind ?_)))
 refine wpAny_nsSet1 (s:={ s with toks:=s.toks+1 }) hn fun h' hn2 hs2=>?_
 obtain ⟨oD,esD,epD,hoD,hdD,hcD⟩:=hn2.count (Within.cons name v hw)
 refine wpAny_bind (wpAny_lookBehind hoD (by rw [hdD];exact pastItsLine_dict (Nat.le_trans hcD (by rw [List.length_cons];omega))) ?_)
 exact wpAny_pure (h _ _ hn2 hs2)
theorem wJ {ox:Obj} {Q:Unit→Shared→Prop} (X:K.In s.heap) (hx:s.heap.get? x=some ox) (hc:ox.cls=.ref C) (hdx:ox.dict=none) (hf:∃ vs,ox.data=.fields vs) (G:eI K C name)
  (h:∀ h' t',h'.get? x=some { ox with dict:=some s.heap.objs.size }→h'.Ns1 s.heap.objs.size (fun y=>if y=name then some v else none)→(∀ b o,b≠x→s.heap.get? b=some o→h'.get? b=some o)→Q () { s with heap:=h',toks:=t' }):
  wpAny (model prog w) A (setAttr (.ref x) name v) Q E s:=by
 obtain ⟨vs,hvs⟩:=hf
 obtain ⟨oc,od,odt,osl⟩:=ox
 dsimp only at hc hdx hvs
 subst hc hdx hvs
 have J:InstAt s.heap x _ C none:=⟨hx,rfl,rfl,trivial⟩
 refine set_plain X J G.sa (qC (s:={ s with toks:=s.toks+1 }) X J G ?_)
 obtain ⟨cd,hcc,hd'⟩:=any_some G.hd
 refine wpAny_bind (wpAny_pure (wpAny_bind (wpAny_bind (wpAny_loadPart hx (wpAny_bind (Looks.here (s:={ s with toks:=s.toks+1 }) (looks_clsIn X hcc) ?_))))))
 rw [hd']
 show wpAny _ _ (alloc { cls:=.type "dict",data:=.dict #[] }>>=fun d=>update x (fun o=>{ o with dict:=some d })>>=fun _=>pure (some d)) _ _ _
 have xs:x≠s.heap.objs.size:=Nat.ne_of_lt (Heap.lt_size hx)
 have hx1:(s.heap.push { cls:=.type "dict",data:=.dict #[] }).get? x=some _:=Heap.get?_push_of_some _ hx
 refine wpAny_bind (wpAny_alloc' (wpAny_bind (wpAny_update' hx1 (wpAny_pure ?_))))
 generalize hh2:((s.heap.push { cls:=.type "dict",data:=.dict #[] }).update x fun o=>{ o with dict:=some s.heap.objs.size })=h2
 have hx2:h2.get? x=some ⟨.ref C,some s.heap.objs.size,.fields vs,osl⟩:=by rw [← hh2];exact Heap.get?_update_self _ hx1 rfl
 have hd2:h2.get? s.heap.objs.size=some { cls:=.type "dict",data:=.dict #[] }:=by rw [← hh2];exact (Heap.get?_update_ne _ _ _ _ xs.symm).trans (Heap.get?_push_at rfl rfl)
 have k2:∀ b o,b≠x→s.heap.get? b=some o→h2.get? b=some o:=fun b o nb e=>by rw [← hh2];exact (Heap.get?_update_ne _ _ _ _ nb).trans (Heap.get?_push_of_some _ e)
 have n2:h2.Ns s.heap.objs.size (fun _=>none):=⟨_,#[],_,hd2,rfl,fun e he=>absurd he (by simp),fun _=>rfl⟩
 show wpAny _ _ (storeInDict s.heap.objs.size (.str name s.toks) name v) _ _ { s with heap:=h2,toks:=s.toks+1 }
 unfold storeInDict newKeyGuard
 refine wpAny_bind (wpAny_pure (wpAny_bind (wpAny_nsSet1 (s:={ s with heap:=h2,toks:=s.toks+1 }) (Heap.Ns1.of_empty n2) fun h' hn' hs=>?_)))
 obtain ⟨oD,esD,epD,hoD,hdD,hcD⟩:=hn'.count (Within.cons name v Within.nil)
 refine wpAny_bind (wpAny_lookBehind hoD (by rw [hdD];exact pastItsLine_dict (Nat.le_trans hcD (by rw [List.length_cons,List.length_nil,sizeLine_eq];omega))) ?_)
 exact wpAny_pure (h _ _ ((hs.2 x xs).trans hx2) hn' fun b o nb e=>(hs.2 b (Nat.ne_of_lt (Heap.lt_size e))).trans (k2 b o nb e))
end
section
variable {prog:Program} {w:World} {A:Around} {E:Value→Shared→Prop} {h:Heap} {g:Array GenState} {d:Drawn} {t:Nat} {os:OsState} {K:Frag} {a C:Addr} {o:Obj} {od:Option Obj} {name:Str} {v:Value}
theorem xw {tk:Tok} {Q:Fin→Shared→Prop} (X:K.In h) (I:InstAt h a o C od) (hf:findObj K C od name=some (.value v)) (hq:Q (.done (.ret v)) ⟨h,g,d,t,os⟩):
  wpAny (model prog w) A (Builtin.«object.__getattribute__» ⟨[.ref a,.str name tk],[]⟩) Q E ⟨h,g,d,t,os⟩:=by
 have L0:=I.type (M:=model prog w)
 have L1:=looks_find (M:=model prog w) X I hf
 unfold Builtin.«object.__getattribute__»
 refine wpAny_bind (wpAny_pure (wpAny_bind (wpAny_pure (wpAny_bind (L0.at (wpAny_bind (L1.at ?_)))))))
 exact wpAny_pure hq
theorem zE {tk:Tok} {R:Result→Shared→Prop} (X:K.In h) (G:L2.cK K C) (I:InstAt h a o C od) (hf:findObj K C od name=some (.value v)) (hq:R (.ok (.ret v)) ⟨h,g,d,t,os⟩):
  codeAny (model prog w) A (.call (.builtin "BaseException.__getattribute__") ⟨[.ref a,.str name tk],[]⟩) R ⟨h,g,d,t,os⟩:=
 codeAny_call_builtin F.excAttr_ValueError.ga.plain F.entry_bexc_ga (L2.pR X G I.at_ I.cls (xw X I hf hq))
theorem GH {tk:Tok} {fill expr:Bool} {Q:Value→Shared→Prop} (X:K.In h) (G:L2.cK K C) (I:InstAt h a o C od) (hf:findObj K C od name=some (.value v)) (hh:handedIn v=true) (hq:Q v ⟨h,g,d,t,os⟩):
  wpAny (model prog w) A (getAttrBy (.ref a) (.str name tk) fill expr) Q E ⟨h,g,d,t,os⟩:=by
 have f3:=F.excAttr_ValueError.ga.bind (.ref a)
 have L0:=I.type (M:=model prog w)
 have L1:=looks_findIn (M:=model prog w) X G.ga
 have L2':=looks_findIn (M:=model prog w) X G.na
 have hx2:(Value.builtin "BaseException.__getattribute__" ==Value.builtin "object.__getattribute__")=false:=by decide +kernel
 have hx0:(expr&&onTheHeap (Value.builtin "BaseException.__getattribute__"))=false:=by cases expr <;> rfl
 unfold getAttrBy
 refine wpAny_holding (wpAny_bind (L0.at (wpAny_bind (L1.at ?_))))
 show wpAny _ _ (if (onTheHeap (Value.ref C)&&Value.builtin "BaseException.__getattribute__" ==Value.builtin "object.__getattribute__")=true then _ else _) _ _ _
 rw [hx2,Bool.and_false,if_neg Bool.false_ne_true]
 unfold getAttrByItsOwn
 refine wpAny_bind ?_
 show wpAny _ _ (typeLookup (.ref C) "__getattr__") _ _ _
 refine L2'.at (wpAny_bind (wpAny_attempt (wpAny_holding ?_)))
 unfold callGetattribute
 rw [hx0,if_neg Bool.false_ne_true]
 unfold boundAndCalled
 rw [f3]
 refine wpAny_bind (wpAny_pure (wpAny_call (zE X G I hf ?_)))
 show wpAny _ _ (handedOut v) _ _ _
 rw [handedOut_of hh];exact wpAny_pure hq
theorem zT {dx:Addr} {mA:Str→Option Value} {expr:Bool} {Q:Value→Shared→Prop} (X:K.In h) (hx:h.get? a=some o) (hc:o.cls=.ref C) (hdx:o.dict=some dx) (hfl:∃ vs,o.data=.fields vs) (hn:h.Ns1 dx mA) (G:eI K C name)
  (hv:mA name=some v) (hh:handedIn v=true) (hq:Q v ⟨h,g,d,t+1,os⟩):wpAny (model prog w) A (getAttr (.ref a) name expr) Q E ⟨h,g,d,t,os⟩:=by
 obtain ⟨vs,hvs⟩:=hfl
 obtain ⟨oc,odd,odt,osl⟩:=o
 dsimp only at hc hdx hvs
 subst hc hdx hvs
 obtain ⟨od,ho,hl⟩:=L2.mP hn
 have J:InstAt h a _ C (some od):=⟨hx,rfl,rfl,ho⟩
 unfold getAttr
 exact wpAny_bind (wpAny_mkText (GH X G.eg J (findObj_own G.hd G.no rfl (by rw [hl,hv])) hh hq))
end
end HT
namespace L2
open PySem PySem.Spec PyProof.Rows
def eS (C a:Addr) (d:Option Addr):HO:=.ext fun h=>∃ t,h.get? a=some (HT.kn C t d)
theorem rl {P:Program} {w:World} {H:Hp} {h:Heap} {C a t:Addr} {d:Option Addr} (e:h.get? a=some (HT.kn C t d)):aZ P w H h a (eS C a d):=⟨⟨t,e⟩,⟨_,e⟩,fun h1 h2 ⟨t1,e1⟩ k=>⟨t1,k _ e1⟩⟩
theorem lR {P:Program} {w:World} {H:Hp} {h:Heap} {C a:Addr} {d:Option Addr} (x:aZ P w H h a (eS C a d)):∃ t,h.get? a=some (HT.kn C t d):=x.1
def fw (fs:List (Str×V)) (dx:Addr):HO:=.ext fun h=>∃ mA,h.Ns1 dx mA∧∀ f,cJ (fs.lookup f) (mA f)
theorem qx {P:Program} {w:World} {H:Hp} {h:Heap} {dx:Addr} {fs:List (Str×V)} {mA:Str→Option Value} (n:h.Ns1 dx mA) (r:∀ f,cJ (fs.lookup f) (mA f)):aZ P w H h dx (fw fs dx):=by
 refine ⟨⟨mA,n,r⟩,?_,fun h1 h2 ⟨m1,n1,r1⟩ k=>⟨m1,?_,r1⟩⟩
 · obtain ⟨o,es,ep,e,_⟩:=n
   exact ⟨o,e⟩
 · obtain ⟨o,es,ep,e,c⟩:=n1
   exact ⟨o,es,ep,k _ e,c⟩
theorem qt {P:Program} {w:World} {H:Hp} {h:Heap} {dx:Addr} {fs:List (Str×V)} (x:aZ P w H h dx (fw fs dx)):∃ mA,h.Ns1 dx mA∧∀ f,cJ (fs.lookup f) (mA f):=x.1
theorem qg {fs : List (Str × V)} {mA : Str → Option Value} (r : ∀ f, cJ (fs.lookup f) (mA f)) : PySem.Within mA (fs.map (·.1)) := fun y h => by
  have ry := r y
  cases e : fs.lookup y with
  | none =>
    rw [e] at ry
    cases q : mA y with
    | none => exact absurd q h
    | some u => rw [q] at ry; exact ry.elim
  | some v =>
    have : ∀ (l : List (Str × V)), l.lookup y = some v → y ∈ l.map (·.1) := by
      intro l
      induction l with
      | nil => intro z; cases z
      | cons p l ih =>
        intro z
        obtain ⟨k, x⟩ := p
        rw [List.lookup_cons] at z
        by_cases hk : (y == k) = true
        · rw [List.map_cons]; exact List.mem_cons.mpr (.inl (beq_iff_eq.mp hk))
        · rw [Bool.not_eq_true] at hk
          rw [hk] at z
          exact List.mem_cons_of_mem _ (ih z)
    exact this fs e
def lC (K : W.Frag) (C : Addr) (ta tv : TE) (f : Str) : TS := fun D σ H => tv σ H fun y H1 => ta σ H1 fun x H2 => ∃ a, x = .ref a ∧ HT.eI K C f ∧
  ((H2 a = some (eS C a none) ∧ ∀ dx, H2 dx = none → dx ≠ a → D.nx σ (upd (upd H2 a (eS C a (some dx))) dx (fw [(f, y)] dx))) ∨
   (∃ dx fs, H2 a = some (eS C a (some dx)) ∧ H2 dx = some (fw fs dx) ∧ dx ≠ a ∧ fs.length < 1000 ∧ D.nx σ (upd H2 dx (fw (cF f y fs) dx))))
def tw (K:W.Frag) (ta:TE) (f:Str):TE:=fun σ H Q=>ta σ H fun x H1=>∃ a C dx fs v,x=.ref a∧H1 a=some (gs C (some dx) a)∧H1 dx=some (fw fs dx)∧HT.eI K C f∧fs.lookup f=some v∧Q v H1
section
variable {X:Cx} {o value:Expr} {ta tv:TE} {f:Str} {pos pos':Pos} {C:Addr}
theorem lc (ho:QE X o ta) (hv:QE X value tv) (hs:swapsWith value (some (.Attribute o f pos')) pos.line X.env=pure false:=by rfl):QS X (.Assign [.Attribute o f pos'] value pos) (lC X.K C ta tv f):=by
 refine ⟨fun pins s σ H D I h=>?_⟩
 refine plainObj_wpAny_Assign_Attribute (thn (hv.out pins s σ H _ I h) fun u s1 ⟨y,H1,I1,ry,q⟩=>thn (ho.out pins s1 σ H1 _ I1 q) fun ov s2 ⟨x,H2,I2,rx,a,ex,G,q2⟩=>?_) hs
 subst ex
 obtain rfl:ov=Value.ref a:=rx
 rcases q2 with ⟨ea,q2⟩ | ⟨dx,fs,ea,ed,ne,hl,q2⟩
 · obtain ⟨t,et⟩:=lR (P:=X.prog) (w:=X.w) (I2.hok a _ ea)
   refine HT.wJ I2.kIn et rfl rfl ⟨_,rfl⟩ G fun h' t' e1 e2 k=>?_
   have I3:Inv X pins σ (upd H2 a (eS C a (some s2.heap.objs.size))) { s2 with heap:=h',toks:=t' }:=I2.write (x:=a) (e:=a) (by rw [ea];exact True.intro) (.inl rfl) (fun b u nb e=>k b u nb e) ⟨_,e1⟩ (rl e1)
   have na:s2.heap.objs.size≠a:=Nat.ne_of_gt (Heap.lt_size et)
   have hn:upd H2 a (eS C a (some s2.heap.objs.size)) s2.heap.objs.size=none:=by rw [au na];exact I2.hok.fresh (Nat.le_refl _)
   exact ⟨σ,_,Inv.track2 I2 I3 (Nat.le_refl _) hn (qx e2 fun g=>by
    show cJ (List.lookup g [(f,y)]) (if g=f then some u else none)
    by_cases hg:g=f
    · rw [if_pos hg,hg]
      simp only [List.lookup,beq_self_eq_true];exact ry
    · have hb:(g==f)=false:=beq_eq_false_iff_ne.mpr hg
      rw [if_neg hg]
      simp only [List.lookup,hb];exact True.intro),q2 _ (I2.hok.fresh (Nat.le_refl _)) na⟩
 · obtain ⟨t,et⟩:=lR (P:=X.prog) (w:=X.w) (I2.hok a _ ea)
   obtain ⟨mA,n1,r1⟩:=qt (P:=X.prog) (w:=X.w) (I2.hok dx _ ed)
   refine HT.zS (ns:=fs.map (·.1)) I2.kIn et rfl rfl ⟨_,rfl⟩ n1 ne G (qg r1) (by rw [List.length_map,sizeLine_eq];omega) fun h' t' e2 sb=>?_
   have hd:∃ u,h'.get? dx=some u:=let ⟨o,_,_,e',_⟩:=e2;⟨o,e'⟩
   exact ⟨σ,_,I2.write (x:=dx) (e:=dx) (by rw [ed];exact True.intro) (.inl rfl) (fun b u nb e=>(sb.2 b nb).trans e) hd (qx e2 fun g=>by
    rw [gI]
    by_cases hg:g=f
    · rw [if_pos hg,if_pos hg];exact ry
    · rw [if_neg hg,if_neg hg];exact r1 g),q2⟩
theorem ui (he:QE X o ta) (hb:attributeBase o f X.env (eval o X.env)=eval o X.env:=by rfl):QE X (.Attribute o f pos) (tw X.K ta f):=by
 refine ⟨fun pins s σ H Q I h=>?_⟩
 refine qJ hb (thn (he.out pins s σ H _ I h) fun u s1 ⟨x,H1,I1,rx,a,C,dx,fs,v,ex,ea,ed,G,l,q⟩=>?_)
 subst ex
 obtain rfl:u=Value.ref a:=rx
 obtain ⟨oe,vs,e1,e2,e3,e4,_⟩:=qy (P:=X.prog) (w:=X.w) (I1.hok a _ ea)
 obtain ⟨mA,n1,r1⟩:=qt (P:=X.prog) (w:=X.w) (I1.hok dx _ ed)
 obtain ⟨u,hu,ru⟩:=cJ.some_of (v:=v) (o:=mA f) (by rw [← l];exact r1 f)
 obtain ⟨hp,g,d,tk,os⟩:=s1
 exact HT.zT I1.kIn e1 e2 e3 ⟨_,e4⟩ n1 G hu (mq ru) ⟨v,H1,I1.tok _,ru,q⟩
end
def iY (a:Addr) (H:Hp):Hp:=fun b=>if b=a then none else H b
theorem jr {a:Addr} {H:Hp}:iY a H a=none:=by unfold iY;rw [if_pos rfl]
theorem dL {a b:Addr} {H:Hp} (h:b≠a):iY a H b=H b:=by unfold iY;rw [if_neg h]
theorem HOk.off {P:Program} {w:World} {H:Hp} {h:Heap} {a:Addr} {φ:Heap→Prop} (k:HOk P w H h) (ha:H a=some (.ext φ)):HOk P w (iY a H) h:=fun b o e=>by
 by_cases hb:b=a
 · subst hb;rw [jr] at e;cases e
 · rw [dL hb] at e
   exact (k b o e).stay (fun c u _ q=>q) (fun c q=>by rw [dL (fun z=>by rw [z,ha] at q;cases q)];exact q) fun c xs q=>by rw [dL (fun z=>by rw [z,ha] at q;cases q)];exact q
theorem Un.off {fs:List Addr} {H H':Hp} {h h':Heap} {a:Addr} (u:Un fs [] H H' h h') (ha:H a=none):Un fs [] H (iY a H') h h' where
 keep:=u.keep
 slot:=u.slot
 free:=fun b o e n hx=>by
  by_cases hb:b=a
  · rw [hb];exact jr
  · rw [dL hb];exact u.free b o e n hx
 there:=u.there
 tups:=fun b xs e=>by rw [dL (aD e ha)];exact u.tups b xs e
 frzs:=fun b o v e=>by rw [dL (aD e ha)];exact u.frzs b o v e
 tbls:=fun b ps e=>by rw [dL (aD e ha)];exact u.tbls b ps e
end L2
namespace HT
open PySem PyProof.Rows
section
variable {M:Model} {A:Around} {E:Value→Shared→Prop} {env:Env} {K:W.Frag} {C:Addr}
theorem uU {s:Shared} {x:Sem Value} {Q:Flow→Shared→Prop} (hC:L2.bX K C) (hh:A.handled=none)
  (h:wpAny M A x (fun v s₁=>∃ e t d,v=.ref e∧K.In s₁.heap∧s₁.heap.get? e=some (kn C t d)∧E (.ref e) s₁) E s):wpAny M A (raiseStmt env (some x) none) Q E s:=by
 unfold raiseStmt
 refine wpAny_bind (wpAny_mono h (fun v s₁ h₁=>?_) fun _ _ x=>x)
 obtain ⟨e,t,d,rfl,X,he,hE⟩:=h₁
 obtain ⟨bm,N,nm,qn,bs,hdct,sn,sub,ab,col,dd,k0,k1,k2,k3,k5,mN,oC,hN,_,T,_⟩:=L2.eZ X hC
 have hcB:(Value.ref C::bm).contains (.type "BaseException")=true:=by rw [List.contains_cons,T.hasType (X:= "BaseException") (b:=true) (by decide +kernel),Bool.or_true]
 obtain ⟨hp,g,dr,tk,os⟩:=s₁
 repeat (first | with_reducible refine wpAny_loadPart_at he ?_ | with_reducible refine wpAny_loadPart_at oC ?_ | (with_reducible refine wpAny_isSubtype_exc oC ?_;rw [hcB]) | wp_step)
 exact wpAny_raiseNew_none hh hE
theorem vh {prog:Program} {w:World} {A:Around} {K:W.Frag} {C f:Addr} {R:Result→Shared→Prop} {s:Shared} {us:List Value} (X:K.In s.heap) (hC:L2.bX K C) (hi:W.findIn K (.ref C) "__init__" =some (some (.ref f))) (hf:W.typeIn K (.ref f)=some (.type "function")) (hus:us.length≤sizeLine)
  (hq:codeAny (model prog w) (A.under (.builtin "type.__call__" ⟨.ref C::us,[]⟩)) (.call (.ref f) ⟨.ref (s.heap.objs.size+1)::us,[]⟩) (W.InitBack (s.heap.objs.size+1) R) { s with heap:=gH s.heap C us }):
  codeAny (model prog w) A (.call (.ref C) ⟨us,[]⟩) R s:=by
 obtain ⟨h,g,d,t,os⟩:=s
 exact yk X hC hi hf hus hq
end
end HT
namespace L2
open PySem PySem.Spec PyProof.Rows
def lF (C:Addr) (sp:Sp) (E:St→XK) (t:TA):TS:=fun _ σ H=>t σ H fun vs H1=>∀ a,H1 a=none→sp (.ref a::vs) (upd H1 a (eS C a none)) (fun v H2=>v=.non∧∃ d,H2 a=some (eS C a d)∧E σ (.ref C) d (iY a H2)) E0
structure rB (K:W.Frag) (C f:Addr):Prop where
 ok:bX K C
 init:W.findIn K (.ref C) "__init__" =some (some (.ref f))
 fn:W.isFn K (.ref f)=true
 kp:W.keepIn K (.ref C)=true
section
variable {X:Cx} {k:Nat} {f C:Addr} {fd:FuncData} {ps:List Str} {sp:Sp} {E:St→XK} {x:Str} {np cpos pos:Pos} {e:Expr} {es:List Expr} {t:TA}
theorem pH (Y : rB X.K C f) (F : aO X.prog X.w X.K X.mg X.base (CX1 X.prog X.w) k f fd ps sp) (hr : be (k + 1) X.A) (hb : bO X.K fd ps []) (hm : X.mg x = some (.ref C)) (hR : pY X E) (ha : QA X (e :: es) t)
    (hc : X.calm = true := by rfl) (hg : Gl X x := by rfl) (hdb : (x == ("__debug__" : Str)) = false := by decide) (hs : bp (e :: es) = true := by rfl) (hps : ps.length ≤ 1000 := by decide) : QS X (.Raise (some (.Call (.Name x np) (e :: es) [] cpos)) none pos) (lF C sp E t) := by
  refine ⟨fun pins s σ H D I h => ?_⟩
  have h' : (cn e && bp es) = true := hs
  rw [arm_exec_Raise]
  refine wpAny_bind (wpAny_standAt (HT.uU Y.ok (I.ok.hd hc) ?_))
  refine wpAny_bind (wpAny_mono ?_ (fun v s₃ h₃ => wpAny_bind (wpAny_standAt (wpAny_pure h₃))) fun _ _ x => x)
  refine wpAny_Call_Name_kw (fv I hg hm ?_ hdb)
  refine W.callWith_K (h₀ := X.base) I.ok.mod.kin Y.kp (thn (ha.out cpos pins s σ H _ I h) fun us s1 ⟨vs, H1, I1, r, q⟩ => ⟨I1.kIn, ?_⟩) (bv (Bool.and_eq_true_iff.mp h').1 es X.env) (cg (Bool.and_eq_true_iff.mp h').2)
  have ka : ∀ b u, s1.heap.get? b = some u → (HT.gH s1.heap C us).get? b = some u := fun b u eb => Heap.get?_push_of_some _ (Heap.get?_push_of_some _ eb)
  have ex : (HT.gH s1.heap C us).get? (s1.heap.objs.size + 1) = some (HT.kn C s1.heap.objs.size none) := by heap_get
  have hfr : H1 (s1.heap.objs.size + 1) = none := I1.hok.fresh (Nat.le_succ _)
  have I2 : Inv X pins σ (upd H1 (s1.heap.objs.size + 1) (eS C (s1.heap.objs.size + 1) none)) { s1 with heap := HT.gH s1.heap C us, toks := s1.toks } := I1.laid ka (Nat.le_succ _) (rl ex)
  have hq := q (s1.heap.objs.size + 1) hfr
  have r2 : bc (V.ref (s1.heap.objs.size + 1) :: vs) (Value.ref (s1.heap.objs.size + 1) :: us) := .cons rfl r
  have hl : (Value.ref (s1.heap.objs.size + 1) :: us).length = ps.length := by rw [← r2.length]; exact F.len _ _ _ _ hq
  have hb' := hb { s1 with heap := HT.gH s1.heap C us } (Value.ref (s1.heap.objs.size + 1) :: us) I2.kIn (by rw [List.append_nil]; exact hl)
  rw [List.append_nil] at hb'
  have husz : us.length ≤ sizeLine := by
    rw [List.length_cons] at hl
    rw [sizeLine_eq]; omega
  refine wpAny_call (HT.vh I1.kIn Y.ok Y.init (beq_iff_eq.mp Y.fn) husz (codeAny_mono (F.run _ X.stack _ _ ⟨Value.ref (s1.heap.objs.size + 1) :: us, []⟩ (Value.ref (s1.heap.objs.size + 1) :: us) _ _ _ (hr.make C us []) (I2.env0.make C us []) hb' r2 hq) fun rr s' hq' => ?_))
  cases rr with
  | error e' =>
    obtain ⟨_, _, _, _, _, _, z⟩ := hq'
    exact z.elim
  | ok fl =>
    cases fl with
    | next => exact False.elim hq'
    | brk => exact False.elim hq'
    | cont => exact False.elim hq'
    | ret u =>
      obtain ⟨v, H', os, bare, un, hok, rv, rfl, d, hd, hE⟩ := hq'
      obtain ⟨t, et⟩ := lR (P := X.prog) (w := X.w) (hok _ _ hd)
      have u1 : Un (frs X.stack) [] H1 H' s1.heap s'.heap := (Un.laid (o := eS C (s1.heap.objs.size + 1) none) ka (Nat.le_succ _) hfr).trans un
      have kin : X.K.In s'.heap := by
        have I3 : Inv X pins σ H' s' := I1.call' (ch := []) os u1 hok bare fun b z => absurd z (by simp)
        exact I3.kIn
      refine ⟨rv, s1.heap.objs.size + 1, t, d, rfl, kin, et, hR pins σ H1 s1 C (s1.heap.objs.size + 1) d (iY (s1.heap.objs.size + 1) H') s' I1 ⟨os, bare, u1.off hfr, hok.off hd, Heap.get?_none_of_le (Nat.le_succ _), jr, ⟨_, _, .ref t, et, rfl, rfl, rfl, ⟨rfl, rfl⟩, rfl⟩⟩ hE⟩
end
structure za (K:W.Frag) (C:Addr) (m:Str) (f:Addr):Prop where
 ga:W.specialIn K (.ref C) "__getattribute__" =some (some (.builtin "type.__getattribute__"))
 rd:W.readsIn K C (.type "type")=true
 at_:W.findCls K (.ref C) (.type "type") m=some (.val (.ref f))
 ho:W.handedIn (.ref f)=true
 kp:W.keepIn K (.ref f)=true
structure rC (K:W.Frag) (C:Addr):Prop where
 cl:W.findIn K (.ref C) "__class__" =some (some (.builtin "object.__class__"))
 gt:W.specialIn K (.builtin "object.__class__") "__get__" =some (some (.builtin "getset_descriptor.__get__"))
 tk:W.takesIn K (.builtin "object.__class__")=some true
 mo:W.mroIn K C (.type "object")=some true
section
variable {X:Cx} {CX:CXT} {k:Nat} {f C:Addr} {fd:FuncData} {ps:List Str} {sp:Sp} {E:St→XK} {x m:Str} {p pos apos:Pos} {e:Expr} {es:List Expr} {t u:TE} {ta:TA}
theorem AR {pl : Sem Bool} (hm : X.mg x = some (.ref C)) (c : za X.K C m f) (F : aO X.prog X.w X.K X.mg X.base CX k f fd ps sp) (hr : be k X.A) (hb : bO X.K fd ps []) (hx : eE CX X E) (ha : QA X (e :: es) ta)
  (hg : Gl X x := by rfl) (hd : (x == ("__debug__" : Str)) = false := by decide) (hs : bp (e :: es) = true := by rfl)
  (ht : eval (.Call (.Attribute (.Name x p) m apos) (e :: es) [] pos) X.env = (do
   let ov ← eval (.Name x p) X.env
   standAt apos.atName
   let (f, first) ← holding [ov] (getMethod ov m pl)
   callWith pos f first (backTo pos (starEach (e :: es) X.env)) (backToKw pos (keywordEach [] X.env))) := by rfl) :
  QE X (.Call (.Attribute (.Name x p) m apos) (e :: es) [] pos) (ar sp E ta) := ⟨fun pins s σ H Q I h => by
 have h' : (cn e && bp es) = true := hs
 refine W.methodCall_KW (pl := pl) (thn ((lM (v := .ref C) hg hm rfl hd) pins s σ H (fun v H1 => v = .ref C ∧ H1 = H) I ⟨rfl, rfl⟩) fun u s1 ⟨v, H1, I1, rv, ev, eH⟩ => ?_) ht
 subst ev eH
 obtain rfl : u = Value.ref C := rv
 refine W.method_cls I1.kIn c.ga (W.cls_value I1.kIn c.rd c.at_ c.ho ?_)
 refine W.callWith_K (first := []) (h₀ := X.base) I.ok.mod.kin c.kp (thn (ha.out pos pins _ σ H1 _ (I1.tok _) h) fun us s2 ⟨vs, H2, I2, r, q2⟩ => ⟨I2.kIn, ?_⟩)
  (bv (Bool.and_eq_true_iff.mp h').1 es X.env) (cg (Bool.and_eq_true_iff.mp h').2)
 exact jV F hr hb hx I2 r q2⟩
def yE (K:W.Frag):List V→Hp→VK→Prop:=fun xs H Q=>∃ a C dx fs D b,xs=[.ref a,.ref D]∧H a=some (.ins C dx fs)∧Cls K C∧rC K C∧W.kitOne K (.ref C) (.ref D)=some b∧Q (.bl b) H
theorem ED:bx X (.builtin "isinstance") (yE X.K):=fun pins s σ H xs us Q I r h=>by
 obtain ⟨a,C,dx,fs,D,b,rfl,ha,hC,G,hk,q⟩:=h
 obtain ⟨u,w',rfl,r1,r2⟩:=jT r
 cases (show w'=Value.ref D from r2)
 cases (show u=Value.ref a from r1)
 obtain ⟨mA,O,_,_,_,_⟩:=gT I.hok ha
 obtain ⟨od,IA,_⟩:=O.look
 exact W.kia_one (W.kitx_own (hC.get _) hC.hd G.cl G.gt G.tk G.mo) I.kIn IA hk (fun z=>nomatch z) fun tk=>⟨.bl _,H,I.tok tk,rfl,q⟩
end
end L2
namespace L2
open PySem PySem.Spec PyProof.Rows PySem.W
section
variable {key:Nat→Int} {n:Nat}
variable (inj:∀ i j,i<n→j<n→key i=key j→i=j)
include inj
omit inj in
omit inj in
omit inj in
end
end L2
namespace Rs
abbrev st (B k d:Nat):Nat:=k/2^(B - d)

end Rs
namespace L2
open PySem PySem.Spec PyProof.Rows
section
variable {X:Cx}
theorem BL {x y z u:Str} {px py pz pu ep pos:Pos} {ek:Nat} {e:Expr} {te:TE} (i j k l:Nat) (hN:X.N.Nodup) (hc:X.calm=true) (he:QE X e te) (hi:X.N[i]?=some x:=by rfl) (hj:X.N[j]?=some y:=by rfl) (hk:X.N[k]?=some z:=by rfl) (hl:X.N[l]?=some u:=by rfl)
  (hx:Loc X.env.scope x:=by first | exact .inl rfl | exact .inr rfl) (hy:Loc X.env.scope y:=by first | exact .inl rfl | exact .inr rfl) (hz:Loc X.env.scope z:=by first | exact .inl rfl | exact .inr rfl) (hu:Loc X.env.scope u:=by first | exact .inl rfl | exact .inr rfl)
  (fx:X.fn x=true∨X.env.scope.names.lookup x=some .local:=by first | exact .inl rfl | exact .inr rfl) (fy:X.fn y=true∨X.env.scope.names.lookup y=some .local:=by first | exact .inl rfl | exact .inr rfl) (fz:X.fn z=true∨X.env.scope.names.lookup z=some .local:=by first | exact .inl rfl | exact .inr rfl) (fu:X.fn u=true∨X.env.scope.names.lookup u=some .local:=by first | exact .inl rfl | exact .inr rfl)
  (hs:swapsWithSole [.Tuple [.Name x px,.Name y py,.Name z pz,.Name u pu] ek ep] e pos.line X.env=pure false:=by rfl) (hw:swappedStores [.Tuple [.Name x px,.Name y py,.Name z pz,.Name u pu] ek ep] e X.env=pure none:=by rfl):
  QS X (.Assign [.Tuple [.Name x px,.Name y py,.Name z pz,.Name u pu] ek ep] e pos) (aH te (jc X.K 4 (cI (ax i) (cI (ax j) (cI (ax k) (cI (ax l) jq)))))):=
 ⟨kQ he.out (pA hc (dz (dH hN hi hx fx) (dz (dH hN hj hy fy) (dz (dH hN hk hz fz) (dz (dH hN hl hu fu) mm))))) hs hw⟩
end
section
variable {X:Cx}
inductive lj:List V→Hp→VK→Prop
 | int {i:Int} {H:Hp} {Q:VK} (h:i.natAbs.log2<1920) (q:Q (.str (toString i)) H):lj [.int i] H Q
 | str {z:Str} {H:Hp} {Q:VK} (q:Q (.str z) H):lj [.str z] H Q
theorem HU : bx X (.type "str") lj := fun pins s σ H xs us Q I r h => by
  cases h with
  | int h q => exact iN pins s σ H _ us Q I r ⟨_, rfl, h, q⟩
  | str q =>
    obtain ⟨u, rfl, t, rfl⟩ := fH r
    exact PySem.P.str_of_str ⟨.str _, H, I, ⟨_, rfl⟩, q⟩
end
end L2
namespace HT
open PySem PySem.Spec PyProof.Rows L2
theorem tL (l b:Addr) (o:Obj) (hc:o.cls=.type "dict") (o2:Obj) (hc2:o2.cls=.type "tuple"):
  Meets (Builtin.«dict.__ne__» ⟨[.ref l,.ref b],[]⟩) (fun _ R s=>s.heap.get? l=some o∧s.heap.get? b=some o2∧R (.ok (.ret .notImplemented)) s):=
 .of_wp fun prog w A R s h=>by
  obtain ⟨hp,g,d,tk,os⟩:=s;obtain ⟨hl,hb,h⟩:=h;obtain ⟨cls,dd,data,sl⟩:=o;obtain ⟨cls2,dd2,data2,sl2⟩:=o2
  simp only at hc hc2;subst hc hc2
  have f1:=sub_tuple_dict;wp_walk using wpAny_loadPart' hl,wpAny_loadPart' hb;exact ⟨_,rfl,h⟩
theorem qk (l b:Addr) (o:Obj) (hc:o.cls=.type "tuple") (o2:Obj) (hc2:o2.cls=.type "dict"):
  Meets (Builtin.«tuple.__ne__» ⟨[.ref l,.ref b],[]⟩) (fun _ R s=>s.heap.get? l=some o∧s.heap.get? b=some o2∧R (.ok (.ret .notImplemented)) s):=
 .of_wp fun prog w A R s h=>by
  obtain ⟨hp,g,d,tk,os⟩:=s;obtain ⟨hl,hb,h⟩:=h;obtain ⟨cls,dd,data,sl⟩:=o;obtain ⟨cls2,dd2,data2,sl2⟩:=o2
  simp only at hc hc2;subst hc hc2
  have f1:=gO;wp_walk using wpAny_loadPart' hl,wpAny_loadPart' hb;exact ⟨_,rfl,h⟩
end HT
namespace L2
open PySem PySem.Spec PyProof.Rows
section
variable {X:Cx}
def zn (K:W.Frag):R2:=fun x y H Q=>∃ a b ys,x=.ref a∧y=.ref b∧((∃ kvs,H a=some (.dK kvs))∨∃ kvs,H a=some (.dT kvs))∧SqT K H b ys∧Q (.bl true) H
theorem zu (hu:X.A.units<cLine):OpR X (compareOp .NotEq) (zn X.K):=by
 intro pins s σ H x y v u Q I rx ry h
 obtain ⟨a,b,ys,rfl,rfl,ha,hb,q⟩:=h
 cases rx
 cases ry
 obtain ⟨its,_,p1,_⟩:=I.tuple hb
 obtain ⟨o2,ho2,hc2,_⟩:=id p1
 obtain ⟨o,ho,hc⟩:∃ o,s.heap.get? a=some o∧o.cls=.type "dict" :=by
  rcases ha with ⟨kvs,e⟩ | ⟨kvs,e⟩
  · obtain ⟨_,_,_,_,o,_,_,h1,h2,_⟩:=(show aZ X.prog X.w H s.heap a (.dK kvs) from I.hok a _ e)
    exact ⟨o,h1,h2.1⟩
  · obtain ⟨_,_,_,_,o,_,_,h1,h2,_⟩:=(show aZ X.prog X.w H s.heap a (.dT kvs) from I.hok a _ e)
    exact ⟨o,h1,h2.1⟩
 have hne:a≠b:=fun e=>by
  subst e
  rw [ho] at ho2;cases ho2
  rw [hc] at hc2;exact absurd hc2 (by simp)
 show wpAny _ _ (richCompare .NotEq (.ref a) (.ref b)) _ _ s
 exact SeqAt.rc_ne_decline_or (k:=false) ⟨_,ho,hc⟩ ⟨_,ho2,hc2⟩ (by decide) F.sub_tuple_dict F.slot_dict_ne F.slot_tuple_ne_refl
  (fun _ hq=>call_meets F.slot_dict_ne ⟨_,ho,hc⟩ F.entry_dict_ne (F.args_dict_ne_2 _ _) (HT.tL a b o hc o2 hc2) ⟨ho,ho2,hq⟩)
  (fun _ hq=>call_meets F.slot_tuple_ne_refl ⟨_,ho2,hc2⟩ F.entry_tuple_ne (F.args_tuple_ne_2 _ _) (HT.qk b a o2 hc2 o hc) ⟨ho2,ho,hq⟩)
  (fun _ hq=>wpAny_isSame_ref_other hne ho ho2 (by rw [hc];simp) hq) (.inr hu) ⟨.bl true,H,I,rfl,q⟩
def rR (K:W.Frag):R2:=fun x y H Q=>dh K x y H Q∨zn K x y H Q
theorem Ip (hu:X.A.units+150<cLine):OpR X (compareOp .NotEq) (rR X.K):=(fg hu).or (zu (by omega))
end
end L2
namespace Rs
open PySem PySem.Spec PyProof.Rows L2
abbrev gOp:=List Key→Option Key
def iD (s:Stmt) (j:Nat):Stmt:=match s with
 | .ClassDef _ _ _ b _ _ _ _ _ _ _=>b.getD j (.Pass ⟨0,0,0,0⟩)
 | _=> .Pass ⟨0,0,0,0⟩
def top (i:Nat):Stmt:=PySem.Challenge.pw_rootstamp_k39_stretches_refused.main.body.getD i (.Pass ⟨0,0,0,0⟩)
abbrev xh:Stmt:=top 11
abbrev wo:Stmt:=top 12
abbrev xY:Stmt:=top 13
abbrev wH:Stmt:=top 15
abbrev wX:Stmt:=top 14
abbrev s_5:Stmt:=iD (top 49) 1
abbrev xR:Stmt:=top 56
abbrev s_8:Stmt:=top 55
abbrev wu:Stmt:=top 57
abbrev xA:Stmt:=top 62
abbrev wV:Stmt:=top 64
abbrev wx:Stmt:=top 63
abbrev vH:Stmt:=top 61
abbrev ya:Stmt:=top 58
abbrev s_9:Stmt:=top 65
abbrev wq:Stmt:=top 66
abbrev wc:Stmt:=top 67
abbrev s_4:Stmt:=iD (top 49) 0
abbrev kq:Stmt:=top 51
abbrev kr:Stmt:=top 59
abbrev km:Stmt:=top 60
abbrev kj:Stmt:=top 50
abbrev xj:Stmt:=top 68
abbrev xL:Stmt:=top 69
abbrev ye:Stmt:=top 70
abbrev vS:Stmt:=top 71
abbrev yd:Stmt:=top 72
abbrev vR:Stmt:=top 74
abbrev wY:Stmt:=top 20
abbrev lH:Stmt:=top 33
abbrev wz:Stmt:=top 24
abbrev vO:Stmt:=top 34
abbrev vJ:Stmt:=top 39
abbrev xb:Stmt:=top 21
abbrev wk:Stmt:=top 23
abbrev wQ:Stmt:=top 30
abbrev yf:Stmt:=top 31
abbrev wt:Stmt:=top 38
abbrev s_3:Stmt:=iD (top 7) 0
abbrev lK:Stmt:=top 37
abbrev lP:Stmt:=top 40
abbrev xm:Stmt:=top 42
abbrev wW:Stmt:=top 41
abbrev lI:Stmt:=top 43
abbrev s_1:Stmt:=iD (top 8) 0
abbrev yg:Stmt:=top 46
abbrev me:Stmt:=top 45
abbrev xB:Stmt:=top 80
abbrev yi:Stmt:=top 81
abbrev vW:Stmt:=top 36
abbrev lZ:Stmt:=top 35
abbrev xF:Stmt:=top 19
abbrev s_2:Stmt:=iD (top 26) 0
abbrev s_0:Stmt:=iD (top 27) 0
abbrev s_6:Stmt:=iD (top 53) 0
abbrev md:Stmt:=top 44
abbrev xH:Stmt:=top 22
abbrev mh:Stmt:=top 47
abbrev s_7:Stmt:=top 75
abbrev yh:Stmt:=top 76
abbrev xn:Stmt:=top 77
abbrev xc:Stmt:=top 79
abbrev xX:Stmt:=top 82
abbrev wL:Stmt:=top 83
abbrev yl:Stmt:=top 78
abbrev xa:Stmt:=top 84
abbrev xC:Stmt:=top 85
def sAt (i:Nat) (l:List Stmt):Stmt:=l.getD i (.Pass ⟨0,0,0,0⟩)
def Ct:Stmt→Expr | .Return (some e) _=>e | .Assign _ e _=>e | .Expr e _=>e | _=> .Constant .none 0 ⟨0,0,0,0⟩
def jJ:Expr→Expr | .Lambda _ b _ _=>b | e=>e
def oM:Expr→Scope | .Lambda _ _ sc _=>sc | _=>{ kind:=.function,names:=[],isGenerator:=false,isCoroutine:=false }
abbrev wM:Expr:=(Ct (sAt 0 (aP kj)))
def fE:cV:=⟨(("writing" :Str)++ ".<locals>.")++ "<lambda>",.expr (jJ wM),oM wM,["term"],[]⟩
abbrev xE:Expr:=(Ct (sAt 1 (aP kq)))
def gb:cV:=⟨(("counting" :Str)++ ".<locals>.")++ "<lambda>",.expr (jJ xE),oM xE,["term"],["numbers"]⟩
abbrev xy:Stmt:=(sAt 1 (aP kr))
def gi:cV:=⟨(("_law_sure" :Str)++ ".<locals>.")++ "_law_number",.stmts (aP xy),am xy,["_law_term"],["_law_known", "_law_first"]⟩
abbrev xO:Stmt:=(sAt 0 (aP km))
def fV:cV:=⟨(("_law_weak" :Str)++ ".<locals>.")++ "_law_short",.stmts (aP xO),am xO,["_law_term"],["_law_many"]⟩
set_option genInjectivity false in
set_option genSizeOf false in
abbrev Rd (sp:Sp) (t:TS) (N:List Str):Prop:=∀ (vs:List V) (H:Hp) (Q:VK) (E:XK),sp vs H Q E→t { nx:=fun _ H'=>Q .non H',rt:=Q } (L2.bL N vs) H
abbrev Ln (sp:Sp) (n:Nat):Prop:=∀ vs H Q E,sp vs H Q E→vs.length=n
structure Adr where
 a_52:Addr
 d_52:FuncData
 a_49:Addr
 d_49:FuncData
 a_50:Addr
 d_50:FuncData
 a_55:Addr
 d_55:FuncData
 a_70:Addr
 d_70:FuncData
 a_5:Addr
 d_5:FuncData
 a_10:Addr
 d_10:FuncData
 a_8:Addr
 d_8:FuncData
 a_14:Addr
 d_14:FuncData
 a_31:Addr
 d_31:FuncData
 a_22:Addr
 d_22:FuncData
 a_18:Addr
 d_18:FuncData
 a_17:Addr
 d_17:FuncData
 a_35:Addr
 d_35:FuncData
 a_9:Addr
 d_9:FuncData
 a_27:Addr
 d_27:FuncData
 a_26:Addr
 d_26:FuncData
 a_4:Addr
 d_4:FuncData
 a_41:Addr
 d_41:FuncData
 a_32:Addr
 d_32:FuncData
 a_36:Addr
 d_36:FuncData
 a_68:Addr
 d_68:FuncData
 a_23:Addr
 d_23:FuncData
 a_16:Addr
 d_16:FuncData
 a_13:Addr
 d_13:FuncData
 a_28:Addr
 d_28:FuncData
 a_34:Addr
 d_34:FuncData
 a_30:Addr
 d_30:FuncData
 a_46:Addr
 d_46:FuncData
 a_40:Addr
 d_40:FuncData
 a_62:Addr
 d_62:FuncData
 a_54:Addr
 d_54:FuncData
 a_44:Addr
 d_44:FuncData
 a_51:Addr
 d_51:FuncData
 a_63:Addr
 d_63:FuncData
 a_47:Addr
 d_47:FuncData
 a_45:Addr
 d_45:FuncData
 a_48:Addr
 d_48:FuncData
 a_3:Addr
 d_3:FuncData
 a_39:Addr
 d_39:FuncData
 a_38:Addr
 d_38:FuncData
 a_56:Addr
 d_56:FuncData
 a_58:Addr
 d_58:FuncData
 a_67:Addr
 d_67:FuncData
 a_1:Addr
 d_1:FuncData
 a_59:Addr
 d_59:FuncData
 a_64:Addr
 d_64:FuncData
 a_20:Addr
 d_20:FuncData
 a_21:Addr
 d_21:FuncData
 a_57:Addr
 d_57:FuncData
 a_66:Addr
 d_66:FuncData
 a_43:Addr
 d_43:FuncData
 a_2:Addr
 d_2:FuncData
 a_0:Addr
 d_0:FuncData
 a_6:Addr
 d_6:FuncData
 a_65:Addr
 d_65:FuncData
 a_60:Addr
 d_60:FuncData
 a_61:Addr
 d_61:FuncData
 a_7:Addr
 d_7:FuncData
 a_19:Addr
 d_19:FuncData
 a_15:Addr
 d_15:FuncData
 a_29:Addr
 d_29:FuncData
 a_25:Addr
 d_25:FuncData
 a_24:Addr
 d_24:FuncData
 a_12:Addr
 d_12:FuncData
 a_11:Addr
 d_11:FuncData
 a_53:Addr
 d_53:FuncData
 k_41:Addr
 t_41:Addr
 k_32:Addr
 t_32:Addr
 k_36:Addr
 t_36:Addr
 k_68:Addr
 t_68:Addr
 c_NoStretch:Addr
 c_NoKey:Addr
 c_NoPart:Addr
 c_Broken:Addr
 c_StampError:Addr
 c_Numbers:Addr
 c_Fork:Addr
 c_Knot:Addr
 c_Bare:Addr
 c_Table:Addr
set_option genInjectivity false in
set_option genSizeOf false in
structure Txt (K:W.Frag) (mg:Str→Option Value) (A:Adr):Prop where
 f_52:Fm K mg "is_whole" "is_whole" xh A.a_52 A.d_52 ["thing"]
 f_49:Fm K mg "is_stamp" "is_stamp" wo A.a_49 A.d_49 ["thing"]
 f_50:Fm K mg "is_term" "is_term" xY A.a_50 A.d_50 ["thing"]
 f_55:Fm K mg "part_form" "part_form" wH A.a_55 A.d_55 ["part"]
 f_70:Fm K mg "written" "written" wX A.a_70 A.d_70 ["term"]
 f_5:Fun K "number_of" "Numbers.number_of" s_5 A.a_5 A.d_5
 b_5:bO K A.d_5 ["self", "term"] []
 f_10:Fm K mg "_law_bits" "_law_bits" xR A.a_10 A.d_10 ["_law_cell"]
 f_8:Fm K mg "_law_at" "_law_at" s_8 A.a_8 A.d_8 ["_law_script", "_law_k"]
 f_14:Fm K mg "_law_key" "_law_key" wu A.a_14 A.d_14 ["_law_bits_here", "_law_cell", "_law_others"]
 f_31:Fm K mg "_law_stretch" "_law_stretch" xA A.a_31 A.d_31 ["_law_bits_here", "_law_one", "_law_other"]
 f_22:Fm K mg "_law_number" "_law_number" wV A.a_22 A.d_22 ["_law_cell", "_law_depth", "_law_begin_here"]
 f_18:Fm K mg "_law_meets" "_law_meets" wx A.a_18 A.d_18 ["_law_bits_here", "_law_low", "_law_high", "_law_depth", "_law_begin_here"]
 f_17:Fm K mg "_law_mark" "_law_mark" vH A.a_17 A.d_17 ["_law_number_here"]
 f_35:Fm K mg "_law_text" "_law_text" ya A.a_35 A.d_35 ["_law_cell"]
 f_9:Fm K mg "_law_begin" "_law_begin" s_9 A.a_9 A.d_9 ["_law_number_here", "_law_begin_here", "_law_more", "_law_low", "_law_high", "_law_free"]
 f_27:Fm K mg "_law_part" "_law_part" wq A.a_27 A.d_27 ["_law_cell", "_law_bits_here", "_law_low", "_law_high", "_law_depth", "_law_begin_here", "_law_deep"]
 f_26:Fm K mg "_law_paper" "_law_paper" wc A.a_26 A.d_26 ["_law_cell", "_law_bits_here", "_law_low", "_law_high"]
 f_4:Fun K "__init__" "Numbers.__init__" s_4 A.a_4 A.d_4
 b_4:bO K A.d_4 ["self"] []
 f_41:Fm K mg "counting" "counting" kq A.a_41 A.d_41 []
 f_32:Fm K mg "_law_sure" "_law_sure" kr A.a_32 A.d_32 ["_law_first"]
 f_36:Fm K mg "_law_weak" "_law_weak" km A.a_36 A.d_36 ["_law_many"]
 f_68:Fm K mg "writing" "writing" kj A.a_68 A.d_68 []
 f_23:Fm K mg "_law_open" "_law_open" xj A.a_23 A.d_23 ["_law_stamper", "_law_part_here"]
 f_16:Fm K mg "_law_leaves" "_law_leaves" xL A.a_16 A.d_16 ["_law_part_here"]
 f_13:Fm K mg "_law_inner" "_law_inner" ye A.a_13 A.d_13 ["_law_part_here", "_law_low", "_law_high"]
 f_28:Fm K mg "_law_part_alike" "_law_part_alike" vS A.a_28 A.d_28 ["_law_found", "_law_due"]
 f_34:Fm K mg "_law_term_alike" "_law_term_alike" yd A.a_34 A.d_34 ["_law_found", "_law_due"]
 f_30:Fm K mg "_law_rows_alike" "_law_rows_alike" vR A.a_30 A.d_30 ["_law_found", "_law_due"]
 f_46:Fm K mg "is_key" "is_key" wY A.a_46 A.d_46 ["bits", "thing"]
 f_40:Fm K mg "check_stretch" "check_stretch" lH A.a_40 A.d_40 ["bits", "low", "high"]
 f_62:Fm K mg "span" "span" wz A.a_62 A.d_62 ["bits", "depth", "begin"]
 f_54:Fm K mg "meets" "meets" vO A.a_54 A.d_54 ["bits", "low", "high", "depth", "begin"]
 f_44:Fm K mg "is_cut" "is_cut" vJ A.a_44 A.d_44 ["thing"]
 f_51:Fm K mg "is_value" "is_value" xb A.a_51 A.d_51 ["thing"]
 f_63:Fm K mg "start" "start" wk A.a_63 A.d_63 ["bits", "key", "depth"]
 f_47:Fm K mg "is_leaf" "is_leaf" wQ A.a_47 A.d_47 ["bits", "depth", "begin", "thing"]
 f_45:Fm K mg "is_fork" "is_fork" yf A.a_45 A.d_45 ["bits", "depth", "begin", "thing"]
 f_48:Fm K mg "is_part" "is_part" wt A.a_48 A.d_48 ["bits", "low", "high", "depth", "begin", "thing"]
 f_3:Fun K "__init__" "NoPart.__init__" s_3 A.a_3 A.d_3
 b_3:bO K A.d_3 ["self", "depth", "begin"] []
 f_39:Fm K mg "check_part" "check_part" lK A.a_39 A.d_39 ["bits", "low", "high", "depth", "begin", "part"]
 f_38:Fm K mg "check_paper" "check_paper" lP A.a_38 A.d_38 ["bits", "low", "high", "paper"]
 f_56:Fm K mg "part_mark" "part_mark" xm A.a_56 A.d_56 ["stamper", "part", "terms"]
 f_58:Fm K mg "part_terms" "part_terms" wW A.a_58 A.d_58 ["stamper", "part"]
 f_67:Fm K mg "stretch_terms" "stretch_terms" lI A.a_67 A.d_67 ["stamper", "bits", "low", "high", "paper"]
 f_1:Fun K "__init__" "Broken.__init__" s_1 A.a_1 A.d_1
 b_1:bO K A.d_1 ["self", "due", "came"] []
 f_59:Fm K mg "rows_within" "rows_within" yg A.a_59 A.d_59 ["low", "high", "terms"]
 f_64:Fm K mg "stretch_answer" "stretch_answer" me A.a_64 A.d_64 ["stamper", "bits", "mark", "low", "high", "paper"]
 f_20:Fm K mg "_law_no_keys" "_law_no_keys" xB A.a_20 A.d_20 ["_law_bits_here", "_law_cell"]
 f_21:Fm K mg "_law_no_papers" "_law_no_papers" yi A.a_21 A.d_21 ["_law_paper_here"]
 f_57:Fm K mg "part_of" "part_of" vW A.a_57 A.d_57 ["bits", "low", "high", "depth", "begin", "knot"]
 f_66:Fm K mg "stretch_of" "stretch_of" lZ A.a_66 A.d_66 ["table", "low", "high"]
 f_43:Fm K mg "is_bits" "is_bits" xF A.a_43 A.d_43 ["thing"]
 f_2:Fun K "__init__" "Knot.__init__" s_2 A.a_2 A.d_2
 b_2:bO K A.d_2 ["self", "stamper", "term"] []
 f_0:Fun K "__init__" "Bare.__init__" s_0 A.a_0 A.d_0
 b_0:bO K A.d_0 ["self", "stamper"] []
 f_6:Fun K "__init__" "Table.__init__" s_6 A.a_6 A.d_6
 b_6:bO K A.d_6 ["self", "stamper", "bits"] []
 f_65:Fm K mg "stretch_mark" "stretch_mark" md A.a_65 A.d_65 ["stamper", "bits", "low", "high", "paper"]
 f_60:Fm K mg "side" "side" xH A.a_60 A.d_60 ["bits", "key", "depth"]
 f_61:Fm K mg "slip_from" "slip_from" mh A.a_61 A.d_61 ["stamper", "bits", "low", "high", "paper", "key"]
 f_7:Fm K mg "_law_ask" "_law_ask" s_7 A.a_7 A.d_7 ["_law_way", "_law_by", "_law_asked"]
 f_19:Fm K mg "_law_name" "_law_name" yh A.a_19 A.d_19 ["_law_way", "_law_by", "_law_asked"]
 f_15:Fm K mg "_law_kinds" "_law_kinds" xn A.a_15 A.d_15 ["_law_way", "_law_by", "_law_asked"]
 f_29:Fm K mg "_law_refused" "_law_refused" xc A.a_29 A.d_29 ["_law_name_here", "_law_way", "_law_by", "_law_asked"]
 f_25:Fm K mg "_law_outside_right" "_law_outside_right" xX A.a_25 A.d_25 ["_law_by", "_law_low", "_law_high", "_law_bad", "_law_key_here"]
 f_24:Fm K mg "_law_order_right" "_law_order_right" wL A.a_24 A.d_24 ["_law_cell", "_law_by", "_law_low", "_law_high", "_law_paper_here"]
 f_12:Fm K mg "_law_fields" "_law_fields" yl A.a_12 A.d_12 ["_law_by", "_law_asked"]
 f_11:Fm K mg "_law_broken_right" "_law_broken_right" xa A.a_11 A.d_11 ["_law_by", "_law_came", "_law_asked"]
 f_53:Fm K mg "law" "law" xC A.a_53 A.d_53 ["_law_script"]
 z_ValueError:mg "ValueError" =none
 z_all:mg "all" =none
 z_bool:mg "bool" =none
 z_int:mg "int" =none
 z_isinstance:mg "isinstance" =none
 z_len:mg "len" =none
 z_list:mg "list" =none
 z_max:mg "max" =none
 z_min:mg "min" =none
 z_ord:mg "ord" =none
 z_range:mg "range" =none
 z_str:mg "str" =none
 z_sum:mg "sum" =none
 z_tuple:mg "tuple" =none
 c_MOST_BITS:∃ t,mg "MOST_BITS" =some (.int 60 t)
 c_MOST_PARTS:∃ t,mg "MOST_PARTS" =some (.int 8 t)
 c_MOST_SIGNS:∃ t,mg "MOST_SIGNS" =some (.int 60 t)
 kc_41:A.d_41.code=.ref A.k_41
 kc_32:A.d_32.code=.ref A.k_32
 kc_36:A.d_36.code=.ref A.k_36
 kc_68:A.d_68.code=.ref A.k_68
 mc_NoStretch:mg "NoStretch" =some (.ref A.c_NoStretch)
 eo_NoStretch:bX K A.c_NoStretch
 mc_NoKey:mg "NoKey" =some (.ref A.c_NoKey)
 eo_NoKey:bX K A.c_NoKey
 mc_NoPart:mg "NoPart" =some (.ref A.c_NoPart)
 eo_NoPart:bX K A.c_NoPart
 mc_Broken:mg "Broken" =some (.ref A.c_Broken)
 eo_Broken:bX K A.c_Broken
 mc_StampError:mg "StampError" =some (.ref A.c_StampError)
 eo_StampError:bX K A.c_StampError
 er_NoStretch:ej K A.c_NoStretch
 er_NoKey:ej K A.c_NoKey
 eg_NoStretch:cK K A.c_NoStretch
 eg_NoKey:cK K A.c_NoKey
 eg_NoPart:cK K A.c_NoPart
 eg_Broken:cK K A.c_Broken
 ef_NoPart_begin:HT.eI K A.c_NoPart "begin"
 ef_NoPart_depth:HT.eI K A.c_NoPart "depth"
 ef_Broken_came:HT.eI K A.c_Broken "came"
 ef_Broken_due:HT.eI K A.c_Broken "due"
 em_NoPart:rB K A.c_NoPart A.a_3
 em_Broken:rB K A.c_Broken A.a_1
 sb_NoStretch_Broken:bN K A.c_NoStretch A.c_Broken=some false
 sb_NoStretch_NoPart:bN K A.c_NoStretch A.c_NoPart=some false
 sb_NoStretch_NoStretch:bN K A.c_NoStretch A.c_NoStretch=some true
 sb_NoStretch_NoKey:bN K A.c_NoStretch A.c_NoKey=some false
 sb_NoStretch_StampError:bN K A.c_NoStretch A.c_StampError=some true
 sb_NoKey_Broken:bN K A.c_NoKey A.c_Broken=some false
 sb_NoKey_NoPart:bN K A.c_NoKey A.c_NoPart=some false
 sb_NoKey_NoStretch:bN K A.c_NoKey A.c_NoStretch=some false
 sb_NoKey_NoKey:bN K A.c_NoKey A.c_NoKey=some true
 sb_NoKey_StampError:bN K A.c_NoKey A.c_StampError=some true
 sb_NoPart_Broken:bN K A.c_NoPart A.c_Broken=some false
 sb_NoPart_NoPart:bN K A.c_NoPart A.c_NoPart=some true
 sb_NoPart_NoStretch:bN K A.c_NoPart A.c_NoStretch=some false
 sb_NoPart_NoKey:bN K A.c_NoPart A.c_NoKey=some false
 sb_NoPart_StampError:bN K A.c_NoPart A.c_StampError=some true
 sb_Broken_Broken:bN K A.c_Broken A.c_Broken=some true
 sb_Broken_NoPart:bN K A.c_Broken A.c_NoPart=some false
 sb_Broken_NoStretch:bN K A.c_Broken A.c_NoStretch=some false
 sb_Broken_NoKey:bN K A.c_Broken A.c_NoKey=some false
 sb_Broken_StampError:bN K A.c_Broken A.c_StampError=some true
 ki_NoStretch_Broken:W.kitOne K (.ref A.c_NoStretch) (.ref A.c_Broken)=some false
 ki_NoStretch_NoPart:W.kitOne K (.ref A.c_NoStretch) (.ref A.c_NoPart)=some false
 ki_NoStretch_NoStretch:W.kitOne K (.ref A.c_NoStretch) (.ref A.c_NoStretch)=some true
 ki_NoStretch_NoKey:W.kitOne K (.ref A.c_NoStretch) (.ref A.c_NoKey)=some false
 ki_NoStretch_ValueError:W.kitOne K (.ref A.c_NoStretch) (.type "ValueError")=some true
 ki_NoKey_Broken:W.kitOne K (.ref A.c_NoKey) (.ref A.c_Broken)=some false
 ki_NoKey_NoPart:W.kitOne K (.ref A.c_NoKey) (.ref A.c_NoPart)=some false
 ki_NoKey_NoStretch:W.kitOne K (.ref A.c_NoKey) (.ref A.c_NoStretch)=some false
 ki_NoKey_NoKey:W.kitOne K (.ref A.c_NoKey) (.ref A.c_NoKey)=some true
 ki_NoKey_ValueError:W.kitOne K (.ref A.c_NoKey) (.type "ValueError")=some true
 ki_NoPart_Broken:W.kitOne K (.ref A.c_NoPart) (.ref A.c_Broken)=some false
 ki_NoPart_NoPart:W.kitOne K (.ref A.c_NoPart) (.ref A.c_NoPart)=some true
 ki_NoPart_NoStretch:W.kitOne K (.ref A.c_NoPart) (.ref A.c_NoStretch)=some false
 ki_NoPart_NoKey:W.kitOne K (.ref A.c_NoPart) (.ref A.c_NoKey)=some false
 ki_NoPart_ValueError:W.kitOne K (.ref A.c_NoPart) (.type "ValueError")=some true
 ki_Broken_Broken:W.kitOne K (.ref A.c_Broken) (.ref A.c_Broken)=some true
 ki_Broken_NoPart:W.kitOne K (.ref A.c_Broken) (.ref A.c_NoPart)=some false
 ki_Broken_NoStretch:W.kitOne K (.ref A.c_Broken) (.ref A.c_NoStretch)=some false
 ki_Broken_NoKey:W.kitOne K (.ref A.c_Broken) (.ref A.c_NoKey)=some false
 ki_Broken_ValueError:W.kitOne K (.ref A.c_Broken) (.type "ValueError")=some true
 mc_Numbers:mg "Numbers" =some (.ref A.c_Numbers)
 cl_Numbers:Cls K A.c_Numbers
 na_Numbers_given:bU K A.c_Numbers "given"
 mc_Fork:mg "Fork" =some (.ref A.c_Fork)
 cl_Fork:Cls K A.c_Fork
 na_Fork_depth:bU K A.c_Fork "depth"
 na_Fork_begin:bU K A.c_Fork "begin"
 na_Fork_left:bU K A.c_Fork "left"
 na_Fork_right:bU K A.c_Fork "right"
 na_Fork_term:bU K A.c_Fork "term"
 na_Fork_mark:bU K A.c_Fork "mark"
 mc_Knot:mg "Knot" =some (.ref A.c_Knot)
 cl_Knot:Cls K A.c_Knot
 na_Knot_term:bU K A.c_Knot "term"
 na_Knot_mark:bU K A.c_Knot "mark"
 mc_Bare:mg "Bare" =some (.ref A.c_Bare)
 cl_Bare:Cls K A.c_Bare
 na_Bare_term:bU K A.c_Bare "term"
 na_Bare_mark:bU K A.c_Bare "mark"
 mc_Table:mg "Table" =some (.ref A.c_Table)
 cl_Table:Cls K A.c_Table
 na_Table_stamper:bU K A.c_Table "stamper"
 na_Table_bits:bU K A.c_Table "bits"
 na_Table_top:bU K A.c_Table "top"
 me_Numbers_number_of:xl K A.c_Numbers "number_of" A.a_5
 mk_Numbers:Mk K A.c_Numbers A.a_4
 mk_Bare:Mk K A.c_Bare A.a_0
 mk_Table:Mk K A.c_Table A.a_6
 cf_Knot:za K A.c_Knot "__init__" A.a_2
 oi_Fork:rC K A.c_Fork
 oi_Bare:rC K A.c_Bare
 ko_Fork_Fork:W.kitOne K (.ref A.c_Fork) (.ref A.c_Fork)=some true
 ko_Bare_Fork:W.kitOne K (.ref A.c_Bare) (.ref A.c_Fork)=some false
def HI (A:Adr) (H:Hp):Prop:=H A.t_41=some (.tbl #[])∧H A.t_32=some (.tbl #[])∧H A.t_36=some (.tbl #[])∧H A.t_68=some (.tbl #[])∧([A.t_41,A.t_32,A.t_36,A.t_68]:List Addr).Nodup
theorem HH:eW ["term"] ["term"] [] fE.scope:=⟨rfl,rfl,rfl,by decide +kernel,rfl,rfl,by decide +kernel,by decide +kernel,by decide +kernel,by decide +kernel,by decide +kernel⟩
theorem Ed:eW ["term", "numbers"] ["term"] ["numbers"] gb.scope:=⟨rfl,rfl,rfl,by decide +kernel,rfl,rfl,by decide +kernel,by decide +kernel,by decide +kernel,by decide +kernel,by decide +kernel⟩
theorem GI:eW ["_law_term", "_law_known", "_law_first"] ["_law_term"] ["_law_known", "_law_first"] gi.scope:=⟨rfl,rfl,rfl,by decide +kernel,rfl,rfl,by decide +kernel,by decide +kernel,by decide +kernel,by decide +kernel,by decide +kernel⟩
theorem jC:eW ["_law_term", "_law_total", "_law_part_here", "_law_signs", "_law_many"] ["_law_term"] ["_law_many"] fV.scope:=⟨rfl,rfl,rfl,by decide +kernel,rfl,rfl,by decide +kernel,by decide +kernel,by decide +kernel,by decide +kernel,by decide +kernel⟩
theorem El:aA ["thing"] ["thing"] (am xh):=scF
theorem FF:aA ["thing"] ["thing"] (am wo):=scF
theorem EO:aA ["thing"] ["thing"] (am xY):=scF
theorem yI:aA ["part", "signs"] ["part"] (am wH):=scF
theorem EW:aA ["term"] ["term"] (am wX):=scF
theorem Jo:aA ["self", "term"] ["self", "term"] (am s_5):=scF
theorem Fs:aA ["_law_cell"] ["_law_cell"] (am xR):=scF
theorem pD:aA ["_law_script", "_law_k", "_law_number_here", "_law_cell"] ["_law_script", "_law_k"] (am s_8):=scF
theorem nK:aA ["_law_bits_here", "_law_cell", "_law_others", "_law_many", "_law_number_here", "_law_flip"] ["_law_bits_here", "_law_cell", "_law_others"] (am wu):=scF
theorem lw:aA ["_law_bits_here", "_law_one", "_law_other", "_law_low", "_law_high"] ["_law_bits_here", "_law_one", "_law_other"] (am xA):=scF
theorem En:aA ["_law_cell", "_law_depth", "_law_begin_here"] ["_law_cell", "_law_depth", "_law_begin_here"] (am wV):=scF
theorem zp:aA ["_law_bits_here", "_law_low", "_law_high", "_law_depth", "_law_begin_here", "_law_wide"] ["_law_bits_here", "_law_low", "_law_high", "_law_depth", "_law_begin_here"] (am wx):=scF
theorem yU:aA ["_law_number_here"] ["_law_number_here"] (am vH):=scF
theorem gk:aA ["_law_cell", "_law_signs", "_law_size", "_law_made", "_law_k"] ["_law_cell"] (am ya):=scF
theorem BZ:aA ["_law_number_here", "_law_begin_here", "_law_more", "_law_low", "_law_high", "_law_free", "_law_own"] ["_law_number_here", "_law_begin_here", "_law_more", "_law_low", "_law_high", "_law_free"] (am s_9):=scF
theorem gd:aA ["_law_cell", "_law_bits_here", "_law_low", "_law_high", "_law_depth", "_law_begin_here", "_law_deep", "_law_number_here", "_law_free", "_law_key_here", "_law_more", "_law_own", "_law_left", "_law_right"] ["_law_cell", "_law_bits_here", "_law_low", "_law_high", "_law_depth", "_law_begin_here", "_law_deep"] (am wq):=scF
theorem rM:aA ["_law_cell", "_law_bits_here", "_law_low", "_law_high", "_law_deep"] ["_law_cell", "_law_bits_here", "_law_low", "_law_high"] (am wc):=scF
theorem JU:aA ["self"] ["self"] (am s_4):=scF
theorem yu:aA ["numbers"] [] (am kq):=scF
theorem sL:aA ["_law_first", "_law_known", "_law_number"] ["_law_first"] (am kr):=scF
theorem zh:aA ["_law_many", "_law_short"] ["_law_many"] (am km):=scF
theorem Et:aA [] [] (am kj):=scF
theorem og:aA ["_law_stamper", "_law_part_here", "_law_left", "_law_right", "_law_own"] ["_law_stamper", "_law_part_here"] (am xj):=scF
theorem Hs:aA ["_law_part_here"] ["_law_part_here"] (am xL):=scF
theorem Fo:aA ["_law_part_here", "_law_low", "_law_high"] ["_law_part_here", "_law_low", "_law_high"] (am ye):=scF
theorem FN:aA ["_law_found", "_law_due"] ["_law_found", "_law_due"] (am vS):=scF
theorem yM:aA ["_law_found", "_law_due", "_law_k"] ["_law_found", "_law_due"] (am yd):=scF
theorem yX:aA ["_law_found", "_law_due", "_law_k"] ["_law_found", "_law_due"] (am vR):=scF
theorem Fq:aA ["bits", "thing"] ["bits", "thing"] (am wY):=scF
theorem Fl:aA ["bits", "low", "high"] ["bits", "low", "high"] (am lH):=scF
theorem yK:aA ["bits", "depth", "begin", "rest"] ["bits", "depth", "begin"] (am wz):=scF
theorem zf:aA ["bits", "low", "high", "depth", "begin", "ends"] ["bits", "low", "high", "depth", "begin"] (am vO):=scF
theorem HD:aA ["thing"] ["thing"] (am vJ):=scF
theorem FD:aA ["thing"] ["thing"] (am xb):=scF
theorem EX:aA ["bits", "key", "depth"] ["bits", "key", "depth"] (am wk):=scF
theorem GM:aA ["bits", "depth", "begin", "thing"] ["bits", "depth", "begin", "thing"] (am wQ):=scF
theorem Gr:aA ["bits", "depth", "begin", "thing"] ["bits", "depth", "begin", "thing"] (am yf):=scF
theorem Fg:aA ["bits", "low", "high", "depth", "begin", "thing"] ["bits", "low", "high", "depth", "begin", "thing"] (am wt):=scF
theorem Js:aA ["self", "depth", "begin"] ["self", "depth", "begin"] (am s_3):=scF
theorem HY:aA ["bits", "low", "high", "depth", "begin", "part"] ["bits", "low", "high", "depth", "begin", "part"] (am lK):=scF
theorem Eu:aA ["bits", "low", "high", "paper"] ["bits", "low", "high", "paper"] (am lP):=scF
theorem Hx:aA ["stamper", "part", "terms"] ["stamper", "part", "terms"] (am xm):=scF
theorem oz:aA ["stamper", "part", "left", "right", "marks"] ["stamper", "part"] (am wW):=scF
theorem Em:aA ["stamper", "bits", "low", "high", "paper"] ["stamper", "bits", "low", "high", "paper"] (am lI):=scF
theorem Iw:aA ["self", "due", "came"] ["self", "due", "came"] (am s_1):=scF
theorem Hm:aA ["low", "high", "terms"] ["low", "high", "terms"] (am yg):=scF
theorem su:aA ["stamper", "bits", "mark", "low", "high", "paper", "terms", "came"] ["stamper", "bits", "mark", "low", "high", "paper"] (am me):=scF
theorem zq:aA ["_law_bits_here", "_law_cell", "_law_far"] ["_law_bits_here", "_law_cell"] (am xB):=scF
theorem zk:aA ["_law_paper_here", "_law_some"] ["_law_paper_here"] (am yi):=scF
theorem si:aA ["bits", "low", "high", "depth", "begin", "knot", "left", "right"] ["bits", "low", "high", "depth", "begin", "knot"] (am vW):=scF
theorem Fy:aA ["table", "low", "high"] ["table", "low", "high"] (am lZ):=scF
theorem GW:aA ["thing"] ["thing"] (am xF):=scF
theorem JE:aA ["self", "stamper", "term"] ["self", "stamper", "term"] (am s_2):=scF
theorem IC:aA ["self", "stamper"] ["self", "stamper"] (am s_0):=scF
theorem Ji:aA ["self", "stamper", "bits"] ["self", "stamper", "bits"] (am s_6):=scF
theorem GL:aA ["stamper", "bits", "low", "high", "paper"] ["stamper", "bits", "low", "high", "paper"] (am md):=scF
theorem FS:aA ["bits", "key", "depth"] ["bits", "key", "depth"] (am xH):=scF
theorem jt:aA ["stamper", "bits", "low", "high", "paper", "key", "steps", "part", "turn", "aside"] ["stamper", "bits", "low", "high", "paper", "key"] (am mh):=scF
theorem xS:aA ["_law_way", "_law_by", "_law_asked", "_law_stamper", "_law_bits_here", "_law_mark_here", "_law_low", "_law_high", "_law_paper_here", "_law_key_here"] ["_law_way", "_law_by", "_law_asked"] (am s_7):=scF
theorem jI:aA ["_law_way", "_law_by", "_law_asked", "_law_name_here"] ["_law_way", "_law_by", "_law_asked"] (am yh):=scF
theorem lB:aA ["_law_way", "_law_by", "_law_asked", "_law_kinds_here", "e"] ["_law_way", "_law_by", "_law_asked"] (am xn):=scF
theorem yJ:aA ["_law_name_here", "_law_way", "_law_by", "_law_asked", "_law_due"] ["_law_name_here", "_law_way", "_law_by", "_law_asked"] (am xc):=scF
theorem FA:aA ["_law_by", "_law_low", "_law_high", "_law_bad", "_law_key_here"] ["_law_by", "_law_low", "_law_high", "_law_bad", "_law_key_here"] (am xX):=scF
theorem ir:aA ["_law_cell", "_law_by", "_law_low", "_law_high", "_law_paper_here", "_law_some", "_law_bad_key", "_law_papers", "_law_bad", "_law_way", "_law_key_here"] ["_law_cell", "_law_by", "_law_low", "_law_high", "_law_paper_here"] (am wL):=scF
theorem nh:aA ["_law_by", "_law_asked", "_law_found", "e"] ["_law_by", "_law_asked"] (am yl):=scF
theorem yO:aA ["_law_by", "_law_came", "_law_asked", "_law_found"] ["_law_by", "_law_came", "_law_asked"] (am xa):=scF
theorem eQ:aA ["_law_script", "_law_bits_here", "_law_low", "_law_high", "_law_paper_here", "_law_cell", "_law_some", "_law_stamper", "_law_came", "_law_terms", "_law_due", "_law_mark_here"] ["_law_script"] (am xC):=scF
inductive Dat where
 | non
 | bl (b:Bool)
 | int (i:Int)
 | str (z:Str)
 | lst (ds:List Dat)
 | tup (ds:List Dat)
 | dic
mutual
inductive aU (H:Hp):V→Dat→Prop
 | non:aU H .non .non
 | bl (b):aU H (.bl b) (.bl b)
 | int (i):aU H (.int i) (.int i)
 | str (z):aU H (.str z) (.str z)
 | lst {a xs ds}:H a=some (.lst xs)→DatWs H xs ds→aU H (.ref a) (.lst ds)
 | tup {a xs ds}:H a=some (.tup xs)→DatWs H xs ds→aU H (.ref a) (.tup ds)
 | dic {a}:(∃ kvs,H a=some (.dK kvs))→aU H (.ref a) .dic
inductive DatWs (H:Hp):List V→List Dat→Prop
 | nil:DatWs H [] []
 | cons {x xs d ds}:aU H x d→DatWs H xs ds→DatWs H (x::xs) (d::ds)
end
mutual
def bS:Dat→PyData
 | .non=> .none
 | .bl b=> .bool b
 | .int i=> .int i
 | .str z=> .str z
 | .lst ds=> .list (toPys ds)
 | .tup ds=> .tuple (toPys ds)
 | .dic=> .none
def toPys:List Dat→List PyData
 | []=>[]
 | d::r=>bS d::toPys r
end
def bW (z:Str):Bool:=z.cps.all (·<128)
mutual
def okD:Dat→Bool
 | .str z=>bW z&&decide (z.length≤100000)
 | .lst ds=>okDs ds
 | .tup ds=>okDs ds
 | .dic=>false
 | .non=>true
 | .bl _=>true
 | .int _=>true
def okDs:List Dat→Bool
 | []=>true
 | d::r=>okD d&&okDs r
end
def xu:Dat→Bool
 | .int _=>true
 | _=>false
def eU:Dat→Bool
 | .int i=>decide (0≤i∧i<10^60)
 | .str _=>true
 | _=>false
def cB (w:Str):Dat→Bool
 | .str z=>decide (z=w)
 | _=>false
def bD (bits:Int):Dat→Bool
 | .int i=>decide (0≤i∧i<2^bits.toNat)
 | _=>false
def eT:Dat→Bool
 | .str z=>decide (z.length≤60)
 | _=>false
def fK (bits key depth:Int):Int:=key/2^(bits - depth).toNat
def dI (bits depth begin:Int):Dat→Bool
 | .tup [w,.int k,z]=>cB "leaf" w&&decide (0≤k∧k<2^bits.toNat)&&eT z&&decide (fK bits k depth=begin)
 | _=>false
def fe (bits depth begin:Int):Dat→Bool
 | .tup [w,.int e,.int b,_,_]=>cB "fork" w&&decide (depth≤e∧e<bits)&&decide (0≤b∧b<2^e.toNat)&&decide (b/2^(e - depth).toNat=begin)
 | _=>false
def ib:Dat→Bool
 | .tup [w]=>cB "bare" w
 | _=>false
def dW (d:Dat):Prop:=(okD d=true∧(bS d).depth≤140)∨d=.dic
def gf (K:W.Frag) (A:Adr):Sp:=fun vs H Q _=>∃ v d,vs=[v]∧aU H v d∧Q (.bl (xu d)) H
def lm (K:W.Frag) (A:Adr):Sp:=fun vs H Q _=>∃ v d,vs=[v]∧aU H v d∧Q (.bl (eU d)) H
def kF (K:W.Frag) (A:Adr):Sp:=fun vs H Q _=>∃ (b k d:Int),vs=[.int b,.int k,.int d]∧d≤b∧Q (.int (fK b k d)) H
def iE (K:W.Frag) (A:Adr):Sp:=fun vs H Q _=>∃ (b:Int) (v:V) (d:Dat),vs=[.int b,v]∧0≤b∧b≤60∧aU H v d∧Q (.bl (bD b d)) H
def oq (K:W.Frag) (A:Adr):Sp:=fun vs H Q _=>∃ (v:V) (d:Dat),vs=[v]∧aU H v d∧okD d=true∧Q (.bl (eT d)) H
def oA (K:W.Frag) (A:Adr):Sp:=fun vs H Q _=>∃ (b p g:Int) (v:V) (d:Dat),vs=[.int b,.int p,.int g,v]∧0≤b∧b≤60∧p≤b∧aU H v d∧dW d∧Q (.bl (dI b p g d)) H
def nZ (K:W.Frag) (A:Adr):Sp:=fun vs H Q _=>∃ (b p g:Int) (v:V) (d:Dat),vs=[.int b,.int p,.int g,v]∧0≤p∧b≤60∧p≤b∧aU H v d∧dW d∧Q (.bl (fe b p g d)) H
def dk:Key→Dat
 | .inl i=> .int i
 | .inr z=> .str z
def szK:Key→Nat
 | .inl _=>62
 | .inr z=>z.length+62
def vj (m:Key):Prop:=eU (dk m)=true∧okD (dk m)=true∧szK m≤1062
def im (K:W.Frag) (A:Adr):Sp:=fun vs H Q _=>∃ (a:Addr) (ns:List Int) (k:Int),vs=[.ref a,.int k]∧SqL K H a (ns.map V.int)∧0≤k∧∀ (z:Int) (H':Hp),av H H'→Q (.int z) H'
def oE (K:W.Frag) (A:Adr):Sp:=fun vs H Q _=>∃ c:Int,vs=[.int c]∧∀ (b:Int) (H':Hp),av H H'→1≤b→b≤60→Q (.int b) H'
def kE (K:W.Frag) (A:Adr):Sp:=fun vs H Q _=>∃ (b c:Int) (o:Addr) (ks:List Int),vs=[.int b,.int c,.ref o]∧1≤b∧b≤60∧H o=some (.lst (ks.map V.int))∧ks.length≤1∧(∀ k∈ks,0≤k∧k<2^b.toNat)∧∀ (k:Int) (H':Hp),av H H'→0≤k→k<2^b.toNat→Q (.int k) H'
def jQ (K:W.Frag) (A:Adr):Sp:=fun vs H Q _=>∃ c:Int,vs=[.int c]∧∀ (z:Str) (H':Hp),av H H'→z.length≤60→bW z=true→Q (.str z) H'
def kK (K:W.Frag) (A:Adr):Sp:=fun vs H Q _=>∃ c:Int,vs=[.int c]∧∀ m:Key,vj m→Q (kV m) H
def okP:Key→Bool
 | .inl i=>decide (0≤i∧i<10^60)
 | .inr z=>bW z&&decide (z.length≤100000)
def kO:Key→Bool
 | .inr _=>true
 | .inl _=>false
def okT (k:List Key):Bool:=decide (1≤k.length∧k.length≤8)&&(k.head?.map kO).getD false&&k.all okP
def szT (k:List Key):Nat:=(k.map szK).sum
def sq (k:List Key):Key→Prop
 | .inl i=>0≤i∧i<10^60
 | .inr z=>bW z=true∧z.length≤szT k
def gD (t:Int):Key→Int
 | .inr z=>t*7+z.length+2*((PySem.Txt.slice z none (some 2)).cps.toList.map fun c=>((c:Nat):Int)).sum
 | .inl i=>t*5+i
def tz (m:Int) (k:List Key):Key:=.inl (k.foldl gD 0%m)
def eP:Key→Str
 | .inl i=>toString i++ ";"
 | .inr z=>toString (z.length:Int)++ ":" ++z
def fW:List Key→Str
 | []=>Str.empty
 | x::r=>eP x++fW r
def cY (kvs:List (List Key×Key)):List (List Key×V):=kvs.map fun p=>(p.1,kV p.2)
def dD (kvs:List (List Key×Key)) (k:List Key):Option Key:=(kvs.find? fun p=>decide (p.1=k)).map (·.2)
def gY:Key→Prop
 | .inl i=>0≤i∧i<10^60
 | .inr z=>bW z=true∧z.length≤62
def fL (kvs:List (List Key×Key)):Prop:=∀ p∈kvs,gY p.2
structure fZ (A:Adr) (H:Hp) (x d:Addr) (kvs:List (List Key×V)):Prop where
 ob:∃ dx,H x=some (.ins A.c_Numbers dx [("given",.ref d)])
 di:H d=some (.dT kvs)
def aE (b:Addr) (H H':Hp):Prop:=∀ x o,x≠b→H x=some o→H' x=some o
inductive Stp (A:Adr) (H:Hp) (f b:Addr) (g:gOp) (n:Nat):Prop
 | wri (hc:dX H f fE [] []) (hb:b=f) (hg:g=fun k=>some (.inr (fW k)))
 | cnt (q x:Addr) (kvs:List (List Key×Key)) (hc:dX H f gb [q] [.ref x]) (num:fZ A H x b (cY kvs)) (hl:kvs.length≤n) (hs:fL kvs) (hg:g=dD kvs)
 | sur (q0 q1:Addr) (j:Int) (h0:0≤j) (h1:j<1000) (kvs:List (List Key×Key)) (hc:dX H f gi [q1,q0] [.ref b,.int j]) (hb:H b=some (.dT (cY kvs))) (hl:kvs.length≤n) (hs:fL kvs) (hg:g=dD kvs)
 | wea (q:Addr) (m:Int) (h1:1≤m) (h2:m≤9) (hc:dX H f fV [q] [.int m]) (hb:b=f) (hg:g=fun k=>some (tz m k))
def Sub (g g':gOp):Prop:=∀ k v,g k=some v→g' k=some v
def Ext (g:gOp) (h:List Key→Key):Prop:=∀ k v,g k=some v→h k=v
abbrev PK (H:Hp):List Addr→List (List Key)→Prop:=Paired (fun (p:Addr) (k:List Key)=>H p=some (.tup (k.map kV))∧okT k=true)
def kC (K:W.Frag) (A:Adr):Sp:=fun vs H Q _=>∃ (p:Addr) (k:List Key),vs=[.ref p]∧H p=some (.tup (k.map kV))∧okT k=true∧∀ H',av H H'→Q (.bl true) H'
def nV (K:W.Frag) (A:Adr):Sp:=fun vs H Q _=>∃ x:Key,vs=[kV x]∧okP x=true∧Q (.str (eP x)) H
def kJ (K:W.Frag) (A:Adr):Sp:=fun vs H Q _=>∃ (p:Addr) (k:List Key),vs=[.ref p]∧H p=some (.tup (k.map kV))∧okT k=true∧∀ H',av H H'→Q (.str (fW k)) H'
def sy (K:W.Frag) (A:Adr):Sp:=kJ K A
def iu (kvs:List (List Key×V)) (kk:List Key) (d:V):V:=(cf kvs kk).getD d
def iG (H:Hp) (b:Addr) (kvs:List (List Key×V)) (kk:List Key) (d:V):Hp:=if (cf kvs kk).isSome=true then H else upd H b (.dT (cX kvs kk d))
def sm (K:W.Frag) (A:Adr):Sp:=fun vs H Q _=>∃ x dx,vs=[.ref x]∧H x=some (.ins A.c_Numbers dx [])∧∀ d,H d=none→Q .non (upd (upd H d (.dT [])) x (.ins A.c_Numbers dx [("given",.ref d)]))
def tu (K:W.Frag) (A:Adr):Sp:=fun vs H Q _=>∃ (x d p:Addr) (kvs:List (List Key×V)) (k:List Key),vs=[.ref x,.ref p]∧fZ A H x d kvs∧kvs.length≤50000∧H p=some (.tup (k.map kV))∧okT k=true∧∀ H',av H H'→Q (iu kvs k (.int kvs.length)) (iG H' d kvs k (.int kvs.length))
def rX (K:W.Frag) (A:Adr):Sp:=fun vs H Q _=>∃ (x d p:Addr) (kvs:List (List Key×V)) (k:List Key),vs=[.ref p,.ref x]∧fZ A H x d kvs∧kvs.length≤50000∧H p=some (.tup (k.map kV))∧okT k=true∧∀ H',av H H'→Q (iu kvs k (.int kvs.length)) (iG H' d kvs k (.int kvs.length))
def tG (K:W.Frag) (A:Adr):Sp:=fun vs H Q _=>∃ (p b:Addr) (j:Int) (k:List Key) (kvs:List (List Key×V)),vs=[.ref p,.ref b,.int j]∧H p=some (.tup (k.map kV))∧H b=some (.dT kvs)∧kvs.length≤50000∧Q (iu kvs k (.int (3*(kvs.length:Int)+j))) (iG H b kvs k (.int (3*(kvs.length:Int)+j)))
def sW (K:W.Frag) (A:Adr):Sp:=fun vs H Q _=>∃ (p:Addr) (m:Int) (k:List Key),vs=[.ref p,.int m]∧1≤m∧m≤9∧H p=some (.tup (k.map kV))∧okT k=true∧∀ H',av H H'→Q (kV (tz m k)) H'
def bE (P:Addr) (H H':Hp):Prop:=∀ b o,H b=some o→b≠P→H' b=some o
def MkQ (A:Adr) (P:Addr) (H:Hp) (Q:VK):Prop:=∀ (f b:Addr) (g:gOp) (H':Hp),bE P H H'→Stp A H' f b g 0→H b=none→Q (.ref f) H'
def om (K:W.Frag) (A:Adr):Sp:=fun vs H Q _=>vs=[]∧H A.t_68=some (.tbl #[])∧MkQ A A.t_68 H Q
def oi (K:W.Frag) (A:Adr):Sp:=fun vs H Q _=>vs=[]∧H A.t_41=some (.tbl #[])∧MkQ A A.t_41 H Q
def ou (K:W.Frag) (A:Adr):Sp:=fun vs H Q _=>∃ j:Int,vs=[.int j]∧0≤j∧j<1000∧H A.t_32=some (.tbl #[])∧MkQ A A.t_32 H Q
def nU (K:W.Frag) (A:Adr):Sp:=fun vs H Q _=>∃ m:Int,vs=[.int m]∧1≤m∧m≤9∧H A.t_36=some (.tbl #[])∧MkQ A A.t_36 H Q
def jS (K:W.Frag) (A:Adr):Sp:=fun vs H Q _=>∃ x:Key,vs=[kV x,kV x]∧Q (.bl true) H
def oa (K:W.Frag) (A:Adr):Sp:=fun vs H Q _=>∃ (p r:Addr) (k:List Key),vs=[.ref p,.ref r]∧H p=some (.tup (k.map kV))∧H r=some (.tup (k.map kV))∧k.length≤8∧Q (.bl true) H
def nO (K:W.Frag) (A:Adr):Sp:=fun vs H Q _=>∃ (b k d:Int),vs=[.int b,.int k,.int d]∧d<b∧0≤k∧Q (.int (k/2^(b - d - 1).toNat%2)) H
def sP (K:W.Frag) (A:Adr):Sp:=fun vs H Q _=>∃ (a:Addr) (x y:V),vs=[.ref a,x,y]∧H a=some (eS A.c_Broken a none)∧∀ dx,H dx=none→Q .non (upd (upd (upd H a (eS A.c_Broken a (some dx))) dx (fw [("due",x)] dx)) dx (fw (cF "came" y [("due",x)]) dx))
def jM:Dat→Bool
 | .int i=>decide (1≤i∧i≤60)
 | _=>false
def nq (K:W.Frag) (A:Adr):Sp:=fun vs H Q _=>∃ (v:V) (d:Dat),vs=[v]∧aU H v d∧Q (.bl (jM d)) H
def oy (b D:Addr) (H H':Hp):Prop:=∀ x o,x≠b→x≠D→H x=some o→H' x=some o
def brT:List Key:=[.inr "bare"]
def tI (K:W.Frag) (A:Adr):Sp:=fun vs H Q _=>∃ (x dx C f b p:Addr) (g:gOp) (n:Nat) (k:List Key),vs=[.ref x,.ref f,.ref p]∧H x=some (.ins C dx [])∧Cls K C∧bU K C "term" ∧bU K C "mark" ∧Stp A H f b g n∧n≤45000∧H p=some (.tup (k.map kV))∧okT k=true∧
 ∀ (m:Key) (g':gOp) (H':Hp),oy b x H H'→H' x=some (.ins C dx [("term",.ref p),("mark",kV m)])→Stp A H' f b g' (n+1)→Sub g g'→g' k=some m→sq k m→Q .non H'
def sZ (K:W.Frag) (A:Adr):Sp:=fun vs H Q _=>∃ (x dx f b:Addr) (g:gOp) (n:Nat),vs=[.ref x,.ref f]∧H x=some (.ins A.c_Bare dx [])∧Stp A H f b g n∧n≤45000∧∀ (g':gOp) (H':Hp),oy b x H H'→Stp A H' f b g' (n+1)→Sub g g'→Q .non H'
structure TbN (A:Adr) (H:Hp) (x f:Addr) (B:Nat):Prop where
 ob:∃ dx y,H x=some (.ins A.c_Table dx [("stamper",.ref f),("bits",.int (B:Int)),("top",.ref y)])
def sN (K:W.Frag) (A:Adr):Sp:=fun vs H Q _=>∃ (x dx f b:Addr) (g:gOp) (n B:Nat),vs=[.ref x,.ref f,.int (B:Int)]∧H x=some (.ins A.c_Table dx [])∧Stp A H f b g n∧n≤45000∧1≤B∧B≤60∧∀ (g':gOp) (H':Hp),oy b x H H'→TbN A H' x f B→Stp A H' f b g' (n+1)→Sub g g'→Q .non H'
def nE (K:W.Frag) (A:Adr):Sp:=fun vs H Q _=>∃ B c:Int,vs=[.int B,.int c]∧1≤B∧B≤60∧∀ (L:Addr) (xs:List V) (H':Hp),av H H'→H' L=some (.lst xs)→xs.length=14→(∀ x∈xs,∃ d,aU H' x d∧bD B d=false)→Q (.ref L) H'
inductive aV where
 | cut (m:Key)
 | bare
 | leaf (k:Int) (z:Str)
 | fork (d b:Int) (l r:aV)
def bg:aV→Dat
 | .cut m=> .tup [.str "cut",dk m]
 | .bare=> .tup [.str "bare"]
 | .leaf k z=> .tup [.str "leaf",.int k,.str z]
 | .fork d b l r=> .tup [.str "fork",.int d,.int b,bg l,bg r]
def cA (b lo hi d g:Int):Bool:=decide (g*2^(b - d).toNat≤hi)&&decide (lo≤(g+1)*2^(b - d).toNat - 1)
def eG (b lo hi:Int):Int→Int→aV→Prop
 | d,g,.cut m=>cA b lo hi d g=false∧okP m=true∧szK m≤1062
 | d,g,.bare=>cA b lo hi d g=true∧d=0
 | d,g,.leaf k z=>cA b lo hi d g=true∧0≤k∧k<2^b.toNat∧z.length≤60∧bW z=true∧fK b k d=g
 | d,g,.fork e x l r=>cA b lo hi d g=true∧d≤e∧e<b∧0≤x∧x<2^e.toNat∧x/2^(e - d).toNat=g∧eG b lo hi (e+1) (2*x) l∧eG b lo hi (e+1) (2*x+1) r
def bd:aV→Nat
 | .fork _ _ l r=>bd l+bd r+1
 | _=>0
def cr:aV→Nat
 | .fork _ _ l r=>max (cr l) (cr r)+1
 | _=>0
def dn:aV→Nat
 | .cut _=>0
 | .fork _ _ l r=>dn l+dn r+1
 | _=>1
def gW:aV→Bool
 | .cut _=>true
 | _=>false
def dc (h:List Key→Key):aV→Key
 | .cut m=>m
 | .bare=>h [.inr "bare"]
 | .leaf k z=>h [.inr "leaf",.inl k,.inr z]
 | .fork d b l r=>h [.inr "fork",.inl d,.inl b,dc h l,dc h r]
def bw (h:List Key→Key):aV→List (List Key)
 | .cut _=>[]
 | .bare=>[[.inr "bare"]]
 | .leaf k z=>[[.inr "leaf",.inl k,.inr z]]
 | .fork d b l r=>bw h l++bw h r++[[.inr "fork",.inl d,.inl b,dc h l,dc h r]]
def szP:aV→Nat
 | .cut m=>szK m
 | .bare=>128
 | .leaf _ _=>312
 | .fork _ _ l r=>252+szP l+szP r
def ku (h:List Key→Key):aV→List Key
 | .cut _=>[]
 | .bare=>[.inr "bare"]
 | .leaf k z=>[.inr "leaf",.inl k,.inr z]
 | .fork d b l r=>[.inr "fork",.inl d,.inl b,dc h l,dc h r]
def tQ (p:aV) (ts:List (List Key)):Prop:=∀ t,ts.getLast?=some t→szT t+62≤szP p
def bH:aV→List (Int×Str)
 | .leaf k z=>[(k,z)]
 | .fork _ _ l r=>bH l++bH r
 | _=>[]
structure dg (b lo hi:Int):Prop where
 b1:1≤b
 b60:b≤60
 lo0:0≤lo
 le:lo≤hi
 hi1:hi<2^b.toNat
structure eO (H:Hp) (v:V) (b lo hi d g:Int) (p:aV):Prop where
 w:aU H v (bg p)
 ok:eG b lo hi d g p
 d0:0≤d
 d1:d≤b
 g0:0≤g
 g1:g<2^d.toNat
def oH (x:Int×Str):List Key:=[.inl x.1,.inr x.2]
abbrev PR (H:Hp):List Addr→List (Int×Str)→Prop:=Paired (fun (p:Addr) (x:Int×Str)=>H p=some (.tup ((oH x).map kV)))
def inI (lo hi:Int) (x:Int×Str):Bool:=decide (lo≤x.1)&&decide (x.1≤hi)
def ny (K:W.Frag) (A:Adr):Sp:=fun vs H Q _=>∃ b c e:Int,vs=[.int b,.int c,.int e]∧1≤b∧b≤60∧∀ (p:Addr) (lo hi:Int) (H':Hp),av H H'→H' p=some (.tup [.int lo,.int hi])→dg b lo hi→Q (.ref p) H'
structure cj (H:Hp) (v:V) (b lo hi:Int) (p:aV):Prop where
 e:dg b lo hi
 w:eO H v b lo hi 0 0 p
 f:bd p≤60
 t:cr p≤60
 z:szP p≤90000
def nY (K:W.Frag) (A:Adr):Sp:=fun vs H Q _=>∃ b d g:Int,vs=[.int b,.int d,.int g]∧0≤d∧d≤b∧b≤60∧0≤g∧g<2^d.toNat∧∀ p,H p=none→Q (.ref p) (upd H p (.tup [.int (g*2^(b - d).toNat),.int ((g+1)*2^(b - d).toNat - 1)]))
def kH (K:W.Frag) (A:Adr):Sp:=fun vs H Q _=>∃ b lo hi d g:Int,vs=[.int b,.int lo,.int hi,.int d,.int g]∧0≤d∧d≤b∧b≤60∧0≤g∧g<2^d.toNat∧∀ H',av H H'→Q (.bl (cA b lo hi d g)) H'
structure dA (H:Hp) (v:V) (p:aV):Prop where
 w:aU H v (bg p)
 ok:∃ b lo hi d g:Int,dg b lo hi∧0≤d∧d≤b∧eG b lo hi d g p
 f:bd p≤60
 z:szP p≤90000
def gh (K:W.Frag) (A:Adr) (j:Nat):Sp:=fun vs H Q _=>∃ (f b:Addr) (v:V) (p:aV) (g:gOp) (n:Nat),vs=[.ref f,v]∧dA H v p∧cr p<j∧Stp A H f b g n∧n+2*bd p≤42000∧
 ∀ (L:Addr) (ps:List Addr) (ts:List (List Key)) (g':gOp) (H':Hp),aE b H H'→Stp A H' f b g' (n+2*bd p)→Sub g g'→H' L=some (.lst (ps.map V.ref))→PK H' ps ts→(∀ h,Ext g' h→ts=bw h p)→tQ p ts→Q (.ref L) H'
def jX (K:W.Frag) (A:Adr):Sp:=fun vs H Q _=>∃ (f b L:Addr) (v:V) (p:aV) (ps:List Addr) (ts:List (List Key)) (g:gOp) (n:Nat),vs=[.ref f,v,.ref L]∧dA H v p∧Stp A H f b g n∧n≤44000∧H L=some (.lst (ps.map V.ref))∧PK H ps ts∧(∀ h,Ext g h→ts=bw h p)∧tQ p ts∧
 ∀ (x:Key) (g':gOp) (H':Hp),aE b H H'→Stp A H' f b g' (n+1)→Sub g g'→(∀ h,Ext g' h→x=dc h p)→okP x=true→szK x≤szP p→Q (kV x) H'
def nW (K:W.Frag) (A:Adr):Sp:=fun vs H Q _=>∃ (L:Addr) (lo hi:Int) (ps:List Addr) (h:List Key→Key) (p:aV),vs=[.int lo,.int hi,.ref L]∧H L=some (.lst (ps.map V.ref))∧PK H ps (bw h p)∧(bw h p).length≤1000∧
 ∀ (M:Addr) (rs:List Addr) (H':Hp),av H H'→H M=none→H' M=some (.lst (rs.map V.ref))→PR H' rs ((bH p).filter (inI lo hi))→Q (.ref M) H'
abbrev PT (H:Hp):List Addr→List (List Key)→Prop:=Paired (fun (p:Addr) (k:List Key)=>H p=some (.tup (k.map kV))∧k.length≤8)
def jK (K:W.Frag) (A:Adr):Sp:=fun vs H Q _=>∃ (L M:Addr) (ps rs:List Addr) (ts:List (List Key)),vs=[.ref L,.ref M]∧H L=some (.lst (ps.map V.ref))∧H M=some (.lst (rs.map V.ref))∧PT H ps ts∧PT H rs ts∧ts.length≤1000∧Q (.bl true) H
def oo (K:W.Frag) (A:Adr):Sp:=fun vs H Q _=>∃ c d g:Int,vs=[.int c,.int d,.int g]∧∀ n:Int,0≤n→n<999983→Q (.int n) H
def nR (K:W.Frag) (A:Adr):Sp:=fun vs H Q _=>∃ b lo hi d g:Int,vs=[.int b,.int lo,.int hi,.int d,.int g]∧dg b lo hi∧0≤d∧d≤b∧0≤g∧g<2^d.toNat∧Q (.bl (cA b lo hi d g)) H
def sI (K:W.Frag) (A:Adr):Sp:=fun vs H Q _=>∃ b n g m lo hi f:Int,vs=[.int n,.int g,.int m,.int lo,.int hi,.int f]∧dg b lo hi∧0≤n∧n<999983∧0≤g∧0≤m∧m<f∧f≤b∧g<2^(b - f).toNat∧∀ x:Int,0≤x→x<2^(b - f+m).toNat→x/2^m.toNat=g→Q (.int x) H
def iy (K:W.Frag) (A:Adr) (n:Nat):Sp:=fun vs H Q _=>∃ c b lo hi d g y:Int,vs=[.int c,.int b,.int lo,.int hi,.int d,.int g,.int y]∧dg b lo hi∧0≤d∧d≤b∧0≤g∧g<2^d.toNat∧0≤y∧y≤60∧b - d<n∧
 ∀ (v:V) (p:aV) (H':Hp),av H H'→eO H' v b lo hi d g p→bd p≤2^y.toNat - 1→(lo=hi→(bd p:Int)≤b - d)→(cr p:Int)≤b - d→Q v H'
def nk (K:W.Frag) (A:Adr):Sp:=fun vs H Q _=>∃ c b lo hi:Int,vs=[.int c,.int b,.int lo,.int hi]∧dg b lo hi∧∀ (v:V) (p:aV) (H':Hp),av H H'→cj H' v b lo hi p→bd p≤60→Q v H'
def io (K:W.Frag) (A:Adr) (j:Nat):Sp:=fun vs H Q _=>∃ (v:V) (p:aV),vs=[v]∧aU H v (bg p)∧cr p<j∧bd p≤70∧
 ∀ (M:Addr) (rs:List Addr) (H':Hp),av H H'→H M=none→H' M=some (.lst (rs.map V.ref))→PR H' rs (bH p)→Q (.ref M) H'
def nG (K:W.Frag) (A:Adr):Sp:=fun vs H Q _=>∃ (v:V) (p:aV) (lo hi:Int),vs=[v,.int lo,.int hi]∧aU H v (bg p)∧cr p≤60∧bd p≤70∧
 ∀ (M:Addr) (rs:List Addr) (H':Hp),av H H'→H M=none→H' M=some (.lst (rs.map V.ref))→PR H' rs ((bH p).filter (inI lo hi))→Q (.ref M) H'
inductive gy (A:Adr) (H:Hp) (b:Int) (v w:V) (E:XK) (R:Int→Int→Prop):Prop
 | key (d e:Dat) (hd:aU H v d) (he:aU H w e) (h:bD b d=false∨bD b e=false) (q:E (.ref A.c_NoKey) none H)
 | ord (lo hi:Int) (hv:v=.int lo) (hw:w=.int hi) (k1:bD b (.int lo)=true) (k2:bD b (.int hi)=true) (h:hi<lo) (q:E (.ref A.c_NoStretch) none H)
 | good (lo hi:Int) (hv:v=.int lo) (hw:w=.int hi) (en:dg b lo hi) (q:R lo hi)
def jU (K:W.Frag) (A:Adr):Sp:=fun vs H Q E=>∃ (b:Int) (v w:V),vs=[.int b,v,w]∧1≤b∧b≤60∧gy A H b v w E fun _ _=>Q .non H
def eJ (b:Int) (d:Dat):Bool:=if ib d then true else dI b 0 0 d||fe b 0 0 d
inductive ji (A:Adr) (H:Hp) (b lo hi:Int) (v:V) (E:XK) (R:aV→Prop):Prop
 | bad (d:Dat) (hd:aU H v d) (ok:dW d) (h:eJ b d=false) (q:∀ (dx:Addr) (H':Hp),av H H'→E (.ref A.c_NoPart) (some dx) H')
 | good (p:aV) (w:cj H v b lo hi p) (q:R p)
def nQ (K:W.Frag) (A:Adr):Sp:=fun vs H Q _=>∃ (v:V) (m:Key),vs=[v]∧aU H v (bg (.cut m))∧okP m=true∧Q (.bl true) H
def oB (K:W.Frag) (A:Adr):Sp:=fun vs H Q _=>∃ (b lo hi d g:Int) (v:V),vs=[.int b,.int lo,.int hi,.int d,.int g,v]∧dg b lo hi∧((∃ p,eO H v b lo hi d g p∧cr p≤60∧∀ H',av H H'→Q (.bl true) H')∨(d=0∧g=0∧∃ x,aU H v x∧dW x∧eJ b x=false∧∀ H',av H H'→Q (.bl false) H'))
def sS (K:W.Frag) (A:Adr):Sp:=fun vs H Q _=>∃ (a:Addr) (x y:V),vs=[.ref a,x,y]∧H a=some (eS A.c_NoPart a none)∧∀ dx,H dx=none→Q .non (upd (upd (upd H a (eS A.c_NoPart a (some dx))) dx (fw [("depth",x)] dx)) dx (fw (cF "begin" y [("depth",x)]) dx))
def gc (K:W.Frag) (A:Adr) (n:Nat):Sp:=fun vs H Q E=>∃ (b lo hi d g:Int) (v:V),vs=[.int b,.int lo,.int hi,.int d,.int g,v]∧dg b lo hi∧((∃ p,eO H v b lo hi d g p∧cr p≤60∧cr p<n∧∀ H',av H H'→Q .non H')∨(1≤n∧d=0∧g=0∧∃ x,aU H v x∧dW x∧eJ b x=false∧∀ (dx:Addr) (H':Hp),av H H'→E (.ref A.c_NoPart) (some dx) H'))
def nM (K:W.Frag) (A:Adr):Sp:=fun vs H Q E=>∃ (b:Int) (v w u:V),vs=[.int b,v,w,u]∧1≤b∧b≤60∧gy A H b v w E fun lo hi=>ji A H b lo hi u E fun _=>∀ H',av H H'→Q .non H'
def iI (K:W.Frag) (A:Adr):Sp:=fun vs H Q E=>∃ (f b:Addr) (c:Int) (v w u:V) (g:gOp) (n:Nat),vs=[.ref f,.int c,v,w,u]∧1≤c∧c≤60∧Stp A H f b g n∧n≤40000∧gy A H c v w E fun lo hi=>ji A H c lo hi u E fun p=>
 ∀ (L:Addr) (ps:List Addr) (ts:List (List Key)) (g':gOp) (H':Hp),aE b H H'→Stp A H' f b g' (n+200)→Sub g g'→H' L=some (.lst (ps.map V.ref))→PK H' ps ts→(∀ h,Ext g' h→ts=bw h p)→Q (.ref L) H'
def nj (K:W.Frag) (A:Adr):Sp:=fun vs H Q E=>∃ (f b:Addr) (c:Int) (v w u:V) (g:gOp) (n:Nat),vs=[.ref f,.int c,v,w,u]∧1≤c∧c≤60∧Stp A H f b g n∧n≤40000∧gy A H c v w E fun lo hi=>ji A H c lo hi u E fun p=>
 ∀ (x:Key) (g':gOp) (H':Hp),aE b H H'→Stp A H' f b g' (n+201)→Sub g g'→(∀ h,Ext g' h→x=dc h p)→Q (kV x) H'
def jO (K:W.Frag) (A:Adr):Sp:=fun vs H Q E=>∃ (f b:Addr) (c:Int) (m:Key) (v w u:V) (g:gOp) (n:Nat),vs=[.ref f,.int c,kV m,v,w,u]∧1≤c∧c≤60∧Stp A H f b g n∧n≤40000∧gy A H c v w E fun lo hi=>ji A H c lo hi u E fun p=>
 ∀ (x:Key) (g':gOp) (H':Hp),aE b H H'→Stp A H' f b g' (n+201)→Sub g g'→(∀ h,Ext g' h→x=dc h p)→
  (x=m→∀ (M:Addr) (rs:List Addr) (H2:Hp),av H' H2→H2 M=some (.lst (rs.map V.ref))→PR H2 rs ((bH p).filter (inI lo hi))→Q (.ref M) H2)∧
  (x≠m→∀ (dx:Addr) (H2:Hp),av H' H2→H2 dx=some (fw (cF "came" (kV x) [("due",kV m)]) dx)→E (.ref A.c_Broken) (some dx) H2)
def iH (K:W.Frag) (A:Adr) (n:Nat):Sp:=fun _ _ _ _=>False
def nP (K:W.Frag) (A:Adr):Sp:=fun vs H Q E=>∃ (x f:Addr) (B:Nat) (v w:V),vs=[.ref x,v,w]∧TbN A H x f B∧1≤B∧B≤60∧gy A H (B:Int) v w E fun _ _=>False
def nw (K:W.Frag) (A:Adr):Sp:=fun vs H Q E=>∃ (f:Addr) (c:Int) (v w u k:V),vs=[.ref f,.int c,v,w,u,k]∧1≤c∧c≤60∧((∃ d,aU H k d∧bD c d=false∧E (.ref A.c_NoKey) none H)∨∃ kk:Int,k=.int kk∧bD c (.int kk)=true∧gy A H c v w E fun lo hi=>(¬ (lo≤kk∧kk≤hi)∧E (.ref A.c_NoKey) none H)∨(lo≤kk∧kk≤hi∧ji A H c lo hi u E fun _=>False))
def ip (K:W.Frag) (A:Adr) (j:Nat):Sp:=fun vs H Q _=>∃ (f b:Addr) (v:V) (p:aV) (g:gOp) (n:Nat),vs=[.ref f,v]∧dA H v p∧cr p<j∧Stp A H f b g n∧n+dn p≤42000∧
 ∀ (t L:Addr) (x:Key) (ps:List Addr) (ts:List (List Key)) (g':gOp) (H':Hp),aE b H H'→Stp A H' f b g' (n+dn p)→Sub g g'→H' t=some (.tup [kV x,.ref L])→H' L=some (.lst (ps.map V.ref))→PK H' ps ts→(∀ h,Ext g' h→ts=bw h p∧x=dc h p)→okP x=true→szK x≤szP p→Q (.ref t) H'
def nH (K:W.Frag) (A:Adr):Sp:=fun vs H Q _=>∃ (v:V) (B lo hi:Int) (p:aV),vs=[v]∧cj H v B lo hi p∧∀ (L:Addr) (xs:List V) (H':Hp),av H H'→H' L=some (.lst xs)→xs.length=13→(∀ x∈xs,∃ d,aU H' x d∧dW d∧eJ B d=false)→Q (.ref L) H'
inductive Due (H:Hp) (B:Int) (g:gOp) (way:Int) (m cm:Key) (v w u k:V):Nat→Prop
 | ends (d e:Dat) (hd:aU H v d) (he:aU H w e) (h:bD B d=false∨bD B e=false) (hw:(0≤way∧way≤3)∨(way=4∧∃ kk:Int,k=.int kk∧bD B (.int kk)=true)):Due H B g way m cm v w u k 0
 | key (d:Dat) (hd:aU H k d) (h:bD B d=false) (hw:way=4):Due H B g way m cm v w u k 0
 | out (lo hi kk:Int) (hv:v=.int lo) (hw:w=.int hi) (hk:k=.int kk) (en:dg B lo hi) (ok:bD B (.int kk)=true) (h:¬ (lo≤kk∧kk≤hi)) (h4:way=4):Due H B g way m cm v w u k 0
 | ord (lo hi:Int) (hv:v=.int lo) (hw:w=.int hi) (k1:bD B (.int lo)=true) (k2:bD B (.int hi)=true) (h:hi<lo) (ha:(0≤way∧way≤3)∨(way=4∧∃ kk:Int,k=.int kk∧bD B (.int kk)=true)):Due H B g way m cm v w u k 1
 | part (lo hi:Int) (d:Dat) (hv:v=.int lo) (hw:w=.int hi) (en:dg B lo hi) (hd:aU H u d) (ok:dW d) (h:eJ B d=false) (ha:(1≤way∧way≤3)∨(way=4∧∃ kk:Int,k=.int kk∧lo≤kk∧kk≤hi)):Due H B g way m cm v w u k 2
 | broken (lo hi:Int) (p:aV) (hv:v=.int lo) (hw:w=.int hi) (pw:cj H u B lo hi p) (h3:way=3) (hc:∀ h,Ext g h→cm=dc h p) (ne:cm≠m):Due H B g way m cm v w u k 3
def cE (A:Adr):Nat→Addr
 | 0=>A.c_NoKey
 | 1=>A.c_NoStretch
 | 2=>A.c_NoPart
 | _=>A.c_Broken
def nmE:Nat→Str
 | 0=> "key"
 | 1=> "stretch"
 | 2=> "part"
 | _=> "broken"
structure je (A:Adr) (H:Hp) (way:V) (y z b f:Addr) (m cm:Key) (g:gOp) (n i:Nat):Prop where
 hv:∃ (wy B:Int) (v w u k:V),way=.int wy∧H y=some (.tup [.ref f,.int B,kV m])∧H z=some (.tup [v,w,u,k])∧1≤B∧B≤60∧Due H B g wy m cm v w u k i
 s:Stp A H f b g n
 hn:n≤35000
def gr (i:Nat):Nat:=if i=3 then 201 else 1
def mi (K:W.Frag) (A:Adr):Sp:=fun vs H Q E=>∃ (way:V) (y z f b:Addr) (m cm:Key) (g:gOp) (n i:Nat),vs=[way,.ref y,.ref z]∧je A H way y z b f m cm g n i∧∀ (od:Option Addr) (g':gOp) (H':Hp),aE b H H'→Stp A H' f b g' (n+gr i)→Sub g g'→(i=3→∃ dx,od=some dx∧H' dx=some (fw (cF "came" (kV cm) [("due",kV m)]) dx))→E (.ref (cE A i)) od H'
def nN (K:W.Frag) (A:Adr):Sp:=fun vs H Q _=>∃ (way:V) (y z f b:Addr) (m cm:Key) (g:gOp) (n i:Nat),vs=[way,.ref y,.ref z]∧je A H way y z b f m cm g n i∧∀ (g':gOp) (H':Hp),aE b H H'→Stp A H' f b g' (n+gr i)→Sub g g'→Q (.str (nmE i)) H'
def nS (K:W.Frag) (A:Adr):Sp:=fun vs H Q _=>∃ (way:V) (y z f b:Addr) (m cm:Key) (g:gOp) (n i:Nat),vs=[way,.ref y,.ref z]∧je A H way y z b f m cm g n i∧∀ (L:Addr) (g':gOp) (H':Hp),aE b H H'→Stp A H' f b g' (n+gr i)→Sub g g'→H' L=some (.lst [.bl true,.bl (i==0),.bl (i==1),.bl (i==2),.bl (i==3)])→Q (.ref L) H'
def dY (K:W.Frag) (A:Adr):Sp:=fun vs H Q _=>∃ (way:V) (y z f b:Addr) (m cm:Key) (g:gOp) (n i:Nat),vs=[.str (nmE i),way,.ref y,.ref z]∧i<4∧je A H way y z b f m cm g n i∧n≤30000∧∀ (g':gOp) (H':Hp),aE b H H'→Stp A H' f b g' (n+2*gr i)→Sub g g'→Q (.bl true) H'
def nX (K:W.Frag) (A:Adr):Sp:=fun vs H Q _=>∃ (y z f b:Addr) (B lo hi:Int) (m came:Key) (u k:V) (p:aV) (g:gOp) (n:Nat),vs=[.ref y,.ref z]∧H y=some (.tup [.ref f,.int B,kV m])∧H z=some (.tup [.int lo,.int hi,u,k])∧cj H u B lo hi p∧Stp A H f b g n∧n≤35000∧(∀ h,Ext g h→came=dc h p)∧came≠m∧∀ (r:Addr) (g':gOp) (H':Hp),aE b H H'→Stp A H' f b g' (n+201)→Sub g g'→H' r=some (.tup [kV m,kV came])→Q (.ref r) H'
def ol (K:W.Frag) (A:Adr):Sp:=fun vs H Q _=>∃ (y z f b:Addr) (B lo hi:Int) (m came:Key) (u k:V) (p:aV) (g:gOp) (n:Nat),vs=[.ref y,kV came,.ref z]∧H y=some (.tup [.ref f,.int B,kV m])∧H z=some (.tup [.int lo,.int hi,u,k])∧cj H u B lo hi p∧Stp A H f b g n∧n≤30000∧(∀ h,Ext g h→came=dc h p)∧came≠m∧∀ (g':gOp) (H':Hp),aE b H H'→Stp A H' f b g' (n+603)→Sub g g'→Q (.bl true) H'
structure wB (A:Adr) (H:Hp) (y f b:Addr) (B lo hi:Int) (m:Key) (g:gOp) (n:Nat):Prop where
 hy:H y=some (.tup [.ref f,.int B,kV m])
 en:dg B lo hi
 s:Stp A H f b g n
def nv (K:W.Frag) (A:Adr):Sp:=fun vs H Q _=>∃ (y f b:Addr) (B lo hi kk:Int) (m:Key) (u:V) (g:gOp) (n:Nat),vs=[.ref y,.int lo,.int hi,u,.int kk]∧wB A H y f b B lo hi m g n∧n≤29000∧∀ (g':gOp) (H':Hp),aE b H H'→Stp A H' f b g' (n+8)→Sub g g'→Q (.bl true) H'
def oj (K:W.Frag) (A:Adr):Sp:=fun vs H Q _=>∃ (y f b:Addr) (c B lo hi:Int) (m:Key) (u:V) (p:aV) (g:gOp) (n:Nat),vs=[.int c,.ref y,.int lo,.int hi,u]∧wB A H y f b B lo hi m g n∧n≤25000∧cj H u B lo hi p∧∀ (g':gOp) (H':Hp),aE b H H'→Stp A H' f b g' (n+100)→Sub g g'→Q (.bl true) H'
def nC (K:W.Frag) (A:Adr):Sp:=fun vs H Q _=>∃ (a:Addr) (ns:List Int),vs=[.ref a]∧SqL K H a (ns.map V.int)∧ns.length≤63∧HI A H∧∀ H',Q (.bl true) H'
def fM (K:W.Frag) (A:Adr):L2.kW:=[(fE,sy K A),(gb,rX K A),(gi,tG K A),(fV,sW K A)]
def BR (K:W.Frag) (A:Adr):TE:=ar (kJ K A) (fun _=>E0) (ae (af 0) (al))
def AJ (K:W.Frag) (A:Adr):TE:=uC A.c_Numbers "number_of" (tu K A) (fun _=>E0) (af 1) (ae (af 0) (al))
def Dj (K:W.Frag) (A:Adr):TS:=aB (tBM K "dict" qE (af 1) (ae (af 0) (ae (tOp (aY K) (tOp (bZ) (tC (.int 3)) (tCB (cu K) (ae (af 1) (al)))) (af 2)) (al))))
def CM (K:W.Frag) (A:Adr):TS:=aw (aH (tC (.int 0)) (ax 1)) (aw (gu (eR K (af 0)) (ax 2) (aR (bC K (tCB (dM) (ae (af 2) (ae (tC (.ty "str")) (al))))) (aw (aH (fI [] (eR K (tSl (oF K) (af 2) (ie) (ix (tC (.int 2))))) (fun _ H Q=>Q true H) (tCB (wU) (ae (af 0) (al)))) (ax 3)) (aH (tOp (aY K) (tOp (aY K) (tOp (bZ) (af 1) (tC (.int 7))) (tCB (cu K) (ae (af 2) (al)))) (tOp (bZ) (tC (.int 2)) (tCB (Bu K) (ae (af 3) (al))))) (ax 1))) (aH (tOp (aY K) (tOp (bZ) (af 1) (tC (.int 5))) (af 2)) (ax 1)))) (aB (tOp (bi) (af 1) (af 4))))
def Iu (K:W.Frag) (A:Adr):TS:=aB (dB (tCB (dM) (ae (af 0) (ae (tC (.ty "int")) (al)))) (nB (tCB (dM) (ae (af 0) (ae (tC (.ty "bool")) (al))))))
def IW (K:W.Frag) (A:Adr):TS:=aw (aR (bC K (ar (gf K A) (fun _=>E0) (ae (af 0) (al)))) (aB (cS (mLe) (mLt) (tC (.int 0)) (af 0) (tOp (lN) (tC (.int 10)) (tC (.int 60))))) (aF)) (aB (tCB (dM) (ae (af 0) (ae (tC (.ty "str")) (al)))))
def Il (K:W.Frag) (A:Adr):TS:=aw (aR (bA (bC K (tCB (dM) (ae (af 0) (ae (tC (.ty "tuple")) (al)))))) (aB (tC (.bl false))) (aF)) (aw (aR (bA (aL (cS (mLe) (mLe) (tC (.int 1)) (tCB (cu K) (ae (af 0) (al))) (tC (.int 8))))) (aB (tC (.bl false))) (aF)) (aB (dB (tCB (dM) (ae (tOp (aG K) (af 0) (tC (.int 0))) (ae (tC (.ty "str")) (al)))) (tCB (Dm) (ae (fI [] (eR K (af 0)) (fun _ H Q=>Q true H) (ar (lm K A) (fun _=>E0) (ae (af 0) (al)))) (al))))))
def JR (K:W.Frag) (A:Adr):TS:=aw (aR (bC K (ar (gf K A) (fun _=>E0) (ae (af 0) (al)))) (aB (mJ ((sd (af 0))::(tC (.str ";"))::[]) Str.empty)) (aF)) (aw (aH (tCB (cu K) (ae (af 0) (al))) (ax 1)) (aB (mJ ((sd (af 1))::(tC (.str ":"))::(sd (af 0))::[]) Str.empty)))
def Ja (K:W.Frag) (A:Adr):TS:=aw (aR (bA (bC K (ar (kC K A) (fun _=>E0) (ae (af 0) (al))))) (iX) (aF)) (aB (tBM K "str" zc (tC (.str "")) (ae (fI [] (eR K (af 0)) (fun _ H Q=>Q true H) (ar (nV K A) (fun _=>E0) (ae (af 0) (al)))) (al))))
def T_5 (K:W.Frag) (A:Adr):TS:=aw (aR (bA (bC K (ar (kC K A) (fun _=>E0) (ae (af 1) (al))))) (iX) (aF)) (aw (aR (aL (tOp (qY K) (af 1) (dC K (af 0) "given"))) (aH (tCB (cu K) (ae (dC K (af 0) "given") (al))) (xN (dC K (af 0) "given") (af 1) sf)) (aF)) (aB (tOp (aG K) (dC K (af 0) "given") (af 1))))
def Iy (K:W.Frag) (A:Adr):TS:=aB (tOp (aY K) (tC (.int 1)) (tOp (bi) (tOp (bQ) (af 0) (tC (.int 3))) (tOp (aG K) (bJ (ae (tC (.int 60)) (ae (tC (.int 8)) (ae (tC (.int 60)) (al))))) (tOp (bi) (af 0) (tC (.int 3))))))
def T_8 (K:W.Frag) (A:Adr):TS:=aw (aR (aL (tOp (mLt) (af 1) (tCB (cu K) (ae (af 0) (al))))) (aB (tOp (aG K) (af 0) (af 1))) (aF)) (aw (aH (tOp (aY K) (tC (.int 17)) (tCB (cu K) (ae (af 0) (al)))) (ax 2)) (aw (gu (eR K (tSl (oF K) (af 0) (ie) (ix (tC (.int 5))))) (ax 3) (aH (tOp (bi) (tOp (aY K) (tOp (bZ) (af 2) (tC (.int 31))) (af 3)) (tC (.int 1000003))) (ax 2))) (aw (aH (tOp (bi) (tOp (aY K) (af 2) (tOp (bZ) (tC (.int 7919)) (af 1))) (tC (.int 1000003))) (ax 2)) (aB (tOp (bi) (tOp (bZ) (af 2) (af 2)) (tC (.int 2147483629)))))))
def JM (K:W.Frag) (A:Adr):TS:=aw (aH (tOp (cZ) (tC (.int 1)) (af 0)) (ax 3)) (aw (aH (tOp (bQ) (af 1) (tC (.int 5))) (ax 4)) (aw (aR (aL (tOp (bu K) (tOp (bi) (af 1) (tC (.int 5))) (tC (.int 0)))) (aB (tOp (bi) (af 4) (af 3))) (aF)) (aw (aR (aL (tOp (bu K) (tOp (bi) (af 1) (tC (.int 5))) (tC (.int 1)))) (aB (tOp (cT) (tOp (cT) (af 3) (tC (.int 1))) (tOp (bi) (af 4) (af 3)))) (aF)) (aw (aR (fi (aL (tOp (bu K) (tOp (bi) (af 1) (tC (.int 5))) (tC (.int 2)))) (aL (tOp (dh K) (af 2) (bJ (al))))) (aw (aH (tOp (bi) (tOp (bi) (tOp (bZ) (af 4) (tC (.int 48271))) (tC (.int 65537))) (af 0)) (ax 5)) (aB (tOp (yp) (tOp (aG K) (af 2) (tOp (bi) (af 4) (tCB (cu K) (ae (af 2) (al))))) (tOp (cZ) (tC (.int 1)) (af 5))))) (aF)) (aB (tOp (bi) (tOp (bZ) (af 4) (tC (.int 1152921504606846883))) (af 3)))))))
def CJ (K:W.Frag) (A:Adr):TS:=aB (br (ae (tCB (oP) (ae (af 3) (ae (af 4) (al)))) (ae (tCB (xW) (ae (af 3) (ae (af 4) (al)))) (al))))
def uh (K:W.Frag) (A:Adr):TS:=aw (aR (aL (tOp (bu K) (tOp (bi) (af 2) (tC (.int 16))) (tC (.int 5)))) (aB (br (ae (tC (.int 0)) (ae (tOp (cT) (tOp (cZ) (tC (.int 1)) (af 0)) (tC (.int 1))) (al))))) (aF)) (CJ K A)
def uG (K:W.Frag) (A:Adr):TS:=aw (aR (aL (tOp (bu K) (tOp (bi) (af 1) (tC (.int 4))) (tC (.int 1)))) (aH (af 3) (ax 4)) (aF)) (uh K A)
def IY (K:W.Frag) (A:Adr):TS:=aw (aH (ar (kE K A) (fun _=>E0) (ae (af 0) (ae (af 1) (ae (bJ (al)) (al))))) (ax 3)) (aw (aH (ar (kE K A) (fun _=>E0) (ae (af 0) (ae (af 2) (ae (bJ (ae (af 3) (al))) (al))))) (ax 4)) (aw (aR (aL (tOp (bu K) (tOp (bi) (af 2) (tC (.int 7))) (tC (.int 3)))) (aH (tCB (oP) (ae (tOp (aY K) (af 3) (tOp (bi) (tOp (bQ) (af 2) (tC (.int 7))) (tC (.int 40)))) (ae (tOp (cT) (tOp (cZ) (tC (.int 1)) (af 0)) (tC (.int 1))) (al)))) (ax 4)) (aF)) (uG K A)))
def Ih (K:W.Frag) (A:Adr):TS:=aB (tOp (bi) (tOp (bZ) (tOp (bi) (tOp (aY K) (tOp (bZ) (tOp (aY K) (af 0) (tC (.int 1))) (tC (.int 69621))) (tOp (bZ) (tOp (aY K) (tOp (aY K) (tOp (bZ) (af 2) (tC (.int 31))) (af 1)) (tC (.int 7))) (tC (.int 48271)))) (tC (.int 1000003))) (tC (.int 7919))) (tC (.int 999983)))
def JC (K:W.Frag) (A:Adr):TS:=aw (aH (tOp (cZ) (tC (.int 1)) (tOp (cT) (af 0) (af 3))) (ax 5)) (aB (dB (tOp (mLe) (tOp (bZ) (af 4) (af 5)) (af 2)) (tOp (mLt) (af 1) (tOp (bZ) (tOp (aY K) (af 4) (tC (.int 1))) (af 5)))))
def Jt (K:W.Frag) (A:Adr):TS:=aw (aH (tOp (bi) (tOp (bZ) (af 0) (tC (.int 69621))) (tC (.int 1000003))) (ax 0)) (aw (aR (aL (tOp (bu K) (tOp (bi) (af 0) (tC (.int 4))) (tC (.int 0)))) (aB (tOp (aY K) (tC (.str "m")) (tCB (wO) (ae (tOp (bi) (af 0) (tC (.int 50))) (al))))) (aF)) (aw (aR (aL (tOp (bu K) (tOp (bi) (af 0) (tC (.int 4))) (tC (.int 1)))) (aB (tOp (bi) (tOp (bQ) (af 0) (tC (.int 4))) (tC (.int 12)))) (aF)) (aw (aR (aL (tOp (bu K) (tOp (bi) (af 0) (tC (.int 4))) (tC (.int 2)))) (aB (tOp (bZ) (af 0) (tOp (lN) (tC (.int 10)) (tC (.int 30))))) (aF)) (aB (tOp (cT) (tOp (cT) (tOp (lN) (tC (.int 10)) (tC (.int 60))) (tC (.int 1))) (af 0))))))
def Cy (K:W.Frag) (A:Adr):TS:=aB (af 3)
def Du (K:W.Frag) (A:Adr):TS:=aw (gu (jH (ae (af 2) (al))) (ax 4) (aH (tOp (aY K) (af 3) (tOp (aG K) (af 1) (tOp (bi) (tOp (aY K) (tOp (bQ) (af 0) (tC (.int 4))) (tOp (bZ) (af 4) (tOp (bi) (tOp (bQ) (af 0) (tC (.int 128))) (tC (.int 5))))) (tCB (cu K) (ae (af 1) (al)))))) (ax 3))) (Cy K A)
def uF (K:W.Frag) (A:Adr):TS:=aw (aH (tC (.str "")) (ax 3)) (Du K A)
def uN (K:W.Frag) (A:Adr):TS:=aw (aR (aL (tOp (bu K) (tOp (bi) (tOp (bQ) (af 0) (tC (.int 4))) (tC (.int 8))) (tC (.int 2)))) (aH (tOp (bi) (tOp (bQ) (af 0) (tC (.int 32))) (tC (.int 61))) (ax 2)) (aF)) (uF K A)
def IR (K:W.Frag) (A:Adr):TS:=aw (aH (tC (.str " !\"#$&'()*+,-./0123456789:;<=>?@ABCDEFGHIJKLMNOPQRSTUVWXYZ[\\]^_`")) (ax 1)) (aw (aH (tOp (aY K) (af 1) (tC (.str "abcdefghijklmnopqrstuvwxyz{|}~"))) (ax 1)) (aw (aH (tOp (bi) (af 0) (tC (.int 4))) (ax 2)) (aw (aR (aL (tOp (bu K) (tOp (bi) (tOp (bQ) (af 0) (tC (.int 4))) (tC (.int 8))) (tC (.int 1)))) (aH (tC (.int 60)) (ax 2)) (aF)) (uN K A))))
def T_9 (K:W.Frag) (A:Adr):TS:=aw (aR (aL (tOp (bu K) (tOp (bi) (af 0) (tC (.int 5))) (tC (.int 0)))) (aB (tOp (aY K) (tOp (cZ) (af 1) (af 2)) (tOp (bi) (tOp (bZ) (af 0) (tC (.int 48271))) (tOp (cZ) (tC (.int 1)) (af 2))))) (aF)) (aw (aH (tOp (ik) (tOp (aY K) (af 3) (tOp (bi) (af 0) (tOp (aY K) (tOp (cT) (af 4) (af 3)) (tC (.int 1))))) (tOp (cT) (af 5) (af 2))) (ax 6)) (aw (aR (aL (tOp (dh K) (tOp (ik) (af 6) (af 2)) (af 1))) (aB (tOp (cZ) (af 1) (af 2))) (aF)) (aB (af 6))))
def Bv (K:W.Frag) (A:Adr) (n:Nat):TS:=aB (br (ae (tC (.str "fork")) (ae (tOp (aY K) (af 4) (af 10)) (ae (af 11) (ae (af 12) (ae (af 13) (al)))))))
def AZ (K:W.Frag) (A:Adr) (n:Nat):TS:=aw (aH (ar (iy K A n) (fun _=>E0) (ae (af 0) (ae (af 1) (ae (af 2) (ae (af 3) (ae (tOp (aY K) (tOp (aY K) (af 4) (af 10)) (tC (.int 1))) (ae (tOp (aY K) (tOp (bZ) (tC (.int 2)) (af 11)) (tC (.int 1))) (ae (tOp (cT) (af 6) (tC (.int 1))) (al))))))))) (ax 13)) (Bv K A n)
def Cj (K:W.Frag) (A:Adr) (n:Nat):TS:=aw (aH (ar (iy K A n) (fun _=>E0) (ae (af 0) (ae (af 1) (ae (af 2) (ae (af 3) (ae (tOp (aY K) (tOp (aY K) (af 4) (af 10)) (tC (.int 1))) (ae (tOp (bZ) (tC (.int 2)) (af 11)) (ae (tOp (cT) (af 6) (tC (.int 1))) (al))))))))) (ax 12)) (AZ K A n)
def uz (K:W.Frag) (A:Adr) (n:Nat):TS:=aw (aH (ar (sI K A) (fun _=>E0) (ae (af 7) (ae (af 5) (ae (af 10) (ae (af 2) (ae (af 3) (ae (af 8) (al)))))))) (ax 11)) (Cj K A n)
def pT (K:W.Frag) (A:Adr) (n:Nat):TS:=aw (aH (tOp (aG K) (bJ (ae (tC (.int 0)) (ae (tOp (bi) (tOp (bQ) (af 7) (tC (.int 7))) (af 8)) (ae (tC (.int 0)) (ae (tOp (bi) (tOp (bQ) (af 7) (tC (.int 7))) (tCB (oP) (ae (af 8) (ae (tC (.int 3)) (al))))) (al)))))) (tOp (bi) (af 7) (tC (.int 4)))) (ax 10)) (uz K A n)
def Df (K:W.Frag) (A:Adr) (n:Nat):TS:=aw (aR (mOr (aL (tOp (mLt) (af 6) (tC (.int 1)))) (mOr (aL (tOp (bu K) (af 8) (tC (.int 0)))) (fi (aL (tOp (bu K) (tOp (bi) (af 7) (tC (.int 7))) (tC (.int 0)))) (aL (tOp (mLt) (af 6) (tC (.int 30))))))) (aw (aH (tOp (aY K) (tOp (bZ) (af 5) (tOp (cZ) (tC (.int 1)) (af 8))) (tOp (bi) (tOp (bZ) (tOp (bQ) (af 7) (tC (.int 7))) (tC (.int 982451653))) (tOp (cZ) (tC (.int 1)) (af 8)))) (ax 9)) (aw (aR (fi (aL (tOp (bu K) (tOp (bi) (af 7) (tC (.int 3))) (tC (.int 0)))) (aL (tOp (bu K) (tOp (ik) (af 2) (af 8)) (af 5)))) (aH (af 2) (ax 9)) (aF)) (aB (br (ae (tC (.str "leaf")) (ae (af 9) (ae (ar (jQ K A) (fun _=>E0) (ae (tOp (bQ) (af 7) (tC (.int 3))) (al))) (al)))))))) (aF)) (pT K A n)
def ug (K:W.Frag) (A:Adr) (n:Nat):TS:=aw (aH (tOp (cT) (af 1) (af 4)) (ax 8)) (Df K A n)
def IL (K:W.Frag) (A:Adr) (n:Nat):TS:=aw (aH (ar (oo K A) (fun _=>E0) (ae (af 0) (ae (af 4) (ae (af 5) (al))))) (ax 7)) (aw (aR (bA (bC K (ar (nR K A) (fun _=>E0) (ae (af 1) (ae (af 2) (ae (af 3) (ae (af 4) (ae (af 5) (al))))))))) (aB (br (ae (tC (.str "cut")) (ae (ar (kK K A) (fun _=>E0) (ae (af 7) (al))) (al))))) (aF)) (aw (aR (fi (aL (tOp (bu K) (af 4) (tC (.int 0)))) (aL (tOp (bu K) (tOp (bi) (af 7) (tC (.int 11))) (tC (.int 0))))) (aB (br (ae (tC (.str "bare")) (al)))) (aF)) (ug K A n)))
def uB (K:W.Frag) (A:Adr):TS:=aB (ar (iy K A 70) (fun _=>E0) (ae (af 0) (ae (af 1) (ae (af 2) (ae (af 3) (ae (tC (.int 0)) (ae (tC (.int 0)) (ae (af 4) (al)))))))))
def IN (K:W.Frag) (A:Adr):TS:=aw (aH (tOp (aY K) (tC (.int 1)) (tOp (bi) (tOp (bQ) (af 0) (tC (.int 7))) (tC (.int 5)))) (ax 4)) (aw (aR (aL (tOp (bu K) (af 2) (af 3))) (aH (tOp (aG K) (bJ (ae (tC (.int 60)) (ae (tC (.int 20)) (ae (af 4) (al))))) (tOp (bi) (af 0) (tC (.int 3)))) (ax 4)) (aF)) (uB K A))
def T_4 (K:W.Frag) (A:Adr):TS:=iT K (af 0) (gZ) "given"
def Bi (K:W.Frag) (A:Adr) (q0:Addr):TSM:=oI (lq (aH (iR A.c_Numbers (sm K A) (fun _=>E0) (al)) (ax 0))) (pS (lO A.t_41 ⟨225,11,225,47⟩ gb [q0]))
def DL (K:W.Frag) (A:Adr) (q0 q1:Addr):TSM:=oI (lq (aH (gZ) (ax 1))) (oI (lq (aH (lO A.t_32 ⟨293,4,294,81⟩ gi [q1,q0]) (ax 2))) (pS (af 2)))
def AU (K:W.Frag) (A:Adr) (q0:Addr):TSM:=oI (lq (aH (lO A.t_36 ⟨298,4,306,37⟩ fV [q0]) (ax 1))) (pS (af 1))
def DH (K:W.Frag) (A:Adr):TSM:=pS (lO A.t_68 ⟨222,11,222,37⟩ fE [])
def JX (K:W.Frag) (A:Adr) (n:Nat):TS:=aw (aR (aL (tOp (bu K) (tOp (aG K) (af 1) (tC (.int 0))) (tC (.str "cut")))) (aB (br (ae (tOp (aG K) (af 1) (tC (.int 1))) (ae (bJ (al)) (al))))) (aF)) (aw (aR (aL (tOp (dh K) (tOp (aG K) (af 1) (tC (.int 0))) (tC (.str "fork")))) (aB (br (ae (gE (fM K A) (fun _=>E0) (af 0) (ae (af 1) (al))) (ae (bJ (ae (af 1) (al))) (al))))) (aF)) (aw (aH (ar (ip K A n) (fun _=>E0) (ae (af 0) (ae (tOp (aG K) (af 1) (tC (.int 3))) (al)))) (ax 2)) (aw (aH (ar (ip K A n) (fun _=>E0) (ae (af 0) (ae (tOp (aG K) (af 1) (tC (.int 4))) (al)))) (ax 3)) (aw (aH (br (ae (tC (.str "fork")) (ae (tOp (aG K) (af 1) (tC (.int 1))) (ae (tOp (aG K) (af 1) (tC (.int 2))) (ae (tOp (aG K) (af 2) (tC (.int 0))) (ae (tOp (aG K) (af 3) (tC (.int 0))) (al))))))) (ax 4)) (aB (br (ae (gE (fM K A) (fun _=>E0) (af 0) (ae (af 4) (al))) (ae (tOp (aY K) (tOp (aY K) (tOp (aG K) (af 2) (tC (.int 1))) (tOp (aG K) (af 3) (tC (.int 1)))) (bJ (ae (af 4) (al)))) (al)))))))))
def Jr (K:W.Frag) (A:Adr) (n:Nat):TS:=aw (aR (aL (tOp (bu K) (tOp (aG K) (af 0) (tC (.int 0))) (tC (.str "leaf")))) (aB (bJ (ae (br (ae (tOp (aG K) (af 0) (tC (.int 1))) (ae (tOp (aG K) (af 0) (tC (.int 2))) (al)))) (al)))) (aF)) (aw (aR (aL (tOp (bu K) (tOp (aG K) (af 0) (tC (.int 0))) (tC (.str "fork")))) (aB (tOp (aY K) (ar (io K A n) (fun _=>E0) (ae (tOp (aG K) (af 0) (tC (.int 3))) (al))) (ar (io K A n) (fun _=>E0) (ae (tOp (aG K) (af 0) (tC (.int 4))) (al))))) (aF)) (aB (bJ (al))))
def Ig (K:W.Frag) (A:Adr):TS:=aB (fI [1,2] (eR K (ar (io K A 70) (fun _=>E0) (ae (af 0) (al)))) (aL (cS (mLe) (mLe) (af 1) (tOp (aG K) (af 0) (tC (.int 0))) (af 2))) (af 0))
def IH (K:W.Frag) (A:Adr):TS:=aw (aR (bC K (tCB (dM) (ae (af 1) (ae (tC (.ty "str")) (al))))) (aB (dB (tCB (dM) (ae (af 0) (ae (tC (.ty "str")) (al)))) (tOp (bu K) (af 0) (af 1)))) (aF)) (aB (dB (tCB (dM) (ae (af 0) (ae (tC (.ty "int")) (al)))) (dB (nB (tCB (dM) (ae (af 0) (ae (tC (.ty "bool")) (al))))) (tOp (bu K) (af 0) (af 1)))))
def Jx (K:W.Frag) (A:Adr):TS:=aw (aR (mOr (bA (bC K (tCB (dM) (ae (af 0) (ae (tC (.ty "tuple")) (al)))))) (aL (tOp (dh K) (tCB (cu K) (ae (af 0) (al))) (tCB (cu K) (ae (af 1) (al)))))) (aB (tC (.bl false))) (aF)) (aw (gu (jH (ae (tCB (cu K) (ae (af 1) (al))) (al))) (ax 2) (aR (bA (bC K (ar (jS K A) (fun _=>E0) (ae (tOp (aG K) (af 0) (af 2)) (ae (tOp (aG K) (af 1) (af 2)) (al)))))) (aB (tC (.bl false))) (aF))) (aB (tC (.bl true))))
def IV (K:W.Frag) (A:Adr):TS:=aw (aR (mOr (bA (bC K (tCB (dM) (ae (af 0) (ae (tC (.ty "list")) (al)))))) (aL (tOp (dh K) (tCB (cu K) (ae (af 0) (al))) (tCB (cu K) (ae (af 1) (al)))))) (aB (tC (.bl false))) (aF)) (aw (gu (jH (ae (tCB (cu K) (ae (af 1) (al))) (al))) (ax 2) (aR (bA (bC K (ar (oa K A) (fun _=>E0) (ae (tOp (aG K) (af 0) (af 2)) (ae (tOp (aG K) (af 1) (af 2)) (al)))))) (aB (tC (.bl false))) (aF))) (aB (tC (.bl true))))
def Jl (K:W.Frag) (A:Adr):TS:=aB (dB (ar (gf K A) (fun _=>E0) (ae (af 1) (al))) (cS (mLe) (mLt) (tC (.int 0)) (af 1) (tOp (cZ) (tC (.int 1)) (af 0))))
def AC (K:W.Frag) (A:Adr) (E:XK):TS:=aw (aR (mOr (bA (bC K (ar (iE K A) (fun _=>E0) (ae (af 0) (ae (af 1) (al)))))) (bA (bC K (ar (iE K A) (fun _=>E0) (ae (af 0) (ae (af 2) (al))))))) (iS A.c_NoKey (fun _=>E)) (aF)) (aR (aL (tOp (mGt) (af 1) (af 2))) (iS A.c_NoStretch (fun _=>E)) (aF))
def JZ (K:W.Frag) (A:Adr):TS:=aw (aH (tOp (cT) (af 0) (af 1)) (ax 3)) (aB (br (ae (tOp (cZ) (af 2) (af 3)) (ae (tOp (cT) (tOp (cZ) (tOp (aY K) (af 2) (tC (.int 1))) (af 3)) (tC (.int 1))) (al)))))
def Ie (K:W.Frag) (A:Adr):TS:=aw (aH (ar (nY K A) (fun _=>E0) (ae (af 0) (ae (af 3) (ae (af 4) (al))))) (ax 5)) (aB (dB (tOp (mLe) (tOp (aG K) (af 5) (tC (.int 0))) (af 2)) (tOp (mLe) (af 1) (tOp (aG K) (af 5) (tC (.int 1))))))
def Jp (K:W.Frag) (A:Adr):TS:=aB (dB (tCB (dM) (ae (af 0) (ae (tC (.ty "tuple")) (al)))) (dB (tOp (bu K) (tCB (cu K) (ae (af 0) (al))) (tC (.int 2))) (dB (tOp (bu K) (tOp (aG K) (af 0) (tC (.int 0))) (tC (.str "cut"))) (ar (lm K A) (fun _=>E0) (ae (tOp (aG K) (af 0) (tC (.int 1))) (al))))))
def Jz (K:W.Frag) (A:Adr):TS:=aB (dB (tCB (dM) (ae (af 0) (ae (tC (.ty "str")) (al)))) (tOp (mLe) (tCB (cu K) (ae (af 0) (al))) (tC (.int 60))))
def JW (K:W.Frag) (A:Adr):TS:=aB (tOp (ik) (af 1) (tOp (cT) (af 0) (af 2)))
def Jw (K:W.Frag) (A:Adr):TS:=aw (aR (mOr (bA (bC K (tCB (dM) (ae (af 3) (ae (tC (.ty "tuple")) (al)))))) (mOr (aL (tOp (dh K) (tCB (cu K) (ae (af 3) (al))) (tC (.int 3)))) (aL (tOp (dh K) (tOp (aG K) (af 3) (tC (.int 0))) (tC (.str "leaf")))))) (aB (tC (.bl false))) (aF)) (aw (aR (mOr (bA (bC K (ar (iE K A) (fun _=>E0) (ae (af 0) (ae (tOp (aG K) (af 3) (tC (.int 1))) (al)))))) (bA (bC K (ar (oq K A) (fun _=>E0) (ae (tOp (aG K) (af 3) (tC (.int 2))) (al)))))) (aB (tC (.bl false))) (aF)) (aB (tOp (bu K) (ar (kF K A) (fun _=>E0) (ae (af 0) (ae (tOp (aG K) (af 3) (tC (.int 1))) (ae (af 1) (al))))) (af 2))))
def Jb (K:W.Frag) (A:Adr):TS:=aw (aR (mOr (bA (bC K (tCB (dM) (ae (af 3) (ae (tC (.ty "tuple")) (al)))))) (mOr (aL (tOp (dh K) (tCB (cu K) (ae (af 3) (al))) (tC (.int 5)))) (aL (tOp (dh K) (tOp (aG K) (af 3) (tC (.int 0))) (tC (.str "fork")))))) (aB (tC (.bl false))) (aF)) (aw (aR (mOr (bA (bC K (ar (gf K A) (fun _=>E0) (ae (tOp (aG K) (af 3) (tC (.int 1))) (al))))) (bA (aL (cS (mLe) (mLt) (af 1) (tOp (aG K) (af 3) (tC (.int 1))) (af 0))))) (aB (tC (.bl false))) (aF)) (aw (aR (mOr (bA (bC K (ar (gf K A) (fun _=>E0) (ae (tOp (aG K) (af 3) (tC (.int 2))) (al))))) (bA (aL (cS (mLe) (mLt) (tC (.int 0)) (tOp (aG K) (af 3) (tC (.int 2))) (tOp (cZ) (tC (.int 1)) (tOp (aG K) (af 3) (tC (.int 1)))))))) (aB (tC (.bl false))) (aF)) (aB (tOp (bu K) (tOp (ik) (tOp (aG K) (af 3) (tC (.int 2))) (tOp (cT) (tOp (aG K) (af 3) (tC (.int 1))) (af 1))) (af 2)))))
def CB (K:W.Frag) (A:Adr):TS:=aB (xq (ar (oA K A) (fun _=>E0) (ae (af 0) (ae (af 3) (ae (af 4) (ae (af 5) (al)))))) (ar (nZ K A) (fun _=>E0) (ae (af 0) (ae (af 3) (ae (af 4) (ae (af 5) (al)))))))
def uW (K:W.Frag) (A:Adr):TS:=aw (aR (aL (tOp (bu K) (af 5) (br (ae (tC (.str "bare")) (al))))) (aB (tOp (bu K) (af 3) (tC (.int 0)))) (aF)) (CB K A)
def JD (K:W.Frag) (A:Adr):TS:=aw (aR (bA (bC K (ar (kH K A) (fun _=>E0) (ae (af 0) (ae (af 1) (ae (af 2) (ae (af 3) (ae (af 4) (al))))))))) (aB (ar (nQ K A) (fun _=>E0) (ae (af 5) (al)))) (aF)) (uW K A)
def T_3 (K:W.Frag) (A:Adr):TS:=aw (lC K A.c_NoPart (af 0) (af 1) "depth") (lC K A.c_NoPart (af 0) (af 2) "begin")
def CZ (K:W.Frag) (A:Adr) (E:XK) (n:Nat):TS:=aw (aR (bA (bC K (ar (oB K A) (fun _=>E0) (ae (af 0) (ae (af 1) (ae (af 2) (ae (af 3) (ae (af 4) (ae (af 5) (al)))))))))) (lF A.c_NoPart (sS K A) (fun _=>E) (ae (af 3) (ae (af 4) (al)))) (aF)) (aR (aL (tOp (bu K) (tOp (aG K) (af 5) (tC (.int 0))) (tC (.str "fork")))) (aw (dF (ar (gc K A n) (fun _=>E) (ae (af 0) (ae (af 1) (ae (af 2) (ae (tOp (aY K) (tOp (aG K) (af 5) (tC (.int 1))) (tC (.int 1))) (ae (tOp (bZ) (tC (.int 2)) (tOp (aG K) (af 5) (tC (.int 2)))) (ae (tOp (aG K) (af 5) (tC (.int 3))) (al))))))))) (dF (ar (gc K A n) (fun _=>E) (ae (af 0) (ae (af 1) (ae (af 2) (ae (tOp (aY K) (tOp (aG K) (af 5) (tC (.int 1))) (tC (.int 1))) (ae (tOp (aY K) (tOp (bZ) (tC (.int 2)) (tOp (aG K) (af 5) (tC (.int 2)))) (tC (.int 1))) (ae (tOp (aG K) (af 5) (tC (.int 4))) (al)))))))))) (aF))
def Bh (K:W.Frag) (A:Adr) (E:XK):TS:=aw (dF (ar (jU K A) (fun _=>E) (ae (af 0) (ae (af 1) (ae (af 2) (al)))))) (dF (ar (gc K A 70) (fun _=>E) (ae (af 0) (ae (af 1) (ae (af 2) (ae (tC (.int 0)) (ae (tC (.int 0)) (ae (af 3) (al)))))))))
def Iq (K:W.Frag) (A:Adr):TS:=aB (mIf (aL (tOp (bu K) (tOp (aG K) (af 1) (tC (.int 0))) (tC (.str "cut")))) (tOp (aG K) (af 1) (tC (.int 1))) (gE (fM K A) (fun _=>E0) (af 0) (ae (tOp (aG K) (af 2) (tUn gJ (tC (.int 1)))) (al))))
def JP (K:W.Frag) (A:Adr) (n:Nat):TS:=aw (aR (aL (tOp (bu K) (tOp (aG K) (af 1) (tC (.int 0))) (tC (.str "cut")))) (aB (bJ (al))) (aF)) (aw (aR (aL (tOp (dh K) (tOp (aG K) (af 1) (tC (.int 0))) (tC (.str "fork")))) (aB (bJ (ae (af 1) (al)))) (aF)) (aw (aH (ar (gh K A n) (fun _=>E0) (ae (af 0) (ae (tOp (aG K) (af 1) (tC (.int 3))) (al)))) (ax 2)) (aw (aH (ar (gh K A n) (fun _=>E0) (ae (af 0) (ae (tOp (aG K) (af 1) (tC (.int 4))) (al)))) (ax 3)) (aw (aH (br (ae (ar (jX K A) (fun _=>E0) (ae (af 0) (ae (tOp (aG K) (af 1) (tC (.int 3))) (ae (af 2) (al))))) (ae (ar (jX K A) (fun _=>E0) (ae (af 0) (ae (tOp (aG K) (af 1) (tC (.int 4))) (ae (af 3) (al))))) (al)))) (ax 4)) (aB (tOp (aY K) (tOp (aY K) (af 2) (af 3)) (bJ (ae (br (ae (tC (.str "fork")) (ae (tOp (aG K) (af 1) (tC (.int 1))) (ae (tOp (aG K) (af 1) (tC (.int 2))) (ae (tOp (aG K) (af 4) (tC (.int 0))) (ae (tOp (aG K) (af 4) (tC (.int 1))) (al))))))) (al)))))))))
def Bk (K:W.Frag) (A:Adr) (E:XK):TS:=aw (dF (ar (nM K A) (fun _=>E) (ae (af 1) (ae (af 2) (ae (af 3) (ae (af 4) (al))))))) (aB (ar (gh K A 70) (fun _=>E0) (ae (af 0) (ae (af 4) (al)))))
def T_1 (K:W.Frag) (A:Adr):TS:=aw (lC K A.c_Broken (af 0) (af 1) "due") (lC K A.c_Broken (af 0) (af 2) "came")
def JF (K:W.Frag) (A:Adr):TS:=aB (fI [0,1] (eR K (af 2)) (fi (aL (tOp (bu K) (tOp (aG K) (af 0) (tC (.int 0))) (tC (.str "leaf")))) (aL (cS (mLe) (mLe) (af 1) (tOp (aG K) (af 0) (tC (.int 1))) (af 2)))) (br (ae (tOp (aG K) (af 0) (tC (.int 1))) (ae (tOp (aG K) (af 0) (tC (.int 2))) (al)))))
def CG (K:W.Frag) (A:Adr) (E:XK):TS:=aw (aH (ar (iI K A) (fun _=>E) (ae (af 0) (ae (af 1) (ae (af 3) (ae (af 4) (ae (af 5) (al))))))) (ax 6)) (aw (aH (gE (fM K A) (fun _=>E0) (af 0) (ae (tOp (aG K) (af 6) (tUn gJ (tC (.int 1)))) (al))) (ax 7)) (aw (aR (aL (tOp (dh K) (af 7) (af 2))) (lF A.c_Broken (sP K A) (fun _=>E) (ae (af 2) (ae (af 7) (al)))) (aF)) (aB (ar (nW K A) (fun _=>E0) (ae (af 3) (ae (af 4) (ae (af 6) (al))))))))
def uQ (K:W.Frag) (A:Adr):TS:=aB (bJ (ae (tUn gJ (tC (.int 1))) (ae (tOp (cZ) (tC (.int 1)) (af 0)) (ae (af 2) (ae (tUn gJ (af 2)) (ae (tC (.bl true)) (ae (tC (.bl false)) (ae (tC .non) (ae (tC (.str "0")) (ae (bJ (ae (tC (.int 0)) (al))) (ae (br (ae (tC (.int 0)) (al))) (ae (gZ) (ae (tC (.str "")) (ae (bJ (al)) (ae (br (al)) (al))))))))))))))))
def JJ (K:W.Frag) (A:Adr):TS:=aw (aH (tOp (aY K) (tOp (cZ) (tC (.int 1)) (af 0)) (tOp (bi) (af 1) (tOp (lN) (tC (.int 10)) (tC (.int 40))))) (ax 2)) (uQ K A)
def oG (K:W.Frag) (A:Adr):TS:=aB (tOp (aY K) (af 1) (bJ (ae (br (ae (tC (.str "cut")) (ae (tC (.int 3)) (al)))) (ae (br (ae (tC (.str "Leaf")) (ae (tC (.int 0)) (ae (tC (.str "")) (al))))) (ae (tSl (oF K) (af 0) (ie) (ix (tUn gJ (tC (.int 1))))) (al))))))
def CI (K:W.Frag) (A:Adr):TS:=aw (aH (bJ (ae (tC .non) (ae (br (al)) (ae (bJ (al)) (ae (tC (.str "")) (ae (tC (.int 0)) (ae (tC (.bl true)) (ae (gZ) (ae (tCB (yN K) (ae (af 0) (al))) (ae (br (ae (af 0) (al))) (ae (tOp (aY K) (af 0) (br (ae (tC (.int 1)) (al)))) (al)))))))))))) (ax 1)) (oG K A)
def Jk (K:W.Frag) (A:Adr) (n:Nat):TS:=aw (aR (bA (bC K (ar (kH K A) (fun _=>E0) (ae (af 0) (ae (af 1) (ae (af 2) (ae (af 3) (ae (af 4) (al))))))))) (aB (br (ae (tC (.str "cut")) (ae (dC K (af 5) "mark") (al))))) (aF)) (aw (aR (bA (bC K (tCB (yE K) (ae (af 5) (ae (tC (.ref A.c_Fork)) (al)))))) (aB (dC K (af 5) "term")) (aF)) (aw (aH (ar (iH K A n) (fun _=>E0) (ae (af 0) (ae (af 1) (ae (af 2) (ae (tOp (aY K) (dC K (af 5) "depth") (tC (.int 1))) (ae (tOp (bZ) (tC (.int 2)) (dC K (af 5) "begin")) (ae (dC K (af 5) "left") (al)))))))) (ax 6)) (aw (aH (ar (iH K A n) (fun _=>E0) (ae (af 0) (ae (af 1) (ae (af 2) (ae (tOp (aY K) (dC K (af 5) "depth") (tC (.int 1))) (ae (tOp (aY K) (tOp (bZ) (tC (.int 2)) (dC K (af 5) "begin")) (tC (.int 1))) (ae (dC K (af 5) "right") (al)))))))) (ax 7)) (aB (br (ae (tC (.str "fork")) (ae (dC K (af 5) "depth") (ae (dC K (af 5) "begin") (ae (af 6) (ae (af 7) (al)))))))))))
def AI (K:W.Frag) (A:Adr) (E:XK):TS:=aw (dF (ar (jU K A) (fun _=>E) (ae (dC K (af 0) "bits") (ae (af 1) (ae (af 2) (al)))))) (aB (ar (iH K A 70) (fun _=>E0) (ae (dC K (af 0) "bits") (ae (af 1) (ae (af 2) (ae (tC (.int 0)) (ae (tC (.int 0)) (ae (dC K (af 0) "top") (al)))))))))
def JG (K:W.Frag) (A:Adr):TS:=aB (dB (ar (gf K A) (fun _=>E0) (ae (af 0) (al))) (cS (mLe) (mLe) (tC (.int 1)) (af 0) (tC (.int 60))))
def T_2 (K:W.Frag) (A:Adr):TS:=aw (iT K (af 0) (af 2) "term") (iT K (af 0) (gE (fM K A) (fun _=>E0) (af 1) (ae (af 2) (al))) "mark")
def T_0 (K:W.Frag) (A:Adr):TS:=dF (ar (tI K A) (fun _=>E0) (ae (af 0) (ae (af 1) (ae (br (ae (tC (.str "bare")) (al))) (al)))))
def T_6 (K:W.Frag) (A:Adr):TS:=aw (aR (bA (bC K (ar (nq K A) (fun _=>E0) (ae (af 2) (al))))) (iX) (aF)) (aw (iT K (af 0) (af 1) "stamper") (aw (iT K (af 0) (af 2) "bits") (iT K (af 0) (iR A.c_Bare (sZ K A) (fun _=>E0) (ae (af 1) (al))) "top")))
def Cw (K:W.Frag) (A:Adr) (E:XK):TS:=aB (gE (fM K A) (fun _=>E0) (af 0) (ae (tOp (aG K) (ar (iI K A) (fun _=>E) (ae (af 0) (ae (af 1) (ae (af 2) (ae (af 3) (ae (af 4) (al))))))) (tUn gJ (tC (.int 1)))) (al)))
def IS (K:W.Frag) (A:Adr):TS:=aB (tOp (sk) (tOp (ik) (af 1) (tOp (cT) (tOp (cT) (af 0) (af 2)) (tC (.int 1)))) (tC (.int 1)))
def Cq (K:W.Frag) (A:Adr) (E:XK):TS:=aw (aR (bA (bC K (ar (iE K A) (fun _=>E0) (ae (af 1) (ae (af 5) (al)))))) (iS A.c_NoKey (fun _=>E)) (aF)) (aw (dF (ar (jU K A) (fun _=>E) (ae (af 1) (ae (af 2) (ae (af 3) (al)))))) (aw (aR (bA (aL (cS (mLe) (mLe) (af 2) (af 5) (af 3)))) (iS A.c_NoKey (fun _=>E)) (aF)) (aw (dF (ar (gc K A 70) (fun _=>E) (ae (af 1) (ae (af 2) (ae (af 3) (ae (tC (.int 0)) (ae (tC (.int 0)) (ae (af 4) (al))))))))) (aw (aH (bJ (al)) (ax 6)) (aw (aH (af 4) (ax 7)) (aw (pB (fi (aL (tOp (bu K) (tOp (aG K) (af 7) (tC (.int 0))) (tC (.str "fork")))) (aL (tOp (bu K) (ar (kF K A) (fun _=>E0) (ae (af 1) (ae (af 5) (ae (tOp (aG K) (af 7) (tC (.int 1))) (al))))) (tOp (aG K) (af 7) (tC (.int 2)))))) (aw (aH (ar (nO K A) (fun _=>E0) (ae (af 1) (ae (af 5) (ae (tOp (aG K) (af 7) (tC (.int 1))) (al))))) (ax 8)) (aw (aH (tOp (aG K) (af 7) (tOp (cT) (tC (.int 4)) (af 8))) (ax 9)) (aw (dF (tBM K "list" rk (af 6) (ae (br (ae (tOp (aG K) (af 7) (tC (.int 1))) (ae (ar (jX K A) (fun _=>E0) (ae (af 0) (ae (af 9) (ae (ar (gh K A 70) (fun _=>E0) (ae (af 0) (ae (af 9) (al)))) (al))))) (al)))) (al)))) (aH (tOp (aG K) (af 7) (tOp (aY K) (tC (.int 3)) (af 8))) (ax 7)))))) (aB (br (ae (tCB (ve K) (ae (af 6) (al))) (ae (tOp (aG K) (ar (gh K A 70) (fun _=>E0) (ae (af 0) (ae (af 7) (al)))) (tUn gJ (tC (.int 1)))) (al)))))))))))
def T_7 (K:W.Frag) (A:Adr) (E:XK):TS:=aw (aH (af 1) (jc K 3 (cI (ax 3) (cI (ax 4) (cI (ax 5) jq))))) (aw (aH (af 2) (jc K 4 (cI (ax 6) (cI (ax 7) (cI (ax 8) (cI (ax 9) jq)))))) (aw (aR (aL (tOp (bu K) (af 0) (tC (.int 0)))) (aB (ar (nP K A) (fun _=>E) (ae (iR A.c_Table (sN K A) (fun _=>E0) (ae (af 3) (ae (af 4) (al)))) (ae (af 6) (ae (af 7) (al)))))) (aF)) (aw (aR (aL (tOp (bu K) (af 0) (tC (.int 1)))) (aB (ar (iI K A) (fun _=>E) (ae (af 3) (ae (af 4) (ae (af 6) (ae (af 7) (ae (af 8) (al)))))))) (aF)) (aw (aR (aL (tOp (bu K) (af 0) (tC (.int 2)))) (aB (ar (nj K A) (fun _=>E) (ae (af 3) (ae (af 4) (ae (af 6) (ae (af 7) (ae (af 8) (al)))))))) (aF)) (aw (aR (aL (tOp (bu K) (af 0) (tC (.int 3)))) (aB (ar (jO K A) (fun _=>E) (ae (af 3) (ae (af 4) (ae (af 5) (ae (af 6) (ae (af 7) (ae (af 8) (al))))))))) (aF)) (aB (ar (nw K A) (fun _=>E) (ae (af 3) (ae (af 4) (ae (af 6) (ae (af 7) (ae (af 8) (ae (af 9) (al))))))))))))))
def IB (K:W.Frag) (A:Adr):TS:=aw (aH (tC (.str "")) (ax 3)) (aw (rZ K (fun EH=>dF (ar (mi K A) EH (ae (af 0) (ae (af 1) (ae (af 2) (al)))))) (pK K A.c_NoKey (aH (tC (.str "key")) (ax 3)) (pK K A.c_NoStretch (aH (tC (.str "stretch")) (ax 3)) (pK K A.c_NoPart (aH (tC (.str "part")) (ax 3)) (pK K A.c_Broken (aH (tC (.str "broken")) (ax 3)) (nI))))) (aF)) (aB (af 3)))
def IE (K:W.Frag) (A:Adr):TS:=aw (aH (tC .non) (ax 3)) (aw (rZ K (fun EH=>dF (ar (mi K A) EH (ae (af 0) (ae (af 1) (ae (af 2) (al)))))) (hAs K A.c_StampError 4 (aw (aH (bJ (ae (tCB (jG K) (ae (af 4) (ae (tC (.ty "ValueError")) (al)))) (ae (tCB (jG K) (ae (af 4) (ae (tC (.ref A.c_NoKey)) (al)))) (ae (tCB (jG K) (ae (af 4) (ae (tC (.ref A.c_NoStretch)) (al)))) (al))))) (ax 3)) (aH (tOp (aY K) (af 3) (bJ (ae (tCB (jG K) (ae (af 4) (ae (tC (.ref A.c_NoPart)) (al)))) (ae (tCB (jG K) (ae (af 4) (ae (tC (.ref A.c_Broken)) (al)))) (al))))) (ax 3))) (nI)) (aF)) (aB (af 3)))
def vA (K:W.Frag) (A:Adr):TS:=aB (tOp (bu K) (ar (nS K A) (fun _=>E0) (ae (af 1) (ae (af 2) (ae (af 3) (al))))) (af 4))
def Ic (K:W.Frag) (A:Adr):TS:=aw (aR (aL (tOp (dh K) (ar (nN K A) (fun _=>E0) (ae (af 1) (ae (af 2) (ae (af 3) (al))))) (af 0))) (aB (tC (.bl false))) (aF)) (aw (aH (tOp (aY K) (bJ (ae (tC (.bl true)) (al))) (fI [0] (eR K (bJ (ae (tC (.str "key")) (ae (tC (.str "stretch")) (ae (tC (.str "part")) (ae (tC (.str "broken")) (al))))))) (fun _ H Q=>Q true H) (tOp (bu K) (af 1) (af 0)))) (ax 4)) (vA K A))
def vB (K:W.Frag) (A:Adr):TS:=aB (tC (.bl true))
def kT (K:W.Frag) (A:Adr):TS:=aw (aR (fi (aL (tOp (mLt) (af 1) (af 2))) (aL (cS (mLe) (mLt) (tC (.int 0)) (af 4) (tOp (cZ) (tC (.int 1)) (tOp (aG K) (af 0) (tC (.int 1))))))) (aB (ar (dY K A) (fun _=>E0) (ae (tC (.str "stretch")) (ae (tC (.int 4)) (ae (af 0) (ae (br (ae (af 2) (ae (af 1) (ae (af 3) (ae (af 4) (al)))))) (al))))))) (aF)) (vB K A)
def IP (K:W.Frag) (A:Adr):TS:=aw (aR (fi (bA (aL (cS (mLe) (mLe) (af 1) (af 4) (af 2)))) (bA (bC K (ar (dY K A) (fun _=>E0) (ae (tC (.str "key")) (ae (tC (.int 4)) (ae (af 0) (ae (br (ae (af 1) (ae (af 2) (ae (af 3) (ae (af 4) (al)))))) (al))))))))) (aB (tC (.bl false))) (aF)) (kT K A)
def Bt (K:W.Frag) (A:Adr):TS:=aB (tC (.bl true))
def vo (K:W.Frag) (A:Adr):TS:=aw (gu (eR K (bJ (ae (tOp (cT) (af 2) (tC (.int 1))) (ae (tOp (aY K) (af 3) (tC (.int 1))) (ae (tC (.int 0)) (ae (tOp (cT) (tOp (cZ) (tC (.int 1)) (tOp (aG K) (af 1) (tC (.int 1)))) (tC (.int 1))) (al))))))) (ax 10) (aR (bA (bC K (ar (nv K A) (fun _=>E0) (ae (af 1) (ae (af 2) (ae (af 3) (ae (af 8) (ae (af 10) (al))))))))) (aB (tC (.bl false))) (aF))) (Bt K A)
def Bo (K:W.Frag) (A:Adr):TS:=aw (aR (bA (bC K (ar (dY K A) (fun _=>E0) (ae (tC (.str "key")) (ae (tC (.int 4)) (ae (af 1) (ae (br (ae (af 3) (ae (af 2) (ae (af 8) (ae (af 6) (al)))))) (al)))))))) (aB (tC (.bl false))) (aF)) (vo K A)
def uK (K:W.Frag) (A:Adr):TS:=aw (aR (bA (bC K (ar (dY K A) (fun _=>E0) (ae (tC (.str "key")) (ae (tC (.int 4)) (ae (af 1) (ae (br (ae (af 2) (ae (af 3) (ae (af 8) (ae (af 6) (al)))))) (al)))))))) (aB (tC (.bl false))) (aF)) (Bo K A)
def vD (K:W.Frag) (A:Adr):TS:=aw (gu (jH (ae (tC (.int 5)) (al))) (ax 9) (aw (aR (bA (bC K (ar (dY K A) (fun _=>E0) (ae (tC (.str "key")) (ae (af 9) (ae (af 1) (ae (br (ae (af 6) (ae (af 3) (ae (af 8) (ae (af 2) (al)))))) (al)))))))) (aB (tC (.bl false))) (aF)) (aw (aR (bA (bC K (ar (dY K A) (fun _=>E0) (ae (tC (.str "key")) (ae (af 9) (ae (af 1) (ae (br (ae (af 2) (ae (af 6) (ae (af 8) (ae (af 3) (al)))))) (al)))))))) (aB (tC (.bl false))) (aF)) (aw (aR (fi (aL (tOp (mLt) (af 2) (af 3))) (bA (bC K (ar (dY K A) (fun _=>E0) (ae (tC (.str "stretch")) (ae (af 9) (ae (af 1) (ae (br (ae (af 3) (ae (af 2) (ae (af 8) (ae (af 2) (al)))))) (al))))))))) (aB (tC (.bl false))) (aF)) (aR (fi (aL (tOp (mGt) (af 9) (tC (.int 0)))) (aL (tOp (rR K) (af 8) (af 4)))) (aR (bA (bC K (ar (dY K A) (fun _=>E0) (ae (tC (.str "part")) (ae (af 9) (ae (af 1) (ae (br (ae (af 2) (ae (af 3) (ae (af 8) (ae (af 2) (al)))))) (al)))))))) (aB (tC (.bl false))) (aF)) (aF)))))) (uK K A)
def vi (K:W.Frag) (A:Adr):TS:=aw (aH (tOp (aG K) (af 7) (tOp (bi) (tOp (bQ) (af 0) (tC (.int 16))) (tCB (cu K) (ae (af 7) (al))))) (ax 8)) (vD K A)
def uj (K:W.Frag) (A:Adr):TS:=aw (aH (tOp (aY K) (bJ (ae (af 4) (al))) (ar (nH K A) (fun _=>E0) (ae (af 4) (al)))) (ax 7)) (vi K A)
def uA (K:W.Frag) (A:Adr):TS:=aw (aH (tOp (aG K) (af 5) (tOp (bi) (af 0) (tCB (cu K) (ae (af 5) (al))))) (ax 6)) (uj K A)
def JO (K:W.Frag) (A:Adr):TS:=aw (aH (ar (nE K A) (fun _=>E0) (ae (tOp (aG K) (af 1) (tC (.int 1))) (ae (tOp (bQ) (af 0) (tC (.int 8))) (al)))) (ax 5)) (uA K A)
def Ju (K:W.Frag) (A:Adr):TS:=aw (aH (tC .non) (ax 2)) (aw (rZ K (fun EH=>dF (ar (mi K A) EH (ae (tC (.int 3)) (ae (af 0) (ae (af 1) (al)))))) (hAs K A.c_Broken 3 (aH (br (ae (tw K (af 3) "due") (ae (tw K (af 3) "came") (al)))) (ax 2)) (nI)) (aF)) (aB (af 2)))
def Je (K:W.Frag) (A:Adr):TS:=aw (aR (bA (bC K (ar (dY K A) (fun _=>E0) (ae (tC (.str "broken")) (ae (tC (.int 3)) (ae (af 0) (ae (af 2) (al)))))))) (aB (tC (.bl false))) (aF)) (aw (aH (ar (nX K A) (fun _=>E0) (ae (af 0) (ae (af 2) (al)))) (ax 3)) (aw (aR (mOr (aL (tOp (vN) (af 3) (tC .non))) (bA (bC K (ar (jS K A) (fun _=>E0) (ae (tOp (aG K) (af 3) (tC (.int 0))) (ae (tOp (aG K) (af 0) (tC (.int 2))) (al))))))) (aB (tC (.bl false))) (aF)) (aB (ar (jS K A) (fun _=>E0) (ae (tOp (aG K) (af 3) (tC (.int 1))) (ae (af 1) (al)))))))
def rf (K:W.Frag) (A:Adr):TS:=aB (ar (jK K A) (fun _=>E0) (ae (ar (jO K A) (fun _=>E0) (ae (af 7) (ae (af 1) (ae (af 8) (ae (af 2) (ae (af 3) (ae (af 4) (al)))))))) (ae (af 10) (al))))
def re (K:W.Frag) (A:Adr):TS:=aw (aR (bA (bC K (ar (jK K A) (fun _=>E0) (ae (ar (iI K A) (fun _=>E0) (ae (af 7) (ae (af 1) (ae (af 2) (ae (af 3) (ae (af 4) (al))))))) (ae (af 9) (al)))))) (aB (tC (.bl false))) (aF)) (rf K A)
def tO (K:W.Frag) (A:Adr):TS:=aw (gu (eR K (tOp (aY K) (tSl (oF K) (af 0) (ix (tC (.int 5))) (ix (tC (.int 7)))) (bJ (ae (ar (im K A) (fun _=>E0) (ae (af 0) (ae (tC (.int 8)) (al)))) (al))))) (ax 5) (aw (aH (ar (kK K A) (fun _=>E0) (ae (tOp (bi) (af 5) (tC (.int 1000003))) (al))) (ax 11)) (aw (aR (bA (bC K (ar (oj K A) (fun _=>E0) (ae (af 5) (ae (br (ae (af 7) (ae (af 1) (ae (af 11) (al))))) (ae (af 2) (ae (af 3) (ae (af 4) (al))))))))) (aB (tC (.bl false))) (aF)) (gu (eR K (bJ (ae (af 11) (ae (tC (.int 0)) (ae (tC (.str "")) (ae (tC (.str "x")) (ae (tCB (lj) (ae (af 8) (al))) (al)))))))) (ax 11) (aR (aL (tOp (dh K) (af 11) (af 8))) (aR (bA (bC K (ar (ol K A) (fun _=>E0) (ae (br (ae (af 7) (ae (af 1) (ae (af 11) (al))))) (ae (af 8) (ae (br (ae (af 2) (ae (af 3) (ae (af 4) (ae (tC (.int 0)) (al)))))) (al))))))) (aB (tC (.bl false))) (aF)) (aF)))))) (re K A)
def vq (K:W.Frag) (A:Adr):TS:=aw (aR (bA (bC K (ar (jK K A) (fun _=>E0) (ae (ar (jO K A) (fun _=>E0) (ae (af 7) (ae (af 1) (ae (af 8) (ae (af 2) (ae (af 3) (ae (af 4) (al)))))))) (ae (af 10) (al)))))) (aB (tC (.bl false))) (aF)) (tO K A)
def ut (K:W.Frag) (A:Adr):TS:=aw (aH (ar (nG K A) (fun _=>E0) (ae (af 4) (ae (af 2) (ae (af 3) (al))))) (ax 10)) (vq K A)
def uo (K:W.Frag) (A:Adr):TS:=aw (aH (ar (ip K A 70) (fun _=>E0) (ae (af 7) (ae (af 4) (al)))) (jc K 2 (cI (ax 8) (cI (ax 9) jq)))) (ut K A)
def uw (K:W.Frag) (A:Adr):TS:=aw (aH (tOp (aG K) (af 6) (tOp (bi) (af 5) (tC (.int 4)))) (ax 7)) (uo K A)
def ub (K:W.Frag) (A:Adr):TS:=aw (aH (bJ (ae (ar (oi K A) (fun _=>E0) al) (ae (ar (ou K A) (fun _=>E0) (ae (tOp (bi) (tOp (bQ) (af 5) (tC (.int 4))) (tC (.int 90))) (al))) (ae (ar (nU K A) (fun _=>E0) (ae (tOp (aY K) (tC (.int 2)) (tOp (bi) (tOp (bQ) (af 5) (tC (.int 4))) (tC (.int 8)))) (al))) (ae (ar (om K A) (fun _=>E0) al) (al)))))) (ax 6)) (uw K A)
def tZ (K:W.Frag) (A:Adr):TS:=aw (aH (ar (im K A) (fun _=>E0) (ae (af 0) (ae (tC (.int 4)) (al)))) (ax 5)) (ub K A)
def vt (K:W.Frag) (A:Adr):TS:=aw (aH (ar (nk K A) (fun _=>E0) (ae (ar (im K A) (fun _=>E0) (ae (af 0) (ae (tC (.int 3)) (al)))) (ae (af 1) (ae (af 2) (ae (af 3) (al)))))) (ax 4)) (tZ K A)
def uX (K:W.Frag) (A:Adr):TS:=aw (aH (ar (ny K A) (fun _=>E0) (ae (af 1) (ae (ar (im K A) (fun _=>E0) (ae (af 0) (ae (tC (.int 1)) (al)))) (ae (ar (im K A) (fun _=>E0) (ae (af 0) (ae (tC (.int 2)) (al)))) (al))))) (jc K 2 (cI (ax 2) (cI (ax 3) jq)))) (vt K A)
def JL (K:W.Frag) (A:Adr):TS:=aw (aH (ar (oE K A) (fun _=>E0) (ae (ar (im K A) (fun _=>E0) (ae (af 0) (ae (tC (.int 0)) (al)))) (al))) (ax 1)) (uX K A)
variable {K:W.Frag} {mg:Str→Option Value} {A:Adr}
def tyD:Dat→String
 | .non=> "NoneType"
 | .bl _=> "bool"
 | .int _=> "int"
 | .str _=> "str"
 | .lst _=> "list"
 | .tup _=> "tuple"
 | .dic=> "dict"
theorem aU.ty {H:Hp} {v:V} {d:Dat} (h:aU H v d):tyN H v=some (tyD d):=by
 cases h with
 | lst e _=>unfold tyN;dsimp only;rw [e];rfl
 | tup e _=>unfold tyN;dsimp only;rw [e];rfl
 | dic e=>unfold tyN;dsimp only;obtain ⟨kvs,e⟩:=e;rw [e];rfl
 | _=>rfl
mutual
theorem aU.toV {K:W.Frag} {H:Hp} {v:V} {d:Dat} (h:aU H v d) (ok:okD d=true):dQ K H v (bS d):=by
 cases h with
 | non=>exact .non
 | bl b=>exact .bl b
 | int i=>exact .int i
 | str z=>exact .str z
 | lst e r=>exact .lst (SqL.of e) (DatWs.toV r ok)
 | tup e r=>exact .tup (SqT.of e) (DatWs.toV r ok)
 | dic e=>cases ok
theorem DatWs.toV {K : W.Frag} {H : Hp} {xs : List V} {ds : List Dat} (h : DatWs H xs ds) (ok : okDs ds = true) : DatVs K H xs (toPys ds) := by
  cases h with
  | nil => exact .nil
  | cons a r =>
    have ok : (okD _ && okDs _) = true := ok
    rw [Bool.and_eq_true] at ok
    exact .cons (aU.toV a ok.1) (DatWs.toV r ok.2)
end
theorem Dn {z:Str} (h:bW z=true):PyData.strOk z=true:=by
 unfold PyData.strOk
 unfold bW at h
 rw [Array.all_eq_true] at h ⊢
 intro i hi
 have:=of_decide_eq_true (h i hi)
 exact decide_eq_true (by omega)
mutual
theorem du:∀ {d:Dat},okD d=true→(bS d).canLay0=true
 | .non,_=>rfl
 | .bl _,_=>rfl
 | .int _,_=>rfl
 | .str z,h=>Dn (Bool.and_eq_true_iff.mp h).1
 | .lst ds,h=>lay_toPys h
 | .tup ds,h=>lay_toPys h
theorem lay_toPys : ∀ {ds : List Dat}, okDs ds = true → PyData.canLayAll0 (toPys ds) = true
  | [], _ => rfl
  | d :: r, h => by
    have h : (okD d && okDs r) = true := h
    rw [Bool.and_eq_true] at h
    show ((bS d).canLay0 && PyData.canLayAll0 (toPys r)) = true
    rw [du h.1, lay_toPys h.2]; rfl
end
theorem DatWs.len {H:Hp}:∀ {xs:List V} {ds:List Dat},DatWs H xs ds→xs.length=ds.length
 | _,_,.nil=>rfl
 | _,_,.cons _ r=>by rw [List.length_cons,List.length_cons,r.len]
mutual
theorem aU.mono {H H':Hp} {v:V} {d:Dat} (s:av H H') (h:aU H v d):aU H' v d:=by
 cases h with
 | non=>exact .non
 | bl b=>exact .bl b
 | int i=>exact .int i
 | str z=>exact .str z
 | lst e r=>exact .lst (s _ _ e) (DatWs.mono s r)
 | tup e r=>exact .tup (s _ _ e) (DatWs.mono s r)
 | dic e=>exact (let ⟨k,e⟩:=e;.dic ⟨k,s _ _ e⟩)
theorem DatWs.mono {H H':Hp} {xs:List V} {ds:List Dat} (s:av H H') (h:DatWs H xs ds):DatWs H' xs ds:=by
 cases h with
 | nil=>exact .nil
 | cons a r=>exact .cons (aU.mono s a) (DatWs.mono s r)
end
theorem rg {K:W.Frag} {H:Hp} {v:V} {d:Dat} {w:Str} {Q:VK} (h:aU H v d) (ok:okD d=true) (dp:(bS d).depth≤150) (hw:PyData.strOk w=true) (q:Q (.bl (!cB w d)) H):dh K v (.str w) H Q:=by
 have ref:∀ a,v=.ref a→(bS d).eqv (.str w)=false→cB w d=false→dh K v (.str w) H Q:=fun a e e1 e2=>by
  subst e
  refine ⟨_,_,h.toV ok,.str w,du ok,hw,dp,?_⟩
  rw [e1];rw [e2] at q;exact q
 cases h with
 | non=>exact q
 | bl b=>exact q
 | int i=>exact q
 | str z=>exact q
 | lst e r=>exact ref _ rfl rfl rfl
 | tup e r=>exact ref _ rfl rfl rfl
 | dic e=>cases ok
theorem ixT {K:W.Frag} {H:Hp} {Q:VK} {a:Addr} {xs:List V} {x:V} {i:Int} {j:Nat} (ha:H a=some (.tup xs)) (e:i=j) (hx:xs[j]?=some x) (q:Q x H):aG K (.ref a) (.int i) H Q:=by
 subst e
 refine .inl (.inr (.inl ⟨a,xs,j,x,rfl,rfl,SqT.of ha,?_,q⟩))
 have hj:=(List.getElem?_eq_some_iff.mp hx).1
 rw [vx (by omega) (by omega)]
 simp [List.getD_eq_getElem?_getD,hx]
theorem DQ (K:W.Frag) (A:Adr):Ln (gf K A) 1:=by rintro vs H Q E ⟨v,d,rfl,_⟩;rfl
theorem Gf (T:Txt K mg A) (vs:List V) (H:Hp) (Q:VK) (E:XK) (h:gf K A vs H Q E):Iu K A { nx:=fun _ H'=>Q .non H',rt:=Q } (bL ["thing"] vs) H:=by
 obtain ⟨v,d,rfl,w,q⟩:=h
 refine ⟨by decide,_,w.ty,?_⟩
 cases d
 case int i=>exact Sel.yes rfl ⟨by decide,_,w.ty,q⟩
 case bl b=>exact Sel.yes rfl ⟨by decide,_,w.ty,q⟩
 all_goals exact Sel.no rfl q
theorem DP (K:W.Frag) (A:Adr):Ln (lm K A) 1:=by rintro vs H Q E ⟨v,d,rfl,_⟩;rfl
theorem Gh (T : Txt K mg A) (vs : List V) (H : Hp) (Q : VK) (E : XK) (h : lm K A vs H Q E) : IW K A { nx := fun _ H' => Q .non H', rt := Q } (bL ["thing"] vs) H := by
  obtain ⟨v, d, rfl, w, q⟩ := h
  refine ⟨v, d, rfl, w, ?_⟩
  cases w with
  | int i =>
    refine Sel.yes rfl (Sel.dec (fun h0 => ⟨⟨by decide, by decide, by decide⟩, ?_⟩) (fun h0 => ?_))
    · show Q (.bl (decide (i < 10 ^ ((60 : Int).toNat)))) H
      have e : eU (.int i) = decide (i < 10 ^ ((60 : Int).toNat)) := by
        show decide (0 ≤ i ∧ i < 10 ^ 60) = decide (i < 10 ^ 60)
        by_cases h1 : i < 10 ^ 60
        · rw [decide_eq_true h1, decide_eq_true ⟨h0, h1⟩]
        · rw [decide_eq_false h1, decide_eq_false fun z => h1 z.2]
      rw [← e]; exact q
    · have e : eU (.int i) = false := decide_eq_false fun z => h0 z.1
      rw [← e]; exact q
  | non => exact Sel.no rfl ⟨by decide, _, rfl, q⟩
  | bl b => exact Sel.no rfl ⟨by decide, _, rfl, q⟩
  | str z => exact Sel.no rfl ⟨by decide, _, rfl, q⟩
  | lst e r => exact Sel.no rfl ⟨by decide, _, (aU.lst e r).ty, q⟩
  | tup e r => exact Sel.no rfl ⟨by decide, _, (aU.tup e r).ty, q⟩
  | dic e => exact Sel.no rfl ⟨by decide, _, (aU.dic e).ty, q⟩
theorem Bb (K:W.Frag) (A:Adr):Ln (kF K A) 3:=by rintro vs H Q E ⟨b,k,d,rfl,_⟩;rfl
theorem EN (T:Txt K mg A):Rd (kF K A) (JW K A) ["bits", "key", "depth"]:=by
 intro vs H Q E h
 obtain ⟨b,k,d,rfl,hd,q⟩:=h
 exact ⟨by omega,q⟩
theorem BN (K:W.Frag) (A:Adr):Ln (iE K A) 2:=by rintro vs H Q E ⟨b,v,d,rfl,_⟩;rfl
theorem Fi (T : Txt K mg A) : Rd (iE K A) (Jl K A) ["bits", "thing"] := by
  intro vs H Q E h
  obtain ⟨b, v, d, rfl, h0, h1, w, q⟩ := h
  refine ⟨v, d, rfl, w, ?_⟩
  cases w with
  | int i =>
    refine Sel.yes rfl (Sel.dec (fun h2 => ⟨⟨h0, by omega, by decide⟩, ?_⟩) (fun h2 => ?_))
    · show Q (.bl (decide (i < 1 * 2 ^ b.toNat))) H
      have e : bD b (.int i) = decide (i < 1 * 2 ^ b.toNat) := by
        show decide (0 ≤ i ∧ i < 2 ^ b.toNat) = _
        rw [Int.one_mul]
        by_cases h1 : i < 2 ^ b.toNat
        · rw [decide_eq_true h1, decide_eq_true ⟨h2, h1⟩]
        · rw [decide_eq_false h1, decide_eq_false fun z => h1 z.2]
      rw [← e]; exact q
    · have e : bD b (.int i) = false := decide_eq_false fun z => h2 z.1
      rw [← e]; exact q
  | _ => exact Sel.no rfl q
theorem CV (K:W.Frag) (A:Adr):Ln (oq K A) 1:=by rintro vs H Q E ⟨v,d,rfl,_⟩;rfl
theorem FZ (T : Txt K mg A) : Rd (oq K A) (Jz K A) ["thing"] := by
  intro vs H Q E h
  obtain ⟨v, d, rfl, w, ok, q⟩ := h
  refine ⟨by decide, _, w.ty, ?_⟩
  cases w with
  | str z =>
    have hl := of_decide_eq_true (Bool.and_eq_true_iff.mp ok).2
    refine Sel.yes rfl (.inl ⟨aS (by omega), ?_⟩)
    have e : eT (.str z) = decide ((z.length : Int) ≤ 60) := by
      show decide (z.length ≤ 60) = _
      by_cases h1 : z.length ≤ 60
      · rw [decide_eq_true h1, decide_eq_true (by omega)]
      · rw [decide_eq_false h1, decide_eq_false (by omega)]
    show Q (.bl (decide ((z.length : Int) ≤ 60))) H
    rw [← e]; exact q
  | _ => exact Sel.no rfl q
theorem uL {d : Dat} {ds : List Dat} (hm : d ∈ ds) : (bS d).depth ≤ PyData.depthAll (toPys ds) := by
  induction ds with
  | nil => cases hm
  | cons x r ih =>
    show _ ≤ max (bS x).depth (PyData.depthAll (toPys r))
    rcases List.mem_cons.mp hm with rfl | hm
    · omega
    · have := ih hm; omega
theorem oN {d : Dat} {ds : List Dat} (h : okDs ds = true) (hm : d ∈ ds) : okD d = true := by
  induction ds with
  | nil => cases hm
  | cons x r ih =>
    have h : (okD x && okDs r) = true := h
    rw [Bool.and_eq_true] at h
    rcases List.mem_cons.mp hm with rfl | hm
    · exact h.1
    · exact ih h.2 hm
theorem dW.tup {ds:List Dat} (h:dW (.tup ds)):okDs ds=true∧PyData.depthAll (toPys ds)≤139:=by
 rcases h with ⟨h1,h2⟩ | h
 · exact ⟨h1,by have h2:PyData.depthAll (toPys ds)+1≤140:=h2;omega⟩
 · cases h
theorem lQ {K : W.Frag} {H : Hp} {v : V} {d : Dat} {p : Addr} {Q : VK} (w : aU H v d) (ok : dW d) (hp : H p = some (.tup [.str "bare"])) (q : Q (.bl (ib d)) H) : bu K v (.ref p) H Q := by
  have dv : dQ K H (.ref p) (.tuple [.str "bare"]) := .tup (SqT.of hp) (.cons (.str _) .nil)
  have lv : (PyData.tuple [.str "bare"]).canLay0 = true := by decide +kernel
  rcases ok with ⟨ok, dp⟩ | rfl
  · have hd : ∀ e : (bS d).eqv (.tuple [.str "bare"]) = ib d, pO K v (.ref p) H Q := fun e => ⟨_, _, w.toV ok, dv, du ok, lv, by omega, by rw [e]; exact q⟩
    cases w with
    | non => exact hd rfl
    | bl b => exact hd rfl
    | int i => exact hd rfl
    | str z => exact hd rfl
    | lst e r => exact .inr (.inl (hd rfl))
    | @tup a xs ds e r =>
      refine .inr (.inl (hd ?_))
      clear hd r ok dp q
      cases ds with
      | nil => rfl
      | cons x rs =>
        cases rs with
        | nil =>
          show ((bS x).eqv (.str "bare") && true) = cB "bare" x
          rw [Bool.and_true]
          cases x with
          | str z =>
            show (z == ("bare" : Str)) = decide (z = "bare")
            by_cases h : z = "bare" <;> simp [h]
          | _ => rfl
        | cons y rs =>
          show ((bS x).eqv (.str "bare") && false) = false
          rw [Bool.and_false]
    | dic e => cases ok
  · cases w with
    | dic e => exact .inr (.inr ⟨_, p, _, rfl, rfl, .inl e, SqT.of hp, q⟩)
theorem BQ (K:W.Frag) (A:Adr):Ln (oA K A) 4:=by rintro vs H Q E ⟨b,p,g,v,d,rfl,_⟩;rfl
theorem HE (T : Txt K mg A) : Rd (oA K A) (Jw K A) ["bits", "depth", "begin", "thing"] := by
  intro vs H Q E h
  obtain ⟨b, p, g, v, d, rfl, b0, b60, hp, w, ok, q⟩ := h
  refine ⟨by decide, _, w.ty, ?_⟩
  cases w with
  | @tup a xs ds e r =>
    obtain ⟨ok, dp⟩ := ok.tup
    have el := r.len
    refine Sel.no rfl (.inl (.inr (.inl ⟨_, SqT.of e, Sel.ndec (fun ne => Sel.t ?_) (fun he => ?_)⟩)))
    · have e2 : dI b p g (.tup ds) = false := by
        unfold dI
        split
        · rename_i heq; cases heq; simp at el; omega
        · rfl
      rw [e2] at q; exact q
    · cases r with
      | nil => simp at he
      | @cons x0 _ d0 _ w0 r =>
      cases r with
      | nil => simp at he
      | @cons x1 _ d1 _ w1 r =>
      cases r with
      | nil => simp at he
      | @cons x2 _ d2 _ w2 r =>
      cases r with
      | cons _ _ => simp at he; omega
      | nil =>
      have o0 := oN ok (d := d0) (by simp)
      have p0 := uL (d := d0) (ds := [d0, d1, d2]) (by simp)
      have o2 := oN ok (d := d2) (by simp)
      refine ixT (j := 0) e rfl rfl (rg w0 o0 (by omega) (by decide +kernel) (Sel.mk (fun hn => ?_) (fun hy => ?_)))
      · have hn : cB "leaf" d0 = false := by simpa using hn
        have e2 : dI b p g (.tup [d0, d1, d2]) = false := by
          cases d1 <;> first | rfl | (show (cB "leaf" d0 && _ && _ && _) = false; rw [hn]; rfl)
        rw [e2] at q; exact q
      · have hy : cB "leaf" d0 = true := by simpa using hy
        refine ixT (j := 1) e rfl rfl ⟨b, x1, d1, rfl, b0, b60, w1, ?_⟩
        cases w1 with
        | int k =>
          have e2 : dI b p g (.tup [d0, .int k, d2]) = (decide (0 ≤ k ∧ k < 2 ^ b.toNat) && eT d2 && decide (fK b k p = g)) := by
            show (cB "leaf" d0 && _ && _ && _) = _
            rw [hy]; simp
          rw [e2] at q
          refine Sel.mk (fun hk => Sel.t ?_) (fun hk => ?_)
          · have hk : bD b (.int k) = false := by simpa only [Bool.not_eq_true'] using hk
            have hk : decide (0 ≤ k ∧ k < 2 ^ b.toNat) = false := hk
            rw [hk] at q; exact q
          · have hk : bD b (.int k) = true := by simpa only [Bool.not_eq_false'] using hk
            have hk : decide (0 ≤ k ∧ k < 2 ^ b.toNat) = true := hk
            rw [hk, Bool.true_and] at q
            refine ixT (j := 2) e rfl rfl ⟨x2, d2, rfl, w2, o2, ?_⟩
            refine Sel.mk (fun hv => ?_) (fun hv => ?_)
            · have hv : eT d2 = false := by simpa using hv
              rw [hv] at q; exact q
            · have hv : eT d2 = true := by simpa using hv
              rw [hv, Bool.true_and] at q
              exact ixT (j := 1) e rfl rfl ⟨b, k, p, rfl, hp, q⟩
        | _ => exact Sel.t (Sel.t q)
  | _ => exact Sel.yes rfl (Sel.t q)
theorem AW (K:W.Frag) (A:Adr):Ln (nZ K A) 4:=by rintro vs H Q E ⟨b,p,g,v,d,rfl,_⟩;rfl
theorem HP (T : Txt K mg A) : Rd (nZ K A) (Jb K A) ["bits", "depth", "begin", "thing"] := by
  intro vs H Q E h
  obtain ⟨b, p, g, v, d, rfl, p0, b60, hp, w, ok, q⟩ := h
  refine ⟨by decide, _, w.ty, ?_⟩
  cases w with
  | @tup a xs ds e r =>
    obtain ⟨ok, dp⟩ := ok.tup
    have el := r.len
    refine Sel.no rfl (.inl (.inr (.inl ⟨_, SqT.of e, Sel.ndec (fun ne => Sel.t ?_) (fun he => ?_)⟩)))
    · have e2 : fe b p g (.tup ds) = false := by
        unfold fe
        split
        · rename_i heq; cases heq; simp at el; omega
        · rfl
      rw [e2] at q; exact q
    · cases r with
      | nil => simp at he
      | @cons x0 _ d0 _ w0 r =>
      cases r with
      | nil => simp at he
      | @cons x1 _ d1 _ w1 r =>
      cases r with
      | nil => simp at he
      | @cons x2 _ d2 _ w2 r =>
      cases r with
      | nil => simp at he
      | @cons x3 _ d3 _ w3 r =>
      cases r with
      | nil => simp at he
      | @cons x4 _ d4 _ w4 r =>
      cases r with
      | cons _ _ => simp at he; omega
      | nil =>
      have o0 := oN ok (d := d0) (by simp)
      have pp := uL (d := d0) (ds := [d0, d1, d2, d3, d4]) (by simp)
      refine ixT (j := 0) e rfl rfl (rg w0 o0 (by omega) (by decide +kernel) (Sel.mk (fun hn => ?_) (fun hy => ?_)))
      · have hn : cB "fork" d0 = false := by simpa using hn
        have e2 : fe b p g (.tup [d0, d1, d2, d3, d4]) = false := by
          cases d1 <;> first | rfl | (cases d2 <;> first | rfl | (show (cB "fork" d0 && _ && _ && _) = false; rw [hn]; rfl))
        rw [e2] at q; exact q
      · have hy : cB "fork" d0 = true := by simpa using hy
        refine ixT (j := 1) e rfl rfl ⟨x1, d1, rfl, w1, ?_⟩
        cases w1 with
        | int ee =>
          refine Sel.no rfl (ixT (j := 1) e rfl rfl ?_)
          have bad : decide (p ≤ ee ∧ ee < b) = false → fe b p g (.tup [d0, .int ee, d2, d3, d4]) = false := fun z => by
            cases d2 <;> first | rfl | (show (cB "fork" d0 && _ && _ && _) = false; rw [z]; simp)
          refine Sel.dec (fun h1 => Sel.ndec (fun h2 => ?_) (fun h2 => ?_)) (fun h1 => ?_)
          · rw [bad (decide_eq_false fun z => h2 z.2)] at q; exact q
          · refine ixT (j := 2) e rfl rfl ⟨x2, d2, rfl, w2, ?_⟩
            cases w2 with
            | int bb =>
              have e2 : fe b p g (.tup [d0, .int ee, .int bb, d3, d4]) = (decide (0 ≤ bb ∧ bb < 2 ^ ee.toNat) && decide (bb / 2 ^ (ee - p).toNat = g)) := by
                show (cB "fork" d0 && decide (p ≤ ee ∧ ee < b) && _ && _) = _
                rw [hy, decide_eq_true ⟨h1, h2⟩]; simp
              rw [e2] at q
              refine Sel.no rfl (ixT (j := 2) e rfl rfl ?_)
              refine Sel.dec (fun h3 => ixT (j := 1) e rfl rfl ⟨⟨by omega, by omega, by decide⟩, Sel.mk (fun h4 => ?_) (fun h4 => ?_)⟩) (fun h3 => ?_)
              · rw [Int.one_mul] at h4
                have h4 : ¬ bb < 2 ^ ee.toNat := by simpa using h4
                rw [decide_eq_false (fun z => h4 z.2)] at q; exact q
              · rw [Int.one_mul] at h4
                have h4 : bb < 2 ^ ee.toNat := by simpa using h4
                rw [decide_eq_true ⟨h3, h4⟩, Bool.true_and] at q
                exact ixT (j := 2) e rfl rfl (ixT (j := 1) e rfl rfl ⟨by omega, q⟩)
              · rw [decide_eq_false (fun z => h3 z.1)] at q; exact Sel.yes rfl q
            | _ => exact Sel.yes rfl (Sel.t q)
          · rw [bad (decide_eq_false fun z => h1 z.1)] at q; exact Sel.yes rfl q
        | _ => exact Sel.yes rfl (Sel.t q)
  | _ => exact Sel.yes rfl (Sel.t q)
theorem va {x:Int} (h:x.natAbs<2^64):Builtin.Int.intBits x≤64:=by
 unfold Builtin.Int.intBits
 split
 · decide
 · rename_i hx
   have hx:x≠0:=by simpa using hx
   have:x.natAbs.log2<64:=(Nat.log2_lt (by omega)).mpr h
   omega
theorem il {x y:Int} (h0:0≤x) (h:x<2^64):IntMulOk x y:=IntMulOk.of_left (va (by omega))
theorem fO {x y:Int} (h0:0≤y) (h:y<2^64):IntMulOk x y:=IntMulOk.of_right (va (by omega))
theorem FX (K:W.Frag) (A:Adr):Ln (im K A) 2:=by rintro vs H Q E ⟨a,ns,k,rfl,_⟩;rfl
theorem Jh (T:Txt K mg A):Rd (im K A) (T_8 K A) ["_law_script", "_law_k", "_law_number_here", "_law_cell"]:=by
 intro vs H Q E h
 obtain ⟨a,ns,k,rfl,hs,h0,q⟩:=h
 refine .inl (.inl ⟨_,hs,Sel.dec (fun h=>?_) (fun h=>?_)⟩)
 · obtain ⟨v,hv⟩:=ph h0 h
   obtain ⟨j,_,hj,_⟩:=gp hv
   obtain ⟨z,_,rfl⟩:=jE hj
   exact .inl (.inl ⟨a,_,k,_,rfl,rfl,hs,hv,q z H (.refl H)⟩)
 · obtain ⟨zs,ez,hz⟩:=uP ns none (some 5)
   refine .inl (.inl ⟨_,hs,5,rfl,.inl (.inl ⟨a,_,rfl,hs,fun p hp=>?_⟩)⟩)
   rw [ez]
   refine ⟨p,rfl,.inl ⟨⟨_,SqL.of aj⟩,?_⟩⟩
   refine ij (xs:=zs.map V.int) (fun i σ H'=>H'=upd H p (.lst (zs.map V.int))∧∃ n x3,σ=[some (.ref a),some (.int k),some (.int n),x3]) ⟨rfl,_,none,rfl⟩ ?_ ?_ ?_
   · rintro i σ _ _ ⟨rfl,_⟩;exact SqL.of aj
   · rintro i x σ _ hx ⟨rfl,n,x3,rfl⟩
     obtain ⟨z,_,rfl⟩:=jE hx
     exact ⟨fO (by decide) (by decide),by decide,rfl,_,_,rfl⟩
   · rintro σ _ ⟨rfl,n,x3,rfl⟩
     refine ⟨IntMulOk.of_left (by decide),by decide,?_⟩
     have b0:0≤(n+7919*k)%1000003:=by omega
     have b1:(n+7919*k)%1000003<1000003:=by omega
     exact ⟨il b0 (by omega),by decide,q _ _ (av.upd hp)⟩
theorem BK (K:W.Frag) (A:Adr):Ln (oE K A) 1:=by rintro vs H Q E ⟨c,rfl,_⟩;rfl
theorem Hw (T:Txt K mg A):Rd (oE K A) (Iy K A) ["_law_cell"]:=by
 intro vs H Q E h
 obtain ⟨c,rfl,q⟩:=h
 refine ⟨⟨by decide,by decide⟩,aS (n:=3) (by decide),fun p hp=>⟨by decide,?_⟩⟩
 have hc:c%3=0∨c%3=1∨c%3=2:=by omega
 have S:=av.upd (o:=.lst [V.int 60,.int 8,.int 60]) hp
 rcases hc with e | e | e <;> rw [e]
 · exact ixL (j:=0) aj rfl rfl ⟨by decide,q _ _ S (by omega) (by omega)⟩
 · exact ixL (j:=1) aj rfl rfl ⟨by decide,q _ _ S (by omega) (by omega)⟩
 · exact ixL (j:=2) aj rfl rfl ⟨by decide,q _ _ S (by omega) (by omega)⟩
theorem zL {x:Int} {j m:Nat} (x0:0≤x) (hm:j<m) (x1:x<2^m):0≤Builtin.bitXor x (1*2^j)∧Builtin.bitXor x (1*2^j)<2^m:=by
 obtain ⟨y,rfl⟩:=Int.eq_ofNat_of_zero_le x0
 have e:(1:Int)*2^j=((2^j:Nat):Int):=by rw [Int.one_mul,nl]
 rw [e,sg,←nl]
 refine ⟨by omega,?_⟩
 have y1:y<2^m:=by rw [← nl] at x1;exact_mod_cast x1
 have:=Nat.xor_lt_two_pow (n:=m) y1 (Nat.pow_lt_pow_right (by decide:1<2) hm)
 exact_mod_cast this
theorem AS (K:W.Frag) (A:Adr):Ln (kE K A) 3:=by rintro vs H Q E ⟨b,c,o,ks,rfl,_⟩;rfl
theorem Fx (T : Txt K mg A) : Rd (kE K A) (JM K A) ["_law_bits_here", "_law_cell", "_law_others", "_law_many", "_law_number_here", "_law_flip"] := by
  intro vs H Q E h
  obtain ⟨b, c, o, ks, rfl, b1, b60, ho, kl, kk, q⟩ := h
  have hp : (0 : Int) < 1 * 2 ^ b.toNat := by rw [Int.one_mul]; exact eV _
  have e1 : (1 : Int) * 2 ^ b.toNat = 2 ^ b.toNat := Int.one_mul _
  have fin : ∀ (n : Int) (H' : Hp), av H H' → Q (.int (n % (1 * 2 ^ b.toNat))) H' := fun n H' s => q _ _ s (Int.emod_nonneg _ (Int.ne_of_gt hp)) (Int.lt_of_lt_of_le (Int.emod_lt_of_pos _ hp) (Int.le_of_eq e1))
  refine ⟨⟨by omega, by omega, by decide⟩, ⟨by decide, by decide⟩, by decide, Sel.dec (fun h => ?_) (fun h => ?_)⟩
  · exact ⟨hp, fin _ H (.refl H)⟩
  refine ⟨by decide, Sel.dec (fun h1 => ?_) (fun h1 => ?_)⟩
  · have h2 := Int.emod_nonneg (c / 5) (b := 1 * 2 ^ b.toNat) (by omega)
    have h3 := Int.emod_lt_of_pos (c / 5) hp
    exact ⟨hp, q _ _ (.refl H) (by omega) (Int.lt_of_lt_of_le (b := 1 * 2 ^ b.toNat) (by omega) (Int.le_of_eq e1))⟩
  refine ⟨by decide, Sel.dec (fun h2 => ?_) (fun h2 => Sel.f ?_)⟩
  · refine ⟨aS (n := 0) (by decide), fun p hp' => ⟨_, _, .lst (SqL.of (av.upd hp' _ _ ho)) (kD ks), .lst (SqL.of aj) .nil, jZ ks, rfl, tm ks, ?_⟩⟩
    cases ks with
    | nil => exact Sel.no rfl ⟨fO (by decide) (by decide), hp, fin _ _ (av.upd hp')⟩
    | cons x xr =>
      cases xr with
      | cons y yr => simp at kl
      | nil =>
      refine Sel.yes rfl ⟨fO (by decide) (by decide), by decide, by omega, .inl (.inl ⟨_, SqL.of (av.upd hp' _ _ ho), by simp, ?_⟩)⟩
      have hx := kk x List.mem_cons_self
      have r0 := Int.emod_nonneg (c / 5 * 48271 % 65537) (b := b) (by omega)
      have r1 := Int.emod_lt_of_pos (c / 5 * 48271 % 65537) (b := b) (by omega)
      have fl := zL (j := (c / 5 * 48271 % 65537 % b).toNat) hx.1 (by omega) hx.2
      refine ixL (j := 0) (av.upd hp' _ _ ho) ?_ rfl ⟨⟨by omega, by omega, by decide⟩, q _ _ (av.upd hp') fl.1 fl.2⟩
      show c / 5 % 1 = 0
      omega
  · exact ⟨fO (by decide) (by decide), hp, fin _ H (.refl H)⟩
theorem Dg (K:W.Frag) (A:Adr):Ln (kK K A) 1:=by rintro vs H Q E ⟨c,rfl,_⟩;rfl
theorem GA:∀ n:Fin 50,okD (.str (("m" :Str)++Str.ofString (toString (((n:Nat):Int)))))=true∧(Str.ofString (toString (((n:Nat):Int)))).length≤2∧szK (.inr (("m" :Str)++Str.ofString (toString (((n:Nat):Int)))))≤1062:=by decide +kernel
theorem pL {i:Int} (h0:0≤i) (h1:i<10^60):vj (.inl i):=⟨decide_eq_true ⟨h0,h1⟩,rfl,by show 62≤1062;decide⟩
theorem Ew (T:Txt K mg A):Rd (kK K A) (Jt K A) ["_law_number_here"]:=by
 intro vs H Q E h
 obtain ⟨c,rfl,q⟩:=h
 refine ⟨fO (by decide) (by decide),by decide,?_⟩
 have n0:0≤c*69621%1000003:=by omega
 have n1:c*69621%1000003<1000003:=by omega
 show aw _ _ _ [some (V.int (c*69621%1000003))] H
 generalize c*69621%1000003=n at n0 n1 ⊢
 have big:(1000003:Int)*10^30<10^60:=by decide +kernel
 have p30:(0:Int)<10^30:=by decide +kernel
 have p60:(1000003:Int)<10^60:=by decide +kernel
 refine ⟨by decide,Sel.dec (fun h=>?_) (fun h=>?_)⟩
 · have l0:0≤n%50:=by omega
   have l1:n%50<50:=by omega
   obtain ⟨j,hj⟩:=Int.eq_ofNat_of_zero_le l0
   obtain ⟨s1,s2,s3⟩:=GA ⟨j,by omega⟩
   have s1:okD (.str (("m" :Str)++Str.ofString (toString ((j:Nat):Int))))=true:=s1
   have s2:(Str.ofString (toString ((j:Nat):Int))).length≤2:=s2
   refine ⟨by decide,?_⟩
   rw [hj]
   exact ⟨Nat.lt_of_le_of_lt (Nat.log2_le_self _) (by omega),Nat.le_trans (Nat.add_le_add (Nat.le_refl 1) s2) (aS (by decide)),q (.inr _) ⟨rfl,s1,s3⟩⟩
 refine ⟨by decide,Sel.dec (fun h1=>?_) (fun h1=>?_)⟩
 · exact ⟨⟨by decide,by decide⟩,by decide,q (.inl _) (pL (by omega) (by omega))⟩
 refine ⟨by decide,Sel.dec (fun h2=>?_) (fun h2=>?_)⟩
 · refine ⟨⟨by decide,by decide,by decide⟩,il n0 (by omega),q (.inl _) (pL ?_ ?_)⟩
   · exact Int.mul_nonneg n0 (Int.le_of_lt p30)
   · have:n*10^30<1000003*10^30:=Int.mul_lt_mul_of_pos_right n1 p30
     show n*10^30<10^60
     omega
 · refine ⟨⟨by decide,by decide,by decide⟩,q (.inl _) (pL ?_ ?_)⟩
   · show 0≤(10:Int)^60 - 1 - n
     omega
   · show (10:Int)^60 - 1 - n<10^60
     omega
theorem uk {a b:Int} (h0:0≤a) (h:a≤b):(2:Int)^b.toNat=2^a.toNat*2^(b - a).toNat:=by
 rw [← Int.pow_add]
 congr 1
 omega
theorem mL {x y:Str} (h1:bW x=true) (h2:bW y=true):bW (x++y)=true:=by
 unfold bW at h1 h2 ⊢
 show (x.cps++y.cps).all _=true
 rw [Array.all_append,h1,h2];rfl
theorem oS (H:Hp) (m:Key):aU H (kV m) (dk m):=by cases m <;> constructor
theorem zI (m:Key):(bS (dk m)).depth=0:=by cases m <;> rfl
mutual
def noL:Dat→Bool
 | .lst _=>false
 | .tup ds=>noLs ds
 | .non=>true
 | .bl _=>true
 | .int _=>true
 | .str _=>true
 | .dic=>true
def noLs:List Dat→Bool
 | []=>true
 | d::r=>noL d&&noLs r
end
theorem DatWs.append {H:Hp}:∀ {xs ys:List V} {ds es:List Dat},DatWs H xs ds→DatWs H ys es→DatWs H (xs++ys) (ds++es)
 | _,_,_,_,.nil,h=>h
 | _,_,_,_,.cons a r,h=> .cons a (r.append h)
theorem oJ : ∀ {ds es : List Dat}, okDs ds = true → okDs es = true → okDs (ds ++ es) = true
  | [], _, _, h => h
  | d :: r, es, h, h2 => by
    have h : (okD d && okDs r) = true := h
    rw [Bool.and_eq_true] at h
    show (okD d && okDs (r ++ es)) = true
    rw [h.1, oJ h.2 h2]; rfl
def sg1:Str:= " !\"#$&'()*+,-./0123456789:;<=>?@ABCDEFGHIJKLMNOPQRSTUVWXYZ[\\]^_`"
def sg2:Str:= "abcdefghijklmnopqrstuvwxyz{|}~"
theorem Do:(sg1++sg2).length=94∧(sg1++sg2).cps.toList.length=94∧(sg1++sg2).cps.toList.all (·<128)=true:=by decide +kernel
theorem pI:okD (.str "leaf")=true:=by decide +kernel
theorem wf:okD (.str "fork")=true:=by decide +kernel
theorem Gw {z:Str} (h:bW z=true) (hl:z.length≤100000):okD (.str z)=true:=by
 show (bW z&&decide (z.length≤100000))=true
 rw [h,decide_eq_true hl];rfl
theorem CU (K:W.Frag) (A:Adr):Ln (jQ K A) 1:=by rintro vs H Q E ⟨c,rfl,_⟩;rfl
theorem FQ (T:Txt K mg A):Rd (jQ K A) (IR K A) ["_law_cell", "_law_signs", "_law_size", "_law_made", "_law_k"]:=by
 intro vs H Q E h
 obtain ⟨c,rfl,q⟩:=h
 obtain ⟨g1,g2,g3⟩:=Do
 have bz:∀ sz:Int,0≤sz→sz≤60→uF K A { nx:=fun _ H'=>Q .non H',rt:=Q } [some (.int c),some (.str (sg1++sg2)),some (.int sz),none,none] H:=by
  intro sz s0 s1
  refine ⟨sz,rfl,by omega,by omega,?_⟩
  refine gG (fun i σ H'=>H'=H∧∃ z x4,σ=[some (.int c),some (.str (sg1++sg2)),some (.int sz),some (.str z),x4]∧z.length=i∧bW z=true) ⟨rfl, "",none,rfl,by decide,by decide +kernel⟩ ?_ ?_
  · rintro i σ _ hi ⟨rfl,z,x4,rfl,hz,ho⟩
    refine ⟨⟨by decide,by decide⟩,⟨by decide,by decide⟩,by decide,fO (by omega) (by omega),.inl ⟨by rw [g1];exact aS (by decide),by rw [g1];decide,?_⟩⟩
    generalize (c/4+_:Int)=w
    have e94:((sg1++sg2).length:Int)=94:=by rw [g1];rfl
    rw [e94]
    obtain ⟨cc,hcc⟩:=ph (xs:=(sg1++sg2).cps.toList) (i:=w%94) (by omega) (by rw [g2];omega)
    refine .inl (.inr (.inr ⟨_,_,cc,rfl,rfl,by rw [g1];exact aS (by decide),hcc,?_⟩))
    refine ⟨by rw [hz];exact aS (by show i+1≤1000000;omega),rfl,z++⟨#[cc]⟩,_,rfl,by rw [strLen_append,hz];rfl,mL ho ?_⟩
    obtain ⟨j,_,hj,_⟩:=gp hcc
    have:=of_decide_eq_true (List.all_eq_true.mp g3 cc (List.mem_of_getElem? hj))
    unfold bW
    simp
    omega
  · rintro σ _ ⟨rfl,z,x4,rfl,hz,ho⟩
    exact q z _ (.refl _) (by omega) ho
 have rest4:∀ sz:Int,0≤sz→sz≤60→uN K A { nx:=fun _ H'=>Q .non H',rt:=Q } [some (.int c),some (.str (sg1++sg2)),some (.int sz),none,none] H:=by
  intro sz s0 s1
  refine ⟨⟨by decide,by decide⟩,by decide,Sel.dec (fun h=>?_) (fun h=>bz sz s0 s1)⟩
  exact ⟨⟨by decide,by decide⟩,by decide,bz (c/32%61) (by omega) (by omega)⟩
 refine ⟨aS (by decide +kernel),by decide,⟨by decide,by decide⟩,by decide,Sel.dec (fun h=>rest4 60 (by decide) (by decide)) (fun h=>rest4 (c%4) (by omega) (by omega))⟩
theorem uZ {x:Key} (h1:eU (dk x)=true) (h2:okD (dk x)=true):okP x=true:=by
 cases x with
 | inl i=>exact h1
 | inr z=>exact h2
theorem JT {x y z:Key} (hx:okP x=true) (hy:okP y=true) (hz:okP z=true) (h:kO x=true):okT [x,y,z]=true:=by
 show (true&&kO x&&(okP x&&(okP y&&(okP z&&true))))=true
 rw [h,hx,hy,hz];rfl
theorem Ik {x y z u v:Key} (hx:okP x=true) (hy:okP y=true) (hz:okP z=true) (hu:okP u=true) (hv:okP v=true) (h:kO x=true):okT [x,y,z,u,v]=true:=by
 show (true&&kO x&&(okP x&&(okP y&&(okP z&&(okP u&&(okP v&&true))))))=true
 rw [h,hx,hy,hz,hu,hv];rfl
theorem qI:okP (.inr "fork")=true∧okP (.inr "leaf")=true∧okP (.inr "bare")=true:=by decide +kernel
theorem qr:szK (.inr "fork")=66∧szK (.inr "leaf")=66∧szK (.inr "bare")=66:=by decide +kernel
theorem wN {i:Int} (h0:0≤i) (h1:i<10^60):okP (.inl i)=true:=decide_eq_true ⟨h0,h1⟩
theorem vY {K:W.Frag} {H:Hp} {Q:VK} {a:Key} (q:Q (.bl false) H):dh K (kV a) (kV a) H Q:=by
 cases a
 · rename_i i
   have e:(!decide (i=i))=false:=by simp
   rw [← e] at q;exact q
 · rename_i i
   have e:(!decide (i=i))=false:=by simp
   rw [← e] at q;exact q
theorem Ei {H:Hp} {v:V} {k:Key} (w:aU H v (dk k)):v=kV k:=by cases k <;> (cases w;rfl)
theorem uI {H : Hp} {v : V} : ∀ {e : List Key} {xs : List V}, DatWs H xs (e.map dk) → xs = e.map kV
  | [], _, h => by cases h; rfl
  | x :: r, _, h => by
    cases h with
    | cons a b => rw [Ei a, uI (v := v) b]; rfl
theorem sT {H:Hp} {v:V} {e:List Key} (h:aU H v (.tup (e.map dk))):∃ a,v=.ref a∧H a=some (.tup (e.map kV)):=by
 cases h with
 | @tup a xs _ ea r=>exact ⟨a,rfl,by rw [ea,uI (v:=.non) r]⟩
theorem Cd (K:W.Frag) (A:Adr):Ln (nO K A) 3:=by rintro vs H Q E ⟨b,k,d,rfl,_⟩;rfl
theorem GC (T:Txt K mg A):Rd (nO K A) (IS K A) ["bits", "key", "depth"]:=by
 intro vs H Q E h
 obtain ⟨b,k,d,rfl,hd,k0,q⟩:=h
 refine ⟨by omega,?_⟩
 show Q (.int (Builtin.bitAnd (k/2^(b - d - 1).toNat) 1)) H
 have h0:0≤k/2^(b - d - 1).toNat:=Int.ediv_nonneg k0 (Int.le_of_lt (eV _))
 obtain ⟨y,hy⟩:=Int.eq_ofNat_of_zero_le h0
 rw [hy] at q ⊢
 rw [rS]
 have:((y%2:Nat):Int)=(y:Int)%2:=by omega
 rw [this];exact q
theorem BJ (K:W.Frag) (A:Adr):Ln (jS K A) 2:=by rintro vs H Q E ⟨x,rfl,_⟩;rfl
theorem GG (T : Txt K mg A) : Rd (jS K A) (IH K A) ["_law_found", "_law_due"] := by
  intro vs H Q E h
  obtain ⟨x, rfl, q⟩ := h
  cases x with
  | inl i =>
    have e : decide (i = i) = true := decide_eq_true rfl
    rw [← e] at q
    exact ⟨by decide, "int", rfl, Sel.no rfl ⟨by decide, "int", rfl, Sel.yes rfl ⟨by decide, "int", rfl, Sel.yes rfl q⟩⟩⟩
  | inr z =>
    have e : decide (z = z) = true := decide_eq_true rfl
    rw [← e] at q
    exact ⟨by decide, "str", rfl, Sel.yes rfl ⟨by decide, "str", rfl, Sel.yes rfl q⟩⟩
theorem BF (K:W.Frag) (A:Adr):Ln (oa K A) 2:=by rintro vs H Q E ⟨p,r,k,rfl,_⟩;rfl
theorem Hq (T:Txt K mg A):Rd (oa K A) (Jx K A) ["_law_found", "_law_due", "_law_k"]:=by
 intro vs H Q E h
 obtain ⟨p,r,k,rfl,hp,hr,hk,q⟩:=h
 have ty:tyN H (.ref p)=some "tuple" :=by unfold tyN;dsimp only;rw [hp]
 refine ⟨by decide, "tuple",ty,Sel.no rfl (.inl (.inr (.inl ⟨_,SqT.of hp,.inl (.inr (.inl ⟨_,SqT.of hr,?_⟩))⟩)))⟩
 refine Sel.no (by simp) (.inl (.inr (.inl ⟨_,SqT.of hr,_,rfl,by omega,by simp;omega,?_⟩)))
 have hn:(((k.map kV).length:Nat):Int).toNat=k.length:=by simp
 rw [hn]
 refine gG (fun i σ H'=>H'=H∧∃ x2,σ=[some (.ref p),some (.ref r),x2]) ⟨rfl,none,rfl⟩ ?_ ?_
 · rintro i σ _ hi ⟨rfl,x2,rfl⟩
   obtain ⟨x,hx⟩:∃ x,k[i]?=some x:=⟨_,List.getElem?_eq_getElem hi⟩
   have hx2:(k.map kV)[i]?=some (kV x):=by rw [List.getElem?_map,hx];rfl
   refine ixT (j:=i) hp (by omega) hx2 (ixT (j:=i) hr (by omega) hx2 ⟨x,rfl,Sel.no rfl ⟨rfl,_,rfl⟩⟩)
 · rintro σ _ ⟨rfl,x2,rfl⟩
   exact q
theorem tX {H : Hp} {ps : List Addr} {ts : List (List Key)} (h : PK H ps ts) : ∀ {i : Nat} {t : List Key}, ts[i]? = some t → ∃ p, ps[i]? = some p ∧ H p = some (.tup (t.map kV)) ∧ okT t = true := by
  induction h with
  | nil => intro i t e; cases e
  | cons r _ ih =>
    intro i t e
    cases i with
    | zero => cases e; exact ⟨_, rfl, r⟩
    | succ i => exact ih e
theorem gM {H:Hp} {ps:List Addr} {ts:List (List Key)} (h:PK H ps ts):ps.length=ts.length:=Paired.length h
theorem jx {k:List Key} (h:okT k=true):1≤k.length∧k.length≤8:=by
 unfold okT at h
 simp only [Bool.and_eq_true] at h
 exact of_decide_eq_true h.1.1
theorem hU {k:List Key} (h:okT k=true):k.all okP=true:=by
 unfold okT at h
 rw [Bool.and_eq_true] at h
 exact h.2
theorem lX {k:List Key} {x:Key} (h:okT k=true) (hx:x∈k):okP x=true:=List.all_eq_true.mp (hU h) x hx
theorem vE {k : List Key} (h : okT k = true) : ∃ z r, k = .inr z :: r := by
  unfold okT at h
  simp only [Bool.and_eq_true] at h
  cases k with
  | nil => cases h.1.2
  | cons x r =>
    cases x with
    | inl i => cases h.1.2
    | inr z => exact ⟨z, r, rfl⟩
theorem yj {x:Key} (h:okP x=true):eU (dk x)=true:=by
 cases x with
 | inl i=>exact h
 | inr z=>rfl
theorem mB {i:Int} (h0:0≤i) (h1:i<10^60):i.natAbs.log2<1920:=by
 by_cases e:i.natAbs=0
 · rw [e];decide
 · refine (Nat.log2_lt e).mpr ?_
   have:i.natAbs<10^60:=by omega
   exact Nat.lt_of_lt_of_le this (by decide +kernel)
theorem gj {i:Int} (h0:0≤i) (h1:i<10^60):((toString i:String):Str).length≤61:=by
 have:i.natAbs<10^60:=by omega
 have:=int_text_length_le10 (k:=60) (by decide) this
 show (Str.ofString _).length≤_
 rw [PySem.ofString_length];exact this
theorem gN (s:String) (h:s.length=1:=by rfl):(s:Str).length=1:=by
 show (Str.ofString s).length=1
 rw [PySem.ofString_length];exact h
theorem mw {x : Key} (h : okP x = true) : (eP x).length ≤ szK x := by
  cases x with
  | inl i =>
    have h := of_decide_eq_true h
    have := gj h.1 h.2
    show (((toString i : String) : Str) ++ ((";" : String) : Str)).length ≤ 62
    rw [strLen_append, gN ";"]; omega
  | inr z =>
    have h := of_decide_eq_true (Bool.and_eq_true_iff.mp h).2
    have := gj (i := (z.length : Int)) (by omega) (by omega)
    show (((toString (z.length : Int) : String) : Str) ++ ((":" : String) : Str) ++ z).length ≤ z.length + 62
    rw [strLen_append, strLen_append, gN ":"]; omega
theorem AY {x : Key} (h : okP x = true) : szK x ≤ 100062 := by
  cases x with
  | inl i => show 62 ≤ 100062; decide
  | inr z =>
    have h := of_decide_eq_true (Bool.and_eq_true_iff.mp h).2
    show z.length + 62 ≤ 100062; omega
theorem oX:∀ xs:List Key,fW xs=(xs.map eP).foldr (·++·) Str.empty
 | []=>rfl
 | x::r=>by show eP x++fW r=eP x++_;rw [oX r]
theorem mC : ∀ {k : List Key}, k.all okP = true → (fW k).length ≤ szT k
  | [], _ => by show Str.empty.length ≤ 0; decide
  | x :: r, h => by
    rw [List.all_cons, Bool.and_eq_true] at h
    have h1 := mw h.1
    have h2 := mC h.2
    show (eP x ++ fW r).length ≤ ((x :: r).map szK).sum
    rw [strLen_append, List.map_cons, List.sum_cons]
    unfold szT at h2
    omega
theorem jA {x y:Str} (h1:bW x=true) (h2:bW y=true):bW (x++y)=true:=mL h1 h2
theorem oU {z:Str} (h:∀ c∈z.cps.toList,c<128):bW z=true:=by
 unfold bW
 rw [Array.all_eq_true]
 intro i hi
 exact decide_eq_true (h _ (by simp))
theorem pU {z:Str} (h:bW z=true):∀ c∈z.cps.toList,c<128:=by
 intro c hc
 unfold bW at h
 rw [Array.all_eq_true] at h
 obtain ⟨i,hi,e⟩:=List.getElem_of_mem hc
 have:=of_decide_eq_true (h i (by simpa using hi))
 rw [← e]
 simpa using this
theorem zO (n:Nat):bW ((toString (n:Int):String):Str)=true:=by
 refine oU fun c hc=>?_
 rw [W.KIN.signs_num n] at hc
 obtain ⟨ch,hch,e⟩:=List.mem_map.mp hc
 have:=digit_range (Nat.isDigit_of_mem_toDigits (by decide) (by decide) hch)
 rw [← e];omega
theorem qH {i:Int} (h:0≤i):bW ((toString i:String):Str)=true:=by
 obtain ⟨n,rfl⟩:=Int.eq_ofNat_of_zero_le h
 exact zO n
theorem vz {x : Key} (h : okP x = true) : bW (eP x) = true := by
  cases x with
  | inl i =>
    have h := of_decide_eq_true h
    exact jA (qH h.1) (by decide +kernel)
  | inr z =>
    have h := (Bool.and_eq_true_iff.mp h).1
    exact jA (jA (qH (by omega)) (by decide +kernel)) h
theorem mI : ∀ {k : List Key}, k.all okP = true → bW (fW k) = true
  | [], _ => by decide +kernel
  | x :: r, h => by
    rw [List.all_cons, Bool.and_eq_true] at h
    exact jA (vz h.1) (mI h.2)
theorem qM : ∀ {k : List Key}, k.all okP = true → szT k ≤ k.length * 100062
  | [], _ => by decide
  | x :: r, h => by
    rw [List.all_cons, Bool.and_eq_true] at h
    have h1 := AY h.1
    have h2 := qM h.2
    show ((x :: r).map szK).sum ≤ _
    rw [List.map_cons, List.sum_cons, List.length_cons, Nat.succ_mul]
    unfold szT at h2
    omega
theorem pf : ∀ {k : List Key}, k.all okP = true → ((k.map eP).map (·.length)).sum ≤ szT k
  | [], _ => by decide
  | x :: r, h => by
    rw [List.all_cons, Bool.and_eq_true] at h
    have h1 := mw h.1
    have h2 := pf h.2
    show (((x :: r).map eP).map (·.length)).sum ≤ ((x :: r).map szK).sum
    rw [List.map_cons, List.map_cons, List.sum_cons, List.map_cons, List.sum_cons]
    unfold szT at h2
    omega
theorem BH (K:W.Frag) (A:Adr):Ln (kC K A) 1:=by rintro vs H Q E ⟨p,k,rfl,_⟩;rfl
theorem Ga (T:Txt K mg A):Rd (kC K A) (Il K A) ["thing"]:=by
 intro vs H Q E h
 obtain ⟨p,k,rfl,hp,ok,q⟩:=h
 obtain ⟨l1,l8⟩:=jx ok
 obtain ⟨z,r,hk⟩:=vE ok
 have ty:tyN H (.ref p)=some "tuple" :=by unfold tyN;dsimp only;rw [hp]
 refine ⟨by decide, "tuple",ty,Sel.no rfl (.inl (.inr (.inl ⟨_,SqT.of hp,?_⟩)))⟩
 refine Sel.dec (fun h1=>?_) (fun h1=>absurd (by simp;omega) h1)
 refine Sel.ndec (fun h8=>absurd (by simp;omega) h8) (fun h8=>?_)
 refine ixT (j:=0) hp rfl (by rw [hk];rfl) ⟨by decide, "str",rfl,Sel.yes rfl ?_⟩
 refine ⟨p,rfl,.inr ⟨⟨_,SqT.of hp⟩,fun D hD=>?_⟩⟩
 have hne:p≠D:=aD hp hD
 have hml:(k.map kV).length=k.length:=by simp
 refine gn (eA.tuple (xs:=k.map kV) .non) (fun i ys H2=>ys=(k.take i).map (fun x=>V.bl true)∧H2=upd H D (.lst ys)) (fun i ys H2 hi ⟨_,e2⟩=>?_) ⟨rfl,rfl⟩ (fun i ys H2 hi ⟨e1,e2⟩=>?_) (fun ys H2 ⟨e1,e2⟩=>?_)
 · rw [e2];exact SqT.of (by rw [au hne];exact hp)
 · subst e2
   have hi':i<k.length:=by omega
   obtain ⟨x,hx⟩:∃ x,k[i]?=some x:=⟨_,List.getElem?_eq_getElem hi'⟩
   have hg:(k.map kV).getD i .non=kV x:=by rw [List.getD_eq_getElem?_getD,List.getElem?_map,hx];rfl
   rw [hg]
   have hs:=yj (lX ok (List.mem_of_getElem? hx))
   refine sr ⟨_,dk x,rfl,oS _ x,?_⟩
   rw [hs]
   have hyl:ys.length=i:=by rw [e1,List.length_map,List.length_take];omega
   refine ⟨aj,by rw [hyl];exact iV (by omega),CWd.next hi ⟨?_,jD⟩⟩
   rw [e1,List.take_add_one,List.map_append,hx];rfl
 · subst e2
   refine ⟨D,k.map fun _=>true,rfl,by rw [aj,e1,hml,List.take_length,List.map_map];rfl,?_⟩
   have:(k.map fun _=>true).all id=true:=by simp
   rw [this];exact q _ (av.upd hD)
theorem Bc (K:W.Frag) (A:Adr):Ln (nV K A) 1:=by rintro vs H Q E ⟨v,rfl,_⟩;rfl
theorem Ha (T : Txt K mg A) : Rd (nV K A) (JR K A) ["part", "signs"] := by
  intro vs H Q E h
  obtain ⟨v, rfl, hp, q⟩ := h
  cases v with
  | inl i =>
    have h := of_decide_eq_true hp
    have l := gj h.1 h.2
    refine ⟨.int i, .int i, rfl, .int i, Sel.t ?_⟩
    have e1 : Str.empty ++ ((toString i : String) : Str) = ((toString i : String) : Str) := Str.empty_append _
    have l2 : (((toString i : String) : Str) ++ ((";" : String) : Str)).length ≤ sizeLine := by rw [strLen_append, gN ";"]; exact aS (by omega)
    refine ⟨mB h.1 h.2, by rw [e1]; exact aS (by omega), ?_, ?_, ?_⟩ <;> rw [e1]
    · exact l2
    · exact l2
    · exact q
  | inr z =>
    have h := of_decide_eq_true (Bool.and_eq_true_iff.mp hp).2
    have l := gj (i := (z.length : Int)) (by omega) (by omega)
    refine ⟨.str z, .str z, rfl, .str z, Sel.f ?_⟩
    have e1 : Str.empty ++ ((toString (z.length : Int) : String) : Str) = ((toString (z.length : Int) : String) : Str) := Str.empty_append _
    have l2 : (((toString (z.length : Int) : String) : Str) ++ ((":" : String) : Str)).length ≤ sizeLine := by rw [strLen_append, gN ":"]; exact aS (by omega)
    have l3 : (((toString (z.length : Int) : String) : Str) ++ ((":" : String) : Str) ++ z).length ≤ sizeLine := by rw [strLen_append, strLen_append, gN ":"]; exact aS (by omega)
    refine .inl ⟨aS (by omega), mB (by omega) (by omega), by rw [e1]; exact aS (by omega), ?_, aS (by omega), ?_, ?_, ?_⟩ <;> rw [e1]
    · exact l2
    · exact l3
    · exact l3
    · exact q
theorem Be (K:W.Frag) (A:Adr):Ln (kJ K A) 1:=by rintro vs H Q E ⟨p,k,rfl,_⟩;rfl
theorem HB (T:Txt K mg A):Rd (kJ K A) (Ja K A) ["term"]:=by
 intro vs H Q E h
 obtain ⟨p,k,rfl,hp,ok,q⟩:=h
 refine ⟨p,k,rfl,hp,ok,fun H' s=>Sel.no rfl ?_⟩
 have hp':=s _ _ hp
 have hml:(k.map kV).length=k.length:=by simp
 obtain ⟨l1,l8⟩:=jx ok
 refine ⟨rfl,⟨p,rfl,.inr ⟨⟨_,SqT.of hp'⟩,fun D hD=>?_⟩⟩⟩
 have hne:p≠D:=aD hp' hD
 refine gn (eA.tuple (xs:=k.map kV) .non) (fun i ys H2=>ys=(k.take i).map (fun x=>V.str (eP x))∧H2=upd H' D (.lst ys)) (fun i ys H2 hi ⟨_,e2⟩=>?_) ⟨rfl,rfl⟩ (fun i ys H2 hi ⟨e1,e2⟩=>?_) (fun ys H2 ⟨e1,e2⟩=>?_)
 · rw [e2];exact SqT.of (by rw [au hne];exact hp')
 · subst e2
   have hi':i<k.length:=by omega
   obtain ⟨x,hx⟩:∃ x,k[i]?=some x:=⟨_,List.getElem?_eq_getElem hi'⟩
   have hg:(k.map kV).getD i .non=kV x:=by rw [List.getD_eq_getElem?_getD,List.getElem?_map,hx];rfl
   rw [hg]
   refine sr ⟨x,rfl,lX ok (List.mem_of_getElem? hx),?_⟩
   have hyl:ys.length=i:=by rw [e1,List.length_map,List.length_take];omega
   refine ⟨aj,by rw [hyl];exact iV (by omega),CWd.next hi ⟨?_,jD⟩⟩
   rw [e1,List.take_add_one,List.map_append,hx];rfl
 · subst e2
   refine ⟨"",D,k.map eP,rfl,rfl,by rw [aj,e1,hml,List.take_length,List.map_map];rfl,?_,?_⟩
   · have h1:=pf (hU ok)
     have h2:=qM (hU ok)
     have e0:(("" :String):Str).length=0:=by decide
     rw [e0]
     have:k.length*100062≤8*100062:=Nat.mul_le_mul_right _ l8
     omega
   · rw [Ah,←oX]
     exact q _ (s.trans (av.upd hD))
theorem EJ (K:W.Frag) (A:Adr):Ln (sm K A) 1:=by rintro vs H Q E ⟨x,dx,rfl,_⟩;rfl
theorem IZ (T:Txt K mg A):Rd (sm K A) (T_4 K A) ["self"]:=by
 intro vs H Q E h
 obtain ⟨x,dx,rfl,hx,q⟩:=h
 exact .inr fun d hd=>⟨x,A.c_Numbers,dx,[],rfl,by rw [au (aD hx hd)];exact hx,T.cl_Numbers,T.na_Numbers_given,by decide,q d hd⟩
theorem fZ.mono {H H':Hp} {x d:Addr} {kvs:List (List Key×V)} (s:av H H') (n:fZ A H x d kvs):fZ A H' x d kvs:=by
 obtain ⟨⟨dx,h1⟩,h2⟩:=n
 exact ⟨⟨dx,s _ _ h1⟩,s _ _ h2⟩
theorem fZ.hide {H:Hp} {x d:Addr} {kvs:List (List Key×V)} {cs:List Addr} {cvs:List V} (hc:cC H cs cvs) (n:fZ A H x d kvs):fZ A (cN cs H) x d kvs:=by
 obtain ⟨⟨dx,h1⟩,h2⟩:=n
 exact ⟨⟨dx,hc.hide h1 (fun _ z=>nomatch z)⟩,hc.hide h2 (fun _ z=>nomatch z)⟩
theorem Fz (K:W.Frag) (A:Adr):Ln (tu K A) 2:=by rintro vs H Q E ⟨x,d,p,kvs,k,rfl,_⟩;rfl
theorem Jc (T : Txt K mg A) : Rd (tu K A) (T_5 K A) ["self", "term"] := by
  intro vs H Q E h
  obtain ⟨x, d, a, kvs, k, rfl, nu, hl, hp, ok, q⟩ := h
  refine ⟨a, k, rfl, hp, ok, fun H' s => Sel.no rfl ?_⟩
  have ta' := s _ _ hp
  obtain ⟨⟨dx, hx⟩, hd⟩ := nu.mono s
  have q := q H' s
  have g := fN.t hd ta'
  refine ⟨x, A.c_Numbers, dx, _, .ref d, rfl, hx, T.cl_Numbers, T.na_Numbers_given, rfl, .inl ⟨d, cf kvs k, rfl, g, ?_⟩⟩
  unfold iu iG at q
  cases e : cf kvs k with
  | some w =>
    rw [e] at q g
    have q : Q w H' := q
    exact Sel.no rfl ⟨x, A.c_Numbers, dx, _, .ref d, rfl, hx, T.cl_Numbers, T.na_Numbers_given, rfl, .inr ⟨d, w, rfl, g, q⟩⟩
  | none =>
    rw [e] at q g
    have q : Q (.int kvs.length) (upd H' d (.dT (cX kvs k (.int kvs.length)))) := q
    have hx' : upd H' d (.dT (cX kvs k (.int kvs.length))) x = some (.ins A.c_Numbers dx [("given", .ref d)]) := by rw [au (dR hx hd (fun z => nomatch z))]; exact hx
    have ha' : upd H' d (.dT (cX kvs k (.int kvs.length))) a = some (.tup (k.map kV)) := by rw [au (dR ta' hd (fun z => nomatch z))]; exact ta'
    refine Sel.yes rfl ⟨x, A.c_Numbers, dx, _, .ref d, rfl, hx, T.cl_Numbers, T.na_Numbers_given, rfl, .inr ⟨d, kvs, rfl, hd, x, A.c_Numbers, dx, _, .ref d, rfl, hx, T.cl_Numbers, T.na_Numbers_given, rfl, .inr ⟨d, _, rfl, .inr ⟨kvs, k, a, hd, rfl, ta', Nat.lt_of_le_of_lt hl (aS (n := 50001) (by decide)), rfl⟩, ?_⟩⟩⟩
    have g2 := fN.t (kvs := cX kvs k (.int kvs.length)) (k := k) aj ha'
    rw [wb, if_pos rfl] at g2
    exact ⟨x, A.c_Numbers, dx, _, .ref d, rfl, hx', T.cl_Numbers, T.na_Numbers_given, rfl, .inr ⟨d, _, rfl, g2, q⟩⟩
theorem Fe (T:Txt K mg A) (a0:V) (H:Hp) (Q:VK) (E:XK) (h:sy K A [a0] H Q E):BR K A (eh ["term"] [a0] []) H Q:=h
theorem HA (T:Txt K mg A) (a0 b0:V) (H:Hp) (Q:VK) (E:XK) (h:rX K A [a0,b0] H Q E):AJ K A (eh ["term", "numbers"] [a0] [b0]) H Q:=by
 obtain ⟨x,d,p,kvs,k,e,nu,hl,hp,ok,h⟩:=h
 cases e
 obtain ⟨dx,hx⟩:=nu.ob
 exact ⟨x,dx,_,rfl,hx,rfl,x,d,p,kvs,k,rfl,nu,hl,hp,ok,h⟩
theorem Eb {H:Hp} {b p:Addr} {kvs:List (List Key×V)} {kk:List Key} {d:V} (hb:H b=some (.dT kvs)) (hp:H p=some (.tup (kk.map kV))) (hl:kvs.length≤50000):
  AG H b (.ref p) d (iu kvs kk d) (iG H b kvs kk d):=by
 unfold iu iG
 have g:=fN.t hb hp
 cases e:cf kvs kk with
 | some v=>rw [e] at g;exact .inl ⟨g,if_pos rfl⟩
 | none=>rw [e] at g;exact .inr ⟨g,.inr ⟨kvs,kk,p,hb,rfl,hp,Nat.lt_of_le_of_lt hl (aS (n:=50001) (by decide)),if_neg (by decide)⟩,rfl⟩
theorem GR (T:Txt K mg A) (a0 b0 b1:V) (H:Hp) (Q:VK) (E:XK) (h:tG K A [a0,b0,b1] H Q E):Dj K A { nx:=fun _ H'=>Q .non H',rt:=Q } (eh ["_law_term", "_law_known", "_law_first"] [a0] [b0,b1]) H:=by
 obtain ⟨p,b,j,k,kvs,e,hp,hb,hl,q⟩:=h
 cases e
 exact ⟨.inr (.inr (.inl ⟨rfl,.inr ⟨_,hb⟩⟩)),.inr ⟨b,kvs,rfl,hb,IntMulOk.of_left (by decide),b,.ref p,_,_,_,rfl,rfl,Eb hb hp hl,q⟩⟩
theorem ux {z:Str} (h:bW z=true) (l u:Option Int):bW (PySem.Txt.slice z l u)=true:=by
 refine oU fun c hc=>?_
 unfold PySem.Txt.slice at hc
 split at hc
 · exact pU h c hc
 · simp only [List.toList_toArray,List.mem_filterMap] at hc
   obtain ⟨i,_,e⟩:=hc
   exact pU h c (by rw [← Array.getElem?_toList] at e;exact List.mem_of_getElem? e)
theorem HQ (T : Txt K mg A) (a0 b0 : V) (H : Hp) (Q : VK) (E : XK) (h : sW K A [a0, b0] H Q E) : CM K A { nx := fun _ H' => Q .non H', rt := Q } (eh ["_law_term", "_law_total", "_law_part_here", "_law_signs", "_law_many"] [a0] [b0]) H := by
  obtain ⟨p, m, k, e, h1, h2, hp, ok, q⟩ := h
  cases e
  refine ⟨p, rfl, .inr ⟨⟨_, SqT.of hp⟩, ?_⟩⟩
  refine zU (xs := k.map kV) (fun i σ H' => av H H' ∧ ∃ x2 x3, σ = [some (.ref p), some (.int ((k.take i).foldl gD 0)), x2, x3, some (.int m)]) ⟨.refl H, none, none, rfl⟩ ?_ ?_ ?_
  · rintro i σ H' _ ⟨S, _⟩; exact SqT.of (S _ _ hp)
  · rintro i x σ H' hx ⟨S, x2, x3, rfl⟩
    obtain ⟨kk, hk, rfl⟩ := jE hx
    have okk : okP kk = true := lX ok (List.mem_of_getElem? hk)
    have st := rN gD 0 k i kk hk
    cases kk with
    | inl n =>
      refine ⟨by decide, "int", rfl, Sel.no rfl ⟨IntMulOk.of_right (by decide), S, some (.int n), x3, ?_⟩⟩
      rw [st]; rfl
    | inr z =>
      obtain ⟨hz, hl⟩ := Bool.and_eq_true_iff.mp okk
      have hl := of_decide_eq_true hl
      refine ⟨by decide, "str", rfl, Sel.yes rfl ⟨2, rfl, .inr ⟨z, rfl, aS (by omega), ux hz _ _, fun D hD => ?_⟩⟩⟩
      have hl2 := PySem.Txt.slice_le z none (some 2)
      rw [st]
      show rJ _ _ _ _ _ _ _ _
      have est : gD ((k.take i).foldl gD 0) (.inr z) = (k.take i).foldl gD 0 * 7 + z.length + 2 * ((PySem.Txt.slice z none (some 2)).cps.toList.map fun c => ((c : Nat) : Int)).sum := rfl
      rw [est]
      generalize PySem.Txt.slice z none (some 2) = y at hl2 ⊢
      refine gn (eA.str y) (fun j ys H2 => ys = (y.cps.toList.take j).map (fun c => V.int ((c : Nat) : Int)) ∧ H2 = upd H' D (.lst ys)) (fun _ _ _ _ _ => trivial) ⟨rfl, rfl⟩ (fun j ys H2 hj ⟨e1, e2⟩ => ?_) (fun ys H2 ⟨e1, e2⟩ => ?_)
      · subst e2
        have hj' : j < y.cps.toList.length := by rw [Array.length_toList]; exact hj
        refine sr ⟨rfl, ?_⟩
        have hyl : ys.length = j := by rw [e1, List.length_map, List.length_take]; omega
        refine ⟨aj, by rw [hyl]; exact Nat.lt_of_lt_of_le (by omega) (aS (n := 1000000) (by decide)), CWd.next hj ⟨?_, jD⟩⟩
        rw [e1, List.take_add_one, List.map_append, List.getElem?_eq_getElem hj']
        congr 1
        simp [Array.getD_eq_getD_getElem?, show j < y.cps.size from hj]
      · subst e2
        have ee : y.cps.toList.take y.length = y.cps.toList := List.take_of_length_le (by simp [Str.length])
        rw [ee] at e1
        refine ⟨IntMulOk.of_right (by decide), .inl ⟨aS (by omega), D, y.cps.toList.map (fun c => ((c : Nat) : Int)), rfl, SqL.of (by rw [aj, e1, List.map_map]; rfl), IntMulOk.of_left (by decide), S.trans (av.upd hD), some (.str z), some (.ref D), rfl⟩⟩
  · rintro σ H' ⟨S, x2, x3, rfl⟩
    have e : k.take (k.map kV).length = k := List.take_of_length_le (by simp)
    rw [e]
    exact ⟨by omega, q _ S⟩
theorem bE.trans {P:Addr} {H H1 H2:Hp} (a:bE P H H1) (b:bE P H1 H2):bE P H H2:=fun x o e n=>b x o (a x o e n) n
theorem bE.new {P p:Addr} {H:Hp} {o:HO} (h:H p=none):bE P H (upd H p o):=fun b u e _=>by rw [au (aD e h)];exact e
theorem bE.tab {P:Addr} {H:Hp} {o:HO}:bE P H (upd H P o):=fun b u e n=>by rw [au n];exact e
theorem ci {H:Hp} {P q:Addr} {o:HO} (hP:H P=some o) (hq:H q=none):q≠P:=fun e=>by rw [e,hP] at hq;cases hq
theorem ft {H:Hp} {p q:Addr} {o:HO} (h:upd H p o q=none):q≠p∧H q=none:=by
 by_cases e:q=p
 · subst e;rw [aj] at h;cases h
 · rw [au e] at h;exact ⟨e,h⟩
theorem yT {H:Hp} {P c f q:Addr} {o1 o2:HO} {t:cV} {v:V} (hP:H P=some o1) (hc:H c=none) (hf:H f=none) (hne:c≠f) (hq:upd (upd (upd H P o2) c (cO c t.qual)) f (dq f t [q] c) q=none):
  bE P H (upd (upd (upd (upd H P o2) c (cO c t.qual)) f (dq f t [q] c)) q (cy q v))∧dX (upd (upd (upd (upd H P o2) c (cO c t.qual)) f (dq f t [q] c)) q (cy q v)) f t [q] [v]:=by
 have c1:upd H P o2 c=none:=by rw [au (ci hP hc)];exact hc
 have f1:upd (upd H P o2) c (cO c t.qual) f=none:=by rw [au (Ne.symm hne),au (ci hP hf)];exact hf
 have S3:=bE.new (P:=P) (o:=cy q v) hq
 have S2:=(bE.new (P:=P) (o:=dq f t [q] c) f1).trans S3
 have S1:=(bE.new (P:=P) (o:=cO c t.qual) c1).trans S2
 exact ⟨bE.tab.trans S1,⟨⟨c,S3 _ _ aj (ci hP hf),S2 _ _ aj (ci hP hc)⟩,.cons aj .nil⟩⟩
theorem Eo {H:Hp} {P c f q0 q1:Addr} {o1 o2:HO} {t:cV} {v0 v1:V} (hP:H P=some o1) (hc:H c=none) (hf:H f=none) (hne:c≠f) (n01:q0≠q1) (h0:upd (upd (upd H P o2) c (cO c t.qual)) f (dq f t [q1,q0] c) q0=none) (h1:upd (upd (upd H P o2) c (cO c t.qual)) f (dq f t [q1,q0] c) q1=none):
  bE P H (upd (upd (upd (upd (upd H P o2) c (cO c t.qual)) f (dq f t [q1,q0] c)) q0 (cy q0 v0)) q1 (cy q1 v1))∧dX (upd (upd (upd (upd (upd H P o2) c (cO c t.qual)) f (dq f t [q1,q0] c)) q0 (cy q0 v0)) q1 (cy q1 v1)) f t [q1,q0] [v1,v0]:=by
 have c1:upd H P o2 c=none:=by rw [au (ci hP hc)];exact hc
 have f1:upd (upd H P o2) c (cO c t.qual) f=none:=by rw [au (Ne.symm hne),au (ci hP hf)];exact hf
 have h1':upd (upd (upd (upd H P o2) c (cO c t.qual)) f (dq f t [q1,q0] c)) q0 (cy q0 v0) q1=none:=by rw [au (Ne.symm n01)];exact h1
 have S4:=bE.new (P:=P) (o:=cy q1 v1) h1'
 have S3:=(bE.new (P:=P) (o:=cy q0 v0) h0).trans S4
 have S2:=(bE.new (P:=P) (o:=dq f t [q1,q0] c) f1).trans S3
 have S1:=(bE.new (P:=P) (o:=cO c t.qual) c1).trans S2
 exact ⟨bE.tab.trans S1,⟨⟨c,S3 _ _ aj (ci hP hf),S2 _ _ aj (ci hP hc)⟩,.cons aj (.cons (by rw [au n01];exact aj) .nil)⟩⟩
theorem pQ:fL []:=fun p hp=>nomatch hp
theorem Cg (K:W.Frag) (A:Adr):Ln (om K A) 0:=by rintro vs H Q E ⟨rfl,_⟩;rfl
theorem Hf (T:Txt K mg A) (hnd:([]:List Addr).Nodup) (vs:List V) (H:Hp) (Q:VK) (E:XK) (h:om K A vs H Q E):DH K A { nx:=fun σ H'=>(∀ p∈([]:List (Nat×Addr)),H' p.2=none)→Q .non (cL [] σ H'),rt:=fun σ v H'=>(∀ p∈([]:List (Nat×Addr)),H' p.2=none)→Q v (cL [] σ H') } (L2.bL [] vs) H:=by
 obtain ⟨rfl,hP,q⟩:=h
 refine ⟨#[],hP,trivial,.inl ⟨rfl,fun c f hc hf hne _=>?_⟩⟩
 have cP:=ci hP hc
 have fP:=ci hP hf
 have c1:∀ o,upd H A.t_68 o c=none:=fun o=>by rw [au cP];exact hc
 have f1:∀ o,upd (upd H A.t_68 o) c (cO c fE.qual) f=none:=fun o=>by rw [au (Ne.symm hne),au fP];exact hf
 exact q f f _ _ (bE.tab.trans ((bE.new (c1 _)).trans (bE.new (f1 _)))) (.wri ⟨⟨c,aj,(au hne).trans aj⟩,.nil⟩ rfl rfl) hf
theorem Dd (K:W.Frag) (A:Adr):Ln (oi K A) 0:=by rintro vs H Q E ⟨rfl,_⟩;rfl
theorem GO (T:Txt K mg A) (q0:Addr) (hnd:([q0]:List Addr).Nodup) (vs:List V) (H:Hp) (Q:VK) (E:XK) (h:oi K A vs H Q E):Bi K A q0 { nx:=fun σ H'=>(∀ p∈([(0,q0)]:List (Nat×Addr)),H' p.2=none)→Q .non (cL [(0,q0)] σ H'),rt:=fun σ v H'=>(∀ p∈([(0,q0)]:List (Nat×Addr)),H' p.2=none)→Q v (cL [(0,q0)] σ H') } (L2.bL ["numbers"] vs) H:=by
 obtain ⟨rfl,hP,q⟩:=h
 intro x dx hx hdx hne
 refine ⟨x,dx,rfl,aj,fun d hd=>⟨rfl,?_⟩⟩
 obtain ⟨dnx,hd1⟩:=ft hd
 obtain ⟨dndx,hd0⟩:=ft hd1
 have xP:=ci hP hx
 have dxP:=ci hP hdx
 have dP:=ci hP hd0
 generalize e2:upd (upd (upd (upd H dx (.own x)) x (.ins A.c_Numbers dx [])) d (.dT [])) x (.ins A.c_Numbers dx [("given",.ref d)])=H2
 have S2:bE A.t_41 H H2:=by
  intro b o e n
  have b1:=aD e hx
  have b2:=aD e hdx
  have b3:=aD e hd0
  rw [← e2,au b1,au b3,au b1,au b2];exact e
 have hP2:H2 A.t_41=some (.tbl #[]):=by rw [← e2,au (Ne.symm xP),au (Ne.symm dP),au (Ne.symm xP),au (Ne.symm dxP)];exact hP
 have hx2:H2 x=some (.ins A.c_Numbers dx [("given",.ref d)]):=by rw [← e2,aj]
 have hd2:H2 d=some (.dT []):=by rw [← e2,au dnx,aj]
 refine ⟨#[],hP2,trivial,.inl ⟨rfl,fun c f hc hf hne hq=>?_⟩⟩
 obtain ⟨k,ca⟩:=yT (v:=.ref x) hP2 hc hf hne (hq _ (List.mem_singleton.mpr rfl))
 exact q f d _ _ (S2.trans k) (.cnt q0 x [] ca ⟨⟨dx,k _ _ hx2 xP⟩,k _ _ hd2 dP⟩ (Nat.zero_le _) pQ rfl) hd0
theorem BS (K:W.Frag) (A:Adr):Ln (nU K A) 1:=by rintro vs H Q E ⟨m,rfl,_⟩;rfl
theorem Gx (T:Txt K mg A) (q0:Addr) (hnd:([q0]:List Addr).Nodup) (vs:List V) (H:Hp) (Q:VK) (E:XK) (h:nU K A vs H Q E):AU K A q0 { nx:=fun σ H'=>(∀ p∈([(0,q0)]:List (Nat×Addr)),H' p.2=none)→Q .non (cL [(0,q0)] σ H'),rt:=fun σ v H'=>(∀ p∈([(0,q0)]:List (Nat×Addr)),H' p.2=none)→Q v (cL [(0,q0)] σ H') } (L2.bL ["_law_many", "_law_short"] vs) H:=by
 obtain ⟨m,rfl,m1,m2,hP,q⟩:=h
 refine ⟨#[],hP,trivial,.inl ⟨rfl,fun c f hc hf hne hq=>?_⟩⟩
 obtain ⟨k,ca⟩:=yT (v:=.int m) hP hc hf hne (hq _ (List.mem_singleton.mpr rfl))
 exact q f f _ _ k (.wea q0 m m1 m2 ca rfl rfl) hf
theorem AX (K:W.Frag) (A:Adr):Ln (ou K A) 1:=by rintro vs H Q E ⟨j,rfl,_⟩;rfl
theorem HV (T:Txt K mg A) (q0 q1:Addr) (hnd:([q0,q1]:List Addr).Nodup) (vs:List V) (H:Hp) (Q:VK) (E:XK) (h:ou K A vs H Q E):DL K A q0 q1 { nx:=fun σ H'=>(∀ p∈([(0,q0),(1,q1)]:List (Nat×Addr)),H' p.2=none)→Q .non (cL [(0,q0),(1,q1)] σ H'),rt:=fun σ v H'=>(∀ p∈([(0,q0),(1,q1)]:List (Nat×Addr)),H' p.2=none)→Q v (cL [(0,q0),(1,q1)] σ H') } (L2.bL ["_law_first", "_law_known", "_law_number"] vs) H:=by
 obtain ⟨j,rfl,j0,j1,hP,q⟩:=h
 have n01:q0≠q1:=fun e=>by simp [e] at hnd
 refine .inr fun b hb=>?_
 have bP:b≠A.t_32:=ci hP hb
 have hP1:upd H b (.dT []) A.t_32=some (.tbl #[]):=by rw [au (Ne.symm bP)];exact hP
 have S1:bE A.t_32 H (upd H b (.dT [])):=bE.new hb
 refine ⟨#[],hP1,trivial,.inl ⟨rfl,fun c f hc hf hne hq=>?_⟩⟩
 obtain ⟨k,ca⟩:=Eo (v0:=.int j) (v1:=.ref b) hP1 hc hf hne n01 (hq (0,q0) (by simp)) (hq (1,q1) (by simp))
 exact q f b _ _ (S1.trans k) (.sur q0 q1 j j0 j1 [] ca (k _ _ aj bP) (Nat.zero_le _) pQ rfl) hb
theorem Sub.rfl' {g:gOp}:Sub g g:=fun _ _ e=>e
theorem Sub.trans {g g1 g2:gOp} (a:Sub g g1) (b:Sub g1 g2):Sub g g2:=fun k v e=>b k v (a k v e)
theorem Ext.of {g g':gOp} {h:List Key→Key} (s:Sub g g') (e:Ext g' h):Ext g h:=fun k v z=>e k v (s k v z)
theorem qA (kvs:List (List Key×Key)) (k:List Key):cf (cY kvs) k=(dD kvs k).map kV:=by
 unfold cf cY dD
 rw [List.find?_map]
 simp only [Option.map_map]
 congr 1
theorem tR {kvs:List (List Key×Key)} {k:List Key} {v:Key} {x:List Key×Key} (h:dD kvs k=some v):dD (kvs++[x]) k=some v:=by
 unfold dD at h ⊢
 rw [List.find?_append]
 cases e:kvs.find? fun p=>decide (p.1=k) with
 | none=>rw [e] at h;cases h
 | some y=>rw [e] at h;exact h
theorem xV {kvs:List (List Key×Key)} {k:List Key} {d:Key} (h:dD kvs k=none):dD (kvs++[(k,d)]) k=some d:=by
 unfold dD at h ⊢
 rw [List.find?_append]
 cases e:kvs.find? fun p=>decide (p.1=k) with
 | none=>simp
 | some y=>rw [e] at h;cases h
theorem vI {kvs:List (List Key×Key)} {k:List Key} {v:Key} (h:dD kvs k=some v):cf (cY kvs) k=some (kV v):=by rw [qA,h];rfl
theorem wC {kvs : List (List Key × Key)} {k : List Key} {v : Key} (hs : fL kvs) (h : dD kvs k = some v) : gY v := by
  unfold dD at h
  cases e : kvs.find? fun p => decide (p.1 = k) with
  | none => rw [e] at h; cases h
  | some y =>
    rw [e] at h
    cases h
    exact hs y (List.mem_of_find?_eq_some e)
theorem qp {kvs:List (List Key×Key)} {x:List Key×Key} (h:fL kvs) (hx:gY x.2):fL (kvs++[x]):=fun p hp=>by
 rcases List.mem_append.mp hp with z | z
 · exact h p z
 · rw [List.mem_singleton.mp z];exact hx
theorem kL {k : List Key} {v : Key} (hk : 1 ≤ k.length) (h : gY v) : sq k v := by
  cases v with
  | inl i => exact h
  | inr z =>
    refine ⟨h.1, Nat.le_trans h.2 ?_⟩
    cases k with
    | nil => simp at hk
    | cons x r =>
      show 62 ≤ ((x :: r).map szK).sum
      rw [List.map_cons, List.sum_cons]
      have : 62 ≤ szK x := by cases x with
        | inl i => exact Nat.le_refl 62
        | inr z => show 62 ≤ z.length + 62; omega
      omega
theorem oZ {H : Hp} {b : Addr} {cs : List Addr} {cvs : List V} {kvs : List (List Key × Key)} (kk : List Key) (d : Key) (hs : fL kvs) (hd : gY d) (hb : H b = some (.dT (cY kvs))) (hc : cC H cs cvs) (H1 : Hp) (S : av (cN cs H) H1) :
    ∃ (kvs' : List (List Key × Key)) (v : Key) (H' : Hp), iu (cY kvs) kk (kV d) = kV v ∧ cw cs H (iG H1 b (cY kvs) kk (kV d)) = H' ∧ H' b = some (.dT (cY kvs')) ∧ (∀ x o, x ≠ b → H x = some o → H' x = some o) ∧ kvs'.length ≤ kvs.length + 1 ∧ fL kvs' ∧ dD kvs' kk = some v ∧ gY v ∧ ∀ k v, dD kvs k = some v → dD kvs' k = some v := by
  have hbc : b ∉ cs := hc.notin hb fun _ z => nomatch z
  have S2 := av.hide cs S
  cases e : dD kvs kk with
  | some v =>
    have ev := vI e
    refine ⟨kvs, v, cw cs H H1, by unfold iu; rw [ev]; rfl, ?_, S2 _ _ hb, fun _ _ _ h => S2 _ _ h, Nat.le_succ _, hs, e, wC hs e, fun _ _ h => h⟩
    unfold iG; rw [ev]; rfl
  | none =>
    have ev : cf (cY kvs) kk = none := by rw [qA, e]; rfl
    refine ⟨kvs ++ [(kk, d)], d, upd (cw cs H H1) b (.dT (cY (kvs ++ [(kk, d)]))), by unfold iu; rw [ev]; rfl, ?_, aj, fun x o n h => by rw [au n]; exact S2 _ _ h, by simp, qp hs hd, xV e, hd, fun _ _ h => tR h⟩
    unfold iG; rw [ev, if_neg (by decide), uJ hbc, xJ _ ev]
    unfold cY; rw [List.map_append]; rfl
theorem m0 {x:cV×Sp} {l:List (cV×Sp)}:x∈x::l:=List.mem_cons_self
theorem mS {x y:cV×Sp} {l:List (cV×Sp)} (h:x∈l):x∈y::l:=List.mem_cons_of_mem _ h
theorem aE.rfl' {b:Addr} {H:Hp}:aE b H H:=fun _ _ _ e=>e
theorem aE.trans {b:Addr} {H H1 H2:Hp} (a:aE b H H1) (c:aE b H1 H2):aE b H H2:=fun x o n e=>c x o n (a x o n e)
theorem aE.same {b:Addr} {H H':Hp} (S:av H H'):aE b H H':=fun x o _ e=>S x o e
theorem Stp.clo {H:Hp} {f b:Addr} {g:gOp} {n:Nat} (s:Stp A H f b g n):∃ ts∈fM K A,∃ cs cvs,dX H f ts.1 cs cvs:=by
 cases s with
 | wri hc _ _=>exact ⟨_,m0,_,_,hc⟩
 | cnt _ _ _ hc=>exact ⟨_,mS m0,_,_,hc⟩
 | sur _ _ _ _ _ _ hc=>exact ⟨_,mS (mS m0),_,_,hc⟩
 | wea _ _ _ _ hc _ _=>exact ⟨_,mS (mS (mS m0)),_,_,hc⟩
def stO (b z:Addr) (o:HO):Prop:=(∃ φ,o=.ext φ)∨(z=b∧∃ kvs,o=.dT kvs)∨∃ C dx v,o=HO.ins C dx [(("given" :Str),v)]
theorem Stp.keep {H H' : Hp} {f b : Addr} {g : List Key → Option Key} {n m : Nat} (s : Stp A H f b g n) (hn : n ≤ m) (k : ∀ z o, H z = some o → stO b z o → H' z = some o) : Stp A H' f b g m := by
  have kx : ∀ z φ, H z = some (.ext φ) → H' z = some (.ext φ) := fun z φ e => k z _ e (.inl ⟨_, rfl⟩)
  have kd : ∀ xs, H b = some (.dT xs) → H' b = some (.dT xs) := fun φ e => k b _ e (.inr (.inl ⟨rfl, _, rfl⟩))
  cases s with
  | wri hc hb hg => exact .wri (hc.keep kx) hb hg
  | cnt q x kvs hc num hl hs hg =>
    obtain ⟨⟨dx, h1⟩, h2⟩ := num
    exact .cnt q x kvs (hc.keep kx) ⟨⟨dx, k _ _ h1 (.inr (.inr ⟨_, _, _, rfl⟩))⟩, kd _ h2⟩ (Nat.le_trans hl hn) hs hg
  | sur q0 q1 j j0 j1 kvs hc hb hl hs hg => exact .sur q0 q1 j j0 j1 kvs (hc.keep kx) (kd _ hb) (Nat.le_trans hl hn) hs hg
  | wea q m h1 h2 hc hb hg => exact .wea q m h1 h2 (hc.keep kx) hb hg
theorem Stp.put {H:Hp} {f b x:Addr} {g:gOp} {n m:Nat} {C dx:Addr} {fs:List (Str×V)} {o:HO} (s:Stp A H f b g n) (hn:n≤m) (e:H x=some (.ins C dx fs)) (h:∀ v,fs≠[(("given" :Str),v)]):Stp A (upd H x o) f b g m:=s.keep hn fun z u ez hz=>by
 rw [au (dR ez e fun q=>?_)]
 · exact ez
 · subst q
   rcases hz with ⟨_,q⟩ | ⟨_,_,q⟩ | ⟨_,_,v,q⟩
   · cases q
   · cases q
   · injection q with _ _ q;exact h v q
theorem Stp.same {H H':Hp} {f b:Addr} {g:gOp} {n m:Nat} (s:Stp A H f b g n) (hn:n≤m) (S:av H H'):Stp A H' f b g m:=s.keep hn fun z o e _=>S z o e
theorem Stp.nb {H:Hp} {f b z:Addr} {g:gOp} {n:Nat} {o:HO} (s:Stp A H f b g n) (e:H z=some o) (h:∀ kvs,o≠ .dT kvs) (h2:∀ φ,o≠ .ext φ:=by exact fun _ z=>nomatch z):z≠b:=fun q=>by
 subst q
 cases s with
 | wri hc hb hg=>subst hb;obtain ⟨⟨c,h,_⟩,_⟩:=hc;rw [e] at h;exact h2 _ (Option.some.inj h)
 | cnt q x kvs hc num hl hs hg=>have w:=num.di;rw [e] at w;exact h _ (Option.some.inj w)
 | sur q0 q1 j j0 j1 kvs hc hb hl hs hg=>rw [e] at hb;exact h _ (Option.some.inj hb)
 | wea q m h1 h2' hc hb hg=>subst hb;obtain ⟨⟨c,h,_⟩,_⟩:=hc;rw [e] at h;exact h2 _ (Option.some.inj h)
theorem Stp.tup {H H':Hp} {f b:Addr} {g:gOp} {n:Nat} (s:Stp A H f b g n) (k:aE b H H'):∀ x xs,H x=some (.tup xs)→H' x=some (.tup xs):=fun x xs e=>k x _ (s.nb e fun _ z=>nomatch z) e
theorem Stp.lst {H H':Hp} {f b:Addr} {g:gOp} {n:Nat} (s:Stp A H f b g n) (k:aE b H H'):∀ x xs,H x=some (.lst xs)→H' x=some (.lst xs):=fun x xs e=>k x _ (s.nb e fun _ z=>nomatch z) e
theorem gX {H : Hp} {f b p : Addr} {g : List Key → Option Key} {n : Nat} {k : List Key} {R : VK} (s : Stp A H f b g n) (hn : n ≤ 45000) (hp : H p = some (.tup (k.map kV))) (ok : okT k = true)
    (q : ∀ (v : Key) (H' : Hp) (g' : List Key → Option Key), aE b H H' → Stp A H' f b g' (n + 1) → Sub g g' → g' k = some v → sq k v → R (kV v) H') : tD (fM K A) f [.ref p] H R E0 := by
  have s0 := s
  have hk := (jx ok).1
  have ll : ∀ kvs : List (List Key × Key), (cY kvs).length = kvs.length := fun kvs => by simp [cY]
  cases s with
  | wri hc hb hg =>
    refine ⟨_, m0, _, _, hc, rfl, p, k, rfl, hc.cells.hide hp (fun _ z => nomatch z), ok, fun H' S => ?_⟩
    have S := av.hide _ S
    exact q (.inr (fW k)) _ g (aE.same S) (s0.same (Nat.le_succ _) S) Sub.rfl' (by rw [hg]) ⟨mI (hU ok), mC (hU ok)⟩
  | wea c m h1 h2 hc hb hg =>
    refine ⟨_, mS (mS (mS m0)), _, _, hc, rfl, p, m, k, rfl, h1, h2, hc.cells.hide hp (fun _ z => nomatch z), ok, fun H' S => ?_⟩
    have S := av.hide _ S
    have r0 := Int.emod_nonneg (k.foldl gD 0) (b := m) (by omega)
    have r1 := Int.emod_lt_of_pos (k.foldl gD 0) (b := m) (by omega)
    have p60 : (9 : Int) < 10 ^ 60 := by decide +kernel
    exact q (tz m k) _ g (aE.same S) (s0.same (Nat.le_succ _) S) Sub.rfl' (by rw [hg]) (show 0 ≤ _ ∧ _ < _ from ⟨r0, by omega⟩)
  | cnt c x kvs hc num hl hs hg =>
    have p60 : (50000 : Int) < 10 ^ 60 := by decide +kernel
    refine ⟨_, mS m0, _, _, hc, rfl, x, b, p, cY kvs, k, rfl, num.hide hc.cells, by rw [ll]; omega, hc.cells.hide hp (fun _ z => nomatch z), ok, fun H' S => ?_⟩
    obtain ⟨dx, hx⟩ := num.ob
    obtain ⟨kvs', v, H2, ev, eH, hb', keep, hl', hs', gv, sv, sub⟩ := oZ k (.inl ((cY kvs).length : Int)) hs (show 0 ≤ _ ∧ _ < _ from ⟨by omega, by rw [ll]; omega⟩) num.di hc.cells H' S
    rw [show V.int ((cY kvs).length : Int) = kV (.inl ((cY kvs).length : Int)) from rfl, ev, eH]
    refine q v H2 (dD kvs') (fun x o n e => keep x o n e)
      (.cnt c x kvs' (hc.keep fun x φ e => keep x _ (dR e num.di (fun z => nomatch z)) e) ⟨⟨dx, keep _ _ (dR hx num.di (fun z => nomatch z)) hx⟩, hb'⟩ (by omega) hs' rfl) ?_ gv (kL hk sv)
    rw [hg]; exact sub
  | sur q0 q1 j j0 j1 kvs hc hb hl hs hg =>
    have p60 : (200000 : Int) < 10 ^ 60 := by decide +kernel
    obtain ⟨kvs', v, H2, ev, eH, hb', keep, hl', hs', gv, sv, sub⟩ := oZ k (.inl (3 * ((cY kvs).length : Int) + j)) hs (show 0 ≤ _ ∧ _ < _ from ⟨by omega, by rw [ll]; omega⟩) hb hc.cells _ (.refl _)
    refine ⟨_, mS (mS m0), _, _, hc, rfl, p, b, j, k, cY kvs, rfl, hc.cells.hide hp (fun _ z => nomatch z), hc.cells.hide hb (fun _ z => nomatch z), by rw [ll]; omega, ?_⟩
    dsimp only
    rw [show V.int (3 * ((cY kvs).length : Int) + j) = kV (.inl (3 * ((cY kvs).length : Int) + j)) from rfl, ev, eH]
    refine q v H2 (dD kvs') (fun x o n e => keep x o n e)
      (.sur q0 q1 j j0 j1 kvs' (hc.keep fun x φ e => keep x _ (dR e hb (fun z => nomatch z)) e) hb' (by omega) hs' rfl) ?_ gv (kL hk sv)
    rw [hg]; exact sub
mutual
def jn:Dat→Bool
 | .lst _=>false
 | .tup ds=>tupDs ds
 | .non=>true
 | .bl _=>true
 | .int _=>true
 | .str _=>true
 | .dic=>false
def tupDs:List Dat→Bool
 | []=>true
 | d::r=>jn d&&tupDs r
end
mutual
theorem aU.keepT {H H':Hp} {v:V} {d:Dat} (h:aU H v d) (k:∀ b xs,H b=some (.tup xs)→H' b=some (.tup xs)) (t:jn d=true):aU H' v d:=by
 cases h with
 | non=>exact .non
 | bl b=>exact .bl b
 | int i=>exact .int i
 | str z=>exact .str z
 | lst e r=>cases t
 | tup e r=>exact .tup (k _ _ e) (DatWs.keepT r k t)
 | dic e=>cases t
theorem DatWs.keepT {H H' : Hp} {xs : List V} {ds : List Dat} (h : DatWs H xs ds) (k : ∀ b xs, H b = some (.tup xs) → H' b = some (.tup xs)) (t : tupDs ds = true) : DatWs H' xs ds := by
  cases h with
  | nil => exact .nil
  | cons a r =>
    have t : (jn _ && tupDs _) = true := t
    rw [Bool.and_eq_true] at t
    exact .cons (aU.keepT a k t.1) (DatWs.keepT r k t.2)
end
theorem Ab (x:Key):jn (dk x)=true:=by cases x <;> rfl
theorem qZ {x:Key} (h:okP x=true):okD (dk x)=true∧eU (dk x)=true:=by
 cases x with
 | inl i=>exact ⟨rfl,h⟩
 | inr z=>exact ⟨h,rfl⟩
theorem lW {k:List Key} {v:Key} (h:sq k v) (hk:szT k≤100000):okP v=true∧szK v≤szT k+62:=by
 cases v with
 | inl i=>exact ⟨decide_eq_true h,by show 62≤_;omega⟩
 | inr z=>exact ⟨by show (bW z&&decide (z.length≤100000))=true;rw [h.1,decide_eq_true (Nat.le_trans h.2 hk)];rfl,by show z.length+62≤_;have:=h.2;omega⟩
def iB (g:gOp):List Key→Key:=fun k=>(g k).getD (.inl 0)
theorem bV (g:gOp):Ext g (iB g):=fun k v e=>by unfold iB;rw [e];rfl
theorem rn {H:Hp} {ps:List Addr} {ts:List (List Key)} {p:Addr} {t:List Key} (h:PK H ps ts) (e:H p=some (.tup (t.map kV))∧okT t=true):PK H (ps++[p]) (ts++[t]):=by
 induction h with
 | nil=>exact .cons e .nil
 | cons r t ih=>exact .cons r ih
theorem dm {H H':Hp} {ps:List Addr} {ts:List (List Key)} (k:∀ b xs,H b=some (.tup xs)→H' b=some (.tup xs)) (h:PK H ps ts):PK H' ps ts:=L2.Paired.imp' (fun p x e=>⟨k _ _ e.1,e.2⟩) h
theorem qW {H:Hp} {ps:List Addr} {pre:List (List Key)} {cur:List Key} (h:PK H ps (pre++[cur])):∃ qs p,ps=qs++[p]∧H p=some (.tup (cur.map kV))∧okT cur=true:=by
 have hl:=gM h
 obtain ⟨p,hp,h2⟩:=tX h (i:=pre.length) (t:=cur) (by simp)
 have hn:ps≠[]:=by intro z;subst z;simp at hl
 refine ⟨ps.dropLast,p,?_,h2⟩
 have:ps.getLast?=some p:=by
  rw [List.getLast?_eq_getElem?]
  have:ps.length - 1=pre.length:=by simp at hl;omega
  rw [this];exact hp
 obtain ⟨ys,hy⟩:=List.getLast?_eq_some_iff.mp this
 rw [hy];simp
theorem qq {K:W.Frag} {H:Hp} {Q:VK} {L:Addr} {qs:List Addr} {p:Addr} (hL:H L=some (.lst ((qs++[p]).map V.ref))) (q:Q (.ref p) H):aG K (.ref L) (.int (-1)) H Q:=by
 refine .inl (.inl ⟨L,_,-1,.ref p,rfl,rfl,SqL.of hL,?_,q⟩)
 rw [List.map_append]
 exact vL _ _
def dO (o:HO):Prop:=(∃ xs,o=.lst xs)∨(∃ xs,o=.tup xs)∨∃ kvs,o=.dK kvs
mutual
theorem aU.kp {H H':Hp} {v:V} {d:Dat} (h:aU H v d) (k:∀ a o,H a=some o→dO o→H' a=some o):aU H' v d:=by
 cases h with
 | non=>exact .non
 | bl b=>exact .bl b
 | int i=>exact .int i
 | str z=>exact .str z
 | lst e r=>exact .lst (k _ _ e (.inl ⟨_,rfl⟩)) (DatWs.kp r k)
 | tup e r=>exact .tup (k _ _ e (.inr (.inl ⟨_,rfl⟩))) (DatWs.kp r k)
 | dic e=>exact (let ⟨kv,e⟩:=e;.dic ⟨kv,k _ _ e (.inr (.inr ⟨_,rfl⟩))⟩)
theorem DatWs.kp {H H':Hp} {xs:List V} {ds:List Dat} (h:DatWs H xs ds) (k:∀ a o,H a=some o→dO o→H' a=some o):DatWs H' xs ds:=by
 cases h with
 | nil=>exact .nil
 | cons a r=>exact .cons (aU.kp a k) (DatWs.kp r k)
end
theorem Stp.dO {H H':Hp} {f b:Addr} {g:gOp} {n:Nat} (s:Stp A H f b g n) (k:aE b H H'):∀ a o,H a=some o→Rs.dO o→H' a=some o:=fun a o e h=>by
 rcases h with ⟨_,rfl⟩ | ⟨_,rfl⟩ | ⟨_,rfl⟩ <;> exact k a _ (s.nb e fun _ z=>nomatch z) e
theorem aU.kb {H H':Hp} {f b:Addr} {g:gOp} {n:Nat} {v:V} {d:Dat} (h:aU H v d) (s:Stp A H f b g n) (k:aE b H H'):aU H' v d:=h.kp (s.dO k)
theorem ms {K:W.Frag} {H:Hp} {Q:VK} {a b:Key} (q:Q (.bl (!decide (a=b))) H):dh K (kV a) (kV b) H Q:=by
 cases a <;> cases b
 · rename_i i j
   have e:decide ((Sum.inl i:Key)=Sum.inl j)=decide (i=j):=by simp
   rw [e] at q;exact q
 · have e:∀ (i:Int) (j:Str),decide ((Sum.inl i:Key)=Sum.inr j)=false:=by simp
   rw [e] at q;exact q
 · have e:∀ (i:Int) (j:Str),decide ((Sum.inr j:Key)=Sum.inl i)=false:=by simp
   rw [e] at q;exact q
 · rename_i i j
   have e:decide ((Sum.inr i:Key)=Sum.inr j)=decide (i=j):=by simp
   rw [e] at q;exact q
theorem AL (K:W.Frag) (A:Adr):Ln (nq K A) 1:=by rintro vs H Q E ⟨v,d,rfl,_⟩;rfl
theorem ES (T : Txt K mg A) : Rd (nq K A) (JG K A) ["thing"] := by
  intro vs H Q E h
  obtain ⟨v, d, rfl, w, q⟩ := h
  refine ⟨v, d, rfl, w, ?_⟩
  cases w with
  | int i =>
    refine Sel.yes rfl (Sel.dec (fun h1 => ?_) (fun h1 => ?_))
    · have e : jM (.int i) = decide (i ≤ 60) := by
        show decide (1 ≤ i ∧ i ≤ 60) = _
        by_cases h2 : i ≤ 60
        · rw [decide_eq_true h2, decide_eq_true ⟨h1, h2⟩]
        · rw [decide_eq_false h2, decide_eq_false fun z => h2 z.2]
      show Q (.bl (decide (i ≤ 60))) H
      rw [← e]; exact q
    · have e : jM (.int i) = false := decide_eq_false fun z => h1 z.1
      rw [← e]; exact q
  | _ => exact Sel.no rfl q
theorem lU {i:Nat} {σ:L2.St} {H:Hp} {Q:List V→Hp→Prop} {v:V} (h:σ[i]?=some (some v)) (q:Q [v] H):ae (af i) al σ H Q:=by
 show (match σ[i]? with | some (some v)=>al σ H fun xs H2=>Q (v::xs) H2 | _=>False)
 rw [h];exact q
theorem GV (K:W.Frag) (A:Adr):Ln (tI K A) 3:=by rintro vs H Q E ⟨x,dx,C,f,b,p,g,n,k,rfl,_⟩;rfl
theorem JK (T:Txt K mg A):Rd (tI K A) (T_2 K A) ["self", "stamper", "term"]:=by
 intro vs H Q E h
 obtain ⟨x,dx,C,f,b,p,g,n,k,rfl,hx,cl,n1,n2,s,hn,hp,ok,q⟩:=h
 refine ⟨x,C,dx,[],rfl,hx,cl,n1,by decide,?_⟩
 have s1:Stp A (upd H x (.ins C dx (cF "term" (.ref p) []))) f b g n:=s.put (Nat.le_refl _) hx fun v z=>nomatch z
 have px:p≠x:=dR hp hx (fun z=>nomatch z)
 refine ⟨f,rfl,s1.clo,lU (v:=.ref p) rfl ?_⟩
 refine gX s1 hn (by rw [au px];exact hp) ok fun v H2 g2 kb s2 sub gv st=>?_
 have hx1:upd H x (.ins C dx (cF "term" (.ref p) [])) x=some (.ins C dx [(("term" :Str),.ref p)]):=aj
 have hx2:=kb _ _ (s1.nb hx1 fun _ z=>nomatch z) hx1
 refine ⟨x,C,dx,[(("term" :Str),.ref p)],rfl,hx2,cl,n2,by show 1<1000;decide,q v g2 _ (fun z o zb zx e=>?_) aj (s2.put (Nat.le_refl _) hx2 fun v z=>?_) sub gv st⟩
 · rw [au zx];exact kb _ _ zb (by rw [au zx];exact e)
 · injection z with z;injection z with z;exact absurd z (by decide)
theorem FH (K:W.Frag) (A:Adr):Ln (sZ K A) 2:=by rintro vs H Q E ⟨x,dx,f,b,g,n,rfl,_⟩;rfl
theorem GE:okT brT=true:=by decide +kernel
theorem JH (T:Txt K mg A):Rd (sZ K A) (T_0 K A) ["self", "stamper"]:=by
 intro vs H Q E h
 obtain ⟨x,dx,f,b,g,n,rfl,hx,s,hn,q⟩:=h
 refine ⟨by show 1≤sizeLine;decide,fun p hp=>?_⟩
 have S:=av.upd (o:=.tup [.str "bare"]) hp
 refine ⟨x,dx,A.c_Bare,f,b,p,g,n,brT,rfl,S _ _ hx,T.cl_Bare,T.na_Bare_term,T.na_Bare_mark,s.same (Nat.le_refl _) S,hn,aj,GE,fun m g' H' k o s' sub gm st=>?_⟩
 exact q g' H' (fun z u zb zx e=>k z u zb zx (S _ _ e)) s' sub
theorem iP {H:Hp} {x dx:Addr} {o u:HO} (hx:H x=none) (hdx:H dx=none) (ne:dx≠x):av H (upd (upd H dx o) x u):=(av.upd hdx).trans (av.upd (by rw [au (Ne.symm ne)];exact hx))
theorem qN {H H':Hp} {x dx b:Addr} {o u:HO} (hx:H x=none) (hdx:H dx=none) (ne:dx≠x) (k:oy b x (upd (upd H dx o) x u) H'):aE b H H':=fun z o zb e=>k z o zb (aD e hx) (iP hx hdx ne _ _ e)
theorem EC (K:W.Frag) (A:Adr):Ln (sN K A) 3:=by rintro vs H Q E ⟨x,dx,f,b,g,n,B,rfl,_⟩;rfl
theorem Ij (T:Txt K mg A):Rd (sN K A) (T_6 K A) ["self", "stamper", "bits"]:=by
 intro vs H Q E h
 obtain ⟨x,dx,f,b,g,n,B,rfl,hx,s,hn,B1,B60,q⟩:=h
 refine ⟨_,.int (B:Int),rfl,.int _,?_⟩
 rw [show jM (.int (B:Int))=true from decide_eq_true ⟨by omega,by omega⟩]
 refine Sel.no rfl ⟨x,A.c_Table,dx,[],rfl,hx,T.cl_Table,T.na_Table_stamper,by decide,?_⟩
 refine ⟨x,A.c_Table,dx,_,rfl,aj,T.cl_Table,T.na_Table_bits,by show 1<1000;decide,?_⟩
 rw [jD]
 have e2:cF "bits" (.int (B:Int)) (cF "stamper" (.ref f) [])=([("stamper",.ref f),("bits",.int (B:Int))]:List (Str×V)):=rfl
 rw [e2]
 have hx1:upd H x (.ins A.c_Table dx [("stamper",.ref f),("bits",.int (B:Int))]) x=some (.ins A.c_Table dx [("stamper",.ref f),("bits",.int (B:Int))]):=aj
 have s1:Stp A (upd H x (.ins A.c_Table dx [("stamper",.ref f),("bits",.int (B:Int))])) f b g n:=s.put (Nat.le_refl _) hx fun v z=>nomatch z
 intro y dy hy hdy ne
 refine ⟨y,dy,f,b,g,n,rfl,aj,s1.same (Nat.le_refl _) (iP hy hdy ne),hn,fun g1 H1 k2 s2 sub=>⟨rfl,?_⟩⟩
 have kb:=qN hy hdy ne k2
 have hx2:=kb _ _ (s1.nb hx1 fun _ z=>nomatch z) hx1
 refine ⟨x,A.c_Table,dx,_,rfl,hx2,T.cl_Table,T.na_Table_top,by show 2<1000;decide,?_⟩
 have e3:cF "top" (.ref y) ([("stamper",.ref f),("bits",.int (B:Int))]:List (Str×V))=([("stamper",.ref f),("bits",.int (B:Int)),("top",.ref y)]:List (Str×V)):=rfl
 rw [e3]
 refine q g1 _ (fun z o zb zx e=>by rw [au zx];exact kb z o zb (by rw [au zx];exact e)) ⟨dx,y,aj⟩ (s2.put (Nat.le_refl _) hx2 fun v z=>?_) sub
 injection z with z;injection z with z;exact absurd z (by decide)
theorem Ey (K:W.Frag) (A:Adr):Ln (sP K A) 3:=by rintro vs H Q E ⟨a,x,y,rfl,_⟩;rfl
theorem IT (T:Txt K mg A):Rd (sP K A) (T_1 K A) ["self", "due", "came"]:=by
 intro vs H Q E h
 obtain ⟨a,x,y,rfl,ha,q⟩:=h
 refine ⟨a,rfl,T.ef_Broken_due,.inl ⟨ha,fun dx hdx ne=>?_⟩⟩
 refine ⟨a,rfl,T.ef_Broken_came,.inr ⟨dx,_,by rw [au (Ne.symm ne)];exact aj,aj,ne,by show 1<1000;decide,?_⟩⟩
 exact q dx hdx
theorem HZ (K:W.Frag) (A:Adr):Ln (sS K A) 3:=by rintro vs H Q E ⟨a,x,y,rfl,_⟩;rfl
theorem Ir (T:Txt K mg A):Rd (sS K A) (T_3 K A) ["self", "depth", "begin"]:=by
 intro vs H Q E h
 obtain ⟨a,x,y,rfl,ha,q⟩:=h
 refine ⟨a,rfl,T.ef_NoPart_depth,.inl ⟨ha,fun dx hdx ne=>?_⟩⟩
 refine ⟨a,rfl,T.ef_NoPart_begin,.inr ⟨dx,_,by rw [au (Ne.symm ne)];exact aj,aj,ne,by show 1<1000;decide,?_⟩⟩
 exact q dx hdx
theorem jR {d:Int} (h:d≤60):(2:Int)^d.toNat≤2^60:=by
 have:(2:Nat)^d.toNat≤2^60:=Nat.pow_le_pow_right (by decide) (by omega)
 exact_mod_cast this
theorem oY (p:aV):jn (bg p)=true:=by
 induction p with
 | cut m=>show (true&&(jn (dk m)&&true))=true;rw [Ab];rfl
 | bare=>rfl
 | leaf k z=>rfl
 | fork d b l r hl hr=>show (true&&(true&&(true&&(jn (bg l)&&(jn (bg r)&&true)))))=true;rw [hl,hr];rfl
theorem gC {H:Hp} {v:V} {m:Key} (h:aU H v (bg (.cut m))):∃ a,v=.ref a∧H a=some (.tup [.str "cut",kV m]):=sT (e:=[.inr "cut",m]) h
theorem hZ {H:Hp} {v:V} (h:aU H v (bg .bare)):∃ a,v=.ref a∧H a=some (.tup [.str "bare"]):=sT (e:=[.inr "bare"]) h
theorem gU {H:Hp} {v:V} {k:Int} {z:Str} (h:aU H v (bg (.leaf k z))):∃ a,v=.ref a∧H a=some (.tup [.str "leaf",.int k,.str z]):=sT (e:=[.inr "leaf",.inl k,.inr z]) h
theorem gQ {H : Hp} {v : V} {d b : Int} {l r : aV} (h : aU H v (bg (.fork d b l r))) : ∃ a x y, v = .ref a ∧ H a = some (.tup [.str "fork", .int d, .int b, x, y]) ∧ aU H x (bg l) ∧ aU H y (bg r) := by
  cases h with
  | @tup a xs _ ea w =>
    cases w with
    | cons w0 w =>
    cases w with
    | cons w1 w =>
    cases w with
    | cons w2 w =>
    cases w with
    | cons w3 w =>
    cases w with
    | cons w4 w =>
    cases w
    cases w0
    cases w1
    cases w2
    exact ⟨a, _, _, rfl, ea, w3, w4⟩
theorem zP:okD (.str "cut")=true:=by decide +kernel
theorem ki {b lo hi d g : Int} {p : aV} (h : eG b lo hi d g p) (hd : d ≤ b) : okD (bg p) = true := by
  induction p generalizing d g with
  | cut m => show (okD (.str "cut") && (okD (dk m) && true)) = true; rw [zP, (qZ h.2.1).1]; rfl
  | bare => decide +kernel
  | leaf k z =>
    show (okD (.str "leaf") && (true && (okD (.str z) && true))) = true
    rw [pI, Gw h.2.2.2.2.1 (by have := h.2.2.2.1; omega)]; rfl
  | fork e x l r hl hr =>
    show (okD (.str "fork") && (true && (true && (okD (bg l) && (okD (bg r) && true))))) = true
    obtain ⟨_, _, he, _, _, _, h1, h2⟩ := h
    rw [wf, hl h1 (by omega), hr h2 (by omega)]; rfl
theorem iU (p : aV) : (bS (bg p)).depth ≤ cr p + 1 := by
  induction p with
  | cut m =>
    show max 0 (max (bS (dk m)).depth 0) + 1 ≤ 0 + 1
    rw [zI]; decide
  | bare => decide
  | leaf k z => show max 0 (max 0 (max 0 0)) + 1 ≤ 0 + 1; decide
  | fork d b l r hl hr =>
    show max 0 (max 0 (max 0 (max (bS (bg l)).depth (max (bS (bg r)).depth 0)))) + 1 ≤ max (cr l) (cr r) + 1 + 1
    omega
theorem wG {b lo hi d g:Int} {p:aV} (h:eG b lo hi d g p) (hd:d≤b) (ht:cr p≤60):dW (bg p):=.inl ⟨ki h hd,by have:=iU p;omega⟩
theorem jf {e x:Int} (e0:0≤e) (x0:0≤x) (x1:x<2^e.toNat):0≤2*x∧2*x<2^(e+1).toNat∧2*x+1<2^(e+1).toNat:=by
 have:(e+1).toNat=e.toNat+1:=by omega
 rw [this,Int.pow_succ]
 omega
theorem eO.left {H:Hp} {v:V} {b lo hi d g e x:Int} {l r:aV} {y:V} (h:eO H v b lo hi d g (.fork e x l r)) (w:aU H y (bg l)):eO H y b lo hi (e+1) (2*x) l:=by
 obtain ⟨_,h1,he,x0,x1,_,hl,_⟩:=h.ok
 have d0:=h.d0
 obtain ⟨a,b',_⟩:=jf (by omega) x0 x1
 exact ⟨w,hl,by omega,by omega,a,b'⟩
theorem eO.right {H:Hp} {v:V} {b lo hi d g e x:Int} {l r:aV} {y:V} (h:eO H v b lo hi d g (.fork e x l r)) (w:aU H y (bg r)):eO H y b lo hi (e+1) (2*x+1) r:=by
 obtain ⟨_,h1,he,x0,x1,_,_,hr⟩:=h.ok
 have d0:=h.d0
 obtain ⟨a,_,b'⟩:=jf (by omega) x0 x1
 exact ⟨w,hr,by omega,by omega,by omega,b'⟩
theorem Dq (K:W.Frag) (A:Adr):Ln (nY K A) 3:=by rintro vs H Q E ⟨_,_,_,rfl,_⟩;rfl
theorem HG (T:Txt K mg A):Rd (nY K A) (JZ K A) ["bits", "depth", "begin", "rest"]:=by
 intro vs H Q E h
 obtain ⟨b,d,g,rfl,d0,d1,b60,g0,g1,q⟩:=h
 have:=jR (d:=d) (by omega)
 exact ⟨⟨by omega,by omega,by omega⟩,⟨by omega,by omega,by omega⟩,by show 2≤sizeLine;decide,fun p hp=>q p hp⟩
theorem CL (K:W.Frag) (A:Adr):Ln (kH K A) 5:=by rintro vs H Q E ⟨_,_,_,_,_,rfl,_⟩;rfl
theorem Gd (T:Txt K mg A):Rd (kH K A) (Ie K A) ["bits", "low", "high", "depth", "begin", "ends"]:=by
 intro vs H Q E h
 obtain ⟨b,lo,hi,d,g,rfl,d0,d1,b60,g0,g1,q⟩:=h
 refine ⟨b,d,g,rfl,d0,d1,b60,g0,g1,fun p hp=>?_⟩
 refine ixT (j:=0) aj rfl rfl ?_
 have q:=q _ (av.upd (o:=.tup [.int (g*2^(b - d).toNat),.int ((g+1)*2^(b - d).toNat - 1)]) hp)
 unfold cA at q
 refine Sel.mk (fun e=>ixT (j:=1) aj rfl rfl ?_) (fun e=>?_)
 · rw [e,Bool.true_and] at q;exact q
 · rw [e,Bool.false_and] at q;exact q
theorem Co (K:W.Frag) (A:Adr):Ln (nQ K A) 1:=by rintro vs H Q E ⟨_,_,rfl,_⟩;rfl
theorem Fc (T:Txt K mg A):Rd (nQ K A) (Jp K A) ["thing"]:=by
 intro vs H Q E h
 obtain ⟨v,m,rfl,w,hm,q⟩:=h
 have ty:=w.ty
 obtain ⟨a,rfl,ha⟩:=gC w
 refine ⟨by decide,_,ty,Sel.yes rfl (.inl (.inr (.inl ⟨_,SqT.of ha,Sel.yes rfl ?_⟩)))⟩
 refine ixT (j:=0) ha rfl rfl (Sel.yes (decide_eq_true rfl) (ixT (j:=1) ha rfl rfl ⟨kV m,dk m,rfl,oS H m,?_⟩))
 rw [(qZ hm).2];exact q
theorem Al {p:aV} (h:∀ (_:p=.bare),False):ib (bg p)=false:=by
 cases p with
 | bare=>exact (h rfl).elim
 | _=>rfl
theorem ko:decide (("cut" :Str)= "fork")=false∧decide (("bare" :Str)= "fork")=false∧decide (("leaf" :Str)= "fork")=false:=by decide +kernel
theorem fU (h:List Key→Key) {p:aV} (hp:gW p=false):∃ pre,bw h p=pre++[ku h p]:=by
 cases p with
 | cut m=>cases hp
 | bare=>exact ⟨[],rfl⟩
 | leaf k z=>exact ⟨[],rfl⟩
 | fork d b l r=>exact ⟨bw h l++bw h r,rfl⟩
theorem pF (h:List Key→Key) {p:aV} (hp:gW p=false):dc h p=h (ku h p):=by
 cases p with
 | cut m=>cases hp
 | _=>rfl
theorem fB (p:aV):dn p≤2*bd p+1:=by
 induction p with
 | fork d b l r hl hr=>show dn l+dn r+1≤2*(bd l+bd r+1)+1;omega
 | cut m=>show 0≤_;omega
 | _=>exact Nat.le_refl _
theorem eY (h : List Key → Key) (p : aV) : (bw h p).length = dn p := by
  induction p with
  | fork d b l r hl hr =>
    show (bw h l ++ bw h r ++ [_]).length = dn l + dn r + 1
    rw [List.length_append, List.length_append, hl, hr]; rfl
  | _ => rfl
theorem p10 {b:Int} (h:b≤60):(2:Int)^b.toNat<10^60:=Int.lt_of_le_of_lt (jR h) (by decide +kernel)
theorem gB:okT [.inr "bare"]=true∧szT [.inr "bare"]=66:=by decide +kernel
theorem pq {k:Int} {z:Str} (k0:0≤k) (k1:k<10^60) (hz:z.length≤60) (ha:bW z=true):okT [.inr "leaf",.inl k,.inr z]=true∧szT [.inr "leaf",.inl k,.inr z]≤250:=by
 refine ⟨JT qI.2.1 (wN k0 k1) ?_ rfl,?_⟩
 · show (bW z&&decide (z.length≤100000))=true
   rw [ha,decide_eq_true (by omega)];rfl
 · show szK (.inr "leaf")+(62+((z.length+62)+0))≤250
   rw [qr.2.1];omega
theorem mv {d x:Int} {m s:Key} (d0:0≤d) (d1:d<10^60) (x0:0≤x) (x1:x<10^60) (hm:okP m=true) (hs:okP s=true):okT [.inr "fork",.inl d,.inl x,m,s]=true∧szT [.inr "fork",.inl d,.inl x,m,s]=190+szK m+szK s:=by
 refine ⟨Ik qI.1 (wN d0 d1) (wN x0 x1) hm hs rfl,?_⟩
 show szK (.inr "fork")+(62+(62+(szK m+(szK s+0))))=_
 rw [qr.1];omega
def Ak:aV→Bool
 | .fork _ _ _ _=>true
 | _=>false
def Ag:aV→Bool
 | .leaf _ _=>true
 | _=>false
theorem hG:(decide (("cut" :Str)= "cut")=true∧decide (("bare" :Str)= "cut")=false∧decide (("leaf" :Str)= "cut")=false∧decide (("fork" :Str)= "cut")=false)∧
 (decide (("cut" :Str)= "fork")=false∧decide (("bare" :Str)= "fork")=false∧decide (("leaf" :Str)= "fork")=false∧decide (("fork" :Str)= "fork")=true)∧
 (decide (("cut" :Str)= "leaf")=false∧decide (("bare" :Str)= "leaf")=false∧decide (("leaf" :Str)= "leaf")=true∧decide (("fork" :Str)= "leaf")=false):=by decide +kernel
theorem An {H:Hp} {v:V} {p:aV} (h:aU H v (bg p)):∃ (a:Addr) (xs:List V) (w:Str),v=.ref a∧H a=some (.tup xs)∧xs[0]?=some (.str w)∧decide (w= "cut")=gW p∧decide (w= "fork")=Ak p∧decide (w= "leaf")=Ag p:=by
 obtain ⟨⟨c1,c2,c3,c4⟩,⟨f1,f2,f3,f4⟩,l1,l2,l3,l4⟩:=hG
 cases p with
 | cut m=>obtain ⟨a,rfl,ha⟩:=gC h;exact ⟨a,_,_,rfl,ha,rfl,c1,f1,l1⟩
 | bare=>obtain ⟨a,rfl,ha⟩:=hZ h;exact ⟨a,_,_,rfl,ha,rfl,c2,f2,l2⟩
 | leaf k z=>obtain ⟨a,rfl,ha⟩:=gU h;exact ⟨a,_,_,rfl,ha,rfl,c3,f3,l3⟩
 | fork d b l r=>obtain ⟨a,x,y,rfl,ha,_⟩:=gQ h;exact ⟨a,_,_,rfl,ha,rfl,c4,f4,l4⟩
theorem dA.keep {H H':Hp} {v:V} {p:aV} (h:dA H v p) (k:∀ b xs,H b=some (.tup xs)→H' b=some (.tup xs)):dA H' v p:=⟨h.w.keepT k (oY p),h.ok,h.f,h.z⟩
theorem dA.left {H:Hp} {v y:V} {e x:Int} {l r:aV} (h:dA H v (.fork e x l r)) (w:aU H y (bg l)):dA H y l:=by
 obtain ⟨b,lo,hi,d,g,en,d0,d1,_,h1,h2,_,_,_,hl,_⟩:=h.ok
 have:bd l+bd r+1≤60:=h.f
 have:252+szP l+szP r≤90000:=h.z
 exact ⟨w,⟨b,lo,hi,e+1,2*x,en,by omega,by omega,hl⟩,by omega,by omega⟩
theorem dA.right {H:Hp} {v y:V} {e x:Int} {l r:aV} (h:dA H v (.fork e x l r)) (w:aU H y (bg r)):dA H y r:=by
 obtain ⟨b,lo,hi,d,g,en,d0,d1,_,h1,h2,_,_,_,_,hr⟩:=h.ok
 have:bd l+bd r+1≤60:=h.f
 have:252+szP l+szP r≤90000:=h.z
 exact ⟨w,⟨b,lo,hi,e+1,2*x+1,en,by omega,by omega,hr⟩,by omega,by omega⟩
theorem dA.nums {H:Hp} {v:V} {e x:Int} {l r:aV} (h:dA H v (.fork e x l r)):0≤e∧e<10^60∧0≤x∧x<10^60:=by
 obtain ⟨b,lo,hi,d,g,en,d0,d1,_,h1,h2,x0,x1,_⟩:=h.ok
 have:=en.b60
 have:=p10 (b:=e) (by omega)
 have c:(60:Int)<10^60:=by decide +kernel
 exact ⟨by omega,by omega,x0,by omega⟩
theorem AV (K:W.Frag) (A:Adr):Ln (jX K A) 3:=by rintro vs H Q E ⟨_,_,_,_,_,_,_,_,_,rfl,_⟩;rfl
theorem Gz (T : Txt K mg A) : Rd (jX K A) (Iq K A) ["stamper", "part", "terms"] := by
  intro vs H Q E h
  obtain ⟨f, b, L, v, p, ps, ts, g, n, rfl, w, sp, hn, hL, pk, ht, lo, q⟩ := h
  cases hc : gW p with
  | true =>
    cases p with
    | cut m =>
      obtain ⟨a, rfl, ha⟩ := gC w.w
      obtain ⟨_, _, _, _, _, _, _, _, _, hm⟩ := w.ok
      exact ixT (j := 0) ha rfl rfl (Sel.yes hG.1.1 (ixT (j := 1) ha rfl rfl (q m g H aE.rfl' (sp.same (by omega) (.refl H)) Sub.rfl' (fun _ _ => rfl) hm.1 (Nat.le_refl _))))
    | _ => cases hc
  | false =>
    obtain ⟨a, xs, wd, rfl, ha, hx, e1, _, _⟩ := An w.w
    refine ixT (j := 0) ha rfl hx (Sel.no (e1.trans hc) ?_)
    obtain ⟨pre, e⟩ := fU (iB g) hc
    have ets := ht _ (bV g)
    rw [e] at ets
    subst ets
    obtain ⟨qs, pc, rfl, hpc, okc⟩ := qW pk
    have lk := lo (ku (iB g) p) (by simp)
    have sz := w.z
    have hf := w.f
    refine ⟨f, rfl, sp.clo, qq hL (gX sp (by omega) hpc okc fun x H2 g2 kt sp2 sub gv so => ?_)⟩
    obtain ⟨o1, o2⟩ := lW so (by omega)
    refine q x g2 H2 kt sp2 sub (fun h he => ?_) o1 (by omega)
    obtain ⟨pre', e'⟩ := fU h hc
    have e2 := (ht h (he.of sub)).trans e'
    have e3 := (List.append_inj' e2 rfl).2
    have e4 : ku (iB g) p = ku h p := List.cons.inj e3 |>.1
    rw [pF h hc, ← e4]
    exact (he _ _ gv).symm
theorem Ci (K:W.Frag) (A:Adr) (n:Nat):Ln (gh K A n) 2:=by rintro vs H Q E ⟨_,_,_,_,_,_,rfl,_⟩;rfl
theorem yA (K:W.Frag) (A:Adr):∀ vs H Q E,¬ gh K A 0 vs H Q E:=by
 rintro vs H Q E ⟨_,_,_,_,_,_,_,_,h,_⟩
 omega
theorem uE {H:Hp} {ps qs:List Addr} {ts us:List (List Key)} (h:PK H ps ts) (h2:PK H qs us):PK H (ps++qs) (ts++us):=by
 induction h with
 | nil=>exact h2
 | cons r t ih=>exact .cons r ih
theorem HJ (T : Txt K mg A) (n : Nat) : Rd (gh K A (n + 1)) (JP K A n) ["stamper", "part", "left", "right", "marks"] := by
  intro vs H Q E h
  obtain ⟨f, b, v, p, g, m, rfl, w, ht, sp, hm, q⟩ := h
  obtain ⟨⟨c1, c2, c3, c4⟩, ⟨f1, f2, f3, f4⟩, _⟩ := hG
  have hf := w.f
  have one : ∀ (a : Addr) (t : List Key), bd p = 0 → H a = some (.tup (t.map kV)) → okT t = true → (∀ h, bw h p = [t]) → szT t + 62 ≤ szP p → (aB (bJ (ae (af 1) (al)))) { nx := fun _ H' => Q .non H', rt := Q } [some (.ref f), some (.ref a), none, none, none] H := fun a t h0 ha ok ht hs => by
    refine ⟨by show 1 ≤ sizeLine; decide, fun L hL => ?_⟩
    have S := av.upd (o := .lst [V.ref a]) hL
    refine q L [a] [t] g _ (aE.same S) (sp.same (by omega) S) Sub.rfl' aj (.cons ⟨S _ _ ha, ok⟩ .nil) (fun h _ => (ht h).symm) fun t' e => ?_
    have : t = t' := by simpa using e
    rw [← this]; exact hs
  cases p with
  | cut c =>
    obtain ⟨a, rfl, ha⟩ := gC w.w
    refine ixT (j := 0) ha rfl rfl (Sel.yes c1 ⟨by show 0 ≤ sizeLine; decide, fun L hL => ?_⟩)
    have S := av.upd (o := .lst []) hL
    exact q L [] [] g _ (aE.same S) (sp.same (by omega) S) Sub.rfl' aj .nil (fun h _ => rfl) fun t e => by cases e
  | bare =>
    obtain ⟨a, rfl, ha⟩ := hZ w.w
    refine ixT (j := 0) ha rfl rfl (Sel.no c2 (ixT (j := 0) ha rfl rfl (Sel.yes (by rw [f2]; rfl) ?_)))
    exact one a [.inr "bare"] rfl ha gB.1 (fun _ => rfl) (by rw [gB.2]; exact Nat.le_refl _)
  | leaf k z =>
    obtain ⟨a, rfl, ha⟩ := gU w.w
    refine ixT (j := 0) ha rfl rfl (Sel.no c3 (ixT (j := 0) ha rfl rfl (Sel.yes (by rw [f3]; rfl) ?_)))
    obtain ⟨b', lo, hi, d, g', en, d0, d1, _, k0, k1, hz, has, _⟩ := w.ok
    have := p10 en.b60
    obtain ⟨o1, o2⟩ := pq (k := k) (z := z) k0 (by omega) hz has
    exact one a [.inr "leaf", .inl k, .inr z] rfl ha o1 (fun _ => rfl) (by show _ ≤ 312; omega)
  | fork d x l r =>
    obtain ⟨a, vl, vr, rfl, ha, wl, wr⟩ := gQ w.w
    have ht' : max (cr l) (cr r) + 1 < n + 1 := ht
    have hm' : m + 2 * (bd l + bd r + 1) ≤ 42000 := hm
    obtain ⟨d0, d1, x0, x1⟩ := w.nums
    refine ixT (j := 0) ha rfl rfl (Sel.no c4 (ixT (j := 0) ha rfl rfl (Sel.no (by rw [f4]; rfl) ?_)))
    refine ixT (j := 3) ha rfl rfl ⟨f, b, vl, l, g, m, rfl, w.left wl, by omega, sp, by omega, fun L1 ps1 ts1 g1 H1 kt1 sp1 sub1 hL1 pk1 e1 lo1 => ?_⟩
    have ha1 := (sp.tup kt1) _ _ ha
    refine ixT (j := 4) ha1 rfl rfl ⟨f, b, vr, r, g1, m + 2 * bd l, rfl, (w.right wr).keep (sp.tup kt1), by omega, sp1, by omega, fun L2 ps2 ts2 g2 H2 kt2 sp2 sub2 hL2 pk2 e2 lo2 => ?_⟩
    have ha2 := (sp1.tup kt2) _ _ ha1
    have hL1b := sp1.lst kt2 _ _ hL1
    refine ixT (j := 3) ha2 rfl rfl ⟨f, b, L1, vl, l, ps1, ts1, g2, m + 2 * bd l + 2 * bd r, rfl, ((w.left wl).keep (sp.tup kt1)).keep (sp1.tup kt2), sp2, by omega, hL1b, dm (sp1.tup kt2) pk1, fun h he => e1 h (he.of sub2), lo1, fun y1 g3 H3 kt3 sp3 sub3 ey1 oy1 sy1 => ?_⟩
    have ha3 := (sp2.tup kt3) _ _ ha2
    have hL2c := sp2.lst kt3 _ _ hL2
    refine ixT (j := 4) ha3 rfl rfl ⟨f, b, L2, vr, r, ps2, ts2, g3, m + 2 * bd l + 2 * bd r + 1, rfl, (((w.right wr).keep (sp.tup kt1)).keep (sp1.tup kt2)).keep (sp2.tup kt3), sp3, by omega, hL2c, dm (sp2.tup kt3) pk2, fun h he => e2 h (he.of sub3), lo2, fun y2 g4 H4 kt4 sp4 sub4 ey2 oy2 sy2 => ?_⟩
    have ha4 := (sp3.tup kt4) _ _ ha3
    have hL1d := sp3.lst kt4 _ _ (sp2.lst kt3 _ _ hL1b)
    have hL2d := sp3.lst kt4 _ _ hL2c
    refine ⟨by show 2 ≤ sizeLine; decide, fun M hM => ?_⟩
    have S5 := av.upd (o := .tup [kV y1, kV y2]) hM
    have p1 : ps1.length = dn l := by rw [gM pk1, e1 _ (bV g1), eY]
    have p2 : ps2.length = dn r := by rw [gM pk2, e2 _ (bV g2), eY]
    have q1 := fB l
    have q2 := fB r
    have hf' : bd l + bd r + 1 ≤ 60 := hf
    refine .inl ⟨L1, L2, _, _, rfl, rfl, S5 _ _ hL1d, S5 _ _ hL2d, aS (by simp; omega), fun C hC => ?_⟩
    have S6 := S5.trans (av.upd (o := .lst (ps1.map V.ref ++ ps2.map V.ref)) hC)
    have hM6 := av.upd (o := .lst (ps1.map V.ref ++ ps2.map V.ref)) hC M _ (aj (o := .tup [kV y1, kV y2]))
    refine ixT (j := 1) (S6 _ _ ha4) rfl rfl (ixT (j := 2) (S6 _ _ ha4) rfl rfl (ixT (j := 0) hM6 rfl rfl (ixT (j := 1) hM6 rfl rfl ⟨by show 5 ≤ sizeLine; decide, fun t hT => ⟨by show 1 ≤ sizeLine; decide, fun D hD => ?_⟩⟩)))
    have hC7 := (av.upd (o := .tup [V.str "fork", .int d, .int x, kV y1, kV y2]) hT).trans (av.upd (o := .lst [V.ref t]) hD) C _ (aj (o := .lst (ps1.map V.ref ++ ps2.map V.ref)))
    refine .inl ⟨C, D, _, _, rfl, rfl, hC7, aj, aS (by simp; omega), fun L hL => ?_⟩
    have S8 : av H4 _ := ((S6.trans (av.upd (o := .tup [V.str "fork", .int d, .int x, kV y1, kV y2]) hT)).trans (av.upd (o := .lst [V.ref t]) hD)).trans (av.upd (o := .lst (ps1.map V.ref ++ ps2.map V.ref ++ [V.ref t])) hL)
    have ht8 := (av.upd (o := .lst [V.ref t]) hD).trans (av.upd (o := .lst (ps1.map V.ref ++ ps2.map V.ref ++ [V.ref t])) hL) t _ (aj (o := .tup [V.str "fork", .int d, .int x, kV y1, kV y2]))
    have kt8 := (((kt1.trans kt2).trans kt3).trans kt4).trans (aE.same S8)
    obtain ⟨ok, sz⟩ := mv (d := d) (x := x) d0 d1 x0 x1 oy1 oy2
    have kk := (sp2.tup ((kt3.trans kt4).trans (aE.same S8)))
    have ml : ps1.map V.ref ++ ps2.map V.ref ++ [V.ref t] = (ps1 ++ ps2 ++ [t]).map V.ref := by simp
    refine q L (ps1 ++ ps2 ++ [t]) (ts1 ++ ts2 ++ [[.inr "fork", .inl d, .inl x, y1, y2]]) g4 _ kt8 (sp4.same (by show _ ≤ m + 2 * (bd l + bd r + 1); omega) S8) (((sub1.trans sub2).trans sub3).trans sub4) (by rw [aj, ml]) (rn (uE (dm kk (dm (sp1.tup kt2) pk1)) (dm kk pk2)) ⟨ht8, ok⟩) (fun h he => ?_) fun t' e => ?_
    · have h3 := he.of sub4
      have h2 := h3.of sub3
      rw [e1 h (h2.of sub2), e2 h h2, ey1 h h3, ey2 h he]; rfl
    · have : ([Sum.inr "fork", Sum.inl d, Sum.inl x, y1, y2] : List Key) = t' := by simpa using e
      rw [← this, sz]
      show 190 + szK y1 + szK y2 + 62 ≤ 252 + szP l + szP r
      omega
theorem jj {b lo hi : Int} : ∀ {p : aV} {d g : Int}, eG b lo hi d g p → szP p ≤ 1376 * bd p + 1062
  | .cut m, _, _, h => h.2.2
  | .bare, _, _, _ => by show 128 ≤ 1376 * 0 + 1062; decide
  | .leaf k z, _, _, _ => by show 312 ≤ 1376 * 0 + 1062; decide
  | .fork e x l r, _, _, h => by
    show 252 + szP l + szP r ≤ 1376 * (bd l + bd r + 1) + 1062
    have := jj h.2.2.2.2.2.2.1
    have := jj h.2.2.2.2.2.2.2
    omega
theorem cj.s {H:Hp} {v:V} {b lo hi:Int} {p:aV} (w:cj H v b lo hi p):dA H v p:=⟨w.w.w,⟨b,lo,hi,0,0,w.e,by decide,by have:=w.e.b1;omega,w.w.ok⟩,w.f,w.z⟩
theorem cj.mono {H H':Hp} {v:V} {b lo hi:Int} {p:aV} (w:cj H v b lo hi p) (k:∀ b xs,H b=some (.tup xs)→H' b=some (.tup xs)):cj H' v b lo hi p:=⟨w.e,⟨w.w.w.keepT k (oY p),w.w.ok,w.w.d0,w.w.d1,w.w.g0,w.w.g1⟩,w.f,w.t,w.z⟩
theorem mx {b lo hi:Int} (e:dg b lo hi):cA b lo hi 0 0=true:=by
 unfold cA
 have h1:=e.hi1
 have h2:=e.lo0
 have h3:=e.le
 rw [Int.sub_zero,decide_eq_true (by omega),decide_eq_true (by omega)];rfl
theorem cj.nc {H:Hp} {v:V} {b lo hi:Int} {p:aV} (w:cj H v b lo hi p):gW p=false:=by
 have h:=w.w.ok
 have m:=mx w.e
 cases p with
 | cut c=>have:=h.1;rw [m] at this;cases this
 | _=>rfl
theorem mQ {H:Hp} {f b L:Addr} {p:aV} {ps:List Addr} {ts:List (List Key)} {g:gOp} {n:Nat} {R:VK} (sp:Stp A H f b g n) (hn:n≤45000) (hc:gW p=false) (hL:H L=some (.lst (ps.map V.ref))) (pk:PK H ps ts) (ht:∀ h,Ext g h→ts=bw h p)
  (q:∀ (x:Key) (g':gOp) (H':Hp),aE b H H'→Stp A H' f b g' (n+1)→Sub g g'→(∀ h,Ext g' h→x=dc h p)→R (kV x) H'):aG K (.ref L) (.int (-1)) H (fun y H1=>tD (fM K A) f [y] H1 R E0):=by
 obtain ⟨pre,e⟩:=fU (iB g) hc
 have ets:=ht _ (bV g)
 rw [e] at ets
 subst ets
 obtain ⟨qs,pc,rfl,hpc,okc⟩:=qW pk
 refine qq hL (gX sp hn hpc okc fun x H2 g2 kt sp2 sub gv so=>?_)
 refine q x g2 H2 kt sp2 sub (fun h he=>?_)
 obtain ⟨pre',e'⟩:=fU h hc
 have e2:=(ht h (he.of sub)).trans e'
 have e3:=(List.append_inj' e2 rfl).2
 have e4:ku (iB g) p=ku h p:=List.cons.inj e3 |>.1
 rw [pF h hc,←e4]
 exact (he _ _ gv).symm
def eN:List Key→Option (Int×Str)
 | [.inr w,.inl k,.inr z]=>if w= "leaf" then some (k,z) else none
 | _=>none
theorem pJ (k:Int) (z:Str):eN [.inr "leaf",.inl k,.inr z]=some (k,z):=by
 show (if ("leaf" :Str)= "leaf" then some (k,z) else none)=some (k,z)
 rw [if_pos rfl]
theorem sG (h : List Key → Key) (p : aV) : (bw h p).filterMap eN = bH p := by
  induction p with
  | cut m => rfl
  | bare => rfl
  | leaf k z => show [_].filterMap eN = _; rw [List.filterMap_cons, pJ]; rfl
  | fork d b l r hl hr =>
    show (bw h l ++ bw h r ++ [_]).filterMap eN = bH l ++ bH r
    rw [List.filterMap_append, List.filterMap_append, hl, hr]
    show bH l ++ bH r ++ [] = _
    rw [List.append_nil]
theorem rH {h : List Key → Key} {p : aV} {t : List Key} (ht : t ∈ bw h p) : t = [.inr "bare"] ∨ (∃ k z, t = [.inr "leaf", .inl k, .inr z]) ∨ ∃ d b x y, t = [.inr "fork", .inl d, .inl b, x, y] := by
  induction p with
  | cut m => cases ht
  | bare => exact .inl (List.mem_singleton.mp ht)
  | leaf k z => exact .inr (.inl ⟨k, z, List.mem_singleton.mp ht⟩)
  | fork d b l r hl hr =>
    have ht : t ∈ bw h l ++ bw h r ++ [_] := ht
    rcases List.mem_append.mp ht with ht | ht
    · rcases List.mem_append.mp ht with ht | ht
      · exact hl ht
      · exact hr ht
    · exact .inr (.inr ⟨_, _, _, _, List.mem_singleton.mp ht⟩)
theorem qu {H:Hp} {ps:List Addr} {ts:List (Int×Str)} {p:Addr} {t:Int×Str} (h:PR H ps ts) (e:H p=some (.tup ((oH t).map kV))):PR H (ps++[p]) (ts++[t]):=by
 induction h with
 | nil=>exact .cons e .nil
 | cons r t ih=>exact .cons r ih
theorem DT {H:Hp} {ps qs:List Addr} {ts us:List (Int×Str)} (h:PR H ps ts) (h2:PR H qs us):PR H (ps++qs) (ts++us):=by
 induction h with
 | nil=>exact h2
 | cons r t ih=>exact .cons r ih
theorem gL {H H':Hp} {ps:List Addr} {ts:List (Int×Str)} (k:∀ b xs,H b=some (.tup xs)→H' b=some (.tup xs)) (h:PR H ps ts):PR H' ps ts:=L2.Paired.imp' (fun p x e=>k _ _ e) h
theorem oK {H:Hp} {ps:List Addr} {ts:List (Int×Str)} (h:PR H ps ts):ps.length=ts.length:=Paired.length h
theorem BD {H : Hp} {ps : List Addr} {ts : List (Int × Str)} (h : PR H ps ts) : ∀ {i : Nat} {t : Int × Str}, ts[i]? = some t → ∃ p, ps[i]? = some p ∧ H p = some (.tup ((oH t).map kV)) := by
  induction h with
  | nil => intro i t e; cases e
  | cons a _ ih =>
    intro i t e
    cases i with
    | zero => cases e; exact ⟨_, rfl, a⟩
    | succ i => exact ih e
theorem pG {ps:List Addr} {i:Nat} {p:Addr} (h:ps[i]?=some p):(ps.map V.ref).getD i .non=.ref p:=by
 rw [List.getD_eq_getElem?_getD,List.getElem?_map,h];rfl
theorem jp {α:Type} {l:List α} {i:Nat} {x:α} (h:l[i]?=some x):l.take (i+1)=l.take i++[x]:=by rw [List.take_add_one,h];rfl
theorem Dx (K:W.Frag) (A:Adr):Ln (nW K A) 3:=by rintro vs H Q E ⟨_,_,_,_,_,_,rfl,_⟩;rfl
theorem FI (T:Txt K mg A):Rd (nW K A) (JF K A) ["low", "high", "terms"]:=by
 intro vs H Q E h
 obtain ⟨L,lo,hi,ps,hh,p,rfl,hL,pk,hl,q⟩:=h
 obtain ⟨_,_,l1,l2,l3,l4⟩:=hG
 have pl:=gM pk
 refine ⟨L,rfl,.inl ⟨⟨_,SqL.of hL⟩,fun D hD=>?_⟩⟩
 have hLD:L≠D:=aD hL hD
 refine gn (eA.list (xs:=ps.map V.ref) .non) (fun i ys H2=>∃ rs:List Addr,ys=rs.map V.ref∧H2 D=some (.lst ys)∧av H H2∧rs.length≤i∧PR H2 rs ((((bw hh p).take i).filterMap eN).filter (inI lo hi)))
   (fun i ys H2 _ ⟨_,_,_,s2,_⟩=>SqL.of (s2 _ _ hL)) ⟨[],rfl,aj,av.upd hD,Nat.le_refl _,.nil⟩ ?_ ?_
 · rintro i ys H2 hi' ⟨rs,rfl,hd,s2,hrl,pr⟩
   rw [List.length_map] at hi'
   obtain ⟨t,ht⟩:∃ t,(bw hh p)[i]?=some t:=⟨_,List.getElem?_eq_getElem (by omega)⟩
   obtain ⟨a,ha,hat,_⟩:=tX pk ht
   have e0:=pG ha
   have hi2:i<(ps.map V.ref).length:=by rw [List.length_map];exact hi'
   have ha2:=s2 _ _ hat
   show (tOp (aG K) (af 0) (tC (.int 0))) [some ((ps.map V.ref).getD i .non),some (.int lo),some (.int hi)] H2 _
   have skip:eN t=none→CWd (ps.map V.ref).length (fun i ys H2=>∃ rs:List Addr,ys=rs.map V.ref∧H2 D=some (.lst ys)∧av H H2∧rs.length≤i∧PR H2 rs ((((bw hh p).take i).filterMap eN).filter (inI lo hi))) (i+1) ((ps.map V.ref).length - (i+1)) (rs.map V.ref) H2:=fun hr=>by
     refine ⟨hi2,rfl,rs,rfl,hd,s2,by omega,?_⟩
     rw [jp ht,List.filterMap_append]
     have:[t].filterMap eN=[]:=by rw [List.filterMap_cons,hr];rfl
     rw [this,List.append_nil];exact pr
   have go:∀ B,(aG K (.ref a) (.int 0) H2 B)→(tOp (aG K) (af 0) (tC (.int 0))) [some ((ps.map V.ref).getD i .non),some (.int lo),some (.int hi)] H2 B:=fun B hB=>by
     show aG K ((ps.map V.ref).getD i .non) (.int 0) H2 B
     rw [e0];exact hB
   refine go _ ?_
   rcases rH (List.mem_of_getElem? ht) with rfl | ⟨k,z,rfl⟩ | ⟨d,b,x,y,rfl⟩
   · exact ixT (j:=0) ha2 rfl rfl (Sel.no l2 (rK ⟨_,by omega,skip rfl⟩))
   · refine ixT (j:=0) ha2 rfl rfl (Sel.yes l3 ?_)
     show aG K ((ps.map V.ref).getD i .non) (.int 1) H2 _
     rw [e0]
     refine ixT (j:=1) ha2 rfl rfl ?_
     have step:∀ b:Bool,inI lo hi (k,z)=b→((((bw hh p).take (i+1)).filterMap eN).filter (inI lo hi))=((((bw hh p).take i).filterMap eN).filter (inI lo hi))++(if b=true then [(k,z)] else []):=fun b hb=>by
       rw [jp ht,List.filterMap_append]
       have:[([Sum.inr "leaf",Sum.inl k,Sum.inr z]:List Key)].filterMap eN=[(k,z)]:=by rw [List.filterMap_cons,pJ];rfl
       rw [this,List.filter_append]
       cases b with
       | true=>rw [List.filter_cons_of_pos hb];rfl
       | false=>rw [List.filter_cons_of_neg (by rw [hb];decide)];rfl
     have out:inI lo hi (k,z)=false→∃ m',m'<(ps.map V.ref).length - i∧CWd (ps.map V.ref).length (fun i ys H2=>∃ rs:List Addr,ys=rs.map V.ref∧H2 D=some (.lst ys)∧av H H2∧rs.length≤i∧PR H2 rs ((((bw hh p).take i).filterMap eN).filter (inI lo hi))) (i+1) m' (rs.map V.ref) H2:=fun hb=>by
       refine CWd.next hi2 ⟨rs,rfl,hd,s2,by omega,?_⟩
       rw [step false hb]
       show PR H2 rs (_++[])
       rw [List.append_nil];exact pr
     refine Sel.dec (fun h1=>?_) (fun h1=>rK (out (by unfold inI;rw [decide_eq_false h1];rfl)))
     show (if decide (k≤hi)=true then _ else _)
     by_cases h2:k≤hi
     · rw [if_pos (decide_eq_true h2)]
       refine ixT (j:=1) ha2 rfl rfl ?_
       refine ixT (j:=2) ha2 rfl rfl ⟨by show 2≤sizeLine;decide,fun t hT=>?_⟩
       have s3:=av.upd (o:=.tup [V.int k,V.str z]) hT
       have ne:D≠t:=aD hd hT
       have ne2:t≠D:=fun z=>ne z.symm
       refine ⟨s3 _ _ hd,by rw [List.length_map];exact Nat.lt_of_le_of_lt (m:=1000) (by omega) (by decide),CWd.next hi2 ⟨rs++[t],by rw [List.map_append];rfl,aj,(s2.trans s3).put hD,by rw [List.length_append];show _+1≤_;omega,?_⟩⟩
       rw [step true (by unfold inI;rw [decide_eq_true h1,decide_eq_true h2];rfl)]
       refine qu (gL (fun c xs e=>?_) pr) ?_
       · have hc:c≠D:=fun z=>by rw [z,hd] at e;cases e
         rw [au hc];exact s3 _ _ e
       · rw [au ne2];exact aj
     · rw [if_neg (by rw [decide_eq_false h2];decide)]
       exact out (by unfold inI;rw [decide_eq_false h2,Bool.and_false])
   · exact ixT (j:=0) ha2 rfl rfl (Sel.no l4 (rK ⟨_,by omega,skip rfl⟩))
 · rintro ys H2 ⟨rs,rfl,hd,s2,hrl,pr⟩
   rw [List.length_map,pl,List.take_length,sG] at pr
   exact q D rs H2 s2 hD hd pr
theorem vn {H : Hp} {ps : List Addr} {ts : List (List Key)} (h : PT H ps ts) : ∀ {i : Nat} {t : List Key}, ts[i]? = some t → ∃ p, ps[i]? = some p ∧ H p = some (.tup (t.map kV)) ∧ t.length ≤ 8 := by
  induction h with
  | nil => intro i t e; cases e
  | cons a _ ih =>
    intro i t e
    cases i with
    | zero => cases e; exact ⟨_, rfl, a⟩
    | succ i => exact ih e
theorem uD {H:Hp} {ps:List Addr} {ts:List (List Key)} (h:PT H ps ts):ps.length=ts.length:=Paired.length h
theorem DI (K:W.Frag) (A:Adr):Ln (jK K A) 2:=by rintro vs H Q E ⟨_,_,_,_,_,rfl,_⟩;rfl
theorem HW (T:Txt K mg A):Rd (jK K A) (IV K A) ["_law_found", "_law_due", "_law_k"]:=by
 intro vs H Q E h
 obtain ⟨L,M,ps,rs,ts,rfl,hL,hM,w1,w2,hl,q⟩:=h
 have l1:=uD w1
 have l2:=uD w2
 have ty:tyN H (.ref L)=some "list" :=by unfold tyN;dsimp only;rw [hL]
 refine ⟨by decide, "list",ty,Sel.no rfl (.inl (.inl ⟨_,SqL.of hL,.inl (.inl ⟨_,SqL.of hM,?_⟩)⟩))⟩
 refine Sel.no (by simp;omega) (.inl (.inl ⟨_,SqL.of hM,_,rfl,by omega,by simp;omega,?_⟩))
 have hn:(((rs.map V.ref).length:Nat):Int).toNat=ts.length:=by simp;omega
 rw [hn]
 refine gG (fun i σ H'=>H'=H∧∃ x2,σ=[some (.ref L),some (.ref M),x2]) ⟨rfl,none,rfl⟩ ?_ ?_
 · rintro i σ _ hi ⟨rfl,x2,rfl⟩
   obtain ⟨t,ht⟩:∃ t,ts[i]?=some t:=⟨_,List.getElem?_eq_getElem hi⟩
   obtain ⟨p,hp,hp2,ok⟩:=vn w1 ht
   obtain ⟨r,hr,hr2,_⟩:=vn w2 ht
   have e1:(ps.map V.ref)[i]?=some (.ref p):=by rw [List.getElem?_map,hp];rfl
   have e2:(rs.map V.ref)[i]?=some (.ref r):=by rw [List.getElem?_map,hr];rfl
   refine ixL (j:=i) hL (by omega) e1 (ixL (j:=i) hM (by omega) e2 ⟨p,r,t,rfl,hp2,hr2,ok,Sel.no rfl ⟨rfl,_,rfl⟩⟩)
 · rintro σ _ ⟨rfl,x2,rfl⟩
   exact q
theorem zr {H:Hp} {ps:List Addr} {ts:List (List Key)} (h:PK H ps ts):PT H ps ts:=L2.Paired.imp' (fun p k e=>⟨e.1,(jx e.2).2⟩) h
theorem kX {H:Hp} {ps:List Addr} {ts:List (Int×Str)} (h:PR H ps ts):PT H ps (ts.map oH):=by
 induction h with
 | nil=>exact .nil
 | cons r t ih=>exact .cons ⟨r,by show 2≤8;decide⟩ ih
theorem Cc (K:W.Frag) (A:Adr):Ln (oo K A) 3:=by rintro vs H Q E ⟨_,_,_,rfl,_⟩;rfl
theorem Gj (T:Txt K mg A):Rd (oo K A) (Ih K A) ["_law_cell", "_law_depth", "_law_begin_here"]:=by
 intro vs H Q E h
 obtain ⟨c,d,g,rfl,q⟩:=h
 exact ⟨fO (by decide) (by decide),fO (by decide) (by decide),fO (by decide) (by decide),by decide,fO (by decide) (by decide),by decide,q _ (by omega) (by omega)⟩
theorem AQ (K:W.Frag) (A:Adr):Ln (nR K A) 5:=by rintro vs H Q E ⟨_,_,_,_,_,rfl,_⟩;rfl
theorem Hz (T:Txt K mg A):Rd (nR K A) (JC K A) ["_law_bits_here", "_law_low", "_law_high", "_law_depth", "_law_begin_here", "_law_wide"]:=by
 intro vs H Q E h
 obtain ⟨b,lo,hi,d,g,rfl,e,d0,d1,g0,g1,q⟩:=h
 have b60:=e.b60
 have:=jR (d:=d) (by omega)
 refine ⟨⟨by omega,by omega,by decide⟩,il g0 (by omega),?_⟩
 show Sel (decide (g*(1*2^(b - d).toNat)≤hi)) _ _
 rw [Int.one_mul]
 unfold cA at q
 refine Sel.mk (fun h1=>⟨il (by omega) (by omega),?_⟩) (fun h1=>?_)
 · rw [h1,Bool.true_and] at q
   show Q (.bl (decide (lo<(g+1)*2^(b - d).toNat))) H
   have e:decide (lo≤(g+1)*2^(b - d).toNat - 1)=decide (lo<(g+1)*2^(b - d).toNat):=decide_eq_decide.mpr (by omega)
   rw [← e];exact q
 · rw [h1,Bool.false_and] at q
   exact q
theorem AH {x g m f b:Int} (g0:0≤g) (m0:0≤m) (hf:f≤b) (g1:g<2^(b - f).toNat) (h:x/2^m.toNat=g):0≤x∧x<2^(b - f+m).toNat:=by
 have W:=eV m.toNat
 have e:(b - f+m).toNat=(b - f).toNat+m.toNat:=by omega
 rw [e,Int.pow_add]
 refine ⟨?_,?_⟩
 · refine Int.not_lt.mp fun hx=>?_
   have:x/2^m.toNat<0:=Int.ediv_neg_of_neg_of_pos hx W
   omega
 · have h1:x<(x/2^m.toNat+1)*2^m.toNat:=Int.lt_ediv_add_one_mul_self x W
   rw [h] at h1
   have h2:(g+1)*2^m.toNat≤2^(b - f).toNat*2^m.toNat:=Int.mul_le_mul_of_nonneg_right (by omega) (Int.le_of_lt W)
   omega
theorem gq {g r W:Int} (hW:0<W) (r0:0≤r) (r1:r<W):(g*W+r)/W=g:=by
 rw [Int.add_comm,Int.add_mul_ediv_right _ _ (by omega),Int.ediv_eq_zero_of_lt r0 r1,Int.zero_add]
theorem EI (K:W.Frag) (A:Adr):Ln (sI K A) 6:=by rintro vs H Q E ⟨_,_,_,_,_,_,_,rfl,_⟩;rfl
theorem IF (T:Txt K mg A):Rd (sI K A) (T_9 K A) ["_law_number_here", "_law_begin_here", "_law_more", "_law_low", "_law_high", "_law_free", "_law_own"]:=by
 intro vs H Q E h
 obtain ⟨b,n,g,m,lo,hi,f,rfl,e,n0,n1,g0,m0,mf,fb,g1,q⟩:=h
 have b60:=e.b60
 have hle:=e.le
 have gg:g<2^60:=Int.lt_of_lt_of_le g1 (jR (by omega))
 have W:=eV m.toNat
 have fin:∀ x:Int,x/2^m.toNat=g→Q (.int x) H:=fun x hx=>let ⟨a,c⟩:=AH g0 m0 fb g1 hx;q x a c hx
 refine ⟨by decide,Sel.dec (fun _=>?_) (fun _=>?_)⟩
 · refine ⟨⟨m0,by omega,by omega⟩,fO (by decide) (by decide),⟨m0,by omega,by decide⟩,by show (0:Int)<1*2^m.toNat;rw [Int.one_mul];exact W,fin _ ?_⟩
   rw [Int.one_mul]
   exact gq W (Int.emod_nonneg _ (by omega)) (Int.emod_lt_of_pos _ W)
 · refine ⟨by show (0:Int)<hi - lo+1;omega,by show (0:Int)≤f - m;omega,m0,?_⟩
   refine Sel.ndec (fun h1=>⟨⟨m0,by omega,by omega⟩,fin _ ?_⟩) (fun h1=>fin _ h1)
   have:=gq (g:=g) (r:=0) W (by decide) W
   rw [Int.add_zero] at this;exact this
theorem DC (K:W.Frag) (A:Adr):Ln (ny K A) 3:=by rintro vs H Q E ⟨_,_,_,rfl,_⟩;rfl
theorem FL (T:Txt K mg A):Rd (ny K A) (IY K A) ["_law_bits_here", "_law_one", "_law_other", "_law_low", "_law_high"]:=by
 intro vs H Q E h
 obtain ⟨b,c,e,rfl,b1,b60,q⟩:=h
 have W:=eV b.toNat
 have W2:=jR b60
 have last:∀ (lo hi:Int) (H2:Hp),av H H2→0≤lo→lo<2^b.toNat→0≤hi→hi<2^b.toNat→uh K A { nx:=fun _ H'=>Q .non H',rt:=Q } [some (.int b),some (.int c),some (.int e),some (.int lo),some (.int hi)] H2:=fun lo hi H2 s2 l0 l1 h0 h1=>by
   refine ⟨by decide,Sel.dec (fun _=>?_) (fun _=>?_)⟩
   · refine ⟨⟨by omega,by omega,by decide⟩,by show 2≤sizeLine;decide,fun t hT=>q t 0 (1*2^b.toNat - 1) _ (s2.trans (av.upd hT)) aj ⟨b1,b60,by decide,by rw [Int.one_mul];omega,by rw [Int.one_mul];omega⟩⟩
   · refine ⟨by show 2≤sizeLine;decide,fun t hT=>q t (if hi<lo then hi else lo) (if hi>lo then hi else lo) _ (s2.trans (av.upd hT)) aj ⟨b1,b60,?_,?_,?_⟩⟩
     · split <;> omega
     · split <;> split <;> omega
     · split <;> omega
 have mid:∀ (lo hi:Int) (H2:Hp),av H H2→0≤lo→lo<2^b.toNat→0≤hi→hi<2^b.toNat→uG K A { nx:=fun _ H'=>Q .non H',rt:=Q } [some (.int b),some (.int c),some (.int e),some (.int lo),some (.int hi)] H2:=fun lo hi H2 s2 l0 l1 h0 h1=>
   ⟨by decide,Sel.dec (fun _=>last lo lo H2 s2 l0 l1 l0 l1) (fun _=>last lo hi H2 s2 l0 l1 h0 h1)⟩
 refine ⟨by show 0≤sizeLine;decide,fun p hp=>⟨b,c,p,[],rfl,b1,b60,aj,by decide,(fun k hk=>by cases hk),fun lo H1 s1 l0 l1=>?_⟩⟩
 refine ⟨by show 1≤sizeLine;decide,fun p2 hp2=>⟨b,e,p2,[lo],rfl,b1,b60,aj,Nat.le_refl 1,(fun k hk=>by rw [List.mem_singleton.mp hk];exact ⟨l0,l1⟩),fun hi H2 s2 h0 h1=>?_⟩⟩
 have S:=((av.upd hp).trans s1).trans ((av.upd hp2).trans s2)
 refine ⟨by decide,Sel.dec (fun _=>?_) (fun _=>mid lo hi H2 S l0 l1 h0 h1)⟩
 refine ⟨⟨by decide,by decide⟩,by decide,⟨by omega,by omega,by decide⟩,?_⟩
 refine mid lo (if 1*2^b.toNat - 1<lo+e/7%40 then 1*2^b.toNat - 1 else lo+e/7%40) H2 S l0 l1 ?_ ?_
 · rw [Int.one_mul];split <;> omega
 · rw [Int.one_mul];split <;> omega
theorem qS {b lo hi d g:Int} {p:aV} (h:eG b lo hi d g p) (hm:cA b lo hi d g=false):bd p=0:=by
 cases p with
 | fork e x l r=>have:=h.1;rw [hm] at this;cases this
 | _=>rfl
theorem xT {b lo e x:Int} (h1:cA b lo lo e (2*x)=true) (h2:cA b lo lo e (2*x+1)=true):False:=by
 unfold cA at h1 h2
 rw [Bool.and_eq_true] at h1 h2
 have a:=of_decide_eq_true h1.2
 have c:=of_decide_eq_true h2.1
 generalize (2*x+1)*2^(b - e).toNat=P at a c
 omega
theorem zQ {y:Int} (h:1≤y):(2:Nat)^y.toNat=2*2^(y - 1).toNat:=by
 have:y.toNat=(y - 1).toNat+1:=by omega
 rw [this,Nat.pow_succ];omega
theorem xf {b lo hi d e x y : Int} {l r : aV} (y1 : 1 ≤ y) (hl : eG b lo hi e (2 * x) l) (hr : eG b lo hi e (2 * x + 1) r) (fl : bd l ≤ 2 ^ (y - 1).toNat - 1) (fr : bd r ≤ 2 ^ (y - 1).toNat - 1) (gl : lo = hi → (bd l : Int) ≤ b - e) (gr : lo = hi → (bd r : Int) ≤ b - e) (hd : d < e) :
    bd l + bd r + 1 ≤ 2 ^ y.toNat - 1 ∧ (lo = hi → ((bd l + bd r + 1 : Nat) : Int) ≤ b - d) := by
  have e2 := zQ y1
  have p1 : 1 ≤ 2 ^ (y - 1).toNat := Nat.one_le_two_pow
  refine ⟨by omega, fun h => ?_⟩
  have gl := gl h
  have gr := gr h
  subst h
  cases h1 : cA b lo lo e (2 * x) with
  | false => have := qS hl h1; omega
  | true =>
    cases h2 : cA b lo lo e (2 * x + 1) with
    | false => have := qS hr h2; omega
    | true => exact (xT h1 h2).elim
theorem DB (K:W.Frag) (A:Adr) (n:Nat):Ln (iy K A n) 7:=by rintro vs H Q E ⟨_,_,_,_,_,_,_,rfl,_⟩;rfl
theorem yy (K:W.Frag) (A:Adr):∀ vs H Q E,¬ iy K A 0 vs H Q E:=by
 rintro vs H Q E ⟨_,_,_,_,_,_,_,_,_,_,_,_,_,_,_,h,_⟩
 omega
theorem EV (T : Txt K mg A) (n : Nat) : Rd (iy K A (n + 1)) (IL K A n) ["_law_cell", "_law_bits_here", "_law_low", "_law_high", "_law_depth", "_law_begin_here", "_law_deep", "_law_number_here", "_law_free", "_law_key_here", "_law_more", "_law_own", "_law_left", "_law_right"] := by
  intro vs H Q E h
  obtain ⟨c, b, lo, hi, d, g, y, rfl, e, d0, d1, g0, g1, y0, y1, hn, q⟩ := h
  have b60 := e.b60
  have e1 := e.b1
  have lo0 := e.lo0
  have le := e.le
  have hi1 := e.hi1
  have gg : g < 2 ^ 60 := Int.lt_of_lt_of_le g1 (jR (by omega))
  have W := eV (b - d).toNat
  have WW : (2 : Int) ^ b.toNat = 2 ^ d.toNat * 2 ^ (b - d).toNat := uk d0 d1
  refine ⟨c, d, g, rfl, fun N n0 n1 => ?_⟩
  refine ⟨b, lo, hi, d, g, rfl, e, d0, d1, g0, g1, ?_⟩
  cases hm : cA b lo hi d g with
  | false =>
    refine Sel.yes rfl ⟨N, rfl, fun m hst => ⟨by show 2 ≤ sizeLine; decide, fun t hT => ?_⟩⟩
    exact q (.ref t) (.cut m) _ (av.upd hT) ⟨.tup aj (.cons (.str _) (.cons (oS _ m) .nil)), ⟨hm, uZ hst.1 hst.2.1, hst.2.2⟩, d0, d1, g0, g1⟩ (Nat.zero_le _) (fun _ => by show (0 : Int) ≤ _; omega) (by show (0 : Int) ≤ _; omega)
  | true =>
    refine Sel.no rfl ?_
    have leaf : ∀ (k : Int) (H2 : Hp), av H H2 → 0 ≤ k → k < 2 ^ b.toNat → fK b k d = g → ∀ (a8 : Option V), (aB (br (ae (tC (.str "leaf")) (ae (af 9) (ae (ar (jQ K A) (fun _ => E0) (ae (tOp (bQ) (af 7) (tC (.int 3))) (al))) (al)))))) { nx := fun _ H' => Q .non H', rt := Q } [some (.int c), some (.int b), some (.int lo), some (.int hi), some (.int d), some (.int g), some (.int y), some (.int N), a8, some (.int k), none, none, none, none] H2 := fun k H2 s2 k0 k1 hs a8 => by
      refine ⟨⟨by decide, by decide⟩, N / 3, rfl, fun z H3 s3 hz ha => ⟨by show 3 ≤ sizeLine; decide, fun t hT => ?_⟩⟩
      exact q (.ref t) (.leaf k z) _ ((s2.trans s3).trans (av.upd hT)) ⟨.tup aj (.cons (.str _) (.cons (.int _) (.cons (.str _) .nil))), ⟨hm, k0, k1, hz, ha, hs⟩, d0, d1, g0, g1⟩ (Nat.zero_le _) (fun _ => by show (0 : Int) ≤ _; omega) (by show (0 : Int) ≤ _; omega)
    have fork : 1 ≤ y → d < b → pT K A n { nx := fun _ H' => Q .non H', rt := Q } [some (.int c), some (.int b), some (.int lo), some (.int hi), some (.int d), some (.int g), some (.int y), some (.int N), some (.int (b - d)), none, none, none, none, none] H := fun y1' db => by
      refine ⟨⟨by decide, by decide⟩, by show (0 : Int) < b - d; omega, ⟨by decide, by decide⟩, by show (0 : Int) < (if 3 < b - d then 3 else b - d); split <;> omega, by show 4 ≤ sizeLine; decide, fun p hp => ⟨by decide, ?_⟩⟩
      have S := av.upd (o := .lst [V.int 0, .int (N / 7 % (b - d)), .int 0, .int (N / 7 % (if 3 < b - d then 3 else b - d))]) hp
      have go : ∀ (m : Int), 0 ≤ m → m < b - d → uz K A n { nx := fun _ H' => Q .non H', rt := Q } [some (.int c), some (.int b), some (.int lo), some (.int hi), some (.int d), some (.int g), some (.int y), some (.int N), some (.int (b - d)), none, some (.int m), none, none, none] (upd H p (.lst [V.int 0, .int (N / 7 % (b - d)), .int 0, .int (N / 7 % (if 3 < b - d then 3 else b - d))])) := fun m m0 mf => by
        have eb : b - (b - d) = d := by omega
        refine ⟨b, N, g, m, lo, hi, b - d, rfl, e, n0, n1, g0, m0, mf, by omega, by rw [eb]; exact g1, fun x x0 x1 hx => ?_⟩
        rw [eb] at x1
        obtain ⟨fn1, fn2, fn3⟩ := jf (e := d + m) (x := x) (by omega) x0 x1
        refine ⟨il (by decide) (by decide), c, b, lo, hi, d + m + 1, 2 * x, y - 1, rfl, e, by omega, by omega, fn1, fn2, by omega, by omega, by omega, fun vl pl H3 s3 wl fl1 fl2 tl => ?_⟩
        refine ⟨il (by decide) (by decide), c, b, lo, hi, d + m + 1, 2 * x + 1, y - 1, rfl, e, by omega, by omega, by omega, fn3, by omega, by omega, by omega, fun vr pr H4 s4 wr fr1 fr2 tr => ?_⟩
        refine ⟨by show 5 ≤ sizeLine; decide, fun t hT => ?_⟩
        have S5 := av.upd (o := .tup [V.str "fork", .int (d + m), .int x, vl, vr]) hT
        obtain ⟨F1, F2⟩ := xf (d := d) y1' wl.ok wr.ok fl1 fr1 fl2 fr2 (by omega)
        have em : d + m - d = m := by omega
        refine q (.ref t) (.fork (d + m) x pl pr) _ (((S.trans s3).trans s4).trans S5) ⟨.tup aj (.cons (.str _) (.cons (.int _) (.cons (.int _) (.cons ((wl.w.mono s4).mono S5) (.cons (wr.w.mono S5) .nil))))), ⟨hm, by omega, by omega, x0, x1, by rw [em]; exact hx, wl.ok, wr.ok⟩, d0, d1, g0, g1⟩ F1 F2 ?_
        show ((max (cr pl) (cr pr) + 1 : Nat) : Int) ≤ b - d
        omega
      have hc : N % 4 = 0 ∨ N % 4 = 1 ∨ N % 4 = 2 ∨ N % 4 = 3 := by omega
      have r1 : 0 ≤ N / 7 % (b - d) ∧ N / 7 % (b - d) < b - d := ⟨Int.emod_nonneg _ (by omega), Int.emod_lt_of_pos _ (by omega)⟩
      have r2 : 0 ≤ N / 7 % (if 3 < b - d then 3 else b - d) ∧ N / 7 % (if 3 < b - d then 3 else b - d) < b - d := by
        split
        · exact ⟨by omega, by omega⟩
        · exact r1
      rcases hc with hk | hk | hk | hk
      · exact ixL (j := 0) aj hk rfl (go 0 (by decide) (by omega))
      · exact ixL (j := 1) aj hk rfl (go _ r1.1 r1.2)
      · exact ixL (j := 2) aj hk rfl (go 0 (by decide) (by omega))
      · exact ixL (j := 3) aj hk rfl (go _ r2.1 r2.2)
    have bz : ug K A n { nx := fun _ H' => Q .non H', rt := Q } [some (.int c), some (.int b), some (.int lo), some (.int hi), some (.int d), some (.int g), some (.int y), some (.int N), none, none, none, none, none, none] H := by
      have body : (aw (aH (tOp (aY K) (tOp (yH) (af 5) (tOp (cZ) (tC (.int 1)) (af 8))) (tOp (bi) (tOp (yH) (tOp (bQ) (af 7) (tC (.int 7))) (tC (.int 982451653))) (tOp (cZ) (tC (.int 1)) (af 8)))) (ax 9)) (aw (aR (fi (aL (tOp (bu K) (tOp (bi) (af 7) (tC (.int 3))) (tC (.int 0)))) (aL (tOp (bu K) (tOp (ik) (af 2) (af 8)) (af 5)))) (aH (af 2) (ax 9)) (aF)) (aB (br (ae (tC (.str "leaf")) (ae (af 9) (ae (ar (jQ K A) (fun _ => E0) (ae (tOp (bQ) (af 7) (tC (.int 3))) (al))) (al)))))))) { nx := pT K A n { nx := fun _ H' => Q .non H', rt := Q }, rt := Q } [some (.int c), some (.int b), some (.int lo), some (.int hi), some (.int d), some (.int g), some (.int y), some (.int N), some (.int (b - d)), none, none, none, none, none] H := by
        refine ⟨⟨by omega, by omega, by decide⟩, il g0 (by omega), ⟨by decide, by decide⟩, fO (by decide) (by decide), ⟨by omega, by omega, by decide⟩, by show (0 : Int) < 1 * 2 ^ (b - d).toNat; rw [Int.one_mul]; exact W, ?_⟩
        have r0 : 0 ≤ N / 7 * 982451653 % (1 * 2 ^ (b - d).toNat) := Int.emod_nonneg _ (by rw [Int.one_mul]; omega)
        have r1 : N / 7 * 982451653 % (1 * 2 ^ (b - d).toNat) < 2 ^ (b - d).toNat := by
          have := Int.emod_lt_of_pos (N / 7 * 982451653) (b := 1 * 2 ^ (b - d).toNat) (by rw [Int.one_mul]; exact W)
          rw [Int.one_mul] at this ⊢; exact this
        have k0 : 0 ≤ g * (1 * 2 ^ (b - d).toNat) + N / 7 * 982451653 % (1 * 2 ^ (b - d).toNat) := by
          have := Int.mul_nonneg g0 (Int.le_of_lt W)
          rw [Int.one_mul]
          rw [Int.one_mul] at r0
          omega
        have k1 : g * (1 * 2 ^ (b - d).toNat) + N / 7 * 982451653 % (1 * 2 ^ (b - d).toNat) < 2 ^ b.toNat := by
          have h2 : (g + 1) * 2 ^ (b - d).toNat ≤ 2 ^ d.toNat * 2 ^ (b - d).toNat := Int.mul_le_mul_of_nonneg_right (by omega) (Int.le_of_lt W)
          rw [Int.add_mul, Int.one_mul] at h2
          rw [WW, Int.one_mul]
          rw [Int.one_mul] at r1
          omega
        have ks : fK b (g * (1 * 2 ^ (b - d).toNat) + N / 7 * 982451653 % (1 * 2 ^ (b - d).toNat)) d = g := by
          unfold fK
          rw [Int.one_mul] at r0 r1 ⊢
          exact gq W r0 r1
        refine ⟨by decide, Sel.dec (fun _ => ⟨by show (0 : Int) ≤ b - d; omega, Sel.dec (fun hl => ?_) (fun _ => ?_)⟩) (fun _ => Sel.f ?_)⟩
        · exact leaf lo H (.refl H) lo0 (by omega) hl _
        · exact leaf _ H (.refl H) k0 k1 ks _
        · exact leaf _ H (.refl H) k0 k1 ks _
      refine Sel.dec (fun _ => Sel.t body) (fun hy => Sel.dec (fun _ => Sel.t body) (fun hf => ?_))
      have hf : ¬ b - d = 0 := hf
      have fk := fork (by omega) (by omega)
      exact ⟨by decide, Sel.dec (fun _ => Sel.dec (fun _ => body) (fun _ => fk)) (fun _ => Sel.f fk)⟩
    refine Sel.dec (fun hd => ⟨by decide, Sel.dec (fun _ => ⟨by show 1 ≤ sizeLine; decide, fun t hT => ?_⟩) (fun _ => bz)⟩) (fun _ => Sel.f bz)
    exact q (.ref t) .bare _ (av.upd hT) ⟨.tup aj (.cons (.str _) .nil), ⟨hm, hd⟩, d0, d1, g0, g1⟩ (Nat.zero_le _) (fun _ => by show (0 : Int) ≤ _; omega) (by show (0 : Int) ≤ _; omega)
theorem BX (K:W.Frag) (A:Adr):Ln (nk K A) 4:=by rintro vs H Q E ⟨_,_,_,_,rfl,_⟩;rfl
theorem Fd (T:Txt K mg A):Rd (nk K A) (IN K A) ["_law_cell", "_law_bits_here", "_law_low", "_law_high", "_law_deep"]:=by
 intro vs H Q E h
 obtain ⟨c,b,lo,hi,rfl,e,q⟩:=h
 have b60:=e.b60
 have b1:=e.b1
 have fin:∀ (y:Int) (H2:Hp),av H H2→0≤y→y≤60→(lo=hi∨y≤5)→uB K A { nx:=fun _ H'=>Q .non H',rt:=Q } [some (.int c),some (.int b),some (.int lo),some (.int hi),some (.int y)] H2:=fun y H2 s2 y0 y1 hy=>by
   refine ⟨c,b,lo,hi,0,0,y,rfl,e,by decide,by omega,by decide,by decide,y0,y1,by omega,fun v p H3 s3 w f1 f2 t=>?_⟩
   have f60:bd p≤60:=by
    rcases hy with h | h
    · have:=f2 h;omega
    · have:2^y.toNat≤2^5:=Nat.pow_le_pow_right (by decide) (by omega)
      omega
   exact q v p H3 (s2.trans s3) ⟨e,w,by omega,by omega,by have:=jj w.ok;omega⟩ f60
 refine ⟨⟨by decide,by decide⟩,by decide,Sel.dec (fun h=>?_) (fun h=>fin _ H (.refl H) (by omega) (by omega) (.inr (by omega)))⟩
 refine ⟨by show 3≤sizeLine;decide,fun p hp=>⟨by decide,?_⟩⟩
 have S:=av.upd (o:=.lst [V.int 60,.int 20,.int (1+c/7%5)]) hp
 have hc:c%3=0∨c%3=1∨c%3=2:=by omega
 rcases hc with hk | hk | hk
 · exact ixL (j:=0) aj hk rfl (fin 60 _ S (by decide) (by decide) (.inl h))
 · exact ixL (j:=1) aj hk rfl (fin 20 _ S (by decide) (by decide) (.inl h))
 · exact ixL (j:=2) aj hk rfl (fin _ _ S (by omega) (by omega) (.inl h))
theorem fY (p:aV):(bH p).length≤bd p+1:=by
 induction p with
 | fork d b l r hl hr=>show (bH l++bH r).length≤bd l+bd r+1+1;rw [List.length_append];omega
 | leaf k z=>exact Nat.le_refl 1
 | cut m=>exact Nat.zero_le _
 | bare=>exact Nat.zero_le _
theorem BA (K:W.Frag) (A:Adr) (n:Nat):Ln (io K A n) 1:=by rintro vs H Q E ⟨_,_,rfl,_⟩;rfl
theorem yP (K:W.Frag) (A:Adr):∀ vs H Q E,¬ io K A 0 vs H Q E:=by
 rintro vs H Q E ⟨_,_,_,_,h,_⟩
 omega
theorem jg {H H':Hp} {L:Addr} (s:av H H') (h:H' L=none):H L=none:=by
 cases e:H L with
 | none=>rfl
 | some o=>rw [s _ _ e] at h;cases h
theorem FP (T : Txt K mg A) (n : Nat) : Rd (io K A (n + 1)) (Jr K A n) ["_law_part_here"] := by
  intro vs H Q E h
  obtain ⟨v, p, rfl, w, ht, hf, q⟩ := h
  obtain ⟨_, ⟨f1, f2, f3, f4⟩, l1, l2, l3, l4⟩ := hG
  have non : bH p = [] → (aB (bJ al)) { nx := fun _ H' => Q .non H', rt := Q } [some v] H := fun e => by
    refine ⟨by show 0 ≤ sizeLine; decide, fun M hM => q M [] _ (av.upd hM) hM aj ?_⟩
    rw [e]; exact .nil
  cases p with
  | cut m =>
    obtain ⟨a, rfl, ha⟩ := gC w
    exact ixT (j := 0) ha rfl rfl (Sel.no l1 (ixT (j := 0) ha rfl rfl (Sel.no f1 (non rfl))))
  | bare =>
    obtain ⟨a, rfl, ha⟩ := hZ w
    exact ixT (j := 0) ha rfl rfl (Sel.no l2 (ixT (j := 0) ha rfl rfl (Sel.no f2 (non rfl))))
  | leaf k z =>
    obtain ⟨a, rfl, ha⟩ := gU w
    refine ixT (j := 0) ha rfl rfl (Sel.yes l3 (ixT (j := 1) ha rfl rfl (ixT (j := 2) ha rfl rfl ⟨by show 2 ≤ sizeLine; decide, fun t hT => ⟨by show 1 ≤ sizeLine; decide, fun M hM => ?_⟩⟩)))
    have s1 := av.upd (o := .tup [V.int k, V.str z]) hT
    have s2 := av.upd (o := .lst [V.ref t]) hM
    exact q M [t] _ (s1.trans s2) (jg s1 hM) aj (.cons (s2 _ _ aj) .nil)
  | fork d b l r =>
    obtain ⟨a, vl, vr, rfl, ha, wl, wr⟩ := gQ w
    have ht' : max (cr l) (cr r) + 1 < n + 1 := ht
    have hf' : bd l + bd r + 1 ≤ 70 := hf
    refine ixT (j := 0) ha rfl rfl (Sel.no l4 (ixT (j := 0) ha rfl rfl (Sel.yes f4 ?_)))
    refine ixT (j := 3) ha rfl rfl ⟨vl, l, rfl, wl, by omega, by omega, fun L1 r1 H1 s1 n1 h1 p1 => ?_⟩
    refine ixT (j := 4) (s1 _ _ ha) rfl rfl ⟨vr, r, rfl, wr.mono s1, by omega, by omega, fun L2 r2 H2 s2 n2 h2 p2 => ?_⟩
    have e1 := oK p1
    have e2 := oK p2
    have m1 := fY l
    have m2 := fY r
    refine .inl ⟨L1, L2, _, _, rfl, rfl, s2 _ _ h1, h2, aS (by simp; omega), fun M hM => ?_⟩
    have s3 := av.upd (o := .lst (r1.map V.ref ++ r2.map V.ref)) hM
    have ml : r1.map V.ref ++ r2.map V.ref = (r1 ++ r2).map V.ref := by simp
    exact q M (r1 ++ r2) _ ((s1.trans s2).trans s3) (jg (s1.trans s2) hM) (by rw [aj, ml]) (DT (gL (fun c xs e => s3 _ _ (s2 _ _ e)) p1) (gL (fun c xs e => s3 _ _ e) p2))
theorem DJ (K:W.Frag) (A:Adr):Ln (nG K A) 3:=by rintro vs H Q E ⟨_,_,_,_,rfl,_⟩;rfl
theorem GX (T:Txt K mg A):Rd (nG K A) (Ig K A) ["_law_part_here", "_law_low", "_law_high"]:=by
 intro vs H Q E h
 obtain ⟨v,p,lo,hi,rfl,w,ht,hf,q⟩:=h
 refine ⟨v,p,rfl,w,by omega,hf,fun L ps H1 s1 n1 hL pr=>?_⟩
 have pl:=oK pr
 have ml:=fY p
 refine ⟨L,rfl,.inl ⟨⟨_,SqL.of hL⟩,fun D hD=>?_⟩⟩
 refine gn (eA.list (xs:=ps.map V.ref) .non) (fun i ys H2=>∃ rs:List Addr,ys=rs.map V.ref∧H2 D=some (.lst ys)∧av H1 H2∧rs.length≤i∧PR H2 rs (((bH p).take i).filter (inI lo hi)))
   (fun i ys H2 _ ⟨_,_,_,s2,_⟩=>SqL.of (s2 _ _ hL)) ⟨[],rfl,aj,av.upd hD,Nat.le_refl _,.nil⟩ ?_ ?_
 · rintro i ys H2 hi' ⟨rs,rfl,hd,s2,hrl,pr2⟩
   rw [List.length_map] at hi'
   obtain ⟨t,ht⟩:∃ t,(bH p)[i]?=some t:=⟨_,List.getElem?_eq_getElem (by omega)⟩
   obtain ⟨a,ha,hat⟩:=BD pr ht
   have e0:=pG ha
   have hi2:i<(ps.map V.ref).length:=by rw [List.length_map];exact hi'
   have ha2:=s2 _ _ hat
   have step:∀ b:Bool,inI lo hi t=b→(((bH p).take (i+1)).filter (inI lo hi))=(((bH p).take i).filter (inI lo hi))++(if b=true then [t] else []):=fun b hb=>by
     rw [jp ht,List.filter_append]
     cases b with
     | true=>rw [List.filter_cons_of_pos hb];rfl
     | false=>rw [List.filter_cons_of_neg (by rw [hb];decide)];rfl
   have out:inI lo hi t=false→∃ m',m'<(ps.map V.ref).length - i∧CWd (ps.map V.ref).length (fun i ys H2=>∃ rs:List Addr,ys=rs.map V.ref∧H2 D=some (.lst ys)∧av H1 H2∧rs.length≤i∧PR H2 rs (((bH p).take i).filter (inI lo hi))) (i+1) m' (rs.map V.ref) H2:=fun hb=>by
     refine CWd.next hi2 ⟨rs,rfl,hd,s2,by omega,?_⟩
     rw [step false hb]
     show PR H2 rs (_++[])
     rw [List.append_nil];exact pr2
   show aG K ((ps.map V.ref).getD i .non) (.int 0) H2 _
   rw [e0]
   refine ixT (j:=0) ha2 rfl rfl ?_
   refine Sel.dec (fun h1=>?_) (fun h1=>rK (out (by unfold inI;rw [decide_eq_false h1];rfl)))
   show (if decide (t.1≤hi)=true then _ else _)
   by_cases h2:t.1≤hi
   · rw [if_pos (decide_eq_true h2)]
     refine ⟨hd,by rw [List.length_map];exact Nat.lt_of_le_of_lt (m:=1000) (by omega) (by decide),CWd.next hi2 ⟨rs++[a],by rw [List.map_append];rfl,aj,s2.put hD,by rw [List.length_append];show _+1≤_;omega,?_⟩⟩
     rw [step true (by unfold inI;rw [decide_eq_true h1,decide_eq_true h2];rfl)]
     have kp:∀ (c:Addr) (xs:List V),H2 c=some (.tup xs)→(upd H2 D (.lst (rs.map V.ref++[V.ref a]))) c=some (.tup xs):=fun c xs e=>by
      have hc:c≠D:=fun z=>by rw [z,hd] at e;cases e
      rw [au hc];exact e
     exact qu (gL kp pr2) (kp _ _ ha2)
   · rw [if_neg (by rw [decide_eq_false h2];decide)]
     exact out (by unfold inI;rw [decide_eq_false h2,Bool.and_false])
 · rintro ys H2 ⟨rs,rfl,hd,s2,hrl,pr2⟩
   rw [List.length_map,pl,List.take_length] at pr2
   exact q D rs H2 (s1.trans s2) (jg s1 hD) hd pr2
theorem gy.imp {H:Hp} {b:Int} {v w:V} {E:XK} {R R':Int→Int→Prop} (h:gy A H b v w E R) (f:∀ lo hi,v=.int lo→w=.int hi→dg b lo hi→R lo hi→R' lo hi):gy A H b v w E R':=by
 cases h with
 | key d e hd he h q=>exact .key d e hd he h q
 | ord lo hi hv hw k1 k2 h q=>exact .ord lo hi hv hw k1 k2 h q
 | good lo hi hv hw en q=>exact .good lo hi hv hw en (f lo hi hv hw en q)
theorem ji.imp {H:Hp} {b lo hi:Int} {v:V} {E:XK} {R R':aV→Prop} (h:ji A H b lo hi v E R) (f:∀ p,cj H v b lo hi p→R p→R' p):ji A H b lo hi v E R':=by
 cases h with
 | bad d hd ok h q=>exact .bad d hd ok h q
 | good p w q=>exact .good p w (f p w q)
theorem CC (K:W.Frag) (A:Adr):Ln (jU K A) 3:=by rintro vs H Q E ⟨_,_,_,rfl,_⟩;rfl
theorem FC (T : Txt K mg A) (vs : List V) (H : Hp) (Q : VK) (E : XK) (h : jU K A vs H Q E) : AC K A E { nx := fun _ H' => Q .non H', rt := Q } (L2.bL ["bits", "low", "high"] vs) H := by
  obtain ⟨b, v, w, rfl, b1, b60, ask⟩ := h
  cases ask with
  | key d e hd he h q =>
    refine ⟨b, v, d, rfl, by omega, b60, hd, ?_⟩
    cases h1 : bD b d with
    | false => exact Sel.t (Sel.t q)
    | true =>
      refine Sel.f ⟨b, w, e, rfl, by omega, b60, he, ?_⟩
      have h2 : bD b e = false := h.resolve_left (by rw [h1]; decide)
      rw [h2]; exact Sel.t q
  | ord lo hi hv hw k1 k2 h q =>
    subst hv hw
    refine ⟨b, .int lo, .int lo, rfl, by omega, b60, .int lo, Sel.no (by rw [k1]; rfl) ⟨b, .int hi, .int hi, rfl, by omega, b60, .int hi, Sel.no (by rw [k2]; rfl) ?_⟩⟩
    exact Sel.yes (decide_eq_true h) q
  | good lo hi hv hw e q =>
    subst hv hw
    have k1 : bD b (.int lo) = true := decide_eq_true ⟨e.lo0, Int.lt_of_le_of_lt e.le e.hi1⟩
    have k2 : bD b (.int hi) = true := decide_eq_true ⟨Int.le_trans e.lo0 e.le, e.hi1⟩
    refine ⟨b, .int lo, .int lo, rfl, by omega, b60, .int lo, Sel.no (by rw [k1]; rfl) ⟨b, .int hi, .int hi, rfl, by omega, b60, .int hi, Sel.no (by rw [k2]; rfl) ?_⟩⟩
    exact Sel.no (decide_eq_false (by have := e.le; omega)) q
theorem CQ (K:W.Frag) (A:Adr):Ln (oB K A) 6:=by rintro vs H Q E ⟨_,_,_,_,_,_,rfl,_⟩;rfl
theorem GF (T : Txt K mg A) : Rd (oB K A) (JD K A) ["bits", "low", "high", "depth", "begin", "thing"] := by
  intro vs H Q E h
  obtain ⟨b, lo, hi, d, g, v, rfl, e, ask⟩ := h
  have b1 := e.b1
  have b60 := e.b60
  rcases ask with ⟨p, w, ht, q⟩ | ⟨rfl, rfl, x, dx, eo, hx, q⟩
  · refine ⟨b, lo, hi, d, g, rfl, w.d0, w.d1, b60, w.g0, w.g1, fun H2 s2 => ?_⟩
    have eo := wG w.ok w.d1 ht
    have bz : ∀ (hm : cA b lo hi d g = true) (hb : ¬ p = .bare) (r1 : dI b d g (bg p) = true ∨ (dI b d g (bg p) = false ∧ fe b d g (bg p) = true)), uW K A { nx := fun _ H' => Q .non H', rt := Q } [some (.int b), some (.int lo), some (.int hi), some (.int d), some (.int g), some v] H2 := by
      intro hm hb r1
      refine ⟨by show 1 ≤ sizeLine; decide, fun t hT => ?_⟩
      have s3 := s2.trans (av.upd (o := .tup [.str "bare"]) hT)
      refine lQ (w.w.mono s3) eo aj ?_
      refine Sel.no (Al hb) ?_
      refine ⟨b, d, g, v, bg p, rfl, by omega, b60, w.d1, w.w.mono s3, eo, ?_⟩
      rcases r1 with h | ⟨h1, h2⟩
      · exact Sel.yes h (q _ s3)
      · refine Sel.no h1 ⟨b, d, g, v, bg p, rfl, w.d0, b60, w.d1, w.w.mono s3, eo, ?_⟩
        rw [h2]; exact q _ s3
    have hok := w.ok
    cases p with
    | cut m =>
      refine Sel.yes (by rw [hok.1]; rfl) ⟨v, m, rfl, w.w.mono s2, hok.2.1, q _ s2⟩
    | bare =>
      refine Sel.no (by rw [hok.1]; rfl) ⟨by show 1 ≤ sizeLine; decide, fun t hT => ?_⟩
      have s3 := s2.trans (av.upd (o := .tup [.str "bare"]) hT)
      refine lQ (w.w.mono s3) eo aj (Sel.yes (by decide +kernel) ?_)
      show Q (.bl (decide (d = 0))) _
      rw [decide_eq_true hok.2]; exact q _ s3
    | leaf k z =>
      refine Sel.no (by rw [hok.1]; rfl) (bz hok.1 (by intro z; cases z) (.inl ?_))
      obtain ⟨_, k0, k1, hz, _, hs⟩ := hok
      show (cB "leaf" (.str "leaf") && decide (0 ≤ k ∧ k < 2 ^ b.toNat) && eT (.str z) && decide (fK b k d = g)) = true
      rw [decide_eq_true ⟨k0, k1⟩, decide_eq_true hs]
      show (decide (("leaf" : Str) = "leaf") && true && decide (z.length ≤ 60) && true) = true
      rw [decide_eq_true hz, decide_eq_true rfl]; rfl
    | fork e x l r =>
      refine Sel.no (by rw [hok.1]; rfl) (bz hok.1 (by intro z; cases z) (.inr ⟨rfl, ?_⟩))
      obtain ⟨_, h1, h2, x0, x1, hx, _⟩ := hok
      show (cB "fork" (.str "fork") && decide (d ≤ e ∧ e < b) && decide (0 ≤ x ∧ x < 2 ^ e.toNat) && decide (x / 2 ^ (e - d).toNat = g)) = true
      rw [decide_eq_true ⟨h1, h2⟩, decide_eq_true ⟨x0, x1⟩, decide_eq_true hx]
      show (decide (("fork" : Str) = "fork") && true && true && true) = true
      rw [decide_eq_true rfl]; rfl
  · refine ⟨b, lo, hi, 0, 0, rfl, by decide, by omega, b60, by decide, by decide, fun H2 s2 => ?_⟩
    rw [mx e]
    refine Sel.no rfl ⟨by show 1 ≤ sizeLine; decide, fun t hT => ?_⟩
    have s3 := s2.trans (av.upd (o := .tup [.str "bare"]) hT)
    refine lQ (dx.mono s3) eo aj ?_
    unfold eJ at hx
    cases hb : ib x with
    | true => rw [hb, if_pos rfl] at hx; cases hx
    | false =>
      rw [hb, if_neg (by decide), Bool.or_eq_false_iff] at hx
      refine Sel.f ⟨b, 0, 0, v, x, rfl, by omega, b60, by omega, dx.mono s3, eo, ?_⟩
      rw [hx.1]
      refine Sel.f ⟨b, 0, 0, v, x, rfl, by decide, b60, by omega, dx.mono s3, eo, ?_⟩
      rw [hx.2]; exact q _ s3
theorem Bg (K:W.Frag) (A:Adr) (n:Nat):Ln (gc K A n) 6:=by rintro vs H Q E ⟨_,_,_,_,_,_,rfl,_⟩;rfl
theorem zm (K:W.Frag) (A:Adr):∀ vs H Q E,¬ gc K A 0 vs H Q E:=by
 rintro vs H Q E ⟨_,_,_,_,_,_,_,_,⟨_,_,_,h,_⟩ | ⟨h,_⟩⟩ <;> omega
theorem FK (T : Txt K mg A) (n : Nat) (vs : List V) (H : Hp) (Q : VK) (E : XK) (h : gc K A (n + 1) vs H Q E) : CZ K A E n { nx := fun _ H' => Q .non H', rt := Q } (L2.bL ["bits", "low", "high", "depth", "begin", "part"] vs) H := by
  obtain ⟨b, lo, hi, d, g, v, rfl, e, ask⟩ := h
  rcases ask with ⟨p, w, ht, hn, q⟩ | ⟨_, rfl, rfl, x, dx, eo, hx, q⟩
  · refine ⟨b, lo, hi, d, g, v, rfl, e, .inl ⟨p, w, ht, fun H2 s2 => Sel.no rfl ?_⟩⟩
    have w2 := w.w.mono s2
    cases p with
    | cut m =>
      obtain ⟨a, rfl, ha⟩ := gC w2
      exact ixT (j := 0) ha rfl rfl (Sel.no ko.1 (q _ s2))
    | bare =>
      obtain ⟨a, rfl, ha⟩ := hZ w2
      exact ixT (j := 0) ha rfl rfl (Sel.no ko.2.1 (q _ s2))
    | leaf k z =>
      obtain ⟨a, rfl, ha⟩ := gU w2
      exact ixT (j := 0) ha rfl rfl (Sel.no ko.2.2 (q _ s2))
    | fork e2 x l r =>
      obtain ⟨a, vl, vr, rfl, ha, wl, wr⟩ := gQ w2
      have ht' : max (cr l) (cr r) + 1 ≤ 60 := ht
      have hn' : max (cr l) (cr r) + 1 < n + 1 := hn
      have W : eO H2 (.ref a) b lo hi d g (.fork e2 x l r) := ⟨w2, w.ok, w.d0, w.d1, w.g0, w.g1⟩
      refine ixT (j := 0) ha rfl rfl (Sel.yes (decide_eq_true rfl) ?_)
      refine ixT (j := 1) ha rfl rfl (ixT (j := 2) ha rfl rfl ⟨il (by decide) (by decide), ixT (j := 3) ha rfl rfl ?_⟩)
      refine ⟨b, lo, hi, e2 + 1, 2 * x, vl, rfl, e, .inl ⟨l, W.left wl, by omega, by omega, fun H3 s3 => ?_⟩⟩
      have ha3 := s3 _ _ ha
      refine ixT (j := 1) ha3 rfl rfl (ixT (j := 2) ha3 rfl rfl ⟨il (by decide) (by decide), ixT (j := 4) ha3 rfl rfl ?_⟩)
      have W3 : eO H3 (.ref a) b lo hi d g (.fork e2 x l r) := ⟨w2.mono s3, w.ok, w.d0, w.d1, w.g0, w.g1⟩
      exact ⟨b, lo, hi, e2 + 1, 2 * x + 1, vr, rfl, e, .inl ⟨r, W3.right (wr.mono s3), by omega, by omega, fun H4 s4 => q _ ((s2.trans s3).trans s4)⟩⟩
  · refine ⟨b, lo, hi, 0, 0, v, rfl, e, .inr ⟨rfl, rfl, x, dx, eo, hx, fun H2 s2 => ?_⟩⟩
    refine Sel.yes rfl fun a ha => ⟨a, .int 0, .int 0, rfl, aj, fun dx hdx => ⟨rfl, some dx, ?_, ?_⟩⟩
    · obtain ⟨nd, _⟩ := ft hdx
      rw [au (Ne.symm nd), au (Ne.symm nd)]; exact aj
    · obtain ⟨nd, hd0⟩ := ft hdx
      refine q dx _ fun z o ez => ?_
      have ez := s2 _ _ ez
      have na := aD ez ha
      have nz := aD ez hd0
      rw [dL na, au nz, au nz, au na, au na]; exact ez
theorem Ba (K:W.Frag) (A:Adr):Ln (nM K A) 4:=by rintro vs H Q E ⟨_,_,_,_,rfl,_⟩;rfl
theorem Hu (T:Txt K mg A) (vs:List V) (H:Hp) (Q:VK) (E:XK) (h:nM K A vs H Q E):Bh K A E { nx:=fun _ H'=>Q .non H',rt:=Q } (L2.bL ["bits", "low", "high", "paper"] vs) H:=by
 obtain ⟨b,v,w,u,rfl,b1,b60,ask⟩:=h
 refine ⟨b,v,w,rfl,b1,b60,ask.imp fun lo hi hv hw en top=>?_⟩
 subst hv hw
 cases top with
 | bad d hd ok h q=>exact ⟨b,lo,hi,0,0,u,rfl,en,.inr ⟨by decide,rfl,rfl,d,hd,ok,h,q⟩⟩
 | good p pw q=>exact ⟨b,lo,hi,0,0,u,rfl,en,.inl ⟨p,pw.w,pw.t,by have:=pw.t;omega,q⟩⟩
theorem Dy (K:W.Frag) (A:Adr):Ln (iI K A) 5:=by rintro vs H Q E ⟨_,_,_,_,_,_,_,_,rfl,_⟩;rfl
theorem Gi (T:Txt K mg A) (vs:List V) (H:Hp) (Q:VK) (E:XK) (h:iI K A vs H Q E):Bk K A E { nx:=fun _ H'=>Q .non H',rt:=Q } (L2.bL ["stamper", "bits", "low", "high", "paper"] vs) H:=by
 obtain ⟨f,b,c,v,w,u,g,n,rfl,c1,c60,sp,hn,ask⟩:=h
 refine ⟨c,v,w,u,rfl,c1,c60,ask.imp fun lo hi hv hw en top=>top.imp fun p pw q H2 s2=>?_⟩
 have hf:=pw.f
 have ht:=pw.t
 refine ⟨f,b,u,p,g,n,rfl,pw.s.keep (fun c xs e=>s2 c _ e),by omega,sp.same (Nat.le_refl _) s2,by omega,fun L ps ts g' H' kt sp' sub hL pk e lo'=>?_⟩
 exact q L ps ts g' H' ((aE.same s2).trans kt) (sp'.same (by omega) (.refl _)) sub hL pk e
theorem By (K:W.Frag) (A:Adr):Ln (nj K A) 5:=by rintro vs H Q E ⟨_,_,_,_,_,_,_,_,rfl,_⟩;rfl
theorem EL (T:Txt K mg A) (vs:List V) (H:Hp) (Q:VK) (E:XK) (h:nj K A vs H Q E):Cw K A E { nx:=fun _ H'=>Q .non H',rt:=Q } (L2.bL ["stamper", "bits", "low", "high", "paper"] vs) H:=by
 obtain ⟨f,b,c,v,w,u,g,n,rfl,c1,c60,sp,hn,ask⟩:=h
 refine ⟨f,rfl,sp.clo,f,b,c,v,w,u,g,n,rfl,c1,c60,sp,hn,ask.imp fun lo hi hv hw en top=>top.imp fun p pw q L ps ts g1 H1 kt sp1 sub hL pk e=>?_⟩
 exact mQ sp1 (by omega) pw.nc hL pk e fun x g2 H2 kt2 sp2 sub2 ex=>q x g2 H2 (kt.trans kt2) sp2 (sub.trans sub2) ex
theorem BY (K:W.Frag) (A:Adr):Ln (jO K A) 6:=by rintro vs H Q E ⟨_,_,_,_,_,_,_,_,_,rfl,_⟩;rfl
theorem HX (T:Txt K mg A) (vs:List V) (H:Hp) (Q:VK) (E:XK) (h:jO K A vs H Q E):CG K A E { nx:=fun _ H'=>Q .non H',rt:=Q } (L2.bL ["stamper", "bits", "mark", "low", "high", "paper", "terms", "came"] vs) H:=by
 obtain ⟨f,b,c,m,v,w,u,g,n,rfl,c1,c60,sp,hn,ask⟩:=h
 refine ⟨f,b,c,v,w,u,g,n,rfl,c1,c60,sp,hn,ask.imp fun lo hi hv hw en top=>top.imp fun p pw q L ps ts g1 H1 kt sp1 sub hL pk e=>?_⟩
 subst hv hw
 refine ⟨f,rfl,sp1.clo,mQ sp1 (by omega) pw.nc hL pk e fun y g2 H2 kt2 sp2 sub2 ey=>?_⟩
 obtain ⟨q1,q2⟩:=q y g2 H2 (kt.trans kt2) sp2 (sub.trans sub2) ey
 refine ms ?_
 by_cases exm:y=m
 · refine Sel.no (by rw [decide_eq_true exm];rfl) ?_
   have ets:=e _ (bV g1)
   subst ets
   have hm:=fB p
   have hf:=pw.f
   exact ⟨L,lo,hi,ps,iB g1,p,rfl,sp1.lst kt2 _ _ hL,dm (sp1.tup kt2) pk,by rw [eY];omega,fun M rs H3 s3 hM hM3 pr=>q1 exm M rs H3 s3 hM3 pr⟩
 · refine Sel.yes (by rw [decide_eq_false exm];rfl) ?_
   refine fun a ha=>⟨a,kV m,kV y,rfl,aj,fun dx hdx=>⟨rfl,some dx,?_,?_⟩⟩
   · obtain ⟨nd,_⟩:=ft hdx
     rw [au (Ne.symm nd),au (Ne.symm nd)];exact aj
   · obtain ⟨nd,hd0⟩:=ft hdx
     refine q2 exm dx _ (fun z o ez=>?_) (by rw [dL nd];exact aj)
     have na:=aD ez ha
     have nz:=aD ez hd0
     rw [dL na,au nz,au nz,au na,au na];exact ez
theorem DU (K:W.Frag) (A:Adr) (n:Nat):∀ vs H Q E,iH K A n vs H Q E→vs.length=6:=fun _ _ _ _ h=>h.elim
theorem yG (K:W.Frag) (A:Adr):∀ vs H Q E,¬ iH K A 0 vs H Q E:=fun _ _ _ _ h=>h
theorem Hb (T:Txt K mg A) (n:Nat) (vs:List V) (H:Hp) (Q:VK) (E:XK) (h:iH K A (n+1) vs H Q E):Jk K A n { nx:=fun _ H'=>Q .non H',rt:=Q } (L2.bL ["bits", "low", "high", "depth", "begin", "knot", "left", "right"] vs) H:=h.elim
theorem CH (K:W.Frag) (A:Adr):Ln (nP K A) 3:=by rintro vs H Q E ⟨_,_,_,_,_,rfl,_⟩;rfl
theorem Ia (T:Txt K mg A) (vs:List V) (H:Hp) (Q:VK) (E:XK) (h:nP K A vs H Q E):AI K A E { nx:=fun _ H'=>Q .non H',rt:=Q } (L2.bL ["table", "low", "high"] vs) H:=by
 obtain ⟨x,f,B,v,w,rfl,tb,B1,B60,ask⟩:=h
 obtain ⟨dx,y,o⟩:=tb.ob
 exact ⟨x,_,dx,_,_,rfl,o,T.cl_Table,T.na_Table_bits,rfl,(B:Int),v,w,rfl,by omega,by omega,ask.imp fun _ _ _ _ _ h=>h.elim⟩
theorem DM (K:W.Frag) (A:Adr):Ln (nw K A) 6:=by rintro vs H Q E ⟨_,_,_,_,_,_,rfl,_⟩;rfl
theorem Ec (T:Txt K mg A) (vs:List V) (H:Hp) (Q:VK) (E:XK) (h:nw K A vs H Q E):Cq K A E { nx:=fun _ H'=>Q .non H',rt:=Q } (L2.bL ["stamper", "bits", "low", "high", "paper", "key", "steps", "part", "turn", "aside"] vs) H:=by
 obtain ⟨f,c,v,w,u,k,rfl,c1,c60,ask⟩:=h
 rcases ask with ⟨d,hd,h,q⟩ | ⟨kk,rfl,hk,ask⟩
 · exact ⟨c,k,d,rfl,by omega,c60,hd,Sel.yes (by rw [h];rfl) q⟩
 · refine ⟨c,.int kk,.int kk,rfl,by omega,c60,.int kk,Sel.no (by rw [hk];rfl) ⟨c,v,w,rfl,c1,c60,ask.imp fun lo hi hv hw en h=>?_⟩⟩
   subst hv hw
   rcases h with ⟨no,q⟩ | ⟨h1,h2,top⟩
   · refine Sel.dec (fun h1=>?_) (fun h1=>Sel.t q)
     exact Sel.yes (by rw [decide_eq_false fun h2=>no ⟨h1,h2⟩];rfl) q
   · refine Sel.yes (decide_eq_true h1) (Sel.no (by rw [decide_eq_true h2];rfl) ?_)
     cases top with
     | bad d hd ok h q=>exact ⟨c,lo,hi,0,0,u,rfl,en,.inr ⟨by decide,rfl,rfl,d,hd,ok,h,q⟩⟩
     | good p pw q=>exact q.elim
theorem AT (K:W.Frag) (A:Adr) (n:Nat):Ln (ip K A n) 2:=by rintro vs H Q E ⟨_,_,_,_,_,_,rfl,_⟩;rfl
theorem yz (K:W.Frag) (A:Adr):∀ vs H Q E,¬ ip K A 0 vs H Q E:=by
 rintro vs H Q E ⟨_,_,_,_,_,_,_,_,h,_⟩
 omega
theorem ER (T : Txt K mg A) (n : Nat) : Rd (ip K A (n + 1)) (JX K A n) ["_law_stamper", "_law_part_here", "_law_left", "_law_right", "_law_own"] := by
  intro vs H Q E h
  obtain ⟨f, b, v, p, g, m, rfl, w, ht, sp, hm, q⟩ := h
  obtain ⟨⟨c1, c2, c3, c4⟩, ⟨f1, f2, f3, f4⟩, _⟩ := hG
  have hf := w.f
  have one : ∀ (a : Addr) (t : List Key), dn p = 1 → H a = some (.tup (t.map kV)) → okT t = true → (∀ h, bw h p = [t] ∧ dc h p = h t) → szT t + 62 ≤ szP p → szT t ≤ 1000 → (aB (br (ae (gE (fM K A) (fun _ => E0) (af 0) (ae (af 1) (al))) (ae (bJ (ae (af 1) (al))) (al))))) { nx := fun _ H' => Q .non H', rt := Q } [some (.ref f), some (.ref a), none, none, none] H := fun a t h0 ha ok ht hs hs2 => by
    refine ⟨f, rfl, sp.clo, ?_⟩
    refine lU (v := .ref a) rfl ?_
    refine gX sp (by omega) ha ok fun x H2 g2 kt sp2 sub gv so => ?_
    refine ⟨by show 1 ≤ sizeLine; decide, fun L hL => ⟨by show 2 ≤ sizeLine; decide, fun t2 hT => ?_⟩⟩
    have S := av.upd (o := .lst [V.ref a]) hL
    have S2 := av.upd (o := .tup [kV x, V.ref L]) hT
    obtain ⟨o1, o2⟩ := lW so (by omega)
    refine q t2 L x [a] [t] g2 _ (kt.trans (aE.same (S.trans S2))) (sp2.same (by omega) (S.trans S2)) sub aj (S2 _ _ aj) (.cons ⟨S2 _ _ (S _ _ (sp.tup kt _ _ ha)), ok⟩ .nil) (fun h he => ⟨(ht h).1.symm, ?_⟩) o1 (by omega)
    rw [(ht h).2]; exact (he _ _ gv).symm
  cases p with
  | cut c =>
    obtain ⟨a, rfl, ha⟩ := gC w.w
    obtain ⟨_, _, _, _, _, _, _, _, _, hst⟩ := w.ok
    have o1 := hst.1
    have o2 : szK c ≤ szP (.cut c) := Nat.le_refl _
    refine ixT (j := 0) ha rfl rfl (Sel.yes c1 (ixT (j := 1) ha rfl rfl ⟨by show 0 ≤ sizeLine; decide, fun L hL => ⟨by show 2 ≤ sizeLine; decide, fun t hT => ?_⟩⟩))
    have S := av.upd (o := .lst []) hL
    have S2 := av.upd (o := .tup [kV c, V.ref L]) hT
    exact q t L c [] [] g _ (aE.same (S.trans S2)) (sp.same (by omega) (S.trans S2)) Sub.rfl' aj (S2 _ _ aj) .nil (fun h _ => ⟨rfl, rfl⟩) o1 o2
  | bare =>
    obtain ⟨a, rfl, ha⟩ := hZ w.w
    refine ixT (j := 0) ha rfl rfl (Sel.no c2 (ixT (j := 0) ha rfl rfl (Sel.yes (by rw [f2]; rfl) ?_)))
    exact one a [.inr "bare"] rfl ha gB.1 (fun _ => ⟨rfl, rfl⟩) (by rw [gB.2]; exact Nat.le_refl _) (by rw [gB.2]; decide)
  | leaf k z =>
    obtain ⟨a, rfl, ha⟩ := gU w.w
    refine ixT (j := 0) ha rfl rfl (Sel.no c3 (ixT (j := 0) ha rfl rfl (Sel.yes (by rw [f3]; rfl) ?_)))
    obtain ⟨b', lo, hi, d, g', en, d0, d1, _, k0, k1, hz, has, _⟩ := w.ok
    have := p10 en.b60
    obtain ⟨o1, o2⟩ := pq (k := k) (z := z) k0 (by omega) hz has
    exact one a [.inr "leaf", .inl k, .inr z] rfl ha o1 (fun _ => ⟨rfl, rfl⟩) (by show _ ≤ 312; omega) (by omega)
  | fork d x l r =>
    obtain ⟨a, vl, vr, rfl, ha, wl, wr⟩ := gQ w.w
    have ht' : max (cr l) (cr r) + 1 < n + 1 := ht
    have hm' : m + (dn l + dn r + 1) ≤ 42000 := hm
    obtain ⟨d0, d1, x0, x1⟩ := w.nums
    refine ixT (j := 0) ha rfl rfl (Sel.no c4 (ixT (j := 0) ha rfl rfl (Sel.no (by rw [f4]; rfl) ?_)))
    refine ixT (j := 3) ha rfl rfl ⟨f, b, vl, l, g, m, rfl, w.left wl, by omega, sp, by omega, fun t1 L1 y1 ps1 ts1 g1 H1 kt1 sp1 sub1 ht1 hL1 pk1 e1 oy1 sy1 => ?_⟩
    have ha1 := sp.tup kt1 _ _ ha
    refine ixT (j := 4) ha1 rfl rfl ⟨f, b, vr, r, g1, m + dn l, rfl, (w.right wr).keep (sp.tup kt1), by omega, sp1, by omega, fun t2 L2 y2 ps2 ts2 g2 H2 kt2 sp2 sub2 ht2 hL2 pk2 e2 oy2 sy2 => ?_⟩
    have ha2 := sp1.tup kt2 _ _ ha1
    have ht1b := sp1.tup kt2 _ _ ht1
    have hL1b := sp1.lst kt2 _ _ hL1
    refine ixT (j := 1) ha2 rfl rfl (ixT (j := 2) ha2 rfl rfl (ixT (j := 0) ht1b rfl rfl (ixT (j := 0) ht2 rfl rfl ⟨by show 5 ≤ sizeLine; decide, fun t hT => ?_⟩)))
    have S3 := av.upd (o := .tup [V.str "fork", .int d, .int x, kV y1, kV y2]) hT
    obtain ⟨ok, sz⟩ := mv (d := d) (x := x) d0 d1 x0 x1 oy1 oy2
    have szp : 252 + szP l + szP r ≤ 90000 := w.z
    have hf' : bd l + bd r + 1 ≤ 60 := hf
    have sp3 := sp2.same (Nat.le_refl _) S3
    refine ⟨f, rfl, (sp2.same (Nat.le_refl _) S3).clo, ?_⟩
    refine lU (v := .ref t) rfl ?_
    refine gX (sp2.same (Nat.le_refl _) S3) (by omega) (k := [.inr "fork", .inl d, .inl x, y1, y2]) aj ok fun y H4 g4 kt4 sp4 sub4 gv so => ?_
    obtain ⟨o1, o2⟩ := lW so (by omega)
    have kt34 := (aE.same S3).trans kt4
    have ht1d := sp2.tup kt34 _ _ ht1b
    have ht2d := sp2.tup kt34 _ _ ht2
    have hL1d := sp2.lst kt34 _ _ hL1b
    have hL2d := sp2.lst kt34 _ _ hL2
    have htd := sp3.tup kt4 _ _ (aj (H := H2) (a := t) (o := .tup [V.str "fork", .int d, .int x, kV y1, kV y2]))
    have p1 : ps1.length = dn l := by rw [gM pk1, (e1 _ (bV g1)).1, eY]
    have p2 : ps2.length = dn r := by rw [gM pk2, (e2 _ (bV g2)).1, eY]
    have q1 := fB l
    have q2 := fB r
    refine ixT (j := 1) ht1d rfl rfl (ixT (j := 1) ht2d rfl rfl (.inl ⟨L1, L2, _, _, rfl, rfl, hL1d, hL2d, aS (by simp; omega), fun C hC => ⟨by show 1 ≤ sizeLine; decide, fun D hD => ?_⟩⟩))
    have S5 := av.upd (o := .lst (ps1.map V.ref ++ ps2.map V.ref)) hC
    have S6 := av.upd (o := .lst [V.ref t]) hD
    refine .inl ⟨C, D, _, _, rfl, rfl, S6 _ _ aj, aj, aS (by simp; omega), fun L hL => ⟨by show 2 ≤ sizeLine; decide, fun t5 h5 => ?_⟩⟩
    have S7 := av.upd (o := .lst (ps1.map V.ref ++ ps2.map V.ref ++ [V.ref t])) hL
    have S8 := av.upd (o := .tup [kV y, V.ref L]) h5
    have SS := ((S5.trans S6).trans S7).trans S8
    have ml : ps1.map V.ref ++ ps2.map V.ref ++ [V.ref t] = (ps1 ++ ps2 ++ [t]).map V.ref := by simp
    have kk := sp2.tup (kt34.trans (aE.same SS))
    have hLx := S8 _ _ (aj (o := .lst (ps1.map V.ref ++ ps2.map V.ref ++ [V.ref t])))
    rw [ml] at hLx
    refine q t5 L y (ps1 ++ ps2 ++ [t]) (ts1 ++ ts2 ++ [[.inr "fork", .inl d, .inl x, y1, y2]]) g4 _ (((kt1.trans kt2).trans kt34).trans (aE.same SS)) (sp4.same (by show _ ≤ m + (dn l + dn r + 1); omega) SS) ((sub1.trans sub2).trans sub4) (by rw [aj]) (by rw [← ml] at hLx ⊢; exact hLx) (rn (uE (dm kk (dm (sp1.tup kt2) pk1)) (dm kk pk2)) ⟨SS _ _ htd, ok⟩) (fun h he => ?_) o1 (by show _ ≤ 252 + szP l + szP r; omega)
    have h2 := he.of sub4
    have h1 := h2.of sub2
    have ge := he _ _ gv
    refine ⟨?_, ?_⟩
    · rw [(e1 h h1).1, (e2 h h2).1, (e1 h h1).2, (e2 h h2).2]; rfl
    · rw [← ge, (e1 h h1).2, (e2 h h2).2]; rfl
def qa (P:Hp→V→Prop):Prop:=∀ H H' v,av H H'→P H v→P H' v
def kM (te:TE) (σ:L2.St) (H:Hp) (P:Hp→V→Prop):Prop:=∀ R:VK,(∀ v H',av H H'→P H' v→R v H')→te σ H R
def jk (t:TA) (σ:L2.St) (H:Hp) (P:Hp→V→Prop) (n:Nat):Prop:=∀ R:List V→Hp→Prop,(∀ xs H',av H H'→xs.length=n→(∀ x∈xs,P H' x)→R xs H')→t σ H R
theorem pE {σ:L2.St} {H:Hp} {P:Hp→V→Prop}:jk al σ H P 0:=fun R h=>h [] H (.refl H) rfl (fun x hx=>nomatch hx)
theorem bq {te:TE} {tr:TA} {σ:L2.St} {H:Hp} {P:Hp→V→Prop} {n:Nat} (mo:qa P) (h1:kM te σ H P) (h2:∀ H',av H H'→jk tr σ H' P n):jk (ae te tr) σ H P (n+1):=fun R h=>
 h1 _ fun v H1 s1 p1=>h2 H1 s1 _ fun xs H2 s2 hl p2=>h (v::xs) H2 (s1.trans s2) (by rw [List.length_cons,hl]) fun x hx=>by
  rcases List.mem_cons.mp hx with rfl | hx
  · exact mo _ _ _ s2 p1
  · exact p2 x hx
theorem jw {ta:TA} {σ:L2.St} {H:Hp} {P:Hp→V→Prop} (vs:List V) (hl:vs.length≤1000) (ht:∀ R,R vs H→ta σ H R) (hp:∀ p H',av H H'→H' p=some (.tup vs)→P H' (.ref p)):kM (br ta) σ H P:=fun R h=>
 ht _ ⟨aS (by omega),fun p hn=>h _ _ (av.upd hn) (hp p _ (av.upd hn) aj)⟩
theorem sC {ta:TA} {σ:L2.St} {H:Hp} {P:Hp→V→Prop} (vs:List V) (hl:vs.length≤1000) (ht:∀ R,R vs H→ta σ H R) (hp:∀ p H',av H H'→H' p=some (.lst vs)→P H' (.ref p)):kM (bJ ta) σ H P:=fun R h=>
 ht _ ⟨aS (by omega),fun p hn=>h _ _ (av.upd hn) (hp p _ (av.upd hn) aj)⟩
theorem eD {te:TE} {σ:L2.St} {H:Hp} {P:Hp→V→Prop} (v:V) (ht:∀ R,R v H→te σ H R) (hp:P H v):kM te σ H P:=fun R h=>ht _ (h v H (.refl H) hp)
theorem lJ {t:TA} {σ:L2.St} {H:Hp} {P:Hp→V→Prop} {n:Nat} {R:VK} (mo:qa P) (g:jk t σ H P n) (hn:n≤1000) (h:∀ p xs H',av H H'→H' p=some (.lst xs)→xs.length=n→(∀ x∈xs,P H' x)→R (.ref p) H'):bJ t σ H R:=
 g _ fun xs H1 s1 hl p1=>⟨aS (by omega),fun p hn=>h p xs _ (s1.trans (av.upd hn)) aj hl fun x hx=>mo _ _ _ (av.upd hn) (p1 x hx)⟩
theorem xM {K:W.Frag} {t:TA} {σ:L2.St} {H:Hp} {P:Hp→V→Prop} {n m:Nat} {i:Nat} {a:Addr} {ys:List V} {R:VK} (mo:qa P) (hi:σ[i]?=some (some (.ref a))) (ha:H a=some (.lst ys)) (hm:ys.length=m) (py:∀ y∈ys,P H y) (g:jk t σ H P n) (hn:m+n≤1000)
   (h:∀ p xs H',av H H'→H' p=some (.lst xs)→xs.length=m+n→(∀ x∈xs,P H' x)→R (.ref p) H'):tOp (aY K) (af i) (bJ t) σ H R:=by
 unfold tOp af
 rw [hi]
 refine lJ mo g (by omega) fun p xs H1 s1 hp hl p1=> .inl ⟨a,p,ys,xs,rfl,rfl,s1 _ _ ha,hp,aS (by omega),fun r hr=>?_⟩
 refine h r _ _ (s1.trans (av.upd hr)) aj (by rw [List.length_append];omega) fun x hx=>mo _ _ _ (av.upd hr) ?_
 rcases List.mem_append.mp hx with z | z
 · exact mo _ _ _ s1 (py x z)
 · exact p1 x z
def dE (B:Int) (H:Hp) (v:V):Prop:=∃ d,aU H v d∧bD B d=false
theorem dE.mono (B:Int):qa (dE B):=fun _ _ _ s ⟨d,w,h⟩=>⟨d,w.mono s,h⟩
theorem yC {σ:L2.St} {H:Hp} {P:Hp→V→Prop} (hp:∀ p H',av H H'→H' p=some (.dK [])→P H' (.ref p)):kM gZ σ H P:=fun R h=> .inl fun p hn=>h _ _ (av.upd hn) (hp p _ (av.upd hn) aj)
theorem Dr (K:W.Frag) (A:Adr):Ln (nE K A) 2:=by rintro vs H Q E ⟨B,c,rfl,_⟩;rfl
theorem Ej (T:Txt K mg A):Rd (nE K A) (JJ K A) ["_law_bits_here", "_law_cell", "_law_far"]:=by
 intro vs H Q E h
 obtain ⟨B,c,rfl,B1,B60,q⟩:=h
 have sh:(0:Int)≤B∧B.toNat≤100:=⟨by omega,by omega⟩
 refine ⟨⟨by omega,by omega,by decide⟩,⟨by decide,by decide,by decide⟩,by decide,?_⟩
 have p0:=eV B.toNat
 have m0:0≤c%10^40:=Int.emod_nonneg _ (by decide +kernel)
 have e1:(1:Int)*2^B.toNat=2^B.toNat:=Int.one_mul _
 show uQ K A _ [some (.int B),some (.int c),some (.int (1*2^B.toNat+c%10^40))] H
 rw [e1]
 have f0:2^B.toNat≤2^B.toNat+c%10^40:=by omega
 generalize 2^B.toNat+c%10^40=F at f0
 have no:∀ i:Int,(i<0∨2^B.toNat≤i)→bD B (.int i)=false:=fun i h=>decide_eq_false fun z=>by rcases h with h | h <;> omega
 refine lJ (dE.mono B) (n:=14) ?_ (by decide) fun L xs H1 S1 hL hl hx=>q L xs H1 S1 hL hl hx
 refine bq (dE.mono B) (eD (.int (-1)) (fun R h=>h) ⟨_,.int _,no _ (.inl (by decide))⟩) fun H1 S1=>?_
 refine bq (dE.mono B) (eD (.int (1*2^B.toNat)) (fun R h=>⟨⟨by omega,by omega,by decide⟩,h⟩) ⟨_,.int _,no _ (.inr (by omega))⟩) fun H2 S2=>?_
 refine bq (dE.mono B) (eD (.int F) (fun R h=>h) ⟨_,.int _,no _ (.inr f0)⟩) fun H3 S3=>?_
 refine bq (dE.mono B) (eD (.int (-F)) (fun R h=>h) ⟨_,.int _,no _ (.inl (by omega))⟩) fun H4 S4=>?_
 refine bq (dE.mono B) (eD (.bl true) (fun R h=>h) ⟨_,.bl _,rfl⟩) fun H5 S5=>?_
 refine bq (dE.mono B) (eD (.bl false) (fun R h=>h) ⟨_,.bl _,rfl⟩) fun H6 S6=>?_
 refine bq (dE.mono B) (eD .non (fun R h=>h) ⟨_,.non,rfl⟩) fun H7 S7=>?_
 refine bq (dE.mono B) (eD (.str "0") (fun R h=>h) ⟨_,.str _,rfl⟩) fun H8 S8=>?_
 refine bq (dE.mono B) (sC [.int 0] (by simp) (fun R h=>h) fun p H' S hp=>⟨_,.lst hp (.cons (.int 0) .nil),rfl⟩) fun H9 S9=>?_
 refine bq (dE.mono B) (jw [.int 0] (by simp) (fun R h=>h) fun p H' S hp=>⟨_,.tup hp (.cons (.int 0) .nil),rfl⟩) fun H10 S10=>?_
 refine bq (dE.mono B) (yC fun p H' S hp=>⟨_,.dic ⟨_,hp⟩,rfl⟩) fun H11 S11=>?_
 refine bq (dE.mono B) (eD (.str "") (fun R h=>h) ⟨_,.str _,rfl⟩) fun H12 S12=>?_
 refine bq (dE.mono B) (sC [] (by simp) (fun R h=>h) fun p H' S hp=>⟨_,.lst hp .nil,rfl⟩) fun H13 S13=>?_
 refine bq (dE.mono B) (jw [] (by simp) (fun R h=>h) fun p H' S hp=>⟨_,.tup hp .nil,rfl⟩) fun H14 S14=>?_
 exact pE
theorem Due.lt {H:Hp} {B:Int} {g:gOp} {way:Int} {m cm:Key} {v w u k:V} {i:Nat} (h:Due H B g way m cm v w u k i):i=0∨i=1∨i=2∨i=3:=by
 cases h <;> omega
theorem gr1 (i:Nat):1≤gr i:=by unfold gr;split <;> omega
theorem ET (K:W.Frag) (A:Adr):Ln (mi K A) 3:=by rintro vs H Q E ⟨_,_,_,_,_,_,_,_,_,_,rfl,_⟩;rfl
theorem IG (T : Txt K mg A) (vs : List V) (H : Hp) (Q : VK) (E : XK) (h : mi K A vs H Q E) : T_7 K A E { nx := fun _ H' => Q .non H', rt := Q } (L2.bL ["_law_way", "_law_by", "_law_asked", "_law_stamper", "_law_bits_here", "_law_mark_here", "_law_low", "_law_high", "_law_paper_here", "_law_key_here"] vs) H := by
  obtain ⟨way, y, z, f, b, m, cm, g, n, i, rfl, ⟨⟨wy, B, v, w, u, k, rfl, hy, hz, B1, B60, due⟩, s, hn⟩, q⟩ := h
  have g1 := gr1 i
  refine ⟨y, _, rfl, .inl (.inl hy), rfl, _, _, rfl, _, _, rfl, _, _, rfl, rfl, z, _, rfl, .inl (.inl hz), rfl, _, _, rfl, _, _, rfl, _, _, rfl, _, _, rfl, rfl, ?_⟩
  have qe0 : i ≠ 3 → ∀ od H', av H H' → E (.ref (cE A i)) od H' := fun ni od H' S => q od g H' (aE.same S) (s.same (by omega) S) Sub.rfl' fun e => absurd e ni
  have str : 0 ≤ wy → wy ≤ 3 → i ≠ 3 → ∀ R : Int → Int → Prop, (∀ lo hi d, i = 2 → dg B lo hi → v = .int lo → w = .int hi → aU H u d → dW d → eJ B d = false → 1 ≤ wy → R lo hi) → gy A H B v w E R := fun w0 w3 ni R hR => by
    cases due with
    | ends d e hd he h hw => exact .key d e hd he h (qe0 ni none H (.refl H))
    | key d hd h hw => omega
    | out lo hi kk hv hw hk en ok h h4 => omega
    | ord lo hi hv hw k1 k2 h ha => exact .ord lo hi hv hw k1 k2 h (qe0 ni none H (.refl H))
    | part lo hi d hv hw en hd ok h ha => exact .good lo hi hv hw en (hR lo hi d rfl en hv hw hd ok h (by rcases ha with ⟨a, _⟩ | ⟨a, _⟩ <;> omega))
    | broken => exact absurd rfl ni
  refine Sel.dec (fun h0 => ?_) (fun h0 => ?_)
  · have h0 : wy = 0 := h0
    have ni : i ≠ 3 := fun z => by subst z; cases due with | broken lo hi p hv hw pw h3 hc ne => omega
    obtain ⟨N, rfl⟩ : ∃ N : Nat, B = N := ⟨B.toNat, by omega⟩
    intro x dx hx hdx ne
    refine ⟨x, dx, f, b, g, n, N, rfl, aj, s.same (Nat.le_refl _) (iP hx hdx ne), by omega, by omega, by omega, fun g1' H1 k2 tb s1 sub => ⟨rfl, ?_⟩⟩
    have kb := qN hx hdx ne k2
    refine ⟨x, f, N, v, w, rfl, tb, by omega, by omega, ?_⟩
    have qe : E (.ref (cE A i)) none H1 := q none g1' H1 kb (s1.same (by omega) (.refl _)) sub fun e => absurd e ni
    cases due with
    | ends d e hd he h hw => exact .key d e (hd.kb s kb) (he.kb s kb) h qe
    | key d hd h hw => omega
    | out lo hi kk hv hw hk en ok h h4 => omega
    | ord lo hi hv hw k1 k2 h ha => exact .ord lo hi hv hw k1 k2 h qe
    | part lo hi d hv hw en hd ok h ha => rcases ha with ⟨a, _⟩ | ⟨a, _⟩ <;> omega
    | broken => exact absurd rfl ni
  refine Sel.dec (fun h1 => ?_) (fun h1 => ?_)
  · have h1 : wy = 1 := h1
    have ni : i ≠ 3 := fun z => by subst z; cases due with | broken lo hi p hv hw pw h3 hc ne => omega
    exact ⟨f, b, B, v, w, u, g, n, rfl, B1, B60, s, by omega, str (by omega) (by omega) ni _ fun lo hi d e2 en hv hw hd ok h _ => .bad d hd ok h fun dx H' S => by have := qe0 ni (some dx) H' S; rw [e2] at this; exact this⟩
  refine Sel.dec (fun h2 => ?_) (fun h2 => ?_)
  · have h2 : wy = 2 := h2
    have ni : i ≠ 3 := fun z => by subst z; cases due with | broken lo hi p hv hw pw h3 hc ne => omega
    exact ⟨f, b, B, v, w, u, g, n, rfl, B1, B60, s, by omega, str (by omega) (by omega) ni _ fun lo hi d e2 en hv hw hd ok h _ => .bad d hd ok h fun dx H' S => by have := qe0 ni (some dx) H' S; rw [e2] at this; exact this⟩
  refine Sel.dec (fun h3 => ?_) (fun h3 => ?_)
  · have h3 : wy = 3 := h3
    refine ⟨f, b, B, m, v, w, u, g, n, rfl, B1, B60, s, by omega, ?_⟩
    by_cases ni : i = 3
    · subst ni
      cases due with
      | broken lo hi p hv hw pw h3 hc ne =>
        refine .good lo hi hv hw pw.e (.good p pw fun x g1 H1 kb s1 sub ex => ⟨fun exm => ?_, fun _ dx H2 S2 hdx => ?_⟩)
        · exact absurd (show cm = m by rw [hc _ ((bV g1).of sub), ← ex _ (bV g1), exm]) ne
        · have exc : x = cm := by rw [hc _ ((bV g1).of sub), ← ex _ (bV g1)]
          subst exc
          exact q (some dx) g1 H2 (kb.trans (aE.same S2)) (s1.same (by show _ ≤ n + (if 3 = 3 then 201 else 1); rw [if_pos rfl]; omega) S2) sub fun _ => ⟨dx, rfl, hdx⟩
    · exact str (by omega) (by omega) ni _ fun lo hi d e2 en hv hw hd ok h _ => .bad d hd ok h fun dx H' S => by have := qe0 ni (some dx) H' S; rw [e2] at this; exact this
  · have ni : i ≠ 3 := fun z => by subst z; cases due with | broken lo hi p hv hw pw h3 hc ne => omega
    refine ⟨f, B, v, w, u, k, rfl, B1, B60, ?_⟩
    have qn := qe0 ni none H (.refl H)
    cases due with
    | ends d e hd he h hw =>
      rcases hw with hw | ⟨_, kk, hk, okk⟩
      · omega
      · exact .inr ⟨kk, hk, okk, .key d e hd he h qn⟩
    | key d hd h hw => exact .inl ⟨d, hd, h, qn⟩
    | out lo hi kk hv hw hk en ok h h4 => exact .inr ⟨kk, hk, ok, .good lo hi hv hw en (.inl ⟨h, qn⟩)⟩
    | ord lo hi hv hw k1 k2 h ha =>
      rcases ha with ha | ⟨_, kk, hk, okk⟩
      · omega
      · exact .inr ⟨kk, hk, okk, .ord lo hi hv hw k1 k2 h qn⟩
    | part lo hi d hv hw en hd ok h ha =>
      rcases ha with ha | ⟨_, kk, hk, k1, k2⟩
      · omega
      · have e1 := en.lo0
        have e2 := en.hi1
        exact .inr ⟨kk, hk, decide_eq_true ⟨by omega, by omega⟩, .good lo hi hv hw en (.inr ⟨k1, k2, .bad d hd ok h fun dx H' S => qe0 ni (some dx) H' S⟩)⟩
    | broken => exact absurd rfl ni
theorem eoE (T:Txt K mg A):∀ i:Nat,bX K (cE A i)
 | 0=>T.eo_NoKey
 | 1=>T.eo_NoStretch
 | 2=>T.eo_NoPart
 | i+3=>T.eo_Broken
theorem egE (T:Txt K mg A):∀ i:Nat,cK K (cE A i)
 | 0=>T.eg_NoKey
 | 1=>T.eg_NoStretch
 | 2=>T.eg_NoPart
 | i+3=>T.eg_Broken
theorem sbE (T:Txt K mg A):∀ i:Nat,bN K (cE A i) A.c_StampError=some true
 | 0=>T.sb_NoKey_StampError
 | 1=>T.sb_NoStretch_StampError
 | 2=>T.sb_NoPart_StampError
 | i+3=>T.sb_Broken_StampError
theorem kvE (T:Txt K mg A):∀ i:Nat,W.kitOne K (.ref (cE A i)) (.type "ValueError")=some true
 | 0=>T.ki_NoKey_ValueError
 | 1=>T.ki_NoStretch_ValueError
 | 2=>T.ki_NoPart_ValueError
 | i+3=>T.ki_Broken_ValueError
theorem Bz (K:W.Frag) (A:Adr):Ln (nN K A) 3:=by rintro vs H Q E ⟨_,_,_,_,_,_,_,_,_,_,rfl,_⟩;rfl
theorem Fh (T:Txt K mg A):Rd (nN K A) (IB K A) ["_law_way", "_law_by", "_law_asked", "_law_name_here"]:=by
 intro vs H Q E h
 obtain ⟨way,y,z,f,b,m,cm,g,n,i,rfl,ak,q⟩:=h
 obtain ⟨wy,B,v,w,u,k,rfl,hy,hz,B1,B60,due⟩:=ak.hv
 refine ⟨_,y,z,f,b,m,cm,g,n,i,rfl,ak,fun od g1 H1 kb s1 sub _=>⟨cE A i,rfl,eoE T i,?_⟩⟩
 have q:=q g1 H1 kb s1 sub
 rcases due.lt with rfl | rfl | rfl | rfl
 · exact ⟨true,T.sb_NoKey_NoKey,Sel.t q⟩
 · exact ⟨false,T.sb_NoStretch_NoKey,Sel.f ⟨true,T.sb_NoStretch_NoStretch,Sel.t q⟩⟩
 · exact ⟨false,T.sb_NoPart_NoKey,Sel.f ⟨false,T.sb_NoPart_NoStretch,Sel.f ⟨true,T.sb_NoPart_NoPart,Sel.t q⟩⟩⟩
 · exact ⟨false,T.sb_Broken_NoKey,Sel.f ⟨false,T.sb_Broken_NoStretch,Sel.f ⟨false,T.sb_Broken_NoPart,Sel.f ⟨true,T.sb_Broken_Broken,Sel.t q⟩⟩⟩⟩
theorem AO {i:Nat} {σ:L2.St} {H:Hp} {Q:VK} {v:V} (h:σ[i]?=some (some v)) (q:Q v H):af i σ H Q:=by
 unfold af;rw [h];exact q
theorem Dk (K:W.Frag) (A:Adr):Ln (nS K A) 3:=by rintro vs H Q E ⟨_,_,_,_,_,_,_,_,_,_,rfl,_⟩;rfl
theorem EA (T:Txt K mg A):Rd (nS K A) (IE K A) ["_law_way", "_law_by", "_law_asked", "_law_kinds_here", "e"]:=by
 intro vs H Q E h
 obtain ⟨way,y,z,f,b,m,cm,g,n,i,rfl,ak,q⟩:=h
 obtain ⟨wy,B,v,w,u,k,rfl,hy,hz,B1,B60,due⟩:=ak.hv
 refine ⟨_,y,z,f,b,m,cm,g,n,i,rfl,ak,fun od g1 H1 kb s1 sub _=>⟨cE A i,rfl,eoE T i,true,sbE T i,Sel.t fun a ha=>?_⟩⟩
 have k4:W.kitOne K (.ref (cE A i)) (.ref A.c_NoKey)=some (i==0)∧W.kitOne K (.ref (cE A i)) (.ref A.c_NoStretch)=some (i==1)∧W.kitOne K (.ref (cE A i)) (.ref A.c_NoPart)=some (i==2)∧W.kitOne K (.ref (cE A i)) (.ref A.c_Broken)=some (i==3):=by
  rcases due.lt with rfl | rfl | rfl | rfl
  · exact ⟨T.ki_NoKey_NoKey,T.ki_NoKey_NoStretch,T.ki_NoKey_NoPart,T.ki_NoKey_Broken⟩
  · exact ⟨T.ki_NoStretch_NoKey,T.ki_NoStretch_NoStretch,T.ki_NoStretch_NoPart,T.ki_NoStretch_Broken⟩
  · exact ⟨T.ki_NoPart_NoKey,T.ki_NoPart_NoStretch,T.ki_NoPart_NoPart,T.ki_NoPart_Broken⟩
  · exact ⟨T.ki_Broken_NoKey,T.ki_Broken_NoStretch,T.ki_Broken_NoPart,T.ki_Broken_Broken⟩
 have S1:=av.upd (o:=gs (cE A i) od a) ha
 refine ⟨a,cE A i,od,true,_,_,rfl,aj,eoE T i,egE T i,rfl,fun _ h=>h,kvE T i,?_⟩
 refine ⟨a,cE A i,od,_,_,_,rfl,aj,eoE T i,egE T i,rfl,fun _ h=>h,k4.1,?_⟩
 refine ⟨a,cE A i,od,_,_,_,rfl,aj,eoE T i,egE T i,rfl,fun _ h=>h,k4.2.1,?_⟩
 refine ⟨aS (show 3≤1000000 by decide),fun p hp=>?_⟩
 have S2:=av.upd (o:=.lst [.bl true,.bl (i==0),.bl (i==1)]) hp
 have ha2:upd (upd H1 a (gs (cE A i) od a)) p (.lst [.bl true,.bl (i==0),.bl (i==1)]) a=some (gs (cE A i) od a):=S2 _ _ aj
 refine ⟨a,cE A i,od,_,_,_,rfl,ha2,eoE T i,egE T i,rfl,fun _ h=>h,k4.2.2.1,?_⟩
 refine ⟨a,cE A i,od,_,_,_,rfl,ha2,eoE T i,egE T i,rfl,fun _ h=>h,k4.2.2.2,?_⟩
 refine ⟨aS (show 2≤1000000 by decide),fun r hr=>?_⟩
 have S3:=av.upd (o:=.lst [.bl (i==2),.bl (i==3)]) hr
 refine .inl ⟨p,r,_,_,rfl,rfl,S3 _ _ aj,aj,aS (show 5≤1000000 by decide),fun t ht=>?_⟩
 have S:=S1.trans (S2.trans (S3.trans (av.upd (o:=.lst [.bl true,.bl (i==0),.bl (i==1),.bl (i==2),.bl (i==3)]) ht)))
 exact q t g1 _ (kb.trans (aE.same S)) (s1.same (Nat.le_refl _) S) sub aj
theorem Bj (K:W.Frag) (A:Adr):Ln (nX K A) 2:=by rintro vs H Q E ⟨_,_,_,_,_,_,_,_,_,_,_,_,_,_,rfl,_⟩;rfl
theorem Ho (T:Txt K mg A):Rd (nX K A) (Ju K A) ["_law_by", "_law_asked", "_law_found", "e"]:=by
 intro vs H Q E h
 obtain ⟨y,z,f,b,B,lo,hi,m,came,u,k,p,g,n,rfl,hy,hz,pw,s,hn,hc,ne,q⟩:=h
 refine ⟨_,y,z,f,b,m,came,g,n,3,rfl,⟨⟨3,B,_,_,u,k,rfl,hy,hz,pw.e.b1,pw.e.b60,.broken lo hi p rfl rfl pw rfl hc ne⟩,s,hn⟩,fun od g1 H1 kb s1 sub hd=>?_⟩
 obtain ⟨dx,rfl,hdx⟩:=hd rfl
 refine ⟨A.c_Broken,rfl,T.eo_Broken,true,T.sb_Broken_Broken,Sel.t fun a ha=>?_⟩
 have nd:dx≠a:=aD hdx ha
 have hx:upd H1 a (gs A.c_Broken (some dx) a) dx=some (fw (cF "came" (kV came) [("due",kV m)]) dx):=by rw [au nd];exact hdx
 refine ⟨a,A.c_Broken,dx,_,kV m,rfl,aj,hx,T.ef_Broken_due,rfl,a,A.c_Broken,dx,_,kV came,rfl,aj,hx,T.ef_Broken_came,rfl,aS (show 2≤1000000 by decide),fun r hr=>?_⟩
 have S:=(av.upd (o:=gs A.c_Broken (some dx) a) ha).trans (av.upd (o:=.tup [kV m,kV came]) hr)
 exact q r g1 _ (kb.trans (aE.same S)) (s1.same (Nat.le_refl _) S) sub aj
theorem je.kb {H H':Hp} {way:V} {y z b f:Addr} {m cm:Key} {g g':gOp} {n n' i:Nat} (h:je A H way y z b f m cm g n i) (k:aE b H H') (s:Stp A H' f b g' n') (hn:n'≤35000) (sub:Sub g g'):je A H' way y z b f m cm g' n' i:=by
 obtain ⟨⟨wy,B,v,w,u,kk,e,hy,hz,B1,B60,due⟩,s0,_⟩:=h
 refine ⟨⟨wy,B,v,w,u,kk,e,s0.tup k _ _ hy,s0.tup k _ _ hz,B1,B60,?_⟩,s,hn⟩
 cases due with
 | ends d e hd he h hw=>exact .ends d e (hd.kb s0 k) (he.kb s0 k) h hw
 | key d hd h hw=>exact .key d (hd.kb s0 k) h hw
 | out lo hi kk hv hw hk en ok h h4=>exact .out lo hi kk hv hw hk en ok h h4
 | ord lo hi hv hw k1 k2 h ha=>exact .ord lo hi hv hw k1 k2 h ha
 | part lo hi d hv hw en hd ok h ha=>exact .part lo hi d hv hw en (hd.kb s0 k) ok h ha
 | broken lo hi p hv hw pw h3 hc ne=>exact .broken lo hi p hv hw (pw.mono (s0.tup k)) h3 (fun h he=>hc h (he.of sub)) ne
theorem Fb {H:Hp} {Q:VK} {L p:Addr} {b2 b3 b4 b5:Bool} (hL:H L=some (.lst [.bl true,.bl b2,.bl b3,.bl b4,.bl b5])) (hp:H p=some (.lst [.bl true,.bl b2,.bl b3,.bl b4,.bl b5])) (q:Q (.bl true) H):bu K (.ref L) (.ref p) H Q:=by
 have w:∀ a,H a=some (.lst [.bl true,.bl b2,.bl b3,.bl b4,.bl b5])→aU H (.ref a) (.lst [.bl true,.bl b2,.bl b3,.bl b4,.bl b5]):=fun a h=> .lst h (.cons (.bl _) (.cons (.bl _) (.cons (.bl _) (.cons (.bl _) (.cons (.bl _) .nil)))))
 refine .inr (.inl ⟨_,_,(w L hL).toV rfl,(w p hp).toV rfl,du rfl,du rfl,(by show 1≤150;decide),?_⟩)
 have e:(bS (.lst [.bl true,.bl b2,.bl b3,.bl b4,.bl b5])).eqv (bS (.lst [.bl true,.bl b2,.bl b3,.bl b4,.bl b5]))=true:=by cases b2 <;> cases b3 <;> cases b4 <;> cases b5 <;> decide
 rw [e];exact q
theorem HS {i j:Nat} (hi:i<4) (hj:j<4):decide (nmE i=nmE j)=(i==j):=by
 have:∀ i:Fin 4,∀ j:Fin 4,decide (nmE i.1=nmE j.1)=(i.1==j.1):=by decide +kernel
 exact this ⟨i,hi⟩ ⟨j,hj⟩
theorem BO (K:W.Frag) (A:Adr):Ln (dY K A) 4:=by rintro vs H Q E ⟨_,_,_,_,_,_,_,_,_,_,rfl,_⟩;rfl
theorem FT (T:Txt K mg A):Rd (dY K A) (Ic K A) ["_law_name_here", "_law_way", "_law_by", "_law_asked", "_law_due"]:=by
 intro vs H Q E h
 obtain ⟨way,y,z,f,b,m,cm,g,n,i,rfl,i4,ak,hn,q⟩:=h
 have g201:gr i≤201:=by unfold gr;split <;> omega
 refine ⟨way,y,z,f,b,m,cm,g,n,i,rfl,ak,fun g1 H1 kb1 s1 sub1=>?_⟩
 refine AO rfl (vY (a:=.inr (nmE i)) ?_)
 refine Sel.no rfl ?_
 refine ⟨by show 1≤sizeLine;decide,fun L1 hL1=>⟨by show 4≤sizeLine;decide,fun L2' hL2=>⟨L2',rfl,.inl ⟨⟨_,SqL.of aj⟩,fun D hD=>?_⟩⟩⟩⟩
 have S1:=av.upd (o:=.lst [.bl true]) hL1
 have S2:=av.upd (o:=.lst [.str "key",.str "stretch",.str "part",.str "broken"]) hL2
 have hL1':upd (upd H1 L1 (.lst [.bl true])) L2' (.lst [.str "key",.str "stretch",.str "part",.str "broken"]) L1=some (.lst [.bl true]):=S2 _ _ aj
 have hL2':upd (upd H1 L1 (.lst [.bl true])) L2' (.lst [.str "key",.str "stretch",.str "part",.str "broken"]) L2'=some (.lst ([0,1,2,3].map fun j=>V.str (nmE j))):=aj
 have S12:=S1.trans S2
 generalize upd (upd H1 L1 (.lst [.bl true])) L2' (.lst [.str "key",.str "stretch",.str "part",.str "broken"])=H2 at hD hL1' hL2' S12
 refine gn (eA.list (xs:=[0,1,2,3].map fun j=>V.str (nmE j)) .non) (fun j ys H'=>av H2 H'∧H' D=some (.lst ys)∧ys=(List.range j).map fun j=>V.bl (i==j)) (fun j ys H' _ ⟨S3,_⟩=>SqL.of (S3 _ _ hL2')) ⟨av.upd hD,aj,rfl⟩ ?_ ?_
 · rintro j ys H3 hj ⟨S3,hD3,rfl⟩
   have hj4:j<4:=hj
   have e0:([0,1,2,3].map fun j=>V.str (nmE j)).getD j .non=.str (nmE j):=by
     rcases (show j=0∨j=1∨j=2∨j=3 by omega) with rfl | rfl | rfl | rfl <;> rfl
   rw [e0]
   refine sr ?_
   show H3 D=_∧_
   rw [HS i4 hj4]
   refine ⟨hD3,by rw [List.length_map,List.length_range];exact iV (by omega),CWd.next hj ⟨fun z o ez=>?_,aj,?_⟩⟩
   · rw [au (aD ez hD)];exact S3 _ _ ez
   · rw [List.range_succ,List.map_append];rfl
 · rintro ys H3 ⟨S3,hD3,rfl⟩
   refine .inl ⟨L1,D,_,_,rfl,rfl,S3 _ _ hL1',hD3,by show 1+4≤sizeLine;decide,fun L4 hL4=>?_⟩
   have S4:=av.upd (o:=.lst ([.bl true]++(List.range 4).map fun j=>V.bl (i==j))) hL4
   have S14:=S12.trans (S3.trans S4)
   have hL4':upd H3 L4 (.lst ([.bl true]++(List.range 4).map fun j=>V.bl (i==j))) L4=some (.lst [.bl true,.bl (i==0),.bl (i==1),.bl (i==2),.bl (i==3)]):=aj
   have ak4:=ak.kb (kb1.trans (aE.same S14)) (s1.same (Nat.le_refl _) S14) (by omega) sub1
   have s4:=ak4.s
   show vA K A _ [some (.str (nmE i)),some way,some (.ref y),some (.ref z),some (.ref L4)] (upd H3 L4 (.lst ([.bl true]++(List.range 4).map fun j=>V.bl (i==j))))
   generalize upd H3 L4 (.lst ([.bl true]++(List.range 4).map fun j=>V.bl (i==j)))=H4 at S14 hL4' ak4 s4
   refine ⟨way,y,z,f,b,m,cm,g1,n+gr i,i,rfl,ak4,fun L5 g5 H5 kb5 s5 sub5 hL5=>?_⟩
   exact Fb hL5 (s4.lst kb5 _ _ hL4') (q g5 H5 (kb1.trans ((aE.same S14).trans kb5)) (s5.same (by omega) (.refl _)) (sub1.trans sub5))
theorem AN (K:W.Frag) (A:Adr):Ln (ol K A) 3:=by rintro vs H Q E ⟨_,_,_,_,_,_,_,_,_,_,_,_,_,_,rfl,_⟩;rfl
theorem Gb (T:Txt K mg A):Rd (ol K A) (Je K A) ["_law_by", "_law_came", "_law_asked", "_law_found"]:=by
 intro vs H Q E h
 obtain ⟨y,z,f,b,B,lo,hi,m,came,u,k,p,g,n,rfl,hy,hz,pw,s,hn,hc,ne,q⟩:=h
 have g3:gr 3=201:=rfl
 refine ⟨_,y,z,f,b,m,came,g,n,3,rfl,by decide,⟨⟨3,B,_,_,u,k,rfl,hy,hz,pw.e.b1,pw.e.b60,.broken lo hi p rfl rfl pw rfl hc ne⟩,s,by omega⟩,by omega,fun g1 H1 kb1 s1 sub1=>Sel.no rfl ?_⟩
 rw [g3] at s1
 have kt1:=s.tup kb1
 refine ⟨y,z,f,b,B,lo,hi,m,came,u,k,p,g1,_,rfl,kt1 _ _ hy,kt1 _ _ hz,pw.mono kt1,s1,by omega,fun h he=>hc h (he.of sub1),ne,fun r g2 H2 kb2 s2 sub2 hr=>?_⟩
 refine Sel.no rfl (ixT (j:=0) hr rfl rfl (ixT (j:=2) (s1.tup kb2 _ _ (kt1 _ _ hy)) rfl rfl ⟨m,rfl,Sel.no rfl (ixT (j:=1) hr rfl rfl ⟨came,rfl,q g2 H2 (kb1.trans kb2) (s2.same (by omega) (.refl _)) (sub1.trans sub2)⟩)⟩))
theorem CK (K:W.Frag) (A:Adr):Ln (nv K A) 5:=by rintro vs H Q E ⟨_,_,_,_,_,_,_,_,_,_,_,rfl,_⟩;rfl
theorem FE (T:Txt K mg A):Rd (nv K A) (IP K A) ["_law_by", "_law_low", "_law_high", "_law_bad", "_law_key_here"]:=by
 intro vs H Q E h
 obtain ⟨y,f,b,B,lo,hi,kk,m,u,g,n,rfl,⟨hy,en,s⟩,hn,q⟩:=h
 have b1:=en.b1
 have b60:=en.b60
 have l0:=en.lo0
 have lh:=en.le
 have h1:=en.hi1
 have bz:∀ (g1:gOp) (H1:Hp) (n1:Nat),aE b H H1→Stp A H1 f b g1 n1→n1≤n+2→Sub g g1→kT K A { nx:=fun _ H'=>Q .non H',rt:=Q } [some (.ref y),some (.int lo),some (.int hi),some u,some (.int kk)] H1:=fun g1 H1 n1 kb1 s1 hn1 sub1=>by
   have hy1:=s.tup kb1 _ _ hy
   have fin:vB K A { nx:=fun _ H'=>Q .non H',rt:=Q } [some (.ref y),some (.int lo),some (.int hi),some u,some (.int kk)] H1:=q g1 H1 kb1 (s1.same (by omega) (.refl _)) sub1
   refine Sel.dec (fun hl=>?_) (fun _=>Sel.f fin)
   have hl:lo<hi:=hl
   refine Sel.dec (fun h0=>?_) (fun _=>Sel.f fin)
   refine ixT (j:=1) hy1 rfl rfl ⟨⟨by omega,by omega,by decide⟩,?_⟩
   refine Sel.dec (fun hk=>?_) (fun _=>fin)
   rw [Int.one_mul] at hk
   refine ⟨by show 4≤sizeLine;decide,fun z hz=>?_⟩
   have S2:=av.upd (o:=.tup [.int hi,.int lo,u,.int kk]) hz
   refine ⟨_,y,z,f,b,m,m,g1,n1,1,rfl,by decide,⟨⟨4,B,_,_,_,_,rfl,S2 _ _ hy1,aj,b1,b60,.ord hi lo rfl rfl (decide_eq_true ⟨by omega,by omega⟩) (decide_eq_true ⟨by omega,by omega⟩) hl (.inr ⟨rfl,kk,rfl,decide_eq_true ⟨h0,hk⟩⟩)⟩,s1.same (Nat.le_refl _) S2,by omega⟩,by omega,fun g3 H3 kb3 s3 sub3=>?_⟩
   exact q g3 H3 (kb1.trans ((aE.same S2).trans kb3)) (s3.same (by show n1+2*1≤_;omega) (.refl _)) (sub1.trans sub3)
 have ask:¬ (lo≤kk∧kk≤hi)→(bA (bC K (ar (dY K A) (fun _=>E0) (ae (tC (.str "key")) (ae (tC (.int 4)) (ae (af 0) (ae (br (ae (af 1) (ae (af 2) (ae (af 3) (ae (af 4) (al)))))) (al)))))))) [some (.ref y),some (.int lo),some (.int hi),some u,some (.int kk)] H fun c H1=>Sel c ((aB (tC (.bl false))) { nx:=kT K A { nx:=fun _ H'=>Q .non H',rt:=Q },rt:=Q } [some (.ref y),some (.int lo),some (.int hi),some u,some (.int kk)] H1) (kT K A { nx:=fun _ H'=>Q .non H',rt:=Q } [some (.ref y),some (.int lo),some (.int hi),some u,some (.int kk)] H1):=fun no=>by
   refine ⟨by show 4≤sizeLine;decide,fun z hz=>?_⟩
   have S2:=av.upd (o:=.tup [.int lo,.int hi,u,.int kk]) hz
   refine ⟨_,y,z,f,b,m,m,g,n,0,rfl,by decide,⟨⟨4,B,_,_,_,_,rfl,S2 _ _ hy,aj,b1,b60,?_⟩,s.same (Nat.le_refl _) S2,by omega⟩,by omega,fun g3 H3 kb3 s3 sub3=>Sel.no rfl (bz g3 H3 _ ((aE.same S2).trans kb3) s3 (by show n+2*1≤_;omega) sub3)⟩
   cases hk:bD B (.int kk) with
   | false=>exact .key (.int kk) (.int kk) hk rfl
   | true=>exact .out lo hi kk rfl rfl rfl en hk no rfl
 refine Sel.dec (fun h1=>?_) (fun h1=>?_)
 · have h1:lo≤kk:=h1
   by_cases h2:kk≤hi
   · refine Sel.no (by rw [decide_eq_true h2];rfl) (Sel.f (bz g H n aE.rfl' s (by omega) Sub.rfl'))
   · refine Sel.yes (by rw [decide_eq_false h2];rfl) (ask fun z=>h2 z.2)
 · exact Sel.t (ask fun z=>h1 z.1)
def iW (B:Int) (H:Hp) (v:V):Prop:=∃ d,aU H v d∧dW d∧eJ B d=false
theorem iW.mono (B:Int):qa (iW B):=fun _ _ _ s ⟨d,w,h⟩=>⟨d,w.mono s,h⟩
theorem kB {H : Hp} {v : V} {B lo hi : Int} {p : aV} (w : cj H v B lo hi p) : ∃ a xs ds, v = .ref a ∧ H a = some (.tup xs) ∧ DatWs H xs ds ∧ okDs ds = true ∧ PyData.depthAll (toPys ds) ≤ 100 ∧ 1 ≤ xs.length ∧ xs.length ≤ 5 ∧ eJ B (.tup (ds ++ [.int 1])) = false ∧ eJ B (.tup ds.dropLast) = false ∧ okDs ds.dropLast = true ∧ PyData.depthAll (toPys ds.dropLast) ≤ 100 := by
  have nc := w.nc
  have dp := iU p
  have t := w.t
  have ok := ki w.w.ok (by have := w.e.b1; omega)
  have ww := w.w.w
  have cnt : ∀ {xs : List V} {ds : List Dat}, DatWs H xs ds → xs.length = ds.length := fun h => h.len
  cases p with
  | cut c => cases nc
  | bare =>
    cases ww with
    | tup hh r => exact ⟨_, _, _, rfl, hh, r, ok, by decide, by rw [cnt r]; decide, by rw [cnt r]; decide, rfl, rfl, rfl, by decide⟩
  | leaf k z =>
    cases ww with
    | tup hh r =>
      refine ⟨_, _, _, rfl, hh, r, ok, by show max 0 (max 0 (max 0 0)) ≤ 100; decide, by rw [cnt r]; simp, by rw [cnt r]; simp, rfl, rfl, ?_, by show max 0 (max 0 0) ≤ 100; decide⟩
      show (okD (.str "leaf") && (true && true)) = true
      rw [pI]; rfl
  | fork e x l r =>
    have dp : max 0 (max 0 (max 0 (max (bS (bg l)).depth (max (bS (bg r)).depth 0)))) + 1 ≤ cr (.fork e x l r) + 1 := dp
    have ok' : (okD (.str "fork") && (true && (true && (okD (bg l) && (okD (bg r) && true))))) = true := ok
    cases ww with
    | tup hh r' =>
      refine ⟨_, _, _, rfl, hh, r', ok, ?_, by rw [cnt r']; simp, by rw [cnt r']; simp, rfl, rfl, ?_, ?_⟩
      · show max 0 (max 0 (max 0 (max (bS (bg l)).depth (max (bS (bg r)).depth 0)))) ≤ 100
        omega
      · show (okD (.str "fork") && (true && (true && (okD (bg l) && true)))) = true
        simp only [Bool.and_eq_true] at ok' ⊢
        exact ⟨ok'.1, trivial, trivial, ok'.2.2.2.1, trivial⟩
      · show max 0 (max 0 (max 0 (max (bS (bg l)).depth 0))) ≤ 100
        omega
theorem qP {i : Int} {n : Nat} : ∀ {a : List Dat}, PyData.depthAll (toPys a) ≤ n → PyData.depthAll (toPys (a ++ [.int i])) ≤ n
  | [], _ => Nat.zero_le _
  | x :: r, h => by
    have h : max (bS x).depth (PyData.depthAll (toPys r)) ≤ n := h
    show max (bS x).depth (PyData.depthAll (toPys (r ++ [.int i]))) ≤ n
    have := qP (i := i) (a := r) (n := n) (by omega)
    omega
theorem wj {xs:List V} (h:1≤xs.length):cM xs none (some (-1))=xs.dropLast:=by
 unfold cM
 rw [HT.wg]
 have e:HT.sIx xs.length xs.length (some (-1))=xs.length - 1:=by
  show (if (-1:Int)<0 then ((-1:Int)+(xs.length:Int)).toNat else min (-1:Int).toNat xs.length)=_
  rw [if_pos (by decide)];omega
 rw [e,List.drop_zero,Nat.sub_zero,List.dropLast_eq_take]
theorem DatWs.dropL {H:Hp}:∀ {xs:List V} {ds:List Dat},DatWs H xs ds→DatWs H xs.dropLast ds.dropLast
 | _,_,.nil=> .nil
 | _,_,.cons a .nil=> .nil
 | _,_,.cons a (.cons b r)=> .cons a (DatWs.dropL (.cons b r))
theorem BI (K:W.Frag) (A:Adr):Ln (nH K A) 1:=by rintro vs H Q E ⟨_,_,_,_,_,rfl,_⟩;rfl
theorem Hh (T:Txt K mg A):Rd (nH K A) (CI K A) ["_law_paper_here", "_law_some"]:=by
 intro vs H Q E h
 obtain ⟨v,B,lo,hi,p,rfl,w,q⟩:=h
 obtain ⟨a,xs,ds,rfl,ha,wd,ok,dp,l1,l5,e1,e2,e3,e4⟩:=kB w
 have mo:=iW.mono B
 have one:∀ {d:Dat},okD d=true→(bS d).depth≤140→dW d:=fun a b=> .inl ⟨a,b⟩
 unfold CI aw aH
 refine lJ mo (n:=10) ?_ (by decide) fun L1 ys1 H1 S1 hL1 hl1 hy1=>?_
 · refine bq mo (eD .non (fun R h=>h) ⟨_,.non,one rfl (by decide),rfl⟩) fun H1 S1=>?_
   refine bq mo (jw [] (by simp) (fun R h=>h) fun p H' S hp=>⟨_,.tup hp .nil,one rfl (by decide),rfl⟩) fun H2 S2=>?_
   refine bq mo (sC [] (by simp) (fun R h=>h) fun p H' S hp=>⟨_,.lst hp .nil,one rfl (by decide),rfl⟩) fun H3 S3=>?_
   refine bq mo (eD (.str "") (fun R h=>h) ⟨_,.str _,one (by decide +kernel) (by decide),rfl⟩) fun H4 S4=>?_
   refine bq mo (eD (.int 0) (fun R h=>h) ⟨_,.int _,one rfl (by decide),rfl⟩) fun H5 S5=>?_
   refine bq mo (eD (.bl true) (fun R h=>h) ⟨_,.bl _,one rfl (by decide),rfl⟩) fun H6 S6=>?_
   refine bq mo (yC fun p H' S hp=>⟨_,.dic ⟨_,hp⟩,.inr rfl,rfl⟩) fun H7 S7=>?_
   have S17:=S1.trans (S2.trans (S3.trans (S4.trans (S5.trans (S6.trans S7)))))
   refine bq mo (fun R h=>⟨a,xs,rfl,.inr (SqT.of (S17 _ _ ha)),fun l hl=>h _ _ (av.upd hl) ⟨.lst ds,.lst aj (wd.mono (S17.trans (av.upd hl))),one ok (by show PyData.depthAll (toPys ds)+1≤140;omega),rfl⟩⟩) fun H8 S8=>?_
   have S18:=S17.trans S8
   refine bq mo (jw [.ref a] (by simp) (fun R h=>h) fun p H' S hp=>⟨.tup [.tup ds],.tup hp (.cons (.tup ((S18.trans S) _ _ ha) (wd.mono (S18.trans S))) .nil),one (by show (okDs ds&&true)=true;rw [ok];rfl) (by show max (PyData.depthAll (toPys ds)+1) 0+1≤140;omega),rfl⟩) fun H9 S9=>?_
   have S19:=S18.trans S9
   refine bq mo (fun R h=>⟨aS (show 1≤1000000 by decide),fun t ht=>?_⟩) fun H10 S10=>pE
   have St:=av.upd (o:=.tup [.int 1]) ht
   refine .inr ⟨a,t,xs,[.int 1],rfl,rfl,(S19.trans St) _ _ ha,aj,aS (by show xs.length+1≤1000000;omega),fun r H' S hr=>h _ _ (St.trans S) ⟨.tup (ds++[.int 1]),.tup hr ((wd.mono (S19.trans (St.trans S))).append (.cons (.int 1) .nil)),one (oJ ok rfl) ?_,e1⟩⟩
   have:=qP (i:=1) dp
   show PyData.depthAll (toPys (ds++[.int 1]))+1≤140
   omega
 show oG K A _ [some (.ref a),some (.ref L1)] H1
 unfold oG aB
 refine xM mo (i:=1) (σ:=[some (.ref a),some (.ref L1)]) (a:=L1) rfl hL1 hl1 hy1 (n:=3) ?_ (by decide) fun L xs H' S hL hl hx=>q L xs H' (S1.trans S) hL hl hx
 refine bq mo (jw [.str "cut",.int 3] (by simp) (fun R h=>h) fun p H' S hp=>⟨_,.tup hp (.cons (.str _) (.cons (.int 3) .nil)),one (by decide +kernel) (by decide),rfl⟩) fun H2 S2=>?_
 refine bq mo (jw [.str "Leaf",.int 0,.str ""] (by simp) (fun R h=>h) fun p H' S hp=>⟨.tup [.str "Leaf",.int 0,.str ""],.tup hp (.cons (.str _) (.cons (.int 0) (.cons (.str _) .nil))),one (by decide +kernel) (by decide),?_⟩) fun H3 S3=>?_
 · have e0:cB "leaf" (.str "Leaf")=false:=by decide +kernel
   show (dI B 0 0 (.tup [.str "Leaf",.int 0,.str ""])||false)=false
   simp only [dI,e0,Bool.false_and]
   rfl
 have S13:=S1.trans (S2.trans S3)
 refine bq mo (fun R h=>⟨-1,rfl,?_⟩) fun H4 S4=>pE
 refine .inl (.inr ⟨a,xs,rfl,S13 _ _ ha,fun r H' S hr=>h _ _ S ⟨.tup ds.dropLast,.tup (by rw [← wj l1];exact hr) (wd.mono (S13.trans S)).dropL,one e3 (by show PyData.depthAll (toPys ds.dropLast)+1≤140;omega),e2⟩⟩)
theorem wm {H:Hp} {Q:VK} {a:Addr} {xs:List V} {i:Int} (ha:H a=some (.lst xs)) (h0:0≤i) (h1:i<xs.length) (q:∀ v∈xs,Q v H):aG K (.ref a) (.int i) H Q:=by
 obtain ⟨v,hv⟩:=ph h0 h1
 obtain ⟨j,_,hj,_⟩:=gp hv
 exact .inl (.inl ⟨a,xs,i,v,rfl,rfl,SqL.of ha,hv,q v (List.mem_of_getElem? hj)⟩)
theorem vG (p:aV):(bS (bg p)).eqv (bS (bg p))=true:=by
 induction p with
 | cut m=>cases m <;> simp [bg,dk,bS,toPys,PyData.eqv,PyData.eqvAll]
 | bare=>simp [bg,bS,toPys,PyData.eqv,PyData.eqvAll]
 | leaf k z=>simp [bg,bS,toPys,PyData.eqv,PyData.eqvAll]
 | fork d b l r hl hr=>simp [bg,bS,toPys,PyData.eqv,PyData.eqvAll,hl,hr]
theorem vV {H:Hp} {x u:V} {B lo hi:Int} {p:aV} {Q:VK} (h:x=u∨iW B H x) (w:cj H u B lo hi p) (q:∀ b,(b=true→iW B H x)→Q (.bl b) H):rR K x u H Q:=by
 have ok:=ki w.w.ok (by have:=w.e.b1;omega)
 have pd:=iU p
 have t:=w.t
 obtain ⟨a,xs,ds,rfl,ha,_⟩:=kB w
 have wv:dQ K H (.ref a) (bS (bg p)):=w.w.w.toV ok
 rcases h with rfl | bad
 · refine .inl ?_
   show oQ K (.ref a) (.ref a) H Q
   exact ⟨_,_,wv,wv,du ok,du ok,by omega,by rw [vG];exact q false (fun z=>nomatch z)⟩
 · have bad':=bad
   obtain ⟨d,wd,e,_⟩:=bad'
   rcases e with ⟨o,dd⟩ | rfl
   · have r:oQ K x (.ref a) H Q:=⟨_,_,wd.toV o,wv,du o,du ok,by omega,q _ fun _=>bad⟩
     refine .inl ?_
     cases wd <;> exact r
   · cases wd with
     | dic hk=>exact .inr ⟨_,a,xs,rfl,rfl,.inl hk,SqT.of ha,q true fun _=>bad⟩
structure OC (A:Adr) (H:Hp) (y f b:Addr) (B lo hi:Int) (m:Key) (bk bad u:V) (p:aV) (g:gOp) (n:Nat):Prop where
 o:wB A H y f b B lo hi m g n
 k:dE B H bk
 pw:cj H u B lo hi p
 x:bad=u∨iW B H bad
theorem OC.kb {H H':Hp} {y f b:Addr} {B lo hi:Int} {m:Key} {bk bad u:V} {p:aV} {g g':gOp} {n n':Nat} (c:OC A H y f b B lo hi m bk bad u p g n) (kb:aE b H H') (s:Stp A H' f b g' n'):OC A H' y f b B lo hi m bk bad u p g' n':=
 ⟨⟨c.o.s.tup kb _ _ c.o.hy,c.o.en,s⟩,let ⟨d,w,h⟩:=c.k;⟨d,w.kb c.o.s kb,h⟩,c.pw.mono (c.o.s.tup kb),c.x.imp id fun ⟨d,w,h⟩=>⟨d,w.kb c.o.s kb,h⟩⟩
theorem jb {H:Hp} {y f b z:Addr} {B lo hi:Int} {m:Key} {bk bad u:V} {p:aV} {g:gOp} {n:Nat} {wy:Int} {v w k:V} {i:Nat} (c:OC A H y f b B lo hi m bk bad u p g n) (hn:n≤29000) (hz:H z=none) (due:∀ H',OC A H' y f b B lo hi m bk bad u p g n→Due H' B g wy m m v w bad k i):je A (upd H z (.tup [v,w,bad,k])) (.int wy) y z b f m m g n i:=by
 have S2:=av.upd (o:=.tup [v,w,bad,k]) hz
 have c2:=c.kb (aE.same S2) (c.o.s.same (Nat.le_refl _) S2)
 exact ⟨⟨wy,B,_,_,_,_,rfl,c2.o.hy,aj,c.o.en.b1,c.o.en.b60,due _ c2⟩,c2.o.s,by omega⟩
theorem iQ {H H':Hp} {y f b z:Addr} {B lo hi:Int} {m:Key} {bk bad u:V} {p:aV} {g g':gOp} {n n':Nat} {o:HO} (c:OC A H y f b B lo hi m bk bad u p g n) (hz:H z=none) (kb:aE b (upd H z o) H') (s:Stp A H' f b g' n'):aE b H H'∧OC A H' y f b B lo hi m bk bad u p g' n':=
 have kb':=(aE.same (av.upd (o:=o) hz)).trans kb
 ⟨kb',c.kb kb' s⟩
theorem qQ {H : Hp} {y f b : Addr} {c B lo hi wy : Int} {m : Key} {bk bad u : V} {p : aV} {g : List Key → Option Key} {n : Nat} {v5 v7 : V} {x10 : Option V} {D : fj} (h4 : wy ≤ 4) (cc : OC A H y f b B lo hi m bk bad u p g n) (hn : n ≤ 29000)
    (q : ∀ g' H', aE b H H' → OC A H' y f b B lo hi m bk bad u p g' (n + 2) → Sub g g' → D.nx [some (.int c), some (.ref y), some (.int lo), some (.int hi), some u, some v5, some bk, some v7, some bad, some (.int wy), x10] H') :
    (aR (fi (aL (tOp (mGt) (af 9) (tC (.int 0)))) (aL (tOp (rR K) (af 8) (af 4)))) (aR (bA (bC K (ar (dY K A) (fun _ => E0) (ae (tC (.str "part")) (ae (af 9) (ae (af 1) (ae (br (ae (af 2) (ae (af 3) (ae (af 8) (ae (af 2) (al)))))) (al)))))))) (aB (tC (.bl false))) (aF)) (aF)) D [some (.int c), some (.ref y), some (.int lo), some (.int hi), some u, some v5, some bk, some v7, some bad, some (.int wy), x10] H := by
  have fin := q g H aE.rfl' (cc.kb aE.rfl' (cc.o.s.same (by omega) (.refl _))) Sub.rfl'
  refine Sel.dec (fun h0 => ?_) (fun _ => Sel.f fin)
  have h0 : 0 < wy := h0
  refine vV cc.x cc.pw fun r hr => ?_
  cases r with
  | false => exact Sel.f fin
  | true =>
    refine Sel.t ?_
    obtain ⟨d0, wd0, ok0, nt0⟩ := hr rfl
    have cx : ∀ H', OC A H' y f b B lo hi m bk bad u p g n → iW B H' bad → Due H' B g wy m m (.int lo) (.int hi) bad (.int lo) 2 := fun H' c' ⟨d, wd, ok, nt⟩ => by
      have := cc.o.en.le
      exact .part lo hi d rfl rfl cc.o.en wd ok nt (by by_cases h : wy ≤ 3; exact .inl ⟨by omega, h⟩; exact .inr ⟨by omega, lo, rfl, by omega, by omega⟩)
    have cb : OC A H y f b B lo hi m bk bad u p g n := cc
    refine ⟨by show 4 ≤ sizeLine; decide, fun z hz => ?_⟩
    have S2 := av.upd (o := .tup [.int lo, .int hi, bad, .int lo]) hz
    have c2 := cc.kb (aE.same S2) (cc.o.s.same (Nat.le_refl _) S2)
    refine ⟨_, y, z, f, b, m, m, g, n, 2, rfl, by decide, ⟨⟨wy, B, _, _, _, _, rfl, c2.o.hy, aj, cc.o.en.b1, cc.o.en.b60, cx _ c2 ⟨d0, wd0.mono S2, ok0, nt0⟩⟩, c2.o.s, by omega⟩, by omega, fun g3 H3 kb3 s3 sub3 => Sel.no rfl ?_⟩
    exact q g3 H3 ((aE.same S2).trans kb3) (c2.kb kb3 s3) sub3
theorem DV (K:W.Frag) (A:Adr):Ln (oj K A) 5:=by rintro vs H Q E ⟨_,_,_,_,_,_,_,_,_,_,_,_,rfl,_⟩;rfl
theorem Gn (T:Txt K mg A):Rd (oj K A) (JO K A) ["_law_cell", "_law_by", "_law_low", "_law_high", "_law_paper_here", "_law_some", "_law_bad_key", "_law_papers", "_law_bad", "_law_way", "_law_key_here"]:=by
 intro vs H Q E h
 obtain ⟨y,f,b,c,B,lo,hi,m,u,p,g,n,rfl,ow,hn,pw,q⟩:=h
 have b1:=ow.en.b1
 have b60:=ow.en.b60
 have l0:=ow.en.lo0
 have lh:=ow.en.le
 have h1:=ow.en.hi1
 have klo:bD B (.int lo)=true:=decide_eq_true ⟨by omega,by omega⟩
 have khi:bD B (.int hi)=true:=decide_eq_true ⟨by omega,by omega⟩
 refine ixT (j:=1) ow.hy rfl rfl ⟨⟨by decide,by decide⟩,B,c/8,rfl,b1,b60,fun L5 xs5 H5 S5 hL5 hl5 hx5=>?_⟩
 show uA K A _ [some (.int c),some (.ref y),some (.int lo),some (.int hi),some u,some (.ref L5),none,none,none,none,none] H5
 refine .inl (.inl ⟨_,SqL.of hL5,?_⟩)
 rw [hl5]
 refine ⟨by decide,wm hL5 (by omega) (by rw [hl5];omega) fun bk hbk=>?_⟩
 show uj K A _ [some (.int c),some (.ref y),some (.int lo),some (.int hi),some u,some (.ref L5),some bk,none,none,none,none] H5
 refine ⟨aS (show 1≤1000000 by decide),fun t ht=>?_⟩
 have St:=av.upd (o:=.lst [u]) ht
 have pw5:=pw.mono fun b xs e=>(S5.trans St) _ _ e
 refine ⟨u,B,lo,hi,p,rfl,pw5,fun L xs H6 S6 hL hl hx=>?_⟩
 obtain ⟨ua,_,_,eu,_⟩:=kB pw
 refine .inl ⟨t,L,[u],xs,rfl,rfl,S6 _ _ aj,hL,aS (by rw [hl];show 1+13≤1000000;decide),fun L7 hL7=>?_⟩
 have S7:=av.upd (o:=.lst ([u]++xs)) hL7
 have S:=S5.trans (St.trans (S6.trans S7))
 show vi K A _ [some (.int c),some (.ref y),some (.int lo),some (.int hi),some u,some (.ref L5),some bk,some (.ref L7),none,none,none] _
 have lu:([u]++xs).length=14:=by rw [List.length_append,hl];rfl
 refine ⟨⟨by decide,by decide⟩,.inl (.inl ⟨_,SqL.of aj,?_⟩)⟩
 rw [lu]
 refine ⟨by decide,wm aj (by omega) (by rw [lu];omega) fun bad hb=>?_⟩
 have c0:OC A (upd H6 L7 (.lst ([u]++xs))) y f b B lo hi m bk bad u p g n:=by
   refine ⟨⟨S _ _ ow.hy,ow.en,ow.s.same (Nat.le_refl _) S⟩,dE.mono B _ _ _ (St.trans (S6.trans S7)) (hx5 bk hbk),pw.mono fun b xs e=>S _ _ e,?_⟩
   rcases List.mem_append.mp hb with z | z
   · exact .inl (List.mem_singleton.mp z)
   · exact .inr (iW.mono B _ _ _ S7 (hx bad z))
 show vD K A _ [some (.int c),some (.ref y),some (.int lo),some (.int hi),some u,some (.ref L5),some bk,some (.ref L7),some bad,none,none] _
 have kb0:aE b H (upd H6 L7 (.lst ([u]++xs))):=aE.same S
 generalize upd H6 L7 (.lst ([u]++xs))=G at c0 kb0
 clear S S7 S6 St S5 hL5 hL7 hx hx5 hb hbk pw5
 refine ⟨5,rfl,by decide,by decide,gG (lo:=0) (n:=5) (fun i σ H'=>∃ g' x9,σ=[some (.int c),some (.ref y),some (.int lo),some (.int hi),some u,some (.ref L5),some bk,some (.ref L7),some bad,x9,none]∧aE b G H'∧OC A H' y f b B lo hi m bk bad u p g' (n+8*i)∧Sub g g') ⟨g,none,rfl,aE.rfl',c0,Sub.rfl'⟩ ?_ ?_⟩
 · rintro i σ H1 hi5 ⟨g1,x9,rfl,kb1,c1,sub1⟩
   have wy:(0≤(0+(i:Int))∧(0+(i:Int))≤3)∨(0+(i:Int))=4:=by omega
   refine ⟨by show 4≤sizeLine;decide,fun z hz=>?_⟩
   refine ⟨_,y,z,f,b,m,m,_,_,0,rfl,by decide,jb c1 (by omega) hz ?_,by omega,?_⟩
   · intro H' c'
     obtain ⟨d,wd,nd⟩:=c'.k
     exact .ends d (.int hi) wd (.int hi) (.inl nd) (wy.imp id fun e=>⟨e,lo,rfl,klo⟩)
   intro g2 H2 kb2 s2 sub2
   change Stp A H2 f b g2 (_+2) at s2
   obtain ⟨kb2,c2⟩:=iQ c1 hz kb2 s2
   clear s2 hz
   refine Sel.no rfl ?_
   refine ⟨by show 4≤sizeLine;decide,fun z hz=>?_⟩
   refine ⟨_,y,z,f,b,m,m,_,_,0,rfl,by decide,jb c2 (by omega) hz ?_,by omega,?_⟩
   · intro H' c'
     obtain ⟨d,wd,nd⟩:=c'.k
     exact .ends (.int lo) d (.int lo) wd (.inr nd) (wy.imp id fun e=>⟨e,hi,rfl,khi⟩)
   intro g3 H3 kb3 s3 sub3
   change Stp A H3 f b g3 (_+2) at s3
   obtain ⟨kb3,c3⟩:=iQ c2 hz kb3 s3
   clear s3 hz
   refine Sel.no rfl ?_
   have sub13:=sub1.trans (sub2.trans sub3)
   have kb13:=kb1.trans (kb2.trans kb3)
   refine Sel.dec (fun hl=>?_) (fun _=>Sel.f ?_)
   · have hl:lo<hi:=hl
     refine ⟨by show 4≤sizeLine;decide,fun z hz=>?_⟩
     refine ⟨_,y,z,f,b,m,m,_,_,1,rfl,by decide,jb c3 (by omega) hz ?_,by omega,?_⟩
     · intro H' c'
       exact .ord hi lo rfl rfl khi klo hl (wy.imp id fun e=>⟨e,lo,rfl,klo⟩)
     intro g4 H4 kb4 s4 sub4
     change Stp A H4 f b g4 (_+2) at s4
     obtain ⟨kb4,c4⟩:=iQ c3 hz kb4 s4
     clear s4 hz
     refine Sel.no rfl ?_
     exact qQ (by omega) c4 (by omega) fun g5 H5 kb5 c5 sub5=>⟨g5,_,rfl,kb13.trans (kb4.trans kb5),c5.kb aE.rfl' (c5.o.s.same (by omega) (.refl _)),sub13.trans (sub4.trans sub5)⟩
   · exact qQ (by omega) c3 (by omega) fun g5 H5 kb5 c5 sub5=>⟨g5,_,rfl,kb13.trans kb5,c5.kb aE.rfl' (c5.o.s.same (by omega) (.refl _)),sub13.trans sub5⟩
 · rintro σ H1 ⟨g1,x9,rfl,kb1,c1,sub1⟩
   show uK K A _ [some (.int c),some (.ref y),some (.int lo),some (.int hi),some u,some (.ref L5),some bk,some (.ref L7),some bad,x9,none] H1
   refine ⟨by show 4≤sizeLine;decide,fun z hz=>?_⟩
   refine ⟨_,y,z,f,b,m,m,_,_,0,rfl,by decide,jb c1 (by omega) hz ?_,by omega,?_⟩
   · intro H' c'
     obtain ⟨d,wd,nd⟩:=c'.k
     exact .key d wd nd rfl
   intro g2 H2 kb2 s2 sub2
   change Stp A H2 f b g2 (_+2) at s2
   obtain ⟨kb2,c2⟩:=iQ c1 hz kb2 s2
   clear s2 hz
   refine Sel.no rfl ?_
   refine ⟨by show 4≤sizeLine;decide,fun z hz=>?_⟩
   refine ⟨_,y,z,f,b,m,m,_,_,0,rfl,by decide,jb c2 (by omega) hz ?_,by omega,?_⟩
   · intro H' c'
     obtain ⟨d,wd,nd⟩:=c'.k
     exact .key d wd nd rfl
   intro g3 H3 kb3 s3 sub3
   change Stp A H3 f b g3 (_+2) at s3
   obtain ⟨kb3,c3⟩:=iQ c2 hz kb3 s3
   clear s3 hz
   refine Sel.no rfl ?_
   have sub13:=sub1.trans (sub2.trans sub3)
   have kb13:=kb0.trans (kb1.trans (kb2.trans kb3))
   show vo K A _ [some (.int c),some (.ref y),some (.int lo),some (.int hi),some u,some (.ref L5),some bk,some (.ref L7),some bad,x9,none] H3
   refine ixT (j:=1) c3.o.hy rfl rfl ⟨⟨by omega,by omega,by decide⟩,aS (show 4≤1000000 by decide),fun W hW=>⟨W,rfl,.inl ⟨⟨_,SqL.of aj⟩,?_⟩⟩⟩
   have Sw:=av.upd (o:=.lst [V.int (lo - 1),V.int (hi+1),V.int 0,V.int (1*2^B.toNat - 1)]) hW
   have hW1:upd H3 W (.lst [V.int (lo - 1),V.int (hi+1),V.int 0,V.int (1*2^B.toNat - 1)]) W=some (.lst [V.int (lo - 1),V.int (hi+1),V.int 0,V.int (1*2^B.toNat - 1)]):=aj
   have c4:=c3.kb (aE.same Sw) (c3.o.s.same (Nat.le_refl _) Sw)
   have kb14:=kb13.trans (aE.same Sw)
   have hlen:(([lo - 1,hi+1,0,1*2^B.toNat - 1]:List Int).map V.int).length=4:=rfl
   generalize upd H3 W (.lst [V.int (lo - 1),V.int (hi+1),V.int 0,V.int (1*2^B.toNat - 1)])=J at hW1 c4 kb14
   refine ij (xs:=([lo - 1,hi+1,0,1*2^B.toNat - 1]:List Int).map V.int) (fun i σ H'=>∃ g' x10,σ=[some (.int c),some (.ref y),some (.int lo),some (.int hi),some u,some (.ref L5),some bk,some (.ref L7),some bad,x9,x10]∧aE b J H'∧OC A H' y f b B lo hi m bk bad u p g' (n+44+8*i)∧Sub g g')
     ⟨g3,none,rfl,aE.rfl',c4.kb aE.rfl' (c4.o.s.same (by omega) (.refl _)),sub13⟩ ?_ ?_ ?_
   · rintro i σ H' _ ⟨_,_,_,kb,_⟩;exact SqL.of (c4.o.s.lst kb _ _ hW1)
   · rintro i v σ H' hv ⟨g5,x10,rfl,kb5,c5,sub5⟩
     have i4:i<4:=(List.getElem?_eq_some_iff.mp hv).1
     obtain ⟨kk,_,rfl⟩:=List.mem_map.mp (List.mem_of_getElem? hv)
     refine ⟨y,f,b,B,lo,hi,kk,m,bad,g5,_,rfl,c5.o,by omega,fun g6 H6 kb6 s6 sub6=>Sel.no rfl ?_⟩
     exact ⟨g6,_,rfl,kb5.trans kb6,c5.kb kb6 (s6.same (by omega) (.refl _)),sub5.trans sub6⟩
   · rintro σ H' ⟨g5,x10,rfl,kb5,c5,sub5⟩
     exact q g5 H' (kb14.trans kb5) (c5.o.s.same (by rw [hlen];omega) (.refl _)) sub5
theorem bE.seq {P:Addr} {H H':Hp} {a:Addr} {xs:List V} {ps:Array Value} (hP:H P=some (.tbl ps)) (e:bE P H H') (h:SqL K H a xs):SqL K H' a xs:=by
 have ne:∀ o,H a=some o→(∀ ps,o≠ .tbl ps)→a≠P:=fun o h n z=>by subst z;rw [hP] at h;cases h;exact n _ rfl
 rcases h with (h | ⟨o,h⟩) | h
 · exact .inl (.inl (e _ _ h (ne _ h fun _ z=>nomatch z)))
 · exact .inl (.inr ⟨o,e _ _ h (ne _ h fun _ z=>nomatch z)⟩)
 · exact .inr h
theorem Stp.kP {H H':Hp} {f b P:Addr} {g:gOp} {n:Nat} {ps:Array Value} (s:Stp A H f b g n) (hP:H P=some (.tbl ps)) (k:bE P H H'):Stp A H' f b g n:=s.keep (Nat.le_refl _) fun z o e hz=>k z o e fun q=>by
 subst q;rw [hP] at e;cases e
 rcases hz with ⟨_,q⟩ | ⟨_,_,q⟩ | ⟨_,_,_,q⟩ <;> cases q
theorem Stp.seq {H H':Hp} {f b a:Addr} {g:gOp} {n:Nat} {xs:List V} (s:Stp A H f b g n) (k:aE b H H') (h:SqL K H a xs):SqL K H' a xs:=by
 rcases h with (h | ⟨o,h⟩) | h
 · exact .inl (.inl (s.lst k _ _ h))
 · exact .inl (.inr ⟨o,k _ _ (s.nb h fun _ z=>nomatch z) h⟩)
 · exact .inr h
theorem HN (xs:List V):(cM xs (some 5) (some 7)).length≤2:=by
 unfold cM
 rw [List.length_take]
 have e1:HT.sIx xs.length 0 (some 5)=min 5 xs.length:=HT.rj _ _ 5
 have e2:HT.sIx xs.length xs.length (some 7)=min 7 xs.length:=HT.rj _ _ 7
 rw [e1,e2];omega
def sK:Key→Key
 | .inl i=> .inr (toString i)
 | .inr z=> .inr z
theorem zw {H : Hp} {Q : VK} {x : Key} (ok : okP x = true) (q : Q (kV (sK x)) H) : lj [kV x] H Q := by
  cases x with
  | inl i =>
    have h : 0 ≤ i ∧ i < 10 ^ 60 := of_decide_eq_true ok
    exact .int (by
      have h2 : i.natAbs < 10 ^ 60 := by have : (i.natAbs : Int) < 10 ^ 60 := by omega
                                         exact_mod_cast this
      refine Nat.lt_of_le_of_lt ?_ (show 200 < 1920 by decide)
      have : i.natAbs < 2 ^ 200 := Nat.lt_of_lt_of_le h2 (by decide +kernel)
      by_cases z : i.natAbs = 0
      · rw [z]; decide
      · exact Nat.le_of_lt ((Nat.log2_lt z).mpr this)) q
  | inr z => exact .str q
structure LC (A:Adr) (H:Hp) (f b:Addr) (B lo hi:Int) (v:V) (p:aV) (x:Key) (L:Addr) (ps:List Addr) (ts:List (List Key)) (M:Addr) (rs:List Addr) (g:gOp) (n:Nat):Prop where
 pw:cj H v B lo hi p
 s:Stp A H f b g n
 hL:H L=some (.lst (ps.map V.ref))
 pk:PK H ps ts
 hM:H M=some (.lst (rs.map V.ref))
 pr:PR H rs ((bH p).filter (inI lo hi))
 ex:∀ h,Ext g h→ts=bw h p∧x=dc h p
theorem LC.kb {H H':Hp} {f b:Addr} {B lo hi:Int} {v:V} {p:aV} {x:Key} {L M:Addr} {ps rs:List Addr} {ts:List (List Key)} {g g':gOp} {n n':Nat} (c:LC A H f b B lo hi v p x L ps ts M rs g n) (kb:aE b H H') (s:Stp A H' f b g' n') (sub:Sub g g'):LC A H' f b B lo hi v p x L ps ts M rs g' n':=
 ⟨c.pw.mono (c.s.tup kb),s,c.s.lst kb _ _ c.hL,dm (c.s.tup kb) c.pk,c.s.lst kb _ _ c.hM,gL (c.s.tup kb) c.pr,fun h he=>c.ex h (he.of sub)⟩
theorem LC.same {H H':Hp} {f b:Addr} {B lo hi:Int} {v:V} {p:aV} {x:Key} {L M:Addr} {ps rs:List Addr} {ts:List (List Key)} {g:gOp} {n n':Nat} (c:LC A H f b B lo hi v p x L ps ts M rs g n) (hn:n≤n') (S:av H H'):LC A H' f b B lo hi v p x L ps ts M rs g n':=c.kb (aE.same S) (c.s.same hn S) Sub.rfl'
theorem LC.len {H:Hp} {f b:Addr} {B lo hi:Int} {v:V} {p:aV} {x:Key} {L M:Addr} {ps rs:List Addr} {ts:List (List Key)} {g:gOp} {n:Nat} (c:LC A H f b B lo hi v p x L ps ts M rs g n):(((bH p).filter (inI lo hi)).map oH).length≤1000∧ts.length≤1000:=by
 have h1:=fY p
 have h2:=List.length_filter_le (inI lo hi) (bH p)
 have h3:=c.pw.f
 have h4:=fB p
 have h5:=eY (iB g) p
 have h6:=(c.ex _ (bV g)).1
 rw [List.length_map]
 rw [← h6] at h5
 omega
theorem Ce (K:W.Frag) (A:Adr):Ln (nC K A) 1:=by rintro vs H Q E ⟨a,ns,rfl,_⟩;rfl
theorem Fj (T:Txt K mg A):Rd (nC K A) (JL K A) ["_law_script", "_law_bits_here", "_law_low", "_law_high", "_law_paper_here", "_law_cell", "_law_some", "_law_stamper", "_law_came", "_law_terms", "_law_due", "_law_mark_here"]:=by
 intro vs H Q E h
 obtain ⟨a,ns,rfl,hs,hlen,⟨t1,t2,t3,t4,nd⟩,q⟩:=h
 refine ⟨a,ns,0,rfl,hs,by decide,fun z0 H0 S0=>⟨z0,rfl,fun B H1 S1 B1 B60=>?_⟩⟩
 have S1:=S0.trans S1
 show uX K A _ [some (.ref a),some (.int B),none,none,none,none,none,none,none,none,none,none] H1
 refine ⟨a,ns,1,rfl,S1.seq hs,by decide,fun z1 H2 S2=>⟨a,ns,2,rfl,(S1.trans S2).seq hs,by decide,fun z2 H3 S3=>⟨B,z1,z2,rfl,B1,B60,fun t lo hi H4 S4 ht en=>?_⟩⟩⟩
 have S4:=S1.trans (S2.trans (S3.trans S4))
 refine ⟨t,_,rfl,SqT.of ht,rfl,.int lo,[.int hi],rfl,.int hi,[],rfl,rfl,?_⟩
 show vt K A _ [some (.ref a),some (.int B),some (.int lo),some (.int hi),none,none,none,none,none,none,none,none] H4
 refine ⟨a,ns,3,rfl,S4.seq hs,by decide,fun z3 H5 S5=>⟨z3,B,lo,hi,rfl,en,fun v p H6 S6 w _=>?_⟩⟩
 have S6:=S4.trans (S5.trans S6)
 show tZ K A _ [some (.ref a),some (.int B),some (.int lo),some (.int hi),some v,none,none,none,none,none,none,none] H6
 refine ⟨a,ns,4,rfl,S6.seq hs,by decide,fun c H7 S7=>?_⟩
 have w7:=w.mono fun _ _ e=>S7 _ _ e
 have S7:=S6.trans S7
 show ub K A _ [some (.ref a),some (.int B),some (.int lo),some (.int hi),some v,some (.int c),none,none,none,none,none,none] H7
 have hs4:=S7.seq hs
 have t1:=S7 _ _ t1
 have t2:=S7 _ _ t2
 have t3:=S7 _ _ t3
 have t4:=S7 _ _ t4
 have ne:A.t_41≠A.t_32∧A.t_41≠A.t_36∧A.t_41≠A.t_68∧A.t_32≠A.t_36∧A.t_32≠A.t_68∧A.t_36≠A.t_68:=by
   simp only [List.nodup_cons,List.mem_cons,List.not_mem_nil,or_false,not_or] at nd
   exact ⟨nd.1.1,nd.1.2.1,nd.1.2.2,nd.2.1.1,nd.2.1.2,nd.2.2.1⟩
 clear S7 S6 S5 S4 S3 S1 S0 S2 hs nd ht w
 refine ⟨rfl,t1,fun f1 b1 g1 H5 k5 s1 _=>?_⟩
 refine ⟨⟨by decide,by decide⟩,by decide,c/4%90,rfl,by omega,by omega,k5 _ _ t2 (Ne.symm ne.1),fun f2 b2 g2 H6 k6 s2 _=>?_⟩
 refine ⟨⟨by decide,by decide⟩,by decide,2+c/4%8,rfl,by omega,by omega,k6 _ _ (k5 _ _ t3 (Ne.symm ne.2.1)) (Ne.symm ne.2.2.2.1),fun f3 b3 g3 H7 k7 s3 _=>?_⟩
 refine ⟨rfl,k7 _ _ (k6 _ _ (k5 _ _ t4 (Ne.symm ne.2.2.1)) (Ne.symm ne.2.2.2.2.1)) (Ne.symm ne.2.2.2.2.2),fun f4 b4 g4 H8 k8 s4 _=>?_⟩
 have p2:=k5 _ _ t2 (Ne.symm ne.1)
 have p3:=k6 _ _ (k5 _ _ t3 (Ne.symm ne.2.1)) (Ne.symm ne.2.2.2.1)
 have p4:=k7 _ _ (k6 _ _ (k5 _ _ t4 (Ne.symm ne.2.2.1)) (Ne.symm ne.2.2.2.2.1)) (Ne.symm ne.2.2.2.2.2)
 have hs8:=bE.seq p4 k8 (bE.seq p3 k7 (bE.seq p2 k6 (bE.seq t1 k5 hs4)))
 have tp:∀ {P:Addr} {H H':Hp} {ps:Array Value},H P=some (.tbl ps)→bE P H H'→∀ b xs,H b=some (.tup xs)→H' b=some (.tup xs):=fun hP k b xs e=>k _ _ e fun z=>by subst z;rw [hP] at e;cases e
 have w8:=((((w7.mono (tp t1 k5)).mono (tp p2 k6)).mono (tp p3 k7)).mono (tp p4 k8))
 have s1:=((s1.kP p2 k6).kP p3 k7).kP p4 k8
 have s2:=(s2.kP p3 k7).kP p4 k8
 have s3:=s3.kP p4 k8
 clear k5 k6 k7 k8 p2 p3 p4 t1 t2 t3 t4 ne hs4 w7
 refine ⟨aS (show 4≤1000000 by decide),fun L hL=>?_⟩
 have S9:=av.upd (o:=.lst [.ref f1,.ref f2,.ref f3,.ref f4]) hL
 have hs9:=S9.seq hs8
 have w9:=w8.mono fun _ _ e=>S9 _ _ e
 show uw K A _ [some (.ref a),some (.int B),some (.int lo),some (.int hi),some v,some (.int c),some (.ref L),none,none,none,none,none] _
 refine ⟨by decide,wm aj (by omega) (by show c%4<4;omega) fun u hv=>?_⟩
 obtain ⟨f,b,g,rfl,sp⟩:∃ f b g,u=.ref f∧Stp A (upd H8 L (.lst [.ref f1,.ref f2,.ref f3,.ref f4])) f b g 0:=by
   simp only [List.mem_cons,List.not_mem_nil,or_false] at hv
   rcases hv with rfl | rfl | rfl | rfl
   · exact ⟨_,_,_,rfl,s1.same (Nat.le_refl _) S9⟩
   · exact ⟨_,_,_,rfl,s2.same (Nat.le_refl _) S9⟩
   · exact ⟨_,_,_,rfl,s3.same (Nat.le_refl _) S9⟩
   · exact ⟨_,_,_,rfl,s4.same (Nat.le_refl _) S9⟩
 show uo K A _ [some (.ref a),some (.int B),some (.int lo),some (.int hi),some v,some (.int c),some (.ref L),some (.ref f),none,none,none,none] _
 generalize upd H8 L (.lst [.ref f1,.ref f2,.ref f3,.ref f4])=G at hs9 sp w9
 clear s1 s2 s3 s4 S9 hs8 hL hv w8
 have fk:=w9.f
 have mn:=fB p
 have tl:=w9.t
 refine ⟨f,b,v,p,g,0,rfl,w9.s,by omega,sp,by omega,fun t2 L9 x ps ts g1 J1 kb1 s1 sub1 ht2 hL9 pk1 ex1 okx szx=>?_⟩
 refine ⟨t2,_,rfl,SqT.of ht2,rfl,kV x,[.ref L9],rfl,.ref L9,[],rfl,rfl,?_⟩
 have w1:=w9.mono (sp.tup kb1)
 have hs1:=sp.seq kb1 hs9
 show ut K A _ [some (.ref a),some (.int B),some (.int lo),some (.int hi),some v,some (.int c),some (.ref L),some (.ref f),some (kV x),some (.ref L9),none,none] J1
 refine ⟨v,p,lo,hi,rfl,w1.w.w,tl,by omega,fun M rs J2 S2 _ hM pr=>?_⟩
 have hs2:=S2.seq hs1
 have c2:LC A J2 f b B lo hi v p x L9 ps ts M rs g1 200:=⟨w1.mono fun _ _ e=>S2 _ _ e,s1.same (by omega) S2,S2 _ _ hL9,dm (fun _ _ e=>S2 _ _ e) pk1,hM,pr,ex1⟩
 clear w1 hs1 w9 hs9 sp kb1 s1 ht2 hL9 pk1 S2 hM pr
 show vq K A _ [some (.ref a),some (.int B),some (.int lo),some (.int hi),some v,some (.int c),some (.ref L),some (.ref f),some (kV x),some (.ref L9),some (.ref M),none] J2
 refine ⟨f,b,B,x,_,_,_,g1,_,rfl,B1,B60,c2.s,by decide,.good lo hi rfl rfl en (.good p c2.pw fun x3 g3 J3 kb3 s3 sub3 e3=>?_)⟩
 have ee:x3=x:=by rw [e3 _ (bV g3),←(ex1 _ ((bV g3).of sub3)).2]
 refine ⟨fun _ M4 rs4 J4 S4 hM4 pr4=>?_,fun z=>absurd ee z⟩
 have c4:=(c2.kb kb3 s3 sub3).same (Nat.le_refl _) S4
 have hs4:=S4.seq (c2.s.seq kb3 hs2)
 refine ⟨M4,M,rs4,rs,_,rfl,hM4,c4.hM,kX pr4,kX c4.pr,c4.len.1,Sel.no rfl ?_⟩
 show tO K A _ [some (.ref a),some (.int B),some (.int lo),some (.int hi),some v,some (.int c),some (.ref L),some (.ref f),some (kV x),some (.ref L9),some (.ref M),none] J4
 clear c2 hs2 kb3 s3 S4 hM4 pr4
 refine ⟨5,rfl,7,rfl,.inl (.inl ⟨a,_,rfl,hs4,fun p5 hp=>?_⟩)⟩
 have Sa:=av.upd (o:=.lst (cM (ns.map V.int) (some 5) (some 7))) hp
 refine ⟨a,ns,8,rfl,Sa.seq hs4,by decide,fun z5 J5 S5=>⟨aS (n:=1) (by decide),fun p2 hp2=>?_⟩⟩
 have Sb:=av.upd (o:=.lst [.int z5]) hp2
 have cl:=HN (ns.map V.int)
 refine .inl ⟨p5,p2,_,_,rfl,rfl,Sb _ _ (S5 _ _ aj),aj,aS (by show _+1≤1000000;omega),fun W hW=>?_⟩
 have Sc:=av.upd (o:=.lst (cM (ns.map V.int) (some 5) (some 7)++[V.int z5])) hW
 have S:=Sa.trans (S5.trans (Sb.trans Sc))
 have itz:∀ v∈cM (ns.map V.int) (some 5) (some 7)++[V.int z5],∃ i,v=.int i:=fun v hv=>by
   rcases List.mem_append.mp hv with z | z
   · unfold cM at z
     obtain ⟨i,_,rfl⟩:=List.mem_map.mp (List.mem_of_mem_drop (List.mem_of_mem_take z))
     exact ⟨i,rfl⟩
   · exact ⟨z5,List.mem_singleton.mp z⟩
 have lx:(cM (ns.map V.int) (some 5) (some 7)++[V.int z5]).length≤3:=by rw [List.length_append];show _+1≤3;omega
 have hW1:upd (upd J5 p2 (.lst [.int z5])) W (.lst (cM (ns.map V.int) (some 5) (some 7)++[V.int z5])) W=some (.lst (cM (ns.map V.int) (some 5) (some 7)++[V.int z5])):=aj
 have c5:=c4.same (n':=500) (by decide) S
 generalize upd (upd J5 p2 (.lst [.int z5])) W (.lst (cM (ns.map V.int) (some 5) (some 7)++[V.int z5]))=J6 at hW1 c5
 generalize cM (ns.map V.int) (some 5) (some 7)++[V.int z5]=xs at hW1 itz lx
 clear Sa S5 Sb Sc S hs4 c4
 refine ⟨W,rfl,.inl ⟨⟨_,SqL.of hW1⟩,?_⟩⟩
 refine ij (xs:=xs) (fun i σ H'=>∃ g' x5 x11,σ=[some (.ref a),some (.int B),some (.int lo),some (.int hi),some v,x5,some (.ref L),some (.ref f),some (kV x),some (.ref L9),some (.ref M),x11]∧aE b J6 H'∧LC A H' f b B lo hi v p x L9 ps ts M rs g' (500+4000*i))
   ⟨g3,_,none,rfl,aE.rfl',c5⟩ ?_ ?_ ?_
 · rintro i σ H' _ ⟨_,_,_,_,kb,_⟩;exact SqL.of (c5.s.lst kb _ _ hW1)
 · rintro i u σ H' hv ⟨g6,x5,x11,rfl,kb6,c6⟩
   have hi3:i<xs.length:=(List.getElem?_eq_some_iff.mp hv).1
   obtain ⟨k2,rfl⟩:=itz u (List.mem_of_getElem? hv)
   refine ⟨by decide,_,rfl,fun mk smk=>?_⟩
   refine ⟨aS (show 3≤1000000 by decide),fun y hy=>?_⟩
   have Sy:=av.upd (o:=.tup [.ref f,.int B,kV mk]) hy
   have c7:=c6.same (Nat.le_refl _) Sy
   refine ⟨y,f,b,k2,B,lo,hi,mk,v,p,g6,_,rfl,⟨aj,en,c7.s⟩,by omega,c7.pw,fun g8 H8 kb8 s8 sub8=>Sel.no rfl ?_⟩
   have c8:=c7.kb kb8 s8 sub8
   refine zw okx ⟨aS (show 5≤1000000 by decide),fun N hN=>?_⟩
   have Sn:=av.upd (o:=.lst [kV mk,.int 0,.str "",.str "x",kV (sK x)]) hN
   have hN1:upd H8 N (.lst [kV mk,.int 0,.str "",.str "x",kV (sK x)]) N=some (.lst (([mk,.inl 0,.inr "",.inr "x",sK x]:List Key).map kV)):=aj
   have c9:=c8.same (Nat.le_refl _) Sn
   have kb9:=kb6.trans ((aE.same Sy).trans (kb8.trans (aE.same Sn)))
   generalize upd H8 N (.lst [kV mk,.int 0,.str "",.str "x",kV (sK x)])=H9 at hN1 c9 kb9
   refine ⟨N,rfl,.inl ⟨⟨_,SqL.of hN1⟩,?_⟩⟩
   refine ij (xs:=([mk,.inl 0,.inr "",.inr "x",sK x]:List Key).map kV) (fun j σ H'=>∃ g' x11,σ=[some (.ref a),some (.int B),some (.int lo),some (.int hi),some v,some (.int k2),some (.ref L),some (.ref f),some (kV x),some (.ref L9),some (.ref M),x11]∧aE b H9 H'∧LC A H' f b B lo hi v p x L9 ps ts M rs g' (500+4000*i+100+603*j))
     ⟨g8,_,rfl,aE.rfl',c9⟩ ?_ ?_ ?_
   · rintro j σ H' _ ⟨_,_,_,kb,_⟩;exact SqL.of (c9.s.lst kb _ _ hN1)
   · rintro j u σ H' hu ⟨g11,y11,rfl,kb11,c11⟩
     have hj:j<5:=(List.getElem?_eq_some_iff.mp hu).1
     obtain ⟨m,_,rfl⟩:=jE hu
     refine ms ?_
     by_cases em:m=x
     · exact Sel.no (by rw [decide_eq_true em];rfl) ⟨g11,_,rfl,kb11,c11.same (by omega) (.refl _)⟩
     · refine Sel.yes (by rw [decide_eq_false em];rfl) ?_
       refine ⟨aS (show 3≤1000000 by decide),fun y2 hy2=>⟨aS (show 4≤1000000 by decide),fun y3 hy3=>?_⟩⟩
       have Sd:=av.upd (o:=.tup [.ref f,.int B,kV m]) hy2
       have Se:=av.upd (o:=.tup [.int lo,.int hi,v,.int 0]) hy3
       have c12:=c11.same (Nat.le_refl _) (Sd.trans Se)
       refine ⟨y2,y3,f,b,B,lo,hi,m,x,v,.int 0,p,g11,_,rfl,Se _ _ aj,aj,c12.pw,c12.s,by omega,fun h he=>(c12.ex h he).2,fun z=>em z.symm,fun g12 H12 kb12 s12 sub12=>Sel.no rfl ?_⟩
       exact ⟨g12,_,rfl,kb11.trans ((aE.same (Sd.trans Se)).trans kb12),c12.kb kb12 (s12.same (by omega) (.refl _)) sub12⟩
   · rintro σ H' ⟨g11,y11,rfl,kb11,c11⟩
     exact ⟨g11,_,_,rfl,kb9.trans kb11,c11.same (by show 500+4000*i+100+603*5≤_;omega) (.refl _)⟩
 · rintro σ H' ⟨g6,x5,x11,rfl,kb6,c6⟩
   show re K A _ [some (.ref a),some (.int B),some (.int lo),some (.int hi),some v,x5,some (.ref L),some (.ref f),some (kV x),some (.ref L9),some (.ref M),x11] H'
   refine ⟨f,b,B,_,_,_,g6,_,rfl,B1,B60,c6.s,by omega,.good lo hi rfl rfl en (.good p c6.pw fun L7 ps7 ts7 g7 H7 kb7 s7 sub7 hL7 pk7 e7=>?_)⟩
   have c7:=c6.kb kb7 s7 sub7
   have et:ts7=ts:=by rw [e7 _ (bV g7),←(c7.ex _ (bV g7)).1]
   subst et
   refine ⟨L7,L9,ps7,ps,_,rfl,hL7,c7.hL,zr pk7,zr c7.pk,c7.len.2,Sel.no rfl ?_⟩
   show rf K A _ [some (.ref a),some (.int B),some (.int lo),some (.int hi),some v,x5,some (.ref L),some (.ref f),some (kV x),some (.ref L9),some (.ref M),x11] H7
   refine ⟨f,b,B,x,_,_,_,g7,_,rfl,B1,B60,c7.s,by omega,.good lo hi rfl rfl en (.good p c7.pw fun x8 g8 H8 kb8 s8 sub8 e8=>?_)⟩
   have c8:=c7.kb kb8 s8 sub8
   have ee:x8=x:=by rw [e8 _ (bV g8),←(c8.ex _ (bV g8)).2]
   refine ⟨fun _ M4 rs4 J4 S4 hM4 pr4=>?_,fun z=>absurd ee z⟩
   have c9:=c8.same (Nat.le_refl _) S4
   exact ⟨M4,M,rs4,rs,_,rfl,hM4,c9.hM,kX pr4,kX c9.pr,c9.len.1,q _⟩
section
structure TP (P:Program) (w:World) (K:W.Frag) (mg:Str→Option Value) (base:Heap) (A:Adr):Prop extends Txt K mg A where
 B:BM mg base
 C_41:W.CodeHd base A.k_41 A.t_41
 C_32:W.CodeHd base A.k_32 A.t_32
 C_36:W.CodeHd base A.k_36 A.t_36
 C_68:W.CodeHd base A.k_68 A.t_68
variable {P:Program} {w:World} {K:W.Frag} {mg:Str→Option Value} {base:Heap} {A:Adr} (T:TP P w K mg base A)
include T
theorem ju:aO P w K mg base (CX1 P w) 1 A.a_52 A.d_52 ["thing"] (gf K A):=
 T.f_52.f.okS El (DQ K A) (Gf T.1) fun _ _ _ _ _ _ hr=>
 ap (ay (eB (aN eF T.z_isinstance boot_isinstance (aa (ac 0) (aa (dZ T.z_int boot_int) (ai)))) (fh (yB (aN eF T.z_isinstance boot_isinstance (aa (ac 0) (aa (dZ T.z_bool boot_bool) (ai))))))))
theorem yS:aO P w K mg base (CX1 P w) 2 A.a_49 A.d_49 ["thing"] (lm K A):=
 T.f_49.f.okS FF (DP K A) (Gh T.1) fun _ _ _ _ _ _ hr=>
 ao (aJ (bh (aK (ju T) hr.le T.f_52 (aa (ac 0) (ai)))) (ap (ay (lG oLe oLt (ag) (ac 0) (aq sj (ag) (ag))))) (aC)) (ap (ay (aN eF T.z_isinstance boot_isinstance (aa (ac 0) (aa (dZ T.z_str boot_str) (ai))))))
theorem yQ:aO P w K mg base (CX1 P w) 3 A.a_50 A.d_50 ["thing"] (kC K A):=
 T.f_50.f.okS EO (BH K A) (Ga T.1) fun _ _ _ _ _ _ hr=>
 ao (aJ (bf (bh (aN eF T.z_isinstance boot_isinstance (aa (ac 0) (aa (dZ T.z_tuple boot_tuple) (ai)))))) (ap (ay (bT))) (aC)) (ao (aJ (bf (er oLe oLe (ag) (aN cH T.z_len PySem.boot_len (aa (ac 0) (ai))) (xg T.c_MOST_PARTS))) (ap (ay (bT))) (aC)) (ap (ay (eB (aN eF T.z_isinstance boot_isinstance (aa (aM (az hr.units1) (ac 0) (ag) (fun _ _=>rfl)) (aa (dZ T.z_str boot_str) (ai)))) (fh (aN (JY rfl) T.z_all L2.Bn (aa (iO (ys:=[]) (by exact ⟨rfl,by decide +kernel,by decide +kernel,rfl,by decide +kernel,by decide +kernel⟩) (by exact .nil) (ef (ac 0)) (fun C s H fp=>kY) (fun C s H fp=>(aK (yS T) hr.le T.f_49 (aa (ac 0) (ai))))) (ai))))))))
theorem FV:aO P w K mg base (CX1 P w) 2 A.a_55 A.d_55 ["part"] (nV K A):=
 T.f_55.f.okS yI (Bc K A) (Ha T.1) fun _ _ _ _ _ _ hr=>
 ao (aJ (bh (aK (ju T) hr.le T.f_52 (aa (ac 0) (ai)))) (ap (ay (vb (.cons (rQ (ac 0)) (.cons (aW) (.nil)))))) (aC)) (ao (aI 1 yI.nd (aN cH T.z_len PySem.boot_len (aa (ac 0) (ai)))) (ap (ay (vb (.cons (rQ (ac 1)) (.cons (aW) (.cons (rQ (ac 0)) (.nil))))))))
theorem GP:aO P w K mg base (CX1 P w) 4 A.a_70 A.d_70 ["term"] (kJ K A):=
 T.f_70.f.okS EW (Be K A) (HB T.1) fun _ _ _ _ _ _ hr=>
 ao (aJ (bf (bh (aK (yQ T) hr.le T.f_50 (aa (ac 0) (ai))))) (ap (mj)) (aC)) (ap (ay (wI PySem.F.plainAttrs_str PySem.F.slot_str_join PySem.F.type_str_join zD (aW) (aa (iO (ys:=[]) (by exact ⟨rfl,by decide +kernel,by decide +kernel,rfl,by decide +kernel,by decide +kernel⟩) (by exact .nil) (ef (ac 0)) (fun C s H fp=>kY) (fun C s H fp=>(aK (FV T) hr.le T.f_55 (aa (ac 0) (ai))))) (ai)))))
theorem Fp (f c:Addr) (cl:List (Str×Addr)) (Ar:Around) (outer:List Env) (s:Shared) (H:Hp) (E:XK)
  (hr:be 4 (Ar.deeper (W.envX fE.qual fE.scope s.heap.objs.size f (.ref c) cl))):PE (gF P w K mg base ["term"] fE.qual fE.scope f c cl Ar outer s H E).nox (jJ wM) (BR K A):=QE.out (
 aK (GP T) hr.le T.f_70 (aa (ac 0) (ai)))
theorem EG:fF P w K mg base 5 fE (sy K A):=
 qO rfl HH (fun f c cl Ar outer s H vs cvs Q E hr hl hc h=>by
  obtain ⟨a0,rfl⟩:=L2.eM hl
  obtain rfl:=L2.sX hc
  exact ⟨_,(Fp T f c cl Ar outer s H E hr).nox,Fe T.1 a0 H Q E h⟩)
theorem JA:aO P w K mg base (CX1 P w) 4 A.a_5 A.d_5 ["self", "term"] (tu K A):=
 T.f_5.okS Jo (Fz K A) (Jc T.1) fun _ _ _ _ _ _ hr=>
 ao (aJ (bf (bh (aK (yQ T) hr.le T.f_50 (aa (ac 1) (ai))))) (ap (mj)) (aC)) (ao (aJ (aQ (zY hr.units150) (ac 1) (de (ac 0))) (ap (wA hr.units1 (de (ac 0)) (ac 1) (aN cH T.z_len PySem.boot_len (aa (de (ac 0)) (ai))))) (aC)) (ap (ay (aM (az hr.units1) (de (ac 0)) (ac 1) (fun _ _=>rfl)))))
theorem Gv (f c:Addr) (cl:List (Str×Addr)) (Ar:Around) (outer:List Env) (s:Shared) (H:Hp) (E:XK)
  (hr:be 4 (Ar.deeper (W.envX gb.qual gb.scope s.heap.objs.size f (.ref c) cl))):PE (gF P w K mg base ["term", "numbers"] gb.qual gb.scope f c cl Ar outer s H E).nox (jJ xE) (AJ K A):=QE.out (
 zM (ac 1) T.cl_Numbers T.me_Numbers_number_of (JA T) hr.le T.b_5 dU (aa (ac 0) (ai)))
theorem Es:fF P w K mg base 5 gb (rX K A):=
 qO rfl Ed (fun f c cl Ar outer s H vs cvs Q E hr hl hc h=>by
  obtain ⟨a0,rfl⟩:=L2.eM hl
  obtain ⟨b0,rfl⟩:=L2.eM hc
  exact ⟨_,(Gv T f c cl Ar outer s H E hr).nox,HA T.1 a0 b0 H Q E h⟩)
theorem Ge (f c:Addr) (cl:List (Str×Addr)) (Ar:Around) (outer:List Env) (s:Shared) (H:Hp) (E:XK)
  (hr:be 0 (Ar.deeper (W.envX gi.qual gi.scope s.heap.objs.size f (.ref c) cl))):PSs (gF P w K mg base ["_law_term", "_law_known", "_law_first"] gi.qual gi.scope f c cl Ar outer s H E).nox (aP xy) (Dj K A):=QSs.out (
 ap (ay (wI PySem.F.plainAttrs_dict PySem.F.slot_dict_setdefault PySem.F.type_dict_setdefault (uH hr.units1) (ac 1) (aa (ac 0) (aa (aq ba (aq cD (ag) (aN cH T.z_len PySem.boot_len (aa (ac 1) (ai)))) (ac 2)) (ai))))))
theorem HR:fF P w K mg base 1 gi (tG K A):=
 uM rfl GI (fun f c cl Ar outer s H vs cvs Q E hr hl hc h=>by
  obtain ⟨a0,rfl⟩:=L2.eM hl
  obtain ⟨b0,b1,rfl⟩:=L2.ss hc
  exact ⟨_,(Ge T f c cl Ar outer s H E hr).nox,GR T.1 a0 b0 b1 H Q E h⟩)
theorem FM (f c:Addr) (cl:List (Str×Addr)) (Ar:Around) (outer:List Env) (s:Shared) (H:Hp) (E:XK)
  (hr:be 0 (Ar.deeper (W.envX fV.qual fV.scope s.heap.objs.size f (.ref c) cl))):PSs (gF P w K mg base ["_law_term", "_law_total", "_law_part_here", "_law_signs", "_law_many"] fV.qual fV.scope f c cl Ar outer s H E).nox (aP xO) (CM K A):=QSs.out (
 ao (aI 1 jC.nd (ag)) (ao (fS 2 jC.nd (ef (ac 0)) (ap (aJ (bh (aN eF T.z_isinstance boot_isinstance (aa (ac 2) (aa (dZ T.z_str boot_str) (ai))))) (ao (tV (ys:=[]) 3 jC.nd (by exact ⟨rfl,by decide +kernel,by decide +kernel,rfl,by decide +kernel,by decide +kernel⟩) (by exact .nil) (ef (jP lb (ac 2) (lT) (gS (ag)))) (fun C s H fp=>kY) (fun C s H fp=>(aN Iz T.z_ord boot_ord (aa (ac 0) (ai))))) (ap (aI 1 jC.nd (aq ba (aq ba (aq cD (ac 1) (ag)) (aN cH T.z_len PySem.boot_len (aa (ac 2) (ai)))) (aq cD (ag) (aN (JS rfl) T.z_sum boot_sum (aa (ac 3) (ai)))))))) (ap (aI 1 jC.nd (aq ba (aq cD (ac 1) (ag)) (ac 2)))))) PassesOwn.never) (ap (ay (aq bj (ac 1) (ac 4))))))
theorem FU:fF P w K mg base 1 fV (sW K A):=
 uM rfl jC (fun f c cl Ar outer s H vs cvs Q E hr hl hc h=>by
  obtain ⟨a0,rfl⟩:=L2.eM hl
  obtain ⟨b0,rfl⟩:=L2.eM hc
  exact ⟨_,(FM T f c cl Ar outer s H E hr).nox,HQ T.1 a0 b0 H Q E h⟩)
theorem HF:aO P w K mg base (CX1 P w) 1 A.a_10 A.d_10 ["_law_cell"] (oE K A):=
 T.f_10.f.okS Fs (BK K A) (Hw T.1) fun _ _ _ _ _ _ hr=>
 ap (ay (aq ba (ag) (aq bj (aq cz (ac 0) (ag)) (aM (az hr.units1) (bK (aa (ag) (aa (ag) (aa (ag) (ai))))) (aq bj (ac 0) (ag)) (fun _ _=>rfl)))))
theorem lY:aO P w K mg base (CX1 P w) 1 A.a_8 A.d_8 ["_law_script", "_law_k"] (im K A):=
 T.f_8.f.okS pD (FX K A) (Jh T.1) fun _ _ _ _ _ _ hr=>
 ao (aJ (aQ oLt (ac 1) (aN cH T.z_len PySem.boot_len (aa (ac 0) (ai)))) (ap (ay (aM (az hr.units1) (ac 0) (ac 1) (fun _ _=>rfl)))) (aC)) (ao (aI 2 pD.nd (aq ba (ag) (aN cH T.z_len PySem.boot_len (aa (ac 0) (ai))))) (ao (fS 3 pD.nd (ef (jP lb (ac 0) (lT) (gS (ag)))) (ap (aI 2 pD.nd (aq bj (aq ba (aq cD (ac 2) (ag)) (ac 3)) (ag)))) PassesOwn.never) (ao (aI 2 pD.nd (aq bj (aq ba (ac 2) (aq cD (ag) (ac 1))) (ag))) (ap (ay (aq bj (aq cD (ac 2) (ac 2)) (ag)))))))
theorem zj:aO P w K mg base (CX1 P w) 1 A.a_14 A.d_14 ["_law_bits_here", "_law_cell", "_law_others"] (kE K A):=
 T.f_14.f.okS nK (AS K A) (Fx T.1) fun _ _ _ _ _ _ hr=>
 ao (aI 3 nK.nd (aq dN (ag) (ac 0))) (ao (aI 4 nK.nd (aq cz (ac 1) (ag))) (ao (aJ (aQ (bF hr.units150) (aq bj (ac 1) (ag)) (ag)) (ap (ay (aq bj (ac 4) (ac 3)))) (aC)) (ao (aJ (aQ (bF hr.units150) (aq bj (ac 1) (ag)) (ag)) (ap (ay (aq df (aq df (ac 3) (ag)) (aq bj (ac 4) (ac 3))))) (aC)) (ao (aJ (x_w (eK (aQ (bF hr.units150) (aq bj (ac 1) (ag)) (ag)) (dG (aQ (fg hr.units150) (ac 2) (bK (ai)))))) (ao (aI 5 nK.nd (aq bj (aq bj (aq cD (ac 4) (ag)) (ag)) (ac 0))) (ap (ay (aq Ii (aM (az hr.units1) (ac 2) (aq bj (ac 4) (aN cH T.z_len PySem.boot_len (aa (ac 2) (ai)))) (fun _ _=>rfl)) (aq dN (ag) (ac 5)))))) (aC)) (ap (ay (aq bj (aq cD (ac 4) (ag)) (ac 3))))))))
theorem HM:aO P w K mg base (CX1 P w) 2 A.a_31 A.d_31 ["_law_bits_here", "_law_one", "_law_other"] (ny K A):=
 T.f_31.f.okS lw (DC K A) (FL T.1) fun _ _ _ _ _ _ hr=>
 ao (aI 3 lw.nd (aK (zj T) hr.le T.f_14 (aa (ac 0) (aa (ac 1) (aa (bK (ai)) (ai)))))) (ao (aI 4 lw.nd (aK (zj T) hr.le T.f_14 (aa (ac 0) (aa (ac 2) (aa (bK (aa (ac 3) (ai))) (ai)))))) (ao (aJ (aQ (bF hr.units150) (aq bj (ac 2) (ag)) (ag)) (ap (aI 4 lw.nd (aN (xQ rfl) T.z_min boot_min (aa (aq ba (ac 3) (aq bj (aq cz (ac 2) (ag)) (ag))) (aa (aq df (aq dN (ag) (ac 0)) (ag)) (ai)))))) (aC)) (ao (aJ (aQ (bF hr.units150) (aq bj (ac 1) (ag)) (ag)) (ap (aI 4 lw.nd (ac 3))) (aC)) (ao (aJ (aQ (bF hr.units150) (aq bj (ac 2) (ag)) (ag)) (ap (ay (bn (aa (ag) (aa (aq df (aq dN (ag) (ac 0)) (ag)) (ai)))))) (aC)) (ap (ay (bn (aa (aN (xQ rfl) T.z_min boot_min (aa (ac 3) (aa (ac 4) (ai)))) (aa (aN (Ka rfl) T.z_max boot_max (aa (ac 3) (aa (ac 4) (ai)))) (ai))))))))))
theorem FW:aO P w K mg base (CX1 P w) 1 A.a_22 A.d_22 ["_law_cell", "_law_depth", "_law_begin_here"] (oo K A):=
 T.f_22.f.okS En (Cc K A) (Gj T.1) fun _ _ _ _ _ _ hr=>
 ap (ay (aq bj (aq cD (aq bj (aq ba (aq cD (aq ba (ac 0) (ag)) (ag)) (aq cD (aq ba (aq ba (aq cD (ac 2) (ag)) (ac 1)) (ag)) (ag))) (ag)) (ag)) (ag)))
theorem EB:aO P w K mg base (CX1 P w) 1 A.a_18 A.d_18 ["_law_bits_here", "_law_low", "_law_high", "_law_depth", "_law_begin_here"] (nR K A):=
 T.f_18.f.okS zp (AQ K A) (Hz T.1) fun _ _ _ _ _ _ hr=>
 ao (aI 5 zp.nd (aq dN (ag) (aq df (ac 0) (ac 3)))) (ap (ay (eB (dS oLe (aq cD (ac 4) (ac 5)) (ac 2)) (fh (dS oLt (ac 1) (aq cD (aq ba (ac 4) (ag)) (ac 5)))))))
theorem zd:aO P w K mg base (CX1 P w) 1 A.a_17 A.d_17 ["_law_number_here"] (kK K A):=
 T.f_17.f.okS yU (Dg K A) (Ew T.1) fun _ _ _ _ _ _ hr=>
 ao (aI 0 yU.nd (aq bj (aq cD (ac 0) (ag)) (ag))) (ao (aJ (aQ (bF hr.units150) (aq bj (ac 0) (ag)) (ag)) (ap (ay (aq ba (aW) (iw IQ T.z_str boot_str (aa (aq bj (ac 0) (ag)) (ai)))))) (aC)) (ao (aJ (aQ (bF hr.units150) (aq bj (ac 0) (ag)) (ag)) (ap (ay (aq bj (aq cz (ac 0) (ag)) (ag)))) (aC)) (ao (aJ (aQ (bF hr.units150) (aq bj (ac 0) (ag)) (ag)) (ap (ay (aq cD (ac 0) (aq sj (ag) (ag))))) (aC)) (ap (ay (aq df (aq df (aq sj (ag) (ag)) (ag)) (ac 0)))))))
theorem Ft:aO P w K mg base (CX1 P w) 1 A.a_35 A.d_35 ["_law_cell"] (jQ K A):=
 T.f_35.f.okS gk (CU K A) (FQ T.1) fun _ _ _ _ _ _ hr=>
 ao (aI 1 gk.nd (aW)) (ao (aI 1 gk.nd (aq ba (ac 1) (aW))) (ao (aI 2 gk.nd (aq bj (ac 0) (ag))) (ao (aJ (aQ (bF hr.units150) (aq bj (aq cz (ac 0) (ag)) (ag)) (ag)) (ap (aI 2 gk.nd (ag))) (aC)) (ao (aJ (aQ (bF hr.units150) (aq bj (aq cz (ac 0) (ag)) (ag)) (ag)) (ap (aI 2 gk.nd (aq bj (aq cz (ac 0) (ag)) (ag)))) (aC)) (ao (aI 3 gk.nd (aW)) (ao (fS 4 gk.nd (iF T.z_range (aa (ac 2) (ai))) (ap (aI 3 gk.nd (aq ba (ac 3) (aM (az hr.units1) (ac 1) (aq bj (aq ba (aq cz (ac 0) (ag)) (aq cD (ac 4) (aq bj (aq cz (ac 0) (ag)) (ag)))) (aN cH T.z_len PySem.boot_len (aa (ac 1) (ai)))) (fun _ _=>rfl))))) PassesOwn.never) (ap (ay (ac 3)))))))))
theorem Jv:aO P w K mg base (CX1 P w) 1 A.a_9 A.d_9 ["_law_number_here", "_law_begin_here", "_law_more", "_law_low", "_law_high", "_law_free"] (sI K A):=
 T.f_9.f.okS BZ (EI K A) (IF T.1) fun _ _ _ _ _ _ hr=>
 ao (aJ (aQ (bF hr.units150) (aq bj (ac 0) (ag)) (ag)) (ap (ay (aq ba (aq dN (ac 1) (ac 2)) (aq bj (aq cD (ac 0) (ag)) (aq dN (ag) (ac 2)))))) (aC)) (ao (aI 6 BZ.nd (aq lS (aq ba (ac 3) (aq bj (ac 0) (aq ba (aq df (ac 4) (ac 3)) (ag)))) (aq df (ac 5) (ac 2)))) (ao (aJ (aQ (fg hr.units150) (aq lS (ac 6) (ac 2)) (ac 1)) (ap (ay (aq dN (ac 1) (ac 2)))) (aC)) (ap (ay (ac 6)))))
theorem se:∀ n:Nat,aO P w K mg base (CX1 P w) (1+n) A.a_27 A.d_27 ["_law_cell", "_law_bits_here", "_law_low", "_law_high", "_law_depth", "_law_begin_here", "_law_deep"] (iy K A n)
 | 0=>⟨fun vs H Q E h=>(yy K A vs H Q E h).elim,fun _ _ _ H _ _ vs Q E _ _ _ _ h=>(yy K A vs H Q E h).elim⟩
 | n+1=>T.f_27.f.okS gd (DB K A (n+1)) (EV T.1 n) fun _ _ _ _ _ _ (hr:be (1+n) _)=>
 ao (aI 7 gd.nd (aK (FW T) hr.le T.f_22 (aa (ac 0) (aa (ac 4) (aa (ac 5) (ai)))))) (ao (aJ (bf (bh (aK (EB T) hr.le T.f_18 (aa (ac 1) (aa (ac 2) (aa (ac 3) (aa (ac 4) (aa (ac 5) (ai))))))))) (ap (ay (bn (aa (aW) (aa (aK (zd T) hr.le T.f_17 (aa (ac 7) (ai))) (ai)))))) (aC)) (ao (aJ (x_w (eK (aQ (bF hr.units150) (ac 4) (ag)) (dG (aQ (bF hr.units150) (aq bj (ac 7) (ag)) (ag))))) (ap (ay (bn (aa (aW) (ai))))) (aC)) (ao (aI 8 gd.nd (aq df (ac 1) (ac 4))) (ao (aJ (x_w (eC (aQ oLt (ac 6) (ag)) (eC (aQ (bF hr.units150) (ac 8) (ag)) (eL (x_w (eK (aQ (bF hr.units150) (aq bj (ac 7) (ag)) (ag)) (dG (aQ oLt (ac 6) (ag))))))))) (ao (aI 9 gd.nd (aq ba (aq cD (ac 5) (aq dN (ag) (ac 8))) (aq bj (aq cD (aq cz (ac 7) (ag)) (ag)) (aq dN (ag) (ac 8))))) (ao (aJ (x_w (eK (aQ (bF hr.units150) (aq bj (ac 7) (ag)) (ag)) (dG (aQ (bF hr.units150) (aq lS (ac 2) (ac 8)) (ac 5))))) (ap (aI 9 gd.nd (ac 2))) (aC)) (ap (ay (bn (aa (aW) (aa (ac 9) (aa (aK (Ft T) hr.le T.f_35 (aa (aq cz (ac 7) (ag)) (ai))) (ai))))))))) (aC)) (ao (aI 10 gd.nd (aM (az hr.units1) (bK (aa (ag) (aa (aq bj (aq cz (ac 7) (ag)) (ac 8)) (aa (ag) (aa (aq bj (aq cz (ac 7) (ag)) (aN (xQ rfl) T.z_min boot_min (aa (ac 8) (aa (ag) (ai))))) (ai)))))) (aq bj (ac 7) (ag)) (fun _ _=>rfl))) (ao (aI 11 gd.nd (aK (Jv T) hr.le T.f_9 (aa (ac 7) (aa (ac 5) (aa (ac 10) (aa (ac 2) (aa (ac 3) (aa (ac 8) (ai))))))))) (ao (aI 12 gd.nd (aK (se n) hr.le T.f_27 (aa (ac 0) (aa (ac 1) (aa (ac 2) (aa (ac 3) (aa (aq ba (aq ba (ac 4) (ac 10)) (ag)) (aa (aq cD (ag) (ac 11)) (aa (aq df (ac 6) (ag)) (ai)))))))))) (ao (aI 13 gd.nd (aK (se n) hr.le T.f_27 (aa (ac 0) (aa (ac 1) (aa (ac 2) (aa (ac 3) (aa (aq ba (aq ba (ac 4) (ac 10)) (ag)) (aa (aq ba (aq cD (ag) (ac 11)) (ag)) (aa (aq df (ac 6) (ag)) (ai)))))))))) (ap (ay (bn (aa (aW) (aa (aq ba (ac 4) (ac 10)) (aa (ac 11) (aa (ac 12) (aa (ac 13) (ai)))))))))))))))))
theorem Fv:aO P w K mg base (CX1 P w) 72 A.a_26 A.d_26 ["_law_cell", "_law_bits_here", "_law_low", "_law_high"] (nk K A):=
 T.f_26.f.okS rM (BX K A) (Fd T.1) fun _ _ _ _ _ _ hr=>
 ao (aI 4 rM.nd (aq ba (ag) (aq bj (aq cz (ac 0) (ag)) (ag)))) (ao (aJ (aQ (bF hr.units150) (ac 2) (ac 3)) (ap (aI 4 rM.nd (aM (az hr.units1) (bK (aa (ag) (aa (ag) (aa (ac 4) (ai))))) (aq bj (ac 0) (ag)) (fun _ _=>rfl)))) (aC)) (ap (ay (aK (se T 70) hr.le T.f_27 (aa (ac 0) (aa (ac 1) (aa (ac 2) (aa (ac 3) (aa (ag) (aa (ag) (aa (ac 4) (ai))))))))))))
theorem Jj:aO P w K mg base (CX1 P w) 1 A.a_4 A.d_4 ["self"] (sm K A):=
 T.f_4.okS JU (EJ K A) (IZ T.1) fun _ _ _ _ _ _ hr=>
 ap (fo (ac 0) (jB))
theorem Ef (B:BM mg base) (C:W.CodeHd base A.k_41 A.t_41) (Ar:Around) (outer:List Env) (s:Shared) (H:Hp) (E:XK)
  (hr:be 2 (Ar.deeper (envOfC "counting" (am kq) s.heap.objs.size A.a_41 (.ref A.k_41)))):QMs (cq (CX1 P w) P w K mg base ["numbers"] "counting" (am kq) A.a_41 (.ref A.k_41) Ar outer s H E).nox (aP kq) (Bi K A (s.heap.objs.size+1)):=(
 kG (la (aI 0 yu.nd (vM T.mk_Numbers (Jj T) hr.le T.mc_Numbers T.b_4 dU))) (nF (nA (yW B C rfl (by rfl) (by simp <;> omega) rfl rfl rfl rfl (fun _ _ _ _ us hl=>by obtain ⟨_,rfl⟩:=L2.eM hl;rfl)))))
theorem EY:aO P w K mg base (CX1 P w) 3 A.a_41 A.d_41 [] (oi K A):=
 T.f_41.f.okM (caps:=fun L=>[(0,L+1)]) T.kc_41 yu (Dd K A) (fun L p hp=>by simp only [List.mem_cons,List.not_mem_nil,or_false] at hp;rcases hp with rfl <;> exact ⟨_,rfl,rfl,rfl⟩) (fun L=>by simp) (fun Ar outer s H vs Q E hr h=>⟨_,QMs.nox (Ef T T.B T.C_41 Ar outer s H E hr),GO T.1 (s.heap.objs.size+1) (by simp) vs H Q E h⟩)
theorem GY (B:BM mg base) (C:W.CodeHd base A.k_32 A.t_32) (Ar:Around) (outer:List Env) (s:Shared) (H:Hp) (E:XK)
  (hr:be 0 (Ar.deeper (envOfC "_law_sure" (am kr) s.heap.objs.size A.a_32 (.ref A.k_32)))):QMs (cq (CX1 P w) P w K mg base ["_law_first", "_law_known", "_law_number"] "_law_sure" (am kr) A.a_32 (.ref A.k_32) Ar outer s H E).nox (aP kr) (DL K A (s.heap.objs.size+1) (s.heap.objs.size+1+1)):=(
 kG (la (aI 1 sL.nd (jB))) (kG (la (yR 2 sL.nd B C rfl (by rfl) (by simp <;> omega) rfl rfl rfl rfl (fun _ _ _ _ _ us hl=>by obtain ⟨_,rfl⟩:=L2.eM hl;rfl))) (nF (nA (ac 2)))))
theorem Hv:aO P w K mg base (CX1 P w) 1 A.a_32 A.d_32 ["_law_first"] (ou K A):=
 T.f_32.f.okM (caps:=fun L=>[(0,L+1),(1,L+1+1)]) T.kc_32 sL (AX K A) (fun L p hp=>by simp only [List.mem_cons,List.not_mem_nil,or_false] at hp;rcases hp with rfl | rfl <;> exact ⟨_,rfl,rfl,rfl⟩) (fun L=>by simp) (fun Ar outer s H vs Q E hr h=>⟨_,QMs.nox (GY T T.B T.C_32 Ar outer s H E hr),HV T.1 (s.heap.objs.size+1) (s.heap.objs.size+1+1) (by simp) vs H Q E h⟩)
theorem Hk (B:BM mg base) (C:W.CodeHd base A.k_36 A.t_36) (Ar:Around) (outer:List Env) (s:Shared) (H:Hp) (E:XK)
  (hr:be 0 (Ar.deeper (envOfC "_law_weak" (am km) s.heap.objs.size A.a_36 (.ref A.k_36)))):QMs (cq (CX1 P w) P w K mg base ["_law_many", "_law_short"] "_law_weak" (am km) A.a_36 (.ref A.k_36) Ar outer s H E).nox (aP km) (AU K A (s.heap.objs.size+1)):=(
 kG (la (yR 1 zh.nd B C rfl (by rfl) (by simp <;> omega) rfl rfl rfl rfl (fun _ _ _ _ _ us hl=>by obtain ⟨_,rfl⟩:=L2.eM hl;rfl))) (nF (nA (ac 1))))
theorem Hc:aO P w K mg base (CX1 P w) 1 A.a_36 A.d_36 ["_law_many"] (nU K A):=
 T.f_36.f.okM (caps:=fun L=>[(0,L+1)]) T.kc_36 zh (BS K A) (fun L p hp=>by simp only [List.mem_cons,List.not_mem_nil,or_false] at hp;rcases hp with rfl <;> exact ⟨_,rfl,rfl,rfl⟩) (fun L=>by simp) (fun Ar outer s H vs Q E hr h=>⟨_,QMs.nox (Hk T T.B T.C_36 Ar outer s H E hr),Gx T.1 (s.heap.objs.size+1) (by simp) vs H Q E h⟩)
theorem Eg (B:BM mg base) (C:W.CodeHd base A.k_68 A.t_68) (Ar:Around) (outer:List Env) (s:Shared) (H:Hp) (E:XK)
  (hr:be 0 (Ar.deeper (envOfC "writing" (am kj) s.heap.objs.size A.a_68 (.ref A.k_68)))):QMs (cq (CX1 P w) P w K mg base [] "writing" (am kj) A.a_68 (.ref A.k_68) Ar outer s H E).nox (aP kj) (DH K A):=(
 nF (nA (yW B C rfl (by rfl) (by simp <;> omega) rfl rfl rfl rfl (fun _ _ _ _ us hl=>by obtain ⟨_,rfl⟩:=L2.eM hl;rfl))))
theorem Hj:aO P w K mg base (CX1 P w) 1 A.a_68 A.d_68 [] (om K A):=
 T.f_68.f.okM (caps:=fun L=>[]) T.kc_68 Et (Cg K A) (fun L p hp=>nomatch hp) (fun L=>by simp) (fun Ar outer s H vs Q E hr h=>⟨_,QMs.nox (Eg T T.B T.C_68 Ar outer s H E hr),Hf T.1 (by simp) vs H Q E h⟩)
theorem hJ:qT P w K mg base 5 (fM K A):=fun ts hts=>by
 simp only [fM,List.mem_cons,List.not_mem_nil,or_false] at hts
 rcases hts with rfl | rfl | rfl | rfl
 · exact (EG T).mono (by decide)
 · exact (Es T).mono (by decide)
 · exact (HR T).mono (by decide)
 · exact (FU T).mono (by decide)
theorem sR:∀ n:Nat,aO P w K mg base (CX1 P w) (5+n) A.a_23 A.d_23 ["_law_stamper", "_law_part_here"] (ip K A n)
 | 0=>⟨fun vs H Q E h=>(yz K A vs H Q E h).elim,fun _ _ _ H _ _ vs Q E _ _ _ _ h=>(yz K A vs H Q E h).elim⟩
 | n+1=>T.f_23.f.okS og (AT K A (n+1)) (ER T.1 n) fun _ _ _ _ _ _ (hr:be (5+n) _)=>
 ao (aJ (aQ (bF hr.units150) (aM (az hr.units1) (ac 1) (ag) (fun _ _=>rfl)) (aW)) (ap (ay (bn (aa (aM (az hr.units1) (ac 1) (ag) (fun _ _=>rfl)) (aa (bK (ai)) (ai)))))) (aC)) (ao (aJ (aQ (fg hr.units150) (aM (az hr.units1) (ac 1) (ag) (fun _ _=>rfl)) (aW)) (ap (ay (bn (aa (gK (hJ T) hr.le dU (ac 0) (aa (ac 1) (ai))) (aa (bK (aa (ac 1) (ai))) (ai)))))) (aC)) (ao (aI 2 og.nd (aK (sR n) hr.le T.f_23 (aa (ac 0) (aa (aM (az hr.units1) (ac 1) (ag) (fun _ _=>rfl)) (ai))))) (ao (aI 3 og.nd (aK (sR n) hr.le T.f_23 (aa (ac 0) (aa (aM (az hr.units1) (ac 1) (ag) (fun _ _=>rfl)) (ai))))) (ao (aI 4 og.nd (bn (aa (aW) (aa (aM (az hr.units1) (ac 1) (ag) (fun _ _=>rfl)) (aa (aM (az hr.units1) (ac 1) (ag) (fun _ _=>rfl)) (aa (aM (az hr.units1) (ac 2) (ag) (fun _ _=>rfl)) (aa (aM (az hr.units1) (ac 3) (ag) (fun _ _=>rfl)) (ai)))))))) (ap (ay (bn (aa (gK (hJ T) hr.le dU (ac 0) (aa (ac 4) (ai))) (aa (aq ba (aq ba (aM (az hr.units1) (ac 2) (ag) (fun _ _=>rfl)) (aM (az hr.units1) (ac 3) (ag) (fun _ _=>rfl))) (bK (aa (ac 4) (ai)))) (ai))))))))))
theorem sw:∀ n:Nat,aO P w K mg base (CX1 P w) (0+n) A.a_16 A.d_16 ["_law_part_here"] (io K A n)
 | 0=>⟨fun vs H Q E h=>(yP K A vs H Q E h).elim,fun _ _ _ H _ _ vs Q E _ _ _ _ h=>(yP K A vs H Q E h).elim⟩
 | n+1=>T.f_16.f.okS Hs (BA K A (n+1)) (FP T.1 n) fun _ _ _ _ _ _ (hr:be (0+n) _)=>
 ao (aJ (aQ (bF hr.units150) (aM (az hr.units1) (ac 0) (ag) (fun _ _=>rfl)) (aW)) (ap (ay (bK (aa (bn (aa (aM (az hr.units1) (ac 0) (ag) (fun _ _=>rfl)) (aa (aM (az hr.units1) (ac 0) (ag) (fun _ _=>rfl)) (ai)))) (ai))))) (aC)) (ao (aJ (aQ (bF hr.units150) (aM (az hr.units1) (ac 0) (ag) (fun _ _=>rfl)) (aW)) (ap (ay (aq ba (aK (sw n) hr.le T.f_16 (aa (aM (az hr.units1) (ac 0) (ag) (fun _ _=>rfl)) (ai))) (aK (sw n) hr.le T.f_16 (aa (aM (az hr.units1) (ac 0) (ag) (fun _ _=>rfl)) (ai)))))) (aC)) (ap (ay (bK (ai)))))
theorem Gu:aO P w K mg base (CX1 P w) 71 A.a_13 A.d_13 ["_law_part_here", "_law_low", "_law_high"] (nG K A):=
 T.f_13.f.okS Fo (DJ K A) (GX T.1) fun _ _ _ _ _ _ hr=>
 ap (ay (iO (ys:=["_law_low", "_law_high"]) (by exact ⟨rfl,by decide +kernel,by decide +kernel,rfl,by decide +kernel,by decide +kernel⟩) (by exact .cons rfl (by first | exact .inl rfl | exact .inr rfl) rfl (.cons rfl (by first | exact .inl rfl | exact .inr rfl) rfl (.nil))) (ef (aK (sw T 70) hr.le T.f_16 (aa (ac 0) (ai)))) (fun C s H fp=>qw (er oLe oLe (ac 1) (aM (az hr.units1) (ac 0) (ag) (fun _ _=>rfl)) (ac 2))) (fun C s H fp=>(ac 0))))
theorem rP:aO P w K mg base (CX1 P w) 1 A.a_28 A.d_28 ["_law_found", "_law_due"] (jS K A):=
 T.f_28.f.okS FN (BJ K A) (GG T.1) fun _ _ _ _ _ _ hr=>
 ao (aJ (bh (aN eF T.z_isinstance boot_isinstance (aa (ac 1) (aa (dZ T.z_str boot_str) (ai))))) (ap (ay (eB (aN eF T.z_isinstance boot_isinstance (aa (ac 0) (aa (dZ T.z_str boot_str) (ai)))) (fh (dS (bF hr.units150) (ac 0) (ac 1)))))) (aC)) (ap (ay (eB (aN eF T.z_isinstance boot_isinstance (aa (ac 0) (aa (dZ T.z_int boot_int) (ai)))) (eB (yB (aN eF T.z_isinstance boot_isinstance (aa (ac 0) (aa (dZ T.z_bool boot_bool) (ai))))) (fh (dS (bF hr.units150) (ac 0) (ac 1)))))))
theorem EF:aO P w K mg base (CX1 P w) 2 A.a_34 A.d_34 ["_law_found", "_law_due"] (oa K A):=
 T.f_34.f.okS yM (BF K A) (Hq T.1) fun _ _ _ _ _ _ hr=>
 ao (aJ (x_w (eC (bf (bh (aN eF T.z_isinstance boot_isinstance (aa (ac 0) (aa (dZ T.z_tuple boot_tuple) (ai)))))) (eL (aQ (fg hr.units150) (aN cH T.z_len PySem.boot_len (aa (ac 0) (ai))) (aN cH T.z_len PySem.boot_len (aa (ac 1) (ai))))))) (ap (ay (bT))) (aC)) (ao (fS 2 yM.nd (iF T.z_range (aa (aN cH T.z_len PySem.boot_len (aa (ac 1) (ai))) (ai))) (ap (aJ (bf (bh (aK (rP T) hr.le T.f_28 (aa (aM (az hr.units1) (ac 0) (ac 2) (fun _ _=>rfl)) (aa (aM (az hr.units1) (ac 1) (ac 2) (fun _ _=>rfl)) (ai)))))) (ap (ay (bT))) (aC))) PassesOwn.never) (ap (ay (bT))))
theorem tB:aO P w K mg base (CX1 P w) 3 A.a_30 A.d_30 ["_law_found", "_law_due"] (jK K A):=
 T.f_30.f.okS yX (DI K A) (HW T.1) fun _ _ _ _ _ _ hr=>
 ao (aJ (x_w (eC (bf (bh (aN eF T.z_isinstance boot_isinstance (aa (ac 0) (aa (dZ T.z_list boot_list) (ai)))))) (eL (aQ (fg hr.units150) (aN cH T.z_len PySem.boot_len (aa (ac 0) (ai))) (aN cH T.z_len PySem.boot_len (aa (ac 1) (ai))))))) (ap (ay (bT))) (aC)) (ao (fS 2 yX.nd (iF T.z_range (aa (aN cH T.z_len PySem.boot_len (aa (ac 1) (ai))) (ai))) (ap (aJ (bf (bh (aK (EF T) hr.le T.f_34 (aa (aM (az hr.units1) (ac 0) (ac 2) (fun _ _=>rfl)) (aa (aM (az hr.units1) (ac 1) (ac 2) (fun _ _=>rfl)) (ai)))))) (ap (ay (bT))) (aC))) PassesOwn.never) (ap (ay (bT))))
theorem nJ:aO P w K mg base (CX1 P w) 2 A.a_46 A.d_46 ["bits", "thing"] (iE K A):=
 T.f_46.f.okS Fq (BN K A) (Fi T.1) fun _ _ _ _ _ _ hr=>
 ap (ay (eB (aK (ju T) hr.le T.f_52 (aa (ac 1) (ai))) (fh (lG oLe oLt (ag) (ac 1) (aq dN (ag) (ac 0))))))
theorem Fk (cdv:Value) (Ar:Around) (outer:List Env) (s:Shared) (H:Hp) (E:XK)
  (hr:be 2 (Ar.deeper (envOfC "check_stretch" (am lH) s.heap.objs.size A.a_40 cdv))):PSs (cq (CX1 P w) P w K mg base ["bits", "low", "high"] "check_stretch" (am lH) A.a_40 cdv Ar outer s H E) (aP lH) (AC K A E):=QSs.out (
 ao (aJ (x_w (eC (bf (bh (aK (nJ T) hr.le T.f_46 (aa (ac 0) (aa (ac 1) (ai)))))) (eL (bf (bh (aK (nJ T) hr.le T.f_46 (aa (ac 0) (aa (ac 2) (ai))))))))) (ap (jv T.er_NoKey T.mc_NoKey eX)) (aC)) (ap (aJ (aQ oGt (ac 1) (ac 2)) (ap (jv T.er_NoStretch T.mc_NoStretch eX)) (aC))))
theorem tF:aO P w K mg base (CX1 P w) 3 A.a_40 A.d_40 ["bits", "low", "high"] (jU K A):=
 T.f_40.f.okX Fl (CC K A) (fun cdv Ar outer s H vs Q E hr h=>⟨_,Fk T cdv Ar outer s H E hr,FC T.1 vs H Q E h⟩)
theorem EQ:aO P w K mg base (CX1 P w) 1 A.a_62 A.d_62 ["bits", "depth", "begin"] (nY K A):=
 T.f_62.f.okS yK (Dq K A) (HG T.1) fun _ _ _ _ _ _ hr=>
 ao (aI 3 yK.nd (aq df (ac 0) (ac 1))) (ap (ay (bn (aa (aq dN (ac 2) (ac 3)) (aa (aq df (aq dN (aq ba (ac 2) (ag)) (ac 3)) (ag)) (ai))))))
theorem yF:aO P w K mg base (CX1 P w) 2 A.a_54 A.d_54 ["bits", "low", "high", "depth", "begin"] (kH K A):=
 T.f_54.f.okS zf (CL K A) (Gd T.1) fun _ _ _ _ _ _ hr=>
 ao (aI 5 zf.nd (aK (EQ T) hr.le T.f_62 (aa (ac 0) (aa (ac 3) (aa (ac 4) (ai)))))) (ap (ay (eB (dS oLe (aM (az hr.units1) (ac 5) (ag) (fun _ _=>rfl)) (ac 2)) (fh (dS oLe (ac 1) (aM (az hr.units1) (ac 5) (ag) (fun _ _=>rfl)))))))
theorem Hg:aO P w K mg base (CX1 P w) 3 A.a_44 A.d_44 ["thing"] (nQ K A):=
 T.f_44.f.okS HD (Co K A) (Fc T.1) fun _ _ _ _ _ _ hr=>
 ap (ay (eB (aN eF T.z_isinstance boot_isinstance (aa (ac 0) (aa (dZ T.z_tuple boot_tuple) (ai)))) (eB (dS (bF hr.units150) (aN cH T.z_len PySem.boot_len (aa (ac 0) (ai))) (ag)) (eB (dS (bF hr.units150) (aM (az hr.units1) (ac 0) (ag) (fun _ _=>rfl)) (aW)) (fh (aK (yS T) hr.le T.f_49 (aa (aM (az hr.units1) (ac 0) (ag) (fun _ _=>rfl)) (ai))))))))
theorem Hd:aO P w K mg base (CX1 P w) 1 A.a_51 A.d_51 ["thing"] (oq K A):=
 T.f_51.f.okS FD (CV K A) (FZ T.1) fun _ _ _ _ _ _ hr=>
 ap (ay (eB (aN eF T.z_isinstance boot_isinstance (aa (ac 0) (aa (dZ T.z_str boot_str) (ai)))) (fh (dS oLe (aN cH T.z_len PySem.boot_len (aa (ac 0) (ai))) (xg T.c_MOST_SIGNS)))))
theorem yq:aO P w K mg base (CX1 P w) 1 A.a_63 A.d_63 ["bits", "key", "depth"] (kF K A):=
 T.f_63.f.okS EX (Bb K A) (EN T.1) fun _ _ _ _ _ _ hr=>
 ap (ay (aq lS (ac 1) (aq df (ac 0) (ac 2))))
theorem Ez:aO P w K mg base (CX1 P w) 3 A.a_47 A.d_47 ["bits", "depth", "begin", "thing"] (oA K A):=
 T.f_47.f.okS GM (BQ K A) (HE T.1) fun _ _ _ _ _ _ hr=>
 ao (aJ (x_w (eC (bf (bh (aN eF T.z_isinstance boot_isinstance (aa (ac 3) (aa (dZ T.z_tuple boot_tuple) (ai)))))) (eC (aQ (fg hr.units150) (aN cH T.z_len PySem.boot_len (aa (ac 3) (ai))) (ag)) (eL (aQ (fg hr.units150) (aM (az hr.units1) (ac 3) (ag) (fun _ _=>rfl)) (aW)))))) (ap (ay (bT))) (aC)) (ao (aJ (x_w (eC (bf (bh (aK (nJ T) hr.le T.f_46 (aa (ac 0) (aa (aM (az hr.units1) (ac 3) (ag) (fun _ _=>rfl)) (ai)))))) (eL (bf (bh (aK (Hd T) hr.le T.f_51 (aa (aM (az hr.units1) (ac 3) (ag) (fun _ _=>rfl)) (ai)))))))) (ap (ay (bT))) (aC)) (ap (ay (dS (bF hr.units150) (aK (yq T) hr.le T.f_63 (aa (ac 0) (aa (aM (az hr.units1) (ac 3) (ag) (fun _ _=>rfl)) (aa (ac 1) (ai))))) (ac 2)))))
theorem Ee:aO P w K mg base (CX1 P w) 2 A.a_45 A.d_45 ["bits", "depth", "begin", "thing"] (nZ K A):=
 T.f_45.f.okS Gr (AW K A) (HP T.1) fun _ _ _ _ _ _ hr=>
 ao (aJ (x_w (eC (bf (bh (aN eF T.z_isinstance boot_isinstance (aa (ac 3) (aa (dZ T.z_tuple boot_tuple) (ai)))))) (eC (aQ (fg hr.units150) (aN cH T.z_len PySem.boot_len (aa (ac 3) (ai))) (ag)) (eL (aQ (fg hr.units150) (aM (az hr.units1) (ac 3) (ag) (fun _ _=>rfl)) (aW)))))) (ap (ay (bT))) (aC)) (ao (aJ (x_w (eC (bf (bh (aK (ju T) hr.le T.f_52 (aa (aM (az hr.units1) (ac 3) (ag) (fun _ _=>rfl)) (ai))))) (eL (bf (er oLe oLt (ac 1) (aM (az hr.units1) (ac 3) (ag) (fun _ _=>rfl)) (ac 0)))))) (ap (ay (bT))) (aC)) (ao (aJ (x_w (eC (bf (bh (aK (ju T) hr.le T.f_52 (aa (aM (az hr.units1) (ac 3) (ag) (fun _ _=>rfl)) (ai))))) (eL (bf (er oLe oLt (ag) (aM (az hr.units1) (ac 3) (ag) (fun _ _=>rfl)) (aq dN (ag) (aM (az hr.units1) (ac 3) (ag) (fun _ _=>rfl)))))))) (ap (ay (bT))) (aC)) (ap (ay (dS (bF hr.units150) (aq lS (aM (az hr.units1) (ac 3) (ag) (fun _ _=>rfl)) (aq df (aM (az hr.units1) (ac 3) (ag) (fun _ _=>rfl)) (ac 1))) (ac 2))))))
theorem Gk:aO P w K mg base (CX1 P w) 4 A.a_48 A.d_48 ["bits", "low", "high", "depth", "begin", "thing"] (oB K A):=
 T.f_48.f.okS Fg (CQ K A) (GF T.1) fun _ _ _ _ _ _ hr=>
 ao (aJ (bf (bh (aK (yF T) hr.le T.f_54 (aa (ac 0) (aa (ac 1) (aa (ac 2) (aa (ac 3) (aa (ac 4) (ai))))))))) (ap (ay (aK (Hg T) hr.le T.f_44 (aa (ac 5) (ai))))) (aC)) (ao (aJ (aQ (bF hr.units150) (ac 5) (bn (aa (aW) (ai)))) (ap (ay (dS (bF hr.units150) (ac 3) (ag)))) (aC)) (ap (ay (JN (aK (Ez T) hr.le T.f_47 (aa (ac 0) (aa (ac 3) (aa (ac 4) (aa (ac 5) (ai)))))) (fh (aK (Ee T) hr.le T.f_45 (aa (ac 0) (aa (ac 3) (aa (ac 4) (aa (ac 5) (ai)))))))))))
theorem Ib:aO P w K mg base (CX1 P w) 1 A.a_3 A.d_3 ["self", "depth", "begin"] (sS K A):=
 T.f_3.okS Js (HZ K A) (Ir T.1) fun _ _ _ _ _ _ hr=>
 ao (lc (ac 0) (ac 1)) (ap (lc (ac 0) (ac 2)))
theorem Ek (n:Nat) (G_39:aO P w K mg base (CX1 P w) (4+n) A.a_39 A.d_39 ["bits", "low", "high", "depth", "begin", "part"] (gc K A n)) (cdv:Value) (Ar:Around) (outer:List Env) (s:Shared) (H:Hp) (E:XK)
  (hr:be (4+n) (Ar.deeper (envOfC "check_part" (am lK) s.heap.objs.size A.a_39 cdv))):PSs (cq (CX1 P w) P w K mg base ["bits", "low", "high", "depth", "begin", "part"] "check_part" (am lK) A.a_39 cdv Ar outer s H E) (aP lK) (CZ K A E n):=QSs.out (
 ao (aJ (bf (bh (aK (Gk T) hr.le T.f_48 (aa (ac 0) (aa (ac 1) (aa (ac 2) (aa (ac 3) (aa (ac 4) (aa (ac 5) (ai)))))))))) (ap (pH T.em_NoPart (Ib T) hr.le T.b_3 T.mc_NoPart eX (aa (ac 3) (aa (ac 4) (ai))))) (aC)) (ap (aJ (aQ (bF hr.units150) (aM (az hr.units1) (ac 5) (ag) (fun _ _=>rfl)) (aW)) (ao (dj (bR G_39 hr.le T.f_39.m T.f_39.f.kp T.f_39.b bY (aa (ac 0) (aa (ac 1) (aa (ac 2) (aa (aq ba (aM (az hr.units1) (ac 5) (ag) (fun _ _=>rfl)) (ag)) (aa (aq cD (ag) (aM (az hr.units1) (ac 5) (ag) (fun _ _=>rfl))) (aa (aM (az hr.units1) (ac 5) (ag) (fun _ _=>rfl)) (ai))))))))) (ap (dj (bR G_39 hr.le T.f_39.m T.f_39.f.kp T.f_39.b bY (aa (ac 0) (aa (ac 1) (aa (ac 2) (aa (aq ba (aM (az hr.units1) (ac 5) (ag) (fun _ _=>rfl)) (ag)) (aa (aq ba (aq cD (ag) (aM (az hr.units1) (ac 5) (ag) (fun _ _=>rfl))) (ag)) (aa (aM (az hr.units1) (ac 5) (ag) (fun _ _=>rfl)) (ai))))))))))) (aC))))
theorem tE:∀ n:Nat,aO P w K mg base (CX1 P w) (4+n) A.a_39 A.d_39 ["bits", "low", "high", "depth", "begin", "part"] (gc K A n)
 | 0=>⟨fun vs H Q E h=>(zm K A vs H Q E h).elim,fun _ _ _ H _ _ vs Q E _ _ _ _ h=>(zm K A vs H Q E h).elim⟩
 | n+1=>T.f_39.f.okX HY (Bg K A (n+1)) (fun cdv Ar outer s H vs Q E hr h=>⟨_,Ek T n (tE n) cdv Ar outer s H E hr,FK T.1 n vs H Q E h⟩)
theorem GS (cdv:Value) (Ar:Around) (outer:List Env) (s:Shared) (H:Hp) (E:XK)
  (hr:be 74 (Ar.deeper (envOfC "check_paper" (am lP) s.heap.objs.size A.a_38 cdv))):PSs (cq (CX1 P w) P w K mg base ["bits", "low", "high", "paper"] "check_paper" (am lP) A.a_38 cdv Ar outer s H E) (aP lP) (Bh K A E):=QSs.out (
 ao (dj (bR (tF T) hr.le T.f_40.m T.f_40.f.kp T.f_40.b bY (aa (ac 0) (aa (ac 1) (aa (ac 2) (ai)))))) (ap (dj (bR (tE T 70) hr.le T.f_39.m T.f_39.f.kp T.f_39.b bY (aa (ac 0) (aa (ac 1) (aa (ac 2) (aa (ag) (aa (ag) (aa (ac 3) (ai)))))))))))
theorem Eh:aO P w K mg base (CX1 P w) 75 A.a_38 A.d_38 ["bits", "low", "high", "paper"] (nM K A):=
 T.f_38.f.okX Eu (Ba K A) (fun cdv Ar outer s H vs Q E hr h=>⟨_,GS T cdv Ar outer s H E hr,Hu T.1 vs H Q E h⟩)
theorem sM:aO P w K mg base (CX1 P w) 6 A.a_56 A.d_56 ["stamper", "part", "terms"] (jX K A):=
 T.f_56.f.okS Hx (AV K A) (Gz T.1) fun _ _ _ _ _ _ hr=>
 ap (ay (IU (aQ (bF hr.units150) (aM (az hr.units1) (ac 1) (ag) (fun _ _=>rfl)) (aW)) (aM (az hr.units1) (ac 1) (ag) (fun _ _=>rfl)) (gK (hJ T) hr.le dU (ac 0) (aa (aM (az hr.units1) (ac 2) (iq (ag)) (fun _ _=>rfl)) (ai)))))
theorem ls:∀ n:Nat,aO P w K mg base (CX1 P w) (6+n) A.a_58 A.d_58 ["stamper", "part"] (gh K A n)
 | 0=>⟨fun vs H Q E h=>(yA K A vs H Q E h).elim,fun _ _ _ H _ _ vs Q E _ _ _ _ h=>(yA K A vs H Q E h).elim⟩
 | n+1=>T.f_58.f.okS oz (Ci K A (n+1)) (HJ T.1 n) fun _ _ _ _ _ _ (hr:be (6+n) _)=>
 ao (aJ (aQ (bF hr.units150) (aM (az hr.units1) (ac 1) (ag) (fun _ _=>rfl)) (aW)) (ap (ay (bK (ai)))) (aC)) (ao (aJ (aQ (fg hr.units150) (aM (az hr.units1) (ac 1) (ag) (fun _ _=>rfl)) (aW)) (ap (ay (bK (aa (ac 1) (ai))))) (aC)) (ao (aI 2 oz.nd (aK (ls n) hr.le T.f_58 (aa (ac 0) (aa (aM (az hr.units1) (ac 1) (ag) (fun _ _=>rfl)) (ai))))) (ao (aI 3 oz.nd (aK (ls n) hr.le T.f_58 (aa (ac 0) (aa (aM (az hr.units1) (ac 1) (ag) (fun _ _=>rfl)) (ai))))) (ao (aI 4 oz.nd (bn (aa (aK (sM T) hr.le T.f_56 (aa (ac 0) (aa (aM (az hr.units1) (ac 1) (ag) (fun _ _=>rfl)) (aa (ac 2) (ai))))) (aa (aK (sM T) hr.le T.f_56 (aa (ac 0) (aa (aM (az hr.units1) (ac 1) (ag) (fun _ _=>rfl)) (aa (ac 3) (ai))))) (ai))))) (ap (ay (aq ba (aq ba (ac 2) (ac 3)) (bK (aa (bn (aa (aW) (aa (aM (az hr.units1) (ac 1) (ag) (fun _ _=>rfl)) (aa (aM (az hr.units1) (ac 1) (ag) (fun _ _=>rfl)) (aa (aM (az hr.units1) (ac 4) (ag) (fun _ _=>rfl)) (aa (aM (az hr.units1) (ac 4) (ag) (fun _ _=>rfl)) (ai))))))) (ai))))))))))
theorem Ep (cdv:Value) (Ar:Around) (outer:List Env) (s:Shared) (H:Hp) (E:XK)
  (hr:be 76 (Ar.deeper (envOfC "stretch_terms" (am lI) s.heap.objs.size A.a_67 cdv))):PSs (cq (CX1 P w) P w K mg base ["stamper", "bits", "low", "high", "paper"] "stretch_terms" (am lI) A.a_67 cdv Ar outer s H E) (aP lI) (Bk K A E):=QSs.out (
 ao (dj (bR (Eh T) hr.le T.f_38.m T.f_38.f.kp T.f_38.b bY (aa (ac 1) (aa (ac 2) (aa (ac 3) (aa (ac 4) (ai))))))) (ap (ay (aK (ls T 70) hr.le T.f_58 (aa (ac 0) (aa (ac 4) (ai)))))))
theorem nD:aO P w K mg base (CX1 P w) 77 A.a_67 A.d_67 ["stamper", "bits", "low", "high", "paper"] (iI K A):=
 T.f_67.f.okX Em (Dy K A) (fun cdv Ar outer s H vs Q E hr h=>⟨_,Ep T cdv Ar outer s H E hr,Gi T.1 vs H Q E h⟩)
theorem Jy:aO P w K mg base (CX1 P w) 1 A.a_1 A.d_1 ["self", "due", "came"] (sP K A):=
 T.f_1.okS Iw (Ey K A) (IT T.1) fun _ _ _ _ _ _ hr=>
 ao (lc (ac 0) (ac 1)) (ap (lc (ac 0) (ac 2)))
theorem Ht:aO P w K mg base (CX1 P w) 1 A.a_59 A.d_59 ["low", "high", "terms"] (nW K A):=
 T.f_59.f.okS Hm (Dx K A) (FI T.1) fun _ _ _ _ _ _ hr=>
 ap (ay (iO (ys:=["low", "high"]) (by exact ⟨rfl,by decide +kernel,by decide +kernel,rfl,by decide +kernel,by decide +kernel⟩) (by exact .cons rfl (by first | exact .inl rfl | exact .inr rfl) rfl (.cons rfl (by first | exact .inl rfl | exact .inr rfl) rfl (.nil))) (ef (ac 2)) (fun C s H fp=>qw (x_w (eK (aQ (bF hr.units150) (aM (az hr.units1) (ac 0) (ag) (fun _ _=>rfl)) (aW)) (dG (er oLe oLe (ac 1) (aM (az hr.units1) (ac 0) (ag) (fun _ _=>rfl)) (ac 2)))))) (fun C s H fp=>(bn (aa (aM (az hr.units1) (ac 0) (ag) (fun _ _=>rfl)) (aa (aM (az hr.units1) (ac 0) (ag) (fun _ _=>rfl)) (ai)))))))
theorem Ex (cdv:Value) (Ar:Around) (outer:List Env) (s:Shared) (H:Hp) (E:XK)
  (hr:be 77 (Ar.deeper (envOfC "stretch_answer" (am me) s.heap.objs.size A.a_64 cdv))):PSs (cq (CX1 P w) P w K mg base ["stamper", "bits", "mark", "low", "high", "paper", "terms", "came"] "stretch_answer" (am me) A.a_64 cdv Ar outer s H E) (aP me) (CG K A E):=QSs.out (
 ao (aI 6 su.nd (bR (nD T) hr.le T.f_67.m T.f_67.f.kp T.f_67.b bY (aa (ac 0) (aa (ac 1) (aa (ac 3) (aa (ac 4) (aa (ac 5) (ai)))))))) (ao (aI 7 su.nd (gK (hJ T) hr.le dU (ac 0) (aa (aM (az hr.units1) (ac 6) (iq (ag)) (fun _ _=>rfl)) (ai)))) (ao (aJ (aQ (fg hr.units150) (ac 7) (ac 2)) (ap (pH T.em_Broken (Jy T) hr.le T.b_1 T.mc_Broken eX (aa (ac 2) (aa (ac 7) (ai))))) (aC)) (ap (ay (aK (Ht T) hr.le T.f_59 (aa (ac 3) (aa (ac 4) (aa (ac 6) (ai))))))))))
theorem sU:aO P w K mg base (CX1 P w) 78 A.a_64 A.d_64 ["stamper", "bits", "mark", "low", "high", "paper"] (jO K A):=
 T.f_64.f.okX su (BY K A) (fun cdv Ar outer s H vs Q E hr h=>⟨_,Ex T cdv Ar outer s H E hr,HX T.1 vs H Q E h⟩)
theorem GT:aO P w K mg base (CX1 P w) 1 A.a_20 A.d_20 ["_law_bits_here", "_law_cell"] (nE K A):=
 T.f_20.f.okS zq (Dr K A) (Ej T.1) fun _ _ _ _ _ _ hr=>
 ao (aI 2 zq.nd (aq ba (aq dN (ag) (ac 0)) (aq bj (ac 1) (aq sj (ag) (ag))))) (ap (ay (bK (aa (iq (ag)) (aa (aq dN (ag) (ac 0)) (aa (ac 2) (aa (iq (ac 2)) (aa (bT) (aa (bT) (aa (lg) (aa (aW) (aa (bK (aa (ag) (ai))) (aa (bn (aa (ag) (ai))) (aa (jB) (aa (aW) (aa (bK (ai)) (aa (bn (ai)) (ai))))))))))))))))))
theorem Gm:aO P w K mg base (CX1 P w) 1 A.a_21 A.d_21 ["_law_paper_here"] (nH K A):=
 T.f_21.f.okS zk (BI K A) (Hh T.1) fun _ _ _ _ _ _ hr=>
 ao (aI 1 zk.nd (bK (aa (lg) (aa (bn (ai)) (aa (bK (ai)) (aa (aW) (aa (ag) (aa (bT) (aa (jB) (aa (iw Hn T.z_list boot_list (aa (ac 0) (ai))) (aa (bn (aa (ac 0) (ai))) (aa (aq ba (ac 0) (bn (aa (ag) (ai)))) (ai))))))))))))) (ap (ay (aq ba (ac 1) (bK (aa (bn (aa (aW) (aa (ag) (ai)))) (aa (bn (aa (aW) (aa (ag) (aa (aW) (ai))))) (aa (jP lb (ac 0) (lT) (gS (iq (ag)))) (ai))))))))
theorem sE:∀ n:Nat,aO P w K mg base (CX1 P w) (2+n) A.a_57 A.d_57 ["bits", "low", "high", "depth", "begin", "knot"] (iH K A n)
 | 0=>⟨fun vs H Q E h=>(yG K A vs H Q E h).elim,fun _ _ _ H _ _ vs Q E _ _ _ _ h=>(yG K A vs H Q E h).elim⟩
 | n+1=>T.f_57.f.okS si (DU K A (n+1)) (Hb T.1 n) fun _ _ _ _ _ _ (hr:be (2+n) _)=>
 ao (aJ (bf (bh (aK (yF T) hr.le T.f_54 (aa (ac 0) (aa (ac 1) (aa (ac 2) (aa (ac 3) (aa (ac 4) (ai))))))))) (ap (ay (bn (aa (aW) (aa (de (ac 5)) (ai)))))) (aC)) (ao (aJ (bf (bh (aN ED T.z_isinstance boot_isinstance (aa (ac 5) (aa (pj T.mc_Fork) (ai)))))) (ap (ay (de (ac 5)))) (aC)) (ao (aI 6 si.nd (aK (sE n) hr.le T.f_57 (aa (ac 0) (aa (ac 1) (aa (ac 2) (aa (aq ba (de (ac 5)) (ag)) (aa (aq cD (ag) (de (ac 5))) (aa (de (ac 5)) (ai))))))))) (ao (aI 7 si.nd (aK (sE n) hr.le T.f_57 (aa (ac 0) (aa (ac 1) (aa (ac 2) (aa (aq ba (de (ac 5)) (ag)) (aa (aq ba (aq cD (ag) (de (ac 5))) (ag)) (aa (de (ac 5)) (ai))))))))) (ap (ay (bn (aa (aW) (aa (de (ac 5)) (aa (de (ac 5)) (aa (ac 6) (aa (ac 7) (ai))))))))))))
theorem FO (cdv:Value) (Ar:Around) (outer:List Env) (s:Shared) (H:Hp) (E:XK)
  (hr:be 72 (Ar.deeper (envOfC "stretch_of" (am lZ) s.heap.objs.size A.a_66 cdv))):PSs (cq (CX1 P w) P w K mg base ["table", "low", "high"] "stretch_of" (am lZ) A.a_66 cdv Ar outer s H E) (aP lZ) (AI K A E):=QSs.out (
 ao (dj (bR (tF T) hr.le T.f_40.m T.f_40.f.kp T.f_40.b bY (aa (de (ac 0)) (aa (ac 1) (aa (ac 2) (ai)))))) (ap (ay (aK (sE T 70) hr.le T.f_57 (aa (de (ac 0)) (aa (ac 1) (aa (ac 2) (aa (ag) (aa (ag) (aa (de (ac 0)) (ai)))))))))))
theorem GK:aO P w K mg base (CX1 P w) 73 A.a_66 A.d_66 ["table", "low", "high"] (nP K A):=
 T.f_66.f.okX Fy (CH K A) (fun cdv Ar outer s H vs Q E hr h=>⟨_,FO T cdv Ar outer s H E hr,Ia T.1 vs H Q E h⟩)
theorem FJ:aO P w K mg base (CX1 P w) 2 A.a_43 A.d_43 ["thing"] (nq K A):=
 T.f_43.f.okS GW (AL K A) (ES T.1) fun _ _ _ _ _ _ hr=>
 ap (ay (eB (aK (ju T) hr.le T.f_52 (aa (ac 0) (ai))) (fh (lG oLe oLe (ag) (ac 0) (xg T.c_MOST_BITS)))))
theorem JV:aO P w K mg base (CX1 P w) 6 A.a_2 A.d_2 ["self", "stamper", "term"] (tI K A):=
 T.f_2.okS JE (GV K A) (JK T.1) fun _ _ _ _ _ _ hr=>
 ao (fo (ac 0) (ac 2)) (ap (fo (ac 0) (gK (hJ T) hr.le dU (ac 1) (aa (ac 2) (ai)))))
theorem IM:aO P w K mg base (CX1 P w) 7 A.a_0 A.d_0 ["self", "stamper"] (sZ K A):=
 T.f_0.okS IC (FH K A) (JH T.1) fun _ _ _ _ _ _ hr=>
 ap (dj (AR T.mc_Knot T.cf_Knot (JV T) hr.le T.b_2 dU (aa (ac 0) (aa (ac 1) (aa (bn (aa (aW) (ai))) (ai))))))
theorem Jm:aO P w K mg base (CX1 P w) 9 A.a_6 A.d_6 ["self", "stamper", "bits"] (sN K A):=
 T.f_6.okS Ji (EC K A) (Ij T.1) fun _ _ _ _ _ _ hr=>
 ao (aJ (bf (bh (aK (FJ T) hr.le T.f_43 (aa (ac 2) (ai))))) (ap (mj)) (aC)) (ao (fo (ac 0) (ac 1)) (ao (fo (ac 0) (ac 2)) (ap (fo (ac 0) (rz T.mk_Bare (IM T) hr.le T.mc_Bare T.b_0 dU (aa (ac 1) (ai)))))))
theorem EZ (cdv:Value) (Ar:Around) (outer:List Env) (s:Shared) (H:Hp) (E:XK)
  (hr:be 77 (Ar.deeper (envOfC "stretch_mark" (am md) s.heap.objs.size A.a_65 cdv))):PSs (cq (CX1 P w) P w K mg base ["stamper", "bits", "low", "high", "paper"] "stretch_mark" (am md) A.a_65 cdv Ar outer s H E) (aP md) (Cw K A E):=QSs.out (
 ap (ay (gK (hJ T) hr.le dU (ac 0) (aa (aM (az hr.units1) (bR (nD T) hr.le T.f_67.m T.f_67.f.kp T.f_67.b bY (aa (ac 0) (aa (ac 1) (aa (ac 2) (aa (ac 3) (aa (ac 4) (ai))))))) (iq (ag)) (fun _ _=>rfl)) (ai)))))
theorem FG:aO P w K mg base (CX1 P w) 78 A.a_65 A.d_65 ["stamper", "bits", "low", "high", "paper"] (nj K A):=
 T.f_65.f.okX GL (By K A) (fun cdv Ar outer s H vs Q E hr h=>⟨_,EZ T cdv Ar outer s H E hr,EL T.1 vs H Q E h⟩)
theorem GU:aO P w K mg base (CX1 P w) 1 A.a_60 A.d_60 ["bits", "key", "depth"] (nO K A):=
 T.f_60.f.okS FS (Cd K A) (GC T.1) fun _ _ _ _ _ _ hr=>
 ap (ay (aq HL (aq lS (ac 1) (aq df (aq df (ac 0) (ac 2)) (ag))) (ag)))
theorem Gq (cdv:Value) (Ar:Around) (outer:List Env) (s:Shared) (H:Hp) (E:XK)
  (hr:be 76 (Ar.deeper (envOfC "slip_from" (am mh) s.heap.objs.size A.a_61 cdv))):PSs (cq (CX1 P w) P w K mg base ["stamper", "bits", "low", "high", "paper", "key", "steps", "part", "turn", "aside"] "slip_from" (am mh) A.a_61 cdv Ar outer s H E) (aP mh) (Cq K A E):=QSs.out (
 ao (aJ (bf (bh (aK (nJ T) hr.le T.f_46 (aa (ac 1) (aa (ac 5) (ai)))))) (ap (jv T.er_NoKey T.mc_NoKey eX)) (aC)) (ao (dj (bR (tF T) hr.le T.f_40.m T.f_40.f.kp T.f_40.b bY (aa (ac 1) (aa (ac 2) (aa (ac 3) (ai)))))) (ao (aJ (bf (er oLe oLe (ac 2) (ac 5) (ac 3))) (ap (jv T.er_NoKey T.mc_NoKey eX)) (aC)) (ao (dj (bR (tE T 70) hr.le T.f_39.m T.f_39.f.kp T.f_39.b bY (aa (ac 1) (aa (ac 2) (aa (ac 3) (aa (ag) (aa (ag) (aa (ac 4) (ai))))))))) (ao (aI 6 jt.nd (bK (ai))) (ao (aI 7 jt.nd (ac 4)) (ao (zR (x_w (eK (aQ (bF hr.units150) (aM (az hr.units1) (ac 7) (ag) (fun _ _=>rfl)) (aW)) (dG (aQ (bF hr.units150) (aK (yq T) hr.le T.f_63 (aa (ac 1) (aa (ac 5) (aa (aM (az hr.units1) (ac 7) (ag) (fun _ _=>rfl)) (ai))))) (aM (az hr.units1) (ac 7) (ag) (fun _ _=>rfl)))))) (ao (aI 8 jt.nd (aK (GU T) hr.le T.f_60 (aa (ac 1) (aa (ac 5) (aa (aM (az hr.units1) (ac 7) (ag) (fun _ _=>rfl)) (ai)))))) (ao (aI 9 jt.nd (aM (az hr.units1) (ac 7) (aq df (ag) (ac 8)) (fun _ _=>rfl))) (ao (dj (wI PySem.F.plainAttrs_list PySem.F.slot_list_append PySem.F.type_list_append my (ac 6) (aa (bn (aa (aM (az hr.units1) (ac 7) (ag) (fun _ _=>rfl)) (aa (aK (sM T) hr.le T.f_56 (aa (ac 0) (aa (ac 9) (aa (aK (ls T 70) hr.le T.f_58 (aa (ac 0) (aa (ac 9) (ai)))) (ai))))) (ai)))) (ai)))) (ap (aI 7 jt.nd (aM (az hr.units1) (ac 7) (aq ba (ag) (ac 8)) (fun _ _=>rfl))))))) PassesOwn.leaving) (ap (ay (bn (aa (iw BE T.z_tuple boot_tuple (aa (ac 6) (ai))) (aa (aM (az hr.units1) (aK (ls T 70) hr.le T.f_58 (aa (ac 0) (aa (ac 7) (ai)))) (iq (ag)) (fun _ _=>rfl)) (ai)))))))))))))
theorem GZ:aO P w K mg base (CX1 P w) 77 A.a_61 A.d_61 ["stamper", "bits", "low", "high", "paper", "key"] (nw K A):=
 T.f_61.f.okX jt (DM K A) (fun cdv Ar outer s H vs Q E hr h=>⟨_,Gq T cdv Ar outer s H E hr,Ec T.1 vs H Q E h⟩)
theorem IK (cdv:Value) (Ar:Around) (outer:List Env) (s:Shared) (H:Hp) (E:XK)
  (hr:be 78 (Ar.deeper (envOfC "_law_ask" (am s_7) s.heap.objs.size A.a_7 cdv))):PSs (cq (CX1 P w) P w K mg base ["_law_way", "_law_by", "_law_asked", "_law_stamper", "_law_bits_here", "_law_mark_here", "_law_low", "_law_high", "_law_paper_here", "_law_key_here"] "_law_ask" (am s_7) A.a_7 cdv Ar outer s H E) (aP s_7) (T_7 K A E):=QSs.out (
 ao (Dz 3 4 5 xS.nd rfl (ac 1)) (ao (BL 6 7 8 9 xS.nd rfl (ac 2)) (ao (aJ (aQ (bF hr.units150) (ac 0) (ag)) (ap (ay (bR (GK T) hr.le T.f_66.m T.f_66.f.kp T.f_66.b bY (aa (rz T.mk_Table (Jm T) hr.le T.mc_Table T.b_6 dU (aa (ac 3) (aa (ac 4) (ai)))) (aa (ac 6) (aa (ac 7) (ai))))))) (aC)) (ao (aJ (aQ (bF hr.units150) (ac 0) (ag)) (ap (ay (bR (nD T) hr.le T.f_67.m T.f_67.f.kp T.f_67.b bY (aa (ac 3) (aa (ac 4) (aa (ac 6) (aa (ac 7) (aa (ac 8) (ai))))))))) (aC)) (ao (aJ (aQ (bF hr.units150) (ac 0) (ag)) (ap (ay (bR (FG T) hr.le T.f_65.m T.f_65.f.kp T.f_65.b bY (aa (ac 3) (aa (ac 4) (aa (ac 6) (aa (ac 7) (aa (ac 8) (ai))))))))) (aC)) (ao (aJ (aQ (bF hr.units150) (ac 0) (ag)) (ap (ay (bR (sU T) hr.le T.f_64.m T.f_64.f.kp T.f_64.b bY (aa (ac 3) (aa (ac 4) (aa (ac 5) (aa (ac 6) (aa (ac 7) (aa (ac 8) (ai)))))))))) (aC)) (ap (ay (bR (GZ T) hr.le T.f_61.m T.f_61.f.kp T.f_61.b bY (aa (ac 3) (aa (ac 4) (aa (ac 6) (aa (ac 7) (aa (ac 8) (aa (ac 9) (ai))))))))))))))))
theorem xU:aO P w K mg base (CX1 P w) 79 A.a_7 A.d_7 ["_law_way", "_law_by", "_law_asked"] (mi K A):=
 T.f_7.f.okX xS (ET K A) (fun cdv Ar outer s H vs Q E hr h=>⟨_,IK T cdv Ar outer s H E hr,IG T.1 vs H Q E h⟩)
theorem Ff:aO P w K mg base (CX1 P w) 80 A.a_19 A.d_19 ["_law_way", "_law_by", "_law_asked"] (nN K A):=
 T.f_19.f.okS jI (Bz K A) (Fh T.1) fun _ _ _ _ _ E hr=>
 ao (aI 3 jI.nd (aW)) (ao (sA (fun pn' E' EH hEH=>ap (dj (bR (xU T) hr.le T.f_7.m T.f_7.f.kp T.f_7.b hEH (aa (ac 0) (aa (ac 1) (aa (ac 2) (ai))))))) (lr T.eo_NoKey T.mc_NoKey (fun a=>ap (aI 3 jI.nd (aW))) (lr T.eo_NoStretch T.mc_NoStretch (fun a=>ap (aI 3 jI.nd (aW))) (lr T.eo_NoPart T.mc_NoPart (fun a=>ap (aI 3 jI.nd (aW))) (lr T.eo_Broken T.mc_Broken (fun a=>ap (aI 3 jI.nd (aW))) (oW))))) (aC)) (ap (ay (ac 3))))
theorem Fu:aO P w K mg base (CX1 P w) 80 A.a_15 A.d_15 ["_law_way", "_law_by", "_law_asked"] (nS K A):=
 T.f_15.f.okS lB (Dk K A) (EA T.1) fun _ _ _ _ _ E hr=>
 ao (aI 3 lB.nd (lg)) (ao (sA (fun pn' E' EH hEH=>ap (dj (bR (xU T) hr.le T.f_7.m T.f_7.f.kp T.f_7.b hEH (aa (ac 0) (aa (ac 1) (aa (ac 2) (ai))))))) (ze 4 lB.nd T.eo_StampError T.mc_StampError (fun a=>ao (aI 3 lB.nd (bK (aa (aN lp T.z_isinstance boot_isinstance (aa (ac 4) (aa (dZ T.z_ValueError mX) (ai)))) (aa (aN lp T.z_isinstance boot_isinstance (aa (ac 4) (aa (pj T.mc_NoKey) (ai)))) (aa (aN lp T.z_isinstance boot_isinstance (aa (ac 4) (aa (pj T.mc_NoStretch) (ai)))) (ai)))))) (ap (aI 3 lB.nd (aq ba (ac 3) (bK (aa (aN lp T.z_isinstance boot_isinstance (aa (ac 4) (aa (pj T.mc_NoPart) (ai)))) (aa (aN lp T.z_isinstance boot_isinstance (aa (ac 4) (aa (pj T.mc_Broken) (ai)))) (ai)))))))) (oW)) (aC)) (ap (ay (ac 3))))
theorem fX:aO P w K mg base (CX1 P w) 81 A.a_29 A.d_29 ["_law_name_here", "_law_way", "_law_by", "_law_asked"] (dY K A):=
 T.f_29.f.okS yJ (BO K A) (FT T.1) fun _ _ _ _ _ _ hr=>
 ao (aJ (aQ (fg hr.units150) (aK (Ff T) hr.le T.f_19 (aa (ac 1) (aa (ac 2) (aa (ac 3) (ai))))) (ac 0)) (ap (ay (bT))) (aC)) (ao (aI 4 yJ.nd (aq ba (bK (aa (bT) (ai))) (iO (ys:=["_law_name_here"]) (by exact ⟨rfl,by decide +kernel,by decide +kernel,rfl,by decide +kernel,by decide +kernel⟩) (by exact .cons rfl (by first | exact .inl rfl | exact .inr rfl) rfl (.nil)) (ef (bK (aa (aW) (aa (aW) (aa (aW) (aa (aW) (ai))))))) (fun C s H fp=>kY) (fun C s H fp=>(dS (bF hr.units150) (ac 1) (ac 0)))))) (ap (ay (dS (bF hr.units150) (aK (Fu T) hr.le T.f_15 (aa (ac 1) (aa (ac 2) (aa (ac 3) (ai))))) (ac 4)))))
theorem GJ:aO P w K mg base (CX1 P w) 82 A.a_25 A.d_25 ["_law_by", "_law_low", "_law_high", "_law_bad", "_law_key_here"] (nv K A):=
 T.f_25.f.okS FA (CK K A) (FE T.1) fun _ _ _ _ _ _ hr=>
 ao (aJ (x_w (eK (bf (er oLe oLe (ac 1) (ac 4) (ac 2))) (dG (bf (bh (aK (fX T) hr.le T.f_29 (aa (aW) (aa (ag) (aa (ac 0) (aa (bn (aa (ac 1) (aa (ac 2) (aa (ac 3) (aa (ac 4) (ai)))))) (ai))))))))))) (ap (ay (bT))) (aC)) (ao (aJ (x_w (eK (aQ oLt (ac 1) (ac 2)) (dG (er oLe oLt (ag) (ac 4) (aq dN (ag) (aM (az hr.units1) (ac 0) (ag) (fun _ _=>rfl))))))) (ap (ay (aK (fX T) hr.le T.f_29 (aa (aW) (aa (ag) (aa (ac 0) (aa (bn (aa (ac 2) (aa (ac 1) (aa (ac 3) (aa (ac 4) (ai)))))) (ai)))))))) (aC)) (ap (ay (bT))))
theorem Hi:aO P w K mg base (CX1 P w) 83 A.a_24 A.d_24 ["_law_cell", "_law_by", "_law_low", "_law_high", "_law_paper_here"] (oj K A):=
 T.f_24.f.okS ir (DV K A) (Gn T.1) fun _ _ _ _ _ _ hr=>
 ao (aI 5 ir.nd (aK (GT T) hr.le T.f_20 (aa (aM (az hr.units1) (ac 1) (ag) (fun _ _=>rfl)) (aa (aq cz (ac 0) (ag)) (ai))))) (ao (aI 6 ir.nd (aM (az hr.units1) (ac 5) (aq bj (ac 0) (aN cH T.z_len PySem.boot_len (aa (ac 5) (ai)))) (fun _ _=>rfl))) (ao (aI 7 ir.nd (aq ba (bK (aa (ac 4) (ai))) (aK (Gm T) hr.le T.f_21 (aa (ac 4) (ai))))) (ao (aI 8 ir.nd (aM (az hr.units1) (ac 7) (aq bj (aq cz (ac 0) (ag)) (aN cH T.z_len PySem.boot_len (aa (ac 7) (ai)))) (fun _ _=>rfl))) (ao (fS 9 ir.nd (iF T.z_range (aa (ag) (ai))) (ao (aJ (bf (bh (aK (fX T) hr.le T.f_29 (aa (aW) (aa (ac 9) (aa (ac 1) (aa (bn (aa (ac 6) (aa (ac 3) (aa (ac 8) (aa (ac 2) (ai)))))) (ai)))))))) (ap (ay (bT))) (aC)) (ao (aJ (bf (bh (aK (fX T) hr.le T.f_29 (aa (aW) (aa (ac 9) (aa (ac 1) (aa (bn (aa (ac 2) (aa (ac 6) (aa (ac 8) (aa (ac 3) (ai)))))) (ai)))))))) (ap (ay (bT))) (aC)) (ao (aJ (x_w (eK (aQ oLt (ac 2) (ac 3)) (dG (bf (bh (aK (fX T) hr.le T.f_29 (aa (aW) (aa (ac 9) (aa (ac 1) (aa (bn (aa (ac 3) (aa (ac 2) (aa (ac 8) (aa (ac 2) (ai)))))) (ai))))))))))) (ap (ay (bT))) (aC)) (ap (aJ (x_w (eK (aQ oGt (ac 9) (ag)) (dG (aQ (Ip hr.units150) (ac 8) (ac 4))))) (ap (aJ (bf (bh (aK (fX T) hr.le T.f_29 (aa (aW) (aa (ac 9) (aa (ac 1) (aa (bn (aa (ac 2) (aa (ac 3) (aa (ac 8) (aa (ac 2) (ai)))))) (ai)))))))) (ap (ay (bT))) (aC))) (aC)))))) PassesOwn.never) (ao (aJ (bf (bh (aK (fX T) hr.le T.f_29 (aa (aW) (aa (ag) (aa (ac 1) (aa (bn (aa (ac 2) (aa (ac 3) (aa (ac 8) (aa (ac 6) (ai)))))) (ai)))))))) (ap (ay (bT))) (aC)) (ao (aJ (bf (bh (aK (fX T) hr.le T.f_29 (aa (aW) (aa (ag) (aa (ac 1) (aa (bn (aa (ac 3) (aa (ac 2) (aa (ac 8) (aa (ac 6) (ai)))))) (ai)))))))) (ap (ay (bT))) (aC)) (ao (fS 10 ir.nd (ef (bK (aa (aq df (ac 2) (ag)) (aa (aq ba (ac 3) (ag)) (aa (ag) (aa (aq df (aq dN (ag) (aM (az hr.units1) (ac 1) (ag) (fun _ _=>rfl))) (ag)) (ai))))))) (ap (aJ (bf (bh (aK (GJ T) hr.le T.f_25 (aa (ac 1) (aa (ac 2) (aa (ac 3) (aa (ac 8) (aa (ac 10) (ai))))))))) (ap (ay (bT))) (aC))) PassesOwn.never) (ap (ay (bT))))))))))
theorem HK:aO P w K mg base (CX1 P w) 80 A.a_12 A.d_12 ["_law_by", "_law_asked"] (nX K A):=
 T.f_12.f.okS nh (Bj K A) (Ho T.1) fun _ _ _ _ _ E hr=>
 ao (aI 2 nh.nd (lg)) (ao (sA (fun pn' E' EH hEH=>ap (dj (bR (xU T) hr.le T.f_7.m T.f_7.f.kp T.f_7.b hEH (aa (ag) (aa (ac 0) (aa (ac 1) (ai))))))) (ze 3 nh.nd T.eo_Broken T.mc_Broken (fun a=>ap (aI 2 nh.nd (bn (aa (ui (ac 3)) (aa (ui (ac 3)) (ai)))))) (oW)) (aC)) (ap (ay (ac 2))))
theorem EE:aO P w K mg base (CX1 P w) 82 A.a_11 A.d_11 ["_law_by", "_law_came", "_law_asked"] (ol K A):=
 T.f_11.f.okS yO (AN K A) (Gb T.1) fun _ _ _ _ _ _ hr=>
 ao (aJ (bf (bh (aK (fX T) hr.le T.f_29 (aa (aW) (aa (ag) (aa (ac 0) (aa (ac 2) (ai)))))))) (ap (ay (bT))) (aC)) (ao (aI 3 yO.nd (aK (HK T) hr.le T.f_12 (aa (ac 0) (aa (ac 2) (ai))))) (ao (aJ (x_w (eC (aQ Iv (ac 3) (lg)) (eL (bf (bh (aK (rP T) hr.le T.f_28 (aa (aM (az hr.units1) (ac 3) (ag) (fun _ _=>rfl)) (aa (aM (az hr.units1) (ac 0) (ag) (fun _ _=>rfl)) (ai))))))))) (ap (ay (bT))) (aC)) (ap (ay (aK (rP T) hr.le T.f_28 (aa (aM (az hr.units1) (ac 3) (ag) (fun _ _=>rfl)) (aa (ac 1) (ai))))))))
theorem Hl:aO P w K mg base (CX1 P w) 84 A.a_53 A.d_53 ["_law_script"] (nC K A):=
 T.f_53.f.okS eQ (Ce K A) (Fj T.1) fun _ _ _ _ _ _ hr=>
 ao (aI 1 eQ.nd (aK (HF T) hr.le T.f_10 (aa (aK (lY T) hr.le T.f_8 (aa (ac 0) (aa (ag) (ai)))) (ai)))) (ao (tW 2 3 eQ.nd rfl (aK (HM T) hr.le T.f_31 (aa (ac 1) (aa (aK (lY T) hr.le T.f_8 (aa (ac 0) (aa (ag) (ai)))) (aa (aK (lY T) hr.le T.f_8 (aa (ac 0) (aa (ag) (ai)))) (ai)))))) (ao (aI 4 eQ.nd (aK (Fv T) hr.le T.f_26 (aa (aK (lY T) hr.le T.f_8 (aa (ac 0) (aa (ag) (ai)))) (aa (ac 1) (aa (ac 2) (aa (ac 3) (ai))))))) (ao (aI 5 eQ.nd (aK (lY T) hr.le T.f_8 (aa (ac 0) (aa (ag) (ai))))) (ao (aI 6 eQ.nd (bK (aa (pe (EY T) hr.le T.f_41.m T.f_41.f.kp T.f_41.b dU) (aa (aK (Hv T) hr.le T.f_32 (aa (aq bj (aq cz (ac 5) (ag)) (ag)) (ai))) (aa (aK (Hc T) hr.le T.f_36 (aa (aq ba (ag) (aq bj (aq cz (ac 5) (ag)) (ag))) (ai))) (aa (pe (Hj T) hr.le T.f_68.m T.f_68.f.kp T.f_68.b dU) (ai))))))) (ao (aI 7 eQ.nd (aM (az hr.units1) (ac 6) (aq bj (ac 5) (ag)) (fun _ _=>rfl))) (ao (tW 8 9 eQ.nd rfl (aK (sR T 70) hr.le T.f_23 (aa (ac 7) (aa (ac 4) (ai))))) (ao (aI 10 eQ.nd (aK (Gu T) hr.le T.f_13 (aa (ac 4) (aa (ac 2) (aa (ac 3) (ai)))))) (ao (aJ (bf (bh (aK (tB T) hr.le T.f_30 (aa (aK (sU T) hr.le T.f_64 (aa (ac 7) (aa (ac 1) (aa (ac 8) (aa (ac 2) (aa (ac 3) (aa (ac 4) (ai)))))))) (aa (ac 10) (ai)))))) (ap (ay (bT))) (aC)) (ao (fS 5 eQ.nd (ef (aq ba (jP lb (ac 0) (gS (ag)) (gS (ag))) (bK (aa (aK (lY T) hr.le T.f_8 (aa (ac 0) (aa (ag) (ai)))) (ai))))) (ao (aI 11 eQ.nd (aK (zd T) hr.le T.f_17 (aa (aq bj (ac 5) (ag)) (ai)))) (ao (aJ (bf (bh (aK (Hi T) hr.le T.f_24 (aa (ac 5) (aa (bn (aa (ac 7) (aa (ac 1) (aa (ac 11) (ai))))) (aa (ac 2) (aa (ac 3) (aa (ac 4) (ai))))))))) (ap (ay (bT))) (aC)) (ap (fS 11 eQ.nd (ef (bK (aa (ac 11) (aa (ag) (aa (aW) (aa (aW) (aa (iw HU T.z_str boot_str (aa (ac 8) (ai))) (ai)))))))) (ap (aJ (aQ (fg hr.units150) (ac 11) (ac 8)) (ap (aJ (bf (bh (aK (EE T) hr.le T.f_11 (aa (bn (aa (ac 7) (aa (ac 1) (aa (ac 11) (ai))))) (aa (ac 8) (aa (bn (aa (ac 2) (aa (ac 3) (aa (ac 4) (aa (ag) (ai)))))) (ai))))))) (ap (ay (bT))) (aC))) (aC))) PassesOwn.never)))) PassesOwn.never) (ao (aJ (bf (bh (aK (tB T) hr.le T.f_30 (aa (aK (nD T) hr.le T.f_67 (aa (ac 7) (aa (ac 1) (aa (ac 2) (aa (ac 3) (aa (ac 4) (ai))))))) (aa (ac 9) (ai)))))) (ap (ay (bT))) (aC)) (ap (ay (aK (tB T) hr.le T.f_30 (aa (aK (sU T) hr.le T.f_64 (aa (ac 7) (aa (ac 1) (aa (ac 8) (aa (ac 2) (aa (ac 3) (aa (ac 4) (ai)))))))) (aa (ac 10) (ai))))))))))))))))
omit T
def rV (P:Program) (w:World) (K:W.Frag) (mg:Str→Option Value) (fa:Addr):Prop:=∃ (fd:FuncData) (tabs:List (Addr×Addr)) (sp:Sp),(∀ (s:Shared) (v:Value),BindsTo s fd ⟨[v],[]⟩ [("_law_script",v)])∧W.noTabs K=true∧(∀ t∈tabs,∃ y∈(["counting", "_law_sure", "_law_weak", "writing"]:List Str),W.tabIn K y=some t)∧(∀ base:Heap,K.In base→base.Ns mainGlobals mg→BM mg base→(∀ t∈tabs,W.CodeHd base t.1 t.2)→aO P w K mg base (CX1 P w) 84 fa fd ["_law_script"] sp)∧∀ (H:Hp) (a:Addr) (ns:List Int),ns.length≤63→(∀ t∈tabs,H t.2=some (.tbl #[]))→SqL K H a (ns.map V.int)→sp [.ref a] H (fun v _=>v=.bl true) fun _ _ _=>False
theorem Dh (T:Txt K mg A) (nt:W.noTabs K=true) (tb_41:W.tabIn K "counting" =some (A.k_41,A.t_41)) (tb_32:W.tabIn K "_law_sure" =some (A.k_32,A.t_32)) (tb_36:W.tabIn K "_law_weak" =some (A.k_36,A.t_36)) (tb_68:W.tabIn K "writing" =some (A.k_68,A.t_68)) (tdn:([A.t_41,A.t_32,A.t_36,A.t_68]:List Addr).Nodup):rV P w K mg A.a_53:=by
 refine ⟨A.d_53,[(A.k_41,A.t_41),(A.k_32,A.t_32),(A.k_36,A.t_36),(A.k_68,A.t_68)],nC K A,T.f_53.f.bt,nt,?_,fun base _ _ B C=>?_,fun H a ns hl hO hS=>⟨a,ns,rfl,hS,hl,⟨hO (A.k_41,A.t_41) (by simp),hO (A.k_32,A.t_32) (by simp),hO (A.k_36,A.t_36) (by simp),hO (A.k_68,A.t_68) (by simp),tdn⟩,fun _=>rfl⟩⟩
 · intro t ht
   simp only [List.mem_cons,List.not_mem_nil,or_false] at ht
   rcases ht with rfl | rfl | rfl | rfl
   · exact ⟨"counting",by simp,tb_41⟩
   · exact ⟨"_law_sure",by simp,tb_32⟩
   · exact ⟨"_law_weak",by simp,tb_36⟩
   · exact ⟨"writing",by simp,tb_68⟩
 · exact Hl ⟨T,B,C (A.k_41,A.t_41) (by simp),C (A.k_32,A.t_32) (by simp),C (A.k_36,A.t_36) (by simp),C (A.k_68,A.t_68) (by simp)⟩
theorem BU {h:Heap} {fa:Addr} (X:K.In h) (G:h.Ns mainGlobals mg) (hfa:mg "law" =some (.ref fa)) {x_52 x_49 x_50 x_55 x_70 x_5 x_10 x_8 x_14 x_31 x_22 x_18 x_17 x_35 x_9 x_27 x_26 x_4 x_41 x_32 x_36 x_68 x_23 x_16 x_13 x_28 x_34 x_30 x_46 x_40 x_62 x_54 x_44 x_51 x_63 x_47 x_45 x_48 x_3 x_39 x_38 x_56 x_58 x_67 x_1 x_59 x_64 x_20 x_21 x_57 x_66 x_43 x_2 x_0 x_6 x_65 x_60 x_61 x_7 x_19 x_15 x_29 x_25 x_24 x_12 x_11 x_53 y_NoStretch y_NoKey y_NoPart y_Broken y_StampError y_Numbers y_Fork y_Knot y_Bare y_Table:Addr} {d0 d1 d2 d3 d4 d5 d6 d7 d8 d9 d10 d11 d12 d13 d14 d15 d16 d17 d18 d19 d20 d21 d22 d23 d24 d25 d26 d27 d28 d29 d30 d31 d32 d33 d34 d35 d36 d37 d38 d39 d40 d41 d42 d43 d44 d45 d46 d47 d48 d49 d50 d51 d52 d53 d54 d55 d56 d57 d58 d59 d60 d61 d62 d63 d64 d65 d66:FuncData} {tc0 tc1 tc2:Tok}
  (bo_Numbers:W.nsIn K mainGlobals "Numbers" =some (some (.ref y_Numbers))) (bo_Fork:W.nsIn K mainGlobals "Fork" =some (some (.ref y_Fork))) (bo_Knot:W.nsIn K mainGlobals "Knot" =some (some (.ref y_Knot))) (bo_Bare:W.nsIn K mainGlobals "Bare" =some (some (.ref y_Bare))) (bo_Table:W.nsIn K mainGlobals "Table" =some (some (.ref y_Table))) (bc_NoStretch:W.nsIn K mainGlobals "NoStretch" =some (some (.ref y_NoStretch))) (bc_NoKey:W.nsIn K mainGlobals "NoKey" =some (some (.ref y_NoKey))) (bc_NoPart:W.nsIn K mainGlobals "NoPart" =some (some (.ref y_NoPart))) (bc_Broken:W.nsIn K mainGlobals "Broken" =some (some (.ref y_Broken))) (bc_StampError:W.nsIn K mainGlobals "StampError" =some (some (.ref y_StampError))) (h0:Fa K "is_whole" "is_whole" xh x_52 d0) (h1:Fa K "is_stamp" "is_stamp" wo x_49 d1) (h2:Fa K "is_term" "is_term" xY x_50 d2) (h3:Fa K "part_form" "part_form" wH x_55 d3) (h4:Fa K "written" "written" wX x_70 d4) (a5:W.findIn K (.ref y_Numbers) "number_of" =some (some (.ref x_5))) (h5:Fun K "number_of" "Numbers.number_of" s_5 x_5 d5) (fn5:W.isFn K (.ref x_5)=true) (h6:Fa K "_law_bits" "_law_bits" xR x_10 d6) (h7:Fa K "_law_at" "_law_at" s_8 x_8 d7) (h8:Fa K "_law_key" "_law_key" wu x_14 d8) (h9:Fa K "_law_stretch" "_law_stretch" xA x_31 d9) (h10:Fa K "_law_number" "_law_number" wV x_22 d10) (h11:Fa K "_law_meets" "_law_meets" wx x_18 d11) (h12:Fa K "_law_mark" "_law_mark" vH x_17 d12) (h13:Fa K "_law_text" "_law_text" ya x_35 d13) (h14:Fa K "_law_begin" "_law_begin" s_9 x_9 d14) (h15:Fa K "_law_part" "_law_part" wq x_27 d15) (h16:Fa K "_law_paper" "_law_paper" wc x_26 d16) (a17:W.findIn K (.ref y_Numbers) "__init__" =some (some (.ref x_4))) (h17:Fun K "__init__" "Numbers.__init__" s_4 x_4 d17) (fn17:W.isFn K (.ref x_4)=true) (h18:Fa K "counting" "counting" kq x_41 d18) (tb_41:(W.tabIn K "counting").isSome=true) (h19:Fa K "_law_sure" "_law_sure" kr x_32 d19) (tb_32:(W.tabIn K "_law_sure").isSome=true) (h20:Fa K "_law_weak" "_law_weak" km x_36 d20) (tb_36:(W.tabIn K "_law_weak").isSome=true) (h21:Fa K "writing" "writing" kj x_68 d21) (tb_68:(W.tabIn K "writing").isSome=true) (h22:Fa K "_law_open" "_law_open" xj x_23 d22) (h23:Fa K "_law_leaves" "_law_leaves" xL x_16 d23) (h24:Fa K "_law_inner" "_law_inner" ye x_13 d24) (h25:Fa K "_law_part_alike" "_law_part_alike" vS x_28 d25) (h26:Fa K "_law_term_alike" "_law_term_alike" yd x_34 d26) (h27:Fa K "_law_rows_alike" "_law_rows_alike" vR x_30 d27) (h28:Fa K "is_key" "is_key" wY x_46 d28) (h29:Fa K "check_stretch" "check_stretch" lH x_40 d29) (h30:Fa K "span" "span" wz x_62 d30) (h31:Fa K "meets" "meets" vO x_54 d31) (h32:Fa K "is_cut" "is_cut" vJ x_44 d32) (h33:Fa K "is_value" "is_value" xb x_51 d33) (h34:Fa K "start" "start" wk x_63 d34) (h35:Fa K "is_leaf" "is_leaf" wQ x_47 d35) (h36:Fa K "is_fork" "is_fork" yf x_45 d36) (h37:Fa K "is_part" "is_part" wt x_48 d37) (a38:W.findIn K (.ref y_NoPart) "__init__" =some (some (.ref x_3))) (h38:Fun K "__init__" "NoPart.__init__" s_3 x_3 d38) (fn38:W.isFn K (.ref x_3)=true) (h39:Fa K "check_part" "check_part" lK x_39 d39) (h40:Fa K "check_paper" "check_paper" lP x_38 d40) (h41:Fa K "part_mark" "part_mark" xm x_56 d41) (h42:Fa K "part_terms" "part_terms" wW x_58 d42) (h43:Fa K "stretch_terms" "stretch_terms" lI x_67 d43) (a44:W.findIn K (.ref y_Broken) "__init__" =some (some (.ref x_1))) (h44:Fun K "__init__" "Broken.__init__" s_1 x_1 d44) (fn44:W.isFn K (.ref x_1)=true) (h45:Fa K "rows_within" "rows_within" yg x_59 d45) (h46:Fa K "stretch_answer" "stretch_answer" me x_64 d46) (h47:Fa K "_law_no_keys" "_law_no_keys" xB x_20 d47) (h48:Fa K "_law_no_papers" "_law_no_papers" yi x_21 d48) (h49:Fa K "part_of" "part_of" vW x_57 d49) (h50:Fa K "stretch_of" "stretch_of" lZ x_66 d50) (h51:Fa K "is_bits" "is_bits" xF x_43 d51) (a52:W.findIn K (.ref y_Knot) "__init__" =some (some (.ref x_2))) (h52:Fun K "__init__" "Knot.__init__" s_2 x_2 d52) (fn52:W.isFn K (.ref x_2)=true) (a53:W.findIn K (.ref y_Bare) "__init__" =some (some (.ref x_0))) (h53:Fun K "__init__" "Bare.__init__" s_0 x_0 d53) (fn53:W.isFn K (.ref x_0)=true) (a54:W.findIn K (.ref y_Table) "__init__" =some (some (.ref x_6))) (h54:Fun K "__init__" "Table.__init__" s_6 x_6 d54) (fn54:W.isFn K (.ref x_6)=true) (h55:Fa K "stretch_mark" "stretch_mark" md x_65 d55) (h56:Fa K "side" "side" xH x_60 d56) (h57:Fa K "slip_from" "slip_from" mh x_61 d57) (h58:Fa K "_law_ask" "_law_ask" s_7 x_7 d58) (h59:Fa K "_law_name" "_law_name" yh x_19 d59) (h60:Fa K "_law_kinds" "_law_kinds" xn x_15 d60) (h61:Fa K "_law_refused" "_law_refused" xc x_29 d61) (h62:Fa K "_law_outside_right" "_law_outside_right" xX x_25 d62) (h63:Fa K "_law_order_right" "_law_order_right" wL x_24 d63) (h64:Fa K "_law_fields" "_law_fields" yl x_12 d64) (h65:Fa K "_law_broken_right" "_law_broken_right" xa x_11 d65) (h66:Fa K "law" "law" xC x_53 d66) (pg_Numbers:W.plainGet K y_Numbers Str.empty=true) (hd_Numbers:W.hasDictIn K y_Numbers=true) (po_Numbers:W.plainOver K y_Numbers=true) (sa_Numbers:W.findIn K (.ref y_Numbers) "__setattr__" =some (some (.builtin "object.__setattr__"))) (na_Numbers_given:W.findIn K (.ref y_Numbers) "given" =some none) (pg_Fork:W.plainGet K y_Fork Str.empty=true) (hd_Fork:W.hasDictIn K y_Fork=true) (po_Fork:W.plainOver K y_Fork=true) (sa_Fork:W.findIn K (.ref y_Fork) "__setattr__" =some (some (.builtin "object.__setattr__"))) (na_Fork_depth:W.findIn K (.ref y_Fork) "depth" =some none) (na_Fork_begin:W.findIn K (.ref y_Fork) "begin" =some none) (na_Fork_left:W.findIn K (.ref y_Fork) "left" =some none) (na_Fork_right:W.findIn K (.ref y_Fork) "right" =some none) (na_Fork_term:W.findIn K (.ref y_Fork) "term" =some none) (na_Fork_mark:W.findIn K (.ref y_Fork) "mark" =some none) (pg_Knot:W.plainGet K y_Knot Str.empty=true) (hd_Knot:W.hasDictIn K y_Knot=true) (po_Knot:W.plainOver K y_Knot=true) (sa_Knot:W.findIn K (.ref y_Knot) "__setattr__" =some (some (.builtin "object.__setattr__"))) (na_Knot_term:W.findIn K (.ref y_Knot) "term" =some none) (na_Knot_mark:W.findIn K (.ref y_Knot) "mark" =some none) (pg_Bare:W.plainGet K y_Bare Str.empty=true) (hd_Bare:W.hasDictIn K y_Bare=true) (po_Bare:W.plainOver K y_Bare=true) (sa_Bare:W.findIn K (.ref y_Bare) "__setattr__" =some (some (.builtin "object.__setattr__"))) (na_Bare_term:W.findIn K (.ref y_Bare) "term" =some none) (na_Bare_mark:W.findIn K (.ref y_Bare) "mark" =some none) (pg_Table:W.plainGet K y_Table Str.empty=true) (hd_Table:W.hasDictIn K y_Table=true) (po_Table:W.plainOver K y_Table=true) (sa_Table:W.findIn K (.ref y_Table) "__setattr__" =some (some (.builtin "object.__setattr__"))) (na_Table_stamper:W.findIn K (.ref y_Table) "stamper" =some none) (na_Table_bits:W.findIn K (.ref y_Table) "bits" =some none) (na_Table_top:W.findIn K (.ref y_Table) "top" =some none) (cg_Knot:W.specialIn K (.ref y_Knot) "__getattribute__" =some (some (.builtin "type.__getattribute__"))) (cr_Knot:W.readsIn K y_Knot (.type "type")=true) (cv_Knot:W.findCls K (.ref y_Knot) (.type "type") "__init__" =some (.val (.ref x_2))) (cw_Knot:W.handedIn (.ref x_2)=true) (oig:W.specialIn K (.builtin "object.__class__") "__get__" =some (some (.builtin "getset_descriptor.__get__"))) (oit:W.takesIn K (.builtin "object.__class__")=some true) (oic_Fork:W.findIn K (.ref y_Fork) "__class__" =some (some (.builtin "object.__class__"))) (oim_Fork:W.mroIn K y_Fork (.type "object")=some true) (oic_Bare:W.findIn K (.ref y_Bare) "__class__" =some (some (.builtin "object.__class__"))) (oim_Bare:W.mroIn K y_Bare (.type "object")=some true) (ko_Fork_Fork:W.kitOne K (.ref y_Fork) (.ref y_Fork)=some true) (ko_Bare_Fork:W.kitOne K (.ref y_Bare) (.ref y_Fork)=some false) (mk_Numbers:W.makesIn K y_Numbers=true) (kc_Numbers:W.keepIn K (.ref y_Numbers)=true) (mk_Bare:W.makesIn K y_Bare=true) (kc_Bare:W.keepIn K (.ref y_Bare)=true) (mk_Table:W.makesIn K y_Table=true) (kc_Table:W.keepIn K (.ref y_Table)=true) (eo_NoStretch:W.excIn K y_NoStretch veM "ValueError.__new__" =true) (eo_NoKey:W.excIn K y_NoKey veM "ValueError.__new__" =true) (eo2_NoPart:ja K y_NoPart=true) (eo2_Broken:ja K y_Broken=true) (eo_StampError:W.excIn K y_StampError veM "ValueError.__new__" =true) (sa_NoPart:W.findIn K (.ref y_NoPart) "__setattr__" =some (some (.builtin "object.__setattr__"))) (hd_NoPart:W.hasDictIn K y_NoPart=true) (sa_Broken:W.findIn K (.ref y_Broken) "__setattr__" =some (some (.builtin "object.__setattr__"))) (hd_Broken:W.hasDictIn K y_Broken=true) (na_NoPart_begin:W.findIn K (.ref y_NoPart) "begin" =some none) (na_NoPart_depth:W.findIn K (.ref y_NoPart) "depth" =some none) (na_Broken_came:W.findIn K (.ref y_Broken) "came" =some none) (na_Broken_due:W.findIn K (.ref y_Broken) "due" =some none) (kc_NoPart:W.keepIn K (.ref y_NoPart)=true) (kc_Broken:W.keepIn K (.ref y_Broken)=true) (e0_NoStretch:W.findIn K (.ref y_NoStretch) "__getattribute__" =some (some (.builtin "BaseException.__getattribute__"))) (e1_NoStretch:W.findIn K (.ref y_NoStretch) "__getattr__" =some none) (e2_NoStretch:W.findIn K (.ref y_NoStretch) "__class__" =some (some (.builtin "object.__class__"))) (em0_NoStretch:W.mroIn K y_NoStretch (.type "object")=some true) (em1_NoStretch:W.mroIn K y_NoStretch (.type "BaseException")=some true) (e0_NoKey:W.findIn K (.ref y_NoKey) "__getattribute__" =some (some (.builtin "BaseException.__getattribute__"))) (e1_NoKey:W.findIn K (.ref y_NoKey) "__getattr__" =some none) (e2_NoKey:W.findIn K (.ref y_NoKey) "__class__" =some (some (.builtin "object.__class__"))) (em0_NoKey:W.mroIn K y_NoKey (.type "object")=some true) (em1_NoKey:W.mroIn K y_NoKey (.type "BaseException")=some true) (e0_NoPart:W.findIn K (.ref y_NoPart) "__getattribute__" =some (some (.builtin "BaseException.__getattribute__"))) (e1_NoPart:W.findIn K (.ref y_NoPart) "__getattr__" =some none) (e2_NoPart:W.findIn K (.ref y_NoPart) "__class__" =some (some (.builtin "object.__class__"))) (em0_NoPart:W.mroIn K y_NoPart (.type "object")=some true) (em1_NoPart:W.mroIn K y_NoPart (.type "BaseException")=some true) (e0_Broken:W.findIn K (.ref y_Broken) "__getattribute__" =some (some (.builtin "BaseException.__getattribute__"))) (e1_Broken:W.findIn K (.ref y_Broken) "__getattr__" =some none) (e2_Broken:W.findIn K (.ref y_Broken) "__class__" =some (some (.builtin "object.__class__"))) (em0_Broken:W.mroIn K y_Broken (.type "object")=some true) (em1_Broken:W.mroIn K y_Broken (.type "BaseException")=some true) (sb_NoStretch_Broken:W.mroIn K y_NoStretch (.ref y_Broken)=some false) (sb_NoStretch_NoPart:W.mroIn K y_NoStretch (.ref y_NoPart)=some false) (sb_NoStretch_NoStretch:W.mroIn K y_NoStretch (.ref y_NoStretch)=some true) (sb_NoStretch_NoKey:W.mroIn K y_NoStretch (.ref y_NoKey)=some false) (sb_NoStretch_StampError:W.mroIn K y_NoStretch (.ref y_StampError)=some true) (sb_NoKey_Broken:W.mroIn K y_NoKey (.ref y_Broken)=some false) (sb_NoKey_NoPart:W.mroIn K y_NoKey (.ref y_NoPart)=some false) (sb_NoKey_NoStretch:W.mroIn K y_NoKey (.ref y_NoStretch)=some false) (sb_NoKey_NoKey:W.mroIn K y_NoKey (.ref y_NoKey)=some true) (sb_NoKey_StampError:W.mroIn K y_NoKey (.ref y_StampError)=some true) (sb_NoPart_Broken:W.mroIn K y_NoPart (.ref y_Broken)=some false) (sb_NoPart_NoPart:W.mroIn K y_NoPart (.ref y_NoPart)=some true) (sb_NoPart_NoStretch:W.mroIn K y_NoPart (.ref y_NoStretch)=some false) (sb_NoPart_NoKey:W.mroIn K y_NoPart (.ref y_NoKey)=some false) (sb_NoPart_StampError:W.mroIn K y_NoPart (.ref y_StampError)=some true) (sb_Broken_Broken:W.mroIn K y_Broken (.ref y_Broken)=some true) (sb_Broken_NoPart:W.mroIn K y_Broken (.ref y_NoPart)=some false) (sb_Broken_NoStretch:W.mroIn K y_Broken (.ref y_NoStretch)=some false) (sb_Broken_NoKey:W.mroIn K y_Broken (.ref y_NoKey)=some false) (sb_Broken_StampError:W.mroIn K y_Broken (.ref y_StampError)=some true) (ki_NoStretch_Broken:W.kitOne K (.ref y_NoStretch) (.ref y_Broken)=some false) (ki_NoStretch_NoPart:W.kitOne K (.ref y_NoStretch) (.ref y_NoPart)=some false) (ki_NoStretch_NoStretch:W.kitOne K (.ref y_NoStretch) (.ref y_NoStretch)=some true) (ki_NoStretch_NoKey:W.kitOne K (.ref y_NoStretch) (.ref y_NoKey)=some false) (ki_NoStretch_ValueError:W.kitOne K (.ref y_NoStretch) (.type "ValueError")=some true) (ki_NoKey_Broken:W.kitOne K (.ref y_NoKey) (.ref y_Broken)=some false) (ki_NoKey_NoPart:W.kitOne K (.ref y_NoKey) (.ref y_NoPart)=some false) (ki_NoKey_NoStretch:W.kitOne K (.ref y_NoKey) (.ref y_NoStretch)=some false) (ki_NoKey_NoKey:W.kitOne K (.ref y_NoKey) (.ref y_NoKey)=some true) (ki_NoKey_ValueError:W.kitOne K (.ref y_NoKey) (.type "ValueError")=some true) (ki_NoPart_Broken:W.kitOne K (.ref y_NoPart) (.ref y_Broken)=some false) (ki_NoPart_NoPart:W.kitOne K (.ref y_NoPart) (.ref y_NoPart)=some true) (ki_NoPart_NoStretch:W.kitOne K (.ref y_NoPart) (.ref y_NoStretch)=some false) (ki_NoPart_NoKey:W.kitOne K (.ref y_NoPart) (.ref y_NoKey)=some false) (ki_NoPart_ValueError:W.kitOne K (.ref y_NoPart) (.type "ValueError")=some true) (ki_Broken_Broken:W.kitOne K (.ref y_Broken) (.ref y_Broken)=some true) (ki_Broken_NoPart:W.kitOne K (.ref y_Broken) (.ref y_NoPart)=some false) (ki_Broken_NoStretch:W.kitOne K (.ref y_Broken) (.ref y_NoStretch)=some false) (ki_Broken_NoKey:W.kitOne K (.ref y_Broken) (.ref y_NoKey)=some false) (ki_Broken_ValueError:W.kitOne K (.ref y_Broken) (.type "ValueError")=some true) (z_ValueError:W.nsIn K mainGlobals "ValueError" =some none) (z_all:W.nsIn K mainGlobals "all" =some none) (z_bool:W.nsIn K mainGlobals "bool" =some none) (z_int:W.nsIn K mainGlobals "int" =some none) (z_isinstance:W.nsIn K mainGlobals "isinstance" =some none) (z_len:W.nsIn K mainGlobals "len" =some none) (z_list:W.nsIn K mainGlobals "list" =some none) (z_max:W.nsIn K mainGlobals "max" =some none) (z_min:W.nsIn K mainGlobals "min" =some none) (z_ord:W.nsIn K mainGlobals "ord" =some none) (z_range:W.nsIn K mainGlobals "range" =some none) (z_str:W.nsIn K mainGlobals "str" =some none) (z_sum:W.nsIn K mainGlobals "sum" =some none) (z_tuple:W.nsIn K mainGlobals "tuple" =some none) (c_MOST_BITS:W.nsIn K mainGlobals "MOST_BITS" =some (some (.int 60 tc0))) (c_MOST_PARTS:W.nsIn K mainGlobals "MOST_PARTS" =some (some (.int 8 tc1))) (c_MOST_SIGNS:W.nsIn K mainGlobals "MOST_SIGNS" =some (some (.int 60 tc2))) (nt:W.noTabs K=true) (td:mO K ["counting", "_law_sure", "_law_weak", "writing"]=true):rV P w K mg fa:=by
 cases hfa.symm.trans (W.mg_of X G h66.m)
 obtain ⟨⟨z_41,t_41⟩,tb_41⟩:=Option.isSome_iff_exists.mp tb_41
 obtain ⟨⟨z_32,t_32⟩,tb_32⟩:=Option.isSome_iff_exists.mp tb_32
 obtain ⟨⟨z_36,t_36⟩,tb_36⟩:=Option.isSome_iff_exists.mp tb_36
 obtain ⟨⟨z_68,t_68⟩,tb_68⟩:=Option.isSome_iff_exists.mp tb_68
 have tdn:([t_41,t_32,t_36,t_68]:List Addr).Nodup:=wZ (by unfold mO at td;simp only [List.map_cons,List.map_nil,tb_41,tb_32,tb_36,tb_68,Option.map_some] at td;exact of_decide_eq_true td)
 exact Dh (A:=⟨x_52,d0,x_49,d1,x_50,d2,x_55,d3,x_70,d4,x_5,d5,x_10,d6,x_8,d7,x_14,d8,x_31,d9,x_22,d10,x_18,d11,x_17,d12,x_35,d13,x_9,d14,x_27,d15,x_26,d16,x_4,d17,x_41,d18,x_32,d19,x_36,d20,x_68,d21,x_23,d22,x_16,d23,x_13,d24,x_28,d25,x_34,d26,x_30,d27,x_46,d28,x_40,d29,x_62,d30,x_54,d31,x_44,d32,x_51,d33,x_63,d34,x_47,d35,x_45,d36,x_48,d37,x_3,d38,x_39,d39,x_38,d40,x_56,d41,x_58,d42,x_67,d43,x_1,d44,x_59,d45,x_64,d46,x_20,d47,x_21,d48,x_57,d49,x_66,d50,x_43,d51,x_2,d52,x_0,d53,x_6,d54,x_65,d55,x_60,d56,x_61,d57,x_7,d58,x_19,d59,x_15,d60,x_29,d61,x_25,d62,x_24,d63,x_12,d64,x_11,d65,fa,d66,z_41,t_41,z_32,t_32,z_36,t_36,z_68,t_68,y_NoStretch,y_NoKey,y_NoPart,y_Broken,y_StampError,y_Numbers,y_Fork,y_Knot,y_Bare,y_Table⟩) ⟨h0.fm1 X G,h1.fm1 X G,h2.fm1 X G,h3.fm1 X G,h4.fm1 X G,h5,h5.b2,h6.fm1 X G,h7.fm2 X G,h8.fm3 X G,h9.fm3 X G,h10.fm3 X G,h11.fm5 X G,h12.fm1 X G,h13.fm1 X G,h14.fm6 X G,h15.fm7 X G,h16.fm4 X G,h17,h17.b1,h18.fm0 X G,h19.fm1 X G,h20.fm1 X G,h21.fm0 X G,h22.fm2 X G,h23.fm1 X G,h24.fm3 X G,h25.fm2 X G,h26.fm2 X G,h27.fm2 X G,h28.fm2 X G,h29.fm3 X G,h30.fm3 X G,h31.fm5 X G,h32.fm1 X G,h33.fm1 X G,h34.fm3 X G,h35.fm4 X G,h36.fm4 X G,h37.fm6 X G,h38,h38.b3,h39.fm6 X G,h40.fm4 X G,h41.fm3 X G,h42.fm2 X G,h43.fm5 X G,h44,h44.b3,h45.fm3 X G,h46.fm6 X G,h47.fm2 X G,h48.fm1 X G,h49.fm6 X G,h50.fm3 X G,h51.fm1 X G,h52,h52.b3,h53,h53.b2,h54,h54.b3,h55.fm5 X G,h56.fm3 X G,h57.fm6 X G,h58.fm3 X G,h59.fm3 X G,h60.fm3 X G,h61.fm4 X G,h62.fm5 X G,h63.fm5 X G,h64.fm2 X G,h65.fm3 X G,h66.fm1 X G,W.mg_none_of X G z_ValueError,W.mg_none_of X G z_all,W.mg_none_of X G z_bool,W.mg_none_of X G z_int,W.mg_none_of X G z_isinstance,W.mg_none_of X G z_len,W.mg_none_of X G z_list,W.mg_none_of X G z_max,W.mg_none_of X G z_min,W.mg_none_of X G z_ord,W.mg_none_of X G z_range,W.mg_none_of X G z_str,W.mg_none_of X G z_sum,W.mg_none_of X G z_tuple,⟨_,W.mg_of X G c_MOST_BITS⟩,⟨_,W.mg_of X G c_MOST_PARTS⟩,⟨_,W.mg_of X G c_MOST_SIGNS⟩,h18.code X G tb_41,h19.code X G tb_32,h20.code X G tb_36,h21.code X G tb_68,W.mg_of X G bc_NoStretch,ej.ok eo_NoStretch,W.mg_of X G bc_NoKey,ej.ok eo_NoKey,W.mg_of X G bc_NoPart,eo2_NoPart,W.mg_of X G bc_Broken,eo2_Broken,W.mg_of X G bc_StampError,ej.ok eo_StampError,eo_NoStretch,eo_NoKey,⟨e0_NoStretch,e1_NoStretch,e2_NoStretch,em0_NoStretch,em1_NoStretch⟩,⟨e0_NoKey,e1_NoKey,e2_NoKey,em0_NoKey,em1_NoKey⟩,⟨e0_NoPart,e1_NoPart,e2_NoPart,em0_NoPart,em1_NoPart⟩,⟨e0_Broken,e1_Broken,e2_Broken,em0_Broken,em1_Broken⟩,⟨eo2_NoPart,sa_NoPart,⟨e0_NoPart,e1_NoPart,e2_NoPart,em0_NoPart,em1_NoPart⟩,na_NoPart_begin,hd_NoPart⟩,⟨eo2_NoPart,sa_NoPart,⟨e0_NoPart,e1_NoPart,e2_NoPart,em0_NoPart,em1_NoPart⟩,na_NoPart_depth,hd_NoPart⟩,⟨eo2_Broken,sa_Broken,⟨e0_Broken,e1_Broken,e2_Broken,em0_Broken,em1_Broken⟩,na_Broken_came,hd_Broken⟩,⟨eo2_Broken,sa_Broken,⟨e0_Broken,e1_Broken,e2_Broken,em0_Broken,em1_Broken⟩,na_Broken_due,hd_Broken⟩,⟨eo2_NoPart,a38,fn38,kc_NoPart⟩,⟨eo2_Broken,a44,fn44,kc_Broken⟩,bG sb_NoStretch_Broken,bG sb_NoStretch_NoPart,bG sb_NoStretch_NoStretch,bG sb_NoStretch_NoKey,bG sb_NoStretch_StampError,bG sb_NoKey_Broken,bG sb_NoKey_NoPart,bG sb_NoKey_NoStretch,bG sb_NoKey_NoKey,bG sb_NoKey_StampError,bG sb_NoPart_Broken,bG sb_NoPart_NoPart,bG sb_NoPart_NoStretch,bG sb_NoPart_NoKey,bG sb_NoPart_StampError,bG sb_Broken_Broken,bG sb_Broken_NoPart,bG sb_Broken_NoStretch,bG sb_Broken_NoKey,bG sb_Broken_StampError,ki_NoStretch_Broken,ki_NoStretch_NoPart,ki_NoStretch_NoStretch,ki_NoStretch_NoKey,ki_NoStretch_ValueError,ki_NoKey_Broken,ki_NoKey_NoPart,ki_NoKey_NoStretch,ki_NoKey_NoKey,ki_NoKey_ValueError,ki_NoPart_Broken,ki_NoPart_NoPart,ki_NoPart_NoStretch,ki_NoPart_NoKey,ki_NoPart_ValueError,ki_Broken_Broken,ki_Broken_NoPart,ki_Broken_NoStretch,ki_Broken_NoKey,ki_Broken_ValueError,W.mg_of X G bo_Numbers,⟨pg_Numbers,hd_Numbers,po_Numbers,sa_Numbers⟩,na_Numbers_given,W.mg_of X G bo_Fork,⟨pg_Fork,hd_Fork,po_Fork,sa_Fork⟩,na_Fork_depth,na_Fork_begin,na_Fork_left,na_Fork_right,na_Fork_term,na_Fork_mark,W.mg_of X G bo_Knot,⟨pg_Knot,hd_Knot,po_Knot,sa_Knot⟩,na_Knot_term,na_Knot_mark,W.mg_of X G bo_Bare,⟨pg_Bare,hd_Bare,po_Bare,sa_Bare⟩,na_Bare_term,na_Bare_mark,W.mg_of X G bo_Table,⟨pg_Table,hd_Table,po_Table,sa_Table⟩,na_Table_stamper,na_Table_bits,na_Table_top,⟨a5,fn5,h5.kp⟩,⟨mk_Numbers,a17,fn17,kc_Numbers⟩,⟨mk_Bare,a53,fn53,kc_Bare⟩,⟨mk_Table,a54,fn54,kc_Table⟩,⟨cg_Knot,cr_Knot,cv_Knot,cw_Knot,h52.kp⟩,⟨oic_Fork,oig,oit,oim_Fork⟩,⟨oic_Bare,oig,oit,oim_Bare⟩,ko_Fork_Fork,ko_Bare_Fork⟩ nt tb_41 tb_32 tb_36 tb_68 tdn
theorem JB {l:W.OpenLaw} {q:Program} {loose:List Str} {XP:(Str→Option Value)→Heap→Prop} {YP:World→Heap→Prop} {d:DefRec} {K:Params→W.Frag} (hn:l.most=some 63) (hdf:d.params.defaults=[])
  (hY:∀ (w:World) (h:Heap),YP w h→(K w.params).In h) (hq:∀ y∈(["counting", "_law_sure", "_law_weak", "writing"]:List Str),((PyProof.Rows.recsOf q).find? fun e=>e.name==y).isSome=true)
  (F:∀ (w:World) (mg:Str→Option Value) (fa:Addr) (h:Heap),(K w.params).In h→h.Ns mainGlobals mg→mg d.name=some (.ref fa)→rV l.prog w (K w.params) mg fa):
  W.WalkO q loose XP YP l.row.toRowW d [] (fun f vs=>PySem.call f vs):=
 L2.xk (n:=63) (k:=84) (x:= "_law_script") (CX:=fun w=>CX1 l.prog w) hn (by decide) hdf ⟨rfl,by decide,by decide⟩ hY hq F fun _ _ _ _ _ ⟨_,_,_,_,_,_,z⟩=>z
end
end Rs
def PySem.W.Fast.tw429686127292410999:Unit:=()
def PySem.W.Fast.tw13331000888809787219:Unit:=()
def PySem.W.Fast.tw17820960205160139972:Unit:=()
def PySem.W.Fast.tw14093475898992587788:Unit:=()
def PySem.W.Fast.tw4655757011137926881:Unit:=()
def PySem.W.Fast.tw11506751713098472828:Unit:=()
def PySem.W.Fast.tw2176970677956591919:Unit:=()
def PySem.W.Fast.tw3590367459831109288:Unit:=()
def PySem.W.Fast.tw15957666198983737123:Unit:=()
def PySem.W.Fast.tw15663623471612407123:Unit:=()
def PySem.W.Fast.tw3378970553695095270:Unit:=()
def PySem.W.Fast.tw2391097147553846025:Unit:=()
def PySem.W.Fast.tw5734560507424443790:Unit:=()
def PySem.W.Fast.tw11359932088120322643:Unit:=()
def PySem.W.Fast.tw4225906398238400917:Unit:=()
def PySem.W.Fast.tw18381409000697373303:Unit:=()
def PySem.W.Fast.tw110516446766377052:Unit:=()
def PySem.W.Fast.tw12843132480720970163:Unit:=()
def PySem.W.Fast.tw6093233363696623608:Unit:=()
def PySem.W.Fast.tw10589023990896145541:Unit:=()
def PySem.W.Fast.tw13866249542970859524:Unit:=()
def PySem.W.Fast.tw15587760029181588944:Unit:=()
def PySem.W.Fast.tw10619098117343670346:Unit:=()
def PySem.W.Fast.tw6171995752296437916:Unit:=()
def PySem.W.Fast.tw4918436207690534173:Unit:=()
def PySem.W.Fast.tw10088426028913912194:Unit:=()
def PySem.W.Fast.tw17218603753798664022:Unit:=()
def PySem.W.Fast.tw16617541364510457132:Unit:=()
def PySem.W.Fast.tw13434778158855563272:Unit:=()
def PySem.W.Fast.tw14203963234183645935:Unit:=()
def PySem.W.Fast.tw11586846240437258382:Unit:=()
def PySem.W.Fast.tw13240324118362069622:Unit:=()
def PySem.W.Fast.tw11840629359763284623:Unit:=()
def PySem.W.Fast.tw12607497537242679875:Unit:=()
def PySem.W.Fast.tw16540470341248417680:Unit:=()
def PySem.W.Fast.tw7121601467151923368:Unit:=()
def PySem.W.Fast.tw9868277834977733855:Unit:=()
def PySem.W.Fast.tw10377395340962667303:Unit:=()
def PySem.W.Fast.tw10793591635546575025:Unit:=()
def PySem.W.Fast.tw13210331865756107537:Unit:=()
def PySem.W.Fast.tw9843850082036121835:Unit:=()
def PySem.W.Fast.tw10411722835426937917:Unit:=()
def PySem.W.Fast.tw1594013546117435639:Unit:=()
def PySem.W.Fast.tw7100199962921226222:Unit:=()
def PySem.W.Fast.tw17703130826989235997:Unit:=()
def PySem.W.Fast.tw15985209451864108237:Unit:=()
def PySem.W.Fast.tw5020359602714012731:Unit:=()
def PySem.W.Fast.tw17927230243402248791:Unit:=()
def PySem.W.Fast.tw3263550977261964348:Unit:=()
def PySem.W.Fast.tw1275467803348648919:Unit:=()
def PySem.W.Fast.tw15821307346149470:Unit:=()
def PySem.W.Fast.tw9003984797593069716:Unit:=()
def PySem.W.Fast.tw11990013519018192315:Unit:=()
def PySem.W.Fast.tw15800664054844401347:Unit:=()
def PySem.W.Fast.tw9442570448654801955:Unit:=()
def PySem.W.Fast.tw580725812515254564:Unit:=()
def PySem.W.Fast.tw6986495045773231354:Unit:=()
def PySem.W.Fast.tw1931589287956650472:Unit:=()
def PySem.W.Fast.tw5363039483950428959:Unit:=()
def PySem.W.Fast.tw15655051676264627348:Unit:=()
def PySem.W.Fast.tw16955392475847608467:Unit:=()
def PySem.W.Fast.tw11790086821619298104:Unit:=()
def PySem.W.Fast.tw3981780912341240547:Unit:=()
def PySem.W.Fast.tw1126650763223297936:Unit:=()
def PySem.W.Fast.tw5567450449614145496:Unit:=()
def PySem.W.Fast.tw2182390232767419888:Unit:=()
def PySem.W.Fast.tw15430650179097543478:Unit:=()
def PySem.W.Fast.tw2897653752756275247:Unit:=()
def PySem.W.Fast.tw11711994809390186691:Unit:=()
def PySem.W.Fast.tw14903673523117326009:Unit:=()
def PySem.W.Fast.tw402594616653248081:Unit:=()
def PySem.W.Fast.tw7585311493992727701:Unit:=()
def PySem.W.Fast.tw4076238552501958330:Unit:=()
def PySem.W.Fast.tw4197022568344831983:Unit:=()
def PySem.W.Fast.tw3194332627777372506:Unit:=()
def PySem.W.Fast.tw2298639825794485544:Unit:=()
def PySem.W.Fast.tw684901737225692285:Unit:=()
def PySem.W.Fast.tw1342513429020141164:Unit:=()
def PySem.W.Fast.tw8188164091111312926:Unit:=()
def PySem.W.Fast.tw916184002764811872:Unit:=()
def PySem.W.Fast.tw17813357725931648433:Unit:=()
def PySem.W.Fast.tw13382398968515415193:Unit:=()
def PySem.W.Fast.tw6433397974876218787:Unit:=()
def PySem.W.Fast.tw12321119809638828686:Unit:=()
def PySem.W.Fast.tw7980894278603720914:Unit:=()
def PySem.W.Fast.tw3012843445033156749:Unit:=()
def PySem.W.Fast.tw5282082526746377486:Unit:=()
def PySem.W.Fast.tw9660978734905319669:Unit:=()
def PySem.W.Fast.tw11302869413213570962:Unit:=()
def PySem.W.Fast.tw13811003830718241158:Unit:=()
def PySem.W.Fast.tw14671284044818054391:Unit:=()
def PySem.W.Fast.tw17302109901204892676:Unit:=()
def PySem.W.Fast.tw17638716020596011278:Unit:=()
def PySem.W.Fast.tw17980033537051291658:Unit:=()
def PySem.W.Fast.tw2134036236557645448:Unit:=()
def PySem.W.Fast.tw17872504383444518820:Unit:=()
def PySem.W.Fast.tw2768270112094397021:Unit:=()
def PySem.W.Fast.tw2299521193564330375:Unit:=()
def PySem.W.Fast.tw2949017045507551361:Unit:=()
def PySem.W.Fast.tw987771864242041408:Unit:=()
def PySem.W.Fast.tw2274112592310762770:Unit:=()
def PySem.W.Fast.tw15989651647690120380:Unit:=()
def PySem.W.Fast.tw808433728281287324:Unit:=()
def PySem.W.Fast.tw13870650684574294906:Unit:=()
def PySem.W.Fast.tw867084445073021118:Unit:=()
def PySem.W.Fast.tw15428735715278820953:Unit:=()
def PySem.W.Fast.tw11556366637375310196:Unit:=()
def PySem.W.Fast.tw18387477592397007438:Unit:=()
def PySem.W.Fast.tw5099473005595927593:Unit:=()
def PySem.W.Fast.tw10521936301861677316:Unit:=()
def PySem.W.Fast.tw12110249214811427440:Unit:=()
def PySem.W.Fast.tw3929128575860151554:Unit:=()
def PySem.W.Fast.tw2347246988263334271:Unit:=()
def PySem.W.Fast.tw12245937515877624060:Unit:=()
def PySem.W.Fast.tw4596075519781869548:Unit:=()
def PySem.W.Fast.tw18392562344221553662:Unit:=()
def PySem.W.Fast.tw4015051436906462810:Unit:=()
def PySem.W.Fast.tw3864049135791269440:Unit:=()
def PySem.W.Fast.tw7221715547469839943:Unit:=()
def PySem.W.Fast.tw16379009669381459785:Unit:=()
def PySem.W.Fast.tw16981282633713846389:Unit:=()
def PySem.W.Fast.tw10591476041409260729:Unit:=()
def PySem.W.Fast.tw854195559017336579:Unit:=()
def PySem.W.Fast.tw7780421019657745067:Unit:=()
def PySem.W.Fast.tw13456394667257392408:Unit:=()
def PySem.W.Fast.tw8982916566342872477:Unit:=()
def PySem.W.Fast.tw12836149683238281159:Unit:=()
def PySem.W.Fast.tw2230085922629002420:Unit:=()
def PySem.W.Fast.tw13394854674200554602:Unit:=()
def PySem.W.Fast.tw7981981261931571172:Unit:=()
def PySem.W.Fast.tw4195657621742167630:Unit:=()
def PySem.W.Fast.tw3745526105707556861:Unit:=()
def PySem.W.Fast.tw13680666286194245189:Unit:=()
def PySem.W.Fast.tw17500233761484058870:Unit:=()
def PySem.W.Fast.tw11426151821529740154:Unit:=()
def PySem.W.Fast.tw9663620774223896593:Unit:=()
def PySem.W.Fast.tw11392722208350842456:Unit:=()
def PySem.W.Fast.tw10368790174952669157:Unit:=()
def PySem.W.Fast.tw9375513378709011184:Unit:=()
def PySem.W.Fast.tw15232253707362871302:Unit:=()
def PySem.W.Fast.tw8972370235700793385:Unit:=()
def PySem.W.Fast.tw18285463793161316966:Unit:=()
def PySem.W.Fast.tw14109100062694971278:Unit:=()
def PySem.W.Fast.tw4908231553232454181:Unit:=()
def PySem.W.Fast.tw7533042007284811858:Unit:=()
def PySem.W.Fast.tw12605692820776141952:Unit:=()
def PySem.W.Fast.tw16224366070942367651:Unit:=()
def PySem.W.Fast.tw9885628066028978563:Unit:=()
def PySem.W.Fast.tw12962806667941675320:Unit:=()
def PySem.W.Fast.tw2180862471838959220:Unit:=()
def PySem.W.Fast.tw7531672087126455487:Unit:=()
def PySem.W.Fast.tw6638689080374977131:Unit:=()
def PySem.W.Fast.tw4351242047556430089:Unit:=()
def PySem.W.Fast.tw6340244204814478486:Unit:=()
def PySem.W.Fast.tw4320984500888730611:Unit:=()
def PySem.W.Fast.tw1220869200516572192:Unit:=()
def PySem.W.Fast.tw6760098316518254988:Unit:=()
def PySem.W.Fast.tw17762992144738453011:Unit:=()
def PySem.W.Fast.tw7639872329531459438:Unit:=()
def PySem.W.Fast.tw3603993260757385471:Unit:=()
def PySem.W.Fast.tw2423452341948567638:Unit:=()
def PySem.W.Fast.tw7025090443926075801:Unit:=()
def PySem.W.Fast.tw9322501195072371688:Unit:=()
def PySem.W.Fast.tw337946826121525740:Unit:=()
def PySem.W.Fast.tw4785898231299199943:Unit:=()
def PySem.W.Fast.tw8949280549512059378:Unit:=()
def PySem.W.Fast.tw15501881338446514435:Unit:=()
def PySem.W.Fast.tw6158780031634472315:Unit:=()
def PySem.W.Fast.tw2008438171457101270:Unit:=()
def PySem.W.Fast.tw4380985573888004123:Unit:=()
def PySem.W.Fast.tw18202082677065461223:Unit:=()
def PySem.W.Fast.tw8183248701066995368:Unit:=()
def PySem.W.Fast.tw13307655031951318167:Unit:=()
def PySem.W.Fast.tw10539187667084051710:Unit:=()
def PySem.W.Fast.tw13554849535382313486:Unit:=()
def PySem.W.Fast.tw7549471975818751373:Unit:=()
def PySem.W.Fast.tw1611729542316170045:Unit:=()
def PySem.W.Fast.tw1406403041477289756:Unit:=()
def PySem.W.Fast.tw16434068485039605225:Unit:=()
def PySem.W.Fast.tw277371478301270345:Unit:=()
def PySem.W.Fast.tw15943070356810249898:Unit:=()
def PySem.W.Fast.tw5595361880007836770:Unit:=()
def PySem.W.Fast.tw5542744844548206525:Unit:=()
def PySem.W.Fast.tw3970390920792220158:Unit:=()
def PySem.W.Fast.tw1628860056677927836:Unit:=()
def PySem.W.Fast.tw145938647620231490:Unit:=()
def PySem.W.Fast.tw16242576285992078421:Unit:=()
def PySem.W.Fast.tw13251667611072301545:Unit:=()
def PySem.W.Fast.tw2565513098626487079:Unit:=()
def PySem.W.Fast.tw3820072042150876340:Unit:=()
def PySem.W.Fast.tw1566038518073356878:Unit:=()
def PySem.W.Fast.tw14673764340623081650:Unit:=()
def PySem.W.Fast.tw17488952468934279032:Unit:=()
def PySem.W.Fast.tw9833867903406345200:Unit:=()
def PySem.W.Fast.tw17209399460961472048:Unit:=()
def PySem.W.Fast.tw13473000066940324252:Unit:=()
def PySem.W.Fast.tw15165754066228412469:Unit:=()
def PySem.W.Fast.tw4905102899291504270:Unit:=()
def PySem.W.Fast.tw12613798508388497914:Unit:=()
def PySem.W.Fast.tw10018213718194129027:Unit:=()
def PySem.W.Fast.tw8063992793436222784:Unit:=()
def PySem.W.Fast.tw8901472075406620463:Unit:=()
def PySem.W.Fast.tw7833983162629227312:Unit:=()
def PySem.W.Fast.tw834661996882878966:Unit:=()
def PySem.W.Fast.tw8591133965700623172:Unit:=()
def PySem.W.Fast.tw11659043498941470628:Unit:=()
def PySem.W.Fast.tw6926278460151124027:Unit:=()
def PySem.W.Fast.tw7110156223562992460:Unit:=()
def PySem.W.Fast.tw12487446603715017084:Unit:=()
def PySem.W.Fast.tw259106314810288661:Unit:=()
def PySem.W.Fast.tw11798280883876709105:Unit:=()
def PySem.W.Fast.tw538342717449558793:Unit:=()
def PySem.W.Fast.tw6467824192839702810:Unit:=()
def PySem.W.Fast.tw17889107153905526574:Unit:=()
def PySem.W.Fast.tw14511230415716140662:Unit:=()
def PySem.W.Fast.tw5587478890870833417:Unit:=()
def PySem.W.Fast.tw2041712307116327633:Unit:=()
def PySem.W.Fast.tw12167012000533301244:Unit:=()
open PySem PySem.W PyProof.Rows
set_option maxRecDepth 100000 in
set_option maxHeartbeats 0 in
theorem PySem.Challenge.cw_rootstamp_k39_stretches_refused_holds : PySem.Challenge.rw_rootstamp_k39_stretches_refused.Holds := by
 w_on; o_law; k_head; (case hw => w_witness2)
 k_fill
 refine Rs.JB (l := PySem.Challenge.rw_rootstamp_k39_stretches_refused) rfl rfl (fun w h Y => by first | exact PySem.W.kIn_of Y | exact PySem.W.km_in_of Y) (by decide +kernel) ?F
 case F =>
  intro w mg fa h KX G hmg
  refine' Rs.BU KX G hmg ?bo_Numbers ?bo_Fork ?bo_Knot ?bo_Bare ?bo_Table ?bc_NoStretch ?bc_NoKey ?bc_NoPart ?bc_Broken ?bc_StampError (L2.aT ?a0 ?l0 ?c0 ?k0) (L2.aT ?a1 ?l1 ?c1 ?k1) (L2.aT ?a2 ?l2 ?c2 ?k2) (L2.aT ?a3 ?l3 ?c3 ?k3) (L2.aT ?a4 ?l4 ?c4 ?k4) ?a5 (L2.fJ ?l5 ?c5 ?k5) ?fn5 (L2.aT ?a6 ?l6 ?c6 ?k6) (L2.aT ?a7 ?l7 ?c7 ?k7) (L2.aT ?a8 ?l8 ?c8 ?k8) (L2.aT ?a9 ?l9 ?c9 ?k9) (L2.aT ?a10 ?l10 ?c10 ?k10) (L2.aT ?a11 ?l11 ?c11 ?k11) (L2.aT ?a12 ?l12 ?c12 ?k12) (L2.aT ?a13 ?l13 ?c13 ?k13) (L2.aT ?a14 ?l14 ?c14 ?k14) (L2.aT ?a15 ?l15 ?c15 ?k15) (L2.aT ?a16 ?l16 ?c16 ?k16) ?a17 (L2.fJ ?l17 ?c17 ?k17) ?fn17 (L2.aT ?a18 ?l18 ?c18 ?k18) ?tb_41 (L2.aT ?a19 ?l19 ?c19 ?k19) ?tb_32 (L2.aT ?a20 ?l20 ?c20 ?k20) ?tb_36 (L2.aT ?a21 ?l21 ?c21 ?k21) ?tb_68 (L2.aT ?a22 ?l22 ?c22 ?k22) (L2.aT ?a23 ?l23 ?c23 ?k23) (L2.aT ?a24 ?l24 ?c24 ?k24) (L2.aT ?a25 ?l25 ?c25 ?k25) (L2.aT ?a26 ?l26 ?c26 ?k26) (L2.aT ?a27 ?l27 ?c27 ?k27) (L2.aT ?a28 ?l28 ?c28 ?k28) (L2.aT ?a29 ?l29 ?c29 ?k29) (L2.aT ?a30 ?l30 ?c30 ?k30) (L2.aT ?a31 ?l31 ?c31 ?k31) (L2.aT ?a32 ?l32 ?c32 ?k32) (L2.aT ?a33 ?l33 ?c33 ?k33) (L2.aT ?a34 ?l34 ?c34 ?k34) (L2.aT ?a35 ?l35 ?c35 ?k35) (L2.aT ?a36 ?l36 ?c36 ?k36) (L2.aT ?a37 ?l37 ?c37 ?k37) ?a38 (L2.fJ ?l38 ?c38 ?k38) ?fn38 (L2.aT ?a39 ?l39 ?c39 ?k39) (L2.aT ?a40 ?l40 ?c40 ?k40) (L2.aT ?a41 ?l41 ?c41 ?k41) (L2.aT ?a42 ?l42 ?c42 ?k42) (L2.aT ?a43 ?l43 ?c43 ?k43) ?a44 (L2.fJ ?l44 ?c44 ?k44) ?fn44 (L2.aT ?a45 ?l45 ?c45 ?k45) (L2.aT ?a46 ?l46 ?c46 ?k46) (L2.aT ?a47 ?l47 ?c47 ?k47) (L2.aT ?a48 ?l48 ?c48 ?k48) (L2.aT ?a49 ?l49 ?c49 ?k49) (L2.aT ?a50 ?l50 ?c50 ?k50) (L2.aT ?a51 ?l51 ?c51 ?k51) ?a52 (L2.fJ ?l52 ?c52 ?k52) ?fn52 ?a53 (L2.fJ ?l53 ?c53 ?k53) ?fn53 ?a54 (L2.fJ ?l54 ?c54 ?k54) ?fn54 (L2.aT ?a55 ?l55 ?c55 ?k55) (L2.aT ?a56 ?l56 ?c56 ?k56) (L2.aT ?a57 ?l57 ?c57 ?k57) (L2.aT ?a58 ?l58 ?c58 ?k58) (L2.aT ?a59 ?l59 ?c59 ?k59) (L2.aT ?a60 ?l60 ?c60 ?k60) (L2.aT ?a61 ?l61 ?c61 ?k61) (L2.aT ?a62 ?l62 ?c62 ?k62) (L2.aT ?a63 ?l63 ?c63 ?k63) (L2.aT ?a64 ?l64 ?c64 ?k64) (L2.aT ?a65 ?l65 ?c65 ?k65) (L2.aT ?a66 ?l66 ?c66 ?k66) ?pg_Numbers ?hd_Numbers ?po_Numbers ?sa_Numbers ?na_Numbers_given ?pg_Fork ?hd_Fork ?po_Fork ?sa_Fork ?na_Fork_depth ?na_Fork_begin ?na_Fork_left ?na_Fork_right ?na_Fork_term ?na_Fork_mark ?pg_Knot ?hd_Knot ?po_Knot ?sa_Knot ?na_Knot_term ?na_Knot_mark ?pg_Bare ?hd_Bare ?po_Bare ?sa_Bare ?na_Bare_term ?na_Bare_mark ?pg_Table ?hd_Table ?po_Table ?sa_Table ?na_Table_stamper ?na_Table_bits ?na_Table_top ?cg_Knot ?cr_Knot ?cv_Knot ?cw_Knot ?oig ?oit ?oic_Fork ?oim_Fork ?oic_Bare ?oim_Bare ?ko_Fork_Fork ?ko_Bare_Fork ?mk_Numbers ?kc_Numbers ?mk_Bare ?kc_Bare ?mk_Table ?kc_Table ?eo_NoStretch ?eo_NoKey ?eo2_NoPart ?eo2_Broken ?eo_StampError ?sa_NoPart ?hd_NoPart ?sa_Broken ?hd_Broken ?na_NoPart_begin ?na_NoPart_depth ?na_Broken_came ?na_Broken_due ?kc_NoPart ?kc_Broken ?e0_NoStretch ?e1_NoStretch ?e2_NoStretch ?em0_NoStretch ?em1_NoStretch ?e0_NoKey ?e1_NoKey ?e2_NoKey ?em0_NoKey ?em1_NoKey ?e0_NoPart ?e1_NoPart ?e2_NoPart ?em0_NoPart ?em1_NoPart ?e0_Broken ?e1_Broken ?e2_Broken ?em0_Broken ?em1_Broken ?sb_NoStretch_Broken ?sb_NoStretch_NoPart ?sb_NoStretch_NoStretch ?sb_NoStretch_NoKey ?sb_NoStretch_StampError ?sb_NoKey_Broken ?sb_NoKey_NoPart ?sb_NoKey_NoStretch ?sb_NoKey_NoKey ?sb_NoKey_StampError ?sb_NoPart_Broken ?sb_NoPart_NoPart ?sb_NoPart_NoStretch ?sb_NoPart_NoKey ?sb_NoPart_StampError ?sb_Broken_Broken ?sb_Broken_NoPart ?sb_Broken_NoStretch ?sb_Broken_NoKey ?sb_Broken_StampError ?ki_NoStretch_Broken ?ki_NoStretch_NoPart ?ki_NoStretch_NoStretch ?ki_NoStretch_NoKey ?ki_NoStretch_ValueError ?ki_NoKey_Broken ?ki_NoKey_NoPart ?ki_NoKey_NoStretch ?ki_NoKey_NoKey ?ki_NoKey_ValueError ?ki_NoPart_Broken ?ki_NoPart_NoPart ?ki_NoPart_NoStretch ?ki_NoPart_NoKey ?ki_NoPart_ValueError ?ki_Broken_Broken ?ki_Broken_NoPart ?ki_Broken_NoStretch ?ki_Broken_NoKey ?ki_Broken_ValueError ?z_ValueError ?z_all ?z_bool ?z_int ?z_isinstance ?z_len ?z_list ?z_max ?z_min ?z_ord ?z_range ?z_str ?z_sum ?z_tuple ?c_MOST_BITS ?c_MOST_PARTS ?c_MOST_SIGNS ?nt ?td
  case bo_Numbers | bo_Fork | bo_Knot | bo_Bare | bo_Table | bc_NoStretch | bc_NoKey | bc_NoPart | bc_Broken | bc_StampError | a0 | l0 | c0 | k0 | a1 | l1 | c1 | k1 | a2 | l2 | c2 | k2 | a3 | l3 | c3 | k3 | a4 | l4 | c4 | k4 | a5 | l5 | c5 | k5 | fn5 | a6 | l6 | c6 | k6 | a7 | l7 | c7 | k7 | a8 | l8 | c8 | k8 | a9 | l9 | c9 | k9 | a10 | l10 | c10 | k10 | a11 | l11 | c11 | k11 | a12 | l12 | c12 | k12 | a13 | l13 | c13 | k13 | a14 | l14 | c14 | k14 | a15 | l15 | c15 | k15 | a16 | l16 | c16 | k16 | a17 | l17 | c17 | k17 | fn17 | a18 | l18 | c18 | k18 => k_is
  case tb_41 => kernel_rfl
  case a19 | l19 | c19 | k19 => k_is
  case tb_32 => kernel_rfl
  case a20 | l20 | c20 | k20 => k_is
  case tb_36 => kernel_rfl
  case a21 | l21 | c21 | k21 => k_is
  case tb_68 => kernel_rfl
  case a22 | l22 | c22 | k22 | a23 | l23 | c23 | k23 | a24 | l24 | c24 | k24 | a25 | l25 | c25 | k25 | a26 | l26 | c26 | k26 | a27 | l27 | c27 | k27 | a28 | l28 | c28 | k28 | a29 | l29 | c29 | k29 | a30 | l30 | c30 | k30 | a31 | l31 | c31 | k31 | a32 | l32 | c32 | k32 | a33 | l33 | c33 | k33 | a34 | l34 | c34 | k34 | a35 | l35 | c35 | k35 | a36 | l36 | c36 | k36 | a37 | l37 | c37 | k37 | a38 | l38 | c38 | k38 | fn38 | a39 | l39 | c39 | k39 | a40 | l40 | c40 | k40 | a41 | l41 | c41 | k41 | a42 | l42 | c42 | k42 | a43 | l43 | c43 | k43 | a44 | l44 | c44 | k44 | fn44 | a45 | l45 | c45 | k45 | a46 | l46 | c46 | k46 | a47 | l47 | c47 | k47 | a48 | l48 | c48 | k48 | a49 | l49 | c49 | k49 | a50 | l50 | c50 | k50 | a51 | l51 | c51 | k51 | a52 | l52 | c52 | k52 | fn52 | a53 | l53 | c53 | k53 | fn53 | a54 | l54 | c54 | k54 | fn54 | a55 | l55 | c55 | k55 | a56 | l56 | c56 | k56 | a57 | l57 | c57 | k57 | a58 | l58 | c58 | k58 | a59 | l59 | c59 | k59 | a60 | l60 | c60 | k60 | a61 | l61 | c61 | k61 | a62 | l62 | c62 | k62 | a63 | l63 | c63 | k63 | a64 | l64 | c64 | k64 | a65 | l65 | c65 | k65 | a66 | l66 | c66 | k66 | pg_Numbers | hd_Numbers | po_Numbers | sa_Numbers | na_Numbers_given | pg_Fork | hd_Fork | po_Fork | sa_Fork | na_Fork_depth | na_Fork_begin | na_Fork_left | na_Fork_right | na_Fork_term | na_Fork_mark | pg_Knot | hd_Knot | po_Knot | sa_Knot | na_Knot_term | na_Knot_mark | pg_Bare | hd_Bare | po_Bare | sa_Bare | na_Bare_term | na_Bare_mark | pg_Table | hd_Table | po_Table | sa_Table | na_Table_stamper | na_Table_bits | na_Table_top => k_is
  case cg_Knot | cr_Knot | cv_Knot | cw_Knot | oig | oit | oic_Fork | oim_Fork | oic_Bare | oim_Bare => first | k_is | kernel_rfl
  case ko_Fork_Fork | ko_Bare_Fork => kit_is
  case mk_Numbers | kc_Numbers | mk_Bare | kc_Bare | mk_Table | kc_Table => k_is
  case eo_NoStretch | eo_NoKey => k_exc
  case eo2_NoPart | eo2_Broken => kernel_rfl
  case eo_StampError => k_exc
  case sa_NoPart | hd_NoPart | sa_Broken | hd_Broken | na_NoPart_begin | na_NoPart_depth | na_Broken_came | na_Broken_due | kc_NoPart | kc_Broken | e0_NoStretch | e1_NoStretch | e2_NoStretch | em0_NoStretch | em1_NoStretch | e0_NoKey | e1_NoKey | e2_NoKey | em0_NoKey | em1_NoKey | e0_NoPart | e1_NoPart | e2_NoPart | em0_NoPart | em1_NoPart | e0_Broken | e1_Broken | e2_Broken | em0_Broken | em1_Broken | sb_NoStretch_Broken | sb_NoStretch_NoPart | sb_NoStretch_NoStretch | sb_NoStretch_NoKey | sb_NoStretch_StampError | sb_NoKey_Broken | sb_NoKey_NoPart | sb_NoKey_NoStretch | sb_NoKey_NoKey | sb_NoKey_StampError | sb_NoPart_Broken | sb_NoPart_NoPart | sb_NoPart_NoStretch | sb_NoPart_NoKey | sb_NoPart_StampError | sb_Broken_Broken | sb_Broken_NoPart | sb_Broken_NoStretch | sb_Broken_NoKey | sb_Broken_StampError => k_is
  case ki_NoStretch_Broken | ki_NoStretch_NoPart | ki_NoStretch_NoStretch | ki_NoStretch_NoKey | ki_NoStretch_ValueError | ki_NoKey_Broken | ki_NoKey_NoPart | ki_NoKey_NoStretch | ki_NoKey_NoKey | ki_NoKey_ValueError | ki_NoPart_Broken | ki_NoPart_NoPart | ki_NoPart_NoStretch | ki_NoPart_NoKey | ki_NoPart_ValueError | ki_Broken_Broken | ki_Broken_NoPart | ki_Broken_NoStretch | ki_Broken_NoKey | ki_Broken_ValueError => kit_is
  case z_ValueError | z_all | z_bool | z_int | z_isinstance | z_len | z_list | z_max | z_min | z_ord | z_range | z_str | z_sum | z_tuple | c_MOST_BITS | c_MOST_PARTS | c_MOST_SIGNS => k_is
  case nt | td => kernel_rfl

import PyProof.Rows.All
import Wide.All
import OpenK.AllK
import Wide.FinOn
import Lean
import PyProof.EqAt
import PyProof.EqKinds
import PyProof.TupleCall
import PyProof.P3In
import KE.KDictLaws
import KE.KTabLook
import KE.KRevIter
import KE.KItemsList
import PyProof.TupleOfGen
import KE.KSortTup
import KE.KDictSum
import KE.KEqDict
import PyProof.EnumMake
import PyProof.EnumFor
import PyProof.EnumStmt
import PySem.Challenge.RW_rootstamp_k23_whole_slips_of_a_table
set_option Elab.async false
set_option linter.all false
set_option maxRecDepth 100000
set_option maxHeartbeats 4000000
namespace L2
open PySem PySem.Spec PyProof.Rows
abbrev Key:=Sum Int Str
def kc:Key→Value→Bool
 | .inl k,v=>Value.isInt k v
 | .inr x,v=>Value.isStrOf x v
def Jq (w:World):Key→Int
 | .inl k=>hashInt k
 | .inr x=>hashStr w x
theorem cf : ∀ {k : Key} {v : Value}, kc k v = true → (∃ i t, k = Sum.inl i ∧ v = Value.int i t) ∨ (∃ x t, k = Sum.inr x ∧ v = Value.str x t)
  | .inl i, v, h => by
    obtain ⟨t, e⟩ := Value.isInt_shape (k := i) (v := v) h
    exact .inl ⟨i, t, rfl, e⟩
  | .inr x, v, h => by
    obtain ⟨t, e⟩ := Value.isStrOf_shape (x := x) (v := v) h
    exact .inr ⟨x, t, rfl, e⟩
theorem uV (i:Int) (t:Tok):kc (.inl i) (.int i t)=true:=by simp [kc,Value.isInt]
theorem ur (x:Str) (t:Tok):kc (.inr x) (.str x t)=true:=by simp [kc,Value.isStrOf]
theorem DM (a b:Int):decide ((Sum.inl a:Key)=Sum.inl b)=(a==b):=by
 by_cases e:a=b
 · subst e;simp
 · have h:¬ (Sum.inl a:Key)=Sum.inl b:=fun q=>e (Sum.inl.inj q)
   rw [decide_eq_false h]
   exact (beq_eq_false_iff_ne.mpr e).symm
theorem CH (a b:Str):decide ((Sum.inr a:Key)=Sum.inr b)=decide (a=b):=by
 by_cases e:a=b
 · subst e;simp
 · have h:¬ (Sum.inr a:Key)=Sum.inr b:=fun q=>e (Sum.inr.inj q)
   rw [decide_eq_false h,decide_eq_false e]
theorem DU (a:Int) (b:Str):decide ((Sum.inl a:Key)=Sum.inr b)=false:=decide_eq_false (fun q=>nomatch q)
theorem Bg (a:Str) (b:Int):decide ((Sum.inr a:Key)=Sum.inl b)=false:=decide_eq_false (fun q=>nomatch q)
def bH (prog:Program) (w:World):PySem.KeyKind prog w Key where
 is:=kc
 hash:=Jq w
 inj:=fun v a b ha hb=>by
  rcases cf ha with ⟨i,t,rfl,rfl⟩ | ⟨x,t,rfl,rfl⟩
  · rcases cf hb with ⟨j,u,rfl,e⟩ | ⟨y,u,rfl,e⟩
    · injection e with e1 _;rw [e1]
    · exact nomatch e
  · rcases cf hb with ⟨j,u,rfl,e⟩ | ⟨y,u,rfl,e⟩
    · exact nomatch e
    · injection e with e1 _;rw [e1]
 byValue:=fun k v h=>by
  rcases cf h with ⟨i,t,rfl,rfl⟩ | ⟨x,t,rfl,rfl⟩ <;> rfl
 pyHash:=fun hv h=>by
  rcases cf hv with ⟨i,t,rfl,rfl⟩ | ⟨x,t,rfl,rfl⟩
  · exact wpAny_pyHash_int h
  · exact wpAny_pyHash_str h
 eqBool:=fun hu hv h=>by
  rcases cf hu with ⟨i,t,rfl,rfl⟩ | ⟨x,t,rfl,rfl⟩
  · rcases cf hv with ⟨j,u,rfl,rfl⟩ | ⟨y,u,rfl,rfl⟩
    · rw [DM] at h;exact wpAny_eqBool_int h
    · rw [DU] at h;exact SeqAt.EqAt.int_str i t y u _ _ _ _ h
  · rcases cf hv with ⟨j,u,rfl,rfl⟩ | ⟨y,u,rfl,rfl⟩
    · rw [Bg] at h;exact SeqAt.EqAt.str_int x t j u _ _ _ _ h
    · rw [CH] at h;exact wpAny_eqBool_str h
 «strs»:=fun k x t v h=>by
  rcases cf h with ⟨i,u,rfl,e⟩ | ⟨y,u,rfl,e⟩
  · exact nomatch e
  · injection e with e1 _
    subst e1
    cases v <;> rfl
theorem pZ (prog:Program) (w:World) (i:Int) (t:Tok):(bH prog w).is (.inl i) (.int i t)=true:=uV i t
theorem qj (prog:Program) (w:World) (x:Str) (t:Tok):(bH prog w).is (.inr x) (.str x t)=true:=ur x t
end L2
namespace L2
open PySem PySem.Spec PyProof.Rows
inductive V where
 | non | bl (b:Bool) | int (i:Int) | str (x:Str) | byt (b:Array UInt8) | flt (b:UInt64) | ref (a:Addr) | ty (n:String)
 deriving DecidableEq
def aJ:V→Value→Prop
 | .non,u=>u=Value.none
 | .bl b,u=>u=Value.bool b
 | .int i,u=>∃ t,u=Value.int i t
 | .str x,u=>∃ t,u=Value.str x t
 | .byt b,u=>∃ t,u=Value.bytes b t
 | .flt b,u=>∃ t,u=Value.float b t
 | .ref a,u=>u=Value.ref a
 | .ty n,u=>u=Value.type n
abbrev aZ:List V→List Value→Prop:=Paired aJ
theorem aZ.length {xs:List V} {us:List Value} (r:aZ xs us):xs.length=us.length:=Paired.length r
theorem aZ.get : ∀ {xs : List V} {us : List Value} {i : Nat} {x : V}, aZ xs us → xs[i]? = some x → ∃ u, us[i]? = some u ∧ aJ x u
  | _, _, _, _, .nil, e => by simp at e
  | _, _, 0, _, .cons r _, e => by simp at e; subst e; exact ⟨_, rfl, r⟩
  | _, _, i + 1, x, .cons _ t, e => by
    obtain ⟨u, h1, h2⟩ := aZ.get (i := i) (x := x) t (by simpa using e)
    exact ⟨u, by simpa using h1, h2⟩
theorem aZ.set {x:V} {u:Value} (r:aJ x u):∀ {xs:List V} {us:List Value} (i:Nat),aZ xs us→aZ (xs.set i x) (us.set i u)
 | _,_,_,.nil=> .nil
 | _,_,0,.cons _ t=> .cons r t
 | _,_,i+1,.cons q t=> .cons q (aZ.set r i t)
theorem aZ.append:∀ {xs ys:List V} {us ws:List Value},aZ xs us→aZ ys ws→aZ (xs++ys) (us++ws)
 | _,_,_,_,.nil,s=>s
 | _,_,_,_,.cons r t,s=> .cons r (aZ.append t s)
theorem aZ.take:∀ {xs:List V} {us:List Value} (n:Nat),aZ xs us→aZ (xs.take n) (us.take n)
 | _,_,0,_=> .nil
 | _,_,_+1,.nil=> .nil
 | _,_,n+1,.cons r t=> .cons r (aZ.take n t)
theorem aZ.drop:∀ {xs:List V} {us:List Value} (n:Nat),aZ xs us→aZ (xs.drop n) (us.drop n)
 | _,_,0,r=>r
 | _,_,_+1,.nil=> .nil
 | _,_,n+1,.cons _ t=>aZ.drop n t
def cN:Option V→Option Value→Prop
 | some v,some u=>aJ v u
 | none,none=>True
 | _,_=>False
def KV {κ:Type}:List (κ×V)→List (κ×Value)→Prop:=Paired fun (p:κ×V) (q:κ×Value)=>p.1=q.1∧aJ p.2 q.2
def kV:Key→V
 | .inl i=> .int i
 | .inr x=> .str x
inductive HO where
 | lst (xs:List V)
 | tup (xs:List V)
 | dK (kvs:List (Key×V)) | dT (kvs:List (List Key×V))
 | set (S:Int→Bool) (n:Nat)
 | ins (C dx:Addr) (fs:List (Str×V))
 | own (x:Addr)
 | xd (fs:List (Str×V))
 | met (f x:Addr)
 | rng (lo hi:Int)
 | frz (o:Obj) (u:HO)
 | tbl (ps:Array Value)
 | ext (φ:Heap→Prop)
abbrev Hp:=Addr→Option HO
def upd (H:Hp) (a:Addr) (o:HO):Hp:=fun b=>if b=a then some o else H b
theorem ak {H:Hp} {a:Addr} {o:HO}:upd H a o a=some o:=by unfold upd;rw [if_pos rfl]
theorem ao {H:Hp} {a b:Addr} {o:HO} (h:b≠a):upd H a o b=H b:=by unfold upd;rw [if_neg h]
theorem eT {H:Hp} {a:Addr} {o u:HO}:upd (upd H a o) a u=upd H a u:=by
 funext b;unfold upd;split <;> rfl
theorem ci {H:Hp} {a b:Addr} {o u:HO} (h:H a=some o) (h':H b=some u) (d:o≠u):a≠b:=by
 intro e;subst e;rw [h] at h';exact d (Option.some.inj h')
theorem ax {H:Hp} {a b:Addr} {o:HO} (h:H a=some o) (h':H b=none):a≠b:=by
 intro e;subst e;rw [h] at h';cases h'
section
variable (P:Program) (w:World)
def bh (H:Hp) (h:Heap) (a:Addr):HO→Prop
 | .lst xs=>xs.length≤sizeLine∧∃ (its:List Value) (n:Nat),aZ xs its∧h.get? a=some { cls:=.type "list",data:=.seq its.toArray n }
 | .tup xs=>xs.length≤sizeLine∧∃ its:List Value,aZ xs its∧IsTup h a its.toArray
 | .dK kvs=>kvs.length≤sizeLine∧(a==sysModules)=false∧∃ vs,KV kvs vs∧h.DictOf (bH P w) a vs
 | .dT kvs=>kvs.length≤sizeLine∧(a==sysModules)=false∧∃ xs:List (List Key×Addr×Value),
  Paired (fun (p:List Key×V) (q:List Key×Addr×Value)=>p.1=q.1∧H q.2.1=some (.tup (p.1.map kV))∧aJ p.2 q.2.2) kvs xs∧
  ∃ o es ep,h.get? a=some o∧o.ExactDict∧o.data=.dict es ep∧es.toList=xs.map (entryOfKey (tupleKind (bH P w)))∧(xs.map (·.1)).Nodup
 | .set S n=>h.SetOf (intKind P w) a S n
 | .ins C dx fs=>H dx=some (.own a)∧fs.length≤1000∧dx≠a∧h.get? a=some (W.instObj C dx)∧
  ∃ mA,h.Ns1 dx mA∧(∀ f,cN (fs.lookup f) (mA f))∧PySem.Within mA (fs.map (·.1))
 | .own _=>∃ o,h.get? a=some o
 | .xd fs=>∃ mA,h.Ns1 a mA∧∀ f,cN (fs.lookup f) (mA f)
 | .rng lo hi=>∃ t u v,h.get? a=some { cls:=.type "range",data:=.fields #[.int lo t,.int hi u,.int 1 v] }
 | .frz o u=>h.get? a=some o∧bh H h a u
 | .tbl ps=>h.get? a=some { cls:=.none,data:=.fields ps }
 | .met f x=>h.get? a=some (W.methodObj (.ref f) (.ref x))
 | .ext φ=>φ h∧(∃ o,h.get? a=some o)∧∀ h1 h2:Heap,φ h1→(∀ o,h1.get? a=some o→h2.get? a=some o)→φ h2
def HOk (H:Hp) (h:Heap):Prop:=∀ a o,H a=some o→bh P w H h a o
end
section
variable {P:Program} {w:World} {H H':Hp} {h h':Heap} {a:Addr} {o:HO}
theorem bh.lt (x:bh P w H h a o):a<h.objs.size:=by
 cases o with
 | lst xs=>obtain ⟨_,_,_,_,e⟩:=x;exact Heap.lt_size e
 | tup xs=>obtain ⟨_,_,_,p⟩:=x;exact p.lt
 | dK kvs=>obtain ⟨_,_,_,_,o,_,_,e,_⟩:=x;exact Heap.lt_size e
 | dT kvs=>obtain ⟨_,_,_,_,o,_,_,e,_⟩:=x;exact Heap.lt_size e
 | set S n=>obtain ⟨o,_,_,_,e,_⟩:=x;exact Heap.lt_size e
 | ins C dx fs=>obtain ⟨_,_,_,e,_⟩:=x;exact Heap.lt_size e
 | own y=>obtain ⟨_,e⟩:=x;exact Heap.lt_size e
 | xd fs=>obtain ⟨_,⟨_,_,_,e,_⟩,_⟩:=x;exact Heap.lt_size e
 | rng lo hi=>obtain ⟨_,_,_,e⟩:=x;exact Heap.lt_size e
 | frz ob u=>obtain ⟨e,_⟩:=x;exact Heap.lt_size e
 | tbl ps=>exact Heap.lt_size (show h.get? a=some _ from x)
 | met f y=>exact Heap.lt_size (show h.get? a=some _ from x)
 | ext φ=>obtain ⟨_,⟨_,e⟩,_⟩:=x;exact Heap.lt_size e
theorem Paired.mapP {α β:Type} {F G:α→β→Prop}:∀ {l₁:List α} {l₂:List β},Paired F l₁ l₂→(∀ a b,F a b→G a b)→Paired G l₁ l₂
 | _,_,.nil,_=> .nil
 | _,_,.cons r t,f=> .cons (f _ _ r) (Paired.mapP t f)
theorem Paired.imp' {α β:Type} {F G:α→β→Prop} (f:∀ a b,F a b→G a b) {l₁:List α} {l₂:List β} (r:Paired F l₁ l₂):Paired G l₁ l₂:=Paired.mapP r f
theorem bh.stay (x : bh P w H h a o) (k : ∀ b u, (b = a ∨ H b = some (.own a)) → h.get? b = some u → h'.get? b = some u)
    (ho : ∀ b, H b = some (.own a) → H' b = some (.own a)) (ht : ∀ b xs, H b = some (.tup xs) → H' b = some (.tup xs)) : bh P w H' h' a o := by
  induction o with
  | lst xs => obtain ⟨z, its, n, r, e⟩ := x; exact ⟨z, its, n, r, k _ _ (.inl rfl) e⟩
  | tup xs => obtain ⟨z, its, r, ob, e, c⟩ := x; exact ⟨z, its, r, ob, k _ _ (.inl rfl) e, c⟩
  | dK kvs => obtain ⟨z, y, vs, r, ob, es, ep, e, c⟩ := x; exact ⟨z, y, vs, r, ob, es, ep, k _ _ (.inl rfl) e, c⟩
  | dT kvs =>
    obtain ⟨z, y, xs, r, ob, es, ep, e, c⟩ := x
    exact ⟨z, y, xs, Paired.mapP r fun p q z => ⟨z.1, ht _ _ z.2.1, z.2.2⟩, ob, es, ep, k _ _ (.inl rfl) e, c⟩
  | set S n => obtain ⟨ob, es, ep, t, e, c⟩ := x; exact ⟨ob, es, ep, t, k _ _ (.inl rfl) e, c⟩
  | ins C dx fs =>
    obtain ⟨d, z, ne, e, mA, ⟨od, es, ep, e2, c⟩, r⟩ := x
    exact ⟨ho _ d, z, ne, k _ _ (.inl rfl) e, mA, ⟨od, es, ep, k _ _ (.inr d) e2, c⟩, r⟩
  | own y => obtain ⟨ob, e⟩ := x; exact ⟨ob, k _ _ (.inl rfl) e⟩
  | xd fs => obtain ⟨mA, ⟨od, es, ep, e, c⟩, r⟩ := x; exact ⟨mA, ⟨od, es, ep, k _ _ (.inl rfl) e, c⟩, r⟩
  | rng lo hi => obtain ⟨t, u, v, e⟩ := x; exact ⟨t, u, v, k _ _ (.inl rfl) e⟩
  | frz ob u ih => obtain ⟨e, q⟩ := x; exact ⟨k _ _ (.inl rfl) e, ih q⟩
  | tbl ps =>
    have e : h.get? a = some { cls := .none, data := .fields ps } := x
    show h'.get? a = some { cls := .none, data := .fields ps }
    exact k a _ (.inl rfl) e
  | met f y =>
    have e : h.get? a = some (W.methodObj (.ref f) (.ref y)) := x
    show h'.get? a = some (W.methodObj (.ref f) (.ref y))
    exact k a _ (.inl rfl) e
  | ext φ => obtain ⟨p, ⟨o, e⟩, st⟩ := x; exact ⟨st _ _ p fun o q => k _ _ (.inl rfl) q, ⟨o, k _ _ (.inl rfl) e⟩, st⟩
theorem HOk.lt (x:HOk P w H h) (e:H a=some o):a<h.objs.size:=(x a o e).lt
theorem HOk.fresh (x:HOk P w H h) (e:h.objs.size≤a):H a=none:=by
 cases q:H a with
 | none=>rfl
 | some u=>exact absurd (Nat.lt_of_lt_of_le (x.lt q) e) (Nat.lt_irrefl _)
theorem HOk.kept (x:HOk P w H h) (k:∀ b u,h.get? b=some u→h'.get? b=some u):HOk P w H h':=fun a o e=>
 (x a o e).stay (fun b u _ q=>k b u q) (fun _ q=>q) fun _ _ q=>q
theorem HOk.laid (x:HOk P w H h) (k:∀ b u,h.get? b=some u→h'.get? b=some u) (hp:h.objs.size≤a) (new:bh P w (upd H a o) h' a o):HOk P w (upd H a o) h':=fun b u e=>by
 have hn:=x.fresh hp
 by_cases hb:b=a
 · subst hb;rw [ak] at e;cases e;exact new
 · rw [ao hb] at e
   exact (x b u e).stay (fun c v _ q=>k c v q) (fun c q=>by rw [ao (ax q hn)];exact q) fun c xs q=>by rw [ao (ax q hn)];exact q
end
def Rd (H:Hp) (a:Addr) (u:HO):Prop:=H a=some u∨∃ o,H a=some (.frz o u)
theorem Rd.ok {P:Program} {w:World} {H:Hp} {h:Heap} {a:Addr} {u:HO} (r:Rd H a u) (x:HOk P w H h):bh P w H h a u:=by
 rcases r with r | ⟨o,r⟩
 · exact x a u r
 · obtain ⟨_,q⟩:=x a _ r
   exact q
def Mut:Option HO→Prop
 | some (.lst _)=>True
 | some (.dK _)=>True
 | some (.dT _)=>True
 | some (.set _ _)=>True
 | some (.ins _ _ _)=>True
 | some (.ext _)=>True
 | _=>False
section
variable {P:Program} {w:World} {H:Hp} {h h':Heap} {x e:Addr} {o':HO}
theorem HOk.write (ok:HOk P w H h) (mu:Mut (H x)) (he:e=x∨H e=some (.own x)) (k:∀ b u,b≠e→h.get? b=some u→h'.get? b=some u) (heo:∃ u,h'.get? e=some u)
   (new:bh P w (upd H x o') h' x o'):HOk P w (upd H x o') h':=fun b u q=>by
 have nown:∀ c y,H c=some (.own y)→c≠x:=fun c y r z=>by subst z;rw [r] at mu;exact mu
 have ntup:∀ c xs,H c=some (.tup xs)→c≠x:=fun c xs r z=>by subst z;rw [r] at mu;exact mu
 by_cases hb:b=x
 · subst hb;rw [ak] at q;cases q;exact new
 · rw [ao hb] at q
   by_cases hbe:b=e
   · have q':H b=some (.own x):=by
       rcases he with z | z
       · exact absurd (hbe.trans z) hb
       · rw [hbe];exact z
     rw [q] at q';cases q'
     obtain ⟨v,hv⟩:=heo
     exact ⟨v,by rw [hbe];exact hv⟩
   · refine (ok b u q).stay (fun c v hc r=>k c v ?_ r) (fun c r=>by rw [ao (nown c b r)];exact r) fun c xs r=>by rw [ao (ntup c xs r)];exact r
     rcases hc with rfl | hc
     · exact hbe
     · rintro rfl
       rcases he with z | z
       · exact nown c b hc z
       · rw [hc] at z;cases z;exact hb rfl
end
structure Un (fs ex:List Addr) (H H':Hp) (h h':Heap):Prop where
 keep:∀ b o,h.get? b=some o→H b=none→b∉fs→b∉ex→h'.get? b=some o
 slot:∀ b o,h.get? b=some o→H b=none→b∈fs→b∉ex→∃ sl,h'.get? b=some { o with slots:=sl }
 free:∀ b o,h.get? b=some o→H b=none→b∉ex→H' b=none
 there:∀ b o,h.get? b=some o→b∉ex→∃ o',h'.get? b=some o'
 tups:∀ b xs,H b=some (.tup xs)→H' b=some (.tup xs)
 frzs:∀ b o u,H b=some (.frz o u)→H' b=some (.frz o u)
 tbls:∀ b ps,H b=some (.tbl ps)→∃ more,H' b=some (.tbl (ps++more))
section
variable {fs fs' ex ex':List Addr} {H H1 H2:Hp} {h h1 h2 h':Heap} {a x e:Addr} {o:HO}
theorem Un.any (u:Un fs ex H H1 h h1) {b:Addr} {ob:Obj} (q:h.get? b=some ob) (n:H b=none) (hx:b∉ex):∃ sl,h1.get? b=some { ob with slots:=sl }:=by
 by_cases hb:b∈fs
 · exact u.slot b ob q n hb hx
 · exact ⟨ob.slots,u.keep b ob q n hb hx⟩
theorem Un.kept (k:∀ b u,h.get? b=some u→h'.get? b=some u):Un fs ex H H h h':=
 ⟨fun b ob q _ _ _=>k b ob q,fun b ob q _ _ _=>⟨ob.slots,k b ob q⟩,fun _ _ _ n _=>n,fun b ob q _=>⟨ob,k b ob q⟩,fun _ _ q=>q,fun _ _ _ q=>q,fun _ ps q=>⟨#[],by rw [q];simp⟩⟩
theorem Un.refl:Un fs ex H H h h:=Un.kept fun _ _ q=>q
theorem Un.laid (k:∀ b u,h.get? b=some u→h'.get? b=some u) (hp:h.objs.size≤a) (hn:H a=none):Un fs ex H (upd H a o) h h' where
 keep:=fun b u q _ _ _=>k b u q
 slot:=fun b u q _ _ _=>⟨u.slots,k b u q⟩
 free:=fun b u q n _=>by rw [ao (Nat.ne_of_lt (Nat.lt_of_lt_of_le (Heap.lt_size q) hp))];exact n
 there:=fun b u q _=>⟨u,k b u q⟩
 tups:=fun b xs q=>by rw [ao (ax q hn)];exact q
 frzs:=fun b u xs q=>by rw [ao (ax q hn)];exact q
 tbls:=fun b ps q=>⟨#[],by rw [ao (ax q hn),q];simp⟩
theorem Un.write (mu:Mut (H x)) (he:e=x∨H e=some (.own x)) (k:∀ b u,b≠e→h.get? b=some u→h'.get? b=some u) (heo:∃ u,h'.get? e=some u):Un fs ex H (upd H x o) h h':=by
 have hx:∀ b,H b=none→b≠x:=fun b n z=>by subst z;rw [n] at mu;exact mu
 have hb:∀ b,H b=none→b≠e:=fun b n z=>by
   subst z
   rcases he with r | r
   · exact hx b n r
   · rw [n] at r;cases r
 have hm:∀ b u,H b=some u→¬ Mut (some u)→b≠x:=fun b u q nm z=>by subst z;rw [q] at mu;exact nm mu
 refine ⟨fun b u q n _ _=>k b u (hb b n) q,fun b u q n _ _=>⟨u.slots,k b u (hb b n) q⟩,fun b u q n _=>by rw [ao (hx b n)];exact n,fun b u q _=>?_,
   fun b xs q=>by rw [ao (hm b _ q fun z=>z)];exact q,fun b u xs q=>by rw [ao (hm b _ q fun z=>z)];exact q,fun b ps q=>⟨#[],by rw [ao (hm b _ q fun z=>z),q];simp⟩⟩
 by_cases hbe:b=e
 · subst hbe;exact heo
 · exact ⟨u,k b u hbe q⟩
end
def trk (h:Heap) (H:Hp):List Addr:=(List.range h.objs.size).filter fun a=>(H a).isSome
def gz (h:Heap) (H:Hp):Heap:=W.hideAll h (trk h H)
theorem uX (h:Heap) (H:Hp):(gz h H).objs.size=h.objs.size:=W.hideAll_size _ _
theorem xn {h:Heap} {H:Hp} {b:Addr} {o:Obj} (e:h.get? b=some o) (n:H b=none):(gz h H).get? b=some o:=
 W.hideAll_get _ e fun hm=>by
  have q:(H b).isSome=true:=(List.mem_filter.mp hm).2
  rw [n] at q;simp at q
theorem Ah {h : Heap} {H : Hp} {b : Addr} {o : Obj} (e : (gz h H).get? b = some o) : h.get? b = some o ∧ H b = none := by
  have e' : h.get? b = some o := W.of_hideAll (trk h H) e
  refine ⟨e', ?_⟩
  cases q : H b with
  | none => rfl
  | some x =>
    have hm : b ∈ trk h H := List.mem_filter.mpr ⟨List.mem_range.mpr (Heap.lt_size e'), by simp [q]⟩
    have z : (gz h H).get? b = none := W.hideAll_none (trk h H) hm
    rw [z] at e; cases e
def zL (g h:Heap) (L:Addr):List (Addr×Obj):=(List.range h.objs.size).filterMap fun a=>if a=L∨(g.get? a).isSome=true then none else (h.get? a).map fun o=>(a,o)
def bY (g h:Heap) (L d:Addr):List (Addr×Obj):=(zL g h L).filter fun p=>decide (p.1≠d)
end L2
namespace L2
open PySem PySem.Spec PyProof.Rows
structure Mod (K:W.Frag) (mg:Str→Option Value) (base:Heap):Prop where
 kin:K.In base
 glob:base.Ns mainGlobals mg
 blt:∃ mb,base.Ns builtinsNs mb∧∀ x:Str,x≠ "__name__" →mb x=bootBuiltins x
 nolimit:base.NoLimit
set_option genInjectivity false in
set_option genSizeOf false in
structure Cx where
 prog:Program
 w:World
 K:W.Frag
 mg:Str→Option Value
 base:Heap
 A:Around
 N:List Str
 s₀:Shared
 H₀:Hp
 env:Env
 outer:List Env
 stack:List Env
 ex:List Addr
 fn:Str→Bool
 calm:Bool
 pn:List (Addr×Obj)
 xe:Value→Shared→Prop
def frs (l:List Env):List Addr:=l.filterMap (·.frame)
abbrev Cx.fs (X:Cx):List Addr:=frs X.outer
def Vis (sc:Scope) (x:Str):Prop:=sc.names.lookup x=some .local∨sc.names.lookup x=some .cell∨sc.names.lookup x=some .free
def Loc (sc:Scope) (x:Str):Prop:=sc.names.lookup x=some .local∨sc.names.lookup x=some .cell
def CF (env:Env) (h:Heap) (m:Str→Option Value) (x:Str) (u:Value):Prop:=
 (env.kindOf x=some .local∧m x=some u)∨((env.kindOf x=some .cell∨env.kindOf x=some .free)∧∃ c,env.cells.lookup x=some c∧h.IsCell c (some u))
set_option genInjectivity false in
set_option genSizeOf false in
structure Cx.Ok (X:Cx):Prop where
 mod:Mod X.K X.mg X.base
 kind:X.env.scope.kind=.function
 glob:X.env.globals=mainGlobals
 blt:X.env.builtins=builtinsNs
 above:X.s₀.heap.objs.size≤X.env.locals
 inj:∀ x y c,X.env.cells.lookup x=some c→X.env.cells.lookup y=some c→x=y
 has:∀ x,(X.env.kindOf x=some .cell∨X.env.kindOf x=some .free)→∃ c,X.env.cells.lookup x=some c
 cab:∀ x c,X.fn x=true→X.env.cells.lookup x=some c→X.s₀.heap.objs.size≤c
 hd:X.calm=true→X.A.handled=none
 frames:X.A.frames=some X.stack
 stk:X.stack=X.outer∨(X.stack=X.env::X.outer∧X.env.frame=some X.env.locals)
 exf:∀ b∈X.ex,b≠X.env.locals∧∀ x c,X.env.cells.lookup x=some c→c≠b
 bs:∀ b o,X.base.get? b=some o→X.s₀.heap.get? b=some o∧X.H₀ b=none
 bsz:X.base.objs.size≤X.s₀.heap.objs.size
 noex:∀ b o,X.base.get? b=some o→b∉X.ex
 exfs:∀ b∈X.ex,b∉X.fs
 funs:X.s₀.heap.FunFrames X.base X.outer
 frf:∀ b∈X.fs,X.H₀ b=none
structure Inv (X:Cx) (pins:List (Addr×Obj)) (σ:List (Option V)) (H:Hp) (s:Shared):Prop where
 ok:X.Ok
 os:s.os=X.s₀.os
 bare:AllBare s.gens
 base:Un X.fs X.ex X.H₀ H X.s₀.heap s.heap
 loc:∃ m,s.heap.Ns X.env.locals m∧∀ (i:Nat) (x:Str) (v:V),X.N[i]?=some x→σ[i]?=some (some v)→Vis X.env.scope x→∃ u,aJ v u∧CF X.env s.heap m x u
 cell:∀ x c,X.env.cells.lookup x=some c→∃ v,s.heap.IsCell c v
 free:H X.env.locals=none
 freeC:∀ x c,X.env.cells.lookup x=some c→H c=none
 pin:∀ p∈X.pn++pins,s.heap.get? p.1=some p.2∧H p.1=none∧p.1≠X.env.locals∧p.1∉X.fs∧∀ v,p.2.data≠ .cell v
 hok:HOk X.prog X.w H s.heap
 len:σ.length=X.N.length
section
variable {X:Cx} {pins:List (Addr×Obj)} {σ:List (Option V)} {H H':Hp} {s:Shared} {h':Heap}
theorem Cx.Ok.nofr (ok:X.Ok) {b:Addr} {o:Obj} (e:X.base.get? b=some o):b∉X.fs:=fun hb=>by
 have:=(ok.funs.mem hb).1
 rw [e] at this;cases this
theorem Inv.bs (I:Inv X pins σ H s):∀ b o,X.base.get? b=some o→s.heap.get? b=some o∧H b=none:=fun b o e=>
 ⟨I.base.keep b o (I.ok.bs b o e).1 (I.ok.bs b o e).2 (I.ok.nofr e) (I.ok.noex b o e),I.base.free b o (I.ok.bs b o e).1 (I.ok.bs b o e).2 (I.ok.noex b o e)⟩
theorem Inv.bk (I:Inv X pins σ H s):∀ b o,X.base.get? b=some o→s.heap.get? b=some o:=fun b o e=>(I.bs b o e).1
theorem Inv.mod (I:Inv X pins σ H s):Mod X.K X.mg X.base:=I.ok.mod
theorem Inv.kIn (I:Inv X pins σ H s):X.K.In s.heap:=I.ok.mod.kin.keeps I.bk
theorem Inv.lt (I:Inv X pins σ H s):X.env.locals<s.heap.objs.size:=let ⟨_,hn,_⟩:=I.loc;hn.lt
theorem Inv.sz (I:Inv X pins σ H s):X.s₀.heap.objs.size≤s.heap.objs.size:=Nat.le_trans I.ok.above (Nat.le_of_lt I.lt)
theorem Inv.nofs (I:Inv X pins σ H s) {a:Addr} (h:s.heap.objs.size≤a):a∉X.fs:=fun hb=>by
 obtain ⟨_,o,ho,_⟩:=I.ok.funs.mem hb
 exact absurd (Nat.lt_of_lt_of_le (Heap.lt_size ho) (Nat.le_trans I.sz h)) (Nat.lt_irrefl _)
theorem Inv.cne (I:Inv X pins σ H s):∀ x c,X.env.cells.lookup x=some c→c≠X.env.locals:=fun x c e z=>by
 obtain ⟨v,o,ho,hd⟩:=I.cell x c e
 obtain ⟨m,⟨o',es,ep,ho',hd',_⟩,_⟩:=I.loc
 rw [z,ho'] at ho;cases ho;rw [hd'] at hd;cases hd
theorem Inv.funs (I : Inv X pins σ H s) : s.heap.FunFrames X.base X.outer := by
  have all : ∀ (l : List Env), (∀ b ∈ frs l, b ∈ X.fs) → X.s₀.heap.FunFrames X.base l → s.heap.FunFrames X.base l := by
    intro l
    induction l with
    | nil => intro _ _; trivial
    | cons env r ih =>
      intro hs hl
      obtain ⟨hk, ⟨L, o, hf, hn, ho, hd⟩, hr⟩ := hl
      have hL : L ∈ X.fs := hs L (by unfold frs; rw [List.filterMap_cons, hf]; exact List.mem_cons_self)
      obtain ⟨sl, e⟩ := I.base.slot L o ho (I.ok.frf L hL) hL fun z => I.ok.exfs L z hL
      exact ⟨hk, ⟨L, _, hf, hn, e, hd⟩, ih (fun b hb => hs b (by unfold frs; rw [List.filterMap_cons, hf]; exact List.mem_cons_of_mem _ hb)) hr⟩
  exact all X.outer (fun _ hb => hb) I.ok.funs
theorem Inv.stack (I:Inv X pins σ H s):s.heap.FunFrames X.base X.stack:=by
 rcases I.ok.stk with e | ⟨e,hf⟩
 · rw [e];exact I.funs
 · rw [e]
   obtain ⟨m,hn,_⟩:=I.loc
   refine .cons (by rw [I.ok.kind];decide) hf hn ?_ I.funs
   exact Heap.get?_none_of_le (Nat.le_trans I.ok.bsz I.ok.above)
theorem Inv.stkSub (I:Inv X pins σ H s):∀ b∈frs X.stack,b∈X.env.locals::X.fs:=fun b hb=>by
 rcases I.ok.stk with e | ⟨e,hf⟩
 · rw [e] at hb;exact List.mem_cons_of_mem _ hb
 · rw [e] at hb
   unfold frs at hb
   rw [List.filterMap_cons,hf] at hb
   exact hb
theorem Inv.stkFree (I:Inv X pins σ H s):∀ b∈frs X.stack,H b=none:=fun b hb=>by
 rcases List.mem_cons.mp (I.stkSub b hb) with e | hb
 · rw [e];exact I.free
 · obtain ⟨_,o,ho,_⟩:=I.ok.funs.mem hb
   exact I.base.free b o ho (I.ok.frf b hb) fun z=>I.ok.exfs b z hb
theorem Inv.step {g':Array GenState} {t':Nat} {d':Drawn} {ch:List Addr} (I:Inv X pins σ H s)
   (hch:∀ b∈ch,(b∈X.ex∨X.s₀.heap.objs.size≤b)∧b≠X.env.locals∧(∀ x c,X.env.cells.lookup x=some c→c≠b)∧∀ p∈X.pn++pins,p.1≠b)
   (keep:∀ b o,b≠X.env.locals→b∉X.fs→b∉ch→s.heap.get? b=some o→H b=none→h'.get? b=some o)
   (slot:∀ b o,b≠X.env.locals→b∈X.fs→b∉ch→s.heap.get? b=some o→H b=none→∃ sl,h'.get? b=some { o with slots:=sl }) (free:∀ b o,b∉ch→s.heap.get? b=some o→H b=none→H' b=none)
   (there:∀ b o,b∉ch→s.heap.get? b=some o→∃ o',h'.get? b=some o')
   (tups:∀ b xs,H b=some (.tup xs)→H' b=some (.tup xs)) (frzs:∀ b o u,H b=some (.frz o u)→H' b=some (.frz o u)) (tbls:∀ b ps,H b=some (.tbl ps)→∃ more,H' b=some (.tbl (ps++more)))
   (ns:∀ m,s.heap.Ns X.env.locals m→h'.Ns X.env.locals m) (hok:HOk X.prog X.w H' h') (hg:AllBare g'):
   Inv X pins σ H' { s with heap:=h',gens:=g',drawn:=d',toks:=t' }:=by
 have neL:∀ b o,X.s₀.heap.get? b=some o→b≠X.env.locals:=fun b o e=>Nat.ne_of_lt (Nat.lt_of_lt_of_le (Heap.lt_size e) I.ok.above)
 have neC:∀ b o,X.s₀.heap.get? b=some o→b∉X.ex→b∉ch:=fun b o e hx hb=>by
   rcases (hch b hb).1 with z | z
   · exact hx z
   · exact absurd (Nat.lt_of_lt_of_le (Heap.lt_size e) z) (Nat.lt_irrefl _)
 have cellK:∀ x c,X.env.cells.lookup x=some c→∀ v,s.heap.IsCell c v→h'.IsCell c v:=fun x c e v ⟨o,ho,hd⟩=>by
   have nch:c∉ch:=fun z=>(hch c z).2.2.1 x c e rfl
   by_cases hc:c∈X.fs
   · obtain ⟨sl,q⟩:=slot c o (I.cne x c e) hc nch ho (I.freeC x c e)
     exact ⟨_,q,hd⟩
   · exact ⟨o,keep c o (I.cne x c e) hc nch ho (I.freeC x c e),hd⟩
 refine ⟨I.ok,I.os,hg,⟨fun b o e n hb hx=>?_,fun b o e n hb hx=>?_,fun b o e n hx=>?_,fun b o e hx=>?_,fun b xs e=>tups b xs (I.base.tups b xs e),fun b o xs e=>frzs b o xs (I.base.frzs b o xs e),fun b ps e=>?_⟩,?_,fun x c e=>?_,?_,fun x c e=>?_,fun p hp=>?_,hok,I.len⟩
 · exact keep b o (neL b o e) hb (neC b o e hx) (I.base.keep b o e n hb hx) (I.base.free b o e n hx)
 · obtain ⟨sl,e1⟩:=I.base.slot b o e n hb hx
   obtain ⟨sl',e2⟩:=slot b _ (neL b o e) hb (neC b o e hx) e1 (I.base.free b o e n hx)
   exact ⟨sl',e2⟩
 · obtain ⟨o',e1⟩:=I.base.there b o e hx
   exact free b o' (neC b o e hx) e1 (I.base.free b o e n hx)
 · obtain ⟨o',e1⟩:=I.base.there b o e hx
   exact there b o' (neC b o e hx) e1
 · obtain ⟨m1,e1⟩:=I.base.tbls b ps e
   obtain ⟨m2,e2⟩:=tbls b _ e1
   exact ⟨m1++m2,by rw [e2,Array.append_assoc]⟩
 · obtain ⟨m,hn,hl⟩:=I.loc
   refine ⟨m,ns m hn,fun i x v e1 e2 e3=>?_⟩
   obtain ⟨u,r,l⟩:=hl i x v e1 e2 e3
   refine ⟨u,r,?_⟩
   rcases l with l | ⟨k,c,e,z⟩
   · exact .inl l
   · exact .inr ⟨k,c,e,cellK x c e _ z⟩
 · obtain ⟨v,z⟩:=I.cell x c e
   exact ⟨v,cellK x c e v z⟩
 · obtain ⟨m,⟨o,_,_,ho,_⟩,_⟩:=I.loc
   exact free _ o (fun z=>(hch _ z).2.1 rfl) ho I.free
 · obtain ⟨v,o,ho,hd⟩:=I.cell x c e
   exact free c o (fun z=>(hch c z).2.2.1 x c e rfl) ho (I.freeC x c e)
 · obtain ⟨e,n,ne,nf,d⟩:=I.pin p hp
   have nch:p.1∉ch:=fun z=>(hch p.1 z).2.2.2 p hp rfl
   exact ⟨keep p.1 p.2 ne nf nch e n,free p.1 p.2 nch e n,ne,nf,d⟩
theorem Inv.un {t':Nat} (I:Inv X pins σ H s) (u:Un X.fs [] H H' s.heap h') (hok:HOk X.prog X.w H' h'):Inv X pins σ H' { s with heap:=h',toks:=t' }:=by
 obtain ⟨m,⟨o,es,ep,ho,r⟩,_⟩:=id I.loc
 obtain ⟨sl,hL⟩:=u.any ho I.free (by simp)
 exact I.step (g':=s.gens) (d':=s.drawn) (ch:=[]) (fun _ z=>nomatch z) (fun b o _ hb _ e n=>u.keep b o e n hb (by simp)) (fun b o _ hb _ e n=>u.slot b o e n hb (by simp)) (fun b o _ e n=>u.free b o e n (by simp)) (fun b o _ e=>u.there b o e (by simp)) u.tups u.frzs u.tbls (fun m' hm=>by
  obtain ⟨o',es',ep',ho',r'⟩:=hm
  rw [ho] at ho';cases ho'
  exact ⟨_,es',ep',hL,r'⟩) hok I.bare
theorem Inv.call {g':Array GenState} {t':Nat} {d':Drawn} {ch:List Addr} (I:Inv X pins σ H s) (u:Un (frs X.stack) ch H H' s.heap h') (hok:HOk X.prog X.w H' h') (hg:AllBare g')
  (hch:∀ b∈ch,(b∈X.ex∨X.s₀.heap.objs.size≤b)∧b≠X.env.locals∧(∀ x c,X.env.cells.lookup x=some c→c≠b)∧∀ p∈X.pn++pins,p.1≠b):
  Inv X pins σ H' { s with heap:=h',gens:=g',drawn:=d',toks:=t' }:=by
 obtain ⟨m,⟨o,es,ep,ho,r⟩,_⟩:=id I.loc
 obtain ⟨sl,hL⟩:=u.any ho I.free fun z=>(hch _ z).2.1 rfl
 exact I.step (ch:=ch) hch (fun b o hL hb hc e n=>u.keep b o e n (fun z=>(List.mem_cons.mp (I.stkSub b z)).elim hL hb) hc) (fun b o _ _ hc e n=>u.any e n hc) (fun b o hc e n=>u.free b o e n hc) (fun b o hc e=>u.there b o e hc) u.tups u.frzs u.tbls (fun m' hm=>by
  obtain ⟨o',es',ep',ho',r'⟩:=hm
  rw [ho] at ho';cases ho'
  exact ⟨_,es',ep',hL,r'⟩) hok hg
theorem Inv.turned {t':Nat} {it:Addr} (I:Inv X pins σ H s) (k:∀ b o,b≠it→s.heap.get? b=some o→h'.get? b=some o) (hn:H it=none) (hL:it≠X.env.locals)
   (h1:it∈X.ex∨X.s₀.heap.objs.size≤it) (h2:∀ x c,X.env.cells.lookup x=some c→c≠it) (h3:∀ p∈X.pn++pins,p.1≠it):Inv X pins σ H { s with heap:=h',toks:=t' }:=by
 have nit:∀ b u,H b=some u→b≠it:=fun b u e z=>by rw [z,hn] at e;cases e
 refine I.step (g':=s.gens) (d':=s.drawn) (ch:=[it]) (fun b hb=>?_) (fun b o _ _ hc e _=>k b o (fun z=>hc (by simp [z])) e) (fun b o _ _ hc e _=>⟨o.slots,k b o (fun z=>hc (by simp [z])) e⟩) (fun _ _ _ _ n=>n)
   (fun b o hc e=>⟨o,k b o (fun z=>hc (by simp [z])) e⟩) (fun _ _ e=>e) (fun _ _ _ e=>e) (fun b ps e=>⟨#[],by rw [e];simp⟩) (fun m hm=>?_) (fun b u e=>?_) I.bare
 · have e:b=it:=by simpa using hb
   subst e
   exact ⟨h1,hL,h2,h3⟩
 · obtain ⟨o,es,ep,ho,r⟩:=hm
   exact ⟨o,es,ep,k _ o (Ne.symm hL) ho,r⟩
 · refine (I.hok b u e).stay (fun c v hc q=>k c v ?_ q) (fun _ q=>q) fun _ _ q=>q
   rcases hc with z | z
   · rw [z];exact nit b u e
   · exact nit c _ z
theorem Inv.tok (I:Inv X pins σ H s) (t:Nat):Inv X pins σ H { s with toks:=t }:=I.un (h':=s.heap) (t':=t) Un.refl I.hok
theorem Inv.kept {t':Nat} (I:Inv X pins σ H s) (k:∀ b u,s.heap.get? b=some u→h'.get? b=some u):Inv X pins σ H { s with heap:=h',toks:=t' }:=I.un (Un.kept k) (I.hok.kept k)
theorem Inv.laid {a:Addr} {o:HO} {t':Nat} (I:Inv X pins σ H s) (k:∀ b u,s.heap.get? b=some u→h'.get? b=some u) (hp:s.heap.objs.size≤a) (new:bh X.prog X.w (upd H a o) h' a o):
 Inv X pins σ (upd H a o) { s with heap:=h',toks:=t' }:=I.un (Un.laid k hp (I.hok.fresh hp)) (I.hok.laid k hp new)
theorem Inv.write {x e:Addr} {o:HO} {t':Nat} (I:Inv X pins σ H s) (mu:Mut (H x)) (he:e=x∨H e=some (.own x)) (k:∀ b u,b≠e→s.heap.get? b=some u→h'.get? b=some u) (heo:∃ u,h'.get? e=some u)
 (new:bh X.prog X.w (upd H x o) h' x o):Inv X pins σ (upd H x o) { s with heap:=h',toks:=t' }:=I.un (Un.write mu he k heo) (I.hok.write mu he k heo new)
theorem Inv.pins_of {pins':List (Addr×Obj)} (I:Inv X pins σ H s) (h:∀ p∈pins',s.heap.get? p.1=some p.2∧H p.1=none∧p.1≠X.env.locals∧p.1∉X.fs∧∀ v,p.2.data≠ .cell v):Inv X pins' σ H s:=
 ⟨I.ok,I.os,I.bare,I.base,I.loc,I.cell,I.free,I.freeC,fun p hp=>(List.mem_append.mp hp).elim (fun z=>I.pin p (List.mem_append_left _ z)) (h p),I.hok,I.len⟩
theorem pH {N:List Str} (hN:N.Nodup) {i j:Nat} {x:Str} (a:N[i]?=some x) (b:N[j]?=some x):i=j:=by
 obtain ⟨h1,e1⟩:=List.getElem?_eq_some_iff.mp a
 obtain ⟨h2,e2⟩:=List.getElem?_eq_some_iff.mp b
 exact (List.getElem_inj hN).mp (e1.trans e2.symm)
theorem nj {M:Model} {A:Around} {E:Value→Shared→Prop} {i:Nat} {x:Str} {v:V} {u:Value} {Q:Unit→Shared→Prop} (I:Inv X pins σ H s) (hN:X.N.Nodup) (hi:X.N[i]?=some x) (hx:Loc X.env.scope x) (r:aJ v u)
   (h:∀ s',Inv X pins (σ.set i (some v)) H s'→(∃ a,Heap.SameBut a s.heap s'.heap∧(a=X.env.locals∨X.env.cells.lookup x=some a))→Q () s') (hf:X.fn x=true∨X.env.scope.names.lookup x=some .local:=by first | exact .inl rfl | exact .inr rfl | assumption):wpAny M A (storeName X.env x u) Q E s:=by
 obtain ⟨m,hn,hl⟩:=id I.loc
 have hcls:(X.env.scope.kind==.class||(X.env.scope.kind==.module&&X.env.locals !=X.env.globals))=false:=by rw [I.ok.kind];rfl
 have hiσ:i<σ.length:=by rw [I.len];exact (List.getElem?_eq_some_iff.mp hi).1
 have cne:=I.cne
 have tracked:∀ {a:Addr} {h':Heap},(∃ o,s.heap.get? a=some o∧H a=none)→Heap.SameBut a s.heap h'→HOk X.prog X.w H h':=fun {a h'} ha hs b ob e=>by
   obtain ⟨_,_,hfree⟩:=ha
   refine (I.hok b ob e).stay (fun c w' hc q=>(hs.2 c ?_).trans q) (fun _ q=>q) fun _ _ q=>q
   rintro rfl
   rcases hc with rfl | hc
   · rw [hfree] at e;cases e
   · rw [hfree] at hc;cases hc
 rcases hx with hk | hk
 · refine wpAny_storeName_local hk hn (fun h' hn' hs=>?_) hcls
   obtain ⟨oL,_,_,hoL,_⟩:=id hn
   refine h _ ⟨I.ok,I.os,I.bare,⟨fun b o e n hb hx=>?_,fun b o e n hb hx=>?_,I.base.free,fun b o e hx=>?_,I.base.tups,I.base.frzs,I.base.tbls⟩,⟨_,hn',fun j y v' e1 e2 e3=>?_⟩,fun y c e=>?_,I.free,I.freeC,fun p hp=>?_,tracked ⟨oL,hoL,I.free⟩ hs,by simpa using I.len⟩ ⟨_,hs,.inl rfl⟩
   · exact (hs.2 b (Nat.ne_of_lt (Nat.lt_of_lt_of_le (Heap.lt_size e) I.ok.above))).trans (I.base.keep b o e n hb hx)
   · obtain ⟨sl,e1⟩:=I.base.slot b o e n hb hx
     exact ⟨sl,(hs.2 b (Nat.ne_of_lt (Nat.lt_of_lt_of_le (Heap.lt_size e) I.ok.above))).trans e1⟩
   · obtain ⟨o',e1⟩:=I.base.there b o e hx
     exact ⟨o',(hs.2 b (Nat.ne_of_lt (Nat.lt_of_lt_of_le (Heap.lt_size e) I.ok.above))).trans e1⟩
   · by_cases hj:j=i
     · subst hj
       rw [hi] at e1;cases e1
       rw [List.getElem?_set_self hiσ] at e2
       cases e2
       exact ⟨u,r,.inl ⟨hk,by simp⟩⟩
     · rw [List.getElem?_set_ne (Ne.symm hj)] at e2
       obtain ⟨u',r',q⟩:=hl j y v' e1 e2 e3
       refine ⟨u',r',?_⟩
       rcases q with ⟨k,e⟩ | ⟨k,c,e,z⟩
       · refine .inl ⟨k,?_⟩
         have:y≠x:=fun e=>hj (pH hN e1 (e▸hi))
         simp [this,e]
       · exact .inr ⟨k,c,e,z.sameBut hs (cne y c e)⟩
   · obtain ⟨w',z⟩:=I.cell y c e
     exact ⟨w',z.sameBut hs (cne y c e)⟩
   · obtain ⟨e,n,ne,nf,d⟩:=I.pin p hp
     exact ⟨(hs.2 p.1 ne).trans e,n,ne,nf,d⟩
 · have hfn:X.fn x=true:=by
     rcases hf with z | z
     · exact z
     · rw [z] at hk;cases hk
   obtain ⟨c,hc⟩:=I.ok.has x (.inl hk)
   obtain ⟨w',z⟩:=I.cell x c hc
   refine wpAny_storeName_cell I.ok.kind hk hc z (fun h' hc' hs=>?_)
   obtain ⟨oc,hoc,hocd⟩:=id z
   refine h { s with heap:=h' } ⟨I.ok,I.os,I.bare,⟨fun b o e n hb hx=>?_,fun b o e n hb hx=>?_,I.base.free,fun b o e hx=>?_,I.base.tups,I.base.frzs,I.base.tbls⟩,⟨m,hn.sameBut hs (Ne.symm (cne x c hc)),fun j y v' e1 e2 e3=>?_⟩,fun y c' e=>?_,I.free,I.freeC,fun p hp=>?_,tracked ⟨oc,hoc,I.freeC x c hc⟩ hs,by simpa using I.len⟩ ⟨c,hs,.inr hc⟩
   · exact (hs.2 b (Nat.ne_of_lt (Nat.lt_of_lt_of_le (Heap.lt_size e) (I.ok.cab x c hfn hc)))).trans (I.base.keep b o e n hb hx)
   · obtain ⟨sl,e1⟩:=I.base.slot b o e n hb hx
     exact ⟨sl,(hs.2 b (Nat.ne_of_lt (Nat.lt_of_lt_of_le (Heap.lt_size e) (I.ok.cab x c hfn hc)))).trans e1⟩
   · obtain ⟨o',e1⟩:=I.base.there b o e hx
     exact ⟨o',(hs.2 b (Nat.ne_of_lt (Nat.lt_of_lt_of_le (Heap.lt_size e) (I.ok.cab x c hfn hc)))).trans e1⟩
   · by_cases hj:j=i
     · subst hj
       rw [hi] at e1;cases e1
       rw [List.getElem?_set_self hiσ] at e2
       cases e2
       exact ⟨u,r,.inr ⟨.inl hk,c,hc,hc'⟩⟩
     · rw [List.getElem?_set_ne (Ne.symm hj)] at e2
       obtain ⟨u',r',q⟩:=hl j y v' e1 e2 e3
       refine ⟨u',r',?_⟩
       rcases q with q | ⟨k,c',e,z'⟩
       · exact .inl q
       · refine .inr ⟨k,c',e,z'.sameBut hs ?_⟩
         rintro rfl
         exact hj (pH hN e1 (I.ok.inj _ _ _ e hc▸hi))
   · by_cases hcc:c'=c
     · subst hcc;exact ⟨_,hc'⟩
     · obtain ⟨w2,z2⟩:=I.cell y c' e
       exact ⟨w2,z2.sameBut hs hcc⟩
   · obtain ⟨e,n,ne,nf,d⟩:=I.pin p hp
     refine ⟨(hs.2 p.1 ?_).trans e,n,ne,nf,d⟩
     intro q
     rw [q,hoc] at e
     have q':oc=p.2:=Option.some.inj e
     exact d w' (by rw [← q'];exact hocd)
theorem gH {M:Model} {A:Around} {E:Value→Shared→Prop} {i:Nat} {x:Str} {v:V} {u:Value} {Q:Unit→Shared→Prop} (I:Inv X pins σ H s) (hN:X.N.Nodup) (hi:X.N[i]?=some x) (hx:Loc X.env.scope x) (r:aJ v u)
  (h:∀ s',Inv X pins (σ.set i (some v)) H s'→Q () s') (hf:X.fn x=true∨X.env.scope.names.lookup x=some .local:=by first | exact .inl rfl | exact .inr rfl | assumption):wpAny M A (storeName X.env x u) Q E s:=
 nj I hN hi hx r (fun s' I' _=>h s' I') hf
theorem Inv.call' {s':Shared} {ch:List Addr} (I:Inv X pins σ H s) (ho:s'.os=s.os) (u:Un (frs X.stack) ch H H' s.heap s'.heap) (hok:HOk X.prog X.w H' s'.heap) (hg:AllBare s'.gens)
  (hch:∀ b∈ch,(b∈X.ex∨X.s₀.heap.objs.size≤b)∧b≠X.env.locals∧(∀ x c,X.env.cells.lookup x=some c→c≠b)∧∀ p∈X.pn++pins,p.1≠b):Inv X pins σ H' s':=by
 obtain ⟨h',g',d',t',o'⟩:=s'
 have e:o'=s.os:=ho
 subst e
 exact I.call (g':=g') (t':=t') (d':=d') u hok hg hch
end
abbrev XK:=Value→Option Addr→Hp→Prop
abbrev St:=List (Option V)
abbrev VK:=V→Hp→Prop
abbrev TE:=St→Hp→VK→Prop
abbrev TT:=St→Hp→(Bool→Hp→Prop)→Prop
abbrev TA:=St→Hp→(List V→Hp→Prop)→Prop
structure hG where
 nx:St→Hp→Prop
 rt:VK
 bk:St→Hp→Prop:=fun _ _=>False
 ct:St→Hp→Prop:=fun _ _=>False
abbrev TS:=hG→St→Hp→Prop
def EP (X:Cx) (pins:List (Addr×Obj)) (σ:St) (Q:VK) (u:Value) (s':Shared):Prop:=∃ v H',Inv X pins σ H' s'∧aJ v u∧Q v H'
def TP (X:Cx) (pins:List (Addr×Obj)) (σ:St) (Q:Bool→Hp→Prop) (b:Bool) (s':Shared):Prop:=∃ H',Inv X pins σ H' s'∧Q b H'
def AP (X:Cx) (pins:List (Addr×Obj)) (σ:St) (Q:List V→Hp→Prop) (us:List Value) (s':Shared):Prop:=∃ vs H',Inv X pins σ H' s'∧aZ vs us∧Q vs H'
def SP (X:Cx) (pins:List (Addr×Obj)) (D:hG) (f:Flow) (s':Shared):Prop:=
 match f with
 | .next=>∃ σ' H',Inv X pins σ' H' s'∧D.nx σ' H'
 | .brk=>∃ σ' H',Inv X pins σ' H' s'∧D.bk σ' H'
 | .cont=>∃ σ' H',Inv X pins σ' H' s'∧D.ct σ' H'
 | .ret u=>∃ v σ' H',Inv X pins σ' H' s'∧aJ v u∧D.rt v H'
def PE (X:Cx) (e:Expr) (t:TE):Prop:=
 ∀ (pins:List (Addr×Obj)) (s:Shared) (σ:St) (H:Hp) (Q:VK),Inv X pins σ H s→t σ H Q→wpAny (model X.prog X.w) X.A (eval e X.env) (EP X pins σ Q) X.xe s
def PT (X:Cx) (e:Expr) (t:TT):Prop:=
 ∀ (pins:List (Addr×Obj)) (s:Shared) (σ:St) (H:Hp) (Q:Bool→Hp→Prop),Inv X pins σ H s→t σ H Q→wpAny (model X.prog X.w) X.A (isTrue e X.env (eval e X.env)) (TP X pins σ Q) X.xe s
def PW (X:Cx) (e:Expr) (t:TT):Prop:=
 ∀ (whole:Sem Value) (pins:List (Addr×Obj)) (s:Shared) (σ:St) (H:Hp) (Q:Bool→Hp→Prop),Inv X pins σ H s→t σ H Q→wpAny (model X.prog X.w) X.A (isTrue e X.env whole) (TP X pins σ Q) X.xe s
theorem PW.pt {X:Cx} {e:Expr} {t:TT} (h:PW X e t):PT X e t:=h _
def PA (X:Cx) (es:List Expr) (t:TA):Prop:=
 ∀ (pos:Pos) (pins:List (Addr×Obj)) (s:Shared) (σ:St) (H:Hp) (Q:List V→Hp→Prop),Inv X pins σ H s→t σ H Q→wpAny (model X.prog X.w) X.A (spliced (backTo pos (starEach es X.env))) (AP X pins σ Q) X.xe s
def PS (X:Cx) (st:Stmt) (t:TS):Prop:=
 ∀ (pins:List (Addr×Obj)) (s:Shared) (σ:St) (H:Hp) (D:hG),Inv X pins σ H s→t D σ H→wpAny (model X.prog X.w) X.A (exec st X.env) (SP X pins D) X.xe s
def PSs (X:Cx) (st:List Stmt) (t:TS):Prop:=
 ∀ (pins:List (Addr×Obj)) (s:Shared) (σ:St) (H:Hp) (D:hG),Inv X pins σ H s→t D σ H→wpAny (model X.prog X.w) X.A (execs st X.env) (SP X pins D) X.xe s
theorem thn {α:Type} {t:Sem α} {Q Q':α→Shared→Prop} {M:Model} {A:Around} {E:Value→Shared→Prop} {s:Shared} (h:wpAny M A t Q E s) (hQ:∀ a s,Q a s→Q' a s):wpAny M A t Q' E s:=wpAny_mono h hQ fun _ _ x=>x
end L2
namespace L2
open PySem PySem.Spec PyProof.Rows
section
variable {X:Cx}
def Ig (i:Nat):TE:=fun σ H Q=>∃ v,σ[i]?=some (some v)∧Q v H
def tC (v:V):TE:=fun _ H Q=>Q v H
theorem Cd {i:Nat} {x:Str} {pos:Pos} (hN:X.N[i]?=some x) (hv:Vis X.env.scope x) (hd:(x==("__debug__" :Str))=false:=by decide) (hcd:(x==("__classdict__" :Str))=false:=by decide):PE X (.Name x pos) (Ig i):=by
 intro pins s σ H Q I h
 obtain ⟨v,e,h⟩:=h
 obtain ⟨m,hn,hl⟩:=I.loc
 obtain ⟨u,r,l⟩:=hl i x v hN e hv
 have fin:EP X pins σ Q u s:=⟨v,H,I,r,h⟩
 rcases l with ⟨hk,hm⟩ | ⟨hk,c,hc,hcell⟩
 · exact wpAny_Name (wpAny_loadName_local I.ok.kind hk hn hm fin) hd
 · rcases hk with hk | hk
   · exact wpAny_Name (wpAny_loadName_cell I.ok.kind hk hc hcell fin) hd
   · exact wpAny_Name (wpAny_loadName_free I.ok.kind hk hc hcell fin hcd) hd
theorem Co {i j pos}:PE X (.Constant (.int i) j pos) (tC (.int i)):=fun _ _ _ H _ I h=>wpAny_Constant_int ⟨.int i,H,I.tok _,⟨_,rfl⟩,h⟩
theorem Fv {b j pos}:PE X (.Constant (.bool b) j pos) (tC (.bl b)):=fun _ _ _ H _ I h=>Constant_bool ⟨.bl b,H,I,rfl,h⟩
theorem BC {j pos}:PE X (.Constant .none j pos) (tC .non):=fun _ _ _ H _ I h=>Constant_none ⟨.non,H,I,rfl,h⟩
theorem Cf {x j pos}:PE X (.Constant (.str x) j pos) (tC (.str x)):=fun _ _ _ H _ I h=>Calls.Constant_str ⟨.str x,H,I.tok _,⟨_,rfl⟩,h⟩
def Gl (X:Cx) (x:Str):Prop:=X.env.kindOf x=some .globalImplicit
theorem iy {E:Value→Shared→Prop} {pins:List (Addr×Obj)} {s:Shared} {σ:St} {H:Hp} {x:Str} {u:Value} {pos:Pos} {Q:Value→Shared→Prop} (I:Inv X pins σ H s) (hg:Gl X x) (hm:X.mg x=some u) (h:Q u s)
  (hd:(x==("__debug__" :Str))=false:=by decide):wpAny (model X.prog X.w) X.A (eval (.Name x pos) X.env) Q E s:=
 Calls.Name_function_global I.ok.kind hg (Calls.loadGlobal_global (by rw [I.ok.glob];exact I.mod.glob.keeps I.bk) hm h) hd
theorem iu {E:Value→Shared→Prop} {pins:List (Addr×Obj)} {s:Shared} {σ:St} {H:Hp} {x:Str} {u:Value} {pos:Pos} {Q:Value→Shared→Prop} (I:Inv X pins σ H s) (hg:Gl X x) (hm:X.mg x=none) (hv:bootBuiltins x=some u) (h:Q u s)
  (hn:x≠ "__name__" :=by decide) (hd:(x==("__debug__" :Str))=false:=by decide):wpAny (model X.prog X.w) X.A (eval (.Name x pos) X.env) Q E s:=by
 obtain ⟨mb,h1,h2⟩:=I.mod.blt
 exact Calls.Name_function_global I.ok.kind hg (Calls.loadGlobal_builtin (by rw [I.ok.glob];exact I.mod.glob.keeps I.bk) hm (by rw [I.ok.blt];exact h1.keeps I.bk) ((h2 x hn).trans hv) h) hd
theorem md {x:Str} {v:V} {u:Value} {pos:Pos} (hg:Gl X x) (hm:X.mg x=some u) (r:aJ v u) (hd:(x==("__debug__" :Str))=false:=by decide):PE X (.Name x pos) (tC v):=
 fun _ _ _ H _ I h=>iy I hg hm ⟨v,H,I,r,h⟩ hd
theorem Am {x:Str} {v:V} {u:Value} {pos:Pos} (hg:Gl X x) (hm:X.mg x=none) (hv:bootBuiltins x=some u) (r:aJ v u) (hn:x≠ "__name__" :=by decide) (hd:(x==("__debug__" :Str))=false:=by decide):PE X (.Name x pos) (tC v):=
 fun _ _ _ H _ I h=>iu I hg hm hv ⟨v,H,I,r,h⟩ hn hd
variable {a b:Expr} {ta tb:TE} {pos:Pos}
variable {tA tB':TT} {bY:List Expr}
def bT (t:TT):TT:=fun σ H Q=>t σ H fun c H1=>Q (!c) H1
theorem Au (ha:PT X a tA):PW X (.BoolOp .And [a] pos) tA:=by
 intro wh pins s σ H Q I h
 refine isTrue_and (thn (ha pins s σ H Q I h) fun c s1 e=>?_)
 cases c with
 | true=>exact isTrue_and_nil e
 | false=>exact e
theorem Cu (ha:PT X a tA):PW X (.BoolOp .Or [a] pos) tA:=by
 intro wh pins s σ H Q I h
 refine isTrue_or (thn (ha pins s σ H Q I h) fun c s1 e=>?_)
 cases c with
 | false=>exact isTrue_or_nil e
 | true=>exact e
theorem DF (ha:PT X a tA):PT X (.UnaryOp .Not a pos) (bT tA):=by
 intro pins s σ H Q I h
 exact isTrue_not (ha pins s σ H (fun c H1=>Q (!c) H1) I h)
theorem DJ {op} {t:TE} (h:PE X a t):PE X (.BoolOp op [a] pos) t:=fun pins s σ H Q I hw=>BoolOp_one (h pins s σ H Q I hw)
end
end L2
namespace L2
open PySem PySem.Spec PyProof.Rows
def SqL (K:W.Frag) (H:Hp) (a:Addr) (xs:List V):Prop:=
 Rd H a (.lst xs)∨
  ∃ (o:Obj) (its:Array Value) (n:Nat),K.lookup a=some o∧o.cls=.type "list" ∧o.dict=none∧o.data=.seq its n∧its.size≤sizeLine∧aZ xs its.toList
def SqT (K:W.Frag) (H:Hp) (a:Addr) (xs:List V):Prop:=
 Rd H a (.tup xs)∨
  ∃ (o:Obj) (its:Array Value) (n:Nat),K.lookup a=some o∧o.cls=.type "tuple" ∧o.data=.seq its n∧its.size≤sizeLine∧aZ xs its.toList
def IP:Value→Option V
 | .none=>some .non
 | .bool b=>some (.bl b)
 | .int i _=>some (.int i)
 | .str x _=>some (.str x)
 | .bytes b _=>some (.byt b)
 | .float b _=>some (.flt b)
 | .ref a=>some (.ref a)
 | .type n=>some (.ty n)
 | _=>none
theorem aJ.abs {x:V} {u:Value} (r:aJ x u):IP u=some x:=by
 cases x with
 | non=>cases r;rfl
 | bl _=>cases r;rfl
 | int _=>obtain ⟨t,rfl⟩:=r;rfl
 | str _=>obtain ⟨t,rfl⟩:=r;rfl
 | byt _=>obtain ⟨t,rfl⟩:=r;rfl
 | flt _=>obtain ⟨t,rfl⟩:=r;rfl
 | ref _=>cases r;rfl
 | ty _=>cases r;rfl
theorem aJ.inj {x y:V} {u:Value} (r:aJ x u) (q:aJ y u):x=y:=Option.some.inj (r.abs.symm.trans q.abs)
theorem aZ.inj:∀ {xs ys:List V} {us:List Value},aZ xs us→aZ ys us→xs=ys
 | _,_,_,.nil,.nil=>rfl
 | _,_,_,.cons r t,.cons r' t'=>by rw [r.inj r',aZ.inj t t']
section
variable {X:Cx} {pins:List (Addr×Obj)} {σ:St} {H:Hp} {s:Shared} {a:Addr} {xs ys:List V}
theorem SqL.of {K:W.Frag} (h:H a=some (.lst xs)):SqL K H a xs:=.inl (.inl h)
theorem SqT.of {K:W.Frag} (h:H a=some (.tup xs)):SqT K H a xs:=.inl (.inl h)
theorem Inv.list (I:Inv X pins σ H s) (h:SqL X.K H a xs):∃ its:List Value,aZ xs its∧PlainL s.heap a its.toArray∧xs.length≤sizeLine:=by
 rcases h with h | ⟨o,its,n,hk,hc,hd,hs,hz,r⟩
 · obtain ⟨z,its,n,r,e⟩:=h.ok I.hok
   exact ⟨its,r,⟨_,n,e,rfl,rfl,rfl⟩,z⟩
 · refine ⟨its.toList,r,⟨o,n,I.kIn a o hk,hc,hd,by simpa using hs⟩,?_⟩
   have e:=r.length
   simp only [Array.length_toList] at e
   omega
theorem Inv.tuple (I:Inv X pins σ H s) (h:SqT X.K H a xs):∃ its:List Value,aZ xs its∧IsTup s.heap a its.toArray∧xs.length≤sizeLine:=by
 rcases h with h | ⟨o,its,n,hk,hc,hs,hz,r⟩
 · obtain ⟨z,its,r,p⟩:=h.ok I.hok
   exact ⟨its,r,p,z⟩
 · refine ⟨its.toList,r,⟨o,I.kIn a o hk,hc,n,by simpa using hs⟩,?_⟩
   have e:=r.length
   simp only [Array.length_toList] at e
   omega
theorem Inv.list_inj (I:Inv X pins σ H s) (h:SqL X.K H a xs) (h':SqL X.K H a ys):xs=ys:=by
 obtain ⟨its,r,⟨o,n,e,_,_,d⟩,_⟩:=I.list h
 obtain ⟨its',r',⟨o',n',e',_,_,d'⟩,_⟩:=I.list h'
 rw [e] at e';cases e'
 rw [d] at d'
 injection d' with d1 _
 have:its=its':=by simpa using congrArg Array.toList d1
 subst this
 exact r.inj r'
theorem Inv.tuple_inj (I:Inv X pins σ H s) (h:SqT X.K H a xs) (h':SqT X.K H a ys):xs=ys:=by
 obtain ⟨its,r,⟨o,e,_,n,d⟩,_⟩:=I.tuple h
 obtain ⟨its',r',⟨o',e',_,n',d'⟩,_⟩:=I.tuple h'
 rw [e] at e';cases e'
 rw [d] at d'
 injection d' with d1 _
 have:its=its':=by simpa using congrArg Array.toList d1
 subst this
 exact r.inj r'
end
abbrev Cx.wish (X:Cx) (E:Value→Shared→Prop):Cx:={ X with xe:=E }
abbrev Cx.nox (X:Cx):Cx:=X.wish fun _ _=>False
theorem Cx.Ok.wish {X:Cx} (ok:X.Ok) (E:Value→Shared→Prop):(X.wish E).Ok:=
 ⟨ok.mod,ok.kind,ok.glob,ok.blt,ok.above,ok.inj,ok.has,ok.cab,ok.hd,ok.frames,ok.stk,ok.exf,ok.bs,ok.bsz,ok.noex,ok.exfs,ok.funs,ok.frf⟩
theorem Cx.Ok.unwish {X:Cx} {E:Value→Shared→Prop} (ok:(X.wish E).Ok):X.Ok:=
 ⟨ok.mod,ok.kind,ok.glob,ok.blt,ok.above,ok.inj,ok.has,ok.cab,ok.hd,ok.frames,ok.stk,ok.exf,ok.bs,ok.bsz,ok.noex,ok.exfs,ok.funs,ok.frf⟩
section
variable {X:Cx} {pins:List (Addr×Obj)} {σ:St} {H:Hp} {s:Shared} {E:Value→Shared→Prop}
theorem Inv.wish (I:Inv X pins σ H s) (E:Value→Shared→Prop):Inv (X.wish E) pins σ H s:=⟨I.ok.wish E,I.os,I.bare,I.base,I.loc,I.cell,I.free,I.freeC,I.pin,I.hok,I.len⟩
theorem Inv.unwish (I:Inv (X.wish E) pins σ H s):Inv X pins σ H s:=⟨I.ok.unwish,I.os,I.bare,I.base,I.loc,I.cell,I.free,I.freeC,I.pin,I.hok,I.len⟩
theorem SP.unwish {D:hG} {f:Flow} {s':Shared} (h:SP (X.wish E) pins D f s'):SP X pins D f s':=by
 cases f with
 | next=>obtain ⟨σ',H',I,q⟩:=h;exact ⟨σ',H',I.unwish,q⟩
 | brk=>obtain ⟨σ',H',I,q⟩:=h;exact ⟨σ',H',I.unwish,q⟩
 | cont=>obtain ⟨σ',H',I,q⟩:=h;exact ⟨σ',H',I.unwish,q⟩
 | ret u=>obtain ⟨v,σ',H',I,r,q⟩:=h;exact ⟨v,σ',H',I.unwish,r,q⟩
theorem PE.nox {e:Expr} {t:TE} (h:PE X.nox e t):PE X e t:=fun pins s σ H Q I hw=>
 wpAny_mono (h pins s σ H Q (I.wish _) hw) (fun _ _ ⟨v,H',I',r,q⟩=>⟨v,H',I'.unwish,r,q⟩) fun _ _ z=>False.elim z
theorem PSs.nox {st:List Stmt} {t:TS} (h:PSs X.nox st t):PSs X st t:=fun pins s σ H D I hw=>
 wpAny_mono (h pins s σ H D (I.wish _) hw) (fun _ _ q=>q.unwish) fun _ _ z=>False.elim z
end
section
variable {X:Cx} {st:Stmt} {bY:List Stmt} {t u:TS} {e:Expr} {te:TE} {pos:Pos}
def aK:TS:=fun D σ H=>D.nx σ H
def aq (t u:TS):TS:=fun D σ H=>t { D with nx:=u D } σ H
theorem Aa:PSs X [] aK:=fun _ _ σ H _ I h=>wpAny_execs_nil ⟨σ,H,I,h⟩
theorem vX (h1 : PS X st t) (h2 : PSs X bY u) : PSs X (st :: bY) (aq t u) := by
  intro pins s σ H D I h
  refine wpAny_execs_cons (thn (h1 pins s σ H { D with nx := u D } I h) fun f s1 q => ?_)
  cases f with
  | next =>
    obtain ⟨σ', H', I', q⟩ := q
    exact h2 pins s1 σ' H' D I' q
  | ret v => exact q
  | brk => exact q
  | cont => exact q
theorem Ad (h1:PS X st t):PSs X [st] t:=by
 intro pins s σ H D I h
 refine wpAny_execs_cons (thn (h1 pins s σ H D I h) fun f s1 q=>?_)
 cases f with
 | next=>exact wpAny_execs_nil q
 | ret v=>exact q
 | brk=>exact q
 | cont=>exact q
theorem Inv.quiet {pins:List (Addr×Obj)} {σ:St} {H:Hp} {s:Shared} (I:Inv X pins σ H s):interactive X.env=false:=by simp [interactive,I.ok.kind]
def dm (te:TE):TS:=fun D σ H=>te σ H fun _ H1=>D.nx σ H1
theorem zG (he:PE X e te) (hs:swapsWith e none pos.line X.env=pure false:=by rfl):PS X (.Expr e pos) (dm te):=by
 intro pins s σ H D I h
 exact wpAny_Expr_any (thn (he pins s σ H _ I h) fun v s1 ⟨x,H1,I1,r1,q1⟩=>⟨σ,H1,I1,q1⟩) I.quiet hs
def az (te:TE):TS:=fun D σ H=>te σ H D.rt
theorem Dm (he:PE X e te):PS X (.Return (some e) pos) (az te):=by
 intro pins s σ H D I h
 exact wpAny_Return_some (thn (he pins s σ H _ I h) fun v s1 ⟨x,H1,I1,r1,q1⟩=>⟨x,σ,H1,I1,r1,q1⟩)
def dC:TS:=fun _ _ _=>False
theorem wW:PS X st dC:=fun _ _ _ _ _ _ h=>h.elim
end
abbrev TG:=V→St→Hp→(St→Hp→Prop)→Prop
abbrev TGs:=List V→St→Hp→(St→Hp→Prop)→Prop
def PG (X:Cx) (target:Expr) (t:TG):Prop:=
 ∀ (pins:List (Addr×Obj)) (s:Shared) (σ:St) (H:Hp) (v:V) (u:Value) (Q:St→Hp→Prop),Inv X pins σ H s→aJ v u→t v σ H Q→
  wpAny (model X.prog X.w) X.A (assign target X.env u) (fun _ s'=>∃ σ' H',Inv X pins σ' H' s'∧Q σ' H') X.xe s
def PGs (X:Cx) (ts:List Expr) (t:TGs):Prop:=
 ∀ (pins:List (Addr×Obj)) (s:Shared) (σ:St) (H:Hp) (vs:List V) (us:List Value) (Q:St→Hp→Prop),Inv X pins σ H s→aZ vs us→t vs σ H Q→
  wpAny (model X.prog X.w) X.A (assignInOrder ((assignEach ts X.env).map (·.2)) us) (fun _ s'=>∃ σ' H',Inv X pins σ' H' s'∧Q σ' H') X.xe s
abbrev yc:=V→V→V→Hp→(Hp→Prop)→Prop
def sn (X:Cx) (t:yc):Prop:=
 ∀ (pins:List (Addr×Obj)) (s:Shared) (σ:St) (H:Hp) (o i v:V) (ov iv u:Value) (Q:Hp→Prop),Inv X pins σ H s→aJ o ov→aJ i iv→aJ v u→t o i v H Q→
  wpAny (model X.prog X.w) X.A (setItem ov iv u) (fun _ s'=>∃ H',Inv X pins σ H' s'∧Q H') X.xe s
section
variable {X:Cx} {pos:Pos}
def au (i:Nat):TG:=fun v σ H Q=>Q (σ.set i (some v)) H
theorem eW {i:Nat} {x:Str} (hN:X.N.Nodup) (hi:X.N[i]?=some x) (hx:Loc X.env.scope x) (hf:X.fn x=true∨X.env.scope.names.lookup x=some .local:=by first | exact .inl rfl | exact .inr rfl | assumption):PG X (.Name x pos) (au i):=by
 intro pins s σ H v u Q I r h
 exact wpAny_assign_Name (gH I hN hi hx r (fun s' I'=>⟨_,H,I',h⟩) hf)
def rq:TGs:=fun vs σ H Q=>vs=[]∧Q σ H
def ej (t:TG) (u:TGs):TGs:=fun vs σ H Q=>∃ v r,vs=v::r∧t v σ H fun σ' H'=>u r σ' H' Q
theorem qT:PGs X [] rq:=by
 intro pins s σ H vs us Q I r h
 obtain ⟨e,h⟩:=h
 subst e
 cases r
 exact assignInOrder_nil ⟨σ,H,I,h⟩
theorem eO {e : Expr} {es : List Expr} {t : TG} {u : TGs} (h1 : PG X e t) (h2 : PGs X es u)
    (hs : (assignEach (e :: es) X.env).map (·.2) = assign e X.env :: (assignEach es X.env).map (·.2) := by rfl) : PGs X (e :: es) (ej t u) := by
  intro pins s σ H vs us Q I r h
  obtain ⟨v, vr, e1, h⟩ := h
  subst e1
  cases r with
  | cons r rr =>
    rw [hs]
    refine assignInOrder_cons (thn (h1 pins s σ H _ _ _ I r h) fun _ s1 ⟨σ1, H1, I1, q1⟩ => ?_)
    exact h2 pins s1 σ1 H1 _ _ Q I1 rr q1
def rV (K:W.Frag) (n:Nat) (t:TGs):TG:=fun v σ H Q=>∃ a xs,v=.ref a∧SqT K H a xs∧xs.length=n∧t xs σ H Q
theorem uC {es:List Expr} {k:Nat} {t:TGs} {n:Nat} (hc:X.calm=true) (h:PGs X es t)
  (hn:(assignEach es X.env).length=n:=by rfl) (hst:(assignEach es X.env).findIdx? (·.1)=none:=by rfl):PG X (.Tuple es k pos) (rV X.K n t):=by
 intro pins s σ H v u Q I r hw
 obtain ⟨a,xs,e1,hq,hl,hw⟩:=hw
 subst e1
 cases r
 obtain ⟨its,rv,ht,hz⟩:=I.tuple hq
 refine assign_Tuple_tuple (I.ok.hd hc) ht (by simp [hn,←hl,rv.length]) hst fun h' hx=>?_
 have I1:Inv X pins σ H { s with heap:=h' }:=I.kept (t':=s.toks) fun b o e=>hx b o (Nat.ne_of_lt (Heap.lt_size e)) e
 exact h pins _ σ H xs _ Q I1 (by simpa using rv) hw
def pq (to ti:TE) (t:yc):TG:=fun v σ H Q=>to σ H fun o H1=>ti σ H1 fun i H2=>t o i v H2 fun H3=>Q σ H3
theorem Dd {o i : Expr} {to ti : TE} {t : yc} (ho : PE X o to) (hi : PE X i ti) (hs : sn X t)
  (ha : ∀ v, assign (.Subscript o i pos) X.env v = (do
   let ov ← holding [v] (eval o X.env)
   let iv ← holding [v, ov] (eval i X.env)
   standAt pos
   holding [v, ov, iv] (setItem ov iv v)
   release [v, ov, iv] []) := by intro _; rfl) : PG X (.Subscript o i pos) (pq to ti t) := by
 intro pins s σ H v u Q I r h
 rw [ha]
 refine wpAny_bind (wpAny_holding (thn (ho pins s σ H _ I h) fun ov s1 ⟨x, H1, I1, r1, q1⟩ => ?_))
 refine wpAny_bind (wpAny_holding (thn (hi pins s1 σ H1 _ I1 q1) fun iv s2 ⟨y, H2, I2, r2, q2⟩ => ?_))
 refine wpAny_bind (wpAny_standAt (wpAny_bind (wpAny_holding (thn (hs pins s2 σ H2 x y v ov iv u _ I2 r1 r2 r q2) fun _ s3 ⟨H3, I3, q3⟩ => ?_))))
 exact wpAny_release ⟨σ, H3, I3, q3⟩
def aF (te:TE) (g:TG):TS:=fun D σ H=>te σ H fun x H1=>g x σ H1 D.nx
theorem BF {tg e:Expr} {te:TE} {g:TG} (he:PE X e te) (hg:PG X tg g) (hs:swapsWithSole [tg] e pos.line X.env=pure false:=by rfl) (hw:swappedStores [tg] e X.env=pure none:=by rfl)
  (h1:(assignEach [tg] X.env).map (·.2)=[assign tg X.env]:=by rfl):PS X (.Assign [tg] e pos) (aF te g):=by
 intro pins s σ H D I h
 refine wpAny_Assign_stores (thn (he pins s σ H _ I h) fun v s1 ⟨x,H1,I1,r1,q1⟩=>?_) hs hw
 rw [h1]
 exact thn (hg pins s1 σ H1 x v _ I1 r1 q1) fun _ s2 q=>q
theorem DI {i:Nat} {x:Str} {e:Expr} {te:TE} {pos':Pos} (hN:X.N.Nodup) (hi:X.N[i]?=some x) (hx:Loc X.env.scope x) (he:PE X e te) (hs:swapsWith e (some (.Name x pos')) pos.line X.env=pure false:=by rfl) (hf:X.fn x=true∨X.env.scope.names.lookup x=some .local:=by first | exact .inl rfl | exact .inr rfl | assumption):
  PS X (.Assign [.Name x pos'] e pos) (aF te (au i)):=by
 intro pins s σ H D I h
 refine wpAny_Assign_Name (thn (he pins s σ H _ I h) fun v s1 ⟨y,H1,I1,r1,q1⟩=>?_) hs
 exact gH I1 hN hi hx r1 (fun s2 I2=>⟨_,H1,I2,q1⟩) hf
end
section
variable {X:Cx} {pos:Pos}
def pM (c:TT) (tb:TS):TS:=fun D σ H=>∃ W:Nat→St→Hp→Prop,(∃ m,W m σ H)∧∀ m σ H,W m σ H→
 c σ H fun b H1=>if b=true then ∃ N:St→Hp→Prop,(∀ σ' H',N σ' H'→∃ m',m'<m∧W m' σ' H')∧tb { D with nx:=N,ct:=N,bk:=D.nx } σ H1 else D.nx σ H1
theorem xw {c : Expr} {body : List Stmt} {tc : TT} {tb : TS} (hp : PassesOwn (model X.prog X.w) X.A X.env X.xe) (hc : PT X c tc) (hb : PSs X body tb) : PS X (.While c body [] pos) (pM tc tb) := by
  intro pins s σ H D I h
  obtain ⟨W, ⟨m0, w0⟩, turn⟩ := h
  refine wpAny_While (codeAny_whileLoop (fun n s' => ∃ σ' H', Inv X pins σ' H' s' ∧ W n σ' H') ?_ m0 ⟨σ, H, I, w0⟩)
  rintro n s1 ⟨σ1, H1, I1, w1⟩
  refine wpAny_passesOwn hp (thn (hc pins s1 σ1 H1 _ I1 (turn n σ1 H1 w1)) fun b s2 ⟨H2, I2, q2⟩ => ?_)
  cases b with
  | true =>
    obtain ⟨N, hN, q2⟩ := q2
    rw [if_pos rfl]
    refine wpAny_passesOwn hp (thn (hb pins s2 σ1 H2 _ I2 q2) fun f s3 q3 => ?_)
    cases f with
    | next =>
      obtain ⟨σ3, H3, I3, n3⟩ := q3
      obtain ⟨m', hm, w3⟩ := hN σ3 H3 n3
      exact ⟨m', hm, σ3, H3, I3, w3⟩
    | cont =>
      obtain ⟨σ3, H3, I3, n3⟩ := q3
      obtain ⟨m', hm, w3⟩ := hN σ3 H3 n3
      exact ⟨m', hm, σ3, H3, I3, w3⟩
    | brk => exact q3
    | ret v => exact q3
  | false =>
    rw [if_neg Bool.false_ne_true]
    exact wpAny_execs_nil ⟨σ1, H2, I2, q2⟩
end
structure It where
 go:Nat→Hp→Prop
 yld:Nat→Hp→V→Hp→Prop
 stop:Nat→Hp→Prop
def gB (X:Cx) (pins:List (Addr×Obj)) (H:Hp) (b:Addr):Prop:=
 H b=none∧b≠X.env.locals∧b∉X.fs∧(b∈X.ex∨X.s₀.heap.objs.size≤b)∧(∀ x c,X.env.cells.lookup x=some c→c≠b)∧∀ p∈X.pn++pins,p.1≠b
theorem Inv.fpOk {X:Cx} {pins:List (Addr×Obj)} {σ:St} {H H':Hp} {s:Shared} {b:Addr} (I:Inv X pins σ H s) (hb:s.heap.objs.size≤b) (hn:H' b=none):gB X pins H' b:=by
 refine ⟨hn,Nat.ne_of_gt (Nat.lt_of_lt_of_le I.lt hb),I.nofs hb,.inr (Nat.le_trans I.sz hb),fun x c e z=>?_,fun p hp z=>?_⟩
 · obtain ⟨v,q⟩:=I.cell x c e
   exact absurd (Nat.lt_of_lt_of_le q.lt (by rw [z];exact hb)) (Nat.lt_irrefl _)
 · exact absurd (Nat.lt_of_lt_of_le (Heap.lt_size (I.pin p hp).1) (by rw [z];exact hb)) (Nat.lt_irrefl _)
structure iQ (P:Program) (w:World) (K:W.Frag) (tg:Expr) (J:It) (fp:List Addr) (it:Addr) (tn:Nat→Heap→Prop):Prop where
 mem:it∈fp
 obj:∀ i h,tn i h→∀ b∈fp,∃ o,h.get? b=some o∧∀ v,o.data≠ .cell v
 keep:∀ i h h',tn i h→(∀ b∈fp,∀ o,h.get? b=some o→h'.get? b=some o)→tn i h'
 item:∀ (X:Cx),X.prog=P→X.w=w→X.K=K→X.calm=true→∀ (i:Nat) (pins:List (Addr×Obj)) (s:Shared) (σ:St) (H:Hp) (E:Value→Shared→Prop),Inv X pins σ H s→(∀ b∈fp,gB X pins H b)→tn i s.heap→J.go i H→
  wpAny (model P w) X.A (pyNext (.ref it)) (fun r s1=>∃ u,r=some u∧
   wpAny (model P w) X.A (letOwnedTupleGo tg (.ref it) u) (fun _ s2=>∃ x H',Inv X pins σ H' s2∧aJ x u∧J.yld i H x H'∧tn (i+1) s2.heap∧∀ b∈fp,H' b=none) E s1) E s
 done:∀ (X:Cx),X.prog=P→X.w=w→X.K=K→X.calm=true→∀ (i:Nat) (pins:List (Addr×Obj)) (s:Shared) (σ:St) (H:Hp) (E:Value→Shared→Prop),Inv X pins σ H s→(∀ b∈fp,gB X pins H b)→tn i s.heap→J.stop i H→
  wpAny (model P w) X.A (pyNext (.ref it)) (fun r s1=>r=none∧Inv X pins σ H s1) E s
 self:∀ (A:Around) (i:Nat) (s:Shared) (Q:Value→Shared→Prop) (E:Value→Shared→Prop),tn i s.heap→Q (.ref it) s→wpAny (model P w) A (pyIter (.ref it)) Q E s
abbrev TI:=St→Hp→(It→Hp→Prop)→Prop
def PIE (X:Cx) (pins:List (Addr×Obj)) (σ:St) (tg:Expr) (R:It→Hp→Prop) (itv:Value) (s2:Shared):Prop:=
 ∃ (it:Addr) (fp:List Addr) (tn:Nat→Heap→Prop) (J:It) (H':Hp),itv=.ref it∧Inv X pins σ H' s2∧iQ X.prog X.w X.K tg J fp it tn∧tn 0 s2.heap∧(∀ b∈fp,gB X pins H' b)∧R J H'
def PI (X:Cx) (tg iter:Expr) (wi:TI):Prop:=
 ∀ (pins:List (Addr×Obj)) (s:Shared) (σ:St) (H:Hp) (R:It→Hp→Prop),Inv X pins σ H s→wi σ H R→
  wpAny (model X.prog X.w) X.A (eval iter X.env) (fun v s1=>wpAny (model X.prog X.w) X.A (pyIter v) (PIE X pins σ tg R) X.xe s1) X.xe s
theorem lL {M : Model} {A : Around} {E : Value → Shared → Prop} {s : Shared} {tg : Expr} {it : Addr} {u : Value} {o : Obj} {n : String} {vs : Array Value} {Q : Unit → Shared → Prop} (ho : s.heap.get? it = some o) (hc : o.cls = .type n) (hd : o.data = .fields vs)
    (hn : ["enumerate", "zip", "dict_itemiterator", "dict_reverseitemiterator", "odict_iterator", "itertools.zip_longest", "itertools.pairwise"].contains n = false) (hQ : Q () s) : wpAny M A (letOwnedTupleGo tg (.ref it) u) Q E s := by
  unfold letOwnedTupleGo
  cases tg <;> first
    | exact wpAny_pure hQ
    | (cases u <;> first
        | exact wpAny_pure hQ
        | (refine wpAny_bind (wpAny_load ho ?_)
           rw [hc, hd]
           show wpAny M A (if (["enumerate", "zip", "dict_itemiterator", "dict_reverseitemiterator", "odict_iterator", "itertools.zip_longest", "itertools.pairwise"].contains n && vs[0]? == some (rawInt _)) = true then _ else _) Q E s
           rw [if_neg (by intro h; rw [hn, Bool.false_and] at h; cases h)]
           exact wpAny_pure hQ))
def Itl (K:W.Frag) (a:Addr):It:=
 ⟨fun i H=>∃ xs x,SqL K H a xs∧xs[i]?=some x,fun i H x H'=>H'=H∧∀ xs,SqL K H a xs→xs[i]?=some x,fun i H=>∃ xs,SqL K H a xs∧xs.length≤i⟩
def Itt (K:W.Frag) (a:Addr):It:=
 ⟨fun i H=>∃ xs x,SqT K H a xs∧xs[i]?=some x,fun i H x H'=>H'=H∧∀ xs,SqT K H a xs→xs[i]?=some x,fun i H=>∃ xs,SqT K H a xs∧xs.length≤i⟩
def Itr (lo:Int) (n:Nat):It:=⟨fun i _=>i<n,fun i H x H'=>H'=H∧x=.int (lo+i),fun i _=>n≤i⟩
theorem uW {P:Program} {w:World} {K:W.Frag} {tg:Expr} (a it:Addr):iQ P w K tg (Itl K a) [it] it (fun i h=>h.IsListIter it a i) where
 mem:=by simp
 obj:=fun i h st b hb=>by
  have e:b=it:=by simpa using hb
  subst e
  obtain ⟨o,e,c,d⟩:=st
  exact ⟨o,e,fun v z=>by rw [d] at z;cases z⟩
 keep:=fun i h h' st k=>st.at fun o e=>k it (by simp) o e
 item:=by
  intro X hP hw hK hc i pins s σ H E I hf st hg
  subst hP hw hK
  obtain ⟨xs,x,hq,hx⟩:=hg
  obtain ⟨its,rv,p,hz⟩:=I.list hq
  obtain ⟨u,hu,ru⟩:=rv.get hx
  obtain ⟨f0,f1,f2,f3,f4,f5⟩:=hf it (by simp)
  refine wpAny_pyNext_list_item st p.isList (x:=u) (by simpa using hu) fun h' st' sb=>?_
  have I1:Inv X pins σ H { s with heap:=h' }:=I.turned (t':=s.toks) (fun b o hb e=>(sb.2 b hb).trans e) f0 f1 f3 f4 f5
  obtain ⟨o,e,c,d⟩:=id st'
  exact ⟨u,rfl,lL (s:={ s with heap:=h' }) e c d (by decide) ⟨x,H,I1,ru,⟨rfl,fun ys hy=>by rw [I.list_inj hy hq];exact hx⟩,st',fun b hb=>(hf b hb).1⟩⟩
 done:=by
  intro X hP hw hK hc i pins s σ H E I hf st hg
  subst hP hw hK
  obtain ⟨xs,hq,hx⟩:=hg
  obtain ⟨its,rv,p,hz⟩:=I.list hq
  obtain ⟨f0,f1,f2,f3,f4,f5⟩:=hf it (by simp)
  have hl:=rv.length
  exact wpAny_pyNext_list_end (I.ok.hd hc) st p.isList (by simp;omega) fun h' eb=>⟨rfl,I.turned (t':=s.toks) (fun b o hb e=>eb b o hb e) f0 f1 f3 f4 f5⟩
 self:=fun _ _ _ _ _ st h=>wpAny_pyIter_listiter st h
theorem sM {P:Program} {w:World} {K:W.Frag} {tg:Expr} (a it:Addr):iQ P w K tg (Itt K a) [it] it (fun i h=>h.IsTupleIter it a i) where
 mem:=by simp
 obj:=fun i h st b hb=>by
  have e:b=it:=by simpa using hb
  subst e
  obtain ⟨o,e,c,d⟩:=st
  exact ⟨o,e,fun v z=>by rw [d] at z;cases z⟩
 keep:=fun i h h' st k=>st.at fun o e=>k it (by simp) o e
 item:=by
  intro X hP hw hK hc i pins s σ H E I hf st hg
  subst hP hw hK
  obtain ⟨xs,x,hq,hx⟩:=hg
  obtain ⟨its,rv,p,hz⟩:=I.tuple hq
  obtain ⟨u,hu,ru⟩:=rv.get hx
  obtain ⟨f0,f1,f2,f3,f4,f5⟩:=hf it (by simp)
  refine wpAny_pyNext_tuple_item st (show s.heap.IsTuple a its.toArray from p) (x:=u) (by simpa using hu) fun h' st' sb=>?_
  have I1:Inv X pins σ H { s with heap:=h' }:=I.turned (t':=s.toks) (fun b o hb e=>(sb.2 b hb).trans e) f0 f1 f3 f4 f5
  obtain ⟨o,e,c,d⟩:=id st'
  exact ⟨u,rfl,lL (s:={ s with heap:=h' }) e c d (by decide) ⟨x,H,I1,ru,⟨rfl,fun ys hy=>by rw [I.tuple_inj hy hq];exact hx⟩,st',fun b hb=>(hf b hb).1⟩⟩
 done:=by
  intro X hP hw hK hc i pins s σ H E I hf st hg
  subst hP hw hK
  obtain ⟨xs,hq,hx⟩:=hg
  obtain ⟨its,rv,p,hz⟩:=I.tuple hq
  obtain ⟨f0,f1,f2,f3,f4,f5⟩:=hf it (by simp)
  have hl:=rv.length
  exact wpAny_pyNext_tuple_end (I.ok.hd hc) st (show s.heap.IsTuple a its.toArray from p) (by simp;omega) fun h' eb=>⟨rfl,I.turned (t':=s.toks) (fun b o hb e=>eb b o hb e) f0 f1 f3 f4 f5⟩
 self:=fun _ _ _ _ _ st h=>wpAny_pyIter_tupleiter st h
theorem sZ {P:Program} {w:World} {K:W.Frag} {tg:Expr} (it:Addr) (lo:Int) (n:Nat):iQ P w K tg (Itr lo n) [it] it (fun i h=>IsRangeIter h it (lo+(i:Nat)*1) ((n:Int) - (i:Nat)) 1) where
 mem:=by simp
 obj:=fun i h st b hb=>by
  have e:b=it:=by simpa using hb
  subst e
  exact ⟨_,st,fun v z=>by
   have z':Data.fields _=Data.cell v:=z
   cases z'⟩
 keep:=fun i h h' st k=>k it (by simp) _ st
 item:=by
  intro X hP hw hK hc i pins s σ H E I hf st hg
  subst hP hw hK
  obtain ⟨f0,f1,f2,f3,f4,f5⟩:=hf it (by simp)
  have W:=Walks.range (prog:=X.prog) (w:=X.w) (I.ok.hd hc) it lo 1 n
  refine W.item i s _ _ hg st fun v h' tk hv st' kk=>?_
  obtain ⟨t,rfl⟩:=hv
  have I1:Inv X pins σ H { s with heap:=h',toks:=tk }:=I.turned (fun b o hb e=>kk b o (by simpa using hb) e) f0 f1 f3 f4 f5
  refine ⟨_,rfl,lL (s:={ s with heap:=h',toks:=tk }) (n:= "range_iterator") st' rfl rfl (by decide) ⟨.int (lo+i),H,I1,⟨t,?_⟩,⟨rfl,rfl⟩,st',fun b hb=>(hf b hb).1⟩⟩
  rw [Int.mul_one]
 done:=by
  intro X hP hw hK hc i pins s σ H E I hf st hg
  subst hP hw hK
  obtain ⟨f0,f1,f2,f3,f4,f5⟩:=hf it (by simp)
  exact wpAny_pyNext_range_end (I.ok.hd hc) st (by have:n≤i:=hg;omega) fun h' eb=>⟨rfl,I.turned (t':=s.toks) (fun b o hb e=>eb b o hb e) f0 f1 f3 f4 f5⟩
 self:=fun _ _ _ _ _ st h=>wpAny_pyIter_rangeiter st h
end L2
namespace L2
open PySem PySem.Spec PyProof.Rows
section
variable {X:Cx} {tg:Expr}
theorem xv {pins:List (Addr×Obj)} {σ:St} {H:Hp} {s:Shared} {R:It→Hp→Prop} {E:Value→Shared→Prop} {lo hi:Int} {t u v:Tok} {tk:Nat} (I:Inv X pins σ H s) (h1: -(2^62)≤lo) (h2:lo<2^62) (h3: -(2^62)≤hi) (h4:hi<2^62)
   (q:R (Itr lo (hi - lo).toNat) H):wpAny (model X.prog X.w) X.A (pyIter (.ref s.heap.objs.size)) (PIE X pins σ tg R) E { s with heap:=s.heap.push { cls:=.type "range",data:=.fields #[.int lo t,.int hi u,.int 1 v] },toks:=tk }:=by
 refine wpAny_pyIter_range (IsRange.new ..) (small_one h1 h2 h3 h4) ?_
 have I1:Inv X pins σ H { s with heap:=s.heap.push { cls:=.type "range",data:=.fields #[.int lo t,.int hi u,.int 1 v] },toks:=tk }:=I.kept fun b o e=>Heap.get?_push_of_some _ e
 refine ⟨(s.heap.push { cls:=.type "range",data:=.fields #[.int lo t,.int hi u,.int 1 v] }).objs.size,[(s.heap.push { cls:=.type "range",data:=.fields #[.int lo t,.int hi u,.int 1 v] }).objs.size],_,_,H,rfl,
   I1.kept (t':=tk) fun b o e=>Heap.get?_push_of_some _ e,sZ _ lo (hi - lo).toNat,?_,fun b hb=>?_,q⟩
 · have e1:lo+((0:Nat):Int)*1=lo:=by simp
   have e2:(((hi - lo).toNat:Nat):Int) - ((0:Nat):Int)=Builtin.Range.rangeSize lo hi 1:=by rw [rangeSize_one];split <;> omega
   show IsRangeIter _ _ (lo+((0:Nat):Int)*1) ((((hi - lo).toNat:Nat):Int) - ((0:Nat):Int)) 1
   rw [e1,e2]
   exact Heap.get?_push_size _ rfl
 · have e:b=(s.heap.push { cls:=.type "range",data:=.fields #[.int lo t,.int hi u,.int 1 v] }).objs.size:=by simpa using hb
   subst e
   exact I1.fpOk (Nat.le_refl _) (I1.hok.fresh (Nat.le_refl _))
def nW (ta:TA):TI:=fun σ H R=>ta σ H fun vs H1=>∃ j:Int,vs=[.int j]∧ -(2^62)≤j∧j<2^62∧R (Itr 0 j.toNat) H1
theorem ue {a : Expr} {ta : TA} {p pos : Pos} (hg : Gl X "range") (hm : X.mg "range" = none) (ha : PA X [a] ta) (hs : starEach [a] X.env = [(false, eval a X.env)] := by rfl) : PI X tg (.Call (.Name "range" p) [a] [] pos) (nW ta) := by
  intro pins s σ H R I h
  refine Call_ (iu I hg hm boot_range (PyProof.Rows.callWith_type1 (thn (ha pos pins s σ H _ I h) fun us s1 ⟨vs, H1, I1, r1, q1⟩ => ?_) hs rfl))
  obtain ⟨j, e, q1, q2, q⟩ := q1
  subst e
  cases r1 with
  | cons r rr =>
    cases rr
    obtain ⟨t, rfl⟩ := r
    exact call_range_1 (xv I1 (by omega) (by omega) q1 q2 (by simpa using q))
def eN (wi:TI) (g:TG) (tb:TS):TS:=fun D σ H=>wi σ H fun J H1=>∃ W:Nat→Nat→St→Hp→Prop,(∃ m,W 0 m σ H1)∧∀ i m σ H,W i m σ H→
 (J.stop i H∧D.nx σ H)∨(J.go i H∧∃ N:St→Hp→Prop,(∀ σ' H',N σ' H'→∃ m',m'<m∧W (i+1) m' σ' H')∧∀ x H',J.yld i H x H'→g x σ H' fun σ2 H2=>tb { D with nx:=N,ct:=N,bk:=D.nx } σ2 H2)
def ik (fp:List Addr) (h:Heap):List (Addr×Obj):=fp.filterMap fun b=>(h.get? b).map fun o=>(b,o)
theorem dW {fp:List Addr} {h:Heap} {b:Addr} {o:Obj} (hb:b∈fp) (e:h.get? b=some o):(b,o)∈ik fp h:=List.mem_filterMap.mpr ⟨b,hb,by rw [e];rfl⟩
theorem tW {fp : List Addr} {h : Heap} {p : Addr × Obj} (hp : p ∈ ik fp h) : p.1 ∈ fp ∧ h.get? p.1 = some p.2 := by
  obtain ⟨b, hb, e⟩ := List.mem_filterMap.mp hp
  cases q : h.get? b with
  | none => rw [q] at e; cases e
  | some o =>
    rw [q] at e
    have e' : (b, o) = p := Option.some.inj e
    subst e'
    exact ⟨hb, q⟩
theorem Inv.pinned {pins:List (Addr×Obj)} {σ:St} {H:Hp} {s:Shared} {fp:List Addr} (I:Inv X pins σ H s) (hf:∀ b∈fp,gB X pins H b) (ho:∀ b∈fp,∃ o,s.heap.get? b=some o∧∀ v,o.data≠ .cell v):Inv X (pins++ik fp s.heap) σ H s:=
 I.pins_of fun p hp=>(List.mem_append.mp hp).elim (fun z=>I.pin p (List.mem_append_right _ z)) fun z=>by
  obtain ⟨hb,e⟩:=tW z
  obtain ⟨f0,f1,f2,_⟩:=hf p.1 hb
  obtain ⟨o,e',d⟩:=ho p.1 hb
  rw [e] at e';cases e'
  exact ⟨e,f0,f1,f2,d⟩
theorem Inv.unpinned {pins pl:List (Addr×Obj)} {σ:St} {H:Hp} {s:Shared} (I:Inv X (pins++pl) σ H s):Inv X pins σ H s:=I.pins_of fun p hp=>I.pin p (List.mem_append_right _ (List.mem_append_left _ hp))
theorem tR {iter:Expr} {body:List Stmt} {wi:TI} {g:TG} {tb:TS} {pos:Pos} (hp:PassesOwn (model X.prog X.w) X.A X.env X.xe) (hc:X.calm=true) (hi:PI X tg iter wi) (hg:PG X tg g) (hb:PSs X body tb)
   (hs:∀ x,foldedSetIterable iter X.env x=pure x:=by intro _;rfl):PS X (.For tg iter body [] pos) (eN wi g tb):=by
 intro pins s σ H D I h
 refine wpAny_For (thn (hi pins s σ H _ I h) fun v s1 h1=>thn h1 fun itv s2 h2=>?_) hs
 obtain ⟨it,fp,tn,J,H2,e,I2,T,st2,f2,W,⟨m0,w0⟩,turn⟩:=h2
 subst e
 have stat:∀ {H':Hp},(∀ b∈fp,H' b=none)→∀ b∈fp,gB X pins H' b:=fun hn b hb=>⟨hn b hb,(f2 b hb).2⟩
 refine codeAny_forLoop_any (fun n s'=>∃ i σ' H',Inv X pins σ' H' s'∧tn i s'.heap∧(∀ b∈fp,H' b=none)∧W i n σ' H') ?_ m0 ⟨0,σ,H2,I2,st2,fun b hb=>(f2 b hb).1,w0⟩
 rintro n s3 ⟨i,σ3,H3,I3,st3,fr3,w3⟩
 rcases turn i n σ3 H3 w3 with ⟨stop,qn⟩ | ⟨go,N,hN,step⟩
 · refine wpAny_passesOwn hp (thn (T.done X rfl rfl rfl hc i pins s3 σ3 H3 X.xe I3 (stat fr3) st3 stop) fun r s4 ⟨hr,I4⟩=>?_)
   subst hr
   exact wpAny_execs_nil ⟨σ3,H3,I4,qn⟩
 · refine wpAny_passesOwn hp (thn (T.item X rfl rfl rfl hc i pins s3 σ3 H3 X.xe I3 (stat fr3) st3 go) fun r s4 ⟨u,hr,h4⟩=>?_)
   subst hr
   refine wpAny_passesOwn hp (thn h4 fun _ s5 ⟨x,H5,I5,r5,y5,st5,fr5⟩=>?_)
   have I5':=I5.pinned (stat fr5) (T.obj _ _ st5)
   refine wpAny_passesOwn hp (thn (hg _ s5 σ3 H5 x u _ I5' r5 (step x H5 y5)) fun _ s6 ⟨σ6,H6,I6,q6⟩=>?_)
   refine wpAny_passesOwn hp (thn (hb _ s6 σ6 H6 _ I6 q6) fun f s7 q7=>?_)
   have again:∀ {σ7:St} {H7:Hp},Inv X (pins++ik fp s5.heap) σ7 H7 s7→N σ7 H7→∃ m,m<n∧∃ i σ' H',Inv X pins σ' H' s7∧tn i s7.heap∧(∀ b∈fp,H' b=none)∧W i m σ' H':=fun {σ7 H7} I7 n7=>by
    obtain ⟨m',hm,w7⟩:=hN σ7 H7 n7
    refine ⟨m',hm,i+1,σ7,H7,I7.unpinned,T.keep _ _ _ st5 fun b hb o e=>(I7.pin (b,o) (List.mem_append_right _ (List.mem_append_right _ (dW hb e)))).1,fun b hb=>?_,w7⟩
    obtain ⟨o,e,d⟩:=T.obj _ _ st5 b hb
    exact (I7.pin (b,o) (List.mem_append_right _ (List.mem_append_right _ (dW hb e)))).2.1
   cases f with
   | next=>obtain ⟨σ7,H7,I7,n7⟩:=q7;exact again I7 n7
   | cont=>obtain ⟨σ7,H7,I7,n7⟩:=q7;exact again I7 n7
   | brk=>obtain ⟨σ7,H7,I7,q7⟩:=q7;exact ⟨σ7,H7,I7.unpinned,q7⟩
   | ret v=>obtain ⟨x7,σ7,H7,I7,r7,q7⟩:=q7;exact ⟨x7,σ7,H7,I7.unpinned,r7,q7⟩
end
theorem gD {K:W.Frag} {a:Addr} {xs:List V} {g:TG} {tb:TS} {D:hG} {σ:St} {H:Hp} (Pv:Nat→St→Hp→Prop) (h0:Pv 0 σ H) (hl:∀ i σ H,i≤xs.length→Pv i σ H→SqL K H a xs)
   (hs:∀ i x σ H,xs[i]?=some x→Pv i σ H→g x σ H fun σ2 H2=>tb { D with nx:=Pv (i+1),ct:=Pv (i+1),bk:=D.nx } σ2 H2) (hd:∀ σ H,Pv xs.length σ H→D.nx σ H):
   ∃ W:Nat→Nat→St→Hp→Prop,(∃ m,W 0 m σ H)∧∀ i m σ H,W i m σ H→
    ((Itl K a).stop i H∧D.nx σ H)∨((Itl K a).go i H∧∃ N:St→Hp→Prop,(∀ σ' H',N σ' H'→∃ m',m'<m∧W (i+1) m' σ' H')∧∀ x H',(Itl K a).yld i H x H'→g x σ H' fun σ2 H2=>tb { D with nx:=N,ct:=N,bk:=D.nx } σ2 H2):=by
 refine ⟨fun i m σ H=>m=xs.length - i∧i≤xs.length∧Pv i σ H,⟨xs.length,by simp,Nat.zero_le _,h0⟩,?_⟩
 rintro i m σ H ⟨rfl,hi,p⟩
 have q:=hl i σ H hi p
 by_cases hlt:i<xs.length
 · refine .inr ⟨⟨xs,xs[i],q,by simp [hlt]⟩,Pv (i+1),fun σ' H' p'=>⟨xs.length - (i+1),by omega,rfl,hlt,p'⟩,fun x H' y=>?_⟩
   obtain ⟨e,y⟩:=y
   subst e
   exact hs i x σ _ (y xs q) p
 · have e:i=xs.length:=by omega
   subst e
   exact .inl ⟨⟨xs,q,Nat.le_refl _⟩,hd σ H p⟩
theorem qL {K:W.Frag} {a:Addr} {xs:List V} {g:TG} {tb:TS} {D:hG} {σ:St} {H:Hp} (Pv:Nat→St→Hp→Prop) (h0:Pv 0 σ H) (hl:∀ i σ H,i≤xs.length→Pv i σ H→SqT K H a xs)
   (hs:∀ i x σ H,xs[i]?=some x→Pv i σ H→g x σ H fun σ2 H2=>tb { D with nx:=Pv (i+1),ct:=Pv (i+1),bk:=D.nx } σ2 H2) (hd:∀ σ H,Pv xs.length σ H→D.nx σ H):
   ∃ W:Nat→Nat→St→Hp→Prop,(∃ m,W 0 m σ H)∧∀ i m σ H,W i m σ H→
    ((Itt K a).stop i H∧D.nx σ H)∨((Itt K a).go i H∧∃ N:St→Hp→Prop,(∀ σ' H',N σ' H'→∃ m',m'<m∧W (i+1) m' σ' H')∧∀ x H',(Itt K a).yld i H x H'→g x σ H' fun σ2 H2=>tb { D with nx:=N,ct:=N,bk:=D.nx } σ2 H2):=by
 refine ⟨fun i m σ H=>m=xs.length - i∧i≤xs.length∧Pv i σ H,⟨xs.length,by simp,Nat.zero_le _,h0⟩,?_⟩
 rintro i m σ H ⟨rfl,hi,p⟩
 have q:=hl i σ H hi p
 by_cases hlt:i<xs.length
 · refine .inr ⟨⟨xs,xs[i],q,by simp [hlt]⟩,Pv (i+1),fun σ' H' p'=>⟨xs.length - (i+1),by omega,rfl,hlt,p'⟩,fun x H' y=>?_⟩
   obtain ⟨e,y⟩:=y
   subst e
   exact hs i x σ _ (y xs q) p
 · have e:i=xs.length:=by omega
   subst e
   exact .inl ⟨⟨xs,q,Nat.le_refl _⟩,hd σ H p⟩
theorem vc {lo:Int} {n:Nat} {g:TG} {tb:TS} {D:hG} {σ:St} {H:Hp} (Pv:Nat→St→Hp→Prop) (h0:Pv 0 σ H)
   (hs:∀ i σ H,i<n→Pv i σ H→g (.int (lo+i)) σ H fun σ2 H2=>tb { D with nx:=Pv (i+1),ct:=Pv (i+1),bk:=D.nx } σ2 H2) (hd:∀ σ H,Pv n σ H→D.nx σ H):
   ∃ W:Nat→Nat→St→Hp→Prop,(∃ m,W 0 m σ H)∧∀ i m σ H,W i m σ H→
    ((Itr lo n).stop i H∧D.nx σ H)∨((Itr lo n).go i H∧∃ N:St→Hp→Prop,(∀ σ' H',N σ' H'→∃ m',m'<m∧W (i+1) m' σ' H')∧∀ x H',(Itr lo n).yld i H x H'→g x σ H' fun σ2 H2=>tb { D with nx:=N,ct:=N,bk:=D.nx } σ2 H2):=by
 refine ⟨fun i m σ H=>m=n - i∧i≤n∧Pv i σ H,⟨n,by simp,Nat.zero_le _,h0⟩,?_⟩
 rintro i m σ H ⟨rfl,hi,p⟩
 by_cases hlt:i<n
 · refine .inr ⟨hlt,Pv (i+1),fun σ' H' p'=>⟨n - (i+1),by omega,rfl,hlt,p'⟩,fun x H' y=>?_⟩
   obtain ⟨e,y⟩:=y
   subst e y
   exact hs i σ _ hlt p
 · have e:i=n:=by omega
   subst e
   exact .inl ⟨Nat.le_refl _,hd σ H p⟩
end L2
namespace L2
open PySem PySem.Spec PyProof.Rows
abbrev R2:=V→V→Hp→VK→Prop
def OpR (X:Cx) (f:Value→Value→Sem Value) (r:R2):Prop:=
 ∀ (pins:List (Addr×Obj)) (s:Shared) (σ:St) (H:Hp) (x y:V) (v u:Value) (Q:VK),Inv X pins σ H s→aJ x v→aJ y u→r x y H Q→
  wpAny (model X.prog X.w) X.A (f v u) (EP X pins σ Q) X.xe s
def UnR (X:Cx) (f:Value→Sem Value) (r:V→Hp→VK→Prop):Prop:=
 ∀ (pins:List (Addr×Obj)) (s:Shared) (σ:St) (H:Hp) (x:V) (v:Value) (Q:VK),Inv X pins σ H s→aJ x v→r x H Q→
  wpAny (model X.prog X.w) X.A (f v) (EP X pins σ Q) X.xe s
def bE (X:Cx) (f:Value) (r:List V→Hp→VK→Prop):Prop:=
 ∀ (pins:List (Addr×Obj)) (s:Shared) (σ:St) (H:Hp) (xs:List V) (us:List Value) (Q:VK),Inv X pins σ H s→aZ xs us→r xs H Q→
  wpAny (model X.prog X.w) X.A (call f us) (EP X pins σ Q) X.xe s
def HV (X:Cx) (r:V→Hp→(Bool→Hp→Prop)→Prop):Prop:=
 ∀ (pins:List (Addr×Obj)) (s:Shared) (σ:St) (H:Hp) (x:V) (v:Value) (Q:Bool→Hp→Prop),Inv X pins σ H s→aJ x v→r x H Q→
  wpAny (model X.prog X.w) X.A (truthy v) (TP X pins σ Q) X.xe s
def tOp (r:R2) (ta tb:TE):TE:=fun σ H Q=>ta σ H fun x H1=>tb σ H1 fun y H2=>r x y H2 Q
def tUn (r:V→Hp→VK→Prop) (ta:TE):TE:=fun σ H Q=>ta σ H fun x H1=>r x H1 Q
def rI (C:Int→Int→Prop) (g:Int→Int→V):R2:=fun x y H Q=>∃ i j,x=.int i∧y=.int j∧C i j∧Q (g i j) H
def rI0 (g:Int→Int→V):R2:=fun x y H Q=>∃ i j,x=.int i∧y=.int j∧Q (g i j) H
def rU (g:Int→V):V→Hp→VK→Prop:=fun x H Q=>∃ i,x=.int i∧Q (g i) H
section
variable {X:Cx} {a b c:Expr} {ta tb tc:TE} {pos:Pos}
theorem vy (ha:PE X a ta) (hb:PE X b tb) {pins:List (Addr×Obj)} {s:Shared} {σ:St} {H:Hp} {R:V→V→Hp→Prop} (I:Inv X pins σ H s)
  (h:ta σ H fun x H1=>tb σ H1 fun y H2=>R x y H2) {Q:Value→Shared→Prop} {f:Value→Value→Sem Value}
  (hf:∀ v u s2 x y H2,Inv X pins σ H2 s2→aJ x v→aJ y u→R x y H2→wpAny (model X.prog X.w) X.A (f v u) Q X.xe s2):
  wpAny (model X.prog X.w) X.A (eval a X.env) (fun v s₁=>wpAny (model X.prog X.w) X.A (eval b X.env) (fun u s₂=>wpAny (model X.prog X.w) X.A (f v u) Q X.xe s₂) X.xe s₁) X.xe s:=by
 refine thn (ha pins s σ H _ I h) fun v s1 ⟨x,H1,I1,r1,q1⟩=>?_
 refine thn (hb pins s1 σ H1 _ I1 q1) fun u s2 ⟨y,H2,I2,r2,q2⟩=>?_
 exact hf v u s2 x y H2 I2 r1 r2 q2
theorem Gq {op:Operator} {r:R2} (ho:OpR X (binaryOp op) r) (ha:PE X a ta) (hb:PE X b tb):PE X (.BinOp a op b pos) (tOp r ta tb):=by
 intro pins s σ H Q I h
 exact wpAny_BinOp (vy ha hb I h fun v u s2 x y H2 I2 rx ry q=>ho pins s2 σ H2 x y v u Q I2 rx ry q)
theorem FC {op:UnaryOp} {r:V→Hp→VK→Prop} (ho:UnR X (unaryOp op) r) (ha:PE X a ta):PE X (.UnaryOp op a pos) (tUn r ta):=by
 intro pins s σ H Q I h
 exact UnaryOp_ (thn (ha pins s σ H _ I h) fun v s1 ⟨x,H1,I1,r1,q1⟩=>ho pins s1 σ H1 x v Q I1 r1 q1)
theorem opI {f:Value→Value→Sem Value} {C:Int→Int→Prop} {g:Int→Int→Int}
  (rule:∀ (i j:Int) (t u:Tok) (s:Shared) (Q:Value→Shared→Prop) (E:Value→Shared→Prop),C i j→Q (.int (g i j) s.toks) { s with toks:=s.toks+1 }→wpAny (model X.prog X.w) X.A (f (.int i t) (.int j u)) Q E s):
  OpR X f (rI C fun i j=> .int (g i j)):=by
 intro pins s σ H x y v u Q I rx ry h
 obtain ⟨i,j,rfl,rfl,hc,q⟩:=h
 obtain ⟨t,rfl⟩:=rx
 obtain ⟨t',rfl⟩:=ry
 exact rule i j t t' s _ _ hc ⟨.int (g i j),H,I.tok _,⟨_,rfl⟩,q⟩
theorem sQ {f:Value→Value→Sem Value} {g:Int→Int→Int}
  (rule:∀ (i j:Int) (t u:Tok) (s:Shared) (Q:Value→Shared→Prop) (E:Value→Shared→Prop),Q (.int (g i j) s.toks) { s with toks:=s.toks+1 }→wpAny (model X.prog X.w) X.A (f (.int i t) (.int j u)) Q E s):
  OpR X f (rI0 fun i j=> .int (g i j)):=by
 intro pins s σ H x y v u Q I rx ry h
 obtain ⟨i,j,rfl,rfl,q⟩:=h
 obtain ⟨t,rfl⟩:=rx
 obtain ⟨t',rfl⟩:=ry
 exact rule i j t t' s _ _ ⟨.int (g i j),H,I.tok _,⟨_,rfl⟩,q⟩
theorem vQ {f:Value→Value→Sem Value} {g:Int→Int→Bool}
  (rule:∀ (i j:Int) (t u:Tok) (s:Shared) (Q:Value→Shared→Prop) (E:Value→Shared→Prop),Q (.bool (g i j)) s→wpAny (model X.prog X.w) X.A (f (.int i t) (.int j u)) Q E s):
  OpR X f (rI0 fun i j=> .bl (g i j)):=by
 intro pins s σ H x y v u Q I rx ry h
 obtain ⟨i,j,rfl,rfl,q⟩:=h
 obtain ⟨t,rfl⟩:=rx
 obtain ⟨t',rfl⟩:=ry
 exact rule i j t t' s _ _ ⟨.bl (g i j),H,I,rfl,q⟩
def Cg (i j:Int):Prop:=0≤j∧j≤1000000∧i.natAbs<2^64
theorem sG (k:Nat):(0:Int)≤2^k:=by
 rw [two_pow_cast]
 exact Int.natCast_nonneg _
theorem Bu:OpR X (binaryOp .Add) (rI0 fun i j=> .int (i+j)):=sQ fun _ _ _ _ _ _ _ q=>add_int q
theorem Bw:OpR X (binaryOp .Sub) (rI0 fun i j=> .int (i - j)):=sQ fun _ _ _ _ _ _ _ q=>sub_int q
theorem AV:OpR X (binaryOp .Mod) (rI (fun _ j=>0<j) fun i j=> .int (i%j)):=opI fun i j _ _ _ _ _ hc q=>by
 have h1:(0:Int)<j:=hc
 exact mod_int' (by omega) (by rw [Int.fmod_eq_emod_of_nonneg i (by omega)];exact q)
theorem DD:OpR X (binaryOp .Pow) (rI Cg fun i j=> .int (i^j.toNat)):=opI fun _ _ _ _ _ _ _ hc q=>pow_int_small hc.1 hc.2.1 hc.2.2 q
theorem Dy:OpR X (binaryOp .LShift) (rI Cg fun i j=> .int (i*2^j.toNat)):=opI fun _ _ _ _ _ _ _ hc q=>lshift_int_small hc.1 hc.2.1 hc.2.2 q
theorem Ec:OpR X (binaryOp .RShift) (rI (fun _ j=>0≤j) fun i j=> .int (i/2^j.toNat)):=opI fun i j _ _ _ _ _ hc q=>
 rshift_int hc (by rw [Int.fdiv_eq_ediv_of_nonneg i (sG _)];exact q)
theorem Bh:OpR X (binaryOp .BitAnd) (rI0 fun i j=> .int (Builtin.bitAnd i j)):=sQ fun _ _ _ _ _ _ _ q=>and_int q
theorem BK:OpR X (binaryOp .BitXor) (rI0 fun i j=> .int (Builtin.bitXor i j)):=sQ fun _ _ _ _ _ _ _ q=>xor_int q
theorem unI {f:Value→Sem Value} {g:Int→Int}
  (rule:∀ (i:Int) (t:Tok) (s:Shared) (Q:Value→Shared→Prop) (E:Value→Shared→Prop),Q (.int (g i) s.toks) { s with toks:=s.toks+1 }→wpAny (model X.prog X.w) X.A (f (.int i t)) Q E s):
  UnR X f (rU fun i=> .int (g i)):=by
 intro pins s σ H x v Q I rx h
 obtain ⟨i,rfl,q⟩:=h
 obtain ⟨t,rfl⟩:=rx
 exact rule i t s _ _ ⟨.int (g i),H,I.tok _,⟨_,rfl⟩,q⟩
theorem DA:UnR X (unaryOp .USub) (rU fun i=> .int (-i)):=unI fun _ _ _ _ _ q=>neg_int q
end
def DV:V→V→Bool
 | .non,.non=>true | .non,.int _=>true | .int _,.non=>true | .non,.bl _=>true | .bl _,.non=>true | .non,.str _=>true | .str _,.non=>true
 | .int _,.int _=>true | .bl _,.bl _=>true | .str _,.str _=>true | .byt _,.byt _=>true
 | .int _,.str _=>true | .str _,.int _=>true | .bl _,.str _=>true | .str _,.bl _=>true
 | _,_=>false
def rEq:R2:=fun x y H Q=>DV x y=true∧Q (.bl (decide (x=y))) H
def rNe:R2:=fun x y H Q=>DV x y=true∧Q (.bl (!decide (x=y))) H
theorem qx {i j:Int}:decide (V.int i=V.int j)=(i==j):=by
 rw [Bool.eq_iff_iff]
 simp
theorem uQ {i j:Bool}:decide (V.bl i=V.bl j)=(i==j):=by
 rw [Bool.eq_iff_iff]
 simp
theorem qR {i j:Str}:decide (V.str i=V.str j)=(i==j):=by
 rw [Bool.eq_iff_iff]
 simp
theorem qW {i j:Array UInt8}:decide (V.byt i=V.byt j)=(i.toList==j.toList):=by
 rw [Bool.eq_iff_iff]
 cases i
 cases j
 simp
section
variable {X:Cx} {a b c:Expr} {ta tb tc:TE} {pos:Pos}
theorem br {pins:List (Addr×Obj)} {σ:St} {H:Hp} {s:Shared} {Q:VK} {k k':Bool} (I:Inv X pins σ H s) (q:Q (.bl k) H) (e:k=k'):EP X pins σ Q (.bool k') s:=by
 subst e
 exact ⟨.bl k,H,I,rfl,q⟩
theorem Gh : OpR X (compareOp .Eq) rEq := by
  intro pins s σ H x y v u Q I rx ry h
  obtain ⟨hs, q⟩ := h
  cases x with
  | non =>
    cases rx
    cases y with
    | non => cases ry; exact PySem.EqNone.eq_none_none (br I q (by simp))
    | bl j => cases ry; exact PySem.EqNone.eq_none_bool (br I q (by simp))
    | int j => obtain ⟨t', rfl⟩ := ry; exact PySem.EqNone.eq_none_int (br I q (by simp))
    | str j => obtain ⟨t', rfl⟩ := ry; exact PySem.EqNone.eq_none_str (br I q (by simp))
    | _ => exact absurd (show false = true from hs) Bool.false_ne_true
  | bl i =>
    cases rx
    cases y with
    | non => cases ry; exact PySem.EqNone.eq_bool_none (br I q (by simp))
    | bl j => cases ry; exact eq_bool (br I q uQ)
    | str j => obtain ⟨t', rfl⟩ := ry; exact PySem.EqMixed.eq_bool_str (br I q (by simp))
    | _ => exact absurd (show false = true from hs) Bool.false_ne_true
  | int i =>
    obtain ⟨t, rfl⟩ := rx
    cases y with
    | non => cases ry; exact PySem.EqNone.eq_int_none (br I q (by simp))
    | int j => obtain ⟨t', rfl⟩ := ry; exact eq_int (br I q qx)
    | str j => obtain ⟨t', rfl⟩ := ry; exact PySem.EqMixed.eq_int_str (br I q (by simp))
    | _ => exact absurd (show false = true from hs) Bool.false_ne_true
  | str i =>
    obtain ⟨t, rfl⟩ := rx
    cases y with
    | non => cases ry; exact PySem.EqNone.eq_str_none (br I q (by simp))
    | bl j => cases ry; exact PySem.EqMixed.eq_str_bool (br I q (by simp))
    | int j => obtain ⟨t', rfl⟩ := ry; exact PySem.EqMixed.eq_str_int (br I q (by simp))
    | str j => obtain ⟨t', rfl⟩ := ry; exact eq_str (br I q qR)
    | _ => exact absurd (show false = true from hs) Bool.false_ne_true
  | byt i =>
    obtain ⟨t, rfl⟩ := rx
    cases y with
    | byt j => obtain ⟨t', rfl⟩ := ry; exact W.eq_bytes (br I q qW)
    | _ => exact absurd (show false = true from hs) Bool.false_ne_true
  | _ => cases y <;> exact absurd (show false = true from hs) Bool.false_ne_true
theorem EV : OpR X (compareOp .NotEq) rNe := by
  intro pins s σ H x y v u Q I rx ry h
  obtain ⟨hs, q⟩ := h
  cases x with
  | non =>
    cases rx
    cases y with
    | non => cases ry; exact PySem.EqNone.ne_none_none (br I q (by simp))
    | bl j => cases ry; exact PySem.EqNone.ne_none_bool (br I q (by simp))
    | int j => obtain ⟨t', rfl⟩ := ry; exact PySem.EqNone.ne_none_int (br I q (by simp))
    | str j => obtain ⟨t', rfl⟩ := ry; exact PySem.EqNone.ne_none_str (br I q (by simp))
    | _ => exact absurd (show false = true from hs) Bool.false_ne_true
  | bl i =>
    cases rx
    cases y with
    | non => cases ry; exact PySem.EqNone.ne_bool_none (br I q (by simp))
    | bl j => cases ry; exact ne_bool (br I q (congrArg not uQ))
    | str j => obtain ⟨t', rfl⟩ := ry; exact PySem.EqMixed.ne_bool_str (br I q (by simp))
    | _ => exact absurd (show false = true from hs) Bool.false_ne_true
  | int i =>
    obtain ⟨t, rfl⟩ := rx
    cases y with
    | non => cases ry; exact PySem.EqNone.ne_int_none (br I q (by simp))
    | int j => obtain ⟨t', rfl⟩ := ry; exact ne_int (br I q (congrArg not qx))
    | str j => obtain ⟨t', rfl⟩ := ry; exact PySem.EqMixed.ne_int_str (br I q (by simp))
    | _ => exact absurd (show false = true from hs) Bool.false_ne_true
  | str i =>
    obtain ⟨t, rfl⟩ := rx
    cases y with
    | non => cases ry; exact PySem.EqNone.ne_str_none (br I q (by simp))
    | bl j => cases ry; exact PySem.EqMixed.ne_str_bool (br I q (by simp))
    | int j => obtain ⟨t', rfl⟩ := ry; exact PySem.EqMixed.ne_str_int (br I q (by simp))
    | str j => obtain ⟨t', rfl⟩ := ry; exact ne_str (br I q (congrArg not qR))
    | _ => exact absurd (show false = true from hs) Bool.false_ne_true
  | byt i =>
    obtain ⟨t, rfl⟩ := rx
    cases y with
    | byt j => obtain ⟨t', rfl⟩ := ry; exact W.ne_bytes (br I q (congrArg not qW))
    | _ => exact absurd (show false = true from hs) Bool.false_ne_true
  | _ => cases y <;> exact absurd (show false = true from hs) Bool.false_ne_true
theorem Hb:OpR X (compareOp .Lt) (rI0 fun i j=> .bl (decide (i<j))):=vQ fun _ _ _ _ _ _ _ q=>lt_int q
theorem Fh:OpR X (compareOp .LtE) (rI0 fun i j=> .bl (decide (i≤j))):=vQ fun _ _ _ _ _ _ _ q=>le_int q
theorem FA:OpR X (compareOp .Gt) (rI0 fun i j=> .bl (decide (j<i))):=vQ fun _ _ _ _ _ _ _ q=>gt_int q
theorem Ci:OpR X (compareOp .Is) (fun x y H Q=>y=.non∧Q (.bl (decide (x=.non))) H):=by
 intro pins s σ H x y v u Q I rx ry h
 obtain ⟨rfl,q⟩:=h
 cases ry
 refine is_none_gen (br I q ?_)
 cases x <;> first
  | (cases rx;rfl)
  | (obtain ⟨t,rfl⟩:=rx;rfl)
theorem OpR.or {f:Value→Value→Sem Value} {r r':R2} (h:OpR X f r) (h':OpR X f r'):OpR X f (fun x y H Q=>r x y H Q∨r' x y H Q):=by
 intro pins s σ H x y v u Q I rx ry q
 rcases q with q | q
 · exact h pins s σ H x y v u Q I rx ry q
 · exact h' pins s σ H x y v u Q I rx ry q
theorem lI (b:Expr) {op:CmpOp} (h:op≠ .In:=by decide) (h2:op≠ .NotIn:=by decide):behindInMarks op b=false:=by
 have e1:(op==CmpOp.In)=false:=by cases op <;> first | rfl | exact absurd rfl h
 have e2:(op==CmpOp.NotIn)=false:=by cases op <;> first | rfl | exact absurd rfl h2
 cases b <;> simp [behindInMarks,e1,e2]
theorem zN {op:CmpOp} {r:R2} (ho:OpR X (compareOp op) r) (ha:PE X a ta) (hb:PE X b tb) (hm:behindInMarks op b=false):PE X (.Compare a [op] [b] pos) (tOp r ta tb):=by
 intro pins s σ H Q I h
 exact wpAny_Compare1 (vy ha hb I h fun v u s2 x y H2 I2 rx ry q=>ho pins s2 σ H2 x y v u Q I2 rx ry q) hm
def BX (K:W.Frag) (x:V) (H:Hp) (k:Bool):Prop:=
 match x with
 | .non=>k=false
 | .bl b=>k=b
 | .int i=>k=(i !=0)
 | .str y=>y.length≤sizeLine∧k=((y.length:Int) !=0)
 | .byt y=>y.size≤sizeLine∧k=((y.size:Int) !=0)
 | .ref p=>(∃ xs,SqL K H p xs∧k= !xs.isEmpty)∨(∃ xs,SqT K H p xs∧k= !xs.isEmpty)∨∃ kvs,H p=some (.dK kvs)∧k= !kvs.isEmpty
 | _=>False
theorem sm {κ:Type} {kvs:List (κ×V)} {vs:List (κ×Value)} (r:KV kvs vs):(!vs.isEmpty)= !kvs.isEmpty:=by
 cases r <;> rfl
theorem lD {xs:List V} {its:List Value} (r:aZ xs its):(!its.toArray.isEmpty)= !xs.isEmpty:=by
 cases r <;> simp
theorem iw:(sizeLine:Nat)<2^63:=by rw [sizeLine_eq];decide
theorem AD : HV X (fun x H Q => ∃ k, BX X.K x H k ∧ Q k H) := by
  intro pins s σ H x v Q I rx h
  obtain ⟨k, e, q⟩ := h
  have hl := iw
  have hs : sizeLine = 16777216 := sizeLine_eq
  cases x with
  | non =>
    cases rx
    have e' : k = false := e
    subst e'
    exact truthy_none ⟨H, I, q⟩
  | bl b =>
    cases rx
    have e' : k = b := e
    subst e'
    exact wpAny_truthy_bool ⟨H, I, q⟩
  | int i =>
    obtain ⟨t, rfl⟩ := rx
    have e' : k = (i != 0) := e
    subst e'
    exact PySem.P.truthy_int ⟨H, I, q⟩
  | str y =>
    obtain ⟨t, rfl⟩ := rx
    obtain ⟨hy, e'⟩ : y.length ≤ sizeLine ∧ k = ((y.length : Int) != 0) := e
    subst e'
    exact PySem.P.truthy_str (by omega) ⟨H, I.tok _, q⟩
  | byt y =>
    obtain ⟨t, rfl⟩ := rx
    obtain ⟨hy, e'⟩ : y.size ≤ sizeLine ∧ k = ((y.size : Int) != 0) := e
    subst e'
    exact W.truthy_bytes (by omega) ⟨H, I.tok _, q⟩
  | ref p =>
    cases rx
    have e' : (∃ xs, SqL X.K H p xs ∧ k = !xs.isEmpty) ∨ (∃ xs, SqT X.K H p xs ∧ k = !xs.isEmpty) ∨ ∃ kvs, H p = some (.dK kvs) ∧ k = !kvs.isEmpty := e
    rcases e' with ⟨xs, hx, e'⟩ | ⟨xs, hx, e'⟩ | ⟨kvs, hx, e'⟩
    · subst e'
      obtain ⟨its, r, pl, hz⟩ := I.list hx
      have hlen := r.length
      exact wpAny_truthy_list pl.isList (by simp only [List.size_toArray]; omega) ⟨H, I.tok _, by rw [lD r]; exact q⟩
    · subst e'
      obtain ⟨its, r, pl, hz⟩ := I.tuple hx
      have hlen := r.length
      exact truthy_tuple pl (by simp only [List.size_toArray]; omega) ⟨H, I.tok _, by rw [lD r]; exact q⟩
    · subst e'
      obtain ⟨hz, hS, vs, r, m⟩ : kvs.length ≤ sizeLine ∧ (p == sysModules) = false ∧ ∃ vs, KV kvs vs ∧ s.heap.DictOf (bH X.prog X.w) p vs := I.hok p _ hx
      have hlen : kvs.length = vs.length := Paired.length r
      exact wpAny_truthy_dict hS m (by omega) ⟨H, I.tok _, by rw [sm r]; exact q⟩
  | _ => exact (show False from e).elim
theorem se:OpR X (binaryOp .Add) (fun x y H Q=>∃ i j,x=.str i∧y=.str j∧i.length+j.length≤sizeLine∧Q (.str (i++j)) H):=by
 intro pins s σ H x y v u Q I rx ry h
 obtain ⟨i,j,rfl,rfl,hz,q⟩:=h
 obtain ⟨t,rfl⟩:=rx
 obtain ⟨t',rfl⟩:=ry
 exact add_str (fun t' tk=>⟨.str (i++j),H,I.tok _,⟨_,rfl⟩,q⟩) hz
theorem dJ {x:V} {us:List Value} (r:aZ [x] us):∃ u,us=[u]∧aJ x u:=by
 cases r with
 | cons r1 r2=>cases r2;exact ⟨_,rfl,r1⟩
theorem sV {x y : V} {us : List Value} (r : aZ [x, y] us) : ∃ u w', us = [u, w'] ∧ aJ x u ∧ aJ y w' := by
  cases r with
  | cons r1 r2 =>
    cases r2 with
    | cons r3 r4 => cases r4; exact ⟨_, _, rfl, r1, r3⟩
theorem oK:bE X (.type "str") (fun xs H Q=>∃ i,xs=[.int i]∧i.natAbs.log2<1920∧Q (.str (toString i)) H):=by
 intro pins s σ H xs us Q I r h
 obtain ⟨i,rfl,hz,q⟩:=h
 obtain ⟨u,rfl,t,rfl⟩:=dJ r
 exact PySem.P.str_of_int hz ⟨.str _,H,I.tok _,⟨_,rfl⟩,q⟩
theorem vG:bE X (.builtin "ord") (fun xs H Q=>∃ x,xs=[.str x]∧x.length=1∧Q (.int (x.cps.getD 0 0:Nat)) H):=by
 intro pins s σ H xs us Q I r h
 obtain ⟨x,rfl,hz,q⟩:=h
 obtain ⟨u,rfl,t,rfl⟩:=dJ r
 exact ord_of_one hz ⟨.int _,H,I.tok _,⟨_,rfl⟩,q⟩
def JD (K:W.Frag) (x:V) (H:Hp) (n:Nat):Prop:=
 match x with
 | .str y=>y.length≤sizeLine∧n=y.length
 | .byt y=>y.size≤sizeLine∧n=y.size
 | .ref p=>(∃ xs,SqL K H p xs∧n=xs.length)∨∃ xs,SqT K H p xs∧n=xs.length
 | _=>False
theorem kD : bE X (.builtin "len") (fun xs H Q => ∃ x n, xs = [x] ∧ JD X.K x H n ∧ Q (.int n) H) := by
  intro pins s σ H xs us Q I r h
  obtain ⟨x, n, rfl, e, q⟩ := h
  obtain ⟨u, rfl, rx⟩ := dJ r
  have hl := iw
  have hs : sizeLine = 16777216 := sizeLine_eq
  cases x with
  | str y =>
    obtain ⟨t, rfl⟩ := rx
    obtain ⟨hy, e'⟩ : y.length ≤ sizeLine ∧ n = y.length := e
    subst e'
    exact len_str (by omega) ⟨.int _, H, I.tok _, ⟨_, rfl⟩, q⟩
  | byt y =>
    obtain ⟨t, rfl⟩ := rx
    obtain ⟨hy, e'⟩ : y.size ≤ sizeLine ∧ n = y.size := e
    subst e'
    exact W.len_bytes (by omega) ⟨.int _, H, I.tok _, ⟨_, rfl⟩, q⟩
  | ref p =>
    cases rx
    have e' : (∃ xs, SqL X.K H p xs ∧ n = xs.length) ∨ ∃ xs, SqT X.K H p xs ∧ n = xs.length := e
    rcases e' with ⟨xs, hx, e'⟩ | ⟨xs, hx, e'⟩
    · subst e'
      obtain ⟨its, r', pl, hz⟩ := I.list hx
      have hlen := r'.length
      exact Calls.call_len_list pl.isList (by simp only [List.size_toArray]; omega) ⟨.int xs.length, H, I.tok _, ⟨_, by simp only [List.size_toArray]; rw [hlen]⟩, q⟩
    · subst e'
      obtain ⟨its, r', pl, hz⟩ := I.tuple hx
      have hlen := r'.length
      exact len_tuple pl (by simp only [List.size_toArray]; omega) ⟨.int xs.length, H, I.tok _, ⟨_, by simp only [List.size_toArray]; rw [hlen]⟩, q⟩
  | _ => exact (show False from e).elim
end
end L2
namespace L2
open PySem PySem.Spec PyProof.Rows
structure kH (h:Heap) (x dx C:Addr) (mA:Str→Option Value):Prop where
 obj:h.get? x=some (W.instObj C dx)
 ns:h.Ns1 dx mA
 ne:dx≠x
theorem tB {h:Heap} {dx:Addr} {mA:Str→Option Value} (n:h.Ns1 dx mA):∃ od,h.get? dx=some od∧∀ name,W.lookIn name od=some (mA name):=by
 obtain ⟨o,es,ep,ho,hd,hk,_,hm⟩:=n
 refine ⟨o,ho,fun name=>?_⟩
 have e:=hm name
 unfold nsFind findBy at e
 rw [← Array.find?_toList] at e
 unfold W.lookIn
 rw [hd]
 dsimp only
 split
 · rename_i y q
   rw [q] at e
   exact congrArg some e
 · rename_i q
   rw [q] at e
   have a:es.toList.any (·.refKey)=false:=by
    rw [List.any_eq_false]
    intro y hy
    obtain ⟨z,t,hkey⟩:=hk y (Array.mem_toList_iff.mp hy)
    simp [DictEntry.refKey,hkey]
   have a':¬ es.toList.any (·.refKey)=true:=by rw [a];exact Bool.false_ne_true
   rw [if_neg a']
   exact congrArg some e
theorem kH.look {h:Heap} {x dx C:Addr} {mA:Str→Option Value} (I:kH h x dx C mA):∃ od,W.InstAt h x (W.instObj C dx) C (some od)∧∀ name,W.lookIn name od=some (mA name):=
 let ⟨od,ho,hl⟩:=tB I.ns
 ⟨od,⟨I.obj,rfl,rfl,ho⟩,hl⟩
section
variable {prog:Program} {w:World} {A:Around} {E:Value→Shared→Prop} {s:Shared} {K:W.Frag} {x dx C f:Addr} {mA:Str→Option Value} {name:Str} {v:Value}
theorem Ai {expr:Bool} {Q:Value→Shared→Prop} (X:K.In s.heap) (I:kH s.heap x dx C mA) (hg:W.plainGet K C name=true) (hh:W.hasDictIn K C=true)
  (ha:W.findIn K (.ref C) name=some none) (hv:mA name=some v) (hv':W.handedIn v=true) (h:Q v { s with toks:=s.toks+1 }):
  wpAny (model prog w) A (getAttr (.ref x) name expr) Q E s:=by
 obtain ⟨od,J,hl⟩:=I.look
 exact W.get_value X J (W.plainGet_of hg).1 (W.findObj_own hh ha rfl (by rw [hl,hv])) hv' h
theorem xT {pl:Sem Bool} {Q:Value×List Value→Shared→Prop} (X:K.In s.heap) (I:kH s.heap x dx C mA) (hg:W.plainGet K C name=true)
  (hf:W.findIn K (.ref C) name=some (some (.ref f))) (ht:W.isFn K (.ref f)=true) (hv:mA name=none) (h:Q (.ref f,[.ref x]) s):
  wpAny (model prog w) A (getMethod (.ref x) name pl) Q E s:=by
 obtain ⟨od,J,hl⟩:=I.look
 exact W.method_fn X J (W.plainGet_of hg).1 (W.plainGet_of hg).2 hf (beq_iff_eq.mp ht) (by show (W.lookIn name od).map (·.isSome)=some false;rw [hl,hv];rfl) h
theorem zD {ns:List Str} {Q:Unit→Shared→Prop} (X:K.In s.heap) (I:kH s.heap x dx C mA)
  (hs:W.findIn K (.ref C) "__setattr__" =some (some (.builtin "object.__setattr__"))) (hp:W.plainOver K C=true) (ht:W.takerIn K C name=some none) (hh:W.hasDictIn K C=true)
  (hw:PySem.Within mA ns) (hsz:ns.length≤sizeLine)
  (h:∀ h',kH h' x dx C (fun y=>if y=name then some v else mA y)→Heap.SameBut dx s.heap h'→Q () { s with heap:=h',toks:=s.toks+2 }):
  wpAny (model prog w) A (setAttr (.ref x) name v) Q E s:=by
 obtain ⟨od,J,hl⟩:=I.look
 refine W.set_plain X J hs (W.osa_open (s:={ s with toks:=s.toks+1 }) (r:=none) X J hp ht fun b=>?_)
 obtain ⟨cd,hc,hd'⟩:=W.any_some hh
 have hx:s.heap.get? x=some ⟨.ref C,some dx,.plain,#[]⟩:=I.obj
 refine wpAny_bind (wpAny_pure (wpAny_bind (wpAny_bind (wpAny_loadPart hx (wpAny_bind (W.Looks.here (s:={ s with toks:=s.toks+1 }) (W.looks_clsIn X hc) ?_))))))
 rw [hd']
 refine wpAny_pure (a:=some dx) (wpAny_bind (wpAny_pure (wpAny_bind ?_)))
 refine wpAny_nsSet1 (s:={ s with toks:=s.toks+1 }) I.ns fun h' hn2 hs2=>?_
 obtain ⟨oD,esD,epD,hoD,hdD,hcD⟩:=hn2.count (PySem.Within.cons name v hw)
 refine wpAny_bind (wpAny_lookBehind hoD (by rw [hdD];exact pastItsLine_dict (Nat.le_trans hcD (by rw [List.length_cons];omega))) ?_)
 exact wpAny_pure (h _ ⟨(hs2.2 _ (Ne.symm I.ne)).trans I.obj,hn2,I.ne⟩ hs2)
theorem wQ {R : Result → Shared → Prop} {vs : List Value} {kw : List (Str × Value)} (X : K.In s.heap) (hm : W.makesIn K C = true)
  (hi : W.findIn K (.ref C) "__init__" = some (some (.ref f))) (hf : W.typeIn K (.ref f) = some (.type "function"))
  (h : codeAny (model prog w) (A.under (.builtin "type.__call__" ⟨.ref C :: vs, kw⟩)) (.call (.ref f) ⟨.ref (s.heap.objs.size + 1) :: vs, kw⟩) (W.InitBack (s.heap.objs.size + 1) R)
   { s with heap := (s.heap.push W.emptyDict).push (W.instObj C s.heap.objs.size) }) :
  codeAny (model prog w) A (.call (.ref C) ⟨vs, kw⟩) R s := by
 obtain ⟨hh, g, d, t, os⟩ := s
 exact W.make_core (W.makes_of X hm) (W.looks_findIn X hi) (fun self => W.bind_fn X self hf) (.inl rfl) h
end
def cw (f:Str) (v:V):List (Str×V)→List (Str×V)
 | []=>[(f,v)]
 | (g,x)::r=>if g=f then (g,v)::r else (g,x)::cw f v r
theorem kA (f g : Str) (v : V) : ∀ fs : List (Str × V), (cw f v fs).lookup g = if g = f then some v else fs.lookup g
  | [] => by
    show List.lookup g [(f, v)] = _
    by_cases h : g = f
    · have hb : (g == f) = true := beq_iff_eq.mpr h
      simp only [List.lookup, hb, if_pos h]
    · have hb : (g == f) = false := beq_eq_false_iff_ne.mpr h
      simp only [List.lookup, hb, if_neg h]
  | (k, x) :: r => by
    have ih := kA f g v r
    rw [show cw f v ((k, x) :: r) = (if k = f then (k, v) :: r else (k, x) :: cw f v r) from rfl]
    by_cases hk : k = f
    · rw [if_pos hk]
      by_cases h : g = k
      · have hb : (g == k) = true := beq_iff_eq.mpr h
        simp only [List.lookup, hb, if_pos (h.trans hk)]
      · have hb : (g == k) = false := beq_eq_false_iff_ne.mpr h
        simp only [List.lookup, hb, if_neg (fun e : g = f => h (e.trans hk.symm))]
    · rw [if_neg hk]
      by_cases h : g = k
      · have hb : (g == k) = true := beq_iff_eq.mpr h
        simp only [List.lookup, hb, if_neg (fun e : g = f => hk (h.symm.trans e))]
      · have hb : (g == k) = false := beq_eq_false_iff_ne.mpr h
        simp only [List.lookup, hb]
        exact ih
theorem jJ (f : Str) (v : V) : ∀ fs : List (Str × V), f ∈ (cw f v fs).map (·.1) ∧ ∀ g, g ∈ fs.map (·.1) → g ∈ (cw f v fs).map (·.1)
  | [] => ⟨by simp [cw], fun g h => by simp at h⟩
  | (k, x) :: r => by
    obtain ⟨i1, i2⟩ := jJ f v r
    rw [show cw f v ((k, x) :: r) = (if k = f then (k, v) :: r else (k, x) :: cw f v r) from rfl]
    by_cases hk : k = f
    · rw [if_pos hk]
      subst hk
      exact ⟨by simp, fun g h => by simpa using h⟩
    · rw [if_neg hk]
      refine ⟨?_, fun g h => ?_⟩
      · rw [List.map_cons]
        exact List.mem_cons_of_mem _ i1
      · rw [List.map_cons] at h ⊢
        rcases List.mem_cons.mp h with e | e
        · exact List.mem_cons.mpr (.inl e)
        · exact List.mem_cons_of_mem _ (i2 g e)
theorem kB (f : Str) (v : V) : ∀ fs : List (Str × V), (cw f v fs).length ≤ fs.length + 1
  | [] => by simp [cw]
  | (k, x) :: r => by
    have ih := kB f v r
    rw [show cw f v ((k, x) :: r) = (if k = f then (k, v) :: r else (k, x) :: cw f v r) from rfl]
    by_cases hk : k = f
    · rw [if_pos hk, List.length_cons, List.length_cons]; omega
    · rw [if_neg hk, List.length_cons, List.length_cons]; omega
theorem cN.some_of {v:V} {o:Option Value} (r:cN (some v) o):∃ u,o=some u∧aJ v u:=by
 cases o with
 | none=>exact (show False from r).elim
 | some u=>exact ⟨u,rfl,r⟩
theorem cN.none_of {o:Option Value} (r:cN none o):o=none:=by
 cases o with
 | none=>rfl
 | some u=>exact (show False from r).elim
theorem tE {v:V} {u:Value} (r:aJ v u):W.handedIn u=true:=by
 cases v with
 | non=>cases (show u=Value.none from r);rfl
 | bl b=>cases (show u=Value.bool b from r);rfl
 | int i=>obtain ⟨t,e⟩:=(show ∃ t,u=Value.int i t from r);cases e;rfl
 | str x=>obtain ⟨t,e⟩:=(show ∃ t,u=Value.str x t from r);cases e;rfl
 | byt b=>obtain ⟨t,e⟩:=(show ∃ t,u=Value.bytes b t from r);cases e;rfl
 | flt b=>obtain ⟨t,e⟩:=(show ∃ t,u=Value.float b t from r);cases e;rfl
 | ref a=>cases (show u=Value.ref a from r);rfl
 | ty n=>cases (show u=Value.type n from r);rfl
section
variable {P:Program} {w:World} {H H':Hp} {h h':Heap} {a C dx:Addr} {fs fs':List (Str×V)}
theorem ix (hok:HOk P w H h) (e:H a=some (.ins C dx fs)):∃ mA,kH h a dx C mA∧(∀ f,cN (fs.lookup f) (mA f))∧PySem.Within mA (fs.map (·.1))∧fs.length≤1000∧H dx=some (.own a):=by
 obtain ⟨d,z,ne,ob,mA,n,r,q⟩:=(show bh P w H h a (.ins C dx fs) from hok a _ e)
 exact ⟨mA,⟨ob,n,ne⟩,r,q,z,d⟩
end
structure Cls (K:W.Frag) (C:Addr):Prop where
 pg:W.plainGet K C Str.empty=true
 hd:W.hasDictIn K C=true
 po:W.plainOver K C=true
 sa:W.findIn K (.ref C) "__setattr__" =some (some (.builtin "object.__setattr__"))
theorem Cls.get {K:W.Frag} {C:Addr} (c:Cls K C) (f:Str):W.plainGet K C f=true:=c.pg
def bz (K:W.Frag) (C:Addr) (f:Str):Prop:=W.findIn K (.ref C) f=some none
theorem bz.taker {K:W.Frag} {C:Addr} {f:Str} (n:bz K C f):W.takerIn K C f=some none:=by
 unfold W.takerIn
 rw [show W.findIn K (.ref C) f=some none from n]
 rfl
structure cH (K:W.Frag) (C:Addr) (m:Str) (f:Addr):Prop where
 at_:W.findIn K (.ref C) m=some (some (.ref f))
 fn:W.isFn K (.ref f)=true
 kp:W.keepIn K (.ref f)=true
section
variable {X:Cx} {pins:List (Addr×Obj)} {σ:St} {H:Hp} {s:Shared} {a C dx:Addr} {fs:List (Str×V)} {f:Str} {v:V} {A:Around} {E:Value→Shared→Prop}
theorem sx {b:Bool} {Q:Value→Shared→Prop} (I:Inv X pins σ H s) (e:H a=some (.ins C dx fs)) (c:Cls X.K C) (n:bz X.K C f) (l:fs.lookup f=some v)
  (h:∀ u s',Inv X pins σ H s'→aJ v u→Q u s'):wpAny (model X.prog X.w) A (getAttr (.ref a) f b) Q E s:=by
 obtain ⟨mA,O,r,_,_,_⟩:=ix I.hok e
 obtain ⟨u,hu,ru⟩:=cN.some_of (v:=v) (o:=mA f) (by rw [← l];exact r f)
 exact Ai I.kIn O (c.get f) c.hd n hu (tE ru) (h u _ (I.tok _) ru)
theorem iM {m:Str} {g:Addr} {pl:Sem Bool} {Q:Value×List Value→Shared→Prop} (I:Inv X pins σ H s) (e:H a=some (.ins C dx fs)) (c:Cls X.K C) (k:cH X.K C m g) (l:fs.lookup m=none)
  (h:Q (.ref g,[.ref a]) s):wpAny (model X.prog X.w) A (getMethod (.ref a) m pl) Q E s:=by
 obtain ⟨mA,O,r,_,_,_⟩:=ix I.hok e
 have hn:mA m=none:=cN.none_of (by rw [← l];exact r m)
 exact xT I.kIn O (c.get m) k.at_ k.fn hn h
theorem rX {y:V} {u:Value} {Q:Unit→Shared→Prop} (I:Inv X pins σ H s) (e:H a=some (.ins C dx fs)) (c:Cls X.K C) (n:bz X.K C f) (hl:fs.length<1000) (ry:aJ y u)
   (h:∀ s',Inv X pins σ (upd H a (.ins C dx (cw f y fs))) s'→Q () s'):wpAny (model X.prog X.w) A (setAttr (.ref a) f u) Q E s:=by
 obtain ⟨mA,O,r,wi,_,ho⟩:=ix I.hok e
 have hz:(fs.map (·.1)).length≤sizeLine:=by rw [List.length_map,sizeLine_eq];omega
 refine zD I.kIn O c.sa c.po n.taker c.hd wi hz fun h' O' sb=>h _ ?_
 have hd:∃ o,h'.get? dx=some o:=let ⟨o,_,_,e',_⟩:=O'.ns;⟨o,e'⟩
 refine I.write (x:=a) (e:=dx) (by rw [e];exact True.intro) (.inr ho) (fun b q hb z=>(sb.2 b hb).trans z) hd ?_
 refine ⟨by rw [ao O.ne];exact ho,?_,O.ne,O'.obj,_,O'.ns,fun g=>?_,fun g hg=>?_⟩
 · have:=kB f y fs;omega
 · show cN ((cw f y fs).lookup g) (if g=f then some u else mA g)
   rw [kA]
   by_cases q:g=f
   · rw [if_pos q,if_pos q];exact ry
   · rw [if_neg q,if_neg q];exact r g
 · by_cases q:g=f
   · rw [q];exact (jJ f y fs).1
   · refine (jJ f y fs).2 g (wi g fun z=>hg ?_)
     show (if g=f then some u else mA g)=none
     rw [if_neg q];exact z
theorem Inv.made (I:Inv X pins σ H s):Inv X pins σ (upd (upd H s.heap.objs.size (.own (s.heap.objs.size+1))) (s.heap.objs.size+1) (.ins C s.heap.objs.size []))
  { s with heap:=(s.heap.push W.emptyDict).push (W.instObj C s.heap.objs.size) }:=by
 have e1:(s.heap.push W.emptyDict).get? s.heap.objs.size=some W.emptyDict:=Heap.get?_push_size s.heap rfl
 have e2:((s.heap.push W.emptyDict).push (W.instObj C s.heap.objs.size)).get? (s.heap.objs.size+1)=some (W.instObj C s.heap.objs.size):=by
  have:=Heap.get?_push_size (s.heap.push W.emptyDict) (o:=W.instObj C s.heap.objs.size) rfl
  rwa [Heap.size_push] at this
 have e3:(s.heap.push W.emptyDict).Ns s.heap.objs.size (fun _=>none):=⟨W.emptyDict,#[],_,e1,rfl,(fun e he=>absurd he (by simp)),fun _=>rfl⟩
 have I1:=I.laid (a:=s.heap.objs.size) (o:=.own (s.heap.objs.size+1)) (h':=s.heap.push W.emptyDict) (t':=s.toks) (fun b u q=>Heap.get?_push_of_some _ q) (Nat.le_refl _) ⟨_,e1⟩
 refine I1.laid (a:=s.heap.objs.size+1) (o:=.ins C s.heap.objs.size []) (t':=s.toks) (fun b u q=>Heap.get?_push_of_some _ q) (Nat.le_of_eq (Heap.size_push _ _)) ?_
 have ne:s.heap.objs.size≠s.heap.objs.size+1:=Nat.ne_of_lt (Nat.lt_succ_self _)
 refine ⟨by rw [ao ne,ak],Nat.zero_le _,ne,e2,fun _=>none,(Heap.Ns1.of_empty e3).at fun o q=>Heap.get?_push_of_some _ q,fun _=>True.intro,fun y hy=>absurd rfl hy⟩
theorem zw {prog:Program} {w:World} {env:Env} {e:Expr} {f:Str} {pos:Pos} {s:Shared} {Q:Value→Shared→Prop} (hb:attributeBase e f env (eval e env)=eval e env)
  (h:wpAny (model prog w) A (eval e env) (fun o s₁=>wpAny (model prog w) A (getAttr o f true) Q E s₁) E s):wpAny (model prog w) A (eval (.Attribute e f pos) env) Q E s:=
 Attribute_any_ h (by rw [arm_eval_Attribute,hb])
end
def bd (K:W.Frag) (ta:TE) (f:Str):TE:=fun σ H Q=>ta σ H fun x H1=>∃ a C dx fs v,x=.ref a∧H1 a=some (.ins C dx fs)∧Cls K C∧bz K C f∧fs.lookup f=some v∧Q v H1
def dN (K:W.Frag) (ta tv:TE) (f:Str):TS:=fun D σ H=>tv σ H fun y H1=>ta σ H1 fun x H2=>∃ a C dx fs,x=.ref a∧H2 a=some (.ins C dx fs)∧Cls K C∧bz K C f∧fs.length<1000∧
 D.nx σ (upd H2 a (.ins C dx (cw f y fs)))
section
variable {X:Cx} {o e value:Expr} {f:Str} {pos pos' tpos:Pos} {ta tv:TE}
theorem Dr (he:PE X e ta) (hb:attributeBase e f X.env (eval e X.env)=eval e X.env):PE X (.Attribute e f pos) (bd X.K ta f):=by
 intro pins s σ H Q I h
 refine zw hb (thn (he pins s σ H _ I h) fun u s1 ⟨x,H1,I1,rx,a,C,dx,fs,v,ex,ea,c,n,l,q⟩=>?_)
 subst ex
 obtain rfl:u=Value.ref a:=rx
 exact sx I1 ea c n l fun u' s2 I2 ru=>⟨v,H1,I2,ru,q⟩
theorem CS (ha:PE X o ta) (hv:PE X value tv) (hs:swapsWith value (some (.Attribute o f pos')) pos.line X.env=pure false):PS X (.Assign [.Attribute o f pos'] value pos) (dN X.K ta tv f):=by
 intro pins s σ H D I h
 refine plainObj_wpAny_Assign_Attribute (thn (hv pins s σ H _ I h) fun u s1 ⟨y,H1,I1,ry,q⟩=>thn (ha pins s1 σ H1 _ I1 q) fun ov s2 ⟨x,H2,I2,rx,a,C,dx,fs,ex,ea,c,n,l,q2⟩=>?_) hs
 subst ex
 obtain rfl:ov=Value.ref a:=rx
 exact rX I2 ea c n l ry fun s3 I3=>⟨σ,_,I3,q2⟩
end
section
variable {X:Cx} {pins:List (Addr×Obj)} {σ:St} {H:Hp} {s:Shared} {A:Around} {E:Value→Shared→Prop} {Q:Value→Shared→Prop} {c:Value} {b:Bool}
inductive fA (K:W.Frag) (H:Hp):V→Value→Prop where
 | non:fA K H .non (.type "NoneType")
 | bl (x:Bool):fA K H (.bl x) (.type "bool")
 | int (i:Int):fA K H (.int i) (.type "int")
 | str (x:Str):fA K H (.str x) (.type "str")
 | flt (x:UInt64):fA K H (.flt x) (.type "float")
 | lst {a:Addr} {xs:List V} (e:H a=some (.lst xs)):fA K H (.ref a) (.type "list")
 | frz {a:Addr} {o:Obj} {xs:List V} (e:H a=some (.frz o (.lst xs))):fA K H (.ref a) (.type "list")
 | tup {a:Addr} {xs:List V} (e:H a=some (.tup xs)):fA K H (.ref a) (.type "tuple")
 | dK {a:Addr} {kvs:List (Key×V)} (e:H a=some (.dK kvs)):fA K H (.ref a) (.type "dict")
 | dT {a:Addr} {kvs:List (List Key×V)} (e:H a=some (.dT kvs)):fA K H (.ref a) (.type "dict")
 | ins {a C dx:Addr} {fs:List (Str×V)} (e:H a=some (.ins C dx fs)) (cl:Cls K C) (ha:W.findIn K (.ref C) "__class__" =some (some (.builtin "object.__class__")))
  (hn:W.specialIn K (.builtin "object.__class__") "__get__" =some (some (.builtin "getset_descriptor.__get__"))) (htk:W.takesIn K (.builtin "object.__class__")=some true)
  (hm:W.mroIn K C (.type "object")=some true):fA K H (.ref a) (.ref C)
theorem uq {x : V} {u t : Value} (I : Inv X pins σ H s) (rx : aJ x u) (ty : fA X.K H x t) (e : W.kitOne X.K t c = some b) (h : ∀ tk, Q (.bool b) { s with toks := tk }) :
    wpAny (model X.prog X.w) A (call (.builtin "isinstance") [u, c]) Q E s := by
  cases ty with
  | non => cases (show u = Value.none from rx); exact W.kia_one W.kitx_none I.kIn True.intro e (fun z => nomatch z) h
  | bl y => cases (show u = Value.bool y from rx); exact W.kia_one W.kitx_bool I.kIn True.intro e (fun z => nomatch z) h
  | int i => obtain ⟨t, q⟩ := (show ∃ t, u = Value.int i t from rx); cases q; exact W.kia_one W.kitx_int I.kIn True.intro e (fun z => nomatch z) h
  | str y => obtain ⟨t, q⟩ := (show ∃ t, u = Value.str y t from rx); cases q; exact W.kia_one W.kitx_str I.kIn True.intro e (fun z => nomatch z) h
  | flt y => obtain ⟨t, q⟩ := (show ∃ t, u = Value.float y t from rx); cases q; exact W.kia_one W.kitx_float I.kIn True.intro e (fun z => nomatch z) h
  | @lst a xs ea =>
    cases (show u = Value.ref a from rx)
    obtain ⟨_, _, n, _, h1⟩ := (show bh X.prog X.w H s.heap a (.lst xs) from I.hok a _ ea)
    exact W.kia_one W.kitx_list I.kIn ⟨_, h1, rfl⟩ e (fun z => nomatch z) h
  | @frz a ob xs ea =>
    cases (show u = Value.ref a from rx)
    obtain ⟨_, _, _, n, _, h1⟩ := (show bh X.prog X.w H s.heap a (.frz ob (.lst xs)) from I.hok a _ ea)
    exact W.kia_one W.kitx_list I.kIn ⟨_, h1, rfl⟩ e (fun z => nomatch z) h
  | @tup a xs ea =>
    cases (show u = Value.ref a from rx)
    obtain ⟨_, _, _, p⟩ := (show bh X.prog X.w H s.heap a (.tup xs) from I.hok a _ ea)
    obtain ⟨o, h1, h2, _⟩ := p
    exact W.kia_one W.kitx_tuple I.kIn ⟨o, h1, h2⟩ e (fun z => nomatch z) h
  | @dK a kvs ea =>
    cases (show u = Value.ref a from rx)
    obtain ⟨_, _, vs, _, p⟩ := (show bh X.prog X.w H s.heap a (.dK kvs) from I.hok a _ ea)
    obtain ⟨o, es, ep, h1, h2, _⟩ := p
    exact W.kia_one W.kitx_dict I.kIn ⟨o, h1, h2.1⟩ e (fun z => nomatch z) h
  | @dT a kvs ea =>
    cases (show u = Value.ref a from rx)
    obtain ⟨_, _, xs, _, o, es, ep, h1, h2, _⟩ := (show bh X.prog X.w H s.heap a (.dT kvs) from I.hok a _ ea)
    exact W.kia_one W.kitx_dict I.kIn ⟨o, h1, h2.1⟩ e (fun z => nomatch z) h
  | @ins a C dx fs ea cl ha hn htk hm =>
    cases (show u = Value.ref a from rx)
    obtain ⟨mA, O, _⟩ := ix I.hok ea
    obtain ⟨od, J, _⟩ := O.look
    exact W.kia_one (W.kitx_own (cl.get _) cl.hd ha hn htk hm) I.kIn J e (fun z => nomatch z) h
end
end L2
namespace L2
open PySem PySem.Spec PyProof.Rows
structure bj (k:Nat) (A:Around):Prop where
 hd:A.handled=none
 dp:A.depth+3*k+5<recursionLimit
 un:A.units+16*k+200<cLine
theorem bj.mono {j k:Nat} {A:Around} (r:bj k A) (h:j≤k):bj j A:=⟨r.hd,by have:=r.dp;omega,by have:=r.un;omega⟩
theorem bj.deeper {k:Nat} {A:Around} (r:bj (k+1) A) (env:Env):bj k (A.deeper env):=
 ⟨r.hd,by have:=r.dp;show A.depth+1+3*k+5<_;omega,by have:=r.un;show A.units+3+16*k+200<_;omega⟩
theorem rN {A:Around} {C:Addr} {us:List Value} {kw:List (Str×Value)}:(A.under (.builtin "type.__call__" ⟨.ref C::us,kw⟩)).depth=A.depth+1:=by
 first | rfl | simp [Around.under,Code.weight,Code.isCreation,Code.isGuard,Code.isCaller,Code.frames,Code.isFrame,guardIds]
theorem sq {A:Around} {C:Addr} {us:List Value} {kw:List (Str×Value)}:(A.under (.builtin "type.__call__" ⟨.ref C::us,kw⟩)).units=A.units+1:=by
 first | rfl | simp [Around.under,Code.cUnits,Code.frames,Code.isFrame]
theorem bj.make {k:Nat} {A:Around} (r:bj (k+1) A) (C:Addr) (us:List Value) (kw:List (Str×Value)):bj k (A.under (.builtin "type.__call__" ⟨.ref C::us,kw⟩)):=
 ⟨r.hd,by have:=r.dp;rw [rN];omega,by have:=r.un;rw [sq];omega⟩
theorem bj.depth {k:Nat} {A:Around} (r:bj k A):A.depth<recursionLimit:=by have:=r.dp;omega
def ag:TA:=fun _ H Q=>Q [] H
def ae (ta:TE) (tr:TA):TA:=fun σ H Q=>ta σ H fun x H1=>tr σ H1 fun xs H2=>Q (x::xs) H2
section
variable {X:Cx} {e:Expr} {es:List Expr} {te:TE} {t:TA} {pos:Pos}
theorem DQ:PA X [] ag:=fun _ _ _ _ H Q I h=>Calls.spliced_nil ⟨[],H,I,.nil,h⟩
theorem zO (ha:PE X e te) (hr:PA X es t) (hs:starEach (e::es) X.env=(false,eval e X.env)::starEach es X.env:=by rfl):PA X (e::es) (ae te t):=by
 intro pos pins s σ H Q I h
 rw [hs]
 show wpAny _ _ (spliced ((false,eval e X.env)::backTo pos (starEach es X.env))) _ _ s
 refine Calls.spliced_cons (thn (ha pins s σ H _ I h) fun u s1 ⟨x,H1,I1,r1,q1⟩=>?_)
 exact thn (hr pos pins s1 σ H1 _ I1 q1) fun us s2 ⟨xs,H2,I2,r2,q2⟩=>⟨x::xs,H2,I2,.cons r1 r2,q2⟩
def eY (t:TA):TE:=fun σ H Q=>t σ H fun xs H1=>xs.length≤sizeLine∧∀ p,H1 p=none→Q (.ref p) (upd H1 p (.tup xs))
def eZ (t:TA):TE:=fun σ H Q=>t σ H fun xs H1=>xs.length≤sizeLine∧∀ p,H1 p=none→Q (.ref p) (upd H1 p (.lst xs))
theorem Ed {x1} (h:PA X es t):PE X (.Tuple es x1 pos) (eY t):=by
 intro pins s σ H Q I hq
 refine wpAny_Tuple_spliced (thn (h pos pins s σ H _ I hq) fun us s1 ⟨xs,H1,I1,r,z,q⟩=>⟨by rw [← r.length];exact z,?_⟩)
 have hf:H1 s1.heap.objs.size=none:=I1.hok.fresh (Nat.le_refl _)
 refine ⟨.ref s1.heap.objs.size,upd H1 s1.heap.objs.size (.tup xs),I1.laid (t':=s1.toks) (fun b u e=>Heap.get?_push_of_some _ e) (Nat.le_refl _) ?_,rfl,q _ hf⟩
 exact ⟨z,us,r,⟨_,Heap.get?_push_size _ rfl,rfl,_,rfl⟩⟩
theorem Ee (h:PA X es t):PE X (.List es pos) (eZ t):=by
 intro pins s σ H Q I hq
 refine wpAny_List_spliced (thn (h pos pins s σ H _ I hq) fun us s1 ⟨xs,H1,I1,r,z,q⟩=>⟨by rw [← r.length];exact z,?_⟩)
 have hf:H1 s1.heap.objs.size=none:=I1.hok.fresh (Nat.le_refl _)
 refine ⟨.ref s1.heap.objs.size,upd H1 s1.heap.objs.size (.lst xs),I1.laid (t':=s1.toks) (fun b u e=>Heap.get?_push_of_some _ e) (Nat.le_refl _) ?_,rfl,q _ hf⟩
 exact ⟨z,us,0,r,Heap.get?_push_size _ rfl⟩
end
abbrev Sp:=List V→Hp→VK→XK→Prop
abbrev CXT:=List Env→Hp→Shared→XK→Value→Shared→Prop
structure iR (P:Program) (w:World) (K:W.Frag) (mg:Str→Option Value) (base:Heap) (A:Around) (outer:List Env) (s:Shared) (H:Hp):Prop where
 frames:A.frames=some outer
 mod:Mod K mg base
 bs:∀ b o,base.get? b=some o→s.heap.get? b=some o∧H b=none
 bsz:base.objs.size≤s.heap.objs.size
 funs:s.heap.FunFrames base outer
 frf:∀ b∈frs outer,H b=none
 hok:HOk P w H s.heap
 bare:AllBare s.gens
def CE (outer:List Env) (P:Program) (w:World) (H:Hp) (s:Shared) (Q:VK) (u:Value) (s':Shared):Prop:=
 ∃ v H',s'.os=s.os∧AllBare s'.gens∧Un (frs outer) [] H H' s.heap s'.heap∧HOk P w H' s'.heap∧aJ v u∧Q v H'
def CR (CX:CXT) (outer:List Env) (P:Program) (w:World) (H:Hp) (s:Shared) (Q:VK) (E:XK) (r:Result) (s':Shared):Prop:=
 match r with
 | .ok (.ret u)=>CE outer P w H s Q u s'
 | .ok _=>False
 | .error e=>CX outer H s E e s'
structure aE (P:Program) (w:World) (K:W.Frag) (mg:Str→Option Value) (base:Heap) (CX:CXT) (k:Nat) (f:Addr) (fd:FuncData) (ps:List Str) (sp:Sp):Prop where
 len:∀ vs H Q E,sp vs H Q E→vs.length=ps.length
 run:∀ (A:Around) (outer:List Env) (s:Shared) (H:Hp) (args:Args) (us:List Value) (vs:List V) (Q:VK) (E:XK),bj k A→iR P w K mg base A outer s H→BindsTo s fd args (ps.zip us)→aZ vs us→sp vs H Q E→
  codeAny (model P w) A (.call (.ref f) args) (CR CX outer P w H s Q E) s
theorem iR.make {P:Program} {w:World} {K:W.Frag} {mg:Str→Option Value} {base:Heap} {A:Around} {outer:List Env} {s:Shared} {H:Hp} (e:iR P w K mg base A outer s H) (C:Addr) (us:List Value) (kw:List (Str×Value)):
 iR P w K mg base (A.under (.builtin "type.__call__" ⟨.ref C::us,kw⟩)) outer s H:=⟨by first | exact e.frames | (simpa [Around.under,Code.envs,Code.isFrame,pushEnvs] using e.frames),e.mod,e.bs,e.bsz,e.funs,e.frf,e.hok,e.bare⟩
section
variable {X:Cx} {pins:List (Addr×Obj)} {σ:St} {H:Hp} {s s':Shared}
theorem Inv.env0 (I:Inv X pins σ H s):iR X.prog X.w X.K X.mg X.base X.A X.stack s H:=
 ⟨I.ok.frames,I.ok.mod,I.bs,Nat.le_trans I.ok.bsz I.sz,I.stack,I.stkFree,I.hok,I.bare⟩
theorem Inv.after {Q:VK} {u:Value} (I:Inv X pins σ H s) (h:CE X.stack X.prog X.w H s Q u s'):EP X pins σ Q u s':=by
 obtain ⟨v,H',os,bare,un,hok,r,q⟩:=h
 obtain ⟨hh,g,d,t,os'⟩:=s'
 obtain rfl:os'=s.os:=os
 exact ⟨v,H',I.call (h':=hh) (g':=g) (d':=d) (t':=t) (ch:=[]) un hok bare (fun b z=>absurd z (by simp)),r,q⟩
end
def be (K:W.Frag) (fd:FuncData) (ps:List Str) (ds:List Value):Prop:=
 ∀ (s:Shared) (us:List Value),K.In s.heap→(us++ds).length=ps.length→BindsTo s fd ⟨us,[]⟩ (ps.zip (us++ds))
theorem be.all {K:W.Frag} {fd:FuncData} {ps:List Str} (h:∀ us:List Value,us.length=ps.length→bindArgs fd ⟨us,[]⟩=pure (ps.zip us)):be K fd ps []:=fun s us _ hl=>by
 rw [List.append_nil] at hl ⊢
 exact .of_eq (h us hl)
section
variable {X:Cx} {CX:CXT} {k:Nat} {f C:Addr} {fd:FuncData} {ps:List Str} {sp:Sp} {dvs:List V} {ds:List Value} {E:XK} {x m:Str} {p pos apos:Pos} {e o:Expr} {es:List Expr} {ta:TE} {t:TA}
structure Mk (K:W.Frag) (C f:Addr):Prop where
 makes:W.makesIn K C=true
 init:W.findIn K (.ref C) "__init__" =some (some (.ref f))
 fn:W.isFn K (.ref f)=true
 kp:W.keepIn K (.ref C)=true
end
def PK (X:Cx) (kws:List Keyword) (t:TA):Prop:=
 ∀ (pos:Pos) (pins:List (Addr×Obj)) (s:Shared) (σ:St) (H:Hp) (Q:List V→Hp→Prop),Inv X pins σ H s→t σ H Q→wpAny (model X.prog X.w) X.A (evalAll ((backToKw pos (keywordEach kws X.env)).map (·.2))) (AP X pins σ Q) X.xe s
section
variable {X:Cx} {CX:CXT} {k:Nat} {f C:Addr} {fd:FuncData} {ps ks:List Str} {sp:Sp} {E:XK} {x m:Str} {p pos apos kpos:Pos} {e o:Expr} {es:List Expr} {kws:List Keyword} {te ta:TE} {t tk:TA} {nm:Option Str}
variable {g:List Value→List Value→List Value} {gV:List V→List V→List V}
end
structure av (N P:List Str) (sc:Scope):Prop where
 kind:sc.kind=.function
 co:sc.isCoroutine=false
 gen:sc.isGenerator=false
 nd:N.Nodup
 pre:N.take P.length=P
 par:∀ x∈P,sc.names.lookup x=some .local∨sc.names.lookup x=some .cell
 nofree:∀ y∈sc.names,y.2≠ .free
theorem ny {kindOf : Str → Option NameKind} {x : Str} : ∀ {binds : List (Str × Value)} {m : Str → Option Value}, (∀ v, (x, v) ∉ binds) → bindL kindOf binds m x = m x
  | [], _, _ => rfl
  | (n, v) :: r, m, h => by
    unfold bindL
    rw [ny fun w hw => h w (List.mem_cons_of_mem _ hw)]
    split
    · have : x ≠ n := by rintro rfl; exact h v List.mem_cons_self
      simp [this]
    · rfl
theorem nA {kindOf : Str → Option NameKind} {x : Str} : ∀ {binds : List (Str × Value)} {m : Str → Option Value}, (∀ v, (x, v) ∉ binds) → bindC kindOf binds m x = m x
  | [], _, _ => rfl
  | (n, v) :: r, m, h => by
    unfold bindC
    rw [nA fun w hw => h w (List.mem_cons_of_mem _ hw)]
    split
    · rfl
    · have : x ≠ n := by rintro rfl; exact h v List.mem_cons_self
      simp [this]
theorem nD {kindOf : Str → Option NameKind} {x : Str} {v : Value} : ∀ {P : List Str} {vs : List Value} {i : Nat} {m : Str → Option Value}, P.Nodup → P[i]? = some x → vs[i]? = some v → kindOf x = some .local →
    bindL kindOf (P.zip vs) m x = some v
  | [], _, _, _, _, h, _, _ => by simp at h
  | _ :: _, [], _, _, _, _, h, _ => by simp at h
  | p :: P, w :: vs, 0, m, nd, h1, h2, hk => by
    simp at h1 h2; subst h1; subst h2
    show bindL kindOf ((p, w) :: P.zip vs) m p = _
    unfold bindL
    rw [ny fun v hv => (List.nodup_cons.mp nd).1 (List.of_mem_zip hv).1, if_pos hk]
    simp
  | p :: P, w :: vs, i + 1, m, nd, h1, h2, hk => by
    show bindL kindOf ((p, w) :: P.zip vs) m x = _
    unfold bindL
    exact nD (i := i) (List.nodup_cons.mp nd).2 (by simpa using h1) (by simpa using h2) hk
theorem mY {kindOf : Str → Option NameKind} {x : Str} {v : Value} : ∀ {P : List Str} {vs : List Value} {i : Nat} {m : Str → Option Value}, P.Nodup → P[i]? = some x → vs[i]? = some v → kindOf x ≠ some .local →
    bindC kindOf (P.zip vs) m x = some v
  | [], _, _, _, _, h, _, _ => by simp at h
  | _ :: _, [], _, _, _, _, h, _ => by simp at h
  | p :: P, w :: vs, 0, m, nd, h1, h2, hk => by
    simp at h1 h2; subst h1; subst h2
    show bindC kindOf ((p, w) :: P.zip vs) m p = _
    unfold bindC
    rw [nA fun v hv => (List.nodup_cons.mp nd).1 (List.of_mem_zip hv).1, if_neg hk]
    simp
  | p :: P, w :: vs, i + 1, m, nd, h1, h2, hk => by
    show bindC kindOf ((p, w) :: P.zip vs) m x = _
    unfold bindC
    exact mY (i := i) (List.nodup_cons.mp nd).2 (by simpa using h1) (by simpa using h2) hk
def cp (N:List Str) (vs:List V):St:=vs.map some++List.replicate (N.length - vs.length) none
def eM (CX:CXT) (P:Program) (w:World) (K:W.Frag) (mg:Str→Option Value) (base:Heap) (N:List Str) (qual:Str) (scope:Scope) (f:Addr) (cd:Value) (A:Around) (outer:List Env) (s:Shared) (H:Hp) (E:XK):Cx where
 prog:=P
 w:=w
 K:=K
 mg:=mg
 base:=base
 A:=A.deeper (envOfC qual scope s.heap.objs.size f cd)
 N:=N
 s₀:=s
 H₀:=H
 env:=envOfC qual scope s.heap.objs.size f cd
 outer:=outer
 stack:=envOfC qual scope s.heap.objs.size f cd::outer
 ex:=[]
 calm:=true
 fn:=fun _=>true
 pn:=[]
 xe:=fun e s'=>wpAny (model P w) (A.deeper (envOfC qual scope s.heap.objs.size f cd)) (leaving (envOfC qual scope s.heap.objs.size f cd) e) (fun _ s''=>CX outer H s E e s'') (fun e' s''=>CX outer H s E e' s'') s'
theorem oQ {sc:Scope} {n:Nat} {x:Str} (h:sc.names.lookup x=some .cell):∃ c,(cellsFrom n sc.names []).lookup x=some c:=by
 have q:=W.cellsFrom_some sc.names n [] (.inl h)
 exact Option.isSome_iff_exists.mp q
theorem mZ {CX:CXT} {P:Program} {w:World} {K:W.Frag} {mg:Str→Option Value} {base:Heap} {N ps:List Str} {qual:Str} {scope:Scope} {f:Addr} {cd:Value} {A:Around} {outer:List Env} {s s1:Shared} {H:Hp} {E:XK} {us:List Value} {vs:List V}
   (S:av N ps scope) (hd:A.handled=none) (e0:iR P w K mg base A outer s H) (hl:vs.length=ps.length) (r:aZ vs us)
   (x:InCallC s s.heap.objs.size (bindL (envOfC qual scope s.heap.objs.size f cd).kindOf (ps.zip us) fun _=>none) (cellsFrom (s.heap.objs.size+1) scope.names []) (bindC (envOfC qual scope s.heap.objs.size f cd).kindOf (ps.zip us) fun _=>none) s1):
   Inv (eM CX P w K mg base N qual scope f cd A outer s H E) [] (cp N vs) H s1:=by
 have hpl:ps.length≤N.length:=by have:=congrArg List.length S.pre;rw [List.length_take] at this;omega
 obtain ⟨h1,tk,rfl,hk⟩:=x.done
 have noA:∀ b:Addr,b∉(eM CX P w K mg base N qual scope f cd A outer s H E).ex:=fun b z=>absurd (show b∈([]:List Addr) from z) (by simp)
 refine ⟨⟨e0.mod,S.kind,rfl,rfl,Nat.le_refl _,fun y z c h1 h2=>?_,fun y hy=>?_,fun y c _ h=>?_,fun _=>hd,Around.frames_deeper e0.frames,.inr ⟨rfl,rfl⟩,fun b z=>absurd z (noA b),e0.bs,e0.bsz,fun b _ _=>noA b,fun b z=>absurd z (noA b),e0.funs,e0.frf⟩,
   rfl,e0.bare,Un.kept hk,⟨_,x.toInCall.ns,fun i y v h1 h2 h3=>?_⟩,fun y c h=>⟨_,x.cell y c h⟩,e0.hok.fresh (Nat.le_refl _),fun y c h=>?_,fun p hp=>absurd (show p∈([]:List (Addr×Obj)) from hp) (by simp),e0.hok.kept hk,?_⟩
 · exact name_of_addr x.apart (PySem.mem_of_lookup h1) (PySem.mem_of_lookup h2)
 · have hy:scope.names.lookup y=some .cell∨scope.names.lookup y=some .free:=hy
   rcases hy with hy | hy
   · exact oQ hy
   · exact absurd rfl (S.nofree _ (PySem.mem_of_lookup hy))
 · exact Nat.le_of_lt (x.above y c (PySem.mem_of_lookup h))
 · have hi:i<vs.length:=by
     unfold cp at h2
     by_cases hi:i<vs.length
     · exact hi
     · rw [List.getElem?_append_right (by simpa using hi)] at h2
       rw [List.getElem?_replicate] at h2
       split at h2 <;> cases h2
   have ha:vs[i]?=some v:=by
     unfold cp at h2
     rw [List.getElem?_append_left (by simpa using hi),List.getElem?_map] at h2
     cases e:vs[i]? with
     | none=>rw [e] at h2;cases h2
     | some a=>rw [e] at h2;cases h2;rfl
   obtain ⟨u,hu,rv⟩:=r.get ha
   have hp:ps[i]?=some y:=by
     rw [← S.pre,List.getElem?_take_of_lt (by omega)];exact h1
   have ndP:ps.Nodup:=by rw [← S.pre];exact S.nd.sublist (List.take_sublist _ _)
   refine ⟨u,rv,?_⟩
   rcases S.par y (List.mem_of_getElem? hp) with k | k
   · exact .inl ⟨k,nD ndP hp hu k⟩
   · obtain ⟨c,e⟩:=oQ (n:=s.heap.objs.size+1) k
     refine .inr ⟨.inl k,c,e,?_⟩
     have q:=x.cell y c e
     rw [mY ndP hp hu (by show scope.names.lookup y≠_;rw [k];decide)] at q
     exact q
 · exact e0.hok.fresh (Nat.le_of_lt (x.above y c (PySem.mem_of_lookup h)))
 · unfold cp
   show _=N.length
   rw [List.length_append,List.length_map,List.length_replicate]
   omega
theorem EL {CX : CXT} {P : Program} {w : World} {K : W.Frag} {mg : Str → Option Value} {base : Heap} {k : Nat} {f : Addr} {name qual : Str} {params : Arguments} {body : List Stmt} {scope : Scope} {dV kV doc pm cdv ct oc : Value} {an od : Option Addr}
    {osl : Array (Option Value)} {N ps : List Str} {sp : Sp} (lk : K.lookup f = some ⟨oc, od, .func (W.fnOf name qual params body scope dV kV doc pm an cdv ct), osl⟩) (hcd : W.codeIn K cdv qual = true) (S : av N ps scope)
    (len : ∀ vs H Q E, sp vs H Q E → vs.length = ps.length)
    (hbody : ∀ (A : Around) (outer : List Env) (s : Shared) (H : Hp) (vs : List V) (Q : VK) (E : XK), bj k (A.deeper (envOfC qual scope s.heap.objs.size f cdv)) → sp vs H Q E →
      ∃ t, PSs (eM CX P w K mg base N qual scope f cdv A outer s H E) body t ∧ t { nx := fun _ H' => Q .non H', rt := Q } (cp N vs) H) :
    aE P w K mg base CX (k + 1) f (W.fnOf name qual params body scope dV kV doc pm an cdv ct) ps sp := by
  refine ⟨len, fun A outer s H args us vs Q E hr e0 hb r hsp => ?_⟩
  have hl := len _ _ _ _ hsp
  have KX : K.In s.heap := e0.mod.kin.keeps fun b o e => (e0.bs b o e).1
  have lim : s.heap.NoLimit := e0.mod.nolimit.keeps fun b o e => (e0.bs b o e).1
  have hkind : ∀ y ∈ ps.zip us, scope.names.lookup y.1 = some .local ∨ (scope.names.lookup y.1 = some .cell ∧ ((cellsFrom (s.heap.objs.size + 1) scope.names []).lookup y.1).isSome = true) := fun ⟨n, v⟩ hy => by
    rcases S.par n (List.of_mem_zip hy).1 with q | q
    · exact .inl q
    · exact .inr ⟨q, W.cellsFrom_some _ _ _ (.inl q)⟩
  refine codeAny_call_function hr.depth (KX _ _ lk) rfl S.co S.gen rfl (W.codeRec_of KX hcd) (hb _ _ _ _ ?_)
  refine wpAny_newFunctionEnv_cells S.kind hkind fun env he s1 x => ?_
  subst he
  refine ⟨lim.keeps x.toInCall.keep, codeAny_func ?_⟩
  obtain ⟨t, ht, hq⟩ := hbody A outer s H vs Q E (hr.deeper _) hsp
  have I : Inv (eM CX P w K mg base N qual scope f cdv A outer s H E) [] (cp N vs) H s1 := mZ S hr.hd e0 hl r x
  refine wpAny_mono (ht [] s1 (cp N vs) H _ I hq) (fun fl s' hs => ?_) fun e s' hs => hs
  have fin : ∀ {σ' : St} {H' : Hp} {v : V} {u : Value}, Inv (eM CX P w K mg base N qual scope f cdv A outer s H E) [] σ' H' s' → aJ v u → Q v H' → CE outer P w H s Q u s' :=
    fun {σ' H' v u} J rv q => ⟨v, H', J.os, J.bare, J.base, J.hok, rv, q⟩
  cases fl with
  | ret u =>
    obtain ⟨v, σ', H', J, rv, q⟩ := hs
    exact fin J rv q
  | next =>
    obtain ⟨σ', H', J, q⟩ := hs
    exact fin (v := V.non) (u := Value.none) J rfl q
  | brk =>
    obtain ⟨_, _, _, q⟩ := hs
    exact False.elim q
  | cont =>
    obtain ⟨_, _, _, q⟩ := hs
    exact False.elim q
end L2
namespace L2
open PySem PySem.Spec PyProof.Rows
section
variable {X:Cx} {x:Str} {p pos:Pos} {e:Expr} {es:List Expr} {t:TA} {id T:String} {r:List V→Hp→VK→Prop}
def tCB (r:List V→Hp→VK→Prop) (t:TA):TE:=fun σ H Q=>t σ H fun vs H1=>r vs H1 Q
theorem xE (hc:bE X (.builtin id) r) (hg:Gl X x) (hm:X.mg x=none) (hv:bootBuiltins x=some (.builtin id)) (ha:PA X (e::es) t) (hn:x≠ "__name__" :=by decide) (hdb:(x==("__debug__" :Str))=false:=by decide)
  (he:starEach (e::es) X.env=(false,eval e X.env)::starEach es X.env:=by rfl) (hpl:(backTo pos (starEach es X.env)).any (·.1)=false:=by rfl):PE X (.Call (.Name x p) (e::es) [] pos) (tCB r t):=by
 intro pins s σ H Q I h
 refine wpAny_Call_Name_kw (iu I hg hm hv ?_ hn hdb)
 exact PyProof.Rows.callWith_builtin1 (thn (ha pos pins s σ H _ I h) fun us s1 ⟨vs,H1,I1,r1,q1⟩=>hc pins s1 σ H1 vs us Q I1 r1 q1) he hpl
theorem ug (hc:bE X (.type T) r) (hg:Gl X x) (hm:X.mg x=none) (hv:bootBuiltins x=some (.type T)) (ha:PA X (e::es) t) (hn:x≠ "__name__" :=by decide) (hdb:(x==("__debug__" :Str))=false:=by decide)
  (he:starEach (e::es) X.env=(false,eval e X.env)::starEach es X.env:=by rfl) (hpl:(backTo pos (starEach es X.env)).any (·.1)=false:=by rfl):PE X (.Call (.Name x p) (e::es) [] pos) (tCB r t):=by
 intro pins s σ H Q I h
 refine wpAny_Call_Name_kw (iu I hg hm hv ?_ hn hdb)
 exact PyProof.Rows.callWith_type1 (thn (ha pos pins s σ H _ I h) fun us s1 ⟨vs,H1,I1,r1,q1⟩=>hc pins s1 σ H1 vs us Q I1 r1 q1) he hpl
end
end L2
namespace HT
open PySem PyProof.Rows
section
open PySem.SeqAt
open PySem.AutoSeq1 (wpAny_loadPart')
open PySem.MeetsSeq PySem.MeetsSeq2 PySem.MeetsSeq3
end
section
variable {prog:Program} {w:World} {A:Around} {E:Value→Shared→Prop} {s:Shared}
theorem zP {t b:Addr} {vs ws:List Value} {Q:Value→Shared→Prop} (ht:IsTup s.heap t vs.toArray) (hb:IsTup s.heap b ws.toArray) (hv:vs≠[])
   (h1:ws=[]→Q (.ref t) s) (h2:ws≠[]→Q (.ref s.heap.objs.size) { s with heap:=s.heap.push { cls:=.type "tuple",data:=.seq (vs++ws).toArray } })
   (hsz:vs.length+ws.length≤sizeLine):wpAny (model prog w) A (binaryOp .Add (.ref t) (.ref b)) Q E s:=by
 obtain ⟨⟨cls,dd,data,sl⟩,ho,hc,n,hd⟩:=id ht
 obtain ⟨⟨cls2,dd2,data2,sl2⟩,ho2,hc2,n2,hd2⟩:=id hb
 simp only at hc hd hc2 hd2
 subst hc hd hc2 hd2
 have e:vs.toArray++ws.toArray=(vs++ws).toArray:=by simp
 by_cases hw:ws=[]
 · exact concat_meets ⟨_,ho,rfl⟩ ⟨_,ho2,rfl⟩ noFill_tuple_add seq_tuple_add PySem.F.slot_tuple_add PySem.F.entry_tuple_add (PySem.F.args_tuple_add_2 _ _)
    (tuple_addW1 t b vs.toArray ws.toArray n n2 dd dd2 sl sl2 (by simpa using hv) (by simp [hw])) ⟨ho,ho2,h1 hw⟩
 · refine concat_meets ⟨_,ho,rfl⟩ ⟨_,ho2,rfl⟩ noFill_tuple_add seq_tuple_add PySem.F.slot_tuple_add PySem.F.entry_tuple_add (PySem.F.args_tuple_add_2 _ _)
    (tuple_addW2 t b vs.toArray ws.toArray n n2 dd dd2 sl sl2 (by simpa using hv) (by simpa using hw) (by rw [List.size_toArray,List.size_toArray];exact hsz)) ⟨ho,ho2,?_⟩
   rw [e]
   exact h2 hw
def sIx (n d:Nat):Option Int→Nat
 | none=>d
 | some v=>if v<0 then (v+(n:Int)).toNat else min v.toNat n
theorem jM (n d k:Nat):sIx n d (some (k:Int))=min k n:=by
 show (if (k:Int)<0 then ((k:Int)+(n:Int)).toNat else min (k:Int).toNat n)=min k n
 rw [if_neg (by omega),Int.toNat_natCast]
end
end HT
namespace L2
open PySem PySem.Spec PyProof.Rows
abbrev TO:=St→Hp→(Option Int→Hp→Prop)→Prop
def PO (X:Cx) (e:Option Expr) (t:TO):Prop:=
 ∀ (pins:List (Addr×Obj)) (s:Shared) (σ:St) (H:Hp) (Q:Option Int→Hp→Prop),Inv X pins σ H s→t σ H Q→
  wpAny (model X.prog X.w) X.A (evalPart e X.env) (fun u s'=>∃ o H',Inv X pins σ H' s'∧IsPart u o∧Q o H') X.xe s
def cX:TO:=fun _ H Q=>Q none H
def dn (t:TE):TO:=fun σ H Q=>t σ H fun x H1=>∃ i,x=.int i∧Q (some i) H1
section
variable {X:Cx} {e:Expr} {te:TE} {lo hi:Option Expr} {tl th:TO} {pos p2:Pos}
theorem zW:PO X none cX:=by
 intro pins s σ H Q I h
 rw [evalPart_none]
 exact wpAny_pure ⟨none,H,I,.none,h⟩
theorem zT (h:PE X e te):PO X (some e) (dn te):=by
 intro pins s σ H Q I hw
 rw [evalPart_some]
 refine thn (h pins s σ H _ I hw) fun u s1 ⟨x,H1,I1,r1,q1⟩=>?_
 obtain ⟨i,rfl,q⟩:=q1
 obtain ⟨t,rfl⟩:=r1
 exact ⟨some i,H1,I1,.int i t,q⟩
def SlR (X:Cx) (r:V→Option Int→Option Int→Hp→VK→Prop):Prop:=
 ∀ (pins:List (Addr×Obj)) (s:Shared) (σ:St) (H:Hp) (x:V) (v vl vu:Value) (lo hi:Option Int) (sl:Addr) (Q:VK),Inv X pins σ H s→aJ x v→s.heap.IsSliceOf sl vl vu .none→IsPart vl lo→IsPart vu hi→r x lo hi H Q→
  ∃ T id,typeLookup (.type T) "__getitem__" =pure (some (.builtin id))∧s.TypeIs v T∧wpAny (model X.prog X.w) X.A (getItem v (.ref sl)) (EP X pins σ Q) X.xe s
theorem SlR.or {r r':V→Option Int→Option Int→Hp→VK→Prop} (h:SlR X r) (h':SlR X r'):SlR X (fun x lo hi H Q=>r x lo hi H Q∨r' x lo hi H Q):=by
 intro pins s σ H x v vl vu lo hi sl Q I rx hs pl pu q
 rcases q with q | q
 · exact h pins s σ H x v vl vu lo hi sl Q I rx hs pl pu q
 · exact h' pins s σ H x v vl vu lo hi sl Q I rx hs pl pu q
def tSl (r:V→Option Int→Option Int→Hp→VK→Prop) (te:TE) (tl th:TO):TE:=fun σ H Q=>te σ H fun x H1=>tl σ H1 fun l H2=>th σ H2 fun u H3=>r x l u H3 Q
theorem xM {r:V→Option Int→Option Int→Hp→VK→Prop} (hr:SlR X r) (he:PE X e te) (hl:PO X lo tl) (hu:PO X hi th):PE X (.Subscript e (.Slice lo hi none p2) pos) (tSl r te tl th):=by
 intro pins s σ H Q I h
 refine Subscript_ (thn (he pins s σ H _ I h) fun v s1 ⟨x,H1,I1,r1,q1⟩=>?_)
 refine wpAny_Slice (thn (hl pins s1 σ H1 _ I1 q1) fun vl s2 ⟨l,H2,I2,pl,q2⟩=>thn (hu pins s2 σ H2 _ I2 q2) fun vu s3 ⟨u,H3,I3,pu,q3⟩=>?_)
 rw [evalPart_none]
 refine wpAny_pure ?_
 have I4:Inv X pins σ H3 { s3 with heap:=s3.heap.push { cls:=.type "slice",data:=.fields #[vl,vu,.none] } }:=I3.kept (t':=s3.toks) fun b ob q=>Heap.get?_push_of_some _ q
 obtain ⟨T,id,hT,ht,hg⟩:=hr pins { s3 with heap:=s3.heap.push { cls:=.type "slice",data:=.fields #[vl,vu,.none] } } σ H3 x v vl vu l u s3.heap.objs.size Q I4 r1 (Heap.IsSliceOf.new ..) pl pu q3
 show wpAny (model X.prog X.w) X.A (subscriptTail e (.Slice lo hi none p2) v (.ref s3.heap.objs.size)) (EP X pins σ Q) X.xe { s3 with heap:=s3.heap.push { cls:=.type "slice",data:=.fields #[vl,vu,.none] } }
 exact tail_any (ops:=[.ref s3.heap.objs.size,v]) ht hT hg (by with_unfolding_all rfl)
def bC (xs:List V) (lo hi:Option Int):List V:=(xs.drop (HT.sIx xs.length 0 lo)).take (HT.sIx xs.length xs.length hi - HT.sIx xs.length 0 lo)
theorem ko (xs:List V) (lo hi:Option Int):(bC xs lo hi).length≤xs.length:=by
 unfold bC
 rw [List.length_take,List.length_drop]
 omega
def GJ (K:W.Frag):R2:=fun x y H Q=>∃ a b xs ys,x=.ref a∧y=.ref b∧SqT K H a xs∧SqT K H b ys∧xs≠[]∧xs.length+ys.length≤sizeLine∧
 (ys=[]→Q (.ref a) H)∧(ys≠[]→∀ p,H p=none→Q (.ref p) (upd H p (.tup (xs++ys))))
theorem aZ.nil_iff {xs:List V} {us:List Value} (r:aZ xs us):us=[]↔xs=[]:=by
 cases r with
 | nil=>simp
 | cons _ _=>simp
theorem Ao:OpR X (binaryOp .Add) (GJ X.K):=by
 intro pins s σ H x y v u Q I rx ry h
 obtain ⟨a,b,xs,ys,rfl,rfl,ha,hb,hx,hz,q1,q2⟩:=h
 cases rx
 cases ry
 obtain ⟨its,r1,p1,_⟩:=I.tuple ha
 obtain ⟨its2,r2,p2,_⟩:=I.tuple hb
 refine HT.zP p1 p2 (fun z=>hx (r1.nil_iff.mp z)) (fun z=>⟨.ref a,H,I,rfl,q1 (r2.nil_iff.mp z)⟩) (fun z=>?_) (by rw [← r1.length,←r2.length];exact hz)
 refine ⟨.ref s.heap.objs.size,_,I.laid (t':=s.toks) (o:=.tup (xs++ys)) (fun b ob q=>Heap.get?_push_of_some _ q) (Nat.le_refl _) ?_,rfl,q2 (fun w=>z (r2.nil_iff.mpr w)) _ (I.hok.fresh (Nat.le_refl _))⟩
 exact ⟨by rw [List.length_append];exact hz,_,r1.append r2,IsTup.new _ _⟩
end
end L2
namespace L2
open PySem PySem.Spec PyProof.Rows
def ixN (n:Nat) (i:Int):Option Nat:=if 0≤i then (if i<n then some i.toNat else none) else if -(n:Int)≤i then some (i+n).toNat else none
def atI {α:Type} (xs:List α) (i:Int):Option α:=(ixN xs.length i).bind fun j=>xs[j]?
theorem qC {n:Nat} {i:Int} {j:Nat} (h:ixN n i=some j):seqIndex? i n=some j∧j<n∧ -(n:Int)≤i∧i<n:=by
 unfold ixN at h
 by_cases h0:0≤i
 · rw [if_pos h0] at h
   by_cases h1:i<n
   · rw [if_pos h1] at h
     have e:i.toNat=j:=Option.some.inj h
     exact ⟨by rw [seqIndex_of h0 h1,e],by omega,by omega,h1⟩
   · rw [if_neg h1] at h;cases h
 · rw [if_neg h0] at h
   by_cases h1: -(n:Int)≤i
   · rw [if_pos h1] at h
     have e:(i+n).toNat=j:=Option.some.inj h
     exact ⟨by rw [seqIndex_neg (by omega) h1,e],by omega,h1,by omega⟩
   · rw [if_neg h1] at h;cases h
theorem gh {α : Type} {xs : List α} {i : Int} {v : α} (h : atI xs i = some v) : ∃ j, seqIndex? i xs.length = some j ∧ xs[j]? = some v ∧ j < xs.length ∧ -(xs.length : Int) ≤ i ∧ i < xs.length := by
  unfold atI at h
  cases e : ixN xs.length i with
  | none => rw [e] at h; cases h
  | some j =>
    rw [e] at h
    obtain ⟨h1, h2, h3, h4⟩ := qC e
    exact ⟨j, h1, h, h2, h3, h4⟩
theorem xJ {α:Type} (xs:List α) (v:α):atI (xs++[v]) (-1)=some v:=by
 have hl:(xs++[v]).length=xs.length+1:=by simp
 have e:ixN (xs++[v]).length (-1)=some xs.length:=by
  unfold ixN
  rw [hl,if_neg (by decide),if_pos (by omega)]
  congr 1
  omega
 unfold atI
 rw [e]
 show (xs++[v])[xs.length]?=some v
 simp
def qp (b:Expr):Prop:=∀ o i,subscripted b false o i=operate [o,i] (getItem o i)
def IxR (X:Cx) (r:R2):Prop:=
 ∀ (value slice:Expr) (pins:List (Addr×Obj)) (s:Shared) (σ:St) (H:Hp) (x y:V) (v u:Value) (Q:VK),Inv X pins σ H s→aJ x v→aJ y u→r x y H Q→
  subscripted slice false v u=operate [v,u] (getItem v u)→wpAny (model X.prog X.w) X.A (subscriptTail value slice v u) (EP X pins σ Q) X.xe s
def MtR (X:Cx) (id:String) (r:V→List V→Hp→VK→Prop):Prop:=
 ∀ (pins:List (Addr×Obj)) (s:Shared) (σ:St) (H:Hp) (x:V) (xs:List V) (v:Value) (us:List Value) (Q:VK),Inv X pins σ H s→aJ x v→aZ xs us→r x xs H Q→
  wpAny (model X.prog X.w) X.A (call (.builtin id) (v::us)) (EP X pins σ Q) X.xe s
section
variable {X:Cx} {a b:Expr} {ta tb:TE} {pos:Pos}
theorem IxR.or {r r':R2} (h:IxR X r) (h':IxR X r'):IxR X (fun x y H Q=>r x y H Q∨r' x y H Q):=by
 intro value slice pins s σ H x y v u Q I rx ry q hs
 rcases q with q | q
 · exact h value slice pins s σ H x y v u Q I rx ry q hs
 · exact h' value slice pins s σ H x y v u Q I rx ry q hs
theorem HE {r:R2} (hr:IxR X r) (ha:PE X a ta) (hb:PE X b tb) (hs:qp b):PE X (.Subscript a b pos) (tOp r ta tb):=by
 intro pins s σ H Q I h
 exact Subscript_ (vy ha hb I h fun v u s2 x y H2 I2 rx ry q=>hr a b pins s2 σ H2 x y v u Q I2 rx ry q (hs _ _))
def Bf (K:W.Frag):R2:=fun x y H Q=>∃ p xs i v,x=.ref p∧y=.int i∧SqL K H p xs∧atI xs i=some v∧Q v H
def CW (K:W.Frag):R2:=fun x y H Q=>∃ p xs i v,x=.ref p∧y=.int i∧SqT K H p xs∧atI xs i=some v∧Q v H
def AB:R2:=fun x y H Q=>∃ z i c,x=.str z∧y=.int i∧z.length≤sizeLine∧atI z.cps.toList i=some c∧Q (.str ⟨#[c]⟩) H
theorem Ay:IxR X (Bf X.K):=by
 intro value slice pins s σ H x y v u Q I rx ry h hs
 obtain ⟨p,xs,i,z,rfl,rfl,hq,he,q⟩:=h
 cases rx
 obtain ⟨t,rfl⟩:=ry
 obtain ⟨its,r,pl,hz⟩:=I.list hq
 obtain ⟨j,h1,h2,h3,h4,h5⟩:=gh he
 obtain ⟨w,ew,rw'⟩:=r.get h2
 have hl:=r.length
 have hn:=iw
 have fin:EP X pins σ Q w s:=⟨z,H,I,rw',q⟩
 by_cases h0:0≤i
 · have hj:i.toNat=j:=by
    rw [seqIndex_of h0 h5] at h1
    exact Option.some.inj h1
   exact item_listR pl.isList h0 (by omega) (by rw [hj];simpa using ew) fin hs
 · have hj:(i+(its.toArray.size:Int)).toNat=j:=by
    rw [seqIndex_neg (by omega) h4] at h1
    rw [List.size_toArray,←hl]
    exact Option.some.inj h1
   exact subscriptTail_builtinR (x:=w) pl.isList.typeIs slot_list_getitem.lookup
    (wpAny_getItem_list_neg (Q:=fun r s'=>r=w∧EP X pins σ Q r s') pl.isList (by omega) (by rw [List.size_toArray] <;> omega) (by omega) (by rw [hj];simpa using ew) ⟨rfl,fin⟩) hs
theorem Eb:IxR X (CW X.K):=by
 intro value slice pins s σ H x y v u Q I rx ry h hs
 obtain ⟨p,xs,i,z,rfl,rfl,hq,he,q⟩:=h
 cases rx
 obtain ⟨t,rfl⟩:=ry
 obtain ⟨its,r,pl,hz⟩:=I.tuple hq
 obtain ⟨j,h1,h2,h3,h4,h5⟩:=gh he
 obtain ⟨w,ew,rw'⟩:=r.get h2
 have hl:=r.length
 have hn:=iw
 have fin:EP X pins σ Q w s:=⟨z,H,I,rw',q⟩
 exact subscriptTail_builtinR (x:=w) pl.typeIs slot_tuple_getitem.lookup
  (getItem_tuple (j:=j) (Q:=fun r s'=>r=w∧EP X pins σ Q r s') pl (by omega) (by omega) (by rw [List.size_toArray,←hl];exact h1) (by simpa using ew) ⟨rfl,fin⟩) hs
theorem AK:IxR X AB:=by
 intro value slice pins s σ H x y v u Q I rx ry h hs
 obtain ⟨z,i,c,rfl,rfl,hz,he,q⟩:=h
 obtain ⟨t,rfl⟩:=rx
 obtain ⟨t',rfl⟩:=ry
 obtain ⟨j,h1,h2,h3,h4,h5⟩:=gh he
 have hl:z.cps.toList.length=z.length:=by simp [Str.length]
 rw [hl] at h1 h4 h5
 have hn:=iw
 exact tail_any (typeIs_str s z t) slot_str_getitem.lookup (getItem_str (c:=c) (by
  have e1:decide (i< -(2^63:Int))=false:=decide_eq_false (by omega)
  have e2:decide (i≥2^63)=false:=decide_eq_false (by omega)
  rw [e1,e2,Bool.or_false]) (by rw [h1];simpa using h2) ⟨.str ⟨#[c]⟩,H,I.tok _,⟨_,rfl⟩,q⟩) hs
def rIx (K:W.Frag):R2:=fun x y H Q=>Bf K x y H Q∨CW K x y H Q∨AB x y H Q
theorem AQ:IxR X (rIx X.K):=Ay.or (Eb.or AK)
theorem sO (its:List Value) (n j:Nat) (u:Value):Obj.mapSeq (·.setIfInBounds j u) { cls:=.type "list",data:=.seq its.toArray n }={ cls:=.type "list",data:=.seq (its.set j u).toArray n }:=by
 simp [Obj.mapSeq]
theorem Inv.lst {pins:List (Addr×Obj)} {σ:St} {H:Hp} {s:Shared} {p:Addr} {xs:List V} (I:Inv X pins σ H s) (h:H p=some (.lst xs)):
  ∃ (its:List Value) (n:Nat),aZ xs its∧s.heap.get? p=some { cls:=.type "list",data:=.seq its.toArray n }∧xs.length≤sizeLine:=by
 obtain ⟨z,its,n,r,e⟩:=I.hok p _ h
 exact ⟨its,n,r,e,z⟩
theorem Inv.lstUpd {pins:List (Addr×Obj)} {σ:St} {H:Hp} {s:Shared} {p:Addr} {xs ys:List V} {its its':List Value} {n n':Nat} {f:Obj→Obj} (I:Inv X pins σ H s) (h:H p=some (.lst xs))
  (ho:s.heap.get? p=some { cls:=.type "list",data:=.seq its.toArray n }) (hf:f { cls:=.type "list",data:=.seq its.toArray n }={ cls:=.type "list",data:=.seq its'.toArray n' }) (r:aZ ys its') (hz:ys.length≤sizeLine) (t:Nat):
  Inv X pins σ (upd H p (.lst ys)) { s with heap:=s.heap.update p f,toks:=t }:=by
 have e:(s.heap.update p f).get? p=some { cls:=.type "list",data:=.seq its'.toArray n' }:=by
  rw [Heap.get?_update_self f ho (by rw [hf] <;> rfl),hf]
 refine I.write (x:=p) (e:=p) (by rw [h];trivial) (.inl rfl) (fun b u hb q=>(Heap.get?_update_other _ _ (Ne.symm hb)).trans q) ⟨_,e⟩ ?_
 exact ⟨hz,its',n',r,e⟩
def yI:V→V→V→Hp→(Hp→Prop)→Prop:=fun o i v H Q=>∃ p xs k j,o=.ref p∧i=.int k∧H p=some (.lst xs)∧ixN xs.length k=some j∧Q (upd H p (.lst (xs.set j v)))
theorem wM:sn X yI:=by
 intro pins s σ H o i v ov iv u Q I ro ri rv h
 obtain ⟨p,xs,k,j,rfl,rfl,hp,hj,q⟩:=h
 cases ro
 obtain ⟨t,rfl⟩:=ri
 obtain ⟨its,n,r,ho,hz⟩:=I.lst hp
 obtain ⟨h1,h2,h3,h4⟩:=qC hj
 have hl:=r.length
 have hn:=iw
 have I':Inv X pins σ (upd H p (.lst (xs.set j v))) { s with heap:=s.heap.update p (Obj.mapSeq (·.setIfInBounds j u)) }:=
   I.lstUpd hp ho (sO its n j u) (r.set rv j) (by rw [List.length_set];exact hz) s.toks
 by_cases h0:0≤k
 · have hk:k.toNat=j:=by
    rw [seqIndex_of h0 h4] at h1
    exact Option.some.inj h1
   exact W.ki_setAt ho h0 (by omega) (by rw [List.size_toArray,←hl];exact h4) (by rw [hk];exact ⟨_,I',q⟩)
 · have hk:(k+(its.toArray.size:Int)).toNat=j:=by
    rw [seqIndex_neg (by omega) h3] at h1
    rw [List.size_toArray,←hl]
    exact Option.some.inj h1
   exact W.ki_setBack ho (by omega) (by rw [List.size_toArray,←hl];exact h3) (by omega) (by rw [hk];exact ⟨_,I',q⟩)
theorem pT (lo hi : Option Int) (n : Nat) : (sliceBounds lo hi none n).1 = ((HT.sIx n 0 lo : Nat) : Int) ∧ (sliceBounds lo hi none n).2.1 = ((HT.sIx n n hi : Nat) : Int) ∧ (sliceBounds lo hi none n).2.2 = 1 := by
  refine ⟨?_, ?_, rfl⟩
  · cases lo with
    | none => simp [sliceBounds, HT.sIx]
    | some i =>
      simp only [sliceBounds, HT.sIx, Option.getD_none, show (1 : Int) > 0 by decide, if_true]
      by_cases h : i < 0
      · simp only [h, if_true] <;> omega
      · simp only [h, if_false] <;> omega
  · cases hi with
    | none => simp [sliceBounds, HT.sIx]
    | some i =>
      simp only [sliceBounds, HT.sIx, Option.getD_none, show (1 : Int) > 0 by decide, if_true]
      by_cases h : i < 0
      · simp only [h, if_true] <;> omega
      · simp only [h, if_false] <;> omega
theorem nF (its:List Value) (lo hi:Option Int):slicePick its.toArray lo hi none=((its.drop (HT.sIx its.length 0 lo)).take (HT.sIx its.length its.length hi - HT.sIx its.length 0 lo)).toArray:=by
 obtain ⟨h1,h2,h3⟩:=pT lo hi its.toArray.size
 unfold slicePick
 rw [h1,h2,h3]
 simp only [sliceRange_one,pick_run,List.size_toArray] <;> rfl
def DP (K:W.Frag):V→Option Int→Option Int→Hp→VK→Prop:=fun x lo hi H Q=>∃ a xs,x=.ref a∧SqL K H a xs∧∀ p,H p=none→Q (.ref p) (upd H p (.lst (bC xs lo hi)))
theorem Al:SlR X (DP X.K):=by
 intro pins s σ H x v vl vu lo hi sl Q I rx hs pl pu h
 obtain ⟨a,xs,rfl,hx,q⟩:=h
 cases rx
 obtain ⟨its,r,ht,hz⟩:=I.list hx
 have hlen:=r.length
 refine ⟨"list",_,slot_list_getitem.lookup,ht.isList.typeIs,?_⟩
 refine wpAny_getItem_list_slice ht.isList hs pl pu .none (by simp) ?_ (by rw [List.size_toArray] <;> omega)
 rw [nF,←hlen]
 refine ⟨.ref s.heap.objs.size,_,I.laid (t':=s.toks) (o:=.lst (bC xs lo hi)) (fun b ob q=>Heap.get?_push_of_some _ q) (Nat.le_refl _) ?_,rfl,q _ (I.hok.fresh (Nat.le_refl _))⟩
 exact ⟨Nat.le_trans (ko xs lo hi) hz,_,0,(r.drop (HT.sIx xs.length 0 lo)).take (HT.sIx xs.length xs.length hi - HT.sIx xs.length 0 lo),Heap.get?_push_size _ rfl⟩
theorem bE.or {f:Value} {r r':List V→Hp→VK→Prop} (h:bE X f r) (h':bE X f r'):bE X f (fun xs H Q=>r xs H Q∨r' xs H Q):=by
 intro pins s σ H xs us Q I rs q
 rcases q with q | q
 · exact h pins s σ H xs us Q I rs q
 · exact h' pins s σ H xs us Q I rs q
theorem nI:bE X (.type "tuple") (fun xs H Q=>∃ p ys,xs=[.ref p]∧((SqL X.K H p ys∧∀ l,H l=none→Q (.ref l) (upd H l (.tup ys)))∨(SqT X.K H p ys∧Q (.ref p) H))):=by
 intro pins s σ H xs us Q I r h
 obtain ⟨p,ys,rfl,h⟩:=h
 obtain ⟨u,rfl,rx⟩:=dJ r
 cases rx
 rcases h with ⟨hq,q⟩ | ⟨hq,q⟩
 · obtain ⟨its,r',pl,hz⟩:=I.list hq
   have hlen:=r'.length
   refine call_tuple_list pl.isList (fun h' kp=>?_) (by simp only [List.size_toArray] <;> omega)
   have I1:Inv X pins σ H { s with heap:=h' }:=I.kept (t':=s.toks) kp
   have I2:Inv X pins σ (upd H h'.objs.size (.tup ys)) { s with heap:=h'.push { cls:=.type "tuple",data:=.seq its.toArray } }:=
    I1.laid (t':=s.toks) (fun b o e=>Heap.get?_push_of_some _ e) (Nat.le_refl _) (show bh X.prog X.w _ _ _ (.tup ys) from ⟨hz,its,r',IsTup.new _ _⟩)
   exact ⟨.ref h'.objs.size,_,I2,rfl,q _ (I1.hok.fresh (Nat.le_refl _))⟩
 · obtain ⟨its,r',pl,hz⟩:=I.tuple hq
   exact call_tuple_same pl ⟨.ref p,H,I,rfl,q⟩
def tyV (K:W.Frag) (T:String) (x:V) (H:Hp):Prop:=match x with
 | .str _=>T= "str"
 | .int _=>T= "int"
 | .ref p=>(T= "list" ∧∃ xs,SqL K H p xs)∨(T= "tuple" ∧∃ o,K.lookup p=some o∧o.cls=.type "tuple" ∧o.dict=none)∨
  (T= "dict" ∧((∃ kvs,H p=some (.dK kvs))∨∃ kvs,H p=some (.dT kvs)))∨(T= "set" ∧∃ S n,H p=some (.set S n))
 | _=>False
theorem uw {pins : List (Addr × Obj)} {σ : St} {H : Hp} {s : Shared} {T : String} {x : V} {v : Value} (I : Inv X pins σ H s) (r : aJ x v) (ty : tyV X.K T x H) :
    s.TypeIs v T ∧ ∀ a, v = .ref a → ∃ ob, s.heap.get? a = some ob ∧ ob.dict = none := by
  cases x with
  | str z =>
    obtain ⟨t, rfl⟩ := r
    cases (show T = "str" from ty)
    exact ⟨typeIs_str s z t, fun _ e => nomatch e⟩
  | int i =>
    obtain ⟨t, rfl⟩ := r
    cases (show T = "int" from ty)
    exact ⟨typeIs_int s i t, fun _ e => nomatch e⟩
  | ref p =>
    cases r
    rcases ty with ⟨rfl, xs, hq⟩ | ⟨rfl, o, hk, hc, hd⟩ | ⟨rfl, hk⟩ | ⟨rfl, S, n, hk⟩
    · obtain ⟨its, _, pl, _⟩ := I.list hq
      refine ⟨pl.isList.typeIs, fun a e => ?_⟩
      cases e
      obtain ⟨o, n, e, c, hd, _⟩ := pl
      exact ⟨o, e, hd⟩
    · refine ⟨⟨o, I.kIn p o hk, hc⟩, fun a e => ?_⟩
      cases e
      exact ⟨o, I.kIn _ o hk, hd⟩
    · have z : ∃ o, s.heap.get? p = some o ∧ o.ExactDict := by
        rcases hk with ⟨kvs, hk⟩ | ⟨kvs, hk⟩
        · obtain ⟨_, _, _, _, o, _, _, e, ex, _⟩ := I.hok p _ hk
          exact ⟨o, e, ex⟩
        · obtain ⟨_, _, _, _, o, _, _, e, ex, _⟩ := I.hok p _ hk
          exact ⟨o, e, ex⟩
      obtain ⟨o, e, ex⟩ := z
      refine ⟨⟨o, e, ex.1⟩, fun a e2 => ?_⟩
      cases e2
      exact ⟨o, e, ex.2.1⟩
    · obtain ⟨o, _, _, _, e, ex, _⟩ := I.hok p _ hk
      refine ⟨⟨o, e, ex.1⟩, fun a e2 => ?_⟩
      cases e2
      exact ⟨o, e, ex.2.1⟩
  | _ => exact False.elim ty
def xh (K:W.Frag) (T:String) (r:V→List V→Hp→VK→Prop) (to:TE):TE:=fun σ H Q=>to σ H fun x H1=>tyV K T x H1∧r x [] H1 Q
def tBM (K:W.Frag) (T:String) (r:V→List V→Hp→VK→Prop) (to:TE) (t:TA):TE:=fun σ H Q=>to σ H fun x H1=>tyV K T x H1∧t σ H1 fun xs H2=>r x xs H2 Q
variable {o e:Expr} {es:List Expr} {to:TE} {t:TA} {name:Str} {apos cpos:Pos} {T id:String} {r:V→List V→Hp→VK→Prop}
theorem DX (pa:PlainAttrs T) (slot:Slot T name id) (hty:typeOf (.builtin id)=pure (.type "method_descriptor")) (hm:MtR X id r) (ho:PE X o to)
  (hbase:attributeBase o name X.env (eval o X.env)=eval o X.env:=by rfl) (hline:(apos.endLine==cpos.line)=true:=by rfl):PE X (.Call (.Attribute o name apos) [] [] cpos) (xh X.K T r to):=by
 intro pins s σ H Q I h
 refine wpAny_Call_method0_late hbase hline (thn (ho pins s σ H _ I h) fun v s1 ⟨x,H1,I1,r1,ty,q1⟩=>?_)
 obtain ⟨h1,h2⟩:=uw I1 r1 ty
 exact ⟨T,id,pa,slot,hty,h1,h2,Calls.callWith_builtin rfl (PySem.evalArgs_none (hm pins s1 σ H1 x [] v [] Q I1 r1 .nil q1))⟩
theorem Hu (pa : PlainAttrs T) (slot : Slot T name id) (hty : typeOf (.builtin id) = pure (.type "method_descriptor")) (hm : MtR X id r) (ho : PE X o to) (ha : PA X (e :: es) t)
  (hbase : attributeBase o name X.env (eval o X.env) = eval o X.env := by rfl)
  (hfew : ((backTo cpos (starEach (e :: es) X.env)).all (fun x => !x.1) && (backToKw cpos (keywordEach [] X.env)).all (fun x => x.1.isSome)
   && decide ((e :: es).length + ([] : List Keyword).length + (if ([] : List Keyword).isEmpty then 0 else 1) < 30)) = true := by rfl)
  (hline : (apos.endLine == cpos.line) = true := by rfl) (hs : starEach (e :: es) X.env = (false, eval e X.env) :: starEach es X.env := by rfl) (hplain : (backTo cpos (starEach es X.env)).any (·.1) = false := by rfl) :
  PE X (.Call (.Attribute o name apos) (e :: es) [] cpos) (tBM X.K T r to t) := by
 intro pins s σ H Q I h
 refine wpAny_Call_method_late hbase hfew hline rfl (thn (ho pins s σ H _ I h) fun v s1 ⟨x, H1, I1, r1, ty, q1⟩ => ?_)
 obtain ⟨h1, h2⟩ := uw I1 r1 ty
 refine ⟨T, id, pa, slot, hty, h1, h2, ?_⟩
 have hA := ha cpos pins s1 σ H1 _ I1 q1
 rw [hs] at hA ⊢
 refine Calls.callWith_builtin (by show (false || (backTo cpos (starEach es X.env)).any (·.1)) = false; rw [hplain] <;> rfl) (Calls.evalArgs_plain ?_)
 exact thn hA fun us s2 ⟨vs, H2, I2, r2, q2⟩ => hm pins s2 σ H2 x vs v us Q I2 r1 r2 q2
end
end L2
namespace L2
open PySem PySem.Spec PyProof.Rows
def MtM (X:Cx) (id:String) (r:V→List V→Hp→VK→Prop):Prop:=
 ∀ (pins:List (Addr×Obj)) (s:Shared) (σ:St) (H:Hp) (x:V) (xs:List V) (v:Value) (us:List Value) (Q:VK),Inv X pins σ H s→aJ x v→aZ xs us→r x xs H Q→
  wpAny (model X.prog X.w) X.A (call (.builtin id) (v::us)) (EP X pins σ Q) X.xe s
theorem aZ.one:∀ {x:V} {us:List Value},aZ [x] us→∃ u,us=[u]∧aJ x u
 | _,_,.cons r .nil=>⟨_,rfl,r⟩
section
variable {X:Cx} {pins:List (Addr×Obj)} {σ:St} {H:Hp} {s:Shared} {l b:Addr} {xs ys zs:List V}
theorem Inv.lset {its its':List Value} {n:Nat} {f:Array Value→Array Value} {t':Nat} (I:Inv X pins σ H s) (hH:H l=some (.lst xs))
  (e:s.heap.get? l=some { cls:=.type "list",data:=.seq its.toArray n }) (hf:f its.toArray=its'.toArray) (hv:aZ ys its') (hz:ys.length≤sizeLine):
  Inv X pins σ (upd H l (.lst ys)) { s with heap:=s.heap.update l (Obj.mapSeq f),toks:=t' }:=by
 have q:=PySem.IsL.update e f
 rw [hf] at q
 refine I.write (x:=l) (e:=l) (by rw [hH];exact trivial) (.inl rfl) (fun b' u hb hu=>(Heap.get?_update_other s.heap (Obj.mapSeq f) (Ne.symm hb)).trans hu) ⟨_,q⟩ ?_
 exact ⟨hz,its',_,hv,q⟩
theorem Inv.lnew {its:List Value} {t':Nat} (I:Inv X pins σ H s) (hv:aZ ys its) (hz:ys.length≤sizeLine):
  Inv X pins σ (upd H s.heap.objs.size (.lst ys)) { s with heap:=s.heap.push { cls:=.type "list",data:=.seq its.toArray },toks:=t' }:=
 I.laid (fun _ _ q=>Heap.get?_push_of_some _ q) (Nat.le_refl _) ⟨hz,its,0,hv,Heap.get?_push_size _ rfl⟩
theorem Inv.fresh (I:Inv X pins σ H s):H s.heap.objs.size=none:=I.hok.fresh (Nat.le_refl _)
theorem Inv.lstM (I:Inv X pins σ H s) (hH:H l=some (.lst xs)):xs.length≤sizeLine∧∃ (its:List Value) (n:Nat),aZ xs its∧xs.length=its.length∧s.heap.get? l=some { cls:=.type "list",data:=.seq its.toArray n }:=by
 obtain ⟨z,its,n,r,e⟩:=I.hok l _ hH
 exact ⟨z,its,n,r,r.length,e⟩
end
section
variable {X:Cx}
def eR:V→List V→Hp→VK→Prop:=fun x vs H Q=>∃ l xs y,x=.ref l∧vs=[y]∧H l=some (.lst xs)∧xs.length<sizeLine∧Q .non (upd H l (.lst (xs++[y])))
theorem eQ:MtM X "list.append" eR:=by
 intro pins s σ H x vs v us Q I rx rv h
 obtain ⟨l,xs,y,rfl,rfl,hH,hz,q⟩:=h
 cases rx
 obtain ⟨u,rfl,ru⟩:=rv.one
 obtain ⟨z,its,n,r,hl,e⟩:=I.lstM hH
 refine call_meets F.slot_list_append ⟨_,e,rfl⟩ F.entry_list_append (F.args_list_append_2 _ _) (PySem.list_append l its.toArray n u (by rw [List.size_toArray];omega)) ⟨e,?_⟩
 refine ⟨.non,_,I.lset (its':=its++[u]) hH e (by simp) (r.append (.cons ru .nil)) ?_,rfl,q⟩
 rw [List.length_append,List.length_singleton]
 omega
def Dp:R2:=fun x y H Q=>∃ l b xs zs,x=.ref l∧y=.ref b∧H l=some (.lst xs)∧H b=some (.lst zs)∧xs.length+zs.length≤sizeLine∧∀ p,H p=none→Q (.ref p) (upd H p (.lst (xs++zs)))
theorem Ek:OpR X (binaryOp .Add) Dp:=by
 intro pins s σ H x y v u Q I rx ry h
 obtain ⟨l,b,xs,zs,rfl,rfl,hH,hB,hz,q⟩:=h
 cases rx
 cases ry
 obtain ⟨z,its,n,r,hl,e⟩:=I.lstM hH
 obtain ⟨z2,its2,n2,r2,hl2,e2⟩:=I.lstM hB
 refine PySem.P.add_list e e2 ?_ (by rw [List.size_toArray,List.size_toArray];omega)
 have ea:its.toArray++its2.toArray=(its++its2).toArray:=by simp
 rw [ea]
 exact ⟨.ref _,_,I.lnew (t':=s.toks) (r.append r2) (by rw [List.length_append];omega),rfl,q _ I.fresh⟩
end
section
variable {prog:Program} {w:World} {A:Around} {E:Value→Shared→Prop} {s:Shared}
set_option maxRecDepth 100000 in
end
section
variable {X:Cx}
end
end L2
namespace L2
open PySem PySem.Spec PyProof.Rows
section
variable {κ:Type} [DecidableEq κ]
def bK (kvs:List (κ×V)) (k:κ):Option V:=(kvs.find? fun kv=>decide (kv.1=k)).map (·.2)
def cB (kvs:List (κ×V)) (k:κ) (v:V):List (κ×V):=
 if (kvs.any fun kv=>decide (kv.1=k))=true then kvs.map (fun kv=>if kv.1=k then (kv.1,v) else kv) else kvs++[(k,v)]
def jc (kvs:List (κ×V)) (k:κ):List (κ×V):=kvs.filter fun kv=>decide (kv.1≠k)
theorem cQ {p:κ×V} {r:List (κ×V)} {k:κ} (e:p.1=k):bK (p::r) k=some p.2:=by simp [bK,List.find?_cons,e]
theorem cS {p:κ×V} {r:List (κ×V)} {k:κ} (e:¬ p.1=k):bK (p::r) k=bK r k:=by simp [bK,List.find?_cons,e]
theorem gG (k : κ) : ∀ kvs : List (κ × V), (kvs.any fun kv => decide (kv.1 = k)) = (bK kvs k).isSome
  | [] => rfl
  | p :: r => by
    rw [List.any_cons]
    by_cases e : p.1 = k
    · simp only [cQ e, decide_eq_true e, Bool.true_or, Option.isSome_some]
    · rw [cS e, decide_eq_false e, Bool.false_or]; exact gG k r
theorem oZ (k j : κ) (y : V) : ∀ kvs : List (κ × V), bK (kvs.map fun kv => if kv.1 = k then (kv.1, y) else kv) j = (bK kvs j).map fun x => if j = k then y else x
  | [] => rfl
  | p :: r => by
    have ih := oZ k j y r
    rw [List.map_cons]
    by_cases h : p.1 = k
    · rw [if_pos h]
      by_cases e : p.1 = j
      · rw [cQ (p := (p.1, y)) e, cQ e, Option.map_some, if_pos (e.symm.trans h)]
      · rw [cS (p := (p.1, y)) e, cS e, ih]
    · rw [if_neg h]
      by_cases e : p.1 = j
      · rw [cQ (p := p) e, cQ e, Option.map_some, if_neg (fun z => h (e.trans z))]
      · rw [cS (p := p) e, cS e, ih]
theorem nC (k j : κ) (y : V) : ∀ kvs : List (κ × V), bK kvs k = none → bK (kvs ++ [(k, y)]) j = if j = k then some y else bK kvs j
  | [], _ => by
    by_cases e : k = j
    · rw [if_pos e.symm]; exact cQ (p := (k, y)) e
    · rw [if_neg (fun z => e z.symm)]; exact cS (p := (k, y)) e
  | p :: r, hn => by
    rw [List.cons_append]
    have hk : ¬ p.1 = k := fun z => by rw [cQ z] at hn; cases hn
    rw [cS hk] at hn
    have ih := nC k j y r hn
    by_cases e : p.1 = j
    · rw [cQ e, cQ e, if_neg (fun z => hk (e.trans z))]
    · rw [cS e, cS e, ih]
theorem ve (kvs:List (κ×V)) (k j:κ) (y:V):bK (cB kvs k y) j=if j=k then some y else bK kvs j:=by
 unfold cB
 by_cases a:(kvs.any fun kv=>decide (kv.1=k))=true
 · rw [if_pos a,oZ]
   rw [gG] at a
   by_cases e:j=k
   · obtain ⟨x,hx⟩:=Option.isSome_iff_exists.mp a
     rw [if_pos e,e,hx,Option.map_some,if_pos rfl]
   · rw [if_neg e]
     cases bK kvs j with
     | none=>rfl
     | some x=>rw [Option.map_some,if_neg e]
 · rw [if_neg a]
   refine nC k j y kvs ?_
   rw [gG] at a
   cases q:bK kvs k with
   | none=>rfl
   | some x=>rw [q] at a;exact (a rfl).elim
theorem fI (kvs:List (κ×V)) (k:κ) (v:V):(cB kvs k v).length≤kvs.length+1:=by
 unfold cB
 split
 · rw [List.length_map];omega
 · rw [List.length_append,List.length_cons,List.length_nil];omega
theorem vZ {kvs:List (κ×V)} {k:κ} (v:V) (h:bK kvs k=none):cB kvs k v=kvs++[(k,v)]:=by
 unfold cB
 rw [gG,h]
 exact if_neg (by decide)
theorem cN.isSome_eq {o : Option V} {u : Option Value} (r : cN o u) : o.isSome = u.isSome := by
  cases o with
  | none => cases u with
    | none => rfl
    | some _ => exact (show False from r).elim
  | some _ => cases u with
    | none => exact (show False from r).elim
    | some _ => rfl
theorem cN.getD {o : Option V} {u : Option Value} {d : V} {d' : Value} (r : cN o u) (rd : aJ d d') : aJ (o.getD d) (u.getD d') := by
  cases o with
  | none => cases u with
    | none => exact rd
    | some _ => exact (show False from r).elim
  | some _ => cases u with
    | none => exact (show False from r).elim
    | some _ => exact r
theorem KV.val {kvs : List (κ × V)} {vs : List (κ × Value)} (r : KV kvs vs) (k : κ) : cN (bK kvs k) (valueAt vs k) := by
  unfold KV at r
  induction r with
  | nil => exact True.intro
  | @cons p q ps qs h t ih =>
    obtain ⟨h1, h2⟩ := h
    by_cases e : p.1 = k
    · have e' : q.1 = k := h1.symm.trans e
      have b : valueAt (q :: qs) k = some q.2 := by simp [valueAt, List.find?_cons, e']
      rw [cQ e, b]; exact h2
    · have e' : ¬ q.1 = k := fun z => e (h1.trans z)
      have b : valueAt (q :: qs) k = valueAt qs k := by simp [valueAt, List.find?_cons, e']
      rw [cS e, b]; exact ih
theorem KV.any {kvs:List (κ×V)} {vs:List (κ×Value)} (r:KV kvs vs) (k:κ):(kvs.any fun kv=>decide (kv.1=k))=vs.any fun kv=>decide (kv.1=k):=by
 unfold KV at r
 induction r with
 | nil=>rfl
 | cons h t ih=>rw [List.any_cons,List.any_cons,ih,h.1]
theorem KV.repl {kvs : List (κ × V)} {vs : List (κ × Value)} (r : KV kvs vs) (k : κ) {y : V} {u : Value} (ry : aJ y u) :
    KV (kvs.map fun kv => if kv.1 = k then (kv.1, y) else kv) (vs.map fun kv => if kv.1 = k then (kv.1, u) else kv) := by
  unfold KV at r ⊢
  induction r with
  | nil => exact .nil
  | @cons p q ps qs h t ih =>
    rw [List.map_cons, List.map_cons]
    refine .cons ?_ ih
    obtain ⟨h1, h2⟩ := h
    by_cases e : p.1 = k
    · rw [if_pos e, if_pos (h1.symm.trans e)]; exact ⟨h1, ry⟩
    · rw [if_neg e, if_neg (fun z => e (h1.trans z))]; exact ⟨h1, h2⟩
theorem KV.put {kvs:List (κ×V)} {vs:List (κ×Value)} (r:KV kvs vs) (k:κ) {y:V} {u:Value} (ry:aJ y u):KV (cB kvs k y) (stored vs k u):=by
 unfold cB stored
 rw [r.any k]
 by_cases e:(vs.any fun kv=>decide (kv.1=k))=true
 · rw [if_pos e,if_pos e];exact r.repl k ry
 · rw [if_neg e,if_neg e];exact Paired.snoc r ⟨rfl,ry⟩
theorem KV.drop {kvs : List (κ × V)} {vs : List (κ × Value)} (r : KV kvs vs) (k : κ) : KV (jc kvs k) (without vs k) := by
  unfold KV at r ⊢
  unfold jc without
  induction r with
  | nil => exact .nil
  | @cons p q ps qs h t ih =>
    obtain ⟨h1, h2⟩ := h
    rw [List.filter_cons, List.filter_cons]
    by_cases e : p.1 = k
    · have a : ¬ decide (p.1 ≠ k) = true := by simp [e]
      have b : ¬ decide (q.1 ≠ k) = true := by simp [h1.symm.trans e]
      rw [if_neg a, if_neg b]; exact ih
    · have e' : ¬ q.1 = k := fun z => e (h1.trans z)
      have a : decide (p.1 ≠ k) = true := by simp [e]
      have b : decide (q.1 ≠ k) = true := by simp [e']
      rw [if_pos a, if_pos b]; exact .cons ⟨h1, h2⟩ ih
theorem KV.length {kvs:List (κ×V)} {vs:List (κ×Value)} (r:KV kvs vs):kvs.length=vs.length:=Paired.length r
theorem vF (kvs:List (κ×V)) (k:κ):(jc kvs k).length≤kvs.length:=List.length_filter_le _ _
end
theorem gO {P:Program} {w:World} {k:Key} {u:Value} (r:aJ (kV k) u):(bH P w).is k u=true:=by
 cases k with
 | inl i=>obtain ⟨t,e⟩:=(show ∃ t,u=Value.int i t from r);subst e;exact pZ P w i t
 | inr x=>obtain ⟨t,e⟩:=(show ∃ t,u=Value.str x t from r);subst e;exact qj P w x t
theorem Ep {a b : Key} (e : kV a = kV b) : a = b := by
  cases a with
  | inl i => cases b with
    | inl j => have e' : V.int i = V.int j := e; injection e' with e'; rw [e']
    | inr y => exact nomatch (show V.int i = V.str y from e)
  | inr x => cases b with
    | inl j => exact nomatch (show V.str x = V.int j from e)
    | inr y => have e' : V.str x = V.str y := e; injection e' with e'; rw [e']
theorem qJ : ∀ {a b : List Key}, a.map kV = b.map kV → a = b
  | [], [], _ => rfl
  | [], _ :: _, e => by simp at e
  | _ :: _, [], e => by simp at e
  | x :: xs, y :: ys, e => by
    rw [List.map_cons, List.map_cons] at e
    injection e with e1 e2
    rw [Ep e1, qJ e2]
theorem nq {P : Program} {w : World} : ∀ {ks : List Key} {us : List Value}, aZ (ks.map kV) us → ItemsAre (bH P w) ks us
  | [], _, r => by rw [List.map_nil] at r; cases r; exact .nil
  | k :: ks, _, r => by
    rw [List.map_cons] at r
    cases r with
    | cons h t => exact .cons (gO h) (nq t)
abbrev KT (H:Hp):List (List Key×V)→List (List Key×Addr×Value)→Prop:=Paired fun p q=>p.1=q.1∧H q.2.1=some (.tup (p.1.map kV))∧aJ p.2 q.2.2
theorem KT.val {H : Hp} {kvs : List (List Key × V)} {xs : List (List Key × Addr × Value)} (r : KT H kvs xs) (k : List Key) : cN (bK kvs k) ((atKey xs k).map (·.2)) := by
  induction r with
  | nil => exact True.intro
  | @cons p q ps qs h t ih =>
    obtain ⟨h1, _, h2⟩ := h
    by_cases e : p.1 = k
    · have e' : q.1 = k := h1.symm.trans e
      have b : atKey (q :: qs) k = some q.2 := by simp [atKey, List.find?_cons, e']
      rw [cQ e, b]; exact h2
    · have e' : ¬ q.1 = k := fun z => e (h1.trans z)
      have b : atKey (q :: qs) k = atKey qs k := by simp [atKey, List.find?_cons, e']
      rw [cS e, b]; exact ih
theorem KT.repl {H : Hp} {kvs : List (List Key × V)} {xs : List (List Key × Addr × Value)} (r : KT H kvs xs) (k : List Key) {y : V} {u : Value} (ry : aJ y u) :
    KT H (kvs.map fun kv => if kv.1 = k then (kv.1, y) else kv) (xs.map (putAt k u)) := by
  induction r with
  | nil => exact .nil
  | @cons p q ps qs h t ih =>
    rw [List.map_cons, List.map_cons]
    refine .cons ?_ ih
    obtain ⟨h1, h2, h3⟩ := h
    unfold putAt
    by_cases e : p.1 = k
    · rw [if_pos e, if_pos (h1.symm.trans e)]; exact ⟨h1, h2, ry⟩
    · rw [if_neg e, if_neg (fun z => e (h1.trans z))]; exact ⟨h1, h2, h3⟩
theorem KT.put {H:Hp} {kvs:List (List Key×V)} {xs:List (List Key×Addr×Value)} (r:KT H kvs xs) (k:List Key) {b:Addr} {y:V} {u:Value} (hb:H b=some (.tup (k.map kV))) (ry:aJ y u):
   KT H (cB kvs k y) (storedH xs k b u):=by
 have e:(kvs.any fun kv=>decide (kv.1=k))=(atKey xs k).isSome:=by
   rw [gG,(r.val k).isSome_eq,Option.isSome_map]
 unfold cB storedH
 rw [e]
 by_cases q:(atKey xs k).isSome=true
 · rw [if_pos q,if_pos q];exact r.repl k ry
 · rw [if_neg q,if_neg q];exact Paired.snoc r ⟨rfl,hb,ry⟩
theorem KT.keeps {H H':Hp} {kvs:List (List Key×V)} {xs:List (List Key×Addr×Value)} (r:KT H kvs xs) (ht:∀ b ys,H b=some (.tup ys)→H' b=some (.tup ys)):KT H' kvs xs:=
 Paired.mapP r fun _ _ z=>⟨z.1,ht _ _ z.2.1,z.2.2⟩
section
variable {P:Program} {w:World} {H:Hp} {h:Heap} {a:Addr}
theorem rn {u:HO} (ok:HOk P w H h) (e:Rd H a u):bh P w H h a u:=e.ok ok
theorem gU {kvs:List (Key×V)} (ok:HOk P w H h) (e:Rd H a (.dK kvs)):kvs.length≤sizeLine∧(a==sysModules)=false∧∃ vs,KV kvs vs∧h.DictOf (bH P w) a vs:=
 show bh P w H h a (.dK kvs) from rn ok e
theorem jK {kvs:List (Key×V)} (ok:HOk P w H h) (e:H a=some (.dK kvs)):kvs.length≤sizeLine∧(a==sysModules)=false∧∃ vs,KV kvs vs∧h.DictOf (bH P w) a vs:=gU ok (.inl e)
theorem gI {ks:List Key} (ok:HOk P w H h) (e:H a=some (.tup (ks.map kV))):(tupleKind (bH P w)).is h ks a:=by
 obtain ⟨_,its,r,o,h1,h2,n,h3⟩:=(show bh P w H h a (.tup (ks.map kV)) from ok a _ e)
 exact ⟨o,its.toArray,n,h1,h2,h3,by simpa using nq r⟩
theorem ki {kvs : List (List Key × V)} (ok : HOk P w H h) (e : Rd H a (.dT kvs)) : kvs.length ≤ sizeLine ∧ (a == sysModules) = false ∧
    ∃ xs, KT H kvs xs ∧ h.DictOfH (tupleKind (bH P w)) a xs := by
  obtain ⟨z, y, xs, r, o, es, ep, h1, h2, h3, h4, h5⟩ := (show bh P w H h a (.dT kvs) from rn ok e)
  refine ⟨z, y, xs, r, o, es, ep, h1, h2, h3, h4, fun x hx => ?_, h5⟩
  have all : ∀ {l : List (List Key × V)} {m : List (List Key × Addr × Value)}, KT H l m → ∀ x ∈ m, (tupleKind (bH P w)).is h x.1 x.2.1 := by
    intro l m q
    induction q with
    | nil => intro x hx; exact nomatch hx
    | @cons p q ps qs hq t ih =>
      intro x hx
      rcases List.mem_cons.mp hx with e | hx
      · subst e
        exact gI ok (by rw [← hq.1]; exact hq.2.1)
      · exact ih x hx
  exact all r x hx
theorem si {kvs:List (List Key×V)} (ok:HOk P w H h) (e:H a=some (.dT kvs)):kvs.length≤sizeLine∧(a==sysModules)=false∧
 ∃ xs,KT H kvs xs∧h.DictOfH (tupleKind (bH P w)) a xs:=ki ok (.inl e)
end
def dG (H:Hp) (a:Addr) (y:V) (r:Option V):Prop:=
 (∃ kvs k,Rd H a (.dK kvs)∧y=kV k∧r=bK kvs k)∨∃ kvs k b,Rd H a (.dT kvs)∧y=.ref b∧H b=some (.tup (k.map kV))∧r=bK kvs k
def mE (H:Hp) (a:Addr) (y v:V) (H':Hp):Prop:=
 (∃ kvs k,H a=some (.dK kvs)∧y=kV k∧kvs.length<sizeLine∧H'=upd H a (.dK (cB kvs k v)))∨
 ∃ kvs k b,H a=some (.dT kvs)∧y=.ref b∧H b=some (.tup (k.map kV))∧kvs.length<sizeLine∧H'=upd H a (.dT (cB kvs k v))
theorem dG.k {H:Hp} {a:Addr} {kvs:List (Key×V)} {k:Key} (e:H a=some (.dK kvs)):dG H a (kV k) (bK kvs k):=.inl ⟨kvs,k,.inl e,rfl,rfl⟩
theorem dG.t {H:Hp} {a b:Addr} {kvs:List (List Key×V)} {k:List Key} (e:H a=some (.dT kvs)) (eb:H b=some (.tup (k.map kV))):dG H a (.ref b) (bK kvs k):=.inr ⟨kvs,k,b,.inl e,rfl,eb,rfl⟩
theorem mE.k {H:Hp} {a:Addr} {kvs:List (Key×V)} {k:Key} {v:V} (e:H a=some (.dK kvs)) (hl:kvs.length<sizeLine):mE H a (kV k) v (upd H a (.dK (cB kvs k v))):=.inl ⟨kvs,k,e,rfl,hl,rfl⟩
section
variable {X:Cx} {pins:List (Addr×Obj)} {σ:St} {H:Hp} {s:Shared} {a:Addr} {y v:V} {u r:Value} {o:Option V} {A:Around} {E:Value→Shared→Prop}
theorem Inv.big (I:Inv X pins σ H s):sysModules<s.heap.objs.size:=by
 have h:mainGlobals<s.heap.objs.size:=(I.mod.glob.keeps I.bk).lt
 exact Nat.lt_trans (by decide) h
theorem uc {Q:Value→Shared→Prop} (hu:A.units+1<cLine) (I:Inv X pins σ H s) (g:dG H a y (some v)) (ry:aJ y u) (h:∀ w' s',Inv X pins σ H s'→aJ v w'→Q w' s'):
   wpAny (model X.prog X.w) A (getItem (.ref a) u) Q E s:=by
 rcases g with ⟨kvs,k,e,ey,l⟩ | ⟨kvs,k,b,e,ey,eb,l⟩
 · subst ey
   obtain ⟨z,hd,vs,rel,dd⟩:=gU I.hok e
   obtain ⟨w',hw,rw'⟩:=cN.some_of (v:=v) (o:=valueAt vs k) (by rw [l];exact rel.val k)
   exact wpAny_getItem_of (gO ry) dd.mapOf hw (h w' _ (I.tok _) rw')
 · subst ey
   cases (show u=Value.ref b from ry)
   obtain ⟨z,hd,xs,rel,dd⟩:=ki I.hok e
   obtain ⟨w',hw,rw'⟩:=cN.some_of (v:=v) (o:=(atKey xs k).map (·.2)) (by rw [l];exact rel.val k)
   obtain ⟨p,hp,hp2⟩:=Option.map_eq_some_iff.mp hw
   refine wpAny_getItem_heap (tupleKind_room_in1 hu) (gI I.hok eb) dd hp ?_
   rw [hp2]
   exact h w' _ (I.tok _) rw'
theorem zI {Q:Value→Shared→Prop} (hu:A.units+1<cLine) (I:Inv X pins σ H s) (g:dG H a y o) (ry:aJ y u) (h:∀ s',Inv X pins σ H s'→Q (.bool (!o.isSome)) s'):
   wpAny (model X.prog X.w) A (compareOp .NotIn u (.ref a)) Q E s:=by
 rcases g with ⟨kvs,k,e,ey,l⟩ | ⟨kvs,k,b,e,ey,eb,l⟩
 · subst ey
   obtain ⟨z,hd,vs,rel,dd⟩:=gU I.hok e
   refine wpAny_notIn_of (gO ry) hd dd.mapOf ?_
   rw [← (rel.val k).isSome_eq,←l]
   exact h _ (I.tok _)
 · subst ey
   cases (show u=Value.ref b from ry)
   obtain ⟨z,hd,xs,rel,dd⟩:=ki I.hok e
   refine wpAny_notIn_heap (tupleKind_room_in1 hu) (gI I.hok eb) hd dd ?_
   have q:=(rel.val k).isSome_eq
   rw [Option.isSome_map] at q
   rw [← q,←l]
   exact h _ (I.tok _)
theorem il {h':Heap} {t':Nat} {ob:HO} (I:Inv X pins σ H s) (mu:Mut (H a)) (hs:Heap.SameBut a s.heap h') (he:∃ q,h'.get? a=some q) (new:bh X.prog X.w (upd H a ob) h' a ob):
  Inv X pins σ (upd H a ob) { s with heap:=h',toks:=t' }:=
 I.write (x:=a) (e:=a) mu (.inl rfl) (fun b q hb z=>(hs.2 b hb).trans z) he new
theorem lu {P:Program} {w:World} {H':Hp} {h':Heap} {kvs:List (Key×V)} {vs:List (Key×Value)} (z:kvs.length≤sizeLine) (hd:(a==sysModules)=false) (rel:KV kvs vs) (dd:h'.DictOf (bH P w) a vs):
 bh P w H' h' a (.dK kvs):=⟨z,hd,vs,rel,dd⟩
theorem tG {H':Hp} {Q:Unit→Shared→Prop} (hu:A.units+1<cLine) (I:Inv X pins σ H s) (g:mE H a y v H') (ry:aJ y u) (rv:aJ v r) (h:∀ s',Inv X pins σ H' s'→Q () s'):
   wpAny (model X.prog X.w) A (setItem (.ref a) u r) Q E s:=by
 rcases g with ⟨kvs,k,e,ey,l,eH⟩ | ⟨kvs,k,b,e,ey,eb,l,eH⟩
 · subst ey eH
   obtain ⟨z,hd,vs,rel,dd⟩:=jK I.hok e
   have hz:vs.length≤sizeLine:=by rw [← rel.length];exact z
   have hl:(cB kvs k v).length≤sizeLine:=by have:=fI kvs k v;omega
   refine wpAny_setItem_pairs (hsz:=hz) (gO ry) dd fun h' dd' hs=>h _ ?_
   have he:∃ q,h'.get? a=some q:=let ⟨q,_,_,hq,_⟩:=dd';⟨q,hq⟩
   exact il I (by rw [e];exact True.intro) hs he (lu hl hd (rel.put k rv) dd')
 · subst ey eH
   cases (show u=Value.ref b from ry)
   obtain ⟨z,hd,xs,rel,dd⟩:=si I.hok e
   have hz:xs.length≤sizeLine:=by rw [← Paired.length rel];exact z
   have hl:(cB kvs k v).length≤sizeLine:=by have:=fI kvs k v;omega
   refine wpAny_setItem_heap (hsz:=hz) (tupleKind_room_in1 hu) (gI I.hok eb) dd fun h' dd' hs=>h _ ?_
   obtain ⟨q,es,ep,hq,h2,h3,h4,_,h5⟩:=dd'
   refine il I (by rw [e];exact True.intro) hs ⟨q,hq⟩ ⟨hl,hd,_,(rel.put k eb rv).keeps fun c ys ec=>?_,q,es,ep,hq,h2,h3,h4,h5⟩
   rw [ao (ci ec e (fun z=>nomatch z))]
   exact ec
end
section
variable {X:Cx} {pins:List (Addr×Obj)} {σ:St} {H:Hp} {s:Shared} {a:Addr} {kvs:List (Key×V)} {k:Key} {u:Value} {A:Around} {E:Value→Shared→Prop}
theorem Ga {v:V} {more:List Value} {Q:Value→Shared→Prop} (I:Inv X pins σ H s) (e:H a=some (.dK kvs)) (ry:aJ (kV k) u) (l:bK kvs k=some v) (hm:more=[]∨∃ x,more=[x])
  (h:∀ w' s',Inv X pins σ (upd H a (.dK (jc kvs k))) s'→aJ v w'→Q w' s'):wpAny (model X.prog X.w) A (call (.builtin "dict.pop") (.ref a::u::more)) Q E s:=by
 obtain ⟨z,hd,vs,rel,dd⟩:=jK I.hok e
 obtain ⟨w',hw,rw'⟩:=cN.some_of (v:=v) (o:=valueAt vs k) (by rw [← l];exact rel.val k)
 have hp:(keyPart u).isSome=true:=by
  cases k with
  | inl i=>obtain ⟨t,q⟩:=(show ∃ t,u=Value.int i t from ry);subst q;rfl
  | inr x=>obtain ⟨t,q⟩:=(show ∃ t,u=Value.str x t from ry);subst q;rfl
 have ha:argsOk "dict.pop" ⟨.ref a::u::more,[]⟩:=by
  rcases hm with q | ⟨x,q⟩
  · subst q;exact PySem.F.args_dict_pop_2 _ _
  · subst q;exact PySem.F.args_dict_pop_3 _ _ _
 refine call_meetsIn PySem.F.slot_dict_pop dd.typeIs PySem.F.entry_dict_pop ha (meets_dict_pop_there (bH X.prog X.w) a (gO ry) more hm hp)
  ⟨vs,w',dd,by rw [← rel.length];exact z,hw,fun h' dd' hs=>h w' _ ?_ rw'⟩
 have he:∃ q,h'.get? a=some q:=let ⟨q,_,_,hq,_⟩:=dd';⟨q,hq⟩
 exact il I (by rw [e];exact True.intro) hs he (lu (Nat.le_trans (vF kvs k) z) hd (rel.drop k) dd')
theorem FN {Q:Value→Shared→Prop} (I:Inv X pins σ H s) (e:Rd H a (.dK kvs)) (h:∀ t s',Inv X pins σ H s'→Q (.int kvs.length t) s'):wpAny (model X.prog X.w) A (call (.builtin "len") [.ref a]) Q E s:=by
 obtain ⟨z,hd,vs,rel,dd⟩:=gU I.hok e
 refine call_len_dict hd dd (by rw [← rel.length];rw [sizeLine_eq] at z;omega) ?_
 rw [← rel.length]
 exact h _ _ (I.tok _)
end
theorem qa {X:Cx} {pins:List (Addr×Obj)} {σ:St} {H:Hp} {s:Shared} {a:Addr} {y:V} {o:Option V} (I:Inv X pins σ H s) (g:dG H a y o):s.TypeIs (.ref a) "dict" :=by
 rcases g with ⟨kvs,k,e,_,_⟩ | ⟨kvs,k,b,e,_,_,_⟩
 · obtain ⟨_,_,vs,_,dd⟩:=gU I.hok e
   exact dd.typeIs
 · obtain ⟨_,_,xs,_,dd⟩:=ki I.hok e
   exact dd.typeIs
section
variable {X:Cx} {o i e value:Expr} {pos pos' tpos:Pos} {td ty tv:TE}
end
theorem wn {P:Program} {w:World} {H:Hp} (h:Heap) (hb:sysModules<h.objs.size):bh P w H (h.push { cls:=.type "dict",data:=.dict #[] }) h.objs.size (.dK []):=
 ⟨Nat.zero_le _,beq_eq_false_iff_ne.mpr (Ne.symm (Nat.ne_of_lt hb)),[],.nil,Heap.DictOf.new h⟩
theorem xA {P:Program} {w:World} {H:Hp} (h:Heap) (hb:sysModules<h.objs.size):bh P w H (h.push { cls:=.type "dict",data:=.dict #[] }) h.objs.size (.dT []):=
 ⟨Nat.zero_le _,beq_eq_false_iff_ne.mpr (Ne.symm (Nat.ne_of_lt hb)),[],.nil,_,#[],0,Heap.get?_push_size _ rfl,⟨rfl,rfl,rfl⟩,rfl,rfl,List.nodup_nil⟩
def tV:TE:=fun _ H Q=>∀ p,H p=none→Q (.ref p) (upd H p (.dK []))
def tJ:TE:=fun _ H Q=>∀ p,H p=none→Q (.ref p) (upd H p (.dT []))
section
variable {X:Cx} {pos:Pos}
theorem vh:PE X (.Dict [] [] pos) tV:=fun pins s σ H Q I h=>
 wpAny_Dict_empty ⟨.ref s.heap.objs.size,_,I.laid (a:=s.heap.objs.size) (o:=.dK []) (t':=s.toks) (fun _ _ q=>Heap.get?_push_of_some _ q) (Nat.le_refl _) (wn s.heap I.big),rfl,h _ (I.hok.fresh (Nat.le_refl _))⟩
theorem vo:PE X (.Dict [] [] pos) tJ:=fun pins s σ H Q I h=>
 wpAny_Dict_empty ⟨.ref s.heap.objs.size,_,I.laid (a:=s.heap.objs.size) (o:=.dT []) (t':=s.toks) (fun _ _ q=>Heap.get?_push_of_some _ q) (Nat.le_refl _) (xA s.heap I.big),rfl,h _ (I.hok.fresh (Nat.le_refl _))⟩
end
section
variable {X:Cx} {pins:List (Addr×Obj)} {σ:St} {H:Hp} {s:Shared} {a:Addr} {y d:V} {u r:Value} {o:Option V} {A:Around} {E:Value→Shared→Prop}
theorem Ca {Q:Value→Shared→Prop} (hu:A.units+1<cLine) (I:Inv X pins σ H s) (g:dG H a y o) (ry:aJ y u) (h:∀ w' s',Inv X pins σ H s'→aJ (o.getD .non) w'→Q w' s'):
   wpAny (model X.prog X.w) A (call (.builtin "dict.get") [.ref a,u]) Q E s:=by
 rcases g with ⟨kvs,k,e,ey,l⟩ | ⟨kvs,k,b,e,ey,eb,l⟩
 · subst ey
   obtain ⟨z,hd,vs,rel,dd⟩:=gU I.hok e
   refine call_meetsIn PySem.F.slot_dict_get dd.typeIs PySem.F.entry_dict_get (PySem.F.args_dict_get_2 _ _) (meets_dict_get (bH X.prog X.w) a (gO ry) hd) ⟨_,dd.mapOf,h _ _ (I.tok _) ?_⟩
   rw [l]
   exact (rel.val k).getD rfl
 · subst ey
   cases (show u=Value.ref b from ry)
   obtain ⟨z,hd,xs,rel,dd⟩:=ki I.hok e
   refine call_meetsIn PySem.F.slot_dict_get dd.typeIs PySem.F.entry_dict_get (PySem.F.args_dict_get_2 _ _) (meetsH_dict_get (tupleKind (bH X.prog X.w)) a b hd) ⟨tupleKind_room_in1 hu,k,xs,gI I.hok eb,dd,h _ _ (I.tok _) ?_⟩
   rw [l]
   exact (rel.val k).getD rfl
end
section
variable {X:Cx} {o e f:Expr} {apos cpos:Pos} {td ty tx:TE}
end
section
variable {X:Cx} {pins:List (Addr×Obj)} {σ:St} {H:Hp} {s:Shared} {a:Addr} {kvs:List (Key×V)} {A:Around} {E:Value→Shared→Prop}
theorem xH {Q:Value→Shared→Prop} (I:Inv X pins σ H s) (e:Rd H a (.dK kvs)) (h:∀ p s',H p=none→Inv X pins σ (upd H p (.dK kvs)) s'→Q (.ref p) s'):wpAny (model X.prog X.w) A (call (.type "dict") [.ref a]) Q E s:=by
 obtain ⟨z,hd,vs,rel,dd⟩:=gU I.hok e
 refine kt_call_dict hd dd (by rw [← rel.length];exact z) fun h' dd' hs=>?_
 refine h _ _ (I.hok.fresh (Nat.le_refl _)) (I.laid (a:=s.heap.objs.size) (o:=.dK kvs) (t':=s.toks) (fun b q hq=>?_) (Nat.le_refl _) (lu z (beq_eq_false_iff_ne.mpr (Ne.symm (Nat.ne_of_lt I.big))) rel dd'))
 exact (hs.2 b (Nat.ne_of_lt (Heap.lt_size hq))).trans (Heap.get?_push_of_some _ hq)
end
section
variable {X:Cx} {pins:List (Addr×Obj)} {σ:St} {H:Hp} {s:Shared} {a:Addr} {y:V} {u:Value} {A:Around} {E:Value→Shared→Prop}
end
end L2
namespace Att
open PySem PySem.W PySem.Calls PyProof.Rows
theorem ints_of_wellAll {P : Params} {h : Heap} : ∀ (ns : List Int) (vs : List Value), WellAll P h vs (ns.map WData.int) → IntsAre vs ns := by
  intro ns
  induction ns with
  | nil =>
    intro vs w
    rw [List.map_nil] at w
    cases w
    exact .nil
  | cons n ns ih =>
    intro vs w
    rw [List.map_cons] at w
    cases w with
    | cons a b =>
      cases a
      exact .cons _ _ (ih _ b)
theorem script_of {l : OpenLaw} {n : Nat} (hn : l.most = some n) {P : Params} {h : Heap} {args : List WData} {vals : List Value}
    (hpre : l.row.toRowW.claim.pre args = true) (hwl : WellAll P h vals args) :
    ∃ a vs ns, vals = [Value.ref a] ∧ args = [WData.list (ns.map WData.int)] ∧ h.get? a = some { cls := .type "list", data := .seq vs.toArray } ∧ IntsAre vs ns ∧ ns.length ≤ n := by
  have hsh : WShape.hasAll [] args [.list .int] = true := (pre_splitW hpre).1
  have hc : l.pre.holds [] { args := args } = true := (pre_splitW hpre).2
  obtain ⟨d, r, rfl, h1, h2⟩ := hasAllW_cons hsh
  obtain rfl := hasAllW_nil h2
  obtain ⟨xs, rfl, h3⟩ := hasW_list h1
  obtain ⟨ns, rfl⟩ := items_int h3
  have hlen : ns.length ≤ n := by
    unfold OpenLaw.pre at hc
    have h4 : (WTm.not (.lt (.lit (.int (n : Int))) (.len (.arg 0)))).holds [] { args := [.list (ns.map .int)] } = true := by
      have h4 := (holds_andW hc).1
      rw [hn] at h4
      exact h4
    have h5 := condW_of h4 (w_not (w_lt w_lit (w_len_list (w_arg rfl))))
    rw [List.length_map] at h5
    refine Nat.le_of_not_lt fun q => ?_
    have q' : (n : Int) < ((ns.length : Nat) : Int) := by omega
    first
      | (rw [decide_eq_true q'] at h5; exact absurd h5 (by decide))
      | (simp at h5; omega)
  cases hwl with
  | cons w1 w2 =>
    cases w2
    cases w1 with
    | list ho hall => exact ⟨_, _, ns, rfl, rfl, ho, ints_of_wellAll ns _ hall, hlen⟩
theorem post_true (l:OpenLaw) (args:List WData):l.row.toRowW.claim.post args (.bool true) args=true:=
 postW_of (r:=l.row.toRowW) (X:=(true==true))
  (show WShape.has [] (.bool true) .bool=true by first | rfl | decide | simp [WShape.has,WShape.arms,WShape.armsAll])
  (show (WTm.eq .res (.lit (.bool true))).value [] { args:=args,res:=some (.bool true),after:=args }=some (.bool (true==true)) from w_eq_bool (w_res rfl) w_lit) rfl
theorem attach_call {l : OpenLaw} {n : Nat} {q : Program} {loose : List Str} {XP : (Str → Option Value) → Heap → Prop} {YP : World → Heap → Prop} {d : DefRec}
  (hn : l.most = some n) (hdf : d.params.defaults = [])
  (call : ∀ (w : World) (s₀ s₁ : Shared) (mg mb : Str → Option Value) (fa : Addr) (o : Obj) (pm cd doc : Value) (a : Addr) (vs : List Value) (ns : List Int),
   Ground q loose [] XP w s₀ mg mb s₁.heap → YP w s₁.heap →
   s₁.heap.get? fa = some o → o.data = .func (docDef d.name d.params d.body d.scope pm cd doc) → s₁.heap.CodeRec cd d.name → mg d.name = some (.ref fa) →
   s₁.heap.get? a = some { cls := .type "list", data := .seq vs.toArray } → IntsAre vs ns → ns.length ≤ n → s₁.gens = #[] →
   codeAny (model l.prog w) callerA (.call (.ref fa) ⟨[.ref a], []⟩) (fun r s' => r = .ok (.ret (.bool true)) ∧ OldK s₁.heap s'.heap ∧ s'.os = s₁.os ∧ AllBare s'.gens) s₁) :
  WalkO q loose XP YP l.row.toRowW d [] (fun f vs => PySem.call f vs) := by
 intro w s₀ s₁ mg mb G Y fa o pm cd doc dV kV ho hd hcd hD hmg hg args vals as hpre hlay hrd hwl hlo
 obtain rfl : dV = .none := Dflts.none hD hdf
 obtain rfl : kV = .none := Dflts.noKw hD
 obtain ⟨a, vs, ns, rfl, rfl, hobj, hints, hlen⟩ := script_of hn hpre hwl
 refine enter_call (codeAny_mono (call w s₀ s₁ mg mb fa o pm cd doc a vs ns G Y ho (fd_plain hd) hcd hmg hobj hints hlen hg) fun r s' hq => ?_)
 obtain ⟨rfl, h2, h3, h4⟩ := hq
 exact ⟨.inl ⟨.bool true, .bool true, [], rfl, fun _ => rfl, .bool true, post_true l _, fun _ => ⟨List.Pairwise.nil, fun _ hm => (nomatch hm)⟩⟩, h2, h3, h4⟩
section
variable {prog:Program} {w:World} {A:Around} {E:Value→Shared→Prop} {s:Shared} {K:Frag}
end
end Att
namespace L2
open PySem PySem.Spec PyProof.Rows
theorem jD:∀ {vs:List Value} {ns:List Int},IntsAre vs ns→aZ (ns.map V.int) vs
 | _,_,.nil=> .nil
 | _,_,.cons n t h=> .cons ⟨t,rfl⟩ (jD h)
end L2
namespace L2
open PySem PySem.Spec PyProof.Rows
end L2
namespace L2
open PySem PySem.Spec PyProof.Rows
def bI (s:Stmt):Arguments:=match s with
 | .FunctionDef _ a _ _ _ _ _ _ _ _=>a
 | _=>{ posonlyargs:=[],args:=[],vararg:=none,kwonlyargs:=[],kw_defaults:=[],kwarg:=none,defaults:=[] }
def aN (s:Stmt):List Stmt:=match s with
 | .FunctionDef _ _ b _ _ _ _ _ _ _=>b
 | _=>[]
def af (s:Stmt):Scope:=match s with
 | .FunctionDef _ _ _ _ _ _ sc _ _ _=>sc
 | _=>{ kind:=.function,names:=[],isGenerator:=false,isCoroutine:=false }
abbrev E0:XK:=fun _ _ _=>False
structure Fun (K:W.Frag) (x qual:Str) (st:Stmt) (f:Addr) (fd:FuncData):Prop where
 ex:∃ (oc:Value) (od:Option Addr) (kV doc pm:Value) (an:Option Addr) (cdv ct:Value) (osl:Array (Option Value)),
  fd=W.fnOf x qual (bI st) (aN st) (af st) .none kV doc pm an cdv ct∧K.lookup f=some ⟨oc,od,.func fd,osl⟩∧W.codeIn K cdv qual=true
 kp:W.keepIn K (.ref f)=true
section
variable {P:Program} {w:World} {K:W.Frag} {mg:Str→Option Value} {base:Heap}
theorem Fun.binds {x qual:Str} {st:Stmt} {f:Addr} {fd:FuncData} {ps:List Str} (F:Fun K x qual st f fd)
  (h:∀ (kV doc pm:Value) (an:Option Addr) (cdv ct:Value) (us:List Value),us.length=ps.length→bindArgs (W.fnOf x qual (bI st) (aN st) (af st) .none kV doc pm an cdv ct) ⟨us,[]⟩=pure (ps.zip us)):be K fd ps []:=by
 obtain ⟨oc,od,kV,doc,pm,an,cdv,ct,osl,rfl,lk,hcd⟩:=F.ex
 exact .all (h kV doc pm an cdv ct)
theorem bD {x qual:Str} {st:Stmt} {f:Addr} {oc:Value} {od an:Option Addr} {osl:Array (Option Value)} {kV doc pm cdv ct:Value} (l:K.lookup f=some ⟨oc,od,.func (W.fnOf x qual (bI st) (aN st) (af st) .none kV doc pm an cdv ct),osl⟩)
 (c:W.codeIn K cdv qual=true) (k:W.keepIn K (.ref f)=true):Fun K x qual st f (W.fnOf x qual (bI st) (aN st) (af st) .none kV doc pm an cdv ct):=⟨⟨oc,od,kV,doc,pm,an,cdv,ct,osl,rfl,l,c⟩,k⟩
end
theorem du {n:Nat} (h:n≤1000):n<sizeLine:=Nat.lt_of_le_of_lt h (by decide)
section
variable {X:Cx}
theorem um:bE X (.builtin "len") (fun xs H Q=>∃ a kvs,xs=[V.ref a]∧H a=some (.dK kvs)∧Q (.int kvs.length) H):=by
 intro pins s σ H xs us Q I r h
 obtain ⟨a,kvs,rfl,ha,q⟩:=h
 obtain ⟨u,rfl,ru⟩:=dJ r
 cases ru
 exact FN I (.inl ha) fun t s' I'=>⟨.int kvs.length,H,I',⟨t,rfl⟩,q⟩
end
theorem rF {A B:Prop} (h:A):if true=true then A else B:=by
 rw [if_pos rfl]
 exact h
def ay (H H':Hp):Prop:=∀ b o,H b=some o→H' b=some o
theorem ay.refl (H:Hp):ay H H:=fun _ _ h=>h
theorem ay.trans {H H1 H2:Hp} (a:ay H H1) (b:ay H1 H2):ay H H2:=fun c o h=>b c o (a c o h)
theorem ay.seq {K:W.Frag} {H H':Hp} {a:Addr} {xs:List V} (e:ay H H') (h:SqL K H a xs):SqL K H' a xs:=by
 rcases h with (h | ⟨o,h⟩) | h
 · exact .inl (.inl (e _ _ h))
 · exact .inl (.inr ⟨o,e _ _ h⟩)
 · exact .inr h
section
variable {κ:Type} [DecidableEq κ]
end
end L2
namespace L2
open PySem PySem.Spec PyProof.Rows
def cA:List (Str×NameKind)→List (Str×Addr)→List (Str×Addr)→List (Str×Addr)
 | [],_,cs=>cs
 | (n,k)::r,cells,cs=>cA r cells (if k==.free then (match cells.lookup n with | some a=>(n,a)::cs | none=>cs) else cs)
theorem jF {scope : Scope} {env : Env} (h : ∀ y ∈ scope.names, y.2 = .free → (env.cells.lookup y.1).isSome = true) : closureFor scope env = pure (cA scope.names env.cells []) := by
  have key : ∀ (l : List (Str × NameKind)) (cs : List (Str × Addr)), (∀ y ∈ l, y.2 = .free → (env.cells.lookup y.1).isSome = true) →
      (forIn l cs (fun (x : Str × NameKind) (cs : List (Str × Addr)) => (if (x.2 == NameKind.free) = true then (do let a ← cellOf env x.1; pure (ForInStep.yield ((x.1, a) :: cs))) else (pure (ForInStep.yield cs) : Sem _))) : Sem (List (Str × Addr))) = pure (cA l env.cells cs) := by
    intro l
    induction l with
    | nil => intro cs _; rfl
    | cons y r ih =>
      intro cs hy
      obtain ⟨n, k⟩ := y
      rw [List.forIn_cons]
      by_cases hk : k = .free
      · subst hk
        have hs := hy (n, .free) List.mem_cons_self rfl
        cases e : env.cells.lookup n with
        | none => rw [e] at hs; cases hs
        | some a =>
          have := ih ((n, a) :: cs) (fun z hz => hy z (List.mem_cons_of_mem _ hz))
          simp only [cA, beq_self_eq_true, if_true, e, cellOf, pure_bind]
          exact this
      · have hb : (k == NameKind.free) = false := by simpa using hk
        have := ih cs (fun z hz => hy z (List.mem_cons_of_mem _ hz))
        simp only [cA, hb, Bool.false_eq_true, if_false, pure_bind]
        exact this
  have := key scope.names [] h
  unfold closureFor
  simpa using this
theorem jr : ∀ {l : List (Str × NameKind)} {cells cs : List (Str × Addr)} {x : Str} {c : Addr}, (∀ x c, cs.lookup x = some c → cells.lookup x = some c) → (cA l cells cs).lookup x = some c → cells.lookup x = some c
  | [], _, _, _, _, h, e => h _ _ e
  | (n, k) :: r, cells, cs, x, c, h, e => by
    refine jr (l := r) (fun y d hy => ?_) e
    split at hy
    · split at hy
      · rename_i a ha
        by_cases hyn : y = n
        · subst hyn
          rw [List.lookup_cons_self] at hy
          rw [← hy]; exact ha
        · rw [List.lookup_cons] at hy
          have : (y == n) = false := by simpa using hyn
          rw [this] at hy
          exact h _ _ hy
      · exact h _ _ hy
    · exact h _ _ hy
theorem lx : ∀ {l : List (Str × NameKind)} {cells cs : List (Str × Addr)} {x : Str}, (cs.lookup x).isSome = true → ((cA l cells cs).lookup x).isSome = true
  | [], _, _, _, h => h
  | (n, k) :: r, cells, cs, x, h => by
    refine lx (l := r) ?_
    split
    · split
      · rw [List.lookup_cons]
        split
        · rfl
        · exact h
      · exact h
    · exact h
theorem fL : ∀ {l : List (Str × NameKind)} {cells cs : List (Str × Addr)} {x : Str}, (x, NameKind.free) ∈ l → (cells.lookup x).isSome = true → ((cA l cells cs).lookup x).isSome = true
  | [], _, _, _, h, _ => by cases h
  | (n, k) :: r, cells, cs, x, h, hs => by
    rcases List.mem_cons.mp h with e | h
    · cases e
      refine lx (l := r) ?_
      simp only [beq_self_eq_true, if_true]
      cases e : cells.lookup n with
      | none => rw [e] at hs; cases hs
      | some a => simp only [List.lookup_cons_self]; rfl
    · exact fL (l := r) h hs
theorem iS {x:Str} {k:NameKind}:∀ {l:List (Str×NameKind)},l.lookup x=some k→(x,k)∈l:=fun h=>PySem.mem_of_lookup h
inductive eC (X:Cx) (scope:Scope):List Str→List Nat→Prop where
 | nil:eC X scope [] []
 | cons {y:Str} {i:Nat} {ys:List Str} {is:List Nat} (h1:X.N[i]?=some y) (h2:X.env.kindOf y=some .cell∨X.env.kindOf y=some .free) (h3:scope.names.lookup y=some .free) (h:eC X scope ys is):eC X scope (y::ys) (i::is)
structure eS (scope:Scope) (x:Str) (ys:List Str):Prop where
 kind:scope.kind=.function
 nocell:∀ y∈scope.names,y.2≠ .cell
 names:∀ y∈scope.names,y.2=.local→scope.names.lookup y.1=some .local
 own:scope.names.lookup x=some .local
 all:∀ y∈scope.names,y.2=.free→y.1∈ys
 nd:(x::ys).Nodup
def aD (X:Cx) (scope:Scope) (C:Addr) (N:List Str) (s:Shared) (H:Hp) (fp:List Addr):Cx:=
 { X with N:=N,s₀:=s,H₀:=H,env:=compEnvC scope (cA scope.names X.env.cells []) C X.env,outer:=X.stack,ex:=fp,fn:=fun _=>false,pn:=[],xe:=fun _ _=>False }
def aR (σ:St) (is:List Nat):St:=is.map fun i=>(σ[i]?).getD none
theorem ip {f : Str × NameKind → Str × NameKind} (hf : ∀ p, (f p).1 = p.1) {x : Str} : ∀ (l : List (Str × NameKind)), (l.map f).lookup x = (l.lookup x).map fun k => (f (x, k)).2
  | [] => rfl
  | (n, k) :: r => by
    have ih := ip hf (x := x) r
    have e : f (n, k) = (n, (f (n, k)).2) := Prod.ext (hf (n, k)) rfl
    rw [List.map_cons, e, List.lookup_cons, List.lookup_cons]
    cases hx : x == n with
    | true =>
      have e' : x = n := by simpa using hx
      subst e'; rfl
    | false => exact ih
theorem iJ (scope:Scope) (env:Env) (x:Str):(relabel scope env).names.lookup x=(scope.names.lookup x).map fun k=>if (k==NameKind.free&&env.scope.kind==.function&&env.kindOf x==some .cell) then NameKind.cell else k:=by
 have hf:∀ p:Str×NameKind,((fun (n,k)=>if (k==NameKind.free&&env.scope.kind==.function&&env.kindOf n==some .cell) then (n,NameKind.cell) else (n,k)) p:Str×NameKind).1=p.1:=by
  intro p
  obtain ⟨n,k⟩:=p
  show (if _ then (n,NameKind.cell) else (n,k)).1=n
  split <;> rfl
 have:=ip hf (x:=x) scope.names
 show List.lookup x (List.map _ scope.names)=_
 rw [this]
 congr 1
 funext k
 show (if _ then (x,NameKind.cell) else (x,k)).2=_
 split <;> rfl
theorem dU {scope : Scope} {env : Env} {x : Str} {k : NameKind} (nc : ∀ y ∈ scope.names, y.2 ≠ .cell) (h : (relabel scope env).names.lookup x = some k) (hk : k = .cell ∨ k = .free) : (x, NameKind.free) ∈ scope.names := by
  rw [iJ] at h
  cases q : scope.names.lookup x with
  | none => rw [q] at h; cases h
  | some k' =>
    have hm := iS q
    rw [q] at h
    have h : (if (k' == NameKind.free && env.scope.kind == .function && env.kindOf x == some .cell) then NameKind.cell else k') = k := Option.some.inj h
    by_cases hc : k' = .free
    · subst hc; exact hm
    · have hb : (k' == NameKind.free) = false := by simpa using hc
      rw [hb] at h
      have h : k' = k := h
      subst h
      rcases hk with z | z
      · exact absurd z (nc _ hm)
      · exact absurd z hc
theorem jt {scope:Scope} {env:Env} {x:Str} (h:scope.names.lookup x=some .free):(relabel scope env).names.lookup x=some .cell∨(relabel scope env).names.lookup x=some .free:=by
 rw [iJ,h]
 show some (if _ then _ else _)=_∨some (if _ then _ else _)=_
 split
 · exact .inl rfl
 · exact .inr rfl
theorem fO {scope:Scope} {env:Env} {x:Str} (h:scope.names.lookup x=some .local):(relabel scope env).names.lookup x=some .local:=by
 rw [iJ,h];rfl
theorem nh {X : Cx} {scope : Scope} {ys : List Str} {is : List Nat} {m : Str → Option Value} {h : Heap} {σ : St} (hc : eC X scope ys is)
    (hl : ∀ (i : Nat) (x : Str) (v : V), X.N[i]? = some x → σ[i]? = some (some v) → Vis X.env.scope x → ∃ u, aJ v u ∧ CF X.env h m x u) (nd : True) :
    ∀ (j : Nat) (y : Str) (v : V), ys[j]? = some y → (aR σ is)[j]? = some (some v) → ∃ u, aJ v u ∧ scope.names.lookup y = some .free ∧ ∃ c, X.env.cells.lookup y = some c ∧ h.IsCell c (some u) := by
  induction hc with
  | nil => intro j y v e; simp at e
  | @cons z i zs js h1 h2 h3 hr ih =>
    intro j y v e1 e2
    cases j with
    | zero =>
      simp at e1; subst e1
      have e2 : (σ[i]?).getD none = some v := by simpa [aR] using e2
      have e3 : σ[i]? = some (some v) := by
        cases q : σ[i]? with
        | none => rw [q] at e2; simp at e2
        | some o => rw [q] at e2; simp at e2; rw [e2]
      have hv : Vis X.env.scope z := by
        rcases h2 with q | q
        · exact .inr (.inl q)
        · exact .inr (.inr q)
      obtain ⟨u, r, l⟩ := hl i z v h1 e3 hv
      refine ⟨u, r, h3, ?_⟩
      rcases l with ⟨k, _⟩ | ⟨_, c, e, ic⟩
      · rcases h2 with q | q
        · rw [q] at k; cases k
        · rw [q] at k; cases k
      · exact ⟨c, e, ic⟩
    | succ j =>
      exact ih j y v (by simpa using e1) (by simpa [aR] using e2)
end L2
namespace L2
open PySem PySem.Spec PyProof.Rows
def rR (is:List Nat) (tc:TT) (te:TE) (σ:St) (D:Addr) (J:It) (H1:Hp) (Q:VK):Prop:=∃ W:Nat→Nat→List V→Hp→Prop,(∃ m,W 0 m [] (upd H1 D (.lst [])))∧
 ∀ i m ys H2,W i m ys H2→(J.stop i H2∧Q (.ref D) H2)∨(J.go i H2∧∀ x H3,J.yld i H2 x H3→tc (some x::aR σ is) H3 fun b H4=>if b=true then
  te (some x::aR σ is) H4 fun y H5=>H5 D=some (.lst ys)∧ys.length<sizeLine∧∃ m',m'<m∧W (i+1) m' (ys++[y]) (upd H5 D (.lst (ys++[y])))
  else ∃ m',m'<m∧W (i+1) m' ys H4)
def iH (is:List Nat) (wi:TI) (tc:TT) (te:TE):TE:=fun σ H Q=>wi σ H fun J H1=>∀ D,H1 D=none→rR is tc te σ D J H1 Q
theorem qh (elt target iter c : Expr) (scope : Scope) (pos : Pos) (it acc : Value) (env : Env) :
    compTurn (.ListComp elt [⟨target, iter, [c], 0⟩] scope pos) 0 it acc env = (standAt iter.pos >>= fun _ => pyNext it >>= fun r => match r with
      | none => pure (.done .next)
      | some v => letOwnedTupleGo target it v >>= fun _ => assign target env v >>= fun _ => isTrue c env (eval c env) >>= fun ok =>
        (if ok = true then (eval elt env >>= fun x => call (.builtin "list.append") [acc, x] >>= fun _ => pure ()) else pure ()) >>= fun _ =>
          again (.compLoop (.ListComp elt [⟨target, iter, [c], 0⟩] scope pos) 0 it acc env)) := by
  unfold compTurn
  simp only [List.forIn_cons, List.forIn_nil, List.getElem?_cons_zero, List.getElem?_cons_succ, List.getElem?_nil, bind_assoc, pure_bind, bne_self_eq_false, Bool.false_eq_true, if_false, if_true]
  congr 1
  funext _
  congr 1
  funext r
  cases r with
  | none => rfl
  | some v =>
    simp only [bind_assoc, pure_bind, if_true]
    congr 1; funext _
    congr 1; funext _
    congr 1; funext b
    cases b <;> simp
section
variable {prog:Program} {w:World} {A:Around} {R:Result→Shared→Prop} {s:Shared}
theorem fi {elt target iter c : Expr} {scope : Scope} {pos : Pos} {it acc : Value} {env : Env} (I : Nat → Shared → Prop)
    (turn : ∀ n s, I n s → wpAny (model prog w) A (pyNext it) (fun r s₁ => match r with
      | none => R (.ok .next) s₁
      | some v => wpAny (model prog w) A (letOwnedTupleGo target it v) (fun _ s₁ => wpAny (model prog w) A (assign target env v) (fun _ s₂ => wpAny (model prog w) A (isTrue c env (eval c env)) (fun ok s₂ => if ok = true then wpAny (model prog w) A (eval elt env) (fun x s₃ =>
          wpAny (model prog w) A (call (.builtin "list.append") [acc, x]) (fun _ s₄ => ∃ m, m < n ∧ I m s₄) (notedBy (model prog w) A env fun e s' => R (.error e) s') s₃)
          (notedBy (model prog w) A env fun e s' => R (.error e) s') s₂ else ∃ m, m < n ∧ I m s₂) (notedBy (model prog w) A env fun e s' => R (.error e) s') s₂) (notedBy (model prog w) A env fun e s' => R (.error e) s') s₁) (notedBy (model prog w) A env fun e s' => R (.error e) s') s₁) (notedBy (model prog w) A env fun e s' => R (.error e) s') s)
    (n : Nat) (h : I n s) :
    codeAny (model prog w) A (.compLoop (.ListComp elt [⟨target, iter, [c], 0⟩] scope pos) 0 it acc env) R s := by
  refine codeAny_loop rfl I (fun n s hI => ?_) n h
  show wpAny _ _ ((compTurn (.ListComp elt [⟨target, iter, [c], 0⟩] scope pos) 0 it acc env).onRaise (fun x => do noteFrame x env; theTreesLotGoes x)) _ _ s
  refine wpAny_noted ?_
  rw [qh]
  refine wpAny_bind (wpAny_standAt (wpAny_bind (wpAny_mono (turn n s hI) (fun r s₁ h₁ => ?_) fun _ _ h' => h')))
  cases r with
  | none => exact wpAny_pure h₁
  | some v =>
    refine wpAny_bind (wpAny_mono h₁ (fun _ s₁ h₁ => wpAny_bind (wpAny_mono h₁ (fun _ s₂ h₂ => wpAny_bind (wpAny_mono h₂ (fun ok s₃ h₃ => ?_) fun _ _ h' => h')) fun _ _ h' => h')) fun _ _ h' => h')
    cases ok with
    | true =>
      rw [if_pos rfl] at h₃
      simp only [if_true]
      exact wpAny_bind (wpAny_bind (wpAny_mono h₃ (fun x s₃ h₃ => wpAny_bind (wpAny_mono h₃ (fun _ s₄ h₄ => wpAny_pure (wpAny_pure ⟨rfl, h₄⟩)) fun _ _ h' => h')) fun _ _ h' => h'))
    | false =>
      rw [if_neg Bool.false_ne_true] at h₃
      simp only [Bool.false_eq_true, if_false]
      exact wpAny_bind (wpAny_pure (wpAny_pure ⟨rfl, h₃⟩))
theorem fj {elt target iter : Expr} {scope : Scope} {pos : Pos} {it acc : Value} {env : Env} (I : Nat → Shared → Prop)
    (turn : ∀ n s, I n s → wpAny (model prog w) A (pyNext it) (fun r s₁ => match r with
      | none => R (.ok .next) s₁
      | some v => wpAny (model prog w) A (letOwnedTupleGo target it v) (fun _ s₁ => wpAny (model prog w) A (assign target env v) (fun _ s₂ => wpAny (model prog w) A (eval elt env) (fun x s₃ =>
          wpAny (model prog w) A (call (.builtin "list.append") [acc, x]) (fun _ s₄ => ∃ m, m < n ∧ I m s₄) (notedBy (model prog w) A env fun e s' => R (.error e) s') s₃)
          (notedBy (model prog w) A env fun e s' => R (.error e) s') s₂) (notedBy (model prog w) A env fun e s' => R (.error e) s') s₁) (notedBy (model prog w) A env fun e s' => R (.error e) s') s₁) (notedBy (model prog w) A env fun e s' => R (.error e) s') s)
    (n : Nat) (h : I n s) :
    codeAny (model prog w) A (.compLoop (.ListComp elt [⟨target, iter, [], 0⟩] scope pos) 0 it acc env) R s := by
  refine codeAny_loop rfl I (fun n s hI => ?_) n h
  show wpAny _ _ ((compTurn (.ListComp elt [⟨target, iter, [], 0⟩] scope pos) 0 it acc env).onRaise (fun x => do noteFrame x env; theTreesLotGoes x)) _ _ s
  refine wpAny_noted ?_
  rw [compTurn_list1]
  refine wpAny_bind (wpAny_standAt (wpAny_bind (wpAny_mono (turn n s hI) (fun r s₁ h₁ => ?_) fun _ _ h' => h')))
  cases r with
  | none => exact wpAny_pure h₁
  | some v =>
    exact wpAny_bind (wpAny_mono h₁ (fun _ s₁ h₁ => wpAny_bind (wpAny_mono h₁ (fun _ s₂ h₂ => wpAny_bind (wpAny_bind (wpAny_mono h₂ (fun x s₃ h₃ => wpAny_bind (wpAny_mono h₃
      (fun _ s₄ h₄ => wpAny_pure (wpAny_pure ⟨rfl, h₄⟩)) fun _ _ h' => h')) fun _ _ h' => h'))) fun _ _ h' => h')) fun _ _ h' => h')
end
def mL (X:Cx) (ifs:List Expr) (tc:TT):Prop:=match ifs with
 | []=>tc=fun _ H Q=>Q true H
 | [c]=>PT X c tc
 | _=>False
section
variable {X:Cx}
theorem pj {scope:Scope} {ys:List Str} {is:List Nat} (h:eC X scope ys is):is.length=ys.length:=by
 induction h with
 | nil=>rfl
 | cons _ _ _ _ ih=>simp [ih]
theorem gP {scope : Scope} {ys : List Str} {is : List Nat} (h : eC X scope ys is) {y : Str} (hy : y ∈ ys) : X.env.kindOf y = some .cell ∨ X.env.kindOf y = some .free := by
  induction h with
  | nil => cases hy
  | cons _ h2 _ _ ih =>
    rcases List.mem_cons.mp hy with e | e
    · rw [e]; exact h2
    · exact ih e
theorem nr {elt iter : Expr} {ifs : List Expr} {x : Str} {px pos : Pos} {scope : Scope} {ys : List Str} {is : List Nat} {tc : TT} {te : TE} {pins : List (Addr × Obj)} {σ : St} {H2 : Hp} {s2 : Shared} {it : Addr} {fp : List Addr} {tn : Nat → Heap → Prop} {J : It} {E : Value → Shared → Prop} {Q : VK} {RR : Value → Addr → Result → Shared → Prop}
    (hc : X.calm = true) (S : eS scope x ys) (hcap : eC X scope ys is)
    (hif : ∀ C s H fp, mL (aD X scope C (x :: ys) s H fp) ifs tc) (he : ∀ C s H fp, PE (aD X scope C (x :: ys) s H fp) elt te)
    (I2 : Inv X pins σ H2 s2) (T : iQ X.prog X.w X.K (.Name x px) J fp it tn) (st2 : tn 0 s2.heap) (f2 : ∀ b ∈ fp, gB X pins H2 b)
    (hW : ∀ D, H2 D = none → ∃ W : Nat → Nat → List V → Hp → Prop, (∃ m, W 0 m [] (upd H2 D (.lst []))) ∧
      ∀ i m ys H2, W i m ys H2 → (J.stop i H2 ∧ Q (.ref D) H2) ∨ (J.go i H2 ∧ ∀ x H3, J.yld i H2 x H3 → tc (some x :: aR σ is) H3 fun b H4 => if b = true then
        te (some x :: aR σ is) H4 fun y H5 => H5 D = some (.lst ys) ∧ ys.length < sizeLine ∧ ∃ m', m' < m ∧ W (i + 1) m' (ys ++ [y]) (upd H5 D (.lst (ys ++ [y])))
        else ∃ m', m' < m ∧ W (i + 1) m' ys H4))
    (hRR : ∀ D C H' s', (X.s₀.heap.objs.size ≤ C ∧ ∀ p ∈ X.pn ++ pins, p.1 ≠ C) → (∃ m, s'.heap.Ns C m) → C ≠ X.env.locals → H' C = none → Inv X pins σ H' s' → (∀ h', Heap.SameBut C s'.heap h' → Inv X pins σ H' { s' with heap := h' }) → Q (.ref D) H' → RR (.ref D) C (.ok .next) s') :
    wpAny (model X.prog X.w) X.A (newList []) (fun acc s₃ => wpAny (model X.prog X.w) X.A (newFunctionEnv scope X.env.globals (cA scope.names X.env.cells []) [] X.env.qual none .none (some X.env)) (fun cenv s₄ =>
      codeAny (model X.prog X.w) X.A (.compStart (.ListComp elt [⟨.Name x px, iter, ifs, 0⟩] scope pos) 0 (.ref it) acc { cenv with scope := relabel scope X.env }) (RR acc cenv.locals) s₄) E s₃) E s2 := by
  have hf2 : H2 s2.heap.objs.size = none := I2.fresh
  refine wpAny_newObj_type (wpAny_newFunctionEnv S.nocell (by intro y hy; simp at hy) (fun h₁ hns₁ hsb₁ => ?_) S.kind)
  dsimp only at hns₁ hsb₁ ⊢
  have I3 : Inv X pins σ (upd H2 s2.heap.objs.size (.lst [])) { s2 with heap := s2.heap.push { cls := .type "list", data := .seq ([] : List Value).toArray } } := I2.lnew (t' := s2.toks) (ys := []) .nil (Nat.zero_le _)
  obtain ⟨W, ⟨m0, w0⟩, turn⟩ := hW _ hf2
  generalize hD : s2.heap.objs.size = D at I3 w0 turn hf2 ⊢
  generalize hs3 : ({ s2 with heap := s2.heap.push { cls := .type "list", data := .seq ([] : List Value).toArray } } : Shared) = s3 at I3
  have hp3 : s2.heap.push { cls := .type "list", dict := none, data := .seq ([] : List Value).toArray } = s3.heap := by rw [← hs3]
  rw [hp3] at hns₁ hsb₁ ⊢
  have tk3 : s2.toks = s3.toks := by rw [← hs3]
  generalize hH3 : upd H2 D (.lst []) = H3 at I3 w0
  generalize hC : s3.heap.objs.size = C at hns₁ hsb₁ ⊢
  have keep2 : ∀ b o, s2.heap.get? b = some o → s3.heap.get? b = some o := fun b o e => by rw [← hp3]; exact Heap.get?_push_of_some _ e
  have keep3 : ∀ b o, s3.heap.get? b = some o → h₁.get? b = some o := fun b o e => hsb₁.extBut b o (by rw [← hC]; exact Nat.ne_of_lt (Heap.lt_size e)) (Heap.get?_push_of_some _ e)
  have st3 : tn 0 s3.heap := T.keep _ _ _ st2 fun b _ o e => keep2 b o e
  have st4 : tn 0 h₁ := T.keep _ _ _ st3 fun b _ o e => keep3 b o e
  have fp3 : ∀ b ∈ fp, H3 b = none ∧ b < C := fun b hb => by
    obtain ⟨o, e, _⟩ := T.obj _ _ st2 b hb
    refine ⟨?_, by rw [← hC]; exact Heap.lt_size (keep2 b o e)⟩
    rw [← hH3, ao (by rw [← hD]; exact Nat.ne_of_lt (Heap.lt_size e))]
    exact (f2 b hb).1
  have hcells : ∀ {z : Str} {c : Addr}, (cA scope.names X.env.cells []).lookup z = some c → X.env.cells.lookup z = some c := fun h => jr (fun _ _ q => by cases q) h
  have hX : (aD X scope C (x :: ys) s3 H3 fp).Ok := by
    refine ⟨I3.ok.mod, S.kind, I3.ok.glob, I3.ok.blt, Nat.le_of_eq hC, fun y z c h1 h2 => I3.ok.inj y z c (hcells h1) (hcells h2), fun y hy => ?_, fun y c h _ => absurd (show false = true from h) Bool.false_ne_true, I3.ok.hd, I3.ok.frames, .inl rfl, fun b hb => ⟨Nat.ne_of_lt (fp3 b hb).2, fun y c h => (f2 b hb).2.2.2.2.1 y c (hcells h)⟩, fun b o e => I3.bs b o e, Nat.le_trans I3.ok.bsz I3.sz, fun b o e hb => ?_, fun b hb z => ?_, I3.stack, I3.stkFree⟩
    · have hy : (relabel scope X.env).names.lookup y = some .cell ∨ (relabel scope X.env).names.lookup y = some .free := hy
      have hm : (y, NameKind.free) ∈ scope.names := by
        rcases hy with q | q
        · exact dU S.nocell q (.inl rfl)
        · exact dU S.nocell q (.inr rfl)
      have hs : ∃ c, X.env.cells.lookup y = some c := by
        by_cases hk : X.env.kindOf y = some .cell ∨ X.env.kindOf y = some .free
        · exact I3.ok.has y hk
        · exact absurd (gP hcap (S.all _ hm rfl)) hk
      exact Option.isSome_iff_exists.mp (fL hm (Option.isSome_iff_exists.mpr hs))
    · rcases (f2 b hb).2.2.2.1 with z | z
      · exact I3.ok.noex b o e z
      · exact absurd (Nat.lt_of_lt_of_le (Heap.lt_size e) (Nat.le_trans I3.ok.bsz z)) (Nat.lt_irrefl _)
    · rcases List.mem_cons.mp (I3.stkSub b z) with q | q
      · exact (f2 b hb).2.1 q
      · exact (f2 b hb).2.2.1 q
  have I4 : Inv (aD X scope C (x :: ys) s3 H3 fp) [] (none :: aR σ is) H3 { s2 with heap := h₁, toks := s2.toks + ([] : List (Str × Value)).length } := by
    obtain ⟨m3, hm3, hl3⟩ := id I3.loc
    refine ⟨hX, ?_, ?_, Un.kept keep3, ⟨_, hns₁, fun i y v e1 e2 e3 => ?_⟩, fun y c e => ?_, ?_, fun y c e => I3.freeC y c (hcells e), fun p hp => absurd (show p ∈ ([] : List (Addr × Obj)) from hp) (by simp), I3.hok.kept keep3, ?_⟩
    · show s2.os = s3.os
      rw [← hs3]
    · have := I2.bare; exact this
    · cases i with
      | zero => simp at e2
      | succ j =>
        obtain ⟨u, r, hfr, c, ec, ic⟩ := nh hcap hl3 trivial j y v (by have e1' : (x :: ys)[j + 1]? = some y := e1; simpa using e1') (by simpa using e2)
        have hk := jt (env := X.env) hfr
        obtain ⟨c', ec'⟩ := Option.isSome_iff_exists.mp (fL (cs := []) (iS hfr) (by rw [ec]; rfl) (cells := X.env.cells))
        have : c' = c := by have := hcells ec'; rw [ec] at this; exact (Option.some.inj this).symm
        subst this
        obtain ⟨o, ho, hd⟩ := ic
        exact ⟨u, r, .inr ⟨hk, c', ec', o, keep3 _ _ ho, hd⟩⟩
    · obtain ⟨v, o, ho, hd⟩ := I3.cell y c (hcells e)
      exact ⟨v, o, keep3 _ _ ho, hd⟩
    · have := I3.hok.fresh (a := C) (Nat.le_of_eq hC)
      exact this
    · have := pj hcap
      show (none :: aR σ is).length = (x :: ys).length
      simp [aR, this]
  have lenσ : ∀ v : Option V, (v :: aR σ is).set 0 = fun w => w :: aR σ is := fun v => rfl
  have hown : (relabel scope X.env).names.lookup x = some .local := fO S.own
  have loop : codeAny (model X.prog X.w) X.A (.compLoop (.ListComp elt [⟨.Name x px, iter, ifs, 0⟩] scope pos) 0 (.ref it) (.ref D) (compEnvC scope (cA scope.names X.env.cells []) C X.env)) (RR (.ref D) C)
      { s2 with heap := h₁, toks := s2.toks + ([] : List (Str × Value)).length } := by
    have fin : ∀ {H' : Hp} {v : Option V} {s' : Shared}, Inv (aD X scope C (x :: ys) s3 H3 fp) [] (v :: aR σ is) H' s' → Q (.ref D) H' → RR (.ref D) C (.ok .next) s' := fun {H' v s'} J q => by
      obtain ⟨m', hm', _⟩ := J.loc
      have hCL : C ≠ X.env.locals := Ne.symm (by rw [← hC]; exact Nat.ne_of_lt I3.lt)
      have back : ∀ h', Heap.SameBut C s'.heap h' → Inv X pins σ H' { s' with heap := h' } := fun h' hs' => by
        have os' : s'.os = s3.os := J.os
        refine I3.call' (s' := { s' with heap := h' }) (ch := fp) os' ⟨fun b o e n hb hx => ?_, fun b o e n hb hx => ?_, fun b o e n hx => J.base.free b o e n hx, fun b o e hx => ?_, J.base.tups, J.base.frzs, J.base.tbls⟩ (fun b o e => ?_) J.bare fun b hb => ?_
        · exact hs'.extBut b o (by rw [← hC]; exact Nat.ne_of_lt (Heap.lt_size e)) (J.base.keep b o e n hb hx)
        · obtain ⟨sl, e1⟩ := J.base.slot b o e n hb hx
          exact ⟨sl, hs'.extBut b _ (by rw [← hC]; exact Nat.ne_of_lt (Heap.lt_size e)) e1⟩
        · obtain ⟨o', e1⟩ := J.base.there b o e hx
          exact ⟨o', hs'.extBut b _ (by rw [← hC]; exact Nat.ne_of_lt (Heap.lt_size e)) e1⟩
        · refine (J.hok b o e).stay (fun c w' hc q => (hs'.2 c ?_).trans q) (fun _ q => q) fun _ _ q => q
          have fC : H' C = none := J.free
          rintro rfl
          rcases hc with rfl | hc
          · rw [fC] at e; cases e
          · rw [fC] at hc; cases hc
        · obtain ⟨_, a1, _, a2, a3, a4⟩ := f2 b hb
          exact ⟨a2, a1, a3, a4⟩
      refine hRR D C H' s' ⟨by rw [← hC]; exact I3.sz, fun p hp => by rw [← hC]; exact Nat.ne_of_lt (Heap.lt_size (I3.pin p hp).1)⟩ ⟨m', hm'⟩ hCL J.free ?_ back q
      have := back s'.heap (.refl ..)
      exact this
    have stat : ∀ {H' : Hp}, (∀ b ∈ fp, H' b = none) → ∀ b ∈ fp, gB (aD X scope C (x :: ys) s3 H3 fp) [] H' b := fun hn b hb => by
      obtain ⟨_, a1, a5, a2, a3, a4⟩ := f2 b hb
      refine ⟨hn b hb, Nat.ne_of_lt (fp3 b hb).2, fun z => ?_, .inl hb, fun y c e => a3 y c (hcells e), fun p hp => absurd (show p ∈ ([] : List (Addr × Obj)) from hp) (by simp)⟩
      rcases List.mem_cons.mp (I3.stkSub b z) with q | q
      · exact a1 q
      · exact a5 q
    have turnAt : ∀ n s, (∃ i v ys' H', Inv (aD X scope C (x :: ys) s3 H3 fp) [] (v :: aR σ is) H' s ∧ tn i s.heap ∧ (∀ b ∈ fp, H' b = none) ∧ W i n ys' H') →
        wpAny (model X.prog X.w) X.A (pyNext (.ref it)) (fun r s₁ => match r with
          | none => RR (.ref D) C (.ok .next) s₁
          | some u => wpAny (model X.prog X.w) X.A (letOwnedTupleGo (.Name x px) (.ref it) u) (fun _ s₁ => wpAny (model X.prog X.w) X.A (assign (.Name x px) (compEnvC scope (cA scope.names X.env.cells []) C X.env) u) (fun _ s₂ =>
            ∃ (xx : V) (i : Nat) (ys' : List V) (H3' H6 : Hp) (pl : List (Addr × Obj)), Inv (aD X scope C (x :: ys) s3 H3 fp) ([] ++ pl) (some xx :: aR σ is) H6 s₂ ∧
              (∀ s7 v7 H7, Inv (aD X scope C (x :: ys) s3 H3 fp) ([] ++ pl) (v7 :: aR σ is) H7 s7 → Inv (aD X scope C (x :: ys) s3 H3 fp) [] (v7 :: aR σ is) H7 s7 ∧ tn (i + 1) s7.heap ∧ ∀ b ∈ fp, H7 b = none) ∧
              (tc (some xx :: aR σ is) H6 fun b H4 => if b = true then te (some xx :: aR σ is) H4 fun y H5 => H5 D = some (.lst ys') ∧ ys'.length < sizeLine ∧ ∃ m', m' < n ∧ W (i + 1) m' (ys' ++ [y]) (upd H5 D (.lst (ys' ++ [y])))
                else ∃ m', m' < n ∧ W (i + 1) m' ys' H4)) (fun _ _ => False) s₁) (fun _ _ => False) s₁) (fun _ _ => False) s := by
      rintro n s ⟨i, v, ys', H', J, st, fr, w'⟩
      rcases turn i n ys' H' w' with ⟨stop, qn⟩ | ⟨go, step⟩
      · refine thn (T.done (aD X scope C (x :: ys) s3 H3 fp) rfl rfl rfl hc i [] s _ H' (fun _ _ => False) J (stat fr) st stop) fun r s4 ⟨hr, J4⟩ => ?_
        subst hr
        exact fin J4 qn
      · refine thn (T.item (aD X scope C (x :: ys) s3 H3 fp) rfl rfl rfl hc i [] s _ H' (fun _ _ => False) J (stat fr) st go) fun r s4 ⟨u, hr, h4⟩ => ?_
        subst hr
        refine thn h4 fun _ s5 ⟨xx, H5, J5, r5, y5, st5, fr5⟩ => ?_
        have J5' := J5.pinned (stat fr5) (T.obj _ _ st5)
        refine wpAny_assign_Name (gH (i := 0) J5' S.nd rfl (.inl hown) r5 (fun s6 J6 => ?_) (.inr hown))
        refine ⟨xx, i, ys', H5, H5, ik fp s5.heap, J6, fun s7 v7 H7 J7 => ⟨J7.unpinned, T.keep _ _ _ st5 fun b hb o e => (J7.pin (b, o) (List.mem_append_right _ (List.mem_append_right _ (dW hb e)))).1, fun b hb => ?_⟩, step xx H5 y5⟩
        obtain ⟨o, e, d⟩ := T.obj _ _ st5 b hb
        exact (J7.pin (b, o) (List.mem_append_right _ (List.mem_append_right _ (dW hb e)))).2.1
    have start0 : ∃ i v ys' H', Inv (aD X scope C (x :: ys) s3 H3 fp) [] (v :: aR σ is) H' { s2 with heap := h₁, toks := s2.toks + ([] : List (Str × Value)).length } ∧ tn i h₁ ∧ (∀ b ∈ fp, H' b = none) ∧ W i m0 ys' H' :=
      ⟨0, none, [], H3, I4, st4, fun b hb => (fp3 b hb).1, w0⟩
    have emit : ∀ (n : Nat) (xx : V) (i : Nat) (ys' : List V) (H4 : Hp) (pl : List (Addr × Obj)) (s₂ : Shared), Inv (aD X scope C (x :: ys) s3 H3 fp) ([] ++ pl) (some xx :: aR σ is) H4 s₂ →
        (∀ s7 v7 H7, Inv (aD X scope C (x :: ys) s3 H3 fp) ([] ++ pl) (v7 :: aR σ is) H7 s7 → Inv (aD X scope C (x :: ys) s3 H3 fp) [] (v7 :: aR σ is) H7 s7 ∧ tn (i + 1) s7.heap ∧ ∀ b ∈ fp, H7 b = none) →
        (te (some xx :: aR σ is) H4 fun y H5 => H5 D = some (.lst ys') ∧ ys'.length < sizeLine ∧ ∃ m', m' < n ∧ W (i + 1) m' (ys' ++ [y]) (upd H5 D (.lst (ys' ++ [y])))) →
        wpAny (model X.prog X.w) X.A (eval elt (compEnvC scope (cA scope.names X.env.cells []) C X.env)) (fun y s₃ => wpAny (model X.prog X.w) X.A (call (.builtin "list.append") [.ref D, y]) (fun _ s₄ =>
          ∃ m, m < n ∧ ∃ i v ys' H', Inv (aD X scope C (x :: ys) s3 H3 fp) [] (v :: aR σ is) H' s₄ ∧ tn i s₄.heap ∧ (∀ b ∈ fp, H' b = none) ∧ W i m ys' H') (fun _ _ => False) s₃) (fun _ _ => False) s₂ := by
      intro n xx i ys' H4 pl s₂ J2 back q
      refine thn (he C s3 H3 fp ([] ++ pl) s₂ _ H4 _ J2 q) fun y s₃ ⟨yv, H5, J3, r3, q1, q2, q3⟩ => ?_
      refine thn (eQ (X := aD X scope C (x :: ys) s3 H3 fp) ([] ++ pl) s₃ _ H5 (.ref D) [yv] (.ref D) [y] (fun v H7 => v = .non ∧ H7 = upd H5 D (.lst (ys' ++ [yv]))) J3 rfl (.cons r3 .nil) ⟨D, ys', yv, rfl, rfl, q1, q2, rfl, rfl⟩) fun _ s₄ ⟨_, H7, J4, _, _, e7⟩ => ?_
      subst e7
      obtain ⟨m', hm', w'⟩ := q3
      obtain ⟨b1, b2, b3⟩ := back s₄ _ _ J4
      exact ⟨m', hm', i + 1, some xx, ys' ++ [yv], _, b1, b2, b3, w'⟩
    have ex0 : ∀ {α : Type} {t : Sem α} {Q' : α → Shared → Prop} {E' : Value → Shared → Prop} {s : Shared}, wpAny (model X.prog X.w) X.A t Q' (fun _ _ => False) s → wpAny (model X.prog X.w) X.A t Q' E' s := fun h => wpAny_mono h (fun _ _ q => q) fun _ _ q => q.elim
    cases ifs with
    | nil =>
      have htc : tc = fun _ H Q => Q true H := hif C s3 H3 fp
      subst htc
      refine fj (fun n s => ∃ i v ys' H', Inv (aD X scope C (x :: ys) s3 H3 fp) [] (v :: aR σ is) H' s ∧ tn i s.heap ∧ (∀ b ∈ fp, H' b = none) ∧ W i n ys' H') (fun n s hI => ?_) m0 start0
      refine wpAny_mono (turnAt n s hI) (fun r s₁ h₁ => ?_) fun _ _ q => q.elim
      cases r with
      | none => exact h₁
      | some u =>
        refine wpAny_mono h₁ (fun _ s₁ h₁ => wpAny_mono h₁ (fun _ s₂ h₂ => ?_) fun _ _ q => q.elim) fun _ _ q => q.elim
        obtain ⟨xx, i, ys', _, H6, pl, J2, back, q⟩ := h₂
        dsimp only at q
        rw [if_pos rfl] at q
        exact wpAny_mono (emit n xx i ys' H6 pl s₂ J2 back q) (fun y s₃ h₃ => ex0 h₃) fun _ _ q => q.elim
    | cons c r0 =>
      cases r0 with
      | cons _ _ => exact (hif C s3 H3 fp).elim
      | nil =>
        have hpt : PT (aD X scope C (x :: ys) s3 H3 fp) c tc := hif C s3 H3 fp
        refine fi (fun n s => ∃ i v ys' H', Inv (aD X scope C (x :: ys) s3 H3 fp) [] (v :: aR σ is) H' s ∧ tn i s.heap ∧ (∀ b ∈ fp, H' b = none) ∧ W i n ys' H') (fun n s hI => ?_) m0 start0
        refine wpAny_mono (turnAt n s hI) (fun r s₁ h₁ => ?_) fun _ _ q => q.elim
        cases r with
        | none => exact h₁
        | some u =>
          refine wpAny_mono h₁ (fun _ s₁ h₁ => wpAny_mono h₁ (fun _ s₂ h₂ => ?_) fun _ _ q => q.elim) fun _ _ q => q.elim
          obtain ⟨xx, i, ys', _, H6, pl, J2, back, q⟩ := h₂
          refine wpAny_mono (hpt ([] ++ pl) s₂ _ H6 _ J2 q) (fun b s₃ h₃ => ?_) fun _ _ q => q.elim
          obtain ⟨H4, J4, q4⟩ := h₃
          cases b with
          | true =>
            rw [if_pos rfl] at q4 ⊢
            exact wpAny_mono (emit n xx i ys' H4 pl s₃ J4 back q4) (fun y s₃ h₃ => ex0 h₃) fun _ _ q => q.elim
          | false =>
            rw [if_neg Bool.false_ne_true] at q4 ⊢
            obtain ⟨m', hm', w'⟩ := q4
            obtain ⟨b1, b2, b3⟩ := back s₃ _ _ J4
            exact ⟨m', hm', i + 1, some xx, ys', _, b1, b2, b3, w'⟩
  exact codeAny_compStart_list loop (T.self X.A 0 _ _ _ st4 loop)
end
end L2
namespace L2
open PySem PySem.Spec PyProof.Rows
section
variable {X:Cx}
theorem re {scope:Scope} {x:Str} {ys:List Str} {is:List Nat} (ok:X.Ok) (S:eS scope x ys) (hcap:eC X scope ys is):closureFor scope X.env=pure (cA scope.names X.env.cells []):=
 jF fun y hy hk=>by
  obtain ⟨c,e⟩:=ok.has y.1 (gP hcap (S.all y hy hk))
  rw [e];rfl
theorem zZ {elt iter:Expr} {ifs:List Expr} {x:Str} {px pos:Pos} {scope:Scope} {ys:List Str} {is:List Nat} {wi:TI} {tc:TT} {te:TE}
  (hc:X.calm=true) (S:eS scope x ys) (hcap:eC X scope ys is) (hi:PI X (.Name x px) iter wi)
  (hif:∀ C s H fp,mL (aD X scope C (x::ys) s H fp) ifs tc) (he:∀ C s H fp,PE (aD X scope C (x::ys) s H fp) elt te)
  (hs:∀ x,foldedSetIterable iter X.env x=pure x:=by intro _;rfl):PE X (.ListComp elt [⟨.Name x px,iter,ifs,0⟩] scope pos) (iH is wi tc te):=by
 intro pins s σ H Q I h
 rw [eval_ListComp]
 refine wpAny_comprehension_free (use:=none) rfl hs (re I.ok S hcap) S.kind S.names (thn (hi pins s σ H _ I h) fun v s1 h1=>thn h1 fun itv s2 h2=>?_)
 obtain ⟨it,fp,tn,J,H2,rfl,I2,T,st2,f2,hW⟩:=h2
 refine nr (RR:=fun acc C=>compPost (model X.prog X.w) X.A X.xe none (EP X pins σ Q) acc C) hc S hcap hif he I2 T st2 f2 hW ?_
 intro D C H' s' hlt hns hne hfr I' back q
 obtain ⟨m,hm⟩:=hns
 exact ⟨m,hm,fun h' hs'=>⟨.ref D,H',back h' hs',rfl,q⟩⟩
theorem tm {elt iter:Expr} {ifs:List Expr} {x y:Str} {px py pos spos:Pos} {scope:Scope} {ys:List Str} {is:List Nat} {wi:TI} {tc:TT} {te:TE} {j:Nat}
  (hN:X.N.Nodup) (hj:X.N[j]?=some y) (hy:Loc X.env.scope y)
  (hc:X.calm=true) (S:eS scope x ys) (hcap:eC X scope ys is) (hi:PI X (.Name x px) iter wi)
  (hif:∀ C s H fp,mL (aD X scope C (x::ys) s H fp) ifs tc) (he:∀ C s H fp,PE (aD X scope C (x::ys) s H fp) elt te)
  (hsw:swapsWith (.ListComp elt [⟨.Name x px,iter,ifs,0⟩] scope pos) (some (.Name y py)) spos.line X.env=pure true:=by rfl)
  (hf:X.fn y=true∨X.env.scope.names.lookup y=some .local:=by first | exact .inl rfl | exact .inr rfl | assumption)
  (hs:∀ x,foldedSetIterable iter X.env x=pure x:=by intro _;rfl):PS X (.Assign [.Name y py] (.ListComp elt [⟨.Name x px,iter,ifs,0⟩] scope pos) spos) (aF (iH is wi tc te) (au j)):=by
 intro pins s σ H D I h
 rw [exec_Assign_Name_used _ _ _ _ hsw]
 refine wpAny_bind (wpAny_standAt (wpAny_bind ?_))
 show wpAny _ X.A (do let _←comprehension (.ListComp elt [⟨.Name x px,iter,ifs,0⟩] scope pos) scope X.env _ (newList []) false (eval iter X.env) (some (assign (.Name y py) X.env))) _ _ s
 refine wpAny_bind (wpAny_mono (wpAny_comprehension_free (use:=some (assign (.Name y py) X.env)) (Q:=fun _ s'=>SP X pins D .next s') rfl hs (re I.ok S hcap) S.kind S.names
  (thn (hi pins s σ H _ I h) fun v s1 h1=>thn h1 fun itv s2 h2=>?_)) (fun _ s' hq=>wpAny_pure (wpAny_pure hq)) fun _ _ e=>e)
 obtain ⟨it,fp,tn,J,H2,rfl,I2,T,st2,f2,hW⟩:=h2
 refine nr (Q:=fun x H1=>au j x σ H1 D.nx) (RR:=fun acc C=>compPost (model X.prog X.w) X.A X.xe (some (assign (.Name y py) X.env)) (fun _ s'=>SP X pins D .next s') acc C) hc S hcap hif he I2 T st2 f2 hW ?_
 intro Da C H' s' hlt hns hne hfr I' back q
 show wpAny _ X.A (assign (.Name y py) X.env (.ref Da)) _ _ _
 obtain ⟨m,hm⟩:=hns
 refine wpAny_assign_Name (nj I' hN hj hy (v:=.ref Da) rfl (fun s2 I2' ⟨a,hsb,ha⟩=>?_) hf)
 have hCa:C≠a:=by
  rcases ha with e | e
  · rw [e];exact hne
  · rintro rfl
    obtain ⟨v,o,ho,hd⟩:=I'.cell y C e
    obtain ⟨o2,es,ep,ho2,hd2,_⟩:=hm
    rw [ho] at ho2;cases ho2;rw [hd] at hd2;cases hd2
 refine ⟨m,hm.sameBut hsb hCa,fun h' hs'=>?_⟩
 have hCn:∀ y c,X.env.cells.lookup y=some c→c≠C:=fun z c e q=>by
  subst q
  obtain ⟨v,o,ho,hd⟩:=I'.cell z c e
  obtain ⟨o2,es,ep,ho2,hd2,_⟩:=hm
  rw [ho] at ho2;cases ho2;rw [hd] at hd2;cases hd2
 have I3:Inv X pins (σ.set j (some (.ref Da))) H' { s2 with heap:=h' }:=by
  refine I2'.step (g':=s2.gens) (d':=s2.drawn) (t':=s2.toks) (ch:=[C]) (fun b hb=>?_) (fun b o _ _ hb e _=>(hs'.2 b (fun z=>hb (by simp [z]))).trans e) (fun b o _ _ hb e _=>⟨o.slots,(hs'.2 b (fun z=>hb (by simp [z]))).trans e⟩) (fun _ _ _ _ n=>n) (fun b o hb e=>⟨o,(hs'.2 b (fun z=>hb (by simp [z]))).trans e⟩)
    (fun _ _ e=>e) (fun _ _ _ e=>e) (fun b ps e=>⟨#[],by rw [e];simp⟩) (fun m' hm'=>hm'.sameBut hs' (Ne.symm hne)) (fun b o e=>?_) I2'.bare
  · have e:b=C:=by simpa using hb
    subst e
    exact ⟨.inr hlt.1,hne,fun z c e=>hCn z c e,hlt.2⟩
  · refine (I2'.hok b o e).stay (fun c w' hc q=>(hs'.2 c ?_).trans q) (fun _ q=>q) fun _ _ q=>q
    rintro rfl
    rcases hc with rfl | hc
    · rw [hfr] at e;cases e
    · rw [hfr] at hc;cases hc
 exact ⟨_,H',I3,q⟩
end
end L2
namespace L2
open PySem PySem.Spec PyProof.Rows
def tyN (H : Hp) : V → Option String
  | .non => some "NoneType"
  | .bl _ => some "bool"
  | .int _ => some "int"
  | .str _ => some "str"
  | .ref a => match H a with
    | some (.lst _) => some "list"
    | some (.frz _ (.lst _)) => some "list"
    | some (.tup _) => some "tuple"
    | some (.dK _) => some "dict"
    | some (.dT _) => some "dict"
    | _ => none
  | _ => none
theorem AY {K : W.Frag} {H : Hp} {x : V} {t : String} (h : tyN H x = some t) : fA K H x (.type t) := by
  cases x with
  | non => cases h; exact .non
  | bl b => cases h; exact .bl b
  | int i => cases h; exact .int i
  | str x => cases h; exact .str x
  | byt _ => cases h
  | flt _ => cases h
  | ty _ => cases h
  | ref a =>
    unfold tyN at h
    dsimp only at h
    split at h
    · rename_i e; cases h; exact .lst e
    · rename_i e; cases h; exact .frz e
    · rename_i e; cases h; exact .tup e
    · rename_i e; cases h; exact .dK e
    · rename_i e; cases h; exact .dT e
    · cases h
def tyL:List String:=["NoneType", "bool", "int", "str", "list", "tuple", "dict"]
theorem CI {H : Hp} {x : V} {t : String} (h : tyN H x = some t) : t ∈ tyL := by
  cases x with
  | non => cases h; decide
  | bl b => cases h; decide
  | int i => cases h; decide
  | str x => cases h; decide
  | byt _ => cases h
  | flt _ => cases h
  | ty _ => cases h
  | ref a =>
    unfold tyN at h
    dsimp only at h
    split at h <;> first | (cases h; decide) | cases h
def isI (t T:String):Bool:=t==T||(T== "int" &&t== "bool")
theorem Bp (K:W.Frag):∀ t∈tyL,∀ T∈["int", "bool", "str", "tuple", "list", "dict"],W.kitOne K (.type t) (.type T)=some (isI t T):=by
 intro t ht T hT
 simp only [tyL,List.mem_cons,List.not_mem_nil,or_false] at ht hT
 rcases ht with rfl | rfl | rfl | rfl | rfl | rfl | rfl <;> rcases hT with rfl | rfl | rfl | rfl | rfl | rfl <;> (unfold W.kitOne;first | rfl | decide +kernel | (simp only [W.kitCls];rfl))
section
variable {X:Cx}
theorem wq:bE X (.builtin "isinstance") (fun xs H Q=>∃ x T t,xs=[x,.ty T]∧T∈["int", "bool", "str", "tuple", "list", "dict"]∧tyN H x=some t∧Q (.bl (isI t T)) H):=by
 intro pins s σ H xs us Q I r h
 obtain ⟨x,T,t,rfl,hT,ht,q⟩:=h
 obtain ⟨u,w',rfl,r1,r2⟩:=sV r
 cases r2
 exact uq I r1 (AY ht) (Bp X.K t (CI ht) T hT) fun tk=>⟨.bl _,H,I.tok tk,rfl,q⟩
end
end L2
namespace L2
open PySem PySem.Spec PyProof.Rows
section
variable {X:Cx}
theorem qB : ∀ {bs : List Bool} {us : List Value}, aZ (bs.map V.bl) us → us = bs.map Value.bool
  | [], _, .nil => rfl
  | b :: bs, _, .cons r t => by
    have e : _ = Value.bool b := r
    rw [qB t, List.map_cons, e]
theorem ua (bs:List Bool):(List.range bs.length).all (fun i=>bs.getD i false)=bs.all id:=by
 rw [Bool.eq_iff_iff,List.all_eq_true,List.all_eq_true]
 constructor
 · intro h b hb
   obtain ⟨i,hi,e⟩:=List.mem_iff_getElem.mp hb
   have:=h i (List.mem_range.mpr hi)
   simp only [List.getD_eq_getElem?_getD,List.getElem?_eq_getElem hi,Option.getD_some] at this
   rw [← e];exact this
 · intro h i hi
   have hi:=List.mem_range.mp hi
   simp only [List.getD_eq_getElem?_getD,List.getElem?_eq_getElem hi,Option.getD_some]
   exact h _ (List.getElem_mem hi)
theorem qe {prog : Program} {w : World} {A : Around} {bs : List Bool} : TruthOf prog w A (fun i v => (bs.map Value.bool).toArray[i]? = some v) (fun i => bs.getD i false) := by
  intro i v s Q E hP hQ
  have hP : (bs.map Value.bool)[i]? = some v := by simpa using hP
  rw [List.getElem?_map] at hP
  cases e : bs[i]? with
  | none => rw [e] at hP; cases hP
  | some b =>
    rw [e] at hP
    cases hP
    have hQ' : Q b s := by
      have e2 : bs.getD i false = b := by rw [List.getD_eq_getElem?_getD, e]; rfl
      have hQ2 : Q (bs.getD i false) s := hQ
      rw [e2] at hQ2; exact hQ2
    exact wpAny_of_eq (a := b) rfl hQ'
theorem vL (hc:X.calm=true):bE X (.builtin "all") (fun xs H Q=>∃ (a:Addr) (bs:List Bool),xs=[.ref a]∧H a=some (.lst (bs.map V.bl))∧Q (.bl (bs.all id)) H):=by
 intro pins s σ H xs us Q I r h
 obtain ⟨a,bs,rfl,hH,q⟩:=h
 obtain ⟨u,rfl,ru⟩:=dJ r
 cases ru
 obtain ⟨z,its,n,rv,e⟩:=I.hok a _ hH
 have ei:=qB rv
 subst ei
 have hl:s.heap.IsList a (bs.map Value.bool).toArray:=⟨_,e,rfl,_,rfl⟩
 refine call_all_walk (wpAny_pyIter_list hl ?_)
 have hne:a≠s.heap.objs.size:=Nat.ne_of_lt (Heap.lt_size e)
 refine ⟨s.heap.objs.size,_,_,_,_,_,_,rfl,Walks.list (by show X.A.handled=none;exact I.ok.hd hc) _ a hne (bs.map Value.bool).toArray,⟨⟨_,Heap.get?_push_size _ rfl,rfl,rfl⟩,⟨_,Heap.get?_push_of_some _ e,rfl,_,rfl⟩⟩,qe,fun h' tk hk=>?_⟩
 have e2:((bs.map Value.bool).toArray).size=bs.length:=by simp
 rw [e2,ua]
 refine ⟨.bl _,H,I.kept (t':=tk) fun b o hb=>hk b o ?_ (Heap.get?_push_of_some _ hb),rfl,q⟩
 intro z
 have:b=s.heap.objs.size:=by simpa using z
 rw [this] at hb
 exact absurd (Heap.lt_size hb) (Nat.lt_irrefl _)
theorem rh : ∀ {xs : List Str} {us : List Value}, aZ (xs.map V.str) us → StrsAre us xs
  | [], _, .nil => .nil
  | x :: xs, _, .cons r t => by
    obtain ⟨tk, e⟩ := (show ∃ t, _ = Value.str x t from r)
    rw [e]
    exact .cons _ _ (rh t)
def yZ:V→List V→Hp→VK→Prop:=fun x vs H Q=>∃ (z:Str) (a:Addr) (xs:List Str),x=.str z∧vs=[.ref a]∧H a=some (.lst (xs.map V.str))∧(xs.map (·.length)).sum+xs.length*z.length≤16777216∧Q (.str (Txt.join z xs)) H
theorem AA:MtM X "str.join" yZ:=by
 intro pins s σ H x vs v us Q I rx rv h
 obtain ⟨z,a,xs,rfl,rfl,hH,hz,q⟩:=h
 obtain ⟨t,rfl⟩:=(show ∃ t,v=Value.str z t from rx)
 obtain ⟨u,rfl,ru⟩:=rv.one
 cases ru
 obtain ⟨_,its,n,rv,e⟩:=I.hok a _ hH
 refine join_list (items:=its.toArray) ⟨_,e,rfl,_,rfl⟩ (by simpa using rh rv) hz fun t' k=>⟨.str _,H,I.tok k,⟨_,rfl⟩,q⟩
end
end L2
namespace L2
open PySem PySem.Spec PyProof.Rows
@[irreducible] def Sel (b:Bool) (A B:Prop):Prop:=if b=true then A else B
theorem Sel.mk {b:Bool} {A B:Prop} (h1:b=true→A) (h2:b=false→B):Sel b A B:=by
 unfold Sel
 cases b with
 | true=>exact h1 rfl
 | false=>exact h2 rfl
theorem Sel.t {A B:Prop} (h:A):Sel true A B:=.mk (fun _=>h) fun e=>by cases e
theorem Sel.f {A B:Prop} (h:B):Sel false A B:=.mk (fun e=>by cases e) fun _=>h
theorem Sel.dec {p A B:Prop} [Decidable p] (h1:p→A) (h2:¬ p→B):Sel (decide p) A B:=.mk (fun e=>h1 (of_decide_eq_true e)) fun e=>h2 (of_decide_eq_false e)
theorem Sel.ndec {p A B:Prop} [Decidable p] (h1:¬ p→A) (h2:p→B):Sel (!decide p) A B:=.mk (fun e=>h1 (by simpa using e)) fun e=>h2 (by simpa using e)
theorem Sel.yes {b:Bool} {A B:Prop} (e:b=true) (h:A):Sel b A B:=by rw [e];exact .t h
theorem Sel.no {b:Bool} {A B:Prop} (e:b=false) (h:B):Sel b A B:=by rw [e];exact .f h
theorem fy {b:Bool} {A B:Prop} (h:Sel b A B):if b=true then A else B:=by unfold Sel at h;exact h
def ab (i:Nat):TE:=fun σ H Q=>match σ[i]? with | some (some v)=>Q v H | _=>False
section
variable {X:Cx}
theorem PE.imp {e:Expr} {t t':TE} (h:PE X e t) (i:∀ σ H Q,t' σ H Q→t σ H Q):PE X e t':=fun pins s σ H Q I q=>h pins s σ H Q I (i _ _ _ q)
theorem OpR.imp {f:Value→Value→Sem Value} {r r':R2} (h:OpR X f r) (i:∀ x y H Q,r' x y H Q→r x y H Q):OpR X f r':=fun pins s σ H x y v u Q I rx ry q=>h pins s σ H x y v u Q I rx ry (i _ _ _ _ q)
theorem qv (i:Nat) {x:Str} {pos:Pos} (hN:X.N[i]?=some x:=by rfl) (hv:Vis X.env.scope x:=by first | exact Or.inl rfl | exact Or.inr (Or.inl rfl) | exact Or.inr (Or.inr rfl)) (hd:(x==("__debug__" :Str))=false:=by decide)
   (hcd:(x==("__classdict__" :Str))=false:=by decide):PE X (.Name x pos) (ab i):=(Cd hN hv hd hcd).imp fun σ H Q q=>by
 unfold ab at q
 split at q
 · rename_i v e;exact ⟨v,e,q⟩
 · exact q.elim
theorem qgi {x:Str} {i:Int} {pos:Pos} (hm:∃ t,X.mg x=some (.int i t)) (hg:Gl X x:=by rfl) (hd:(x==("__debug__" :Str))=false:=by decide):PE X (.Name x pos) (tC (.int i)):=by
 obtain ⟨t,e⟩:=hm
 exact md hg e ⟨t,rfl⟩ hd
def gL:R2:=fun x y H Q=>match x,y with | .int i,.int j=>Q (.int (i - j)) H | _,_=>False
theorem jp:OpR X (binaryOp .Sub) gL:=Bw.imp fun x y H Q q=>by
 unfold gL at q
 split at q
 · exact ⟨_,_,rfl,rfl,q⟩
 · exact q.elim
theorem zJ:OpR X (binaryOp .Mult) (rI IntMulOk fun i j=> .int (i*j)):=opI fun _ _ _ _ _ _ _ hc q=>mul_int q hc
def eA:R2:=fun x y H Q=>match x,y with
 | .int i,.int j=>IntMulOk i j∧Q (.int (i*j)) H
 | _,_=>False
theorem fQ:OpR X (binaryOp .Mult) eA:=zJ.imp fun x y H Q q=>by
 unfold eA at q
 split at q
 · exact ⟨_,_,rfl,rfl,q.1,q.2⟩
 · exact q.elim
def bF:R2:=fun x y H Q=>match x,y with | .int i,.int j=>0<j∧Q (.int (i%j)) H | _,_=>False
theorem cj:OpR X (binaryOp .Mod) bF:=AV.imp fun x y H Q q=>by
 unfold bF at q
 split at q
 · exact ⟨_,_,rfl,rfl,q.1,q.2⟩
 · exact q.elim
def wD:R2:=fun x y H Q=>match x,y with | .int i,.int j=>(0≤j∧j≤1000000∧i.natAbs<2^64)∧Q (.int (i^j.toNat)) H | _,_=>False
theorem Im:OpR X (binaryOp .Pow) wD:=DD.imp fun x y H Q q=>by
 unfold wD at q
 split at q
 · exact ⟨_,_,rfl,rfl,q.1,q.2⟩
 · exact q.elim
def ie:R2:=fun x y H Q=>match x,y with | .int i,.int j=>(0≤j∧j≤1000000∧i.natAbs<2^64)∧Q (.int (i*2^j.toNat)) H | _,_=>False
theorem mU:OpR X (binaryOp .LShift) ie:=Dy.imp fun x y H Q q=>by
 unfold ie at q
 split at q
 · exact ⟨_,_,rfl,rfl,q.1,q.2⟩
 · exact q.elim
def oP:R2:=fun x y H Q=>match x,y with | .int i,.int j=>0≤j∧Q (.int (i/2^j.toNat)) H | _,_=>False
theorem vp:OpR X (binaryOp .RShift) oP:=Ec.imp fun x y H Q q=>by
 unfold oP at q
 split at q
 · exact ⟨_,_,rfl,rfl,q.1,q.2⟩
 · exact q.elim
def mD:R2:=fun x y H Q=>match x,y with | .int i,.int j=>Q (.int (Builtin.bitXor i j)) H | _,_=>False
theorem xY:OpR X (binaryOp .BitXor) mD:=BK.imp fun x y H Q q=>by
 unfold mD at q
 split at q
 · exact ⟨_,_,rfl,rfl,q⟩
 · exact q.elim
def sj:R2:=fun x y H Q=>match x,y with | .int i,.int j=>Q (.int (Builtin.bitAnd i j)) H | _,_=>False
theorem Hh:OpR X (binaryOp .BitAnd) sj:=Bh.imp fun x y H Q q=>by
 unfold sj at q
 split at q
 · exact ⟨_,_,rfl,rfl,q⟩
 · exact q.elim
def mLt:R2:=fun x y H Q=>match x,y with | .int i,.int j=>Q (.bl (decide (i<j))) H | _,_=>False
theorem oLt:OpR X (compareOp .Lt) mLt:=Hb.imp fun x y H Q q=>by
 unfold mLt at q
 split at q
 · exact ⟨_,_,rfl,rfl,q⟩
 · exact q.elim
def mLe:R2:=fun x y H Q=>match x,y with | .int i,.int j=>Q (.bl (decide (i≤j))) H | _,_=>False
theorem oLe:OpR X (compareOp .LtE) mLe:=Fh.imp fun x y H Q q=>by
 unfold mLe at q
 split at q
 · exact ⟨_,_,rfl,rfl,q⟩
 · exact q.elim
def mGt:R2:=fun x y H Q=>match x,y with | .int i,.int j=>Q (.bl (decide (j<i))) H | _,_=>False
theorem oGt:OpR X (compareOp .Gt) mGt:=FA.imp fun x y H Q q=>by
 unfold mGt at q
 split at q
 · exact ⟨_,_,rfl,rfl,q⟩
 · exact q.elim
def mEq:R2:=fun x y H Q=>match x,y with
 | .int i,.int j=>Q (.bl (decide (i=j))) H
 | .str i,.str j=>Q (.bl (decide (i=j))) H
 | .bl i,.bl j=>Q (.bl (decide (i=j))) H
 | .non,.non=>Q (.bl true) H
 | .non,.int _=>Q (.bl false) H | .int _,.non=>Q (.bl false) H | .non,.bl _=>Q (.bl false) H | .bl _,.non=>Q (.bl false) H | .non,.str _=>Q (.bl false) H | .str _,.non=>Q (.bl false) H
 | .int _,.str _=>Q (.bl false) H | .str _,.int _=>Q (.bl false) H | .bl _,.str _=>Q (.bl false) H | .str _,.bl _=>Q (.bl false) H
 | _,_=>False
theorem jo {α:Type} [DecidableEq α] {f:α→V} (hf:∀ a b,f a=f b→a=b) (a b:α):decide (f a=f b)=decide (a=b):=by
 by_cases h:a=b
 · subst h;simp
 · rw [decide_eq_false h,decide_eq_false fun e=>h (hf a b e)]
theorem oEq:OpR X (compareOp .Eq) mEq:=Gh.imp fun x y H Q q=>by
 unfold mEq at q
 split at q
 · exact ⟨rfl,by rw [jo (f:=V.int) fun _ _ e=>V.int.inj e];exact q⟩
 · exact ⟨rfl,by rw [jo (f:=V.str) fun _ _ e=>V.str.inj e];exact q⟩
 · exact ⟨rfl,by rw [jo (f:=V.bl) fun _ _ e=>V.bl.inj e];exact q⟩
 · exact ⟨rfl,by simpa using q⟩
 all_goals first | exact q.elim | exact ⟨rfl,q⟩
def mNe:R2:=fun x y H Q=>match x,y with
 | .int i,.int j=>Q (.bl (!decide (i=j))) H
 | .str i,.str j=>Q (.bl (!decide (i=j))) H
 | .bl i,.bl j=>Q (.bl (!decide (i=j))) H
 | .non,.non=>Q (.bl false) H
 | .non,.int _=>Q (.bl true) H | .int _,.non=>Q (.bl true) H | .non,.bl _=>Q (.bl true) H | .bl _,.non=>Q (.bl true) H | .non,.str _=>Q (.bl true) H | .str _,.non=>Q (.bl true) H
 | .int _,.str _=>Q (.bl true) H | .str _,.int _=>Q (.bl true) H | .bl _,.str _=>Q (.bl true) H | .str _,.bl _=>Q (.bl true) H
 | _,_=>False
theorem oNe:OpR X (compareOp .NotEq) mNe:=EV.imp fun x y H Q q=>by
 unfold mNe at q
 split at q
 · exact ⟨rfl,by rw [jo (f:=V.int) fun _ _ e=>V.int.inj e];exact q⟩
 · exact ⟨rfl,by rw [jo (f:=V.str) fun _ _ e=>V.str.inj e];exact q⟩
 · exact ⟨rfl,by rw [jo (f:=V.bl) fun _ _ e=>V.bl.inj e];exact q⟩
 · exact ⟨rfl,by simpa using q⟩
 all_goals first | exact q.elim | exact ⟨rfl,q⟩
def xm:R2:=fun x y H Q=>match y with | .non=>Q (.bl (match x with | .non=>true | _=>false)) H | _=>False
theorem oIs:OpR X (compareOp .Is) xm:=Ci.imp fun x y H Q q=>by
 unfold xm at q
 split at q
 · refine ⟨rfl,?_⟩
   cases x <;> simpa using q
 · exact q.elim
def aS (t:TE):TT:=fun σ H Q=>t σ H fun x H'=>match x with | .bl k=>Q k H' | _=>False
theorem qtc {op:CmpOp} {r:R2} {a b:Expr} {ta tb:TE} {pos:Pos} (ho:OpR X (compareOp op) r) (ha:PE X a ta) (hb:PE X b tb) (hm:behindInMarks op b=false:=by first | exact lI _ | rfl):PT X (.Compare a [op] [b] pos) (aS (tOp r ta tb)):=by
 intro pins s σ H Q I h
 refine wpAny_isTrue_Compare1 (thn (ha pins s σ H _ I h) fun v s1 ⟨x,H1,I1,r1,q1⟩=>thn (hb pins s1 σ H1 _ I1 q1) fun u s2 ⟨y,H2,I2,r2,q2⟩=>
  thn (ho pins s2 σ H2 x y v u _ I2 r1 r2 q2) fun c s3 ⟨z,H3,I3,r3,q3⟩=>?_) hm
 cases z <;> first | exact q3.elim | (cases r3;exact wpAny_truthy_bool ⟨H3,I3,q3⟩)
theorem qc {op:CmpOp} {r:R2} {a b:Expr} {ta tb:TE} {pos:Pos} (ho:OpR X (compareOp op) r) (ha:PE X a ta) (hb:PE X b tb) (hm:behindInMarks op b=false:=by first | exact lI _ | rfl):PE X (.Compare a [op] [b] pos) (tOp r ta tb):=zN ho ha hb hm
def dS (r r':R2) (ta tb tc:TE):TE:=fun σ H Q=>ta σ H fun x H1=>tb σ H1 fun y H2=>r x y H2 fun z H3=>match z with
 | .bl k=>Sel k (tc σ H3 fun w' H4=>r' y w' H4 Q) (Q (.bl false) H3)
 | _=>False
theorem qch {op op':CmpOp} {r r':R2} {a b c:Expr} {ta tb tc:TE} {pos:Pos} (ho:OpR X (compareOp op) r) (ho':OpR X (compareOp op') r') (ha:PE X a ta) (hb:PE X b tb) (hc:PE X c tc)
  (hm:lastMarks [op,op'] [b,c]=false:=by with_unfolding_all rfl):PE X (.Compare a [op,op'] [b,c] pos) (dS r r' ta tb tc):=by
 intro pins s σ H Q I h
 refine Compare_chain (thn (ha pins s σ H _ I h) fun v s1 ⟨x,H1,I1,r1,q1⟩=>chain_link (thn (hb pins s1 σ H1 _ I1 q1) fun u s2 ⟨y,H2,I2,r2,q2⟩=>
  thn (ho pins s2 σ H2 x y v u _ I2 r1 r2 q2) fun d s3 ⟨z,H3,I3,r3,q3⟩=>?_)) hm
 cases z <;> first | exact q3.elim | skip
 rename_i k
 cases r3
 refine wpAny_truthy_bool ?_
 have q3:=fy q3
 cases k with
 | false=>exact ite_ff ⟨.bl false,H3,I3,rfl,q3⟩
 | true=>exact ite_tt (chain_last (thn (hc pins s3 σ H3 _ I3 q3) fun w' s4 ⟨z',H4,I4,r4,q4⟩=>ho' pins s4 σ H4 y z' u w' Q I4 r2 r4 q4))
theorem IT {op op' : CmpOp} {r r' : R2} {a b c : Expr} {ta tb tc : TE} {pos : Pos} (ho : OpR X (compareOp op) r) (ho' : OpR X (compareOp op') r') (ha : PE X a ta) (hb : PE X b tb) (hc : PE X c tc)
    (hm : lastMarks [op, op'] [b, c] = false := by with_unfolding_all rfl) : PT X (.Compare a [op, op'] [b, c] pos) (aS (dS r r' ta tb tc)) := by
  intro pins s σ H Q I h
  refine isTrue_chain (thn (ha pins s σ H _ I h) fun v s1 ⟨x, H1, I1, r1, q1⟩ => test_link (thn (hb pins s1 σ H1 _ I1 q1) fun u s2 ⟨y, H2, I2, r2, q2⟩ =>
    thn (ho pins s2 σ H2 x y v u _ I2 r1 r2 q2) fun d s3 ⟨z, H3, I3, r3, q3⟩ => ?_)) hm
  cases z <;> first | exact q3.elim | skip
  rename_i k
  cases r3
  refine wpAny_truthy_bool ?_
  have q3 := fy q3
  cases k with
  | false => exact ite_ff ⟨H3, I3, q3⟩
  | true =>
    refine ite_tt (test_last (thn (hc pins s3 σ H3 _ I3 q3) fun w' s4 ⟨z', H4, I4, r4, q4⟩ => thn (ho' pins s4 σ H4 y z' u w' _ I4 r2 r4 q4) fun d' s5 ⟨z2, H5, I5, r5, q5⟩ => ?_))
    cases z2 <;> first | exact q5.elim | (cases r5; exact wpAny_truthy_bool ⟨H5, I5, q5⟩)
def bM (K:W.Frag) (t:TE):TT:=fun σ H Q=>t σ H fun x H'=>match x with
 | .bl k=>Q k H'
 | .non=>Q false H'
 | .int i=>Q (i !=0) H'
 | x=>∃ k,BX K x H' k∧Q k H'
theorem qtb {e:Expr} {t:TE} (h:PE X e t) (he:∀ whole,isTrue e X.env whole=(do let v←whole;standAt e.pos;holding [v] (truthy v)):=by intro _;rfl):PT X e (bM X.K t):=by
 intro pins s σ H Q I q
 refine isTrue_plain (thn (h pins s σ H _ I q) fun v s1 ⟨x,H1,I1,r1,q1⟩=>AD pins s1 σ H1 x v Q I1 r1 ?_) (he _)
 cases x <;> first | exact ⟨_,rfl,q1⟩ | exact q1
def jG (t u:TT):TT:=fun σ H Q=>t σ H fun c H1=>Sel c (u σ H1 Q) (Q false H1)
def mOr (t u:TT):TT:=fun σ H Q=>t σ H fun c H1=>Sel c (Q true H1) (u σ H1 Q)
variable {a b c:Expr} {ta tb:TE} {tA tB':TT} {bY:List Expr} {pos:Pos}
theorem Aw (ha:PT X a tA):PW X (.BoolOp .And [a] pos) tA:=Au ha
theorem DR (ha:PT X a tA):PW X (.BoolOp .Or [a] pos) tA:=Cu ha
theorem CA (ha:PT X a tA) (hb:PW X (.BoolOp .And (b::bY) pos) tB'):PW X (.BoolOp .And (a::b::bY) pos) (jG tA tB'):=by
 intro wh pins s σ H Q I h
 refine isTrue_and (thn (ha pins s σ H _ I h) fun c s1 ⟨H1,I1,q1⟩=>?_)
 have q1:=fy q1
 cases c with
 | true=>exact hb wh pins s1 σ H1 Q I1 q1
 | false=>exact ⟨H1,I1,q1⟩
theorem Gk (ha:PT X a tA) (hb:PW X (.BoolOp .Or (b::bY) pos) tB'):PW X (.BoolOp .Or (a::b::bY) pos) (mOr tA tB'):=by
 intro wh pins s σ H Q I h
 refine isTrue_or (thn (ha pins s σ H _ I h) fun c s1 ⟨H1,I1,q1⟩=>?_)
 have q1:=fy q1
 cases c with
 | true=>exact ⟨H1,I1,q1⟩
 | false=>exact hb wh pins s1 σ H1 Q I1 q1
def ff (ta tb:TE):TE:=fun σ H Q=>ta σ H fun x H1=>match x with | .bl c=>Sel c (tb σ H1 Q) (Q (.bl false) H1) | _=>False
def rY (ta:TE):TE:=fun σ H Q=>ta σ H fun x H1=>match x with | .bl c=>Q (.bl (!c)) H1 | _=>False
theorem IY (ha:PE X a ta) (hb:PE X (.BoolOp .And (b::bY) pos) tb):PE X (.BoolOp .And (a::b::bY) pos) (ff ta tb):=by
 intro pins s σ H Q I h
 refine BoolOp_and (thn (ha pins s σ H _ I h) fun v s1 ⟨x,H1,I1,r1,q1⟩=>?_)
 cases x <;> first | exact q1.elim | skip
 rename_i c
 cases r1
 refine wpAny_truthy_bool ?_
 have q1:=fy q1
 cases c with
 | true=>exact hb pins s1 σ H1 Q I1 q1
 | false=>exact ⟨.bl false,H1,I1,rfl,q1⟩
theorem HA (ha:PE X a ta):PE X (.UnaryOp .Not a pos) (rY ta):=by
 intro pins s σ H Q I h
 refine UnaryOp_ (thn (ha pins s σ H _ I h) fun v s1 ⟨x,H1,I1,r1,q1⟩=>?_)
 cases x <;> first | exact q1.elim | skip
 rename_i c
 cases r1
 exact not_of (wpAny_truthy_bool ⟨.bl (!c),H1,I1,rfl,q1⟩)
def mIf (t:TT) (ta tb:TE):TE:=fun σ H Q=>t σ H fun c H1=>Sel c (ta σ H1 Q) (tb σ H1 Q)
theorem Ii {c:Expr} (hc:PT X c tA) (ha:PE X a ta) (hb:PE X b tb):PE X (.IfExp c a b pos) (mIf tA ta tb):=by
 intro pins s σ H Q I h
 refine wpAny_IfExp (thn (hc pins s σ H _ I h) fun d s1 ⟨H1,I1,q1⟩=>?_)
 have q1:=fy q1
 cases d with
 | true=>exact ha pins s1 σ H1 Q I1 q1
 | false=>exact hb pins s1 σ H1 Q I1 q1
def bc (c:TT) (t u:TS):TS:=fun D σ H=>c σ H fun b H1=>Sel b (t D σ H1) (u D σ H1)
theorem qif {c:Expr} {l m:List Stmt} {tc:TT} {t u:TS} (hc:PT X c tc) (ha:PSs X l t) (hb:PSs X m u):PS X (.If c l m pos) (bc tc t u):=by
 intro pins s σ H D I h
 refine wpAny_If (thn (hc pins s σ H _ I h) fun d s1 ⟨H1,I1,q1⟩=>?_)
 have q1:=fy q1
 cases d with
 | true=>exact ha pins s1 σ H1 D I1 q1
 | false=>exact hb pins s1 σ H1 D I1 q1
theorem Iw:bE X (.builtin "len") (fun xs H Q=>match xs with
   | [.str y]=>y.length≤sizeLine∧Q (.int y.length) H
   | [.ref p]=>(∃ xs,SqL X.K H p xs∧Q (.int xs.length) H)∨(∃ xs,SqT X.K H p xs∧Q (.int xs.length) H)∨∃ kvs,H p=some (.dK kvs)∧Q (.int kvs.length) H
   | _=>False):=by
 intro pins s σ H xs us Q I r h
 split at h
 · rename_i y
   exact kD pins s σ H _ us Q I r ⟨_,_,rfl,⟨h.1,rfl⟩,h.2⟩
 · rename_i p
   rcases h with ⟨ys,h1,h2⟩ | ⟨ys,h1,h2⟩ | ⟨kvs,h1,h2⟩
   · exact kD pins s σ H _ us Q I r ⟨_,_,rfl,.inl ⟨ys,h1,rfl⟩,h2⟩
   · exact kD pins s σ H _ us Q I r ⟨_,_,rfl,.inr ⟨ys,h1,rfl⟩,h2⟩
   · exact um pins s σ H _ us Q I r ⟨p,kvs,rfl,h1,h2⟩
 · exact h.elim
end
end L2
namespace L2
open PySem PySem.Spec PyProof.Rows
section
variable {X:Cx} {tg:Expr}
def hZ:V→Hp→VK→Prop:=fun x H Q=>match x with | .int i=>Q (.int (-i)) H | _=>False
theorem Ir:UnR X (unaryOp .USub) hZ:=fun pins s σ H x v Q I rx q=>DA pins s σ H x v Q I rx (by
 unfold hZ at q
 split at q
 · exact ⟨_,rfl,q⟩
 · exact q.elim)
def Dz (K:W.Frag):List V→Hp→VK→Prop:=fun xs H Q=>match xs with
 | [.str y]=>y.length≤sizeLine∧Q (.int y.length) H
 | [.ref p]=>(∃ xs,SqL K H p xs∧Q (.int xs.length) H)∨(∃ xs,SqT K H p xs∧Q (.int xs.length) H)∨∃ kvs,H p=some (.dK kvs)∧Q (.int kvs.length) H
 | _=>False
theorem Ja:bE X (.builtin "len") (Dz X.K):=Iw
def eL:List V→Hp→VK→Prop:=fun xs H Q=>match xs with
 | [x,.ty T]=>T∈["int", "bool", "str", "tuple", "list", "dict"]∧∃ t,tyN H x=some t∧Q (.bl (isI t T)) H
 | _=>False
theorem fx:bE X (.builtin "isinstance") eL:=fun pins s σ H xs us Q I r h=>by
 unfold eL at h
 split at h
 · obtain ⟨h1,t,h2,h3⟩:=h
   exact wq pins s σ H _ us Q I r ⟨_,_,t,rfl,h1,h2,h3⟩
 · exact h.elim
def BH:List V→Hp→VK→Prop:=fun xs H Q=>∃ (a:Addr) (bs:List Bool),xs=[.ref a]∧H a=some (.lst (bs.map V.bl))∧Q (.bl (bs.all id)) H
theorem JF (hc:X.calm=true):bE X (.builtin "all") BH:=vL hc
def pF (K:W.Frag):List V→Hp→VK→Prop:=fun xs H Q=>∃ p ys,xs=[.ref p]∧((SqL K H p ys∧∀ l,H l=none→Q (.ref l) (upd H l (.tup ys)))∨(SqT K H p ys∧Q (.ref p) H))
theorem BA:bE X (.type "tuple") (pF X.K):=nI
def ww:List V→Hp→VK→Prop:=fun xs H Q=>match xs with
 | [.int i]=>i.natAbs.log2<1920∧Q (.str (toString i)) H
 | _=>False
theorem Ij:bE X (.type "str") ww:=fun pins s σ H xs us Q I r h=>by
 unfold ww at h
 split at h
 · exact oK pins s σ H _ us Q I r ⟨_,rfl,h.1,h.2⟩
 · exact h.elim
def wZ:List V→Hp→VK→Prop:=fun xs H Q=>match xs with
 | [.str x]=>x.length=1∧Q (.int (x.cps.getD 0 0:Nat)) H
 | _=>False
theorem IE:bE X (.builtin "ord") wZ:=fun pins s σ H xs us Q I r h=>by
 unfold wZ at h
 split at h
 · exact vG pins s σ H _ us Q I r ⟨_,rfl,h.1,h.2⟩
 · exact h.elim
end
end L2
namespace L2
open PySem PySem.Spec PyProof.Rows
theorem CG:bootBuiltins "all" =some (.builtin "all"):=by decide +kernel
structure eJ (J:It) (n:Nat) (it:Nat→V) (Pv:Hp→Prop):Prop where
 go:∀ i H,i<n→Pv H→J.go i H
 yld:∀ i H x H',i<n→Pv H→J.yld i H x H'→H'=H∧x=it i
 stop:∀ H,Pv H→J.stop n H
theorem eJ.tuple {K:W.Frag} {a:Addr} {xs:List V} (d:V):eJ (Itt K a) xs.length (fun i=>xs.getD i d) (fun H=>SqT K H a xs) where
 go:=fun i H hi h=>⟨xs,xs[i],h,by simp [hi]⟩
 yld:=fun i H x H' hi h y=>⟨y.1,by have:=y.2 xs h;rw [List.getD_eq_getElem?_getD,this];rfl⟩
 stop:=fun H h=>⟨xs,h,Nat.le_refl _⟩
def CWd (n:Nat) (Pv:Nat→List V→Hp→Prop):Nat→Nat→List V→Hp→Prop:=fun i m ys H=>i≤n∧m=n - i∧Pv i ys H
theorem CWd.next {n i:Nat} {Pv:Nat→List V→Hp→Prop} {ys:List V} {H:Hp} (hi:i<n) (h:Pv (i+1) ys H):∃ m',m'<n - i∧CWd n Pv (i+1) m' ys H:=⟨n - (i+1),by omega,hi,rfl,h⟩
theorem mO {J : It} {n : Nat} {it : Nat → V} {Pk : Hp → Prop} {σ : St} {is : List Nat} {tc : TT} {te : TE} {Q : VK} {H1 : Hp} {D : Addr} (T : eJ J n it Pk) (Pv : Nat → List V → Hp → Prop)
   (hk : ∀ i ys H, i ≤ n → Pv i ys H → Pk H) (h0 : Pv 0 [] (upd H1 D (.lst [])))
   (hs : ∀ i ys H2, i < n → Pv i ys H2 → tc (some (it i) :: aR σ is) H2 fun b H4 => if b = true then
    te (some (it i) :: aR σ is) H4 fun y H5 => H5 D = some (.lst ys) ∧ ys.length < sizeLine ∧ ∃ m', m' < n - i ∧ CWd n Pv (i + 1) m' (ys ++ [y]) (upd H5 D (.lst (ys ++ [y])))
    else ∃ m', m' < n - i ∧ CWd n Pv (i + 1) m' ys H4)
   (hd : ∀ ys H, Pv n ys H → Q (.ref D) H) : rR is tc te σ D J H1 Q := by
 refine ⟨CWd n Pv, ⟨n, Nat.zero_le _, rfl, h0⟩, ?_⟩
 rintro i m ys H2 ⟨hi, rfl, p⟩
 by_cases hlt : i < n
 · refine .inr ⟨T.go i H2 hlt (hk i ys H2 hi p), fun x H3 y => ?_⟩
   obtain ⟨rfl, rfl⟩ := T.yld i H2 x H3 hlt (hk i ys H2 hi p) y
   exact hs i ys _ hlt p
 · have e : i = n := by omega
   subst e
   exact .inl ⟨T.stop H2 (hk _ ys H2 hi p), hd ys H2 p⟩
theorem ay.upd {H:Hp} {p:Addr} {o:HO} (h:H p=none):ay H (upd H p o):=fun b u e=>by rw [ao (ax e h)];exact e
theorem tX {xs:List V} {i:Int} (h0:0≤i) (h1:i<xs.length):atI xs i=some (xs.getD i.toNat .non):=by
 unfold atI ixN
 rw [if_pos h0,if_pos h1]
 show xs[i.toNat]?=_
 rw [List.getD_eq_getElem?_getD]
 have:i.toNat<xs.length:=by omega
 rw [List.getElem?_eq_getElem this];rfl
end L2
namespace L2
open PySem PySem.Spec PyProof.Rows
def bO:Expr→Bool
 | .Starred _ _=>false
 | _=>true
theorem bg {e:Expr} (h:bO e=true) (bY:List Expr) (env:Env):starEach (e::bY) env=(false,eval e env)::starEach bY env:=by
 cases e <;> first | rfl | cases h
def bf:List Expr→Bool
 | []=>true
 | e::r=>bO e&&bf r
theorem bJ : ∀ {es : List Expr} {env : Env} {pos : Pos}, bf es = true → (backTo pos (starEach es env)).any (·.1) = false
  | [], _, _, _ => rfl
  | e :: r, env, pos, h => by
    have h : (bO e && bf r) = true := h
    rw [Bool.and_eq_true] at h
    rw [bg h.1]
    show (false || (backTo pos (starEach r env)).any (·.1)) = false
    rw [bJ h.2]; rfl
section
variable {X:Cx} {e:Expr} {es:List Expr} {te:TE} {t:TA} {pos:Pos}
theorem Ax (ha:PE X e te) (hr:PA X es t) (hs:bO e=true:=by rfl):PA X (e::es) (ae te t):=zO ha hr (bg hs es X.env)
variable {x:Str} {p apos cpos:Pos} {id T:String} {r:List V→Hp→VK→Prop}
theorem zE (hc:bE X (.builtin id) r) (hg:Gl X x) (hm:X.mg x=none) (hv:bootBuiltins x=some (.builtin id)) (ha:PA X (e::es) t) (hn:x≠ "__name__" :=by decide) (hdb:(x==("__debug__" :Str))=false:=by decide)
  (hs:bf (e::es)=true:=by rfl):PE X (.Call (.Name x p) (e::es) [] pos) (tCB r t):=
 have h:(bO e&&bf es)=true:=hs
 xE hc hg hm hv ha hn hdb (bg (Bool.and_eq_true_iff.mp h).1 es X.env) (bJ (Bool.and_eq_true_iff.mp h).2)
theorem xU (hc:bE X (.type T) r) (hg:Gl X x) (hm:X.mg x=none) (hv:bootBuiltins x=some (.type T)) (ha:PA X (e::es) t) (hn:x≠ "__name__" :=by decide) (hdb:(x==("__debug__" :Str))=false:=by decide)
  (hs:bf (e::es)=true:=by rfl):PE X (.Call (.Name x p) (e::es) [] pos) (tCB r t):=
 have h:(bO e&&bf es)=true:=hs
 ug hc hg hm hv ha hn hdb (bg (Bool.and_eq_true_iff.mp h).1 es X.env) (bJ (Bool.and_eq_true_iff.mp h).2)
variable {CX:CXT} {k:Nat} {f C:Addr} {fd:FuncData} {ps:List Str} {sp:Sp} {dvs:List V} {ds:List Value} {E:XK} {m:Str} {o:Expr} {ta:TE}
theorem hR : ∀ {es : List Expr} {env : Env} {pos : Pos}, bf es = true → (backTo pos (starEach es env)).all (fun x => !x.1) = true
  | [], _, _, _ => rfl
  | e :: r, env, pos, h => by
    have h : (bO e && bf r) = true := h
    rw [Bool.and_eq_true] at h
    rw [bg h.1]
    show (true && (backTo pos (starEach r env)).all (fun x => !x.1)) = true
    rw [hR h.2]; rfl
variable {to:TE} {name:Str} {rm:V→List V→Hp→VK→Prop}
theorem IC (pa:PlainAttrs T) (slot:Slot T name id) (hty:typeOf (.builtin id)=pure (.type "method_descriptor")) (hm:MtR X id rm) (ho:PE X o to) (ha:PA X (e::es) t)
  (hbase:attributeBase o name X.env (eval o X.env)=eval o X.env:=by rfl) (hfew:decide ((e::es).length<30)=true:=by rfl)
  (hline:(apos.endLine==cpos.line)=true:=by rfl) (hs:bf (e::es)=true:=by rfl):PE X (.Call (.Attribute o name apos) (e::es) [] cpos) (tBM X.K T rm to t):=
 have h:(bO e&&bf es)=true:=hs
 Hu pa slot hty hm ho ha hbase (by rw [hR hs];exact hfew) hline (bg (Bool.and_eq_true_iff.mp h).1 es X.env) (bJ (Bool.and_eq_true_iff.mp h).2)
end
end L2
namespace L2
open PySem PySem.Spec PyProof.Rows
structure QE (X:Cx) (e:Expr) (t:TE):Prop where
 out:PE X e t
structure QT (X:Cx) (e:Expr) (t:TT):Prop where
 out:PT X e t
structure QW (X:Cx) (e:Expr) (t:TT):Prop where
 out:PW X e t
structure QA (X:Cx) (e:List Expr) (t:TA):Prop where
 out:PA X e t
structure QS (X:Cx) (e:Stmt) (t:TS):Prop where
 out:PS X e t
structure QSs (X:Cx) (e:List Stmt) (t:TS):Prop where
 out:PSs X e t
structure QI (X:Cx) (tg iter:Expr) (t:TI):Prop where
 out:PI X tg iter t
structure QO (X:Cx) (e:Option Expr) (t:TO):Prop where
 out:PO X e t
structure sJ (X:Cx) (e:List Expr) (t:TT):Prop where
 out:mL X e t
section
variable {X:Cx} {a b c e o:Expr} {es bY:List Expr} {ta tb tc te to tv:TE} {tA tB':TT} {t:TA} {pos apos cpos p:Pos} {x y:Str}
theorem aa (i:Nat) (hN:X.N[i]?=some x:=by rfl) (hv:Vis X.env.scope x:=by first | exact Or.inl rfl | exact Or.inr (Or.inl rfl) | exact Or.inr (Or.inr rfl)) (hd:(x==("__debug__" :Str))=false:=by decide)
 (hcd:(x==("__classdict__" :Str))=false:=by decide):QE X (.Name x pos) (ab i):=⟨qv i hN hv hd hcd⟩
theorem wL {i:Int} (hm:∃ t,X.mg x=some (.int i t)) (hg:Gl X x:=by rfl) (hd:(x==("__debug__" :Str))=false:=by decide):QE X (.Name x pos) (tC (.int i)):=⟨qgi hm hg hd⟩
theorem fD {T:String} (hm:X.mg x=none) (hv:bootBuiltins x=some (.type T)) (hg:Gl X x:=by rfl) (hn:x≠ "__name__" :=by decide) (hd:(x==("__debug__" :Str))=false:=by decide):QE X (.Name x pos) (tC (.ty T)):=⟨Am hg hm hv rfl hn hd⟩
theorem ap {i:Int} {j}:QE X (.Constant (.int i) j pos) (tC (.int i)):=⟨Co⟩
theorem cM {b:Bool} {j}:QE X (.Constant (.bool b) j pos) (tC (.bl b)):=⟨Fv⟩
theorem jO {j}:QE X (.Constant .none j pos) (tC .non):=⟨BC⟩
theorem cZ {z:Str} {j}:QE X (.Constant (.str z) j pos) (tC (.str z)):=⟨Cf⟩
theorem lX (ha:QE X a ta):QE X (.UnaryOp .USub a pos) (tUn hZ ta):=⟨FC Ir ha.out⟩
theorem GP (ha:QE X a ta):QE X (.UnaryOp .Not a pos) (rY ta):=⟨HA ha.out⟩
theorem aC {op:Operator} {r:R2} (ho:OpR X (binaryOp op) r) (ha:QE X a ta) (hb:QE X b tb):QE X (.BinOp a op b pos) (tOp r ta tb):=⟨Gq ho ha.out hb.out⟩
theorem gR {op:CmpOp} {r:R2} (ho:OpR X (compareOp op) r) (ha:QE X a ta) (hb:QE X b tb) (hm:behindInMarks op b=false:=by first | exact lI _ | rfl):QE X (.Compare a [op] [b] pos) (tOp r ta tb):=⟨qc ho ha.out hb.out hm⟩
theorem jZ {op op':CmpOp} {r r':R2} (ho:OpR X (compareOp op) r) (ho':OpR X (compareOp op') r') (ha:QE X a ta) (hb:QE X b tb) (hc:QE X c tc) (hm:lastMarks [op,op'] [b,c]=false:=by with_unfolding_all rfl):
 QE X (.Compare a [op,op'] [b,c] pos) (dS r r' ta tb tc):=⟨qch ho ho' ha.out hb.out hc.out hm⟩
theorem gM {op} (h:QE X a ta):QE X (.BoolOp op [a] pos) ta:=⟨DJ h.out⟩
theorem fS (ha:QE X a ta) (hb:QE X (.BoolOp .And (b::bY) pos) tb):QE X (.BoolOp .And (a::b::bY) pos) (ff ta tb):=⟨IY ha.out hb.out⟩
theorem mI (hc:QT X c tA) (ha:QE X a ta) (hb:QE X b tb):QE X (.IfExp c a b pos) (mIf tA ta tb):=⟨Ii hc.out ha.out hb.out⟩
theorem ai:QA X [] ag:=⟨DQ⟩
theorem ac (ha:QE X e te) (hr:QA X es t) (hs:bO e=true:=by rfl):QA X (e::es) (ae te t):=⟨Ax ha.out hr.out hs⟩
theorem gY (h:QA X es t):QE X (.List es pos) (eZ t):=⟨Ee h.out⟩
theorem gc {x1} (h:QA X es t):QE X (.Tuple es x1 pos) (eY t):=⟨Ed h.out⟩
theorem bu {r:R2} (hr:IxR X r) (ha:QE X a ta) (hb:QE X b tb) (hs:qp b):QE X (.Subscript a b pos) (tOp r ta tb):=⟨HE hr ha.out hb.out hs⟩
theorem gq:QO X none cX:=⟨zW⟩
theorem eU (h:QE X e te):QO X (some e) (dn te):=⟨zT h.out⟩
theorem fq {r:V→Option Int→Option Int→Hp→VK→Prop} {lo hi:Option Expr} {tl th:TO} {p2:Pos} (hr:SlR X r) (he:QE X e te) (hl:QO X lo tl) (hu:QO X hi th):QE X (.Subscript e (.Slice lo hi none p2) pos) (tSl r te tl th):=⟨xM hr he.out hl.out hu.out⟩
variable {id T:String} {r:List V→Hp→VK→Prop}
theorem aU (hc:bE X (.builtin id) r) (hm:X.mg x=none) (hv:bootBuiltins x=some (.builtin id)) (ha:QA X (e::es) t) (hg:Gl X x:=by rfl) (hn:x≠ "__name__" :=by decide) (hdb:(x==("__debug__" :Str))=false:=by decide)
 (hs:bf (e::es)=true:=by rfl):QE X (.Call (.Name x p) (e::es) [] pos) (tCB r t):=⟨zE hc hg hm hv ha.out hn hdb hs⟩
theorem iV (hc:bE X (.type T) r) (hm:X.mg x=none) (hv:bootBuiltins x=some (.type T)) (ha:QA X (e::es) t) (hg:Gl X x:=by rfl) (hn:x≠ "__name__" :=by decide) (hdb:(x==("__debug__" :Str))=false:=by decide)
 (hs:bf (e::es)=true:=by rfl):QE X (.Call (.Name x p) (e::es) [] pos) (tCB r t):=⟨xU hc hg hm hv ha.out hn hdb hs⟩
variable {CX:CXT} {k:Nat} {f C:Addr} {fd:FuncData} {ps:List Str} {sp:Sp} {dvs:List V} {ds:List Value} {E:XK} {m:Str}
variable {name:Str} {rm:V→List V→Hp→VK→Prop}
theorem jq (pa:PlainAttrs T) (slot:Slot T name id) (hty:typeOf (.builtin id)=pure (.type "method_descriptor")) (hm:MtR X id rm) (ho:QE X o to) (ha:QA X (e::es) t)
 (hbase:attributeBase o name X.env (eval o X.env)=eval o X.env:=by rfl) (hfew:decide ((e::es).length<30)=true:=by rfl)
 (hline:(apos.endLine==cpos.line)=true:=by rfl) (hs:bf (e::es)=true:=by rfl):QE X (.Call (.Attribute o name apos) (e::es) [] cpos) (tBM X.K T rm to t):=⟨IC pa slot hty hm ho.out ha.out hbase hfew hline hs⟩
theorem aX {op:CmpOp} {r:R2} (ho:OpR X (compareOp op) r) (ha:QE X a ta) (hb:QE X b tb) (hm:behindInMarks op b=false:=by first | exact lI _ | rfl):QT X (.Compare a [op] [b] pos) (aS (tOp r ta tb)):=⟨qtc ho ha.out hb.out hm⟩
theorem kK {op op':CmpOp} {r r':R2} (ho:OpR X (compareOp op) r) (ho':OpR X (compareOp op') r') (ha:QE X a ta) (hb:QE X b tb) (hc:QE X c tc) (hm:lastMarks [op,op'] [b,c]=false:=by with_unfolding_all rfl):
 QT X (.Compare a [op,op'] [b,c] pos) (aS (dS r r' ta tb tc)):=⟨IT ho ho' ha.out hb.out hc.out hm⟩
theorem bp (h:QE X e te) (he:∀ whole,isTrue e X.env whole=(do let v←whole;standAt e.pos;holding [v] (truthy v)):=by intro _;rfl):QT X e (bM X.K te):=⟨qtb h.out he⟩
theorem bx (ha:QT X a tA):QT X (.UnaryOp .Not a pos) (bT tA):=⟨DF ha.out⟩
theorem x_w (h:QW X e tA):QT X e tA:=⟨h.out.pt⟩
theorem iz (ha:QT X a tA):QW X (.BoolOp .And [a] pos) tA:=⟨Aw ha.out⟩
theorem fb (ha:QT X a tA):QW X (.BoolOp .Or [a] pos) tA:=⟨DR ha.out⟩
theorem jv (ha:QT X a tA) (hb:QW X (.BoolOp .And (b::bY) pos) tB'):QW X (.BoolOp .And (a::b::bY) pos) (jG tA tB'):=⟨CA ha.out hb.out⟩
theorem fc (ha:QT X a tA) (hb:QW X (.BoolOp .Or (b::bY) pos) tB'):QW X (.BoolOp .Or (a::b::bY) pos) (mOr tA tB'):=⟨Gk ha.out hb.out⟩
variable {tg iter elt:Expr} {wi:TI} {ifs:List Expr} {scope:Scope} {ys:List Str} {is:List Nat} {px py spos:Pos}
theorem vK (hm:X.mg "range" =none) (ha:QA X [a] t) (hg:Gl X "range" :=by rfl) (hs:bO a=true:=by rfl):QI X tg (.Call (.Name "range" p) [a] [] pos) (nW t):=⟨ue hg hm ha.out (bg hs [] X.env)⟩
theorem lF:sJ X [] (fun _ H Q=>Q true H):=⟨rfl⟩
theorem tK {tcn:TT} (S:eS scope x ys) (hcap:eC X scope ys is) (hi:QI X (.Name x px) iter wi)
 (hif:∀ C s H fp,sJ (aD X scope C (x::ys) s H fp) ifs tcn) (he:∀ C s H fp,QE (aD X scope C (x::ys) s H fp) elt te) (hc:X.calm=true:=by rfl)
 (hs:∀ x,foldedSetIterable iter X.env x=pure x:=by intro _;rfl):QE X (.ListComp elt [⟨.Name x px,iter,ifs,0⟩] scope pos) (iH is wi tcn te):=⟨zZ hc S hcap hi.out (fun C s H fp=>(hif C s H fp).out) (fun C s H fp=>(he C s H fp).out) hs⟩
variable {st:Stmt} {sts:List Stmt} {tS uS:TS} {i j:Nat}
theorem aG:QSs X [] aK:=⟨Aa⟩
theorem am (h:QS X st tS):QSs X [st] tS:=⟨Ad h.out⟩
theorem aj (h1:QS X st tS) (h2:QSs X sts uS):QSs X (st::sts) (aq tS uS):=⟨vX h1.out h2.out⟩
theorem aw (h:QE X e te):QS X (.Return (some e) pos) (az te):=⟨Dm h.out⟩
theorem aQ {l m:List Stmt} (hc:QT X c tA) (ha:QSs X l tS) (hb:QSs X m uS):QS X (.If c l m pos) (bc tA tS uS):=⟨qif hc.out ha.out hb.out⟩
theorem aP (i:Nat) (hN:X.N.Nodup) (he:QE X e te) (hi:X.N[i]?=some x:=by rfl) (hx:Loc X.env.scope x:=by first | exact .inl rfl | exact .inr rfl)
 (hs:swapsWith e (some (.Name x p)) pos.line X.env=pure false:=by rfl) (hf:X.fn x=true∨X.env.scope.names.lookup x=some .local:=by first | exact .inl rfl | exact .inr rfl):QS X (.Assign [.Name x p] e pos) (aF te (au i)):=⟨DI hN hi hx he.out hs hf⟩
theorem uu (j:Nat) {tcn:TT} (hN:X.N.Nodup) (S:eS scope x ys) (hcap:eC X scope ys is) (hi:QI X (.Name x px) iter wi)
  (hif:∀ C s H fp,sJ (aD X scope C (x::ys) s H fp) ifs tcn) (he:∀ C s H fp,QE (aD X scope C (x::ys) s H fp) elt te) (hc:X.calm=true:=by rfl)
  (hj:X.N[j]?=some y:=by rfl) (hy:Loc X.env.scope y:=by first | exact .inl rfl | exact .inr rfl)
  (hsw:swapsWith (.ListComp elt [⟨.Name x px,iter,ifs,0⟩] scope pos) (some (.Name y py)) spos.line X.env=pure true:=by rfl) (hf:X.fn y=true∨X.env.scope.names.lookup y=some .local:=by first | exact .inl rfl | exact .inr rfl)
  (hs:∀ x,foldedSetIterable iter X.env x=pure x:=by intro _;rfl):QS X (.Assign [.Name y py] (.ListComp elt [⟨.Name x px,iter,ifs,0⟩] scope pos) spos) (aF (iH is wi tcn te) (au j)):=
 ⟨tm hN hj hy hc S hcap hi.out (fun C s H fp=>(hif C s H fp).out) (fun C s H fp=>(he C s H fp).out) hsw hf hs⟩
theorem eD (h:QE X e te) (hs:swapsWith e none pos.line X.env=pure false:=by rfl):QS X (.Expr e pos) (dm te):=⟨zG h.out hs⟩
theorem hE (i:Nat) (hN:X.N.Nodup) {body:List Stmt} (hi:QI X (.Name x px) iter wi) (hb:QSs X body tS) (hp:PassesOwn (model X.prog X.w) X.A X.env X.xe) (hc:X.calm=true:=by rfl)
 (hj:X.N[i]?=some x:=by rfl) (hx:Loc X.env.scope x:=by first | exact .inl rfl | exact .inr rfl) (hf:X.fn x=true∨X.env.scope.names.lookup x=some .local:=by first | exact .inl rfl | exact .inr rfl)
 (hs:∀ x,foldedSetIterable iter X.env x=pure x:=by intro _;rfl):QS X (.For (.Name x px) iter body [] pos) (eN wi (au i) tS):=⟨tR hp hc hi.out (eW hN hj hx hf) hb.out hs⟩
theorem Ae {body:List Stmt} (hc:QT X c tA) (hb:QSs X body tS) (hp:PassesOwn (model X.prog X.w) X.A X.env X.xe):QS X (.While c body [] pos) (pM tA tS):=⟨xw hp hc.out hb.out⟩
theorem dE:QS X st dC:=⟨wW⟩
end
end L2
namespace HT
open PySem PyProof.Rows
structure Hd0 (vs:Array Value) (a0:Value):Prop where
 a:vs[0]?=some a0
 b:vs[2]?=some .none
section
variable {M:Model} {A:Around} {E:Value→Shared→Prop} {s:Shared} {base:Heap} {env:Env} {outer:List Env} {L e:Addr} {cls a0:Value} {d:Option Addr} {Q:Unit→Shared→Prop}
end
end HT
namespace L2
open PySem PySem.Spec PyProof.Rows
structure Fly (P:Program) (w:World) (l:List Env) (H:Hp) (s:Shared) (cls fl:Value) (a:Addr) (d:Option Addr) (H':Hp) (s':Shared):Prop where
 os:s'.os=s.os
 bare:AllBare s'.gens
 un:Un (frs l) [] H H' s.heap s'.heap
 hok:HOk P w H' s'.heap
 new:s.heap.get? a=none
 free:H' a=none
 tr:∃ oe vs a0 T oT ts,s'.heap.get? a=some oe∧oe.cls=cls∧oe.dict=d∧oe.data=.fields vs∧HT.Hd0 vs a0∧vs[1]?=some (.ref T)∧T≠a∧s'.heap.get? T=some oT∧oT.data=.fields ts∧ts[3]?=some fl∧s.heap.get? T=none∧H' T=none
def CX1 (P:Program) (w:World):CXT:=fun outer H s E e s'=>∃ a C d H',e=.ref a∧Fly P w outer H s (.ref C) .none a d H' s'∧E (.ref C) d H'
theorem vR {P:Program} {w:World} {H:Hp} {h:Heap} {a:Addr} {o:HO} (x:bh P w H h a o):∃ u,h.get? a=some u:=by
 cases o with
 | lst xs=>obtain ⟨_,_,_,_,e⟩:=x;exact ⟨_,e⟩
 | tup xs=>obtain ⟨_,_,_,p⟩:=x;obtain ⟨o,e,_⟩:=p;exact ⟨_,e⟩
 | dK kvs=>obtain ⟨_,_,_,_,o,_,_,e,_⟩:=x;exact ⟨_,e⟩
 | dT kvs=>obtain ⟨_,_,_,_,o,_,_,e,_⟩:=x;exact ⟨_,e⟩
 | set S n=>obtain ⟨o,_,_,_,e,_⟩:=x;exact ⟨_,e⟩
 | ins C dx fs=>obtain ⟨_,_,_,e,_⟩:=x;exact ⟨_,e⟩
 | own y=>exact x
 | xd fs=>obtain ⟨_,⟨_,_,_,e,_⟩,_⟩:=x;exact ⟨_,e⟩
 | rng lo hi=>obtain ⟨_,_,_,e⟩:=x;exact ⟨_,e⟩
 | frz ob u=>obtain ⟨e,_⟩:=x;exact ⟨_,e⟩
 | tbl ps=>exact ⟨_,(show h.get? a=some _ from x)⟩
 | met f y=>exact ⟨_,(show h.get? a=some _ from x)⟩
 | ext φ=>obtain ⟨_,e,_⟩:=x;exact e
section
variable {P:Program} {w:World} {l:List Env} {H H':Hp} {s s':Shared} {cls fl fl':Value} {a:Addr} {d:Option Addr} {base:Heap}
end
end L2
namespace L2
open PySem PySem.Spec PyProof.Rows
section
variable {X:Cx} {pins:List (Addr×Obj)} {σ:St} {H H':Hp} {s s':Shared} {cls fl:Value} {a:Addr} {d:Option Addr}
end
section
variable {P:Program} {w:World} {l:List Env} {H H':Hp} {s s':Shared} {cls fl':Value} {a:Addr} {d:Option Addr} {base:Heap}
end
def dZ (CX:CXT) (X:Cx) (E:St→XK):Prop:=∀ (pins:List (Addr×Obj)) (σ:St) (H:Hp) (s:Shared) (e:Value) (s':Shared),Inv X pins σ H s→CX X.stack H s (E σ) e s'→X.xe e s'
theorem aL {P:Program} {w:World} {X:Cx}:dZ (CX1 P w) X (fun _=>E0):=fun pins σ H s e s' I ⟨_,_,_,_,_,_,h⟩=>h.elim
section
variable {P:Program} {w:World} {K:W.Frag} {mg:Str→Option Value} {base:Heap} {N:List Str} {qual:Str} {scope:Scope} {f:Addr} {cd:Value} {A:Around} {outer:List Env} {s:Shared} {H:Hp} {E:XK}
end
def ar (sp:Sp) (E:St→XK) (t:TA):TE:=fun σ H Q=>t σ H fun vs H1=>sp vs H1 Q (E σ)
section
variable {X:Cx} {CX:CXT} {k:Nat} {f:Addr} {fd:FuncData} {ps:List Str} {sp:Sp} {E:St→XK} {x:Str} {p pos:Pos} {e:Expr} {es:List Expr} {t:TA}
theorem gj {pins : List (Addr × Obj)} {σ : St} {H : Hp} {s : Shared} {Q : VK} {us : List Value} {vs : List V} (F : aE X.prog X.w X.K X.mg X.base CX k f fd ps sp) (hr : bj k X.A) (hb : be X.K fd ps []) (hx : dZ CX X E)
    (I : Inv X pins σ H s) (r : aZ vs us) (h : sp vs H Q (E σ)) : wpAny (model X.prog X.w) X.A (call (.ref f) us) (EP X pins σ Q) X.xe s := by
  have hl : us.length = ps.length := by rw [← r.length]; exact F.len _ _ _ _ h
  have hb' := hb s us I.kIn (by rw [List.append_nil]; exact hl)
  rw [List.append_nil] at hb'
  refine wpAny_call (codeAny_mono (F.run X.A X.stack s H ⟨us, []⟩ us vs Q (E σ) hr I.env0 hb' r h) fun r s' hq => ?_)
  cases r with
  | error e => exact hx pins σ H s e s' I hq
  | ok fl =>
    cases fl with
    | ret u => exact I.after hq
    | next => exact False.elim hq
    | brk => exact False.elim hq
    | cont => exact False.elim hq
theorem An (F:aE X.prog X.w X.K X.mg X.base CX k f fd ps sp) (hr:bj k X.A) (hm:X.mg x=some (.ref f)) (hk:W.keepIn X.K (.ref f)=true) (hb:be X.K fd ps []) (hx:dZ CX X E)
  (ha:QA X (e::es) t) (hg:Gl X x:=by rfl) (hdb:(x==("__debug__" :Str))=false:=by decide) (hs:bf (e::es)=true:=by rfl):QE X (.Call (.Name x p) (e::es) [] pos) (ar sp E t):=by
 refine ⟨fun pins s σ H Q I h=>?_⟩
 have h':(bO e&&bf es)=true:=hs
 refine wpAny_Call_Name_kw (iy I hg hm ?_ hdb)
 refine W.callWith_K (h₀:=X.base) I.ok.mod.kin hk (thn (ha.out pos pins s σ H _ I h) fun us s1 ⟨vs,H1,I1,r,q⟩=>⟨I1.kIn,?_⟩) (bg (Bool.and_eq_true_iff.mp h').1 es X.env) (bJ (Bool.and_eq_true_iff.mp h').2)
 exact gj F hr hb hx I1 r q
theorem kL (F:aE X.prog X.w X.K X.mg X.base CX k f fd ps sp) (hr:bj k X.A) (hm:X.mg x=some (.ref f)) (hk:W.keepIn X.K (.ref f)=true) (hb:be X.K fd ps []) (hx:dZ CX X E)
  (hg:Gl X x:=by rfl) (hdb:(x==("__debug__" :Str))=false:=by decide):QE X (.Call (.Name x p) [] [] pos) (ar sp E ag):=by
 refine ⟨fun pins s σ H Q I h=>?_⟩
 refine wpAny_Call_Name_kw (iy I hg hm ?_ hdb)
 exact W.callWith_K0 I.kIn hk (gj (us:=[]) F hr hb hx I .nil h)
end
end L2
namespace L2
open PySem PySem.Spec PyProof.Rows
section
variable {X:Cx} {pins:List (Addr×Obj)} {σ:St} {H H1 H':Hp} {s s0:Shared} {a:Addr} {o:HO}
end
section
variable {X:Cx} {pins:List (Addr×Obj)} {σ:St} {H:Hp} {s:Shared} {a:Addr}
end
abbrev TH:=hG→St→Addr→Option Addr→Hp→Prop
section
variable {X:Cx}
variable {x n:Str} {np hp:Pos} {Dc:Addr} {b0:Stmt} {suite:List Stmt} {bY:List ExceptHandler} {ts:TS} {r:TH} {i:Nat}
end
end L2
namespace L2
open PySem PySem.Spec PyProof.Rows
section
variable {X:Cx} {pins pn:List (Addr×Obj)} {σ:St} {H:Hp} {s:Shared} {E':Value→Shared→Prop}
end
section
variable {X:Cx}
end
end L2
namespace L2
open PySem PySem.Spec PyProof.Rows
section
variable {K:W.Frag} {prog:Program} {w:World} {A:Around} {E:Value→Shared→Prop} {h:Heap} {g:Array GenState} {d:Drawn} {t:Nat} {os:OsState} {a C:Addr} {o:Obj}
end
section
variable {X:Cx}
theorem Ei {x:Str} {D:Addr} {pos:Pos} (hm:X.mg x=some (.ref D)) (hg:Gl X x:=by rfl) (hd:(x==("__debug__" :Str))=false:=by decide):QE X (.Name x pos) (tC (.ref D)):=⟨md hg hm rfl hd⟩
end
end L2
namespace HT
open PySem PyProof.Rows
section
variable {prog:Program} {w:World} {A:Around} {E:Value→Shared→Prop} {s:Shared}
end
end HT
namespace HT
open PySem PyProof.Rows
section
variable {prog:Program} {w:World} {A:Around} {E:Value→Shared→Prop} {s:Shared}
theorem xL {t b:Addr} {ws:List Value} {Q:Value→Shared→Prop} (ht:IsTup s.heap t #[]) (hb:IsTup s.heap b ws.toArray) (h1:Q (.ref b) s):wpAny (model prog w) A (binaryOp .Add (.ref t) (.ref b)) Q E s:=by
 obtain ⟨⟨cls,dd,data,sl⟩,ho,hc,n,hd⟩:=id ht
 obtain ⟨⟨cls2,dd2,data2,sl2⟩,ho2,hc2,n2,hd2⟩:=id hb
 simp only at hc hd hc2 hd2
 subst hc hd hc2 hd2
 exact concat_meets ⟨_,ho,rfl⟩ ⟨_,ho2,rfl⟩ noFill_tuple_add seq_tuple_add PySem.F.slot_tuple_add PySem.F.entry_tuple_add (PySem.F.args_tuple_add_2 _ _)
  (tuple_addW0 t b #[] ws.toArray n n2 dd dd2 sl sl2 (by simp)) ⟨ho,ho2,h1⟩
end
end HT
namespace L2
open PySem PySem.Spec PyProof.Rows
theorem ay.rfl' {H:Hp}:ay H H:=fun _ _ e=>e
section
variable {X:Cx}
def zi:R2:=fun x y H Q=>∃ a b xs ys,x=.ref a∧y=.ref b∧H a=some (.tup xs)∧H b=some (.tup ys)∧xs.length+ys.length≤sizeLine∧∀ p H',ay H H'→H' p=some (.tup (xs++ys))→Q (.ref p) H'
theorem zy:OpR X (binaryOp .Add) zi:=by
 intro pins s σ H x y v u Q I rx ry h
 obtain ⟨a,b,xs,ys,rfl,rfl,ha,hb,hz,q⟩:=h
 by_cases hx:xs=[]
 · subst hx
   cases rx
   cases ry
   obtain ⟨its,r1,p1,_⟩:=I.tuple (.inl (.inl ha))
   obtain ⟨its2,r2,p2,_⟩:=I.tuple (.inl (.inl hb))
   cases r1
   exact HT.xL p1 p2 ⟨.ref b,H,I,rfl,q b H ay.rfl' hb⟩
 · refine Ao pins s σ H _ _ v u Q I rx ry ⟨a,b,xs,ys,rfl,rfl,.inl (.inl ha),.inl (.inl hb),hx,hz,fun e=>?_,fun _ p hp=>q p _ (ay.upd hp) (ak ..)⟩
   subst e
   exact q a H ay.rfl' (by rw [List.append_nil];exact ha)
def bQ (K:W.Frag):R2:=fun x y H Q=>match x,y with
 | .int i,.int j=>Q (.int (i+j)) H
 | .str i,.str j=>i.length+j.length≤sizeLine∧Q (.str (i++j)) H
 | .ref a,.ref b=>Dp (.ref a) (.ref b) H Q∨zi (.ref a) (.ref b) H Q
 | _,_=>False
theorem cG:OpR X (binaryOp .Add) (bQ X.K):=(Bu.or (se.or (Ek.or zy))).imp fun x y H Q q=>by
 unfold bQ at q
 split at q
 · exact .inl ⟨_,_,rfl,rfl,q⟩
 · exact .inr (.inl ⟨_,_,rfl,rfl,q.1,q.2⟩)
 · exact .inr (.inr q)
 · exact q.elim
def rH (t:TE):TE:=fun σ H Q=>t σ H fun x H'=>match x with
 | .int i=>i.natAbs.log2<1920∧Q (.str (toString i)) H'
 | .str z=>z.length≤sizeLine∧Q (.str z) H'
 | _=>False
theorem sP {e:Expr} {te:TE} {pos:Pos} (h:QE X e te):QE X (.FormattedValue e (-1) none pos) (rH te):=⟨fun pins s σ H Q I q=>by
 refine FormattedValue_plain (thn (h.out pins s σ H _ I q) fun v s1 ⟨x,H1,I1,r1,q1⟩=>?_)
 cases x <;> first | exact q1.elim | skip
 · rename_i i
   obtain ⟨t,rfl⟩:=(show ∃ t,v=Value.int i t from r1)
   exact formatField_int_small q1.1 ⟨.str _,H1,I1.tok _,⟨_,rfl⟩,q1.2⟩
 · rename_i z
   obtain ⟨t,rfl⟩:=(show ∃ t,v=Value.str z t from r1)
   exact formatField_str (fun t' tk=>⟨.str _,H1,I1.tok _,⟨_,rfl⟩,q1.2⟩) q1.1⟩
def mJ : List TE → Str → TE
  | [], acc => fun σ H Q => acc.length ≤ sizeLine ∧ Q (.str acc) H
  | t :: r, acc => fun σ H Q => t σ H fun x H' => match x with
    | .str y => (acc ++ y).length ≤ sizeLine ∧ mJ r (acc ++ y) σ H' Q
    | _ => False
inductive QJ (X:Cx):List Expr→List TE→Prop where
 | nil:QJ X [] []
 | cons {e:Expr} {t:TE} {es:List Expr} {ts:List TE}:QE X e t→QJ X es ts→QJ X (e::es) (t::ts)
theorem Hl {es : List Expr} {ts : List TE} (j : QJ X es ts) : ∀ {pins : List (Addr × Obj)} {s : Shared} {σ : St} {H : Hp} {Q : VK} {acc : Str}, Inv X pins σ H s → mJ ts acc σ H Q → wpAny (model X.prog X.w) X.A (joinParts acc (evalEach es X.env)) (EP X pins σ Q) X.xe s := by
  induction j with
  | nil => intro pins s σ H Q acc I q; exact joinParts_nil ⟨.str _, H, I.tok _, ⟨_, rfl⟩, q.2⟩ q.1
  | cons h _ ih =>
    intro pins s σ H Q acc I q
    refine joinParts_cons (thn (h.out pins s σ H _ I q) fun v s1 ⟨x, H1, I1, r1, q1⟩ => ?_)
    cases x <;> first | exact q1.elim | skip
    rename_i z
    obtain ⟨t, rfl⟩ := (show ∃ t, v = Value.str z t from r1)
    exact ⟨q1.1, ih I1 q1.2⟩
theorem uP {v1 v2:Expr} {bY:List Expr} {ts:List TE} {pos:Pos} (j:QJ X (v1::v2::bY) ts):QE X (.JoinedStr (v1::v2::bY) pos) (mJ ts Str.empty):=⟨fun pins s σ H Q I q=>JoinedStr_many (Hl j I q)⟩
end
end L2
namespace L2
open PySem PySem.Spec PyProof.Rows
theorem Fun.okN {P : Program} {w : World} {K : W.Frag} {mg : Str → Option Value} {base : Heap} {CX : CXT} {x qual : Str} {st : Stmt} {f : Addr} {fd : FuncData} {N ps : List Str} {k : Nat} {sp : Sp} (F : Fun K x qual st f fd) (S : av N ps (af st)) (len : ∀ vs H Q E, sp vs H Q E → vs.length = ps.length)
  (hbody : ∀ (cdv : Value) (A : Around) (outer : List Env) (s : Shared) (H : Hp) (vs : List V) (Q : VK) (E : XK), bj k (A.deeper (envOfC qual (af st) s.heap.objs.size f cdv)) → sp vs H Q E →
   ∃ t, PSs (eM CX P w K mg base N qual (af st) f cdv A outer s H E).nox (aN st) t ∧ t { nx := fun _ H' => Q .non H', rt := Q } (cp N vs) H) : aE P w K mg base CX (k + 1) f fd ps sp := by
 obtain ⟨oc, od, kV, doc, pm, an, cdv, ct, osl, rfl, lk, hcd⟩ := F.ex
 refine EL lk hcd S len fun A outer s H vs Q E hr hsp => ?_
 obtain ⟨t, h, q⟩ := hbody cdv A outer s H vs Q E hr hsp
 exact ⟨t, h.nox, q⟩
end L2
namespace L2
open PySem PySem.Spec PyProof.Rows
section
variable {X:Cx}
def Be:V→Option Int→Option Int→Hp→VK→Prop:=fun x lo hi H Q=>∃ z,x=.str z∧z.length≤sizeLine∧Q (.str (Txt.slice z lo hi)) H
theorem CJ : SlR X Be := by
  intro pins s σ H x v vl vu lo hi sl Q I rx hs pl pu h
  obtain ⟨z, rfl, hz, q⟩ := h
  obtain ⟨t, rfl⟩ := (show ∃ t, v = Value.str z t from rx)
  refine ⟨"str", _, F.slot_str_getitem.lookup, typeIs_str _ _ _, ?_⟩
  have fin : ∀ (l u : Option (Int × Tok)), l.map (·.1) = lo → u.map (·.1) = hi → s.heap.IsSlice sl l u none → wpAny (model X.prog X.w) X.A (getItem (.str z t) (.ref sl)) (EP X pins σ Q) X.xe s := fun l u e1 e2 hs' => by
    subst e1 e2
    refine wpAny_getItem_str_slice (l := l) (u := u) (st := none) hs' rfl (post_val_or_str ⟨Nat.le_trans (Txt.slice_le z _ _) hz, fun t' k => ⟨.str _, H, I.tok k, ⟨_, rfl⟩, q⟩⟩)
  obtain ⟨os, hos, hcs, hds⟩ := hs
  cases pl with
  | none => cases pu with
    | none => exact fin none none rfl rfl ⟨os, hos, hcs, hds⟩
    | int j tj => exact fin none (some (j, tj)) rfl rfl ⟨os, hos, hcs, hds⟩
  | int i ti => cases pu with
    | none => exact fin (some (i, ti)) none rfl rfl ⟨os, hos, hcs, hds⟩
    | int j tj => exact fin (some (i, ti)) (some (j, tj)) rfl rfl ⟨os, hos, hcs, hds⟩
def lJ:V→Bool
 | .int _=>true
 | .str _=>true
 | _=>false
theorem rT {A:Around} {s:Shared} {x y:V} {u v:Value} (rx:aJ x u) (ry:aJ y v) (hx:lJ x=true) (hy:lJ y=true):PySem.SeqAt.EqAt A s u v (decide (x=y)):=by
 cases x <;> first | cases hx | skip
 all_goals (cases y <;> first | cases hy | skip)
 · obtain ⟨t,rfl⟩:=rx;obtain ⟨t',rfl⟩:=ry
   have e:=PySem.SeqAt.EqAt.int_int (A:=A) (s:=s) ‹Int› t ‹Int› t'
   rename_i i j
   have e2:decide (V.int i=V.int j)=(i==j):=by rw [jo (f:=V.int) fun _ _ e=>V.int.inj e];rfl
   rw [e2];exact PySem.SeqAt.EqAt.int_int i t j t'
 · obtain ⟨t,rfl⟩:=rx;obtain ⟨t',rfl⟩:=ry
   exact PySem.SeqAt.EqAt.int_str _ _ _ _
 · obtain ⟨t,rfl⟩:=rx;obtain ⟨t',rfl⟩:=ry
   exact PySem.SeqAt.EqAt.str_int _ _ _ _
 · obtain ⟨t,rfl⟩:=rx;obtain ⟨t',rfl⟩:=ry
   rename_i i j
   have e2:decide (V.str i=V.str j)=(i==j):=by
    rw [jo (f:=V.str) fun _ _ e=>V.str.inj e]
    by_cases h:i=j
    · rw [h];simp
    · rw [decide_eq_false h];exact (beq_eq_false_iff_ne.mpr h).symm
   rw [e2];exact PySem.SeqAt.EqAt.str_str i t j t'
theorem uL {xs ys:List V}:decide (xs=ys)=((List.range (min xs.length ys.length)).all (fun j=>decide (xs[j]?=ys[j]?))&&xs.length==ys.length):=by
 by_cases h:xs=ys
 · subst h;simp
 · rw [decide_eq_false h]
   by_cases hl:xs.length=ys.length
   · rw [hl,Nat.min_self,beq_self_eq_true,Bool.and_true]
     symm
     rw [List.all_eq_false]
     apply Classical.byContradiction
     intro hn
     apply h
     apply List.ext_getElem? fun i=>?_
     by_cases hi:i<ys.length
     · apply Classical.byContradiction
       intro hne
       exact hn ⟨i,List.mem_range.mpr hi,by simpa using hne⟩
     · rw [List.getElem?_eq_none (by omega),List.getElem?_eq_none (by omega)]
   · have:(xs.length==ys.length)=false:=by simpa using hl
     rw [this,Bool.and_false]
def Cj (K:W.Frag):R2:=fun x y H Q=>∃ a b xs ys,x=.ref a∧y=.ref b∧SqT K H a xs∧SqT K H b ys∧xs.all lJ=true∧ys.all lJ=true∧Q (.bl (decide (xs=ys))) H
theorem Dv (hu:X.A.units<cLine):OpR X (compareOp .Eq) (Cj X.K):=by
 intro pins s σ H x y v u Q I rx ry h
 obtain ⟨a,b,xs,ys,rfl,rfl,ha,hb,px,py,q⟩:=h
 cases rx
 cases ry
 obtain ⟨its,r1,p1,_⟩:=I.tuple ha
 obtain ⟨its2,r2,p2,_⟩:=I.tuple hb
 have l1:=r1.length
 have l2:=r2.length
 refine PySem.SeqAt.eq_tupleAt (e:=fun j=>decide (xs[j]?=ys[j]?)) p1 p2 hu (fun j h1 h2=>?_) ?_
 · have h1:j<its.length:=by simpa using h1
   have h2:j<its2.length:=by simpa using h2
   have e1:xs[j]?=some xs[j]:=List.getElem?_eq_getElem (by omega)
   have e2:ys[j]?=some ys[j]:=List.getElem?_eq_getElem (by omega)
   obtain ⟨u1,g1,ru1⟩:=r1.get e1
   obtain ⟨u2,g2,ru2⟩:=r2.get e2
   have g1':its.toArray[j]=u1:=by
    rw [List.getElem?_eq_getElem h1] at g1;simpa using Option.some.inj g1
   have g2':its2.toArray[j]=u2:=by
    rw [List.getElem?_eq_getElem h2] at g2;simpa using Option.some.inj g2
   rw [g1',g2',e1,e2]
   have:decide (some xs[j]=some ys[j])=decide (xs[j]=ys[j]):=by simp
   rw [this]
   exact rT ru1 ru2 (List.all_eq_true.mp px _ (List.getElem_mem _)) (List.all_eq_true.mp py _ (List.getElem_mem _))
 · have e:=uL (xs:=xs) (ys:=ys)
   rw [l1,l2] at e
   simp only [List.size_toArray]
   rw [← e]
   exact ⟨.bl _,H,I,rfl,q⟩
def vE:List V→Hp→VK→Prop:=fun xs H Q=>match xs with
 | [.str z]=>∃ n,PySem.intText? z=some n∧z.length≤640∧Q (.int n) H
 | [.bl b]=>Q (.int (if b then 1 else 0)) H
 | _=>False
theorem HY:bE X (.type "int") vE:=fun pins s σ H xs us Q I r h=>by
 unfold vE at h
 split at h
 · obtain ⟨n,h1,h2,q⟩:=h
   obtain ⟨u,rfl,ru⟩:=dJ r
   obtain ⟨t,rfl⟩:=ru
   exact W.KIN.call_text h1 h2 ⟨.int n,H,I.tok _,⟨_,rfl⟩,q⟩
 · obtain ⟨u,rfl,ru⟩:=dJ r
   cases ru
   exact call_int_bool ⟨.int _,H,I.tok _,⟨_,rfl⟩,h⟩
 · exact h.elim
end
end L2
namespace HT
open PySem PyProof.Rows
section
variable {prog:Program} {w:World} {A:Around} {E:Value→Shared→Prop} {s:Shared}
end
end HT
namespace HT
open PySem PyProof.Rows
section
variable {prog:Program} {w:World} {A:Around} {E:Value→Shared→Prop} {s:Shared}
end
end HT
namespace L2
open PySem PySem.Spec PyProof.Rows
section
variable {X:Cx} {pins:List (Addr×Obj)} {σ:St} {H:Hp} {s:Shared} {h':Heap}
theorem Inv.turnedL {t':Nat} {fp:List Addr} (I:Inv X pins σ H s) (k:∀ b o,b∉fp→s.heap.get? b=some o→h'.get? b=some o) (hf:∀ b∈fp,gB X pins H b):Inv X pins σ H { s with heap:=h',toks:=t' }:=by
 have nit:∀ b u,H b=some u→b∉fp:=fun b u e z=>by rw [(hf b z).1] at e;cases e
 refine I.step (g':=s.gens) (d':=s.drawn) (ch:=fp) (fun b hb=>?_) (fun b o _ _ hc e _=>k b o hc e) (fun b o _ _ hc e _=>⟨o.slots,k b o hc e⟩) (fun _ _ _ _ n=>n)
   (fun b o hc e=>⟨o,k b o hc e⟩) (fun _ _ e=>e) (fun _ _ _ e=>e) (fun b ps e=>⟨#[],by rw [e];simp⟩) (fun m hm=>?_) (fun b u e=>?_) I.bare
 · obtain ⟨f0,f1,f2,f3,f4,f5⟩:=hf b hb
   exact ⟨f3,f1,f4,f5⟩
 · obtain ⟨o,es,ep,ho,r⟩:=hm
   exact ⟨o,es,ep,k _ o (fun z=>(hf _ z).2.1 rfl) ho,r⟩
 · refine (I.hok b u e).stay (fun c v hc q=>k c v ?_ q) (fun _ q=>q) fun _ _ q=>q
   rcases hc with z | z
   · rw [z];exact nit b u e
   · exact nit c _ z
end
section
variable {X:Cx} {pins:List (Addr×Obj)} {σ:St} {H H1:Hp} {s s0:Shared} {a:Addr} {o:HO}
theorem Inv.track2 (I0:Inv X pins σ H1 s0) (I:Inv X pins σ H s) (new:s0.heap.objs.size≤a) (hn:H a=none) (ok:bh X.prog X.w (upd H a o) s.heap a o):Inv X pins σ (upd H a o) s:=by
 have ne:∀ b u,s0.heap.get? b=some u→b≠a:=fun b u e=>Nat.ne_of_lt (Nat.lt_of_lt_of_le (Heap.lt_size e) new)
 have ne0:∀ b u,X.s₀.heap.get? b=some u→b≠a:=fun b u e=>Nat.ne_of_lt (Nat.lt_of_lt_of_le (Heap.lt_size e) (Nat.le_trans I0.sz new))
 have nL:X.env.locals≠a:=by
   obtain ⟨m,⟨o',_,_,e,_⟩,_⟩:=I0.loc
   exact ne _ _ e
 refine ⟨I.ok,I.os,I.bare,⟨I.base.keep,I.base.slot,fun b u e n hx=>?_,I.base.there,fun b xs e=>?_,fun b u v e=>?_,fun b ps e=>?_⟩,I.loc,I.cell,?_,fun x c e=>?_,fun p hp=>?_,fun b u e=>?_,I.len⟩
 · rw [ao (ne0 b u e)];exact I.base.free b u e n hx
 · have:=I.base.tups b xs e
   rw [ao (ax this hn)];exact this
 · have:=I.base.frzs b u v e
   rw [ao (ax this hn)];exact this
 · obtain ⟨more,this⟩:=I.base.tbls b ps e
   exact ⟨more,by rw [ao (ax this hn)];exact this⟩
 · rw [ao nL];exact I.free
 · obtain ⟨v,o',e',_⟩:=I0.cell x c e
   rw [ao (ne _ _ e')];exact I.freeC x c e
 · obtain ⟨h1,h2,h3⟩:=I.pin p hp
   exact ⟨h1,by rw [ao (ne _ _ (I0.pin p hp).1)];exact h2,h3⟩
 · by_cases hb:b=a
   · subst hb
     rw [ak] at e;cases e
     exact ok
   · rw [ao hb] at e
     exact (I.hok b u e).stay (fun c v _ q=>q) (fun c q=>by
      have:c≠a:=ax q hn
      rw [ao this];exact q) fun c xs q=>by
      have:c≠a:=ax q hn
      rw [ao this];exact q
end
end L2
namespace L2
open PySem PySem.Spec PyProof.Rows
section
variable {X:Cx} {a b:Expr} {t:TA} {p pos ep:Pos} {elts:List Expr} {ek:Nat}
end
end L2
namespace L2
open PySem PySem.Spec PyProof.Rows
theorem AX:bootBuiltins "int" =some (.type "int"):=by decide +kernel
section
variable {X:Cx} {a b:Expr} {t:TA} {p pos ep px py:Pos} {elts:List Expr} {ek:Nat} {x y:Str} {iter:Expr} {wi:TI} {tS:TS}
end
end L2
namespace L2
open PySem PySem.Spec PyProof.Rows
def bA (C:Addr) (m:Str) (sp:Sp) (E:St→XK) (ta:TE) (t:TA):TE:=fun σ H Q=>ta σ H fun x H1=>∃ a dx fs,x=.ref a∧H1 a=some (.ins C dx fs)∧fs.lookup m=none∧t σ H1 fun vs H2=>sp (x::vs) H2 Q (E σ)
def cO (C:Addr) (sp:Sp) (E:St→XK) (t:TA):TE:=fun σ H Q=>t σ H fun vs H1=>∀ x dx,H1 x=none→H1 dx=none→dx≠x→
 sp (.ref x::vs) (upd (upd H1 dx (.own x)) x (.ins C dx [])) (fun v H2=>v=.non∧Q (.ref x) H2) (E σ)
section
variable {X:Cx} {CX:CXT} {k:Nat} {f C:Addr} {fd:FuncData} {ps:List Str} {sp:Sp} {E:St→XK} {x m fl:Str} {p pos apos pos':Pos} {e o value:Expr} {es:List Expr} {ta tv to:TE} {t:TA}
theorem aV (he:QE X e ta) (hb:attributeBase e fl X.env (eval e X.env)=eval e X.env:=by rfl):QE X (.Attribute e fl pos) (bd X.K ta fl):=⟨Dr he.out hb⟩
theorem bU (ho:QE X o to) (hv:QE X value tv) (hs:swapsWith value (some (.Attribute o fl pos')) pos.line X.env=pure false:=by rfl):QS X (.Assign [.Attribute o fl pos'] value pos) (dN X.K to tv fl):=⟨CS ho.out hv.out hs⟩
theorem cz {pl : Sem Bool} (he : QE X o ta) (c : Cls X.K C) (hm : cH X.K C m f) (F : aE X.prog X.w X.K X.mg X.base CX k f fd ps sp) (hr : bj k X.A) (hb : be X.K fd ps []) (hx : dZ CX X E) (ha : QA X (e :: es) t)
  (hs : bf (e :: es) = true := by rfl)
  (ht : eval (.Call (.Attribute o m apos) (e :: es) [] pos) X.env = (do
   let ov ← eval o X.env
   standAt apos.atName
   let (f, first) ← holding [ov] (getMethod ov m pl)
   callWith pos f first (backTo pos (starEach (e :: es) X.env)) (backToKw pos (keywordEach [] X.env))) := by rfl) :
  QE X (.Call (.Attribute o m apos) (e :: es) [] pos) (bA C m sp E ta t) := ⟨fun pins s σ H Q I h => by
 have h' : (bO e && bf es) = true := hs
 refine W.methodCall_KW (pl := pl) (thn (he.out pins s σ H _ I h) fun u s1 ⟨x, H1, I1, rx, a, dx, fs, ex, ea, l, q⟩ => ?_) ht
 subst ex
 obtain rfl : u = Value.ref a := rx
 refine iM I1 ea c hm l ?_
 refine W.callWith_K (first := [.ref a]) (h₀ := X.base) I.ok.mod.kin hm.kp (thn (ha.out pos pins s1 σ H1 _ I1 q) fun us s2 ⟨vs, H2, I2, r, q2⟩ => ⟨I2.kIn, ?_⟩)
  (bg (Bool.and_eq_true_iff.mp h').1 es X.env) (bJ (Bool.and_eq_true_iff.mp h').2)
 exact gj (us := .ref a :: us) (vs := .ref a :: vs) F hr hb hx I2 (.cons rfl r) q2⟩
theorem iE {pl : Sem Bool} (he : QE X o ta) (c : Cls X.K C) (hm : cH X.K C m f) (F : aE X.prog X.w X.K X.mg X.base CX k f fd ps sp) (hr : bj k X.A) (hb : be X.K fd ps []) (hx : dZ CX X E)
  (ht : eval (.Call (.Attribute o m apos) [] [] pos) X.env = (do
   let ov ← eval o X.env
   standAt apos.atName
   let (f, first) ← holding [ov] (getMethod ov m pl)
   callWith pos f first (backTo pos (starEach [] X.env)) (backToKw pos (keywordEach [] X.env))) := by rfl) :
  QE X (.Call (.Attribute o m apos) [] [] pos) (bA C m sp E ta ag) := ⟨fun pins s σ H Q I h => by
 refine W.methodCall_KW (pl := pl) (thn (he.out pins s σ H _ I h) fun u s1 ⟨x, H1, I1, rx, a, dx, fs, ex, ea, l, q⟩ => ?_) ht
 subst ex
 obtain rfl : u = Value.ref a := rx
 refine iM I1 ea c hm l ?_
 exact W.callWith_K0 (first := [.ref a]) I1.kIn hm.kp (gj (us := [.ref a]) (vs := [.ref a]) F hr hb hx I1 (.cons rfl .nil) q)⟩
theorem ni {pins : List (Addr × Obj)} {σ : St} {H : Hp} {s : Shared} {Q : VK} {us : List Value} {vs : List V} (M : Mk X.K C f) (F : aE X.prog X.w X.K X.mg X.base CX k f fd ps sp) (hr : bj (k + 1) X.A) (hb : be X.K fd ps [])
    (hx : dZ CX X E) (I : Inv X pins σ H s) (r : aZ vs us)
    (h : ∀ x dx, H x = none → H dx = none → dx ≠ x → sp (.ref x :: vs) (upd (upd H dx (.own x)) x (.ins C dx [])) (fun v H2 => v = .non ∧ Q (.ref x) H2) (E σ)) :
    wpAny (model X.prog X.w) X.A (call (.ref C) us) (EP X pins σ Q) X.xe s := by
  have hq := h (s.heap.objs.size + 1) s.heap.objs.size (I.hok.fresh (Nat.le_succ _)) (I.hok.fresh (Nat.le_refl _)) (Nat.ne_of_lt (Nat.lt_succ_self _))
  have I2 := Inv.made (C := C) I
  have r2 : aZ (V.ref (s.heap.objs.size + 1) :: vs) (Value.ref (s.heap.objs.size + 1) :: us) := .cons rfl r
  have hl : (Value.ref (s.heap.objs.size + 1) :: us).length = ps.length := by
    have e := r2.length
    rw [F.len _ _ _ _ hq] at e
    exact e.symm
  have hb' := hb _ (Value.ref (s.heap.objs.size + 1) :: us) I2.kIn (by rw [List.append_nil]; exact hl)
  rw [List.append_nil] at hb'
  refine wpAny_call (wQ (f := f) I.kIn M.makes M.init (beq_iff_eq.mp M.fn) (codeAny_mono (F.run _ X.stack _ _ ⟨Value.ref (s.heap.objs.size + 1) :: us, []⟩ (Value.ref (s.heap.objs.size + 1) :: us) _ _ (E σ) (hr.make C us [])
    (I2.env0.make C us []) hb' r2 hq) fun r s' hq' => ?_))
  cases r with
  | error e => exact hx pins σ _ _ e s' I2 hq'
  | ok fl =>
    cases fl with
    | ret u =>
      obtain ⟨v, H', I3, rv, ev, q3⟩ := I2.after hq'
      subst ev
      exact ⟨rv, ⟨V.ref (s.heap.objs.size + 1), H', I3, rfl, q3⟩⟩
    | next => exact False.elim hq'
    | brk => exact False.elim hq'
    | cont => exact False.elim hq'
theorem dq (M:Mk X.K C f) (F:aE X.prog X.w X.K X.mg X.base CX k f fd ps sp) (hr:bj (k+1) X.A) (hm:X.mg x=some (.ref C)) (hb:be X.K fd ps []) (hx:dZ CX X E) (ha:QA X (e::es) t)
  (hg:Gl X x:=by rfl) (hdb:(x==("__debug__" :Str))=false:=by decide) (hs:bf (e::es)=true:=by rfl):QE X (.Call (.Name x p) (e::es) [] pos) (cO C sp E t):=⟨fun pins s σ H Q I h=>by
 have h':(bO e&&bf es)=true:=hs
 refine wpAny_Call_Name_kw (iy I hg hm ?_ hdb)
 refine W.callWith_K (h₀:=X.base) I.ok.mod.kin M.kp (thn (ha.out pos pins s σ H _ I h) fun us s1 ⟨vs,H1,I1,r,q⟩=>⟨I1.kIn,?_⟩) (bg (Bool.and_eq_true_iff.mp h').1 es X.env) (bJ (Bool.and_eq_true_iff.mp h').2)
 exact ni M F hr hb hx I1 r q⟩
theorem vm (M:Mk X.K C f) (F:aE X.prog X.w X.K X.mg X.base CX k f fd ps sp) (hr:bj (k+1) X.A) (hm:X.mg x=some (.ref C)) (hb:be X.K fd ps []) (hx:dZ CX X E)
  (hg:Gl X x:=by rfl) (hdb:(x==("__debug__" :Str))=false:=by decide):QE X (.Call (.Name x p) [] [] pos) (cO C sp E ag):=⟨fun pins s σ H Q I h=>by
 refine wpAny_Call_Name_kw (iy I hg hm ?_ hdb)
 exact W.callWith_K0 I.kIn M.kp (ni (us:=[]) M F hr hb hx I .nil h)⟩
end
end L2
namespace L2
open PySem PySem.Spec PyProof.Rows
mutual
inductive dM (K:W.Frag) (H:Hp):V→PyData→Prop
 | non:dM K H .non .none
 | bl (b):dM K H (.bl b) (.bool b)
 | int (i):dM K H (.int i) (.int i)
 | str (z):dM K H (.str z) (.str z)
 | lst {a xs ds}:SqL K H a xs→DatVs K H xs ds→dM K H (.ref a) (.list ds)
 | tup {a xs ds}:SqT K H a xs→DatVs K H xs ds→dM K H (.ref a) (.tuple ds)
inductive DatVs (K:W.Frag) (H:Hp):List V→List PyData→Prop
 | nil:DatVs K H [] []
 | cons {x xs d ds}:dM K H x d→DatVs K H xs ds→DatVs K H (x::xs) (d::ds)
end
section
variable {X:Cx}
mutual
theorem dc {pins : List (Addr × Obj)} {σ : St} {H : Hp} {s : Shared} (I : Inv X pins σ H s) : ∀ {x : V} {d : PyData}, dM X.K H x d → ∀ {v : Value}, aJ x v → ∃ as, Reads s.heap v d as
  | _, _, .non, _, r => by cases r; exact ⟨_, .none⟩
  | _, _, .bl b, _, r => by cases r; exact ⟨_, .bool b⟩
  | _, _, .int i, _, r => by obtain ⟨t, rfl⟩ := r; exact ⟨_, .int i t⟩
  | _, _, .str z, _, r => by obtain ⟨t, rfl⟩ := r; exact ⟨_, .str z t⟩
  | _, _, .lst h hs, _, r => by
    cases r
    obtain ⟨its, r1, ⟨o, n, h1, h2, _, h3⟩, _⟩ := I.list h
    obtain ⟨as, ra⟩ := datVs_reads I hs r1
    exact ⟨_, .list h1 h2 h3 (by simpa using ra)⟩
  | _, _, .tup h hs, _, r => by
    cases r
    obtain ⟨its, r1, ⟨o, h1, h2, n, h3⟩, _⟩ := I.tuple h
    obtain ⟨as, ra⟩ := datVs_reads I hs r1
    exact ⟨_, .tuple h1 h2 h3 (by simpa using ra)⟩
theorem datVs_reads {pins : List (Addr × Obj)} {σ : St} {H : Hp} {s : Shared} (I : Inv X pins σ H s) : ∀ {xs : List V} {ds : List PyData}, DatVs X.K H xs ds → ∀ {vs : List Value}, aZ xs vs → ∃ as, ReadsAll s.heap vs ds as
  | _, _, .nil, _, r => by cases r; exact ⟨_, .nil⟩
  | _, _, .cons h hs, _, r => by
    cases r with
    | cons r1 r2 =>
      obtain ⟨as, a⟩ := dc I h r1
      obtain ⟨bs, b⟩ := datVs_reads I hs r2
      exact ⟨_, .cons a b⟩
end
def pX (K:W.Frag):R2:=fun x y H Q=>∃ d e,dM K H x d∧dM K H y e∧d.canLay0=true∧e.canLay0=true∧d.depth≤150∧Q (.bl (d.eqv e)) H
def wF (K:W.Frag):R2:=fun x y H Q=>∃ d e,dM K H x d∧dM K H y e∧d.canLay0=true∧e.canLay0=true∧d.depth≤150∧Q (.bl (!d.eqv e)) H
theorem CU (hu:X.A.units+150<cLine):OpR X (compareOp .Eq) (pX X.K):=by
 intro pins s σ H x y v u Q I rx ry h
 obtain ⟨d,e,hd,he,cd,ce,dp,q⟩:=h
 obtain ⟨as,ra⟩:=dc I hd rx
 obtain ⟨bs,rb⟩:=dc I he ry
 exact PySem.SeqAt.compareEq_reads ra rb cd ce (by have:=Nat.min_le_left d.depth e.depth;omega) ⟨.bl _,H,I,rfl,q⟩
theorem AJ (hu:X.A.units+150<cLine):OpR X (compareOp .NotEq) (wF X.K):=by
 intro pins s σ H x y v u Q I rx ry h
 obtain ⟨d,e,hd,he,cd,ce,dp,q⟩:=h
 obtain ⟨as,ra⟩:=dc I hd rx
 obtain ⟨bs,rb⟩:=dc I he ry
 exact PySem.SeqAt.compareNe_reads ra rb cd ce (by have:=Nat.min_le_left d.depth e.depth;omega) ⟨.bl _,H,I,rfl,q⟩
theorem bj.units150 {k:Nat} {A:Around} (r:bj k A):A.units+150<cLine:=by have:=r.un;omega
def dH (K:W.Frag):R2:=fun x y H Q=>match x,y with
 | .ref a,y=>wF K (.ref a) y H Q
 | x,.ref b=>wF K x (.ref b) H Q
 | x,y=>mNe x y H Q
theorem gC (hu:X.A.units+150<cLine):OpR X (compareOp .NotEq) (dH X.K):=((AJ hu).or oNe).imp fun x y H Q q=>by
 unfold dH at q
 split at q
 · exact .inl q
 · exact .inl q
 · exact .inr q
def rZ:V→List V→Hp→VK→Prop:=fun x vs H Q=>match x,vs with | .int i,[]=>Q (.int (Builtin.Int.intBits i)) H | _,_=>False
theorem Aj:MtR X "int.bit_length" rZ:=by
 intro pins s σ H x xs v us Q I rx rs q
 unfold rZ at q
 split at q
 · obtain ⟨t,rfl⟩:=rx
   cases rs
   exact call_int_bit_length ⟨.int _,H,I.tok _,⟨_,rfl⟩,q⟩
 · exact q.elim
variable {o:Expr} {to:TE} {name:Str} {apos cpos:Pos} {T id:String} {rm:V→List V→Hp→VK→Prop}
theorem FH (pa:PlainAttrs T) (slot:Slot T name id) (hty:typeOf (.builtin id)=pure (.type "method_descriptor")) (hm:MtR X id rm) (ho:QE X o to)
 (hbase:attributeBase o name X.env (eval o X.env)=eval o X.env:=by rfl) (hline:(apos.endLine==cpos.line)=true:=by rfl):QE X (.Call (.Attribute o name apos) [] [] cpos) (xh X.K T rm to):=⟨DX pa slot hty hm ho.out hbase hline⟩
end
def ke (ns:List Int):List PyData:=ns.map PyData.int
theorem lH {K:W.Frag} {H:Hp}:∀ ns:List Int,DatVs K H (ns.map V.int) (ke ns)
 | []=> .nil
 | i::r=> .cons (.int i) (lH r)
theorem kq:∀ ns:List Int,(PyData.list (ke ns)).canLay0=true
 | []=>rfl
 | i::r=>kq r
theorem jf:∀ ns:List Int,PyData.depthAll (ke ns)=0
 | []=>rfl
 | i::r=>by show max 0 (PyData.depthAll (ke r))=0;rw [jf r];rfl
theorem rE (ns:List Int):(PyData.list (ke ns)).depth≤150:=by show PyData.depthAll (ke ns)+1≤150;rw [jf];decide
end L2
namespace L2
open PySem PySem.Spec PyProof.Rows
theorem tI:(("" :String):Str)=Str.empty:=by decide
theorem yM : ∀ xs : List Str, Str.join "" xs = xs.foldr (· ++ ·) Str.empty
  | [] => rfl
  | [x] => (Str.append_empty x).symm
  | x :: y :: r => by
    show x ++ (("" : String) : Str) ++ Str.join "" (y :: r) = x ++ (y :: r).foldr (· ++ ·) Str.empty
    rw [yM (y :: r), tI, Str.append_empty]
theorem zF (xs:List Str):Txt.join "" xs=xs.foldr (·++·) Str.empty:=(eq_of_beq (join_plain_closes "" xs)).trans (yM xs)
theorem ba {n:Nat} (h:n≤1000000):n≤sizeLine:=by rw [sizeLine_eq];omega
theorem eh (k:Nat):((2^k:Nat):Int)=(2:Int)^k:=by simp
theorem gE (k:Nat):(0:Int)<2^k:=by have:=Nat.two_pow_pos k;rw [← eh];omega
theorem Af {k:Nat} (h:k≤60):(2:Int)^k≤2^60:=by
 have b:(2:Nat)^k≤2^60:=Nat.pow_le_pow_right (by decide) h
 rw [← eh k];omega
theorem uZ (ns:List Int) (lo hi:Option Int):∃ zs:List Int,bC (ns.map V.int) lo hi=zs.map V.int∧zs.length≤ns.length:=by
 refine ⟨(ns.drop (HT.sIx ns.length 0 lo)).take (HT.sIx ns.length ns.length hi - HT.sIx ns.length 0 lo),?_,?_⟩
 · unfold bC
   rw [List.length_map,List.map_take,List.map_drop]
 · rw [List.length_take,List.length_drop];omega
theorem oM {α:Type} {xs:List α} {i:Int} (h0:0≤i) (h1:i<xs.length):∃ c,atI xs i=some c:=by
 unfold atI ixN
 rw [if_pos h0,if_pos h1]
 have:i.toNat<xs.length:=by omega
 exact ⟨xs[i.toNat],by show xs[i.toNat]?=_;rw [List.getElem?_eq_getElem this]⟩
theorem xor_zero {x y:Nat} (h:x^^^y=0):x=y:=by
 have h2:x^^^y^^^y=0^^^y:=by rw [h]
 rwa [Nat.xor_assoc,Nat.xor_self,Nat.xor_zero,Nat.zero_xor] at h2
theorem sE (x y : Nat) : x ||| y = (x &&& y) + (x ^^^ y) := by
  have h : ∀ n, ∀ x y : Nat, x < 2 ^ n → y < 2 ^ n → x ||| y = (x &&& y) + (x ^^^ y) := by
    intro n
    induction n with
    | zero => intro x y hx hy; have : x = 0 := by simpa using hx
              have : y = 0 := by simpa using hy
              subst_vars; rfl
    | succ n ih =>
      intro x y hx hy
      have i := ih (x / 2) (y / 2) (by omega) (by omega)
      rw [← Nat.div_add_mod (x ||| y) 2, ← Nat.div_add_mod (x &&& y) 2, ← Nat.div_add_mod (x ^^^ y) 2]
      rw [Nat.or_div_two, Nat.and_div_two, Nat.xor_div_two, i]
      have hm : (x ||| y) % 2 = (x &&& y) % 2 + (x ^^^ y) % 2 := by
        have a := @Nat.or_mod_two_pow x y 1
        have b := @Nat.and_mod_two_pow x y 1
        have c := @Nat.xor_mod_two_pow x y 1
        rw [Nat.pow_one] at a b c
        rw [a, b, c]
        rcases Nat.mod_two_eq_zero_or_one x with h | h <;> rcases Nat.mod_two_eq_zero_or_one y with h' | h' <;> rw [h, h'] <;> rfl
      omega
  have h2 : max x y < 2 ^ (max x y) := Nat.lt_two_pow_self
  exact h (max x y) x y (by omega) (by omega)
theorem ls (x y:Nat):Builtin.bitXor x y=((x^^^y:Nat):Int):=by
 unfold Builtin.bitXor Builtin.bitOr
 have e1:Builtin.bitAnd x y=((x &&& y:Nat):Int):=by
  unfold Builtin.bitAnd
  rw [decide_eq_true (by omega:(0:Int)≤x),decide_eq_true (by omega:(0:Int)≤y)];rfl
 have n (z:Nat):Builtin.bitNot z<0:=by unfold Builtin.bitNot;omega
 have nn (z:Nat):(Builtin.bitNot (Builtin.bitNot z)).toNat=z:=by unfold Builtin.bitNot;omega
 have e2:Builtin.bitAnd (Builtin.bitNot x) (Builtin.bitNot y)=Builtin.bitNot ((x ||| y:Nat):Int):=by
  unfold Builtin.bitAnd
  rw [decide_eq_false (by have:=n x;omega:¬ 0≤Builtin.bitNot x),decide_eq_false (by have:=n y;omega:¬ 0≤Builtin.bitNot y)]
  show Builtin.bitNot (((Builtin.bitNot (Builtin.bitNot x)).toNat ||| (Builtin.bitNot (Builtin.bitNot y)).toNat:Nat):Int)=_
  rw [nn,nn]
 rw [e1,e2,sE]
 unfold Builtin.bitNot
 omega
theorem rW (x:Nat):Builtin.bitAnd x 1=((x%2:Nat):Int):=by
 unfold Builtin.bitAnd
 rw [decide_eq_true (by omega:(0:Int)≤x),decide_eq_true (by decide:(0:Int)≤1)]
 show (((x:Int).toNat &&& (1:Int).toNat:Nat):Int)=_
 rw [Int.toNat_natCast,show (1:Int).toNat=1 from rfl,Nat.and_one_is_mod]
end L2
namespace L2
open PySem PySem.Spec PyProof.Rows
section
variable {X:Cx}
theorem bj.units1 {k:Nat} {A:Around} (r:bj k A):A.units+1<cLine:=by have:=r.un;omega
def Dj:R2:=fun x y H Q=>∃ a v,x=.ref a∧dG H a y (some v)∧Q v H
theorem zM (hu:X.A.units+1<cLine):IxR X Dj:=by
 intro value slice pins s σ H x y v u Q I rx ry h hs
 obtain ⟨a,w0,rfl,g,q⟩:=h
 obtain rfl:v=Value.ref a:=rx
 have hT:=qa I g
 have h2:wpAny (model X.prog X.w) X.A (getItem (.ref a) u) (EP X pins σ Q) X.xe s:=uc hu I g ry fun w' s3 I3 rw'=>⟨w0,H,I3,rw',q⟩
 unfold subscriptTail
 refine wpAny_bind ?_
 rw [getitemInPython_of_ne hT.not_modules]
 refine wpAny_bind (wpAny_specialOf hT PySem.F.slot_dict_getitem.lookup ?_)
 have fin:wpAny (model X.prog X.w) X.A (subscripted slice false (.ref a) u) (fun r s₃=>wpAny (model X.prog X.w) X.A (letTemporaryGo value (.ref a) r>>=fun _=>pure r) (EP X pins σ Q) X.xe s₃) X.xe s:=by
  rw [hs]
  exact wpAny_operating (wpAny_mono h2 (fun r s₃ h₃=>wpAny_bind (wpAny_letTemporaryGo (wpAny_pure h₃))) fun _ _ x=>x)
 first
  | exact wpAny_pure (wpAny_bind fin)
  | exact wpAny_bind (wpAny_pure (wpAny_bind fin))
  | exact wpAny_bind fin
def bn (K:W.Frag):R2:=fun x y H Q=>rIx K x y H Q∨Dj x y H Q
theorem aM (hu:X.A.units+1<cLine):IxR X (bn X.K):=AQ.or (zM hu)
def ze:V→V→V→Hp→(Hp→Prop)→Prop:=fun o i v H Q=>∃ a H',o=.ref a∧mE H a i v H'∧Q H'
theorem xo (hu:X.A.units+1<cLine):sn X ze:=by
 intro pins s σ H o i v ov iv u Q I ro ri rv h
 obtain ⟨a,H',rfl,g,q⟩:=h
 obtain rfl:ov=Value.ref a:=ro
 exact tG hu I g ri rv fun s4 I4=>⟨H',I4,q⟩
def lM:V→V→V→Hp→(Hp→Prop)→Prop:=fun o i v H Q=>yI o i v H Q∨ze o i v H Q
theorem zS (hu:X.A.units+1<cLine):sn X lM:=by
 intro pins s σ H o i v ov iv u Q I ro ri rv h
 rcases h with h | h
 · exact wM pins s σ H o i v ov iv u Q I ro ri rv h
 · exact xo hu pins s σ H o i v ov iv u Q I ro ri rv h
variable {o e:Expr} {to te:TE} {p pos:Pos}
theorem pd {ti:TE} {i:Expr} (hu:X.A.units+1<cLine) (ho:QE X o to) (hi:QE X i ti) (he:QE X e te) (hs:swapsWithSole [.Subscript o i p] e pos.line X.env=pure false:=by rfl) (hw:swappedStores [.Subscript o i p] e X.env=pure none:=by rfl) (ha:∀ v,assign (.Subscript o i p) X.env v=(do let ov←holding [v] (eval o X.env);let iv←holding [v,ov] (eval i X.env);standAt p;holding [v,ov,iv] (setItem ov iv v);release [v,ov,iv] []):=by intro _;rfl):QS X (.Assign [.Subscript o i p] e pos) (aF te (pq to ti lM)):=⟨BF he.out (Dd ho.out hi.out (zS hu) ha) hs hw⟩
def ql:R2:=fun y x H Q=>∃ a o,x=.ref a∧dG H a y o∧Q (.bl (!o.isSome)) H
theorem uB (hu:X.A.units+1<cLine):OpR X (compareOp .NotIn) ql:=by
 intro pins s σ H x y v u Q I rx ry h
 obtain ⟨a,ov,rfl,g,q⟩:=h
 obtain rfl:u=Value.ref a:=ry
 exact zI hu I g rx fun s3 I3=>⟨.bl (!ov.isSome),H,I3,rfl,q⟩
def rg (K:W.Frag):R2:=fun y x H Q=>∃ d ds,dM K H y d∧(dM K H x (.list ds)∨dM K H x (.tuple ds))∧PyData.canLayAll0 ds=true∧d.canLay0=true∧d.depth≤140∧Q (.bl (!ds.any fun e=>e.eqv d)) H
theorem tD (hu:X.A.units+150<cLine):OpR X (compareOp .NotIn) (rg X.K):=by
 intro pins s σ H x y v u Q I rx ry h
 obtain ⟨d,ds,hd,hx,c1,c2,dp,q⟩:=h
 obtain ⟨as,ra⟩:=dc I hd rx
 have hm:X.A.units+1+min (PyData.depthAll ds) d.depth<cLine:=by have:=Nat.min_le_right (PyData.depthAll ds) d.depth;omega
 rcases hx with hx | hx
 · obtain ⟨bs,rb⟩:=dc I hx ry
   exact PySem.SeqAt.notIn_list_reads rb ra c1 c2 hm ⟨.bl _,H,I,rfl,q⟩
 · obtain ⟨bs,rb⟩:=dc I hx ry
   exact PySem.SeqAt.notIn_tuple_reads rb ra c1 c2 hm ⟨.bl _,H,I,rfl,q⟩
def qo (K:W.Frag):R2:=fun y x H Q=>ql y x H Q∨rg K y x H Q
theorem zV (hu:X.A.units+150<cLine):OpR X (compareOp .NotIn) (qo X.K):=(uB (by omega)).or (tD hu)
def gJ:TE:=fun σ H Q=>tV σ H Q∨tJ σ H Q
theorem ij:QE X (.Dict [] [] pos) gJ:=⟨fun pins s σ H Q I h=>h.elim (vh pins s σ H Q I) (vo pins s σ H Q I)⟩
theorem ut:bE X (.builtin "len") (fun xs H Q=>∃ p kvs,xs=[.ref p]∧H p=some (.dT kvs)∧Q (.int kvs.length) H):=by
 intro pins s σ H xs us Q I r h
 obtain ⟨a,kvs,rfl,e,q⟩:=h
 obtain ⟨u,rfl,r1⟩:=dJ r
 cases r1
 obtain ⟨z,hd,ps,rel,dd⟩:=si I.hok e
 have hl:ps.length=kvs.length:=(Paired.length rel).symm
 have hT:s.TypeIs (.ref a) "dict" :=dd.typeIs
 obtain ⟨o,es,ep,ho,hc,hdat,he,his,hn⟩:=dd
 have hsz:es.size=kvs.length:=by rw [← hl];have:=congrArg List.length he;simpa using this
 have M:MeetsIn X.prog X.w (Builtin.«dict.__len__» ⟨[.ref a],[]⟩) (fun _ R s=>s.heap.get? a=some o∧R (.ok (.ret (.int kvs.length s.toks))) { s with toks:=s.toks+1 }):=
  .of_wp fun A R s ⟨ho,h⟩=>by
   show wpAny _ _ (dictSize a>>=_) _ _ s
   unfold dictSize
   refine wpAny_bind (wpAny_bind (wpAny_dictEntries ho hdat (wpAny_pure ?_)))
   show wpAny _ _ (Builtin.Dict.pendingCount a>>=_) _ _ s
   refine wpAny_bind (wpAny_pendingCount_other hd ?_)
   refine wpAny_ret_mkInt ?_
   rw [Nat.add_zero,hsz];exact h
 refine Calls.call_function_entry kind_len plain_len entry_len (args_len1 _) ?_
 unfold Builtin.«len»
 refine wpAny_bind (m:=oneArg "len" _) (wpAny_pure ?_)
 refine wpAny_bind (m:=callSpecial? (.ref a) (Str.ofString "__len__")) (wpAny_callSpecial?_slot (name:=Str.ofString "__len__") hT F.slot_dict_len
  (call_meetsIn F.slot_dict_len hT F.entry_dict_len (F.args_dict_len_1 _) M ⟨ho,?_⟩))
 show wpAny _ _ _ _ _ { s with toks:=s.toks+1 }
 refine wpAny_bind (wpAny_holding (wpAny_pure ?_))
 refine wpAny_bind (wpAny_letGo ?_)
 have zz:kvs.length≤sizeLine:=z
 rw [sizeLine_eq] at zz
 show wpAny _ _ (if ((kvs.length:Nat):Int)<0 then _ else _) _ _ _
 rw [if_neg (by omega)]
 show wpAny _ _ (if ((kvs.length:Nat):Int)≥2^63 then _ else _) _ _ _
 rw [if_neg (by omega)]
 exact wpAny_bind (wpAny_mkInt (wpAny_pure ⟨_,rfl,⟨.int kvs.length,H,I.tok _,⟨_,rfl⟩,q⟩⟩))
def ck (K:W.Frag):List V→Hp→VK→Prop:=fun xs H Q=>Dz K xs H Q∨∃ p kvs,xs=[.ref p]∧H p=some (.dT kvs)∧Q (.int kvs.length) H
theorem cE:bE X (.builtin "len") (ck X.K):=Ja.or ut
def BU (H:Hp) (a:Addr) (y d:V) (r:V) (H':Hp):Prop:=(dG H a y (some r)∧H'=H)∨(dG H a y none∧mE H a y d H'∧r=d)
theorem fm {A:Around} {E:Value→Shared→Prop} {s:Shared} {P:Program} {w:World} {K:Type} [DecidableEq K] {knd:HeapKind P w K} {d a:Addr} {xs:List (K×Addr×Value)} {k:K} {v:Value} {Q:Value→Shared→Prop} (hu:knd.room A) (hkey:knd.is s.heap k a) (hm:s.heap.DictOfH knd d xs)
   (hthere:∀ p,atKey xs k=some p→Q p.2 { s with toks:=s.toks+knd.draws k })
   (hQ:atKey xs k=none→∀ h',h'.DictOfH knd d (storedH xs k a v)→Heap.SameBut d s.heap h'→Q v { s with heap:=h',toks:=s.toks+knd.draws k })
   (hsz:xs.length≤sizeLine):
   wpAny (model P w) A (dictSetDefault d (.ref a) v) Q E s:=by
 obtain ⟨o,es,ep,ho,hc,hd,he,his,hn⟩:=hm
 unfold dictSetDefault
 try with_reducible refine wpAny_holding ?_
 refine wpAny_bind (knd.pyHash hu hkey ?_)
 refine wpAny_bind (wpAny_dictFind_heap (s:={ s with toks:=s.toks+knd.draws k }) hu hkey ho hd he his hn ?_ ?_)
 · intro hno
   have hnot:k∉xs.map (·.1):=not_mem_keys_of_get hno
   refine wpAny_bind (wpAny_rule (wpAny_bind (wpAny_updateDictKeys (hz:=by have e:=size_of_entries he;omega) (s:={ s with toks:=s.toks+knd.draws k }) ho hd (wpAny_pure (hQ (atKey_none_of_get hno) _ ⟨_,_,ep+1,Heap.get?_update_self _ ho (Obj.isFreed_of_dict (Obj.data_mapDictKeys hd _)),
     hc.mapDictKeys _,Obj.data_mapDictKeys hd _,?_,?_,?_⟩ (Heap.SameBut.update ..))))))
   · rw [storedH_new (atKey_none_of_get hno)]
     simp [he,entryOfKey]
   · rw [storedH_new (atKey_none_of_get hno)]
     intro x hx
     rcases List.mem_append.mp hx with hx | hx
     · exact knd.keeps (his x hx) ho hd (Heap.SameBut.update ..)
     · simp only [List.mem_singleton] at hx
       subst hx
       exact knd.keeps hkey ho hd (Heap.SameBut.update ..)
   · rw [storedH_new (atKey_none_of_get hno)]
     rw [List.map_append,List.nodup_append]
     refine ⟨hn,by simp,?_⟩
     intro x hx y hy
     simp only [List.map_cons,List.map_nil,List.mem_singleton] at hy
     subst hy
     exact fun e=>hnot (e▸hx)
 · intro j p hj
   refine wpAny_bind (wpAny_dictEntries (s:={ s with toks:=s.toks+knd.draws k }) ho hd ?_)
   rw [entry_at he j,hj]
   exact wpAny_bind (wpAny_rule (wpAny_pure (hthere p (atKey_of_get hn hj))))
end
end L2
namespace L2
open PySem PySem.Spec PyProof.Rows
theorem gr {h:Heap} {a:Addr} {its:Array Value} (p:PlainL h a its):h.IsList a its:=let ⟨o,n,e,c,_,d⟩:=p;⟨o,e,c,n,d⟩
section
variable {X:Cx} {a b:Expr} {t:TA} {p pos ep:Pos} {elts:List Expr} {ek:Nat}
end
end L2
namespace L2
open PySem PySem.Spec PyProof.Rows
set_option genInjectivity false in
set_option genSizeOf false in
structure cR where
 qual:Str
 body:FuncBody
 scope:Scope
 ps:List Str
 ys:List Str
def lq (t:cR) (cs:List Addr) (c:Addr) (fd:FuncData):Prop:=
 fd.qualname=t.qual∧fd.body=t.body∧fd.scope=t.scope∧fd.globals=mainGlobals∧fd.closure=t.ys.zip cs∧fd.code=.ref c∧fd.builtins=builtinsNs∧
  (∀ us:List Value,us.length=t.ps.length→bindArgs fd ⟨us,[]⟩=pure (t.ps.zip us))∧cs.Nodup∧cs.length=t.ys.length
def dt (f:Addr) (t:cR) (cs:List Addr) (c:Addr):HO:=.ext fun h=>∃ od fd sl,h.get? f=some ⟨.type "function",od,.func fd,sl⟩∧lq t cs c fd
def cF (c:Addr) (qual:Str):HO:=.ext fun h=>∃ o vs tk,h.get? c=some o∧o.data=.fields vs∧vs[1]?=some (.str qual tk)
def cr (c:Addr) (v:V):HO:=.ext fun h=>∃ u o,aJ v u∧h.get? c=some o∧o.data=.cell (some u)
abbrev cx (H:Hp):List Addr→List V→Prop:=Paired fun c v=>H c=some (cr c v)
structure dw (H:Hp) (f:Addr) (t:cR) (cs:List Addr) (cvs:List V):Prop where
 ex:∃ c,H f=some (dt f t cs c)∧H c=some (cF c t.qual)
 cells:cx H cs cvs
theorem cx.mem {H : Hp} {cs : List Addr} {cvs : List V} (h : cx H cs cvs) : ∀ c ∈ cs, ∃ v, H c = some (cr c v) := by
  induction h with
  | nil => intro c hc; cases hc
  | cons r t ih =>
    intro c hc
    rcases List.mem_cons.mp hc with rfl | hc
    · exact ⟨_, r⟩
    · exact ih c hc
theorem cx.get {H : Hp} {cs : List Addr} {cvs : List V} (h : cx H cs cvs) : ∀ {i : Nat} {v : V}, cvs[i]? = some v → ∃ c, cs[i]? = some c ∧ H c = some (cr c v) := by
  induction h with
  | nil => intro i v e; cases e
  | @cons c w cs ws r t ih =>
    intro i v e
    cases i with
    | zero => cases e; exact ⟨c, rfl, r⟩
    | succ i => exact ih e
def cD (cs:List Addr) (H:Hp):Hp:=fun b=>if b∈cs then none else H b
def cq (cs:List Addr) (H H':Hp):Hp:=fun b=>if b∈cs then H b else H' b
theorem gy {cs:List Addr} {H:Hp} {b:Addr} (h:b∈cs):cD cs H b=none:=if_pos h
theorem cI {cs:List Addr} {H:Hp} {b:Addr} (h:b∉cs):cD cs H b=H b:=if_neg h
theorem iU {cs:List Addr} {H H':Hp} {b:Addr} (h:b∈cs):cq cs H H' b=H b:=if_pos h
theorem cm {cs:List Addr} {H H':Hp} {b:Addr} (h:b∉cs):cq cs H H' b=H' b:=if_neg h
theorem ux {cs:List Addr} {H H':Hp} {d:Addr} {o:HO} (h:d∉cs):cq cs H (upd H' d o)=upd (cq cs H H') d o:=by
 funext b
 by_cases hb:b∈cs
 · have:b≠d:=fun e=>h (e▸hb)
   rw [iU hb,ao this,iU hb]
 · rw [cm hb]
   by_cases e:b=d
   · subst e;rw [ak,ak]
   · rw [ao e,ao e,cm hb]
theorem cx.notin {H:Hp} {cs:List Addr} {cvs:List V} (h:cx H cs cvs) {b:Addr} {o:HO} (e:H b=some o) (hn:∀ φ,o≠ .ext φ):b∉cs:=fun hb=>by
 obtain ⟨v,ev⟩:=h.mem b hb
 rw [e] at ev
 exact hn _ (Option.some.inj ev)
theorem cx.hide {H:Hp} {cs:List Addr} {cvs:List V} (h:cx H cs cvs) {b:Addr} {o:HO} (e:H b=some o) (hn:∀ φ,o≠ .ext φ):cD cs H b=some o:=by
 rw [cI (h.notin e hn)];exact e
theorem ay.hide {H H':Hp} (cs:List Addr) (s:ay (cD cs H) H'):ay H (cq cs H H'):=fun b o e=>by
 by_cases hb:b∈cs
 · rw [iU hb];exact e
 · rw [cm hb];exact s _ _ (by rw [cI hb];exact e)
section
variable {P:Program} {w:World} {fs:List Addr} {H H':Hp} {h h':Heap} {cs:List Addr} {cvs:List V}
theorem Ak (hc:cx H cs cvs) (ok:HOk P w H h):HOk P w (cD cs H) h:=fun b o e=>by
 by_cases hb:b∈cs
 · rw [gy hb] at e;cases e
 · rw [cI hb] at e
   exact (ok b o e).stay (fun c u _ q=>q) (fun c q=>hc.hide q fun φ z=>nomatch z) fun c xs q=>hc.hide q fun φ z=>nomatch z
theorem qG (hc:cx H cs cvs) (hfs:∀ b∈fs,H b=none) (ok:HOk P w H h) (u:Un fs [] (cD cs H) H' h h') (ok':HOk P w H' h'):Un fs [] H (cq cs H H') h h'∧HOk P w (cq cs H H') h':=by
 have obj:∀ c∈cs,∃ v o,H c=some (cr c v)∧h.get? c=some o∧h'.get? c=some o∧H' c=none:=fun c hm=>by
   obtain ⟨v,ev⟩:=hc.mem c hm
   obtain ⟨_,⟨o,eo⟩,_⟩:=(show bh P w H h c (cr c v) from ok c _ ev)
   refine ⟨v,o,ev,eo,u.keep c o eo (gy hm) (fun z=>?_) (by simp),u.free c o eo (gy hm) (by simp)⟩
   rw [hfs c z] at ev;cases ev
 have nin:∀ b,H b=none→b∉cs:=fun b e hb=>by
   obtain ⟨v,ev⟩:=hc.mem b hb
   rw [e] at ev;cases ev
 have nin':∀ b o,H' b=some o→b∉cs:=fun b o e hb=>by
   obtain ⟨_,_,_,_,_,z⟩:=obj b hb
   rw [e] at z;cases z
 refine ⟨⟨fun b o e n hb hx=>u.keep b o e (by rw [cI (nin b n)];exact n) hb hx,fun b o e n hb hx=>u.slot b o e (by rw [cI (nin b n)];exact n) hb hx,
   fun b o e n hx=>by rw [cm (nin b n)];exact u.free b o e (by rw [cI (nin b n)];exact n) hx,u.there,fun b xs e=>?_,fun b o v e=>?_,fun b ps e=>?_⟩,fun b o e=>?_⟩
 · have hb:=hc.notin e fun φ z=>nomatch z
   rw [cm hb];exact u.tups b xs (by rw [cI hb];exact e)
 · have hb:=hc.notin e fun φ z=>nomatch z
   rw [cm hb];exact u.frzs b o v (by rw [cI hb];exact e)
 · have hb:=hc.notin e fun φ z=>nomatch z
   rw [cm hb];exact u.tbls b ps (by rw [cI hb];exact e)
 · by_cases hb:b∈cs
   · rw [iU hb] at e
     obtain ⟨v,o',ev,e1,e2,_⟩:=obj b hb
     rw [e] at ev;cases ev
     obtain ⟨φ1,_,φ3⟩:=(show bh P w H h b (cr b v) from ok b _ e)
     exact ⟨φ3 h h' φ1 fun q hq=>by rw [e1] at hq;cases hq;exact e2,⟨o',e2⟩,φ3⟩
   · rw [cm hb] at e
     exact (ok' b o e).stay (fun c u _ q=>q) (fun c q=>by rw [cm (nin' c _ q)];exact q) fun c xs q=>by rw [cm (nin' c _ q)];exact q
theorem CR.back {outer : List Env} {s s' : Shared} {Q : VK} {E : XK} {r : Result} (hc : cx H cs cvs) (hfs : ∀ b ∈ frs outer, H b = none) (ok : HOk P w H s.heap)
    (h : CR (CX1 P w) outer P w (cD cs H) s (fun v H' => Q v (cq cs H H')) (fun c a H' => E c a (cq cs H H')) r s') : CR (CX1 P w) outer P w H s Q E r s' := by
  cases r with
  | error e =>
    obtain ⟨a, C, d, H', rfl, F, q⟩ := h
    obtain ⟨u, k⟩ := qG hc hfs ok F.un F.hok
    have na : a ∉ cs := fun hb => by
      obtain ⟨v, ev⟩ := hc.mem a hb
      obtain ⟨_, ⟨o, eo⟩, _⟩ := (show bh P w H s.heap a (cr a v) from ok a _ ev)
      rw [F.new] at eo; cases eo
    obtain ⟨oe, vs, a0, T, oT, ts, t1, t2, td, t3, t4, t5, t6, t7, t8, t9, t10, t11⟩ := F.tr
    have nT : T ∉ cs := fun hb => by
      obtain ⟨v, ev⟩ := hc.mem T hb
      obtain ⟨_, ⟨o, eo⟩, _⟩ := (show bh P w H s.heap T (cr T v) from ok T _ ev)
      rw [t10] at eo; cases eo
    exact ⟨a, C, d, _, rfl, ⟨F.os, F.bare, u, k, F.new, by rw [cm na]; exact F.free, ⟨oe, vs, a0, T, oT, ts, t1, t2, td, t3, t4, t5, t6, t7, t8, t9, t10, by rw [cm nT]; exact t11⟩⟩, q⟩
  | ok fl =>
    cases fl with
    | ret u =>
      obtain ⟨v, H', os, bare, un, hok, rv, q⟩ := h
      obtain ⟨u', k⟩ := qG hc hfs ok un hok
      exact ⟨v, _, os, bare, u', k, rv, q⟩
    | next => exact False.elim h
    | brk => exact False.elim h
    | cont => exact False.elim h
end
structure eX (P:Program) (w:World) (K:W.Frag) (mg:Str→Option Value) (base:Heap) (k:Nat) (t:cR) (sp:Sp):Prop where
 run:∀ (A:Around) (outer:List Env) (s:Shared) (H:Hp) (f:Addr) (cs:List Addr) (us:List Value) (vs cvs:List V) (Q:VK) (E:XK),bj k A→iR P w K mg base A outer s H→dw H f t cs cvs→aZ vs us→vs.length=t.ps.length→
  sp (vs++cvs) (cD cs H) (fun v H'=>Q v (cq cs H H')) (fun c a H'=>E c a (cq cs H H'))→codeAny (model P w) A (.call (.ref f) ⟨us,[]⟩) (CR (CX1 P w) outer P w H s Q E) s
def dB (N:List Str) (vs cvs:List V):St:=vs.map some++(List.replicate (N.length - vs.length - cvs.length) none++cvs.map some)
def fT (P:Program) (w:World) (K:W.Frag) (mg:Str→Option Value) (base:Heap) (N:List Str) (qual:Str) (scope:Scope) (f c:Addr) (cl:List (Str×Addr)) (A:Around) (outer:List Env) (s:Shared) (H:Hp) (E:XK):Cx where
 prog:=P
 w:=w
 K:=K
 mg:=mg
 base:=base
 A:=A.deeper (W.envX qual scope s.heap.objs.size f (.ref c) cl)
 N:=N
 s₀:=s
 H₀:=H
 env:=W.envX qual scope s.heap.objs.size f (.ref c) cl
 outer:=outer
 stack:=W.envX qual scope s.heap.objs.size f (.ref c) cl::outer
 ex:=[]
 calm:=true
 fn:=fun _=>false
 pn:=[]
 xe:=fun e s'=>wpAny (model P w) (A.deeper (W.envX qual scope s.heap.objs.size f (.ref c) cl)) (leaving (W.envX qual scope s.heap.objs.size f (.ref c) cl) e) (fun _ s''=>CX1 P w outer H s E e s'') (fun e' s''=>CX1 P w outer H s E e' s'') s'
structure dR (N ps ys:List Str) (sc:Scope):Prop where
 kind:sc.kind=.function
 co:sc.isCoroutine=false
 gen:sc.isGenerator=false
 nd:N.Nodup
 pre:N.take ps.length=ps
 suf:N.drop (N.length - ys.length)=ys
 le:ps.length+ys.length≤N.length
 par:∀ x∈ps,sc.names.lookup x=some .local
 nocell:∀ x∈sc.names,x.2≠ .cell
 fr:∀ x∈ys,sc.names.lookup x=some .free
 frs:∀ y∈sc.names,y.2=.free→y.1∈ys
theorem lN {ys : List Str} {cs : List Addr} (hl : cs.length = ys.length) (nd : ys.Nodup) : ∀ {i : Nat} {y : Str} {c : Addr}, ys[i]? = some y → cs[i]? = some c → (ys.zip cs).lookup y = some c := by
  induction ys generalizing cs with
  | nil => intro i y c e; cases e
  | cons a r ih =>
    intro i y c e1 e2
    cases cs with
    | nil => cases e2
    | cons b cs =>
      cases i with
      | zero => cases e1; cases e2; show (List.lookup _ ((_, _) :: _)) = _; rw [List.lookup_cons]; simp
      | succ i =>
        have hne : y ≠ a := fun e => (List.nodup_cons.mp nd).1 (e ▸ List.mem_of_getElem? (show r[i]? = some y from e1))
        show (List.lookup y ((a, b) :: r.zip cs)) = _
        rw [List.lookup_cons, show (y == a) = false from by simpa using hne]
        exact ih (by simpa using hl) (List.nodup_cons.mp nd).2 (show r[i]? = some y from e1) (show cs[i]? = some c from e2)
theorem fM {ys : List Str} {cs : List Addr} : ∀ {y : Str} {c : Addr}, (ys.zip cs).lookup y = some c → ∃ i : Nat, ys[i]? = some y ∧ cs[i]? = some c := by
  induction ys generalizing cs with
  | nil => intro y c e; cases e
  | cons a r ih =>
    intro y c e
    cases cs with
    | nil => cases e
    | cons b cs =>
      have e : (List.lookup y ((a, b) :: r.zip cs)) = some c := e
      rw [List.lookup_cons] at e
      by_cases hy : (y == a) = true
      · rw [hy] at e; cases e; exact ⟨0, by simpa using (eq_of_beq hy).symm, rfl⟩
      · rw [show (y == a) = false from by simpa using hy] at e
        obtain ⟨i, h1, h2⟩ := ih e
        exact ⟨i + 1, h1, h2⟩
theorem mF {ps : List Str} {us : List Value} (nd : ps.Nodup) : ∀ {i : Nat} {x : Str} {u : Value}, ps[i]? = some x → us[i]? = some u → (ps.zip us).reverse.lookup x = some u := by
  induction ps generalizing us with
  | nil => intro i x u e; cases e
  | cons a r ih =>
    intro i x u e1 e2
    cases us with
    | nil => cases e2
    | cons b us =>
      show (List.lookup x ((a, b) :: r.zip us).reverse) = _
      rw [List.reverse_cons, List.lookup_append]
      cases i with
      | zero =>
        cases e1; cases e2
        have : (r.zip us).reverse.lookup a = none := by
          rw [List.lookup_eq_none_iff]
          intro p hp
          have := (List.of_mem_zip (List.mem_reverse.mp hp)).1
          simp only [beq_eq_false_iff_ne, ne_eq, bne_iff_ne]
          intro e
          exact (List.nodup_cons.mp nd).1 (by rw [← e] at this; exact this)
        rw [this]; simp
      | succ i =>
        rw [ih (List.nodup_cons.mp nd).2 (show r[i]? = some x from e1) (show us[i]? = some u from e2)]; rfl
end L2
namespace L2
open PySem PySem.Spec PyProof.Rows
section
variable {P:Program} {w:World} {K:W.Frag} {mg:Str→Option Value} {base:Heap} {N ps ys:List Str} {qual:Str} {scope:Scope} {f c:Addr} {A:Around} {outer:List Env} {s:Shared} {H:Hp} {E:XK} {us:List Value} {vs cvs:List V} {cs:List Addr} {h1:Heap} {tk:Nat}
theorem qu (S:dR N ps ys scope) (hd:A.handled=none) (e0:iR P w K mg base A outer s H) (ca:cx H cs cvs) (hcs:cs.Nodup) (hcl:cs.length=ys.length) (hl:vs.length=ps.length) (r:aZ vs us)
   (hns:h1.Ns s.heap.objs.size (fun x=>(ps.zip us).reverse.lookup x)) (hk:∀ b o,s.heap.get? b=some o→h1.get? b=some o):
   Inv (fT P w K mg base N qual scope f c (ys.zip cs) A outer s (cD cs H) E) [] (dB N vs cvs) (cD cs H) { s with heap:=h1,toks:=tk }:=by
 have ndY:ys.Nodup:=by rw [← S.suf];exact S.nd.sublist (List.drop_sublist _ _)
 have ndP:ps.Nodup:=by rw [← S.pre];exact S.nd.sublist (List.take_sublist _ _)
 have lcv:cvs.length=ys.length:=by rw [← hcl];exact (Paired.length ca).symm
 have cellOf:∀ c∈cs,∃ v,h1.IsCell c v:=fun c hm=>by
   obtain ⟨v,ev⟩:=ca.mem c hm
   obtain ⟨⟨u,o,_,eo,hd⟩,_,_⟩:=(show bh P w H s.heap c (cr c v) from e0.hok c _ ev)
   exact ⟨_,o,hk _ _ eo,hd⟩
 have memC:∀ x c,(ys.zip cs).lookup x=some c→c∈cs:=fun x c e=>by
   obtain ⟨i,_,e2⟩:=fM e
   exact List.mem_of_getElem? e2
 have noA:∀ b:Addr,b∉(fT P w K mg base N qual scope f c (ys.zip cs) A outer s (cD cs H) E).ex:=fun b z=>absurd (show b∈([]:List Addr) from z) (by simp)
 have hid:∀ b,H b=none→cD cs H b=none:=fun b e=>by
   by_cases hb:b∈cs
   · exact gy hb
   · rw [cI hb];exact e
 refine ⟨⟨e0.mod,S.kind,rfl,rfl,Nat.le_refl _,fun y z c h1 h2=>?_,fun y hy=>?_,fun y c hf _=>?_,fun _=>hd,Around.frames_deeper e0.frames,.inr ⟨rfl,rfl⟩,fun b z=>absurd z (noA b),fun b o e=>⟨(e0.bs b o e).1,hid b (e0.bs b o e).2⟩,e0.bsz,fun b _ _=>noA b,fun b z=>absurd z (noA b),e0.funs,fun b hb=>hid b (e0.frf b hb)⟩,
   rfl,e0.bare,Un.kept hk,⟨_,hns,fun i y v q1 q2 q3=>?_⟩,fun y c h=>cellOf c (memC y c h),hid _ (e0.hok.fresh (Nat.le_refl _)),fun y c h=>gy (memC y c h),fun p hp=>absurd (show p∈([]:List (Addr×Obj)) from hp) (by simp),(Ak ca e0.hok).kept hk,?_⟩
 · obtain ⟨i,e1,e2⟩:=fM (show (ys.zip cs).lookup y=some c from h1)
   obtain ⟨j,e3,e4⟩:=fM (show (ys.zip cs).lookup z=some c from h2)
   have:i=j:=by
     obtain ⟨a1,b1⟩:=List.getElem?_eq_some_iff.mp e2
     obtain ⟨a2,b2⟩:=List.getElem?_eq_some_iff.mp e4
     exact (List.getElem_inj hcs).mp (b1.trans b2.symm)
   subst this
   rw [e1] at e3;exact Option.some.inj e3
 · have hy:scope.names.lookup y=some .cell∨scope.names.lookup y=some .free:=hy
   rcases hy with hy | hy
   · exact absurd rfl (S.nocell _ (PySem.mem_of_lookup hy))
   · obtain ⟨i,hi,e⟩:=List.mem_iff_getElem.mp (S.frs _ (PySem.mem_of_lookup hy) rfl)
     have hi2:i<cs.length:=by omega
     exact ⟨cs[i],lN hcl ndY (List.getElem?_eq_some_iff.mpr ⟨hi,e⟩) (List.getElem?_eq_getElem hi2)⟩
 · exact absurd (show false=true from hf) Bool.false_ne_true
 · unfold dB at q2
   by_cases hi:i<vs.length
   · rw [List.getElem?_append_left (by simpa using hi),List.getElem?_map] at q2
     have ha:vs[i]?=some v:=by
       cases e:vs[i]? with
       | none=>rw [e] at q2;cases q2
       | some a=>rw [e] at q2;cases q2;rfl
     obtain ⟨u,hu,rv⟩:=r.get ha
     have hp:ps[i]?=some y:=by
       rw [← S.pre,List.getElem?_take_of_lt (by omega)];exact q1
     exact ⟨u,rv,.inl ⟨S.par y (List.mem_of_getElem? hp),mF ndP hp hu⟩⟩
   · rw [List.getElem?_append_right (by simpa using hi),List.length_map] at q2
     by_cases hj:i - vs.length<N.length - vs.length - cvs.length
     · rw [List.getElem?_append_left (by simpa using hj),List.getElem?_replicate] at q2
       split at q2 <;> cases q2
     · rw [List.getElem?_append_right (by simpa using hj),List.length_replicate,List.getElem?_map] at q2
       have ha:cvs[i - vs.length - (N.length - vs.length - cvs.length)]?=some v:=by
        cases e:cvs[i - vs.length - (N.length - vs.length - cvs.length)]? with
        | none=>rw [e] at q2;cases q2
        | some a=>rw [e] at q2;cases q2;rfl
       have hle:=S.le
       have hiN:i<N.length:=(List.getElem?_eq_some_iff.mp q1).1
       have hx:i - vs.length - (N.length - vs.length - cvs.length)=i - (N.length - ys.length):=by omega
       rw [hx] at ha
       have hy:ys[i - (N.length - ys.length)]?=some y:=by
        have e1:N.drop (N.length - ys.length)=ys:=S.suf
        have e2:(N.drop (N.length - ys.length))[i - (N.length - ys.length)]?=some y:=by
         rw [List.getElem?_drop]
         rw [show N.length - ys.length+(i - (N.length - ys.length))=i by omega];exact q1
        rw [e1] at e2;exact e2
       obtain ⟨c,ec,hc⟩:=ca.get ha
       obtain ⟨⟨u,o,ru,eo,hdo⟩,_,_⟩:=(show bh P w H s.heap c (cr c v) from e0.hok c _ hc)
       exact ⟨u,ru,.inr ⟨.inr (S.fr y (List.mem_of_getElem? hy)),c,lN hcl ndY hy ec,o,hk _ _ eo,hdo⟩⟩
 · unfold dB
   show _=N.length
   have:=S.le
   rw [List.length_append,List.length_append,List.length_map,List.length_map,List.length_replicate]
   omega
end
section
variable {P:Program} {w:World} {K:W.Frag} {mg:Str→Option Value} {base:Heap} {k:Nat} {t:cR} {N:List Str} {sp:Sp}
theorem oO {body : List Stmt} (hb : t.body = .stmts body) (S : dR N t.ps t.ys t.scope)
    (hbody : ∀ (f c : Addr) (cl : List (Str × Addr)) (A : Around) (outer : List Env) (s : Shared) (H : Hp) (vs cvs : List V) (Q : VK) (E : XK), bj k (A.deeper (W.envX t.qual t.scope s.heap.objs.size f (.ref c) cl)) → vs.length = t.ps.length → cvs.length = t.ys.length → sp (vs ++ cvs) H Q E →
      ∃ td, PSs (fT P w K mg base N t.qual t.scope f c cl A outer s H E) body td ∧ td { nx := fun _ H' => Q .non H', rt := Q } (dB N vs cvs) H) : eX P w K mg base (k + 1) t sp := by
  refine ⟨fun A outer s H f cs us vs cvs Q E hr e0 ca r hl hsp => ?_⟩
  obtain ⟨c, hf, hcc⟩ := ca.ex
  have KX : K.In s.heap := e0.mod.kin.keeps fun b o e => (e0.bs b o e).1
  have lim : s.heap.NoLimit := e0.mod.nolimit.keeps fun b o e => (e0.bs b o e).1
  obtain ⟨⟨od, fd, sl, ho, h1, h2, h3, h4, h5, h6, h7, h8, h9, h10⟩, _, _⟩ := (show bh P w H s.heap f (dt f t cs c) from e0.hok f _ hf)
  obtain ⟨⟨o, vs', tk, hco, hdo, hv⟩, _, _⟩ := (show bh P w H s.heap c (cF c t.qual) from e0.hok c _ hcc)
  have hcd : s.heap.CodeRec fd.code fd.qualname := ⟨c, o, vs', tk, h6, hco, hdo, by rw [h1]; exact hv⟩
  refine codeAny_mono (codeAny_call_function (R := CR (CX1 P w) outer P w (cD cs H) s (fun v H' => Q v (cq cs H H')) (fun c a H' => E c a (cq cs H H'))) hr.depth ho rfl (by rw [h3]; exact S.co) (by rw [h3]; exact S.gen) (h2.trans hb) hcd ?_) fun r s' h => CR.back ca.cells e0.frf e0.hok h
  rw [h8 us (by rw [← r.length]; exact hl), h3, h4, h5, h1, h6, h7]
  refine wpAny_pure (wpAny_newFunctionEnv S.nocell (fun y hy => S.par y.1 (List.of_mem_zip hy).1) (fun h' hns hsb => ⟨lim.fresh _ hsb, ?_⟩) S.kind)
  have hk : ∀ b o, s.heap.get? b = some o → h'.get? b = some o := fun b o e => hsb.extBut b o (Nat.ne_of_lt (Heap.lt_size e)) (Heap.get?_push_of_some _ e)
  have lcv : cvs.length = t.ys.length := by rw [← h10]; exact (Paired.length ca.cells).symm
  obtain ⟨td, ht, hq⟩ := hbody f c (t.ys.zip cs) A outer s (cD cs H) vs cvs _ _ (hr.deeper _) hl lcv hsp
  have I := qu (tk := s.toks + (t.ps.zip us).length) (qual := t.qual) (f := f) (c := c) (E := fun c a H' => E c a (cq cs H H')) S hr.hd e0 ca.cells h9 h10 hl r hns hk
  show codeAny _ _ (.func body (W.envX t.qual t.scope s.heap.objs.size f (.ref c) (t.ys.zip cs))) _ _
  refine codeAny_func ?_
  refine wpAny_mono (ht [] _ (dB N vs cvs) _ _ I hq) (fun fl s' hs => ?_) fun e s' hs => hs
  cases fl with
  | ret u =>
    obtain ⟨v, σ', H', J, rv, q⟩ := hs
    exact ⟨v, H', J.os, J.bare, J.base, J.hok, rv, q⟩
  | next =>
    obtain ⟨σ', H', J, q⟩ := hs
    exact ⟨V.non, H', J.os, J.bare, J.base, J.hok, rfl, q⟩
  | brk =>
    obtain ⟨_, _, _, q⟩ := hs
    exact False.elim q
  | cont =>
    obtain ⟨_, _, _, q⟩ := hs
    exact False.elim q
theorem qI {body : Expr} (hb : t.body = .expr body) (S : dR N t.ps t.ys t.scope)
  (hbody : ∀ (f c : Addr) (cl : List (Str × Addr)) (A : Around) (outer : List Env) (s : Shared) (H : Hp) (vs cvs : List V) (Q : VK) (E : XK), bj k (A.deeper (W.envX t.qual t.scope s.heap.objs.size f (.ref c) cl)) → vs.length = t.ps.length → cvs.length = t.ys.length → sp (vs ++ cvs) H Q E →
   ∃ te, PE (fT P w K mg base N t.qual t.scope f c cl A outer s H E) body te ∧ te (dB N vs cvs) H Q) : eX P w K mg base (k + 1) t sp := by
 refine ⟨fun A outer s H f cs us vs cvs Q E hr e0 ca r hl hsp => ?_⟩
 obtain ⟨c, hf, hcc⟩ := ca.ex
 have KX : K.In s.heap := e0.mod.kin.keeps fun b o e => (e0.bs b o e).1
 have lim : s.heap.NoLimit := e0.mod.nolimit.keeps fun b o e => (e0.bs b o e).1
 obtain ⟨⟨od, fd, sl, ho, h1, h2, h3, h4, h5, h6, h7, h8, h9, h10⟩, _, _⟩ := (show bh P w H s.heap f (dt f t cs c) from e0.hok f _ hf)
 obtain ⟨⟨o, vs', tk, hco, hdo, hv⟩, _, _⟩ := (show bh P w H s.heap c (cF c t.qual) from e0.hok c _ hcc)
 have hcd : s.heap.CodeRec fd.code fd.qualname := ⟨c, o, vs', tk, h6, hco, hdo, by rw [h1]; exact hv⟩
 refine codeAny_mono (W.kla_callFunE (R := CR (CX1 P w) outer P w (cD cs H) s (fun v H' => Q v (cq cs H H')) (fun c a H' => E c a (cq cs H H'))) hr.depth ho rfl (by rw [h3]; exact S.co) (by rw [h3]; exact S.gen) (h2.trans hb) hcd ?_) fun r s' h => CR.back ca.cells e0.frf e0.hok h
 rw [h8 us (by rw [← r.length]; exact hl), h3, h4, h5, h1, h6, h7]
 refine wpAny_pure (wpAny_newFunctionEnv S.nocell (fun y hy => S.par y.1 (List.of_mem_zip hy).1) (fun h' hns hsb => ⟨lim.fresh _ hsb, ?_⟩) S.kind)
 have hk : ∀ b o, s.heap.get? b = some o → h'.get? b = some o := fun b o e => hsb.extBut b o (Nat.ne_of_lt (Heap.lt_size e)) (Heap.get?_push_of_some _ e)
 have lcv : cvs.length = t.ys.length := by rw [← h10]; exact (Paired.length ca.cells).symm
 obtain ⟨te, ht, hq⟩ := hbody f c (t.ys.zip cs) A outer s (cD cs H) vs cvs _ _ (hr.deeper _) hl lcv hsp
 have I := qu (tk := s.toks + (t.ps.zip us).length) (qual := t.qual) (f := f) (c := c) (E := fun c a H' => E c a (cq cs H H')) S hr.hd e0 ca.cells h9 h10 hl r hns hk
 show codeAny _ _ (.expr body (W.envX t.qual t.scope s.heap.objs.size f (.ref c) (t.ys.zip cs))) _ _
 refine W.kla_codeExpr ?_
 refine wpAny_mono (ht [] _ (dB N vs cvs) _ _ I hq) (fun v s' hs => ?_) fun e s' hs => hs
 obtain ⟨x, H', J, rv, q⟩ := hs
 exact ⟨x, H', J.os, J.bare, J.base, J.hok, rv, q⟩
end
end L2
namespace L2
open PySem PySem.Spec PyProof.Rows
def BM (mg:Str→Option Value) (h:Heap):Prop:=∃ bm ob,mg "__builtins__" =some (.ref bm)∧bm≠builtinsNs∧h.get? bm=some ob∧ob.cls=.type "module" ∧ob.dict=some builtinsNs∧ob.data=.plain
section
variable {X:Cx} {pins:List (Addr×Obj)} {σ:St} {H:Hp} {s:Shared} {P c:Addr} {ps:Array Value} {t:cR} {cs:List Addr} {h':Heap} {tk:Nat} {fd:FuncData}
theorem pC {more:Array Value} (I:Inv X pins σ H s) (hP:H P=some (.tbl ps)) (hx:Heap.ExtBut P s.heap h') (hge:s.heap.objs.size≤c) (hlt:c<h'.objs.size) (hrec:h'.CodeRec (.ref c) t.qual)
   (htb:h'.get? P=some (W.tabObj (ps++more))) (hfd:lq t cs c fd):
   Inv X pins σ (upd (upd (upd H P (.tbl (ps++more))) c (cF c t.qual)) h'.objs.size (dt h'.objs.size t cs c)) { s with heap:=h'.push { cls:=.type "function",data:=.func fd },toks:=tk }:=by
 have hcn:H c=none:=I.hok.fresh hge
 have hfn:H h'.objs.size=none:=I.hok.fresh (Nat.le_of_lt (Nat.lt_of_le_of_lt hge hlt))
 have ncP:c≠P:=(ax hP hcn).symm
 have nfP:h'.objs.size≠P:=(ax hP hfn).symm
 have ncf:c≠h'.objs.size:=Nat.ne_of_lt hlt
 have old:∀ b o,s.heap.get? b=some o→b≠c∧b≠h'.objs.size:=fun b o e=>⟨Nat.ne_of_lt (Nat.lt_of_lt_of_le (Heap.lt_size e) hge),Nat.ne_of_lt (Nat.lt_of_lt_of_le (Heap.lt_size e) (Nat.le_of_lt (Nat.lt_of_le_of_lt hge hlt)))⟩
 have keepP:∀ b o,b≠P→s.heap.get? b=some o→(h'.push { cls:=.type "function",data:=.func fd }).get? b=some o:=fun b o hb e=>Heap.get?_push_of_some _ (hx b o hb e)
 have neP:∀ b,H b=none→b≠P:=fun b e z=>by rw [z,hP] at e;cases e
 have obj:∀ b o,H b=some o→∃ u,s.heap.get? b=some u:=fun b o e=>vR (I.hok b o e)
 have same:∀ b o,H b=some o→b≠P→(upd (upd (upd H P (.tbl (ps++more))) c (cF c t.qual)) h'.objs.size (dt h'.objs.size t cs c)) b=some o:=fun b o e hb=>by
   rw [ao (ax e hfn),ao (ax e hcn),ao hb];exact e
 refine I.un ⟨fun b o e n hb hx'=>keepP b o (neP b n) e,fun b o e n hb hx'=>⟨o.slots,keepP b o (neP b n) e⟩,fun b o e n hx'=>?_,fun b o e hx'=>?_,fun b xs e=>same b _ e (ci e hP (fun z=>nomatch z)),fun b o u e=>same b _ e (ci e hP (fun z=>nomatch z)),fun b qs e=>?_⟩ fun b o e=>?_
 · rw [ao (old b o e).2,ao (old b o e).1,ao (neP b n)];exact n
 · by_cases hb:b=P
   · subst hb;exact ⟨_,Heap.get?_push_of_some _ htb⟩
   · exact ⟨o,keepP b o hb e⟩
 · by_cases hb:b=P
   · subst hb
     rw [hP] at e;cases e
     exact ⟨more,by rw [ao nfP.symm,ao ncP.symm,ak]⟩
   · exact ⟨#[],by rw [same b _ e hb];simp⟩
 · by_cases hf:b=h'.objs.size
   · subst hf
     rw [ak] at e;cases e
     refine ⟨⟨_,fd,_,Heap.get?_push_size _ rfl,hfd⟩,⟨_,Heap.get?_push_size _ rfl⟩,?_⟩
     rintro h1 h2 ⟨od,fd',sl,e1,e2⟩ k
     exact ⟨od,fd',sl,k _ e1,e2⟩
   · rw [ao hf] at e
     by_cases hc:b=c
     · subst hc
       rw [ak] at e;cases e
       obtain ⟨c2,oc,vs,tq,e0,e1,e2,e3⟩:=hrec
       cases e0
       refine ⟨⟨oc,vs,tq,Heap.get?_push_of_some _ e1,e2,e3⟩,⟨_,Heap.get?_push_of_some _ e1⟩,?_⟩
       rintro h1 h2 ⟨o,vs,tk,a1,a2,a3⟩ k
       exact ⟨o,vs,tk,k _ a1,a2,a3⟩
     · rw [ao hc] at e
       by_cases hp:b=P
       · subst hp
         rw [ak] at e;cases e
         exact Heap.get?_push_of_some _ htb
       · rw [ao hp] at e
         refine (I.hok b o e).stay (fun a u ha q=>keepP a u ?_ q) (fun a q=>same a _ q (ci q hP (fun z=>nomatch z))) fun a xs q=>same a _ q (ci q hP (fun z=>nomatch z))
         rcases ha with rfl | ha
         · exact hp
         · exact ci ha hP (fun z=>nomatch z)
theorem pW (I:Inv X pins σ H s) (hk:∀ b o,s.heap.get? b=some o→h'.get? b=some o) (hsz:s.heap.objs.size≤h'.objs.size) (hfd:lq t cs c fd):
  Inv X pins σ (upd H h'.objs.size (dt h'.objs.size t cs c)) { s with heap:=h'.push { cls:=.type "function",data:=.func fd },toks:=tk }:=by
 refine I.laid (a:=h'.objs.size) (o:=dt h'.objs.size t cs c) (fun b u e=>Heap.get?_push_of_some _ (hk b u e)) hsz ⟨⟨_,fd,_,Heap.get?_push_size _ rfl,hfd⟩,⟨_,Heap.get?_push_size _ rfl⟩,?_⟩
 rintro h1 h2 ⟨od,fd',sl,e1,e2⟩ k
 exact ⟨od,fd',sl,k _ e1,e2⟩
end
def lh (P : Addr) (pos : Pos) (t : cR) (cs : List Addr) : TE := fun _ H Q => ∃ ps, H P = some (.tbl ps) ∧ TriplesOk ps.toList ∧
  ((codeAmong pos ps.toList = none ∧ ∀ c f, H c = none → H f = none → c ≠ f → Q (.ref f) (upd (upd (upd H P (.tbl (ps ++ #[rawInt pos.line, rawInt pos.col, .ref c]))) c (cF c t.qual)) f (dt f t cs c))) ∨
   ∃ c, codeAmong pos ps.toList = some (.ref c) ∧ ∀ f, H f = none → Q (.ref f) (upd H f (dt f t cs c)))
section
variable {X:Cx} {c0 P:Addr} {params:Arguments} {scope:Scope} {pos:Pos} {t:cR} {cs:List Addr}
theorem qK {pins:List (Addr×Obj)} {σ:St} {H:Hp} {s:Shared} {ps:Array Value} (I:Inv X pins σ H s) (hP:H P=some (.tbl ps)) (B:BM X.mg X.base):
   s.heap.get? P=some (W.tabObj ps)∧s.heap.Ns mainGlobals X.mg∧mainGlobals≠P∧s.heap.BuiltinsAt X.mg P:=by
 have hPo:s.heap.get? P=some (W.tabObj ps):=I.hok P _ hP
 have hg:s.heap.Ns mainGlobals X.mg:=I.mod.glob.keeps I.bk
 have hgP:mainGlobals≠P:=fun q=>by
   obtain ⟨o,es,ep,e,hd,_⟩:=hg
   rw [q,hPo] at e;cases e;cases hd
 obtain ⟨bm,ob,b1,b2,b3,b4,b5,b6⟩:=B
 have b3':=I.bk _ _ b3
 refine ⟨hPo,hg,hgP,bm,ob,b1,b2,fun q=>?_,fun q=>?_,b3',b4,b5,b6⟩
 · obtain ⟨o,es,ep,e,hd,_⟩:=hg
   rw [q,e] at b3';cases b3';rw [hd] at b6;cases b6
 · rw [q,hPo] at b3';cases b3';cases b4
theorem zk {body:Expr} (B:BM X.mg X.base) (C:W.CodeHd X.base c0 P) (hcode:X.env.code=.ref c0) (hcl:closureFor scope X.env=pure (t.ys.zip cs)) (nd:cs.Nodup) (hl:cs.length=t.ys.length)
   (hq:X.env.qual++ "<lambda>" =t.qual) (hb:t.body=.expr body) (hs:t.scope=scope)
   (hbind:∀ (cl:List (Str×Addr)) (pm cdv ct:Value) (us:List Value),us.length=t.ps.length→bindArgs (W.kla_fn "<lambda>" t.qual params body scope cl pm cdv ct) ⟨us,[]⟩=pure (t.ps.zip us))
   (hdef:defaultsOf params X.env=([],[]):=by rfl):QE X (.Lambda params body scope pos) (lh P pos t cs):=⟨fun pins s σ H Q I h=>by
 obtain ⟨ps,hP,ht,h⟩:=h
 obtain ⟨hPo,hg,hgP,hB⟩:=qK I hP B
 have hfd:∀ (pm ct:Value) (c:Addr),lq t cs c (W.kla_fn "<lambda>" t.qual params body scope (t.ys.zip cs) pm (.ref c) ct):=fun pm ct c=>⟨rfl,hb.symm,hs.symm,rfl,rfl,rfl,rfl,hbind _ _ _ _,nd,hl⟩
 refine W.kla_eval hdef ?_
 rw [hq]
 rcases h with ⟨hn,q⟩ | ⟨c,hf,q⟩
 · refine W.kla_makeFunction hcl I.ok.glob hg hcode (C.keeps I.bk) hPo ht hn hgP hB fun c ctv h' tk hx hge hlt hrec htb=>?_
   exact ⟨.ref h'.objs.size,_,pC I hP hx hge hlt hrec htb (hfd _ _ _),rfl,q c h'.objs.size (I.hok.fresh hge) (I.hok.fresh (Nat.le_of_lt (Nat.lt_of_le_of_lt hge hlt))) (Nat.ne_of_lt hlt)⟩
 · refine W.kla_makeFunctionHit hcl I.ok.glob hg hcode (C.keeps I.bk) hPo ht hf hB fun ctv h' tk hk hsz=>?_
   exact ⟨.ref h'.objs.size,_,pW I hk hsz (hfd _ _ _),rfl,q h'.objs.size (I.hok.fresh hsz)⟩⟩
theorem sX (i:Nat) {name:Str} {body:List Stmt} (hN:X.N.Nodup) (B:BM X.mg X.base) (C:W.CodeHd X.base c0 P) (hcode:X.env.code=.ref c0) (hcl:closureFor scope X.env=pure (t.ys.zip cs)) (nd:cs.Nodup) (hl:cs.length=t.ys.length)
   (hq:qualnameIn X.env name name=t.qual) (hb:t.body=.stmts body) (hs:t.scope=scope)
   (hbind:∀ (cl:List (Str×Addr)) (doc pm cdv ct:Value) (us:List Value),us.length=t.ps.length→bindArgs (W.fnX name t.qual params body scope cl .none .none doc pm none cdv ct) ⟨us,[]⟩=pure (t.ps.zip us))
   (hi:X.N[i]?=some name:=by rfl) (hx:Loc X.env.scope name:=by first | exact .inl rfl | exact .inr rfl) (hf:X.fn name=true∨X.env.scope.names.lookup name=some .local:=by first | exact .inl rfl | exact .inr rfl)
   (hd0:params.defaults=[]:=by rfl) (hk0:params.kw_defaults=[]:=by rfl) (ha:annTrees params none X.env=[]:=by rfl):
   QS X (.FunctionDef name params body [] none [] scope none name pos) (aF (lh P pos t cs) (au i)):=⟨fun pins s σ H D I h=>by
 obtain ⟨ps,hP,ht,h⟩:=h
 obtain ⟨hPo,hg,hgP,hB⟩:=qK I hP B
 have hfd:∀ (doc pm ct:Value) (c:Addr),lq t cs c (W.fnX name t.qual params body scope (t.ys.zip cs) .none .none doc pm none (.ref c) ct):=fun doc pm ct c=>⟨rfl,hb.symm,hs.symm,rfl,rfl,rfl,rfl,hbind _ _ _ _ _,nd,hl⟩
 refine W.nestDef_K hd0 hk0 ha ?_
 rw [hq]
 rcases h with ⟨hn,q⟩ | ⟨c,hff,q⟩
 · refine W.makeFunction_K hcl I.ok.glob hg hcode (C.keeps I.bk) hPo ht hn hgP hB fun c ctv doc h' tk hx' hge hlt hrec htb=>?_
   have I2:=pC (tk:=tk) (cs:=cs) I hP hx' hge hlt hrec htb (hfd doc ((X.mg "__name__").getD .none) ctv c)
   exact gH I2 hN hi hx (v:=.ref h'.objs.size) rfl (fun s' I3=>⟨_,_,I3,q c h'.objs.size (I.hok.fresh hge) (I.hok.fresh (Nat.le_of_lt (Nat.lt_of_le_of_lt hge hlt))) (Nat.ne_of_lt hlt)⟩) hf
 · refine W.makeFunction_hit hcl I.ok.glob hg hcode (C.keeps I.bk) hPo ht hff hB fun ctv doc h' tk hk hsz=>?_
   have I2:=pW (tk:=tk) (cs:=cs) I hk hsz (hfd doc ((X.mg "__name__").getD .none) ctv c)
   exact gH I2 hN hi hx (v:=.ref h'.objs.size) rfl (fun s' I3=>⟨_,_,I3,q h'.objs.size (I.hok.fresh hsz)⟩) hf⟩
end
section
variable {X:Cx} {k:Nat} {E:St→XK} {x:Str} {p pos:Pos} {e:Expr} {es:List Expr} {ta:TE}
abbrev lS:=List (cR×Sp)
def zf (ks:lS) (f:Addr) (vs:List V) (H:Hp) (Q:VK) (E:XK):Prop:=∃ ts∈ks,∃ cs cvs,dw H f ts.1 cs cvs∧vs.length=ts.1.ps.length∧ts.2 (vs++cvs) (cD cs H) (fun v H'=>Q v (cq cs H H')) (fun c a H'=>E c a (cq cs H H'))
def nX (ks:lS) (E:St→XK) (ta:TE) (t:TA):TE:=fun σ H Q=>ta σ H fun x H1=>∃ f,x=.ref f∧(∃ ts∈ks,∃ cs cvs,dw H1 f ts.1 cs cvs)∧t σ H1 fun vs H2=>zf ks f vs H2 Q (E σ)
theorem uI {P:Program} {w:World} {H:Hp} {h:Heap} {f:Addr} {t:cR} {cs:List Addr} {cvs:List V} (ok:HOk P w H h) (c:dw H f t cs cvs):W.FnAt f h:=by
 obtain ⟨c',hf,_⟩:=c.ex
 obtain ⟨⟨od,fd,sl,ho,_⟩,_,_⟩:=(show bh P w H h f (dt f t cs c') from ok f _ hf)
 exact ⟨_,_,_,_,ho⟩
def qy (P:Program) (w:World) (K:W.Frag) (mg:Str→Option Value) (base:Heap) (k:Nat) (ks:lS):Prop:=∀ ts∈ks,eX P w K mg base k ts.1 ts.2
theorem pe {ks : lS} {t : TA} (hk : qy X.prog X.w X.K X.mg X.base k ks) (hr : bj k X.A) (hx : dZ (CX1 X.prog X.w) X E) (hg : QE X (.Name x p) ta) (ha : QA X (e :: es) t) (hs : bf (e :: es) = true := by rfl) :
    QE X (.Call (.Name x p) (e :: es) [] pos) (nX ks E ta t) := ⟨fun pins s σ H Q I h => by
  have h' : (bO e && bf es) = true := hs
  refine wpAny_Call_Name_kw (thn (hg.out pins s σ H _ I h) fun u s1 ⟨y, H1, I1, ry, f, ey, ⟨ts, hts, cs, cvs, ca⟩, q⟩ => ?_)
  subst ey
  obtain rfl : u = Value.ref f := ry
  refine W.callWith_F (uI I1.hok ca) (thn (ha.out pos pins s1 σ H1 _ I1 q) fun us s2 ⟨vs, H2, I2, rv, ts2, hm2, cs2, cvs2, ca2, hl, hsp⟩ => ⟨uI I2.hok ca2, ?_⟩)
    (bg (Bool.and_eq_true_iff.mp h').1 es X.env) (bJ (Bool.and_eq_true_iff.mp h').2)
  refine wpAny_call (codeAny_mono ((hk ts2 hm2).run X.A X.stack s2 H2 f cs2 us vs cvs2 Q (E σ) hr I2.env0 ca2 rv hl hsp) fun r s' hq => ?_)
  cases r with
  | error e => exact hx pins σ H2 s2 e s' I2 hq
  | ok fl =>
    cases fl with
    | ret u => exact I2.after hq
    | next => exact False.elim hq
    | brk => exact False.elim hq
    | cont => exact False.elim hq⟩
end
end L2
namespace L2
open PySem PySem.Spec PyProof.Rows
structure lT where
 nx:St→Hp→Prop
 rt:St→VK
abbrev TSM:=lT→St→Hp→Prop
def SPM (X:Cx) (pins:List (Addr×Obj)) (D:lT) (f:Flow) (s':Shared):Prop:=
 match f with
 | .next=>∃ σ' H',Inv X pins σ' H' s'∧D.nx σ' H'
 | .ret u=>∃ v σ' H',Inv X pins σ' H' s'∧aJ v u∧D.rt σ' v H'
 | _=>False
structure QM (X:Cx) (st:Stmt) (t:TSM):Prop where
 out:∀ (pins:List (Addr×Obj)) (s:Shared) (σ:St) (H:Hp) (D:lT),Inv X pins σ H s→t D σ H→wpAny (model X.prog X.w) X.A (exec st X.env) (SPM X pins D) X.xe s
structure QMs (X:Cx) (st:List Stmt) (t:TSM):Prop where
 out:∀ (pins:List (Addr×Obj)) (s:Shared) (σ:St) (H:Hp) (D:lT),Inv X pins σ H s→t D σ H→wpAny (model X.prog X.w) X.A (execs st X.env) (SPM X pins D) X.xe s
def kR (t u:TSM):TSM:=fun D σ H=>t { D with nx:=fun σ' H'=>u D σ' H' } σ H
def iC (t:TS):TSM:=fun D σ H=>t { nx:=D.nx,rt:=fun _ _=>False } σ H
def mQ (te:TE):TSM:=fun D σ H=>te σ H (D.rt σ)
section
variable {X:Cx} {st:Stmt} {sts l m:List Stmt} {t u:TSM} {tS:TS} {e c:Expr} {te:TE} {tc:TT} {pos:Pos}
theorem io (h:QS X st tS):QM X st (iC tS):=⟨fun pins s σ H D I hq=>thn (h.out pins s σ H _ I hq) fun f s1 q=>by
 cases f with
 | next=>exact q
 | ret v=>obtain ⟨_,_,_,_,_,z⟩:=q;exact z.elim
 | brk=>obtain ⟨_,_,_,z⟩:=q;exact z.elim
 | cont=>obtain ⟨_,_,_,z⟩:=q;exact z.elim⟩
theorem lj (h:QE X e te):QM X (.Return (some e) pos) (mQ te):=⟨fun pins s σ H D I hq=>
 wpAny_Return_some (thn (h.out pins s σ H _ I hq) fun v s1 ⟨x,H1,I1,r1,q1⟩=>⟨x,σ,H1,I1,r1,q1⟩)⟩
theorem iA (h1 : QM X st t) (h2 : QMs X sts u) : QMs X (st :: sts) (kR t u) := ⟨fun pins s σ H D I h => by
  refine wpAny_execs_cons (thn (h1.out pins s σ H _ I h) fun f s1 q => ?_)
  cases f with
  | next =>
    obtain ⟨σ', H', I', q⟩ := q
    exact h2.out pins s1 σ' H' D I' q
  | ret v => exact q
  | brk => exact q
  | cont => exact q⟩
theorem lE (h1:QM X st t):QMs X [st] t:=⟨fun pins s σ H D I h=>by
 refine wpAny_execs_cons (thn (h1.out pins s σ H D I h) fun f s1 q=>?_)
 cases f with
 | next=>exact wpAny_execs_nil q
 | ret v=>exact q
 | brk=>exact q
 | cont=>exact q⟩
end
def cu : List (Nat × Addr) → St → Hp → Hp
  | [], _, H => H
  | (i, c) :: r, σ, H => match σ[i]? with
    | some (some v) => cu r σ (upd H c (cr c v))
    | _ => cu r σ H
theorem kP {P : Program} {w : World} {fs : List Addr} {H : Hp} {h h' : Heap} {σ : St} : ∀ (cs : List (Nat × Addr)) (H' : Hp), (cs.map (·.2)).Nodup → (∀ p ∈ cs, H' p.2 = none ∧ h.objs.size ≤ p.2 ∧ ∀ v, σ[p.1]? = some (some v) → ∃ u o, aJ v u ∧ h'.get? p.2 = some o ∧ o.data = .cell (some u)) →
    Un fs [] H H' h h' → HOk P w H' h' → Un fs [] H (cu cs σ H') h h' ∧ HOk P w (cu cs σ H') h'
  | [], H', _, _, u, ok => ⟨u, ok⟩
  | (i, c) :: r, H', nd, hc, u, ok => by
    unfold cu
    have ndr := (List.nodup_cons.mp nd).2
    have hcr : ∀ p ∈ r, H' p.2 = none ∧ h.objs.size ≤ p.2 ∧ ∀ v, σ[p.1]? = some (some v) → ∃ u o, aJ v u ∧ h'.get? p.2 = some o ∧ o.data = .cell (some u) := fun p hp => hc p (List.mem_cons_of_mem _ hp)
    split
    · rename_i v hv
      obtain ⟨hn, hge, hcell⟩ := hc (i, c) List.mem_cons_self
      have hn : H' c = none := hn
      have hge : h.objs.size ≤ c := hge
      obtain ⟨uv, o, ru, eo, hd⟩ := hcell v hv
      have eo : h'.get? c = some o := eo
      refine kP r (upd H' c (cr c v)) ndr (fun p hp => ⟨?_, (hcr p hp).2⟩) ⟨u.keep, u.slot, fun b ob e n hx => ?_, u.there, fun b xs e => ?_, fun b ob z e => ?_, fun b ps e => ?_⟩ fun b ob e => ?_
      · have : p.2 ≠ c := fun z => (List.nodup_cons.mp nd).1 (by rw [← z]; exact List.mem_map.mpr ⟨p, hp, rfl⟩)
        rw [ao this]; exact (hcr p hp).1
      · rw [ao (Nat.ne_of_lt (Nat.lt_of_lt_of_le (Heap.lt_size e) hge))]; exact u.free b ob e n hx
      · have z := u.tups b xs e; rw [ao (ax z hn)]; exact z
      · have z := u.frzs b ob _ e; rw [ao (ax z hn)]; exact z
      · obtain ⟨more, z⟩ := u.tbls b ps e; exact ⟨more, by rw [ao (ax z hn)]; exact z⟩
      · by_cases hb : b = c
        · subst hb
          rw [ak] at e; cases e
          refine ⟨⟨uv, o, ru, eo, hd⟩, ⟨o, eo⟩, ?_⟩
          rintro h1 h2 ⟨u', o', r', e', d'⟩ k
          exact ⟨u', o', r', k _ e', d'⟩
        · rw [ao hb] at e
          exact (ok b ob e).stay (fun a q _ z => z) (fun a q => by rw [ao (ax q hn)]; exact q) fun a xs q => by rw [ao (ax q hn)]; exact q
    · exact kP r H' ndr hcr u ok
theorem Fun.okM {P : Program} {w : World} {K : W.Frag} {mg : Str → Option Value} {base : Heap} {x qual : Str} {st : Stmt} {f c0 : Addr} {fd : FuncData} {N ps : List Str} {k : Nat} {sp : Sp} {caps : Nat → List (Nat × Addr)} (F : Fun K x qual st f fd) (hcd : fd.code = .ref c0) (S : av N ps (af st)) (len : ∀ vs H Q E, sp vs H Q E → vs.length = ps.length)
    (hcaps : ∀ (L : Nat) (p : Nat × Addr), p ∈ caps L → ∃ y, N[p.1]? = some y ∧ (af st).names.lookup y = some .cell ∧ (cellsFrom (L + 1) (af st).names []).lookup y = some p.2) (hnd : ∀ L, ((caps L).map (·.2)).Nodup)
    (hbody : ∀ (A : Around) (outer : List Env) (s : Shared) (H : Hp) (vs : List V) (Q : VK) (E : XK), bj k (A.deeper (envOfC qual (af st) s.heap.objs.size f (.ref c0))) → sp vs H Q E →
      ∃ t, QMs (eM (CX1 P w) P w K mg base N qual (af st) f (.ref c0) A outer s H E) (aN st) t ∧ t { nx := fun σ H' => (∀ p ∈ caps s.heap.objs.size, H' p.2 = none) → Q .non (cu (caps s.heap.objs.size) σ H'), rt := fun σ v H' => (∀ p ∈ caps s.heap.objs.size, H' p.2 = none) → Q v (cu (caps s.heap.objs.size) σ H') } (cp N vs) H) : aE P w K mg base (CX1 P w) (k + 1) f fd ps sp := by
  obtain ⟨oc, od, kV, doc, pm, an, cdv, ct, osl, rfl, lk, hcd'⟩ := F.ex
  obtain rfl : cdv = .ref c0 := hcd
  refine ⟨len, fun A outer s H args us vs Q E hr e0 hb r hsp => ?_⟩
  have hl := len _ _ _ _ hsp
  have KX : K.In s.heap := e0.mod.kin.keeps fun b o e => (e0.bs b o e).1
  have lim : s.heap.NoLimit := e0.mod.nolimit.keeps fun b o e => (e0.bs b o e).1
  have hkind : ∀ y ∈ ps.zip us, (af st).names.lookup y.1 = some .local ∨ ((af st).names.lookup y.1 = some .cell ∧ ((cellsFrom (s.heap.objs.size + 1) (af st).names []).lookup y.1).isSome = true) := fun ⟨n, v⟩ hy => by
    rcases S.par n (List.of_mem_zip hy).1 with q | q
    · exact .inl q
    · exact .inr ⟨q, W.cellsFrom_some _ _ _ (.inl q)⟩
  refine codeAny_call_function hr.depth (KX _ _ lk) rfl S.co S.gen rfl (W.codeRec_of KX hcd') (hb _ _ _ _ ?_)
  refine wpAny_newFunctionEnv_cells S.kind hkind fun env he s1 x => ?_
  subst he
  refine ⟨lim.keeps x.toInCall.keep, codeAny_func ?_⟩
  obtain ⟨t, ht, hq⟩ := hbody A outer s H vs Q E (hr.deeper _) hsp
  have I : Inv (eM (CX1 P w) P w K mg base N qual (af st) f (.ref c0) A outer s H E) [] (cp N vs) H s1 := mZ S hr.hd e0 hl r x
  refine wpAny_mono (ht.out [] s1 (cp N vs) H _ I hq) (fun fl s' hs => ?_) fun e s' hs => hs
  have fin : ∀ {σ' : St} {H' : Hp} {v : V} {u : Value}, Inv (eM (CX1 P w) P w K mg base N qual (af st) f (.ref c0) A outer s H E) [] σ' H' s' → aJ v u → ((∀ p ∈ caps s.heap.objs.size, H' p.2 = none) → Q v (cu (caps s.heap.objs.size) σ' H')) → CE outer P w H s Q u s' :=
    fun {σ' H' v u} J rv q => by
      have free : ∀ p ∈ caps s.heap.objs.size, H' p.2 = none := fun p hp => by
        obtain ⟨y, _, _, hc⟩ := hcaps _ p hp
        exact J.freeC y p.2 hc
      have hcond : ∀ p ∈ caps s.heap.objs.size, H' p.2 = none ∧ s.heap.objs.size ≤ p.2 ∧ ∀ v, σ'[p.1]? = some (some v) → ∃ u o, aJ v u ∧ s'.heap.get? p.2 = some o ∧ o.data = .cell (some u) := fun p hp => by
        obtain ⟨y, hy, hk, hc⟩ := hcaps _ p hp
        refine ⟨free p hp, J.ok.cab y p.2 rfl hc, fun v hv => ?_⟩
        obtain ⟨m, _, hloc⟩ := J.loc
        obtain ⟨u', r', lk'⟩ := hloc p.1 y v hy hv (.inr (.inl hk))
        rcases lk' with ⟨z, _⟩ | ⟨_, c, ec, o, eo, hd⟩
        · have z : (af st).names.lookup y = some .local := z
          rw [hk] at z; cases z
        · have ec : (cellsFrom (s.heap.objs.size + 1) (af st).names []).lookup y = some c := ec
          rw [hc] at ec; cases ec
          exact ⟨u', o, r', eo, hd⟩
      obtain ⟨un, ok⟩ := kP (P := P) (w := w) (σ := σ') (caps s.heap.objs.size) H' (hnd _) hcond J.base J.hok
      exact ⟨v, _, J.os, J.bare, un, ok, rv, q free⟩
  cases fl with
  | ret u =>
    obtain ⟨v, σ', H', J, rv, q⟩ := hs
    exact fin J rv q
  | next =>
    obtain ⟨σ', H', J, q⟩ := hs
    exact fin (v := V.non) (u := Value.none) J rfl q
  | brk => exact False.elim hs
  | cont => exact False.elim hs
end L2
namespace L2
open PySem PySem.Spec PyProof.Rows
theorem uA {P : Program} {w : World} {K : W.Frag} {mg mb : Str → Option Value} {CX : CXT} {k : Nat} {fa a : Addr} {fd : FuncData} {x : Str} {sp : Sp} {s₁ : Shared} {vs : List Value} {ns : List Int} {tabs : List (Addr × Addr)}
    (KX : K.In s₁.heap) (hns : s₁.heap.Ns mainGlobals mg) (hb : s₁.heap.Ns builtinsNs mb) (hbb : ∀ x : Str, x ≠ "__name__" → mb x = bootBuiltins x) (hlim : s₁.heap.NoLimit) (hg : s₁.gens = #[]) (hB : BM mg s₁.heap)
    (hT : ∀ q ∈ tabs, W.CodeHd s₁.heap q.1 q.2 ∧ s₁.heap.get? q.2 = some (W.tabObj #[])) (hKT : W.noTabs K = true)
    (ha : s₁.heap.get? a = some { cls := .type "list", data := .seq vs.toArray }) (hi : IntsAre vs ns) (hl : ns.length ≤ sizeLine) (hr : bj k callerA)
    (F : ∀ base : Heap, K.In base → base.Ns mainGlobals mg → BM mg base → (∀ q ∈ tabs, W.CodeHd base q.1 q.2) → aE P w K mg base CX k fa fd [x] sp) (hbind : ∀ (s : Shared) (u : Value), BindsTo s fd ⟨[u], []⟩ [(x, u)])
    (hsp : ∀ H : Hp, (∀ q ∈ tabs, H q.2 = some (.tbl #[])) → SqL K H a (ns.map V.int) → sp [.ref a] H (fun v _ => v = .bl true) fun _ _ _ => False)
    (hCX : ∀ H e s', CX [] H s₁ (fun _ _ _ => False) e s' → False) :
    codeAny (model P w) callerA (.call (.ref fa) ⟨[.ref a], []⟩) (fun r s' => r = .ok (.ret (.bool true)) ∧ OldK s₁.heap s'.heap ∧ s'.os = s₁.os ∧ AllBare s'.gens) s₁ := by
  have rv := jD hi
  have lenV := hi.length
  have tabK : ∀ q ∈ tabs, K.lookup q.2 = none := fun q hq => by
    cases e : K.lookup q.2 with
    | none => rfl
    | some o =>
      have e2 := KX _ _ e
      rw [(hT q hq).2] at e2; cases e2
      have := List.all_eq_true.mp hKT _ (W.mem_of_lookupK e)
      exact absurd (show false = true from this) Bool.false_ne_true
  have tabA : ∀ q ∈ tabs, q.2 ≠ a := fun q hq e => by
    have e2 := (hT q hq).2
    rw [e, ha] at e2; cases e2
  have core : ∀ H : Hp, (∀ q ∈ tabs, H q.2 = some (.tbl #[])) → SqL K H a (ns.map V.int) → HOk P w H s₁.heap → (∀ b, H b ≠ none → (b = a ∧ ∃ o xs, H b = some (.frz o (.lst xs))) ∨ ∃ q ∈ tabs, q.2 = b) → (∀ b, H b ≠ none → K.lookup b = none) →
      codeAny (model P w) callerA (.call (.ref fa) ⟨[.ref a], []⟩) (fun r s' => r = .ok (.ret (.bool true)) ∧ OldK s₁.heap s'.heap ∧ s'.os = s₁.os ∧ AllBare s'.gens) s₁ := by
    intro H hO hS hok hA hK
    have base_of : ∀ {b : Addr} {o : Obj}, s₁.heap.get? b = some o → H b = none → (gz s₁.heap H).get? b = some o := fun e n => xn e n
    have noA : ∀ {b : Addr} {o : Obj}, s₁.heap.get? b = some o → o.cls ≠ .none → o.cls ≠ .type "list" → H b = none := fun {b o} e c1 c2 => by
      cases q : H b with
      | none => rfl
      | some u =>
        rcases hA b (by rw [q]; simp) with ⟨rfl, _⟩ | ⟨p, hp, rfl⟩
        · rw [ha] at e; cases e; exact absurd rfl c2
        · rw [(hT p hp).2] at e; cases e; exact absurd rfl c1
    have noD : ∀ {b : Addr} {o : Obj} {es : Array DictEntry} {ep : Nat}, s₁.heap.get? b = some o → o.data = .dict es ep → H b = none := fun {b o es ep} e d => by
      cases q : H b with
      | none => rfl
      | some u =>
        rcases hA b (by rw [q]; simp) with ⟨rfl, _⟩ | ⟨p, hp, rfl⟩
        · rw [ha] at e; cases e; cases d
        · rw [(hT p hp).2] at e; cases e; cases d
    have nsK : ∀ {b : Addr} {m : Str → Option Value}, s₁.heap.Ns b m → (gz s₁.heap H).Ns b m := fun {b m} ⟨o, es, ep, e, d, r⟩ => ⟨o, es, ep, base_of e (noD e d), d, r⟩
    have hKb : K.In (gz s₁.heap H) := fun b o e => base_of (KX b o e) (by
      cases q : H b with
      | none => rfl
      | some u => rw [hK b (by rw [q]; simp)] at e; cases e)
    have hBb : BM mg (gz s₁.heap H) := by
      obtain ⟨bm, ob, b1, b2, b3, b4, b5, b6⟩ := hB
      exact ⟨bm, ob, b1, b2, base_of b3 (noA b3 (by rw [b4]; intro z; cases z) (by rw [b4]; intro z; exact absurd (Value.type.inj z) (by decide))), b4, b5, b6⟩
    have hCb : ∀ q ∈ tabs, W.CodeHd (gz s₁.heap H) q.1 q.2 := fun q hq => by
      obtain ⟨o, vs, file, tf, flags, tg, inF, text, tt, e1, e2, r⟩ := (hT q hq).1
      exact ⟨o, vs, file, tf, flags, tg, inF, text, tt, base_of e1 (noA e1 (by rw [e2]; intro z; cases z) (by rw [e2]; intro z; exact absurd (Value.type.inj z) (by decide))), e2, r⟩
    have hM : Mod K mg (gz s₁.heap H) := ⟨hKb, nsK hns, ⟨mb, nsK hb, hbb⟩, let ⟨mc, h1, h2⟩ := hlim; ⟨mc, nsK h1, h2⟩⟩
    have e0 : iR P w K mg (gz s₁.heap H) callerA [] s₁ H := ⟨rfl, hM, fun b o e => Ah e, Nat.le_of_eq (uX _ _), trivial, fun b hb => absurd (show b ∈ ([] : List Addr) from hb) (by simp), hok, .of_eq hg⟩
    refine codeAny_mono ((F _ hKb (nsK hns) hBb hCb).run callerA [] s₁ H ⟨[.ref a], []⟩ [.ref a] [.ref a] _ _ hr e0 (hbind s₁ (.ref a)) (.cons rfl .nil) (hsp H hO hS)) fun r s' h => ?_
    cases r with
    | error e => exact (hCX H e s' h).elim
    | ok fl =>
      cases fl with
      | next => exact False.elim h
      | brk => exact False.elim h
      | cont => exact False.elim h
      | ret u =>
        obtain ⟨v, H', os, bare, un, hok', r', q⟩ := h
        have q' : v = .bl true := q
        subst q'
        obtain rfl : u = Value.bool true := r'
        have all : ∀ b o, s₁.heap.get? b = some o → s'.heap.get? b = some o ∨ ∃ q ∈ tabs, q.2 = b ∧ ∃ more, s'.heap.get? b = some (W.tabObj more) := fun b o e => by
          cases q : H b with
          | none => exact .inl (un.keep b o e q (by intro z; exact absurd (show b ∈ ([] : List Addr) from z) (by simp)) (by simp))
          | some u =>
            rcases hA b (by rw [q]; simp) with ⟨rfl, ob, xs, z⟩ | ⟨p, hp, rfl⟩
            · have z2 := un.frzs b ob _ z
              obtain ⟨e1, _⟩ := hok b _ z
              obtain ⟨e2, _⟩ := hok' b _ z2
              rw [e] at e1; cases e1
              exact .inl e2
            · obtain ⟨more, z2⟩ := un.tbls p.2 _ (hO p hp)
              exact .inr ⟨p, hp, rfl, _, hok' p.2 _ z2⟩
        refine ⟨rfl, ⟨fun b o e => ?_, fun b o e => ?_⟩, os, bare⟩
        · rcases all b o e with z | ⟨p, hp, rfl, more, z⟩
          · exact .inl z
          · have e2 := (hT p hp).2
            rw [e] at e2; cases e2
            exact .inr (.inl ⟨((hT p hp).1.tab (hT p hp).2).isCodeTable, rfl, #[], more, rfl, by rw [Array.empty_append]; exact z⟩)
        · rcases all b o e with z | ⟨p, hp, rfl, more, z⟩
          · exact ⟨_, z⟩
          · exact ⟨_, z⟩
  cases hk : K.lookup a with
  | some o =>
    have e := KX a o hk
    rw [ha] at e
    cases e
    refine core (fun b => if b ∈ tabs.map (·.2) then some (.tbl #[]) else none) (fun q hq => if_pos (List.mem_map.mpr ⟨q, hq, rfl⟩)) (.inr ⟨_, vs.toArray, _, hk, rfl, rfl, rfl, by rw [List.size_toArray, lenV]; exact hl, by simpa using rv⟩) (fun b u z => ?_) (fun b z => ?_) fun b z => ?_
    · by_cases hb : b ∈ tabs.map (·.2)
      · have z' := (if_pos hb).symm.trans z
        cases z'
        obtain ⟨q, hq, rfl⟩ := List.mem_map.mp hb
        exact (hT q hq).2
      · have z' := (if_neg hb).symm.trans z
        cases z'
    · by_cases hb : b ∈ tabs.map (·.2)
      · obtain ⟨q, hq, e⟩ := List.mem_map.mp hb
        exact .inr ⟨q, hq, e⟩
      · exact absurd (if_neg hb) z
    · by_cases hb : b ∈ tabs.map (·.2)
      · obtain ⟨q, hq, rfl⟩ := List.mem_map.mp hb
        exact tabK q hq
      · exact absurd (if_neg hb) z
  | none =>
    refine core (fun b => if b = a then some (.frz { cls := .type "list", data := .seq vs.toArray } (.lst (ns.map V.int))) else if b ∈ tabs.map (·.2) then some (.tbl #[]) else none)
      (fun q hq => by show (if q.2 = a then _ else _) = _; rw [if_neg (tabA q hq), if_pos (List.mem_map.mpr ⟨q, hq, rfl⟩)]) (.inl (.inr ⟨{ cls := .type "list", data := .seq vs.toArray }, if_pos rfl⟩)) (fun b u z => ?_) (fun b z => ?_) fun b z => ?_
    · by_cases hb : b = a
      · have z' := (if_pos hb).symm.trans z
        cases z'
        subst hb
        exact ⟨ha, by rw [List.length_map]; exact hl, vs, _, rv, ha⟩
      · have z' : (if b ∈ tabs.map (·.2) then some (HO.tbl #[]) else none) = some u := (if_neg hb).symm.trans z
        by_cases hb2 : b ∈ tabs.map (·.2)
        · rw [if_pos hb2] at z'; cases z'
          obtain ⟨q, hq, rfl⟩ := List.mem_map.mp hb2
          exact (hT q hq).2
        · rw [if_neg hb2] at z'; cases z'
    · by_cases hb : b = a
      · exact .inl ⟨hb, _, _, if_pos hb⟩
      · by_cases hb2 : b ∈ tabs.map (·.2)
        · obtain ⟨q, hq, e⟩ := List.mem_map.mp hb2
          exact .inr ⟨q, hq, e⟩
        · exact absurd ((if_neg hb).trans (if_neg hb2)) z
    · by_cases hb : b = a
      · rw [hb]; exact hk
      · by_cases hb2 : b ∈ tabs.map (·.2)
        · obtain ⟨q, hq, rfl⟩ := List.mem_map.mp hb2
          exact tabK q hq
        · exact absurd ((if_neg hb).trans (if_neg hb2)) z
theorem vU {l : W.OpenLaw} {n k : Nat} {q : Program} {loose : List Str} {XP : (Str → Option Value) → Heap → Prop} {YP : World → Heap → Prop} {d : DefRec} {K : Params → W.Frag} {CX : World → CXT} {x : Str} {names : List Str}
  (hn : l.most = some n) (hn2 : n ≤ sizeLine) (hdf : d.params.defaults = []) (hr : bj k callerA)
  (hY : ∀ (w : World) (h : Heap), YP w h → (K w.params).In h)
  (hq : ∀ y ∈ names, ((PyProof.Rows.recsOf q).find? fun e => e.name == y).isSome = true)
  (F : ∀ (w : World) (mg : Str → Option Value) (fa : Addr) (h : Heap), (K w.params).In h → h.Ns mainGlobals mg → mg d.name = some (.ref fa) →
   ∃ (fd : FuncData) (tabs : List (Addr × Addr)) (sp : Sp), (∀ (s : Shared) (u : Value), BindsTo s fd ⟨[u], []⟩ [(x, u)]) ∧ W.noTabs (K w.params) = true ∧ (∀ t ∈ tabs, ∃ y ∈ names, W.tabIn (K w.params) y = some t) ∧
    (∀ base : Heap, (K w.params).In base → base.Ns mainGlobals mg → BM mg base → (∀ t ∈ tabs, W.CodeHd base t.1 t.2) → aE l.prog w (K w.params) mg base (CX w) k fa fd [x] sp) ∧
    ∀ (H : Hp) (a : Addr) (ns : List Int), ns.length ≤ n → (∀ t ∈ tabs, H t.2 = some (.tbl #[])) → SqL (K w.params) H a (ns.map V.int) → sp [.ref a] H (fun v _ => v = .bl true) fun _ _ _ => False)
  (hCX : ∀ (w : World) (H : Hp) (s : Shared) (e : Value) (s' : Shared), CX w [] H s (fun _ _ _ => False) e s' → False) :
  W.WalkO q loose XP YP l.row.toRowW d [] (fun f vs => PySem.call f vs) := by
 refine Att.attach_call hn hdf fun w s₀ s₁ mg mb fa o pm cd doc a vs ns G Y ho hd hcd hmg hobj hints hlen hg => ?_
 have KX := hY w _ Y
 obtain ⟨fd, tabs, sp, hb, hKT, htabs, hF, hsp⟩ := F w mg fa _ KX G.T.g hmg
 refine uA (tabs := tabs) KX G.T.g G.T.b G.T.builtins G.T.nolimit hg G.T.bmain (fun t ht => ?_) hKT hobj hints (Nat.le_trans hlen hn2) hr hF hb (fun H hO hS => hsp H a ns hlen hO hS) fun H e s' => hCX w H s₁ e s'
 obtain ⟨y, hy, e⟩ := htabs t ht
 obtain ⟨dd, hdd⟩ := Option.isSome_iff_exists.mp (hq y hy)
 exact W.tab_of G.T KX hdd e
end L2
namespace L2
open PySem PySem.Spec PyProof.Rows
section
variable {X:Cx}
theorem SPM.unwish {E:Value→Shared→Prop} {pins:List (Addr×Obj)} {D:lT} {f:Flow} {s':Shared} (h:SPM (X.wish E) pins D f s'):SPM X pins D f s':=by
 cases f with
 | next=>obtain ⟨σ',H',I,q⟩:=h;exact ⟨σ',H',I.unwish,q⟩
 | brk=>exact h
 | cont=>exact h
 | ret u=>obtain ⟨v,σ',H',I,r,q⟩:=h;exact ⟨v,σ',H',I.unwish,r,q⟩
theorem QMs.nox {st:List Stmt} {t:TSM} (h:QMs X.nox st t):QMs X st t:=⟨fun pins s σ H D I hw=>
 wpAny_mono (h.out pins s σ H D (I.wish _) hw) (fun _ _ q=>SPM.unwish q) fun _ _ z=>False.elim z⟩
theorem eX.mono {P:Program} {w:World} {K:W.Frag} {mg:Str→Option Value} {base:Heap} {j k:Nat} {t:cR} {sp:Sp} (F:eX P w K mg base j t sp) (h:j≤k):eX P w K mg base k t sp:=
 ⟨fun A outer s H f cs us vs cvs Q E hr=>F.run A outer s H f cs us vs cvs Q E (hr.mono h)⟩
def my:V→List V→Hp→VK→Prop:=fun x vs H Q=>∃ a y d r H',x=.ref a∧vs=[y,d]∧BU H a y d r H'∧Q r H'
theorem mW (hu:X.A.units+1<cLine):MtR X "dict.setdefault" my:=by
 intro pins s σ H x xs v us Q I rx rs h
 obtain ⟨a,y,d,r,H',rfl,rfl,g,q⟩:=h
 obtain rfl:v=Value.ref a:=rx
 obtain ⟨uy,ud,rfl,ry,rd⟩:=sV rs
 rcases g with ⟨g,rfl⟩ | ⟨g,p,rfl⟩
 · rcases g with ⟨kvs,k,e,rfl,l⟩ | ⟨kvs,k,b,e,rfl,eb,l⟩
   · obtain ⟨z,hd,vs,rel,dd⟩:=gU I.hok e
     obtain ⟨w',hw,rw'⟩:=cN.some_of (v:=r) (o:=valueAt vs k) (by rw [l];exact rel.val k)
     exact call_meetsIn PySem.F.slot_dict_setdefault dd.typeIs PySem.F.entry_dict_setdefault (PySem.F.args_dict_setdefault_3 _ _ _) (kt_meets_setdefault (bH X.prog X.w) a (gO ry) hd ud)
       ⟨vs,dd,by rw [← rel.length];exact z,(fun v' hv'=>by rw [hw] at hv';cases hv';exact ⟨r,H',I.tok _,rw',q⟩),(fun hn=>by rw [hw] at hn;cases hn)⟩
   · cases (show uy=Value.ref b from ry)
     obtain ⟨z,hd,xs,rel,dd⟩:=ki I.hok e
     obtain ⟨w',hw,rw'⟩:=cN.some_of (v:=r) (o:=(atKey xs k).map (·.2)) (by rw [l];exact rel.val k)
     obtain ⟨pp,hp,hp2⟩:=Option.map_eq_some_iff.mp hw
     refine wpAny_call_entry PySem.F.slot_dict_setdefault dd.typeIs PySem.F.entry_dict_setdefault ?_ (PySem.F.args_dict_setdefault_3 _ _ _)
     unfold Builtin.«dict.setdefault»
     refine wpAny_bind ?_
     unfold Builtin.Dict.keyAndDefault
     refine wpAny_bind (wpAny_notOrdered_dict dd.typeIs ?_)
     show wpAny _ _ (pure (a,Value.ref b,some ud)) _ _ s
     refine wpAny_pure ?_
     show wpAny _ _ (if (a==sysModules)=true then _ else (dictSetDefault a (.ref b) ud>>=_)) _ _ s
     rw [if_neg (by rw [hd];exact Bool.false_ne_true)]
     refine wpAny_bind (fm (tupleKind_room_in1 hu) (gI I.hok eb) dd (fun p' hp'=>?_) (fun hn=>?_) (by rw [← Paired.length rel];exact z))
     · rw [hp] at hp';cases hp'
       exact wpAny_pure ⟨_,rfl,⟨r,H',I.tok _,by rw [hp2];exact rw',q⟩⟩
     · rw [hp] at hn;cases hn
 · rcases g with ⟨kvs,k,e,rfl,l⟩ | ⟨kvs,k,b,e,rfl,eb,l⟩
   · rcases p with ⟨kvs',k',e',ey,lz,rfl⟩ | ⟨kvs',k',b',e',ey,_⟩
     · have ek:k=k':=by cases k <;> cases k' <;> first | (cases ey;rfl) | cases ey
       subst ek
       obtain ⟨z,hd,vs,rel,dd⟩:=jK I.hok e'
       have ee:kvs=kvs':=by
         rcases e with e | ⟨o,e⟩
         · rw [e'] at e;cases e;rfl
         · rw [e'] at e;cases e
       subst ee
       have hn:valueAt vs k=none:=cN.none_of (by rw [l];exact rel.val k)
       refine call_meetsIn PySem.F.slot_dict_setdefault dd.typeIs PySem.F.entry_dict_setdefault (PySem.F.args_dict_setdefault_3 _ _ _) (kt_meets_setdefault (bH X.prog X.w) a (gO ry) hd ud)
         ⟨vs,dd,by rw [← rel.length];exact z,(fun v' hv'=>by rw [hn] at hv';cases hv'),fun _ h' dd' hs=>?_⟩
       have he:∃ q,h'.get? a=some q:=let ⟨q,_,_,hq,_⟩:=dd';⟨q,hq⟩
       have hl:(cB kvs k r).length≤sizeLine:=by have:=fI kvs k r;omega
       exact ⟨r,_,il I (by rw [e'];exact True.intro) hs he (lu hl hd (rel.put k rd) dd'),rd,q⟩
     · cases k <;> cases ey
   · rcases p with ⟨kvs',k',e',ey,_⟩ | ⟨kvs',k',b',e',ey,eb',lz,rfl⟩
     · cases k' <;> cases ey
     · cases ey
       have ek:k=k':=qJ (HO.tup.inj (Option.some.inj (eb.symm.trans eb')))
       subst ek
       cases (show uy=Value.ref b from ry)
       obtain ⟨z,hd,xs,rel,dd⟩:=si I.hok e'
       have ee:kvs=kvs':=by
         rcases e with e | ⟨o,e⟩
         · rw [e'] at e;cases e;rfl
         · rw [e'] at e;cases e
       subst ee
       have hn:atKey xs k=none:=by
         have:=cN.none_of (o:=(atKey xs k).map (·.2)) (by rw [l];exact rel.val k)
         exact Option.map_eq_none_iff.mp this
       refine wpAny_call_entry PySem.F.slot_dict_setdefault dd.typeIs PySem.F.entry_dict_setdefault ?_ (PySem.F.args_dict_setdefault_3 _ _ _)
       unfold Builtin.«dict.setdefault»
       refine wpAny_bind ?_
       unfold Builtin.Dict.keyAndDefault
       refine wpAny_bind (wpAny_notOrdered_dict dd.typeIs ?_)
       show wpAny _ _ (pure (a,Value.ref b,some ud)) _ _ s
       refine wpAny_pure ?_
       show wpAny _ _ (if (a==sysModules)=true then _ else (dictSetDefault a (.ref b) ud>>=_)) _ _ s
       rw [if_neg (by rw [hd];exact Bool.false_ne_true)]
       refine wpAny_bind (fm (tupleKind_room_in1 hu) (gI I.hok eb) dd (fun p' hp'=>?_) (fun _ h' dd' hs=>?_) (by rw [← Paired.length rel];exact z))
       · rw [hn] at hp';cases hp'
       · obtain ⟨q',es,ep,hq,h2,h3,h4,_,h5⟩:=dd'
         have hl:(cB kvs k r).length≤sizeLine:=by have:=fI kvs k r;omega
         refine wpAny_pure ⟨_,rfl,⟨r,_,il (ob:=.dT (cB kvs k r)) I (by rw [e'];exact True.intro) hs ⟨q',hq⟩ ⟨hl,hd,_,(rel.put k eb rd).keeps fun c ys ec=>?_,q',es,ep,hq,h2,h3,h4,h5⟩,rd,q⟩⟩
         rw [ao (ci ec e' (fun z=>nomatch z))]
         exact ec
def Its (z:Str):It:=⟨fun i _=>i<z.length,fun i H x H'=>H'=H∧∃ c,z.cps[i]?=some c∧x=.str ⟨#[c]⟩,fun i _=>z.length≤i⟩
theorem vx {P:Program} {w:World} {K:W.Frag} {tg:Expr} (z:Str) (t:Tok) (it:Addr):iQ P w K tg (Its z) [it] it (fun i h=>h.IsStrIter it "str_ascii_iterator" z t i) where
 mem:=by simp
 obj:=fun i h st b hb=>by
  have e:b=it:=by simpa using hb
  subst e
  obtain ⟨o,e,c,d⟩:=st
  exact ⟨o,e,fun v z=>by rw [d] at z;cases z⟩
 keep:=fun i h h' st k=>let ⟨o,ho,r⟩:=st;⟨o,k it (by simp) o ho,r⟩
 item:=by
  intro X hP hw hK hc i pins s σ H E I hf st hg
  subst hP hw hK
  obtain ⟨f0,f1,f2,f3,f4,f5⟩:=hf it (by simp)
  have hi:i<z.cps.size:=hg
  refine wpAny_pyNext_ascii_item st (c:=z.cps[i]) (Array.getElem?_eq_getElem hi) fun h' st' sb=>?_
  have I1:Inv X pins σ H { s with heap:=h',toks:=s.toks+1 }:=I.turned (t':=s.toks+1) (fun b o hb e=>(sb.2 b hb).trans e) f0 f1 f3 f4 f5
  obtain ⟨o,e,c,d⟩:=id st'
  exact ⟨_,rfl,lL (s:={ s with heap:=h',toks:=s.toks+1 }) e c d (by decide) ⟨.str ⟨#[z.cps[i]]⟩,H,I1,⟨_,rfl⟩,⟨rfl,_,Array.getElem?_eq_getElem hi,rfl⟩,st',fun b hb=>(hf b hb).1⟩⟩
 done:=by
  intro X hP hw hK hc i pins s σ H E I hf st hg
  subst hP hw hK
  obtain ⟨f0,f1,f2,f3,f4,f5⟩:=hf it (by simp)
  exact wpAny_pyNext_ascii_end (I.ok.hd hc) st (Array.getElem?_eq_none (show z.cps.size≤i from hg)) fun h' eb=>⟨rfl,I.turned (t':=s.toks) (fun b o hb e=>eb b o hb e) f0 f1 f3 f4 f5⟩
 self:=fun A i s Q E st h=>by
  refine wpAny_pyIter_slot st.typeIs F.slot_str_ascii_iterator_iter (wpAny_call_entry F.slot_str_ascii_iterator_iter st.typeIs F.entry_str_ascii_iterator_iter ?_ (F.args_str_ascii_iterator_iter_1 _))
  show wpAny _ _ (ret (.ref it)) _ _ s
  exact wpAny_pure ⟨_,rfl, "str_ascii_iterator",_,st.typeIs,F.slot_str_ascii_iterator_next.lookup,h⟩
variable {a:Expr} {ta:TE} {tg:Expr}
def em (K:W.Frag) (tl:TE):TI:=fun σ H R=>tl σ H fun x H1=>match x with
 | .str z=>z.cps.all (·<128)=true∧R (Its z) H1
 | x=>∃ a,x=.ref a∧(((∃ xs,SqL K H1 a xs)∧R (Itl K a) H1)∨((∃ xs,SqT K H1 a xs)∧R (Itt K a) H1))
theorem eF (h : QE X a ta) : QI X tg a (em X.K ta) := ⟨fun pins s σ H R I hw => by
  refine thn (h.out pins s σ H _ I hw) fun v s1 ⟨x, H1, I1, r1, q1⟩ => ?_
  cases x with
  | str z =>
    obtain ⟨t, rfl⟩ := r1
    refine wpAny_pyIter_ascii q1.1 ?_
    refine ⟨s1.heap.objs.size, [s1.heap.objs.size], _, _, H1, rfl, I1.kept (t' := s1.toks) fun b o e => Heap.get?_push_of_some _ e, vx z t _, ⟨_, Heap.get?_push_size _ rfl, rfl, rfl⟩, fun b hb => ?_, q1.2⟩
    have e : b = s1.heap.objs.size := by simpa using hb
    subst e
    exact I1.fpOk (Nat.le_refl _) (I1.hok.fresh (Nat.le_refl _))
  | ref c =>
    obtain ⟨a, e, q⟩ := q1
    cases e
    cases r1
    rcases q with ⟨⟨xs, hq⟩, q⟩ | ⟨⟨xs, hq⟩, q⟩
    · obtain ⟨its, rv, p, hz⟩ := I1.list hq
      refine wpAny_pyIter_list (gr p) ?_
      refine ⟨s1.heap.objs.size, [s1.heap.objs.size], _, _, H1, rfl, I1.kept (t' := s1.toks) fun b o e => Heap.get?_push_of_some _ e, uW _ _, ⟨_, Heap.get?_push_size _ rfl, rfl, rfl⟩, fun b hb => ?_, q⟩
      have e : b = s1.heap.objs.size := by simpa using hb
      subst e
      exact I1.fpOk (Nat.le_refl _) (I1.hok.fresh (Nat.le_refl _))
    · obtain ⟨its, rv, p, hz⟩ := I1.tuple hq
      refine wpAny_pyIter_tuple (show s1.heap.IsTuple c its.toArray from p) ?_
      refine ⟨s1.heap.objs.size, [s1.heap.objs.size], _, _, H1, rfl, I1.kept (t' := s1.toks) fun b o e => Heap.get?_push_of_some _ e, sM _ _, ⟨_, Heap.get?_push_size _ rfl, rfl, rfl⟩, fun b hb => ?_, q⟩
      have e : b = s1.heap.objs.size := by simpa using hb
      subst e
      exact I1.fpOk (Nat.le_refl _) (I1.hok.fresh (Nat.le_refl _))
  | _ => obtain ⟨_, e, _⟩ := q1; cases e⟩
end
end L2
namespace L2
open PySem PySem.Spec PyProof.Rows
theorem CT {J:It} {n:Nat} {it:Nat→V} {Pk:Hp→Prop} {g:TG} {tb:TS} {D:hG} {σ:St} {H:Hp} (T:eJ J n it Pk) (Pv:Nat→St→Hp→Prop) (h0:Pv 0 σ H) (hl:∀ i σ H,i≤n→Pv i σ H→Pk H)
   (hs:∀ i σ H,i<n→Pv i σ H→g (it i) σ H fun σ2 H2=>tb { D with nx:=Pv (i+1),ct:=Pv (i+1),bk:=D.nx } σ2 H2) (hd:∀ σ H,Pv n σ H→D.nx σ H):
   ∃ W:Nat→Nat→St→Hp→Prop,(∃ m,W 0 m σ H)∧∀ i m σ H,W i m σ H→
    (J.stop i H∧D.nx σ H)∨(J.go i H∧∃ N:St→Hp→Prop,(∀ σ' H',N σ' H'→∃ m',m'<m∧W (i+1) m' σ' H')∧∀ x H',J.yld i H x H'→g x σ H' fun σ2 H2=>tb { D with nx:=N,ct:=N,bk:=D.nx } σ2 H2):=by
 refine ⟨fun i m σ H=>m=n - i∧i≤n∧Pv i σ H,⟨n,by simp,Nat.zero_le _,h0⟩,?_⟩
 rintro i m σ H ⟨rfl,hi,p⟩
 have q:=hl i σ H hi p
 by_cases hlt:i<n
 · refine .inr ⟨T.go i H hlt q,Pv (i+1),fun σ' H' p'=>⟨n - (i+1),by omega,rfl,hlt,p'⟩,fun x H' y=>?_⟩
   obtain ⟨rfl,rfl⟩:=T.yld i H x H' hlt q y
   exact hs i σ _ hlt p
 · have e:i=n:=by omega
   subst e
   exact .inl ⟨T.stop H q,hd σ H p⟩
theorem eJ.str (z:Str):eJ (Its z) z.length (fun i=> .str ⟨#[z.cps.getD i 0]⟩) (fun _=>True) where
 go:=fun i H hi _=>hi
 yld:=fun i H x H' hi _ y=>⟨y.1,by obtain ⟨_,c,hc,rfl⟩:=y;simp [Array.getD_eq_getD_getElem?,hc]⟩
 stop:=fun H _=>Nat.le_refl _
theorem rk {α β:Type} (f:β→α→β) (b:β) (l:List α) (i:Nat) (x:α) (h:l[i]?=some x):(l.take (i+1)).foldl f b=f ((l.take i).foldl f b) x:=by
 rw [List.take_succ,h];simp
theorem mh {α β:Type} {f:α→β} {l:List α} {i:Nat} {x:β} (h:(l.map f)[i]?=some x):∃ a,l[i]?=some a∧x=f a:=by
 rw [List.getElem?_map] at h
 cases e:l[i]? with
 | none=>rw [e] at h;cases h
 | some a=>rw [e] at h;cases h;exact ⟨a,rfl,rfl⟩
theorem dw.keep {H H':Hp} {f:Addr} {t:cR} {cs:List Addr} {cvs:List V} (k:∀ b φ,H b=some (.ext φ)→H' b=some (.ext φ)) (c:dw H f t cs cvs):dw H' f t cs cvs:=by
 obtain ⟨⟨a,h1,h2⟩,h3⟩:=c
 refine ⟨⟨a,k _ _ h1,k _ _ h2⟩,?_⟩
 clear h1 h2
 induction h3 with
 | nil=>exact .nil
 | cons r t ih=>exact .cons (k _ _ r) ih
theorem ixL {K:W.Frag} {H:Hp} {Q:VK} {L:Addr} {xs:List V} {x:V} {i:Int} {j:Nat} (hL:H L=some (.lst xs)) (e:i=j) (hx:xs[j]?=some x) (q:Q x H):bn K (.ref L) (.int i) H Q:=by
 subst e
 refine .inl (.inl ⟨L,xs,j,x,rfl,rfl,SqL.of hL,?_,q⟩)
 have hj:=(List.getElem?_eq_some_iff.mp hx).1
 rw [tX (by omega) (by omega)]
 simp [List.getD_eq_getElem?_getD,hx]
def mV (K:W.Frag) (ns:List Str):Bool:=decide ((ns.map fun n=>(W.tabIn K n).map (·.2)).Nodup)
theorem wC {l:List Addr} (h:(l.map some).Nodup):l.Nodup:=List.Pairwise.of_map some (fun a b h e=>h (congrArg some e)) h
end L2
namespace HT
open PySem PyProof.Rows
end HT
namespace L2
open PySem PySem.Spec PyProof.Rows
section
variable {X:Cx}
end
end L2
namespace L2
open PySem PySem.Spec PyProof.Rows
end L2
namespace L2
open PySem PySem.Spec PyProof.Rows
section
variable {X:Cx}
theorem DH:OpR X (compareOp .Is) (fun x y H Q=>∃ b c,x=.bl b∧y=.bl c∧Q (.bl (decide (b=c))) H):=by
 intro pins s σ H x y v u Q I rx ry h
 obtain ⟨b,c,rfl,rfl,q⟩:=h
 cases rx
 cases ry
 refine wpAny_is_plain (by rfl) (br I q ?_)
 cases b <;> cases c <;> rfl
def pR:R2:=fun x y H Q=>match x,y with
 | .bl b,.bl c=>Q (.bl (decide (b=c))) H
 | x,y=>xm x y H Q
theorem vP:OpR X (compareOp .Is) pR:=(DH.or oIs).imp fun x y H Q q=>by
 unfold pR at q
 split at q
 · exact .inl ⟨_,_,rfl,rfl,q⟩
 · exact .inr q
end
end L2
namespace HT
open PySem PyProof.Rows
theorem sub_tuple_dict:isSubtype (.type "tuple") (.type "dict")=pure false:=by rw [isSubtype_type];kernel_rfl
theorem mN:isSubtype (.type "dict") (.type "tuple")=pure false:=by rw [isSubtype_type];kernel_rfl
theorem sS (l b:Addr) (o:Obj) (hc:o.cls=.type "dict") (o2:Obj) (hc2:o2.cls=.type "tuple"):
  Meets (Builtin.«dict.__eq__» ⟨[.ref l,.ref b],[]⟩) (fun _ R s=>s.heap.get? l=some o∧s.heap.get? b=some o2∧R (.ok (.ret .notImplemented)) s):=
 .of_wp fun prog w A R s h=>by
  obtain ⟨hp,g,d,tk,os⟩:=s;obtain ⟨hl,hb,h⟩:=h;obtain ⟨cls,dd,data,sl⟩:=o;obtain ⟨cls2,dd2,data2,sl2⟩:=o2
  simp only at hc hc2;subst hc hc2
  have f1:=sub_tuple_dict;wp_walk using wpAny_loadPart' hl,wpAny_loadPart' hb;exact ⟨_,rfl,h⟩
theorem qf (l b:Addr) (o:Obj) (hc:o.cls=.type "tuple") (o2:Obj) (hc2:o2.cls=.type "dict"):
  Meets (Builtin.«tuple.__eq__» ⟨[.ref l,.ref b],[]⟩) (fun _ R s=>s.heap.get? l=some o∧s.heap.get? b=some o2∧R (.ok (.ret .notImplemented)) s):=
 .of_wp fun prog w A R s h=>by
  obtain ⟨hp,g,d,tk,os⟩:=s;obtain ⟨hl,hb,h⟩:=h;obtain ⟨cls,dd,data,sl⟩:=o;obtain ⟨cls2,dd2,data2,sl2⟩:=o2
  simp only at hc hc2;subst hc hc2
  have f1:=mN;wp_walk using wpAny_loadPart' hl,wpAny_loadPart' hb;exact ⟨_,rfl,h⟩
end HT
namespace L2
open PySem PySem.Spec PyProof.Rows
section
variable {X:Cx}
def yo (K:W.Frag):R2:=fun x y H Q=>∃ a b ys,x=.ref a∧y=.ref b∧((∃ kvs,H a=some (.dK kvs))∨∃ kvs,H a=some (.dT kvs))∧SqT K H b ys∧Q (.bl false) H
theorem Az (hu:X.A.units<cLine):OpR X (compareOp .Eq) (yo X.K):=by
 intro pins s σ H x y v u Q I rx ry h
 obtain ⟨a,b,ys,rfl,rfl,ha,hb,q⟩:=h
 cases rx
 cases ry
 obtain ⟨its,_,p1,_⟩:=I.tuple hb
 obtain ⟨o2,ho2,hc2,_⟩:=id p1
 obtain ⟨o,ho,hc⟩:∃ o,s.heap.get? a=some o∧o.cls=.type "dict" :=by
  rcases ha with ⟨kvs,e⟩ | ⟨kvs,e⟩
  · obtain ⟨_,_,_,_,o,_,_,h1,h2,_⟩:=(show bh X.prog X.w H s.heap a (.dK kvs) from I.hok a _ e)
    exact ⟨o,h1,h2.1⟩
  · obtain ⟨_,_,_,_,o,_,_,h1,h2,_⟩:=(show bh X.prog X.w H s.heap a (.dT kvs) from I.hok a _ e)
    exact ⟨o,h1,h2.1⟩
 have hne:a≠b:=fun e=>by
  subst e
  rw [ho] at ho2;cases ho2
  rw [hc] at hc2;exact absurd hc2 (by simp)
 show wpAny _ _ (richCompare .Eq (.ref a) (.ref b)) _ _ s
 exact SeqAt.rc_eq_decline_or (k:=false) ⟨_,ho,hc⟩ ⟨_,ho2,hc2⟩ (by decide) F.sub_tuple_dict F.slot_dict_eq F.slot_tuple_eq_refl
  (fun _ hq=>call_meets F.slot_dict_eq ⟨_,ho,hc⟩ F.entry_dict_eq (F.args_dict_eq_2 _ _) (HT.sS a b o hc o2 hc2) ⟨ho,ho2,hq⟩)
  (fun _ hq=>call_meets F.slot_tuple_eq_refl ⟨_,ho2,hc2⟩ F.entry_tuple_eq (F.args_tuple_eq_2 _ _) (HT.qf b a o2 hc2 o hc) ⟨ho2,ho,hq⟩)
  (fun _ hq=>wpAny_isSame_ref_other hne ho ho2 (by rw [hc];simp) hq) (.inr hu) ⟨.bl false,H,I,rfl,q⟩
def bN (K:W.Frag):R2:=fun x y H Q=>match x,y with
 | .ref a,.ref b=>Cj K (.ref a) (.ref b) H Q∨pX K (.ref a) (.ref b) H Q∨yo K (.ref a) (.ref b) H Q
 | .ref a,y=>pX K (.ref a) y H Q
 | x,.ref b=>pX K x (.ref b) H Q
 | x,y=>mEq x y H Q
theorem cn (hu:X.A.units+150<cLine):OpR X (compareOp .Eq) (bN X.K):=((Dv (by omega)).or ((CU hu).or ((Az (by omega)).or oEq))).imp fun x y H Q q=>by
 unfold bN at q
 split at q
 · exact q.elim .inl fun z=>z.elim (fun z=> .inr (.inl z)) fun z=> .inr (.inr (.inl z))
 · exact .inr (.inl q)
 · exact .inr (.inl q)
 · exact .inr (.inr (.inr q))
end
end L2
namespace HT
open PySem PyProof.Rows
theorem kJ:typeLookup (.type "tuple") "__reversed__" =pure none:=by rw [typeLookup_type,builtinLookup_eq_fast];kernel_rfl
theorem ng:Manifest.owners.lookup (String.ofList ['d','e','s','r','e','v','e','r'].reverse)=some Manifest.sig_reversed:=by kernel_rfl
theorem dD:Slot "reversed" "__next__" "reversed.__next__" :=
 .of (owner:= "reversed") (n:= "__next__") (by rw [typeLookup_type,builtinLookup_eq_fast];kernel_rfl) (by decide +kernel) (by decide +kernel) (by decide +kernel)
  (by first | exact .inl (by decide +kernel) | exact .inr (by decide +kernel)) (by rw [isSubtype_type];kernel_rfl)
theorem ii:entryFor table "reversed.__next__" =some Builtin.«reversed.__next__»:=entryFor_of_tree (by kernel_rfl)
theorem jg (a:Value):argsOk "reversed.__next__" ⟨[a],[]⟩:=by
 unfold argsOk;rw [signature?_of (id:= "reversed.__next__") (n:=['_','_','t','x','e','n','_','_']) (o:=['d','e','s','r','e','v','e','r']) (by kernel_rfl) ng];kernel_rfl
theorem jh:Slot "reversed" "__iter__" "reversed.__iter__" :=
 .of (owner:= "reversed") (n:= "__iter__") (by rw [typeLookup_type,builtinLookup_eq_fast];kernel_rfl) (by decide +kernel) (by decide +kernel) (by decide +kernel)
  (by first | exact .inl (by decide +kernel) | exact .inr (by decide +kernel)) (by rw [isSubtype_type];kernel_rfl)
theorem nG (a:Value):argsOk "reversed.__iter__" ⟨[a],[]⟩:=by
 unfold argsOk;rw [signature?_of (id:= "reversed.__iter__") (n:=['_','_','r','e','t','i','_','_']) (o:=['d','e','s','r','e','v','e','r']) (by kernel_rfl) ng];kernel_rfl
theorem mq:entryFor table "reversed.__iter__" =some Builtin.«dict_keyiterator.__iter__»:=
 entryFor_alias (id':= "dict_keyiterator.__iter__") (by kernel_rfl) (by first | rfl | decide +kernel | (unfold String.splitOn;simp +decide [String.splitOnAux])) (by decide +kernel) (by kernel_rfl)
theorem nK:Slot "reversed" "__init__" "object.__init__" :=
 .of (owner:= "object") (n:= "__init__") (by rw [typeLookup_type,builtinLookup_eq_fast];kernel_rfl) (by decide +kernel) (by decide +kernel) (by decide +kernel)
  (by first | exact .inl (by decide +kernel) | exact .inr (by decide +kernel)) (by rw [isSubtype_type];kernel_rfl)
theorem tu:TypeCalled "reversed" "reversed.__new__" "object.__init__" :=
 ⟨by decide +kernel,PySem.F.create_reversed,⟨_,_,PySem.F.mro_reversed⟩,PySem.F.made_reversed,by decide +kernel,PySem.F.sub_reversed_self,nK⟩
theorem pD:isSubtype (.type "tuple") (.type "dict")=pure false:=by rw [isSubtype_type];kernel_rfl
def pU (t:Addr) (i:Int):Obj:={ cls:=.type "reversed",data:=.fields #[.ref t,rawInt i] }
theorem nH (t:Addr) (items:Array Value):Meets (Builtin.«reversed.__new__» ⟨[.type "reversed",.ref t],[]⟩) (fun _ R s=>IsTup s.heap t items∧(items.size:Int)<2^63∧
  R (.ok (.ret (.ref s.heap.objs.size))) { s with heap:=s.heap.push (pU t ((items.size:Int) - 1)),toks:=s.toks+1+1 }):=
 .of_wp fun prog w A R s h=>by
  obtain ⟨ht,hz,h⟩:=h
  unfold Builtin.«reversed.__new__»
  refine wpAny_bind (wpAny_of_eq (newClass_reversed _) ?_)
  try dsimp only
  refine wpAny_bind (wpAny_of_eq (a:=()) (by first | rfl | kernel_rfl) ?_)
  refine wpAny_bind (wpAny_of_eq (a:=()) (by first | rfl | kernel_rfl) ?_)
  try dsimp only
  refine wpAny_bind (wpAny_specialOf ht.typeIs kJ ?_)
  try dsimp only
  refine wpAny_bind (wpAny_bind (wpAny_isInstance (T:= "tuple") (b:=false) ht.typeIs pD ?_))
  rw [if_neg (by simp)]
  refine wpAny_bind (wpAny_specialOf (r:=some (.builtin "tuple.__getitem__")) ht.typeIs slot_tuple_getitem.lookup ?_)
  show wpAny _ _ (if (["tuple.__getitem__", "str.__getitem__", "bytes.__getitem__", "bytearray.__getitem__", "memoryview.__getitem__", "numpy.ndarray.__getitem__", "sqlite3.Row.__getitem__"].contains "tuple.__getitem__")=true then _ else _) _ _ s
  rw [if_pos (by decide)]
  refine wpAny_pure ?_
  rw [if_neg (by simp)]
  refine wpAny_bind (len_tuple ht hz ?_)
  refine wpAny_bind (wpAny_of_eq (a:=some ((items.size:Nat):Int)) rfl ?_)
  show wpAny _ _ (newObj (.type "reversed") (.fields #[.ref t,rawInt ((items.size:Int) - 1)])>>=_) _ _ _
  exact wpAny_bind (wpAny_newObj_type (wpAny_pure ⟨_,rfl,h⟩))
section
variable {prog:Program} {w:World} {A:Around} {E:Value→Shared→Prop} {s:Shared}
theorem ji {t:Addr} {items:Array Value} {Q:Value→Shared→Prop} (ht:IsTup s.heap t items) (hz:(items.size:Int)<2^63)
  (h:Q (.ref s.heap.objs.size) { s with heap:=s.heap.push (pU t ((items.size:Int) - 1)),toks:=s.toks+1+1 }):wpAny (model prog w) A (call (.type "reversed") [.ref t]) Q E s:=
 callType_new tu (by decide) (PySem.F.typeCall_reversed_1 _) (PySem.F.newCall_reversed_1 _) (fun obj=>PySem.F.args_object_init_2 obj _) PySem.F.entry_reversed_new (nH t items) ⟨ht,hz,⟨_,Heap.get?_push_size _ rfl,rfl⟩,h⟩
def gW (h:Heap) (a t:Addr) (i:Int):Prop:=h.get? a=some (pU t i)
theorem gW.typeIs {a t:Addr} {i:Int} (x:gW s.heap a t i):s.TypeIs (.ref a) "reversed" :=⟨_,x,rfl⟩
theorem nJ {it t:Addr} {i:Nat} {items:Array Value} {x:Value} {Q:Option Value→Shared→Prop} (hit:gW s.heap it t (i:Int)) (ht:IsTup s.heap t items) (hz:(items.size:Int)<2^63) (hx:items[i]?=some x)
   (hQ:∀ h',gW h' it t ((i:Int) - 1)→Heap.SameBut it s.heap h'→Q (some x) { s with heap:=h',toks:=s.toks+1 }):wpAny (model prog w) A (pyNext (.ref it)) Q E s:=by
 have hi:i<items.size:=by
   rcases Nat.lt_or_ge i items.size with h | h
   · exact h
   · rw [Array.getElem?_eq_none h] at hx;cases hx
 unfold pyNext
 refine wpAny_bind (wpAny_attempt (wpAny_callSpecial?_slot (name:=Str.ofString "__next__") hit.typeIs dD
   (wpAny_call_entry dD hit.typeIs ii ?_ (jg _))))
 unfold Builtin.«reversed.__next__»
 refine wpAny_bind (wpAny_of_eq (a:=(Value.ref it,[])) rfl ?_)
 try dsimp only
 refine wpAny_bind (wpAny_field hit rfl (x:=.ref t) rfl ?_)
 refine wpAny_bind (wpAny_field hit rfl (x:=rawInt (i:Int)) rfl ?_)
 show wpAny _ _ (if (i:Int)<0 then _ else _) _ _ s
 rw [if_neg (by omega)]
 refine wpAny_bind (wpAny_specialOf (r:=some (.builtin "tuple.__getitem__")) ht.typeIs slot_tuple_getitem.lookup ?_)
 rw [if_neg (by simp)]
 refine wpAny_bind (wpAny_mkInt ?_)
 refine wpAny_bind (wpAny_attempt (getItem_tuple (j:=i) (x:=x) ht (by omega) (by omega) ?_ hx ?_))
 · unfold seqIndex?
   simp
   omega
 · refine wpAny_bind (wpAny_field (s:={ s with toks:=s.toks+1 }) hit rfl (x:=rawInt (i:Int)) rfl ?_)
   refine wpAny_bind (wpAny_setField_rec hit (by simp) fun h' y sb=>?_)
   exact wpAny_pure ⟨x,rfl,wpAny_pure (hQ h' y sb)⟩
theorem pK {it t:Addr} {Q:Option Value→Shared→Prop} (hh:A.handled=none) (hit:gW s.heap it t (-1))
  (hQ:∀ h',Heap.ExtBut it s.heap h'→Q none { s with heap:=h' }):wpAny (model prog w) A (pyNext (.ref it)) Q E s:=by
 unfold pyNext
 refine wpAny_bind (wpAny_attempt (wpAny_callSpecial?_slot (name:=Str.ofString "__next__") hit.typeIs dD
  (wpAny_call_entry dD hit.typeIs ii ?_ (jg _))))
 unfold Builtin.«reversed.__next__»
 refine wpAny_bind (wpAny_of_eq (a:=(Value.ref it,[])) rfl ?_)
 try dsimp only
 refine wpAny_bind (wpAny_field hit rfl (x:=.ref t) rfl ?_)
 refine wpAny_bind (wpAny_field hit rfl (x:=rawInt (-1)) rfl ?_)
 show wpAny _ _ (if (-1:Int)<0 then _ else _) _ _ s
 rw [if_pos (by decide)]
 refine wpAny_bind (wpAny_rule ?_)
 refine wpAny_bind (wpAny_bind (wpAny_setField_rec hit (by simp) fun h1 y1 s1=>?_))
 refine wpAny_setField_rec y1 (by simp) fun h2 y2 s2=>?_
 first
 | show wpAny _ _ (newExc (.type "StopIteration") []>>=_) _ _ _
 | (refine wpAny_bind ?_;show wpAny _ _ (newExc (.type "StopIteration") []>>=_) _ _ _)
 refine wpAny_bind ?_
 simp only [newExc,newTuple]
 refine wpAny_bind (wpAny_newObj_type ?_ (by size_fits))
 refine wpAny_bind (m:=firstArgMember _ _) (wpAny_of_eq (a:=Value.none) (by first | rfl | (simp only [firstArgMember];rfl)) ?_)
 refine wpAny_newObj_type ?_ (by size_fits)
 simp only [raiseNew]
 refine wpAny_bind (wpAny_handled ?_)
 first | rw [show A.in1.handled=none from hh] | rw [hh]
 refine wpAny_bind (wpAny_pure (wpAny_throw ?_))
 refine wpAny_bind (wpAny_isInstance (T:= "StopIteration") (b:=true) ⟨_,Heap.get?_push_size _ rfl,rfl⟩ isSubtype_stop ?_)
 have eb:Heap.ExtBut it s.heap h2:=fun c o hc e=>s2.extBut _ _ hc (s1.extBut _ _ hc e)
 exact wpAny_pure (hQ _ ((eb.push _).push _))
theorem oV {it t:Addr} {i:Int} {Q:Value→Shared→Prop} (hit:gW s.heap it t i) (h:Q (.ref it) s):wpAny (model prog w) A (pyIter (.ref it)) Q E s:=by
 refine wpAny_pyIter_slot hit.typeIs jh (wpAny_call_entry jh hit.typeIs mq ?_ (nG _))
 show wpAny _ _ (ret (.ref it)) _ _ s
 exact wpAny_pure ⟨_,rfl, "reversed",_,hit.typeIs,dD.lookup,h⟩
end
end HT
namespace L2
open PySem PySem.Spec PyProof.Rows
def xt (K:W.Frag) (a:Addr) (xs:List V):It:=
 ⟨fun i H=>SqT K H a xs∧i<xs.length,fun i H x H'=>H'=H∧xs.reverse[i]?=some x,fun i _=>xs.length≤i⟩
theorem vf {P:Program} {w:World} {K:W.Frag} {tg:Expr} (a it:Addr) (xs:List V):iQ P w K tg (xt K a xs) [it] it (fun i h=>i≤xs.length∧HT.gW h it a ((xs.length:Int) - 1 - i)) where
 mem:=by simp
 obj:=fun i h st b hb=>by
  have e:b=it:=by simpa using hb
  subst e
  exact ⟨_,st.2,fun v z=>by cases z⟩
 keep:=fun i h h' st k=>⟨st.1,k it (by simp) _ st.2⟩
 item:=by
  intro X hP hw hK hc i pins s σ H E I hf st hg
  subst hP hw hK
  obtain ⟨hq,hi⟩:=hg
  obtain ⟨its,rv,p,hz⟩:=I.tuple hq
  obtain ⟨f0,f1,f2,f3,f4,f5⟩:=hf it (by simp)
  have hl:=rv.length
  obtain ⟨x,hx⟩:∃ x,xs[xs.length - 1 - i]?=some x:=⟨_,List.getElem?_eq_getElem (by omega)⟩
  obtain ⟨u,hu,ru⟩:=rv.get hx
  have hrx:xs.reverse[i]?=some x:=by rw [List.getElem?_reverse hi];exact hx
  have e1:(xs.length:Int) - 1 - i=((xs.length - 1 - i:Nat):Int):=by omega
  have st2:=st.2
  rw [e1] at st2
  refine HT.nJ st2 (show IsTup s.heap a its.toArray from p) (by rw [List.size_toArray];rw [sizeLine_eq] at hz;omega) (x:=u) (by simpa using hu) fun h' st' sb=>?_
  have I1:Inv X pins σ H { s with heap:=h',toks:=s.toks+1 }:=I.turned (t':=s.toks+1) (fun b o hb e=>(sb.2 b hb).trans e) f0 f1 f3 f4 f5
  have e2:((xs.length - 1 - i:Nat):Int) - 1=(xs.length:Int) - 1 - ((i+1:Nat):Int):=by omega
  rw [e2] at st'
  exact ⟨u,rfl,lL (s:={ s with heap:=h',toks:=s.toks+1 }) st' rfl rfl (by decide) ⟨x,H,I1,ru,⟨rfl,hrx⟩,⟨hi,st'⟩,fun b hb=>(hf b hb).1⟩⟩
 done:=by
  intro X hP hw hK hc i pins s σ H E I hf st hg
  subst hP hw hK
  obtain ⟨f0,f1,f2,f3,f4,f5⟩:=hf it (by simp)
  have hi:xs.length≤i:=hg
  have e1:(xs.length:Int) - 1 - i= -1:=by have:=st.1;omega
  have st2:=st.2
  rw [e1] at st2
  exact HT.pK (I.ok.hd hc) st2 fun h' eb=>⟨rfl,I.turned (t':=s.toks) (fun b o hb e=>eb b o hb e) f0 f1 f3 f4 f5⟩
 self:=fun A i s Q E st h=>HT.oV st.2 h
theorem qi:bootBuiltins "reversed" =some (.type "reversed"):=by decide +kernel
section
variable {X:Cx} {a:Expr} {t:TA} {p pos:Pos} {tg:Expr}
def BS (K:W.Frag) (t:TA):TI:=fun σ H R=>t σ H fun vs H1=>∃ c xs,vs=[.ref c]∧SqT K H1 c xs∧R (xt K c xs) H1
theorem Fb (hm:X.mg "reversed" =none) (ha:QA X [a] t) (hg:Gl X "reversed" :=by rfl) (hs:bf [a]=true:=by rfl):QI X tg (.Call (.Name "reversed" p) [a] [] pos) (BS X.K t):=⟨fun pins s σ H R I h=>by
 have h':(bO a&&bf [])=true:=hs
 refine wpAny_Call_Name_kw (iu I hg hm qi ?_ (by decide) (by decide))
 refine PyProof.Rows.callWith_type1 (thn (ha.out pos pins s σ H _ I h) fun us s1 ⟨vs,H1,I1,r1,q1⟩=>?_)
  (bg (Bool.and_eq_true_iff.mp h').1 [] X.env) (bJ (Bool.and_eq_true_iff.mp h').2)
 obtain ⟨c,xs,rfl,hq,q⟩:=q1
 obtain ⟨u,rfl,ru⟩:=dJ r1
 cases ru
 obtain ⟨its,rv,p,hz⟩:=I1.tuple hq
 have hl:=rv.length
 refine HT.ji (show IsTup s1.heap c its.toArray from p) (by rw [List.size_toArray];rw [sizeLine_eq] at hz;omega) ?_
 have st:HT.gW (s1.heap.push (HT.pU c ((its.toArray.size:Int) - 1))) s1.heap.objs.size c ((xs.length:Int) - 1 - ((0:Nat):Int)):=by
  show (s1.heap.push _).get? _=_
  have e:(xs.length:Int) - 1 - ((0:Nat):Int)=(its.toArray.size:Int) - 1:=by rw [List.size_toArray];omega
  rw [e]
  exact Heap.get?_push_size _ rfl
 refine HT.oV (s:={ s1 with heap:=s1.heap.push (HT.pU c ((its.toArray.size:Int) - 1)),toks:=s1.toks+1+1 }) st ?_
 refine ⟨s1.heap.objs.size,[s1.heap.objs.size],_,_,H1,rfl,I1.kept (t':=s1.toks+1+1) fun b o e=>Heap.get?_push_of_some _ e,vf c _ xs,⟨Nat.zero_le _,st⟩,fun b hb=>?_,q⟩
 have e:b=s1.heap.objs.size:=by simpa using hb
 subst e
 exact I1.fpOk (Nat.le_refl _) (I1.hok.fresh (Nat.le_refl _))⟩
theorem eJ.rev {K:W.Frag} {c:Addr} {xs:List V} (d:V):eJ (xt K c xs) xs.length (fun i=>xs.reverse.getD i d) (fun H=>SqT K H c xs) where
 go:=fun i H hi h=>⟨h,hi⟩
 yld:=fun i H x H' hi h y=>⟨y.1,by rw [List.getD_eq_getElem?_getD,y.2];rfl⟩
 stop:=fun H h=>Nat.le_refl _
theorem pV : ∀ {ns : List Int} {its : List Value}, aZ (ns.map V.int) its → PyProof.Rows.IntsAre its ns
  | [], its, h => by cases h; exact .nil
  | n :: r, its, h => by
    cases h with
    | cons h1 h2 =>
      obtain ⟨t, rfl⟩ := h1
      exact .cons _ _ (pV h2)
def Br (K:W.Frag):List V→Hp→VK→Prop:=fun xs H Q=>∃ (a:Addr) (ns:List Int),xs=[.ref a]∧SqL K H a (ns.map V.int)∧Q (.int ns.sum) H
theorem IQ (hc:X.calm=true):bE X (.builtin "sum") (Br X.K):=fun pins s σ H xs us Q I r h=>by
 obtain ⟨a,ns,rfl,hq,q⟩:=h
 obtain ⟨u,rfl,ru⟩:=dJ r
 cases ru
 obtain ⟨its,rv,p,hz⟩:=I.list hq
 have hi:=pV rv
 obtain ⟨ys,hy⟩:=hi.allInts.items
 have hl':s.heap.IsList a (intItems ys):=hy▸gr p
 refine sum_intListG (I.ok.hd hc) hl' fun h' tk t' hk=>?_
 have e1:ns=ys.toList.map (·.1):=by
  rw [← nums_intItems,←hy]
  exact (show numsOf its.toArray.toList=ns from hi.numsOf).symm
 have e2:preSum (numAt ys) ys.size=ns.sum:=by
  rw [preSum_eq,List.take_of_length_le (by simp),e1]
 rw [e2]
 exact ⟨.int ns.sum,H,I.kept (t':=tk) hk,⟨_,rfl⟩,q⟩
theorem ya:OpR X (binaryOp .FloorDiv) (rI (fun _ j=>0<j∧j<1267650600228229401496703205376) fun i j=> .int (i/j)):=opI fun i j _ _ _ _ _ hc q=>by
 have h1:(0:Int)<j:=hc.1
 have h2:j<1267650600228229401496703205376:=hc.2
 have h3:j.natAbs.log2<100:=(Nat.log2_lt (by omega)).mpr (Nat.lt_of_lt_of_eq (m:=1267650600228229401496703205376) (by omega) (by decide))
 exact floordiv_int (by omega) (by rw [Int.fdiv_eq_ediv_of_nonneg i (by omega)];exact q) (.inl (PyProof.noPylong_of_log2 (by omega)))
def cC:R2:=fun x y H Q=>match x,y with | .int i,.int j=>(0<j∧j<1267650600228229401496703205376)∧Q (.int (i/j)) H | _,_=>False
theorem eE:OpR X (binaryOp .FloorDiv) cC:=ya.imp fun x y H Q q=>by
 unfold cC at q
 split at q
 · exact ⟨_,_,rfl,rfl,q.1,q.2⟩
 · exact q.elim
end
end L2
namespace L2
open PySem PySem.Spec PyProof.Rows
section
variable {X:Cx}
end
section
variable {α:Type} {l:List α}
theorem rP (h:l.length=0):l=[]:=List.length_eq_zero_iff.mp h
theorem dA (h : l.length = 1) : ∃ a0, l = [a0] := by
  cases l with
  | nil => simp at h
  | cons a l =>
    obtain rfl := rP (l := l) (by simpa using h)
    exact ⟨a, rfl⟩
theorem sI (h : l.length = 2) : ∃ a0 a1, l = [a0, a1] := by
  cases l with
  | nil => simp at h
  | cons a l =>
    obtain ⟨b0, rfl⟩ := dA (l := l) (by simpa using h)
    exact ⟨a, b0, rfl⟩
theorem yt (h : l.length = 3) : ∃ a0 a1 a2, l = [a0, a1, a2] := by
  cases l with
  | nil => simp at h
  | cons a l =>
    obtain ⟨b0, b1, rfl⟩ := sI (l := l) (by simpa using h)
    exact ⟨a, b0, b1, rfl⟩
theorem yS (h : l.length = 4) : ∃ a0 a1 a2 a3, l = [a0, a1, a2, a3] := by
  cases l with
  | nil => simp at h
  | cons a l =>
    obtain ⟨b0, b1, b2, rfl⟩ := yt (l := l) (by simpa using h)
    exact ⟨a, b0, b1, b2, rfl⟩
theorem yV (h : l.length = 5) : ∃ a0 a1 a2 a3 a4, l = [a0, a1, a2, a3, a4] := by
  cases l with
  | nil => simp at h
  | cons a l =>
    obtain ⟨b0, b1, b2, b3, rfl⟩ := yS (l := l) (by simpa using h)
    exact ⟨a, b0, b1, b2, b3, rfl⟩
theorem Gm (h : l.length = 6) : ∃ a0 a1 a2 a3 a4 a5, l = [a0, a1, a2, a3, a4, a5] := by
  cases l with
  | nil => simp at h
  | cons a l =>
    obtain ⟨b0, b1, b2, b3, b4, rfl⟩ := yV (l := l) (by simpa using h)
    exact ⟨a, b0, b1, b2, b3, b4, rfl⟩
end
end L2
namespace L2
open PySem PySem.Spec PyProof.Rows
section
variable {X:Cx}
end
end L2
namespace L2
open PySem PySem.Spec PyProof.Rows
end L2
namespace L2
open PySem PySem.Spec PyProof.Rows
section
variable {X:Cx} {pos ep px py pz:Pos} {ek:Nat} {x y z:Str} {iter:Expr} {wi:TI} {tS:TS}
end
end L2
namespace L2
open PySem PySem.Spec PyProof.Rows
theorem bj.le {A:Around} {m n:Nat} (h:bj m A) (d:n≤m:=by first | decide | omega):bj n A:=h.mono d
theorem scF {N P:List Str} {sc:Scope} (h1:sc.kind=.function:=by rfl) (h2:sc.isCoroutine=false:=by rfl) (h3:sc.isGenerator=false:=by rfl) (h4:N.Nodup:=by decide +kernel) (h5:N.take P.length=P:=by rfl)
 (h6:∀ x∈P,sc.names.lookup x=some .local∨sc.names.lookup x=some .cell:=by decide +kernel) (h7:∀ y∈sc.names,y.2≠ .free:=by decide +kernel):av N P sc:=⟨h1,h2,h3,h4,h5,h6,h7⟩
structure Fm (K:W.Frag) (mg:Str→Option Value) (x qual:Str) (st:Stmt) (a:Addr) (d:FuncData) (ps:List Str):Prop where
 f:Fun K x qual st a d
 m:mg x=some (.ref a)
 b:be K d ps []
structure Fa (K:W.Frag) (x qual:Str) (st:Stmt) (a:Addr) (d:FuncData):Prop where
 m:W.nsIn K mainGlobals x=some (some (.ref a))
 f:Fun K x qual st a d
section
variable {P:Program} {w:World} {K:W.Frag} {mg:Str→Option Value} {base h:Heap} {x qual:Str} {st:Stmt} {a:Addr} {d:FuncData} {ps:List Str}
theorem bq {oc:Value} {od an:Option Addr} {osl:Array (Option Value)} {kV doc pm cdv ct:Value} (m:W.nsIn K mainGlobals x=some (some (.ref a))) (l:K.lookup a=some ⟨oc,od,.func (W.fnOf x qual (bI st) (aN st) (af st) .none kV doc pm an cdv ct),osl⟩)
 (c:W.codeIn K cdv qual=true) (k:W.keepIn K (.ref a)=true):Fa K x qual st a (W.fnOf x qual (bI st) (aN st) (af st) .none kV doc pm an cdv ct):=⟨m,bD l c k⟩
theorem Fa.code (F:Fa K x qual st a d) (X:K.In h) (G:h.Ns mainGlobals mg) {z t:Addr} (ht:W.tabIn K x=some (z,t)):d.code=.ref z:=by
 obtain ⟨oc,od,kV,doc,pm,an,cdv,ct,osl,e,lk,hcd⟩:=F.f.ex
 exact W.law_code X G ht (W.mg_of X G F.m) (X _ _ lk) rfl
theorem Fun.bt {p:Str} (F:Fun K x qual st a d) (hb:∀ (kV doc pm:Value) (an:Option Addr) (cdv ct v:Value),bindArgs (W.fnOf x qual (bI st) (aN st) (af st) .none kV doc pm an cdv ct) ⟨[v],[]⟩=pure [(p,v)]:=by intros;rfl) (s:Shared) (v:Value):BindsTo s d ⟨[v],[]⟩ [(p,v)]:=by
 obtain ⟨oc,od,kV,doc,pm,an,cdv,ct,osl,rfl,lk,hcd⟩:=F.ex
 exact .of_eq (hb kV doc pm an cdv ct v)
theorem Fun.b0 (F:Fun K x qual st a d) (hb:∀ (kV doc pm:Value) (an:Option Addr) (cdv ct:Value),bindArgs (W.fnOf x qual (bI st) (aN st) (af st) .none kV doc pm an cdv ct) ⟨[],[]⟩=pure (List.zip [] []):=by intros;rfl):be K d [] []:=F.binds fun kV doc pm an cdv ct us hl=>by
 obtain rfl:=L2.rP hl
 exact hb kV doc pm an cdv ct
theorem Fa.fm0 (F:Fa K x qual st a d) (X:K.In h) (G:h.Ns mainGlobals mg) (hb:∀ (kV doc pm:Value) (an:Option Addr) (cdv ct:Value),bindArgs (W.fnOf x qual (bI st) (aN st) (af st) .none kV doc pm an cdv ct) ⟨[],[]⟩=pure (List.zip [] []):=by intros;rfl):Fm K mg x qual st a d []:=⟨F.f,W.mg_of X G F.m,F.f.b0 hb⟩
theorem Fun.b1 {p0:Str} (F:Fun K x qual st a d) (hb:∀ (kV doc pm:Value) (an:Option Addr) (cdv ct u0:Value),bindArgs (W.fnOf x qual (bI st) (aN st) (af st) .none kV doc pm an cdv ct) ⟨[u0],[]⟩=pure (List.zip [p0] [u0]):=by intros;rfl):be K d [p0] []:=F.binds fun kV doc pm an cdv ct us hl=>by
 obtain ⟨u0,rfl⟩:=L2.dA hl
 exact hb kV doc pm an cdv ct u0
theorem Fa.fm1 {p0:Str} (F:Fa K x qual st a d) (X:K.In h) (G:h.Ns mainGlobals mg) (hb:∀ (kV doc pm:Value) (an:Option Addr) (cdv ct u0:Value),bindArgs (W.fnOf x qual (bI st) (aN st) (af st) .none kV doc pm an cdv ct) ⟨[u0],[]⟩=pure (List.zip [p0] [u0]):=by intros;rfl):Fm K mg x qual st a d [p0]:=⟨F.f,W.mg_of X G F.m,F.f.b1 hb⟩
theorem Fun.b2 {p0 p1:Str} (F:Fun K x qual st a d) (hb:∀ (kV doc pm:Value) (an:Option Addr) (cdv ct u0 u1:Value),bindArgs (W.fnOf x qual (bI st) (aN st) (af st) .none kV doc pm an cdv ct) ⟨[u0,u1],[]⟩=pure (List.zip [p0,p1] [u0,u1]):=by intros;rfl):be K d [p0,p1] []:=F.binds fun kV doc pm an cdv ct us hl=>by
 obtain ⟨u0,u1,rfl⟩:=L2.sI hl
 exact hb kV doc pm an cdv ct u0 u1
theorem Fa.fm2 {p0 p1:Str} (F:Fa K x qual st a d) (X:K.In h) (G:h.Ns mainGlobals mg) (hb:∀ (kV doc pm:Value) (an:Option Addr) (cdv ct u0 u1:Value),bindArgs (W.fnOf x qual (bI st) (aN st) (af st) .none kV doc pm an cdv ct) ⟨[u0,u1],[]⟩=pure (List.zip [p0,p1] [u0,u1]):=by intros;rfl):Fm K mg x qual st a d [p0,p1]:=⟨F.f,W.mg_of X G F.m,F.f.b2 hb⟩
theorem Fun.b3 {p0 p1 p2:Str} (F:Fun K x qual st a d) (hb:∀ (kV doc pm:Value) (an:Option Addr) (cdv ct u0 u1 u2:Value),bindArgs (W.fnOf x qual (bI st) (aN st) (af st) .none kV doc pm an cdv ct) ⟨[u0,u1,u2],[]⟩=pure (List.zip [p0,p1,p2] [u0,u1,u2]):=by intros;rfl):be K d [p0,p1,p2] []:=F.binds fun kV doc pm an cdv ct us hl=>by
 obtain ⟨u0,u1,u2,rfl⟩:=L2.yt hl
 exact hb kV doc pm an cdv ct u0 u1 u2
theorem Fa.fm3 {p0 p1 p2:Str} (F:Fa K x qual st a d) (X:K.In h) (G:h.Ns mainGlobals mg) (hb:∀ (kV doc pm:Value) (an:Option Addr) (cdv ct u0 u1 u2:Value),bindArgs (W.fnOf x qual (bI st) (aN st) (af st) .none kV doc pm an cdv ct) ⟨[u0,u1,u2],[]⟩=pure (List.zip [p0,p1,p2] [u0,u1,u2]):=by intros;rfl):Fm K mg x qual st a d [p0,p1,p2]:=⟨F.f,W.mg_of X G F.m,F.f.b3 hb⟩
theorem Fun.b4 {p0 p1 p2 p3:Str} (F:Fun K x qual st a d) (hb:∀ (kV doc pm:Value) (an:Option Addr) (cdv ct u0 u1 u2 u3:Value),bindArgs (W.fnOf x qual (bI st) (aN st) (af st) .none kV doc pm an cdv ct) ⟨[u0,u1,u2,u3],[]⟩=pure (List.zip [p0,p1,p2,p3] [u0,u1,u2,u3]):=by intros;rfl):be K d [p0,p1,p2,p3] []:=F.binds fun kV doc pm an cdv ct us hl=>by
 obtain ⟨u0,u1,u2,u3,rfl⟩:=L2.yS hl
 exact hb kV doc pm an cdv ct u0 u1 u2 u3
theorem Fa.fm4 {p0 p1 p2 p3:Str} (F:Fa K x qual st a d) (X:K.In h) (G:h.Ns mainGlobals mg) (hb:∀ (kV doc pm:Value) (an:Option Addr) (cdv ct u0 u1 u2 u3:Value),bindArgs (W.fnOf x qual (bI st) (aN st) (af st) .none kV doc pm an cdv ct) ⟨[u0,u1,u2,u3],[]⟩=pure (List.zip [p0,p1,p2,p3] [u0,u1,u2,u3]):=by intros;rfl):Fm K mg x qual st a d [p0,p1,p2,p3]:=⟨F.f,W.mg_of X G F.m,F.f.b4 hb⟩
theorem Fun.b5 {p0 p1 p2 p3 p4:Str} (F:Fun K x qual st a d) (hb:∀ (kV doc pm:Value) (an:Option Addr) (cdv ct u0 u1 u2 u3 u4:Value),bindArgs (W.fnOf x qual (bI st) (aN st) (af st) .none kV doc pm an cdv ct) ⟨[u0,u1,u2,u3,u4],[]⟩=pure (List.zip [p0,p1,p2,p3,p4] [u0,u1,u2,u3,u4]):=by intros;rfl):be K d [p0,p1,p2,p3,p4] []:=F.binds fun kV doc pm an cdv ct us hl=>by
 obtain ⟨u0,u1,u2,u3,u4,rfl⟩:=L2.yV hl
 exact hb kV doc pm an cdv ct u0 u1 u2 u3 u4
theorem Fa.fm5 {p0 p1 p2 p3 p4:Str} (F:Fa K x qual st a d) (X:K.In h) (G:h.Ns mainGlobals mg) (hb:∀ (kV doc pm:Value) (an:Option Addr) (cdv ct u0 u1 u2 u3 u4:Value),bindArgs (W.fnOf x qual (bI st) (aN st) (af st) .none kV doc pm an cdv ct) ⟨[u0,u1,u2,u3,u4],[]⟩=pure (List.zip [p0,p1,p2,p3,p4] [u0,u1,u2,u3,u4]):=by intros;rfl):Fm K mg x qual st a d [p0,p1,p2,p3,p4]:=⟨F.f,W.mg_of X G F.m,F.f.b5 hb⟩
theorem Fun.b6 {p0 p1 p2 p3 p4 p5:Str} (F:Fun K x qual st a d) (hb:∀ (kV doc pm:Value) (an:Option Addr) (cdv ct u0 u1 u2 u3 u4 u5:Value),bindArgs (W.fnOf x qual (bI st) (aN st) (af st) .none kV doc pm an cdv ct) ⟨[u0,u1,u2,u3,u4,u5],[]⟩=pure (List.zip [p0,p1,p2,p3,p4,p5] [u0,u1,u2,u3,u4,u5]):=by intros;rfl):be K d [p0,p1,p2,p3,p4,p5] []:=F.binds fun kV doc pm an cdv ct us hl=>by
 obtain ⟨u0,u1,u2,u3,u4,u5,rfl⟩:=L2.Gm hl
 exact hb kV doc pm an cdv ct u0 u1 u2 u3 u4 u5
theorem Fa.fm6 {p0 p1 p2 p3 p4 p5:Str} (F:Fa K x qual st a d) (X:K.In h) (G:h.Ns mainGlobals mg) (hb:∀ (kV doc pm:Value) (an:Option Addr) (cdv ct u0 u1 u2 u3 u4 u5:Value),bindArgs (W.fnOf x qual (bI st) (aN st) (af st) .none kV doc pm an cdv ct) ⟨[u0,u1,u2,u3,u4,u5],[]⟩=pure (List.zip [p0,p1,p2,p3,p4,p5] [u0,u1,u2,u3,u4,u5]):=by intros;rfl):Fm K mg x qual st a d [p0,p1,p2,p3,p4,p5]:=⟨F.f,W.mg_of X G F.m,F.f.b6 hb⟩
theorem Fun.okS {CX:CXT} {N:List Str} {k:Nat} {sp:Sp} {t:TS} (F:Fun K x qual st a d) (S:av N ps (af st)) (len:∀ vs H Q E,sp vs H Q E→vs.length=ps.length)
  (hrd:∀ (vs:List V) (H:Hp) (Q:VK) (E:XK),sp vs H Q E→t { nx:=fun _ H'=>Q .non H',rt:=Q } (cp N vs) H)
  (hq:∀ (cdv:Value) (A:Around) (outer:List Env) (s:Shared) (H:Hp) (E:XK),bj k (A.deeper (envOfC qual (af st) s.heap.objs.size a cdv))→QSs (eM CX P w K mg base N qual (af st) a cdv A outer s H E).nox (aN st) t):aE P w K mg base CX (k+1) a d ps sp:=
 F.okN S len fun cdv A outer s H vs Q E hr h=>⟨t,(hq cdv A outer s H E hr).out,hrd vs H Q E h⟩
end
section
variable {X:Cx} {x q:Str} {e:Expr} {es:List Expr} {t:TA} {p pos:Pos} {st:Stmt} {f:Addr} {fd:FuncData} {ps:List Str} {k:Nat} {sp:Sp}
theorem aO {P:Program} {w:World} (F:aE X.prog X.w X.K X.mg X.base (CX1 P w) k f fd ps sp) (hr:bj k X.A) (M:Fm X.K X.mg x q st f fd ps)
 (ha:QA X (e::es) t) (hg:Gl X x:=by rfl) (hdb:(x==("__debug__" :Str))=false:=by decide) (hs:bf (e::es)=true:=by rfl):QE X (.Call (.Name x p) (e::es) [] pos) (ar sp (fun _=>E0) t):=An F hr M.m M.f.kp M.b aL ha hg hdb hs
end
end L2
namespace L2
open PySem PySem.Spec PyProof.Rows
section
variable {X:Cx}
end
end L2
namespace L2
open PySem PySem.Spec PyProof.Rows
section
variable {K:W.Frag} {mg:Str→Option Value} {h:Heap} {x qual:Str} {st:Stmt} {a:Addr} {d:FuncData}
end
end L2
namespace L2
open PySem PySem.Spec PyProof.Rows
section
variable {X:Cx} {pins:List (Addr×Obj)} {σ:St} {H:Hp} {s:Shared} {A:Around} {E:Value→Shared→Prop} {a C dx:Addr} {fs:List (Str×V)} {v:V}
end
section
variable {X:Cx} {k:Nat} {C:Addr} {E:St→XK} {m:Str} {pos apos:Pos} {e o:Expr} {es:List Expr} {ta:TE} {t:TA}
end
end L2
namespace HT
open PySem PyProof.Rows
section
variable {prog:Program} {w:World} {A:Around} {s:Shared} {R:Result→Shared→Prop}
variable {I:Addr} {fp wr:List Addr} {G:Array GenState→Array GenState→Prop} {n:Nat} {P:Nat→Value→Prop} {St:Nat→Shared→Prop}
end
section
variable {prog:Program} {w:World} {A:Around} {E:Value→Shared→Prop} {s:Shared}
variable {I:Addr} {fp wr:List Addr} {G:Array GenState→Array GenState→Prop} {n:Nat} {P:Nat→Value→Prop} {St:Nat→Shared→Prop}
end
end HT
namespace L2
open PySem PySem.Spec PyProof.Rows
section
variable {X:Cx} {pins:List (Addr×Obj)} {σ:St} {H:Hp} {s:Shared}
end
section
variable {X:Cx} {a:Expr} {t:TA} {p1 p2 pos1 pos2:Pos}
end
end L2
namespace L2
open PySem PySem.Spec PyProof.Rows
section
variable {X:Cx} {tg:Expr}
end
section
variable {X:Cx} {a b:Expr} {t:TA} {p pos ep:Pos} {elts:List Expr} {ek:Nat}
end
end L2
namespace HT
open PySem PyProof.Rows
section
variable {prog:Program} {w:World} {A:Around} {E:Value→Shared→Prop} {s:Shared}
end
section
variable {prog:Program} {w:World} {A:Around} {s:Shared} {R:Result→Shared→Prop} {xs ys:Array Value}
end
end HT
namespace HT
open PySem PyProof.Rows
section
variable {prog:Program} {w:World} {A:Around} {s:Shared} {R:Result→Shared→Prop} {xs ys:Array Value} {z TI TO i1 i2 l t S:Addr}
end
section
variable {prog:Program} {w:World} {A:Around} {E:Value→Shared→Prop} {s:Shared} {xs ys:Array Value} {z TI TO i1 i2 l t:Addr}
end
end HT
namespace L2
open PySem PySem.Spec PyProof.Rows
section
variable {X:Cx} {pins:List (Addr×Obj)} {σ:St} {H:Hp} {s:Shared} {h':Heap}
end
section
variable {X:Cx} {a b:Expr} {t:TA} {p1 p2 pos1 pos2:Pos}
end
section
variable {X:Cx} {a:Expr} {t:TA} {p pos:Pos} {tg:Expr}
end
end L2
namespace HT
open PySem PySem.W PyProof.Rows
section
variable {prog:Program} {w:World} {A:Around} {K:Frag} {C f:Addr} {R:Result→Shared→Prop} {h:Heap} {g:Array GenState} {d:Drawn} {t:Nat} {os:OsState}
end
end HT
namespace HT
open PySem PySem.W PyProof.Rows
open Builtin Builtin.ObjectAttr
section
variable {prog:Program} {w:World} {A:Around} {E:Value→Shared→Prop} {s:Shared} {K:Frag} {x C:Addr} {name:Str} {v:Value}
end
end HT
namespace HT
open PySem PySem.W PyProof.Rows
open Builtin Builtin.ObjectAttr
section
variable {prog:Program} {w:World} {A:Around} {E:Value→Shared→Prop} {h:Heap} {g:Array GenState} {d:Drawn} {t:Nat} {os:OsState} {K:Frag} {a C:Addr} {o:Obj} {od:Option Obj} {name:Str} {v:Value}
end
end HT
namespace L2
open PySem PySem.Spec PyProof.Rows
section
variable {X:Cx} {o value:Expr} {ta tv:TE} {f:Str} {pos pos':Pos} {C:Addr}
end
end L2
namespace HT
open PySem PyProof.Rows
section
variable {M:Model} {A:Around} {E:Value→Shared→Prop} {env:Env} {K:W.Frag} {C:Addr}
end
end HT
namespace L2
open PySem PySem.Spec PyProof.Rows
section
variable {X:Cx} {k:Nat} {f C:Addr} {fd:FuncData} {ps:List Str} {sp:Sp} {E:St→XK} {x:Str} {np cpos pos:Pos} {e:Expr} {es:List Expr} {t:TA}
end
end L2
namespace HT
open PySem PySem.Spec PyProof.Rows
section
variable {prog:Program} {w:World} {A:Around} {E:Value→Shared→Prop} {s:Shared} {I:Addr} {fp wr:List Addr} {G:Array GenState→Array GenState→Prop} {n:Nat} {P:Nat→Value→Prop} {St:Nat→Shared→Prop}
end
end HT
namespace L2
open PySem PySem.Spec PyProof.Rows
section
variable {X:Cx} {pins:List (Addr×Obj)} {σ:St} {H:Hp} {s:Shared}
end
section
variable {X:Cx} {a:Expr} {t:TA} {p1 p2 pos1 pos2:Pos}
end
end L2
namespace HT
open PySem PyProof.Rows
section
variable {prog:Program} {w:World} {A:Around} {E:Value→Shared→Prop} {s:Shared}
end
end HT
namespace L2
open PySem PySem.Spec PyProof.Rows
section
variable {CX:CXT} {P:Program} {w:World} {K:W.Frag} {mg:Str→Option Value} {base:Heap} {k:Nat} {f:Addr} {N ps:List Str} {sp:Sp}
end
section
variable {X:Cx} {k:Nat} {f:Addr} {fd:FuncData} {ps:List Str} {sp:Sp} {x q:Str} {p pos:Pos} {e:Expr} {es:List Expr} {t:TA} {st:Stmt}
end
section
variable {X:Cx} {tg:Expr} {ah:Addr}
variable {x y:Str} {elt a:Expr} {t:TA} {te:TE} {scope:Scope} {ys:List Str} {is:List Nat} {px py p pos pos2 spos:Pos}
end
end L2
namespace L2
open PySem PySem.Spec PyProof.Rows
def gw (L:List (Addr×Sp)) (m:Str) (E:St→XK) (ta:TE) (t:TA):TE:=fun σ H Q=>ta σ H fun x H1=>∃ a C dx fs sp,x=.ref a∧H1 a=some (.ins C dx fs)∧(C,sp)∈L∧fs.lookup m=none∧t σ H1 fun vs H2=>sp (x::vs) H2 Q (E σ)
def MD (X:Cx) (m:Str) (E:St→XK) (p:Addr×Sp):Prop:=∃ CX k f fd ps,Cls X.K p.1∧cH X.K p.1 m f∧aE X.prog X.w X.K X.mg X.base CX k f fd ps p.2∧bj k X.A∧be X.K fd ps []∧dZ CX X E
structure yw (K:W.Frag) (C:Addr) (m:Str) (f:Addr):Prop where
 ga:W.specialIn K (.ref C) "__getattribute__" =some (some (.builtin "type.__getattribute__"))
 rd:W.readsIn K C (.type "type")=true
 at_:W.findCls K (.ref C) (.type "type") m=some (.val (.ref f))
 ho:W.handedIn (.ref f)=true
 kp:W.keepIn K (.ref f)=true
structure jL (K:W.Frag) (C:Addr):Prop where
 cl:W.findIn K (.ref C) "__class__" =some (some (.builtin "object.__class__"))
 gt:W.specialIn K (.builtin "object.__class__") "__get__" =some (some (.builtin "getset_descriptor.__get__"))
 tk:W.takesIn K (.builtin "object.__class__")=some true
 mo:W.mroIn K C (.type "object")=some true
section
variable {X:Cx} {CX:CXT} {k:Nat} {f C:Addr} {fd:FuncData} {ps:List Str} {sp:Sp} {E:St→XK} {x m:Str} {p pos apos:Pos} {e:Expr} {es:List Expr} {t u:TE} {ta:TA}
theorem mdn {L:List (Addr×Sp)} (h:L=[]):∀ p∈L,MD X m E p:=fun p hp=>by subst h;cases hp
theorem mdc {L:List (Addr×Sp)} (c:Cls X.K C) (hm:cH X.K C m f) (F:aE X.prog X.w X.K X.mg X.base CX k f fd ps sp) (hr:bj k X.A) (hb:be X.K fd ps []) (hx:dZ CX X E) (h:∀ p∈L,MD X m E p):∀ p∈(C,sp)::L,MD X m E p:=fun p hp=>by
 rcases List.mem_cons.mp hp with rfl | hp
 · exact ⟨_,_,_,_,_,c,hm,F,hr,hb,hx⟩
 · exact h p hp
theorem gk {L : List (Addr × Sp)} {o : Expr} {to : TE} {pl : Sem Bool} (he : QE X o to) (hL : ∀ p ∈ L, MD X m E p) (ha : QA X (e :: es) ta) (hs : bf (e :: es) = true := by rfl)
  (ht : eval (.Call (.Attribute o m apos) (e :: es) [] pos) X.env = (do
   let ov ← eval o X.env
   standAt apos.atName
   let (f, first) ← holding [ov] (getMethod ov m pl)
   callWith pos f first (backTo pos (starEach (e :: es) X.env)) (backToKw pos (keywordEach [] X.env))) := by rfl) :
  QE X (.Call (.Attribute o m apos) (e :: es) [] pos) (gw L m E to ta) := ⟨fun pins s σ H Q I h => by
 have h' : (bO e && bf es) = true := hs
 refine W.methodCall_KW (pl := pl) (thn (he.out pins s σ H _ I h) fun u s1 ⟨x, H1, I1, rx, a, C, dx, fs, sp, ex, ea, hC, l, q⟩ => ?_) ht
 subst ex
 obtain rfl : u = Value.ref a := rx
 obtain ⟨CX, k, f, fd, ps, c, hm, F, hr, hb, hx⟩ := hL _ hC
 refine iM I1 ea c hm l ?_
 refine W.callWith_K (first := [.ref a]) (h₀ := X.base) I.ok.mod.kin hm.kp (thn (ha.out pos pins s1 σ H1 _ I1 q) fun us s2 ⟨vs, H2, I2, r, q2⟩ => ⟨I2.kIn, ?_⟩)
  (bg (Bool.and_eq_true_iff.mp h').1 es X.env) (bJ (Bool.and_eq_true_iff.mp h').2)
 exact gj (us := .ref a :: us) (vs := .ref a :: vs) F hr hb hx I2 (.cons rfl r) q2⟩
theorem pJ {pl : Sem Bool} (hm : X.mg x = some (.ref C)) (c : yw X.K C m f) (F : aE X.prog X.w X.K X.mg X.base CX k f fd ps sp) (hr : bj k X.A) (hb : be X.K fd ps []) (hx : dZ CX X E) (ha : QA X (e :: es) ta)
  (hg : Gl X x := by rfl) (hd : (x == ("__debug__" : Str)) = false := by decide) (hs : bf (e :: es) = true := by rfl)
  (ht : eval (.Call (.Attribute (.Name x p) m apos) (e :: es) [] pos) X.env = (do
   let ov ← eval (.Name x p) X.env
   standAt apos.atName
   let (f, first) ← holding [ov] (getMethod ov m pl)
   callWith pos f first (backTo pos (starEach (e :: es) X.env)) (backToKw pos (keywordEach [] X.env))) := by rfl) :
  QE X (.Call (.Attribute (.Name x p) m apos) (e :: es) [] pos) (ar sp E ta) := ⟨fun pins s σ H Q I h => by
 have h' : (bO e && bf es) = true := hs
 refine W.methodCall_KW (pl := pl) (thn ((md (v := .ref C) hg hm rfl hd) pins s σ H (fun v H1 => v = .ref C ∧ H1 = H) I ⟨rfl, rfl⟩) fun u s1 ⟨v, H1, I1, rv, ev, eH⟩ => ?_) ht
 subst ev eH
 obtain rfl : u = Value.ref C := rv
 refine W.method_cls I1.kIn c.ga (W.cls_value I1.kIn c.rd c.at_ c.ho ?_)
 refine W.callWith_K (first := []) (h₀ := X.base) I.ok.mod.kin c.kp (thn (ha.out pos pins _ σ H1 _ (I1.tok _) h) fun us s2 ⟨vs, H2, I2, r, q2⟩ => ⟨I2.kIn, ?_⟩)
  (bg (Bool.and_eq_true_iff.mp h').1 es X.env) (bJ (Bool.and_eq_true_iff.mp h').2)
 exact gj F hr hb hx I2 r q2⟩
def sC (K:W.Frag):List V→Hp→VK→Prop:=fun xs H Q=>∃ a C dx fs D b,xs=[.ref a,.ref D]∧H a=some (.ins C dx fs)∧Cls K C∧jL K C∧W.kitOne K (.ref C) (.ref D)=some b∧Q (.bl b) H
theorem yf:bE X (.builtin "isinstance") (sC X.K):=fun pins s σ H xs us Q I r h=>by
 obtain ⟨a,C,dx,fs,D,b,rfl,ha,hC,G,hk,q⟩:=h
 obtain ⟨u,w',rfl,r1,r2⟩:=sV r
 cases (show w'=Value.ref D from r2)
 cases (show u=Value.ref a from r1)
 obtain ⟨mA,O,_,_,_,_⟩:=ix I.hok ha
 obtain ⟨od,IA,_⟩:=O.look
 exact W.kia_one (W.kitx_own (hC.get _) hC.hd G.cl G.gt G.tk G.mo) I.kIn IA hk (fun z=>nomatch z) fun tk=>⟨.bl _,H,I.tok tk,rfl,q⟩
end
end L2
namespace L2
open PySem PySem.Spec PyProof.Rows PySem.W
section
variable {key:Nat→Int} {n:Nat}
variable (inj:∀ i j,i<n→j<n→key i=key j→i=j)
include inj
omit inj in
omit inj in
omit inj in
end
end L2
namespace HT
open PySem PySem.Calls PySem.W PyProof.Rows L2
section
variable {prog:Program} {w:World} {A:Around} {E:Value→Shared→Prop} {s:Shared}
end
end HT
namespace L2
open PySem PySem.Spec PyProof.Rows PySem.W
section
variable {X:Cx} {pins:List (Addr×Obj)} {σ:St} {H:Hp} {s:Shared} {h':Heap} {tk:Nat}
theorem bh.there {P:Program} {w:World} {h:Heap} {a:Addr} {o:HO} (x:bh P w H h a o):∃ q,h.get? a=some q:=by
 cases o with
 | lst xs=>obtain ⟨_,_,_,_,e⟩:=x;exact ⟨_,e⟩
 | tup xs=>obtain ⟨_,_,_,o,e,_⟩:=x;exact ⟨_,e⟩
 | dK kvs=>obtain ⟨_,_,_,_,o,_,_,e,_⟩:=x;exact ⟨_,e⟩
 | dT kvs=>obtain ⟨_,_,_,_,o,_,_,e,_⟩:=x;exact ⟨_,e⟩
 | set S n=>obtain ⟨o,_,_,_,e,_⟩:=x;exact ⟨_,e⟩
 | ins C dx fs=>obtain ⟨_,_,_,e,_⟩:=x;exact ⟨_,e⟩
 | own y=>exact x
 | xd fs=>obtain ⟨_,⟨_,_,_,e,_⟩,_⟩:=x;exact ⟨_,e⟩
 | rng lo hi=>obtain ⟨_,_,_,e⟩:=x;exact ⟨_,e⟩
 | frz ob u=>exact ⟨_,x.1⟩
 | tbl ps=>exact ⟨_,x⟩
 | met f y=>exact ⟨_,x⟩
 | ext φ=>exact x.2.1
def New (h:Heap) (a:Addr):Prop:=∀ b u,h.get? b=some u→b≠a
theorem New.free {a:Addr} (n:New s.heap a) (I:Inv X pins σ H s):H a=none:=by
 cases e:H a with
 | none=>rfl
 | some o=>obtain ⟨q,z⟩:=(I.hok a o e).there;exact absurd rfl (n a q z)
theorem Inv.track3 {a:Addr} {o:HO} {H1:Hp} {s0:Shared} (I0:Inv X pins σ H1 s0) (I:Inv X pins σ H s) (ne:New s0.heap a) (hn:H a=none) (ok:bh X.prog X.w (upd H a o) s.heap a o):Inv X pins σ (upd H a o) s:=by
 have nL:X.env.locals≠a:=let ⟨m,⟨o',_,_,e,_⟩,_⟩:=I0.loc;ne _ _ e
 refine ⟨I.ok,I.os,I.bare,⟨I.base.keep,I.base.slot,fun b u e n hx=>?_,I.base.there,fun b xs e=>?_,fun b u v e=>?_,fun b ps e=>?_⟩,I.loc,I.cell,?_,fun x c e=>?_,fun p hp=>?_,fun b u e=>?_,I.len⟩
 · obtain ⟨o',e'⟩:=I0.base.there b u e hx
   rw [ao (ne b o' e')];exact I.base.free b u e n hx
 · have:=I.base.tups b xs e
   rw [ao (ax this hn)];exact this
 · have:=I.base.frzs b u v e
   rw [ao (ax this hn)];exact this
 · obtain ⟨more,this⟩:=I.base.tbls b ps e
   exact ⟨more,by rw [ao (ax this hn)];exact this⟩
 · rw [ao nL];exact I.free
 · obtain ⟨v,o',e',_⟩:=I0.cell x c e
   rw [ao (ne _ _ e')];exact I.freeC x c e
 · obtain ⟨h1,h2,h3⟩:=I.pin p hp
   exact ⟨h1,by rw [ao (ne _ _ (I0.pin p hp).1)];exact h2,h3⟩
 · by_cases hb:b=a
   · subst hb
     rw [ak] at e;cases e
     exact ok
   · rw [ao hb] at e
     have nt:∀ c q,H c=some q→upd H a o c=some q:=fun c q z=>by rw [ao (ax z hn)];exact z
     exact (I.hok b u e).stay (fun c v _ q=>q) (fun c q=>nt _ _ q) fun c xs q=>nt _ _ q
def iG (rs:List (Int×V)):List (Key×V):=rs.map fun r=>(.inl r.1,r.2)
theorem Av {P:Program} {w:World} {i:Int} {v:Value} (h:(bH P w).is (.inl i) v=true):∃ t,v=Value.int i t:=by
 rcases cf (k:=.inl i) (v:=v) h with ⟨j,t,e,rfl⟩ | ⟨x,t,e,_⟩
 · cases e;exact ⟨t,rfl⟩
 · cases e
theorem Hg {rs : List (Int × V)} {vs : List (Key × Value)} (r : KV (iG rs) vs) {j : Nat} {k : Key} {x : Value} (e : vs[j]? = some (k, x)) : ∃ q, rs[j]? = some q ∧ k = .inl q.1 ∧ aJ q.2 x := by
  unfold KV iG at r
  induction rs generalizing vs j with
  | nil => cases r; simp at e
  | cons q rs ih =>
    cases r with
    | cons h t =>
      cases j with
      | zero => cases e; exact ⟨q, rfl, h.1.symm, h.2⟩
      | succ j => exact ih t (by simpa using e)
theorem AZ {rs:List (Int×V)} {vs:List (Key×Value)} (r:KV (iG rs) vs):vs.length=rs.length:=by
 rw [← r.length];unfold iG;rw [List.length_map]
def sK (K:W.Frag):List V→Hp→VK→Prop:=fun xs H Q=>∃ a kvs,xs=[.ref a]∧H a=some (.dK kvs)∧∀ p,H p=none→Q (.ref p) (upd H p (.dK kvs))
theorem Fl:bE X (.type "dict") (sK X.K):=fun pins s σ H xs us Q I r h=>by
 obtain ⟨a,kvs,rfl,ha,q⟩:=h
 obtain ⟨u,rfl,ru⟩:=dJ r
 cases (show u=Value.ref a from ru)
 exact xH I (.inl ha) fun p s' hp I'=>⟨.ref p,_,I',rfl,q p hp⟩
def nM:V→List V→Hp→VK→Prop:=fun x vs H Q=>∃ a y o,x=.ref a∧vs=[y]∧dG H a y o∧Q (o.getD .non) H
theorem qq (hu:X.A.units+1<cLine):MtR X "dict.get" nM:=by
 intro pins s σ H x vs v us Q I rx rv h
 obtain ⟨a,y,o,rfl,rfl,g,q⟩:=h
 obtain rfl:v=Value.ref a:=rx
 obtain ⟨uy,rfl,ry⟩:=rv.one
 exact Ca hu I g ry fun w' s' I' r'=>⟨_,H,I',r',q⟩
def yn:V→List V→Hp→VK→Prop:=fun x vs H Q=>∃ a kvs k v,x=.ref a∧vs=[kV k]∧H a=some (.dK kvs)∧bK kvs k=some v∧Q v (upd H a (.dK (jc kvs k)))
theorem zQ:MtR X "dict.pop" yn:=by
 intro pins s σ H x vs v us Q I rx rv h
 obtain ⟨a,kvs,k,v',rfl,rfl,ha,l,q⟩:=h
 obtain rfl:v=Value.ref a:=rx
 obtain ⟨uy,rfl,ry⟩:=rv.one
 exact Ga (more:=[]) I ha ry l (.inl rfl) fun w' s' I' r'=>⟨_,_,I',r',q⟩
end
end L2
namespace Rs
def mR (b x y c:Nat):Prop:=c≤b∧x/2^(b - c)=y/2^(b - c)∧(c=b∨x/2^(b - (c+1))≠y/2^(b - (c+1)))
abbrev st (B k d:Nat):Nat:=k/2^(B - d)
abbrev sd (B k d:Nat):Nat:=k/2^(B - 1 - d)%2
inductive Kn (α:Type) where
 | bare
 | leaf (k:Nat) (t:α)
 | fork (d b:Nat) (l r:Kn α)
section
variable {α:Type}
def aB:Kn α→List (Nat×α)
 | .bare=>[]
 | .leaf k t=>[(k,t)]
 | .fork _ _ l r=>aB l++aB r
def aA (B key:Nat):Kn α→Option α
 | .bare=>none
 | .leaf k t=>if key=k then some t else none
 | .fork d _ l r=>if sd B key d=0 then aA B key l else aA B key r
def WF (B:Nat):Nat→Nat→Kn α→Prop
 | _,_,.bare=>False
 | d0,b0,.leaf k _=>k<2^B∧st B k d0=b0
 | d0,b0,.fork d b l r=>d0≤d∧d<B∧b/2^(d - d0)=b0∧WF B (d+1) (2*b) l∧WF B (d+1) (2*b+1) r
theorem bX {B k d:Nat} (h:d<B):st B k (d+1)=2*st B k d+sd B k d:=by
 have e:B - d=(B - (d+1))+1:=by omega
 have e2:B - 1 - d=B - (d+1):=by omega
 unfold st sd
 rw [e,e2,Nat.pow_succ,←Nat.div_div_eq_div_mul]
 omega
theorem eI {B k d:Nat}:sd B k d<2:=Nat.mod_lt _ (by decide)
theorem jV {B k d e:Nat} (h1:d≤e) (h2:e≤B):st B k d=st B k e/2^(e - d):=by
 unfold st
 rw [Nat.div_div_eq_div_mul,←Nat.pow_add]
 congr 2
 omega
theorem WF.mem {B : Nat} : ∀ {t : Kn α} {d0 b0 : Nat}, d0 ≤ B → WF B d0 b0 t → ∀ p ∈ aB t, p.1 < 2 ^ B ∧ st B p.1 d0 = b0
  | .bare, _, _, _, h, _, _ => h.elim
  | .leaf k t, _, _, _, h, p, hp => by rw [List.mem_singleton.mp hp]; exact h
  | .fork d b l r, d0, b0, _, ⟨h1, h2, h3, hl, hr⟩, p, hp => by
    have key : p.1 < 2 ^ B ∧ st B p.1 d = b := by
      rcases List.mem_append.mp hp with z | z
      · obtain ⟨a, c⟩ := hl.mem (by omega) p z
        rw [bX h2] at c
        have := @eI B p.1 d
        exact ⟨a, by omega⟩
      · obtain ⟨a, c⟩ := hr.mem (by omega) p z
        rw [bX h2] at c
        have := @eI B p.1 d
        exact ⟨a, by omega⟩
    exact ⟨key.1, by rw [jV h1 (by omega), key.2]; exact h3⟩
theorem WF.left {B d0 b0 d b:Nat} {l r:Kn α} (h:WF B d0 b0 (.fork d b l r)):∀ p∈aB l,st B p.1 d=b∧sd B p.1 d=0:=fun p hp=>by
 obtain ⟨h1,h2,h3,hl,hr⟩:=h
 have c:=(hl.mem (by omega) p hp).2
 rw [bX h2] at c
 have:=@eI B p.1 d
 omega
theorem WF.right {B d0 b0 d b:Nat} {l r:Kn α} (h:WF B d0 b0 (.fork d b l r)):∀ p∈aB r,st B p.1 d=b∧sd B p.1 d=1:=fun p hp=>by
 obtain ⟨h1,h2,h3,hl,hr⟩:=h
 have c:=(hr.mem (by omega) p hp).2
 rw [bX h2] at c
 have:=@eI B p.1 d
 omega
theorem WF.ne {B d0 b0 : Nat} : ∀ {t : Kn α} {d0 b0 : Nat}, WF B d0 b0 t → ∃ p, p ∈ aB t
  | .bare, _, _, h => h.elim
  | .leaf k t, _, _, _ => ⟨(k, t), List.mem_singleton.mpr rfl⟩
  | .fork d b l r, _, _, ⟨_, _, _, hl, _⟩ => by
    obtain ⟨p, hp⟩ := WF.ne (d0 := d0) (b0 := b0) hl
    exact ⟨p, List.mem_append_left _ hp⟩
def iq (l:List (Nat×α)):Prop:=l.Pairwise fun p q=>p.1<q.1
theorem WF.up {B : Nat} : ∀ {t : Kn α} {d0 b0 : Nat}, WF B d0 b0 t → iq (aB t)
  | .bare, _, _, h => h.elim
  | .leaf k t, _, _, _ => List.pairwise_singleton _ _
  | .fork d b l r, d0, b0, h => by
    have hf := h
    obtain ⟨h1, h2, h3, hl, hr⟩ := h
    refine List.pairwise_append.mpr ⟨hl.up, hr.up, fun p hp q hq => ?_⟩
    have e1 := (hl.mem (by omega) p hp).2
    have e2 := (hr.mem (by omega) q hq).2
    unfold st at e1 e2
    apply Classical.byContradiction
    intro hn
    have := Nat.div_le_div_right (c := 2 ^ (B - (d + 1))) (show q.1 ≤ p.1 by omega)
    omega
def look (key:Nat):List (Nat×α)→Option α
 | []=>none
 | (k,t)::r=>if key=k then some t else look key r
theorem kC (key : Nat) (l m : List (Nat × α)) : look key (l ++ m) = (look key l).or (look key m) := by
  induction l with
  | nil => rfl
  | cons p r ih =>
    show (if key = p.1 then some p.2 else look key (r ++ m)) = (if key = p.1 then some p.2 else look key r).or (look key m)
    split
    · rfl
    · exact ih
theorem cJ {key : Nat} {l : List (Nat × α)} (h : ∀ p ∈ l, p.1 ≠ key) : look key l = none := by
  induction l with
  | nil => rfl
  | cons p r ih =>
    show (if key = p.1 then some p.2 else look key r) = none
    rw [if_neg fun e => h p List.mem_cons_self e.symm]
    exact ih fun q hq => h q (List.mem_cons_of_mem _ hq)
theorem bZ {B key : Nat} : ∀ {t : Kn α} {d0 b0 : Nat}, WF B d0 b0 t → aA B key t = look key (aB t)
  | .bare, _, _, h => h.elim
  | .leaf k t, _, _, _ => rfl
  | .fork d b l r, d0, b0, h => by
    have hf := h
    obtain ⟨h1, h2, h3, hl, hr⟩ := h
    show (if sd B key d = 0 then aA B key l else aA B key r) = look key (aB l ++ aB r)
    rw [kC]
    by_cases e : sd B key d = 0
    · rw [if_pos e, bZ hl, cJ (l := aB r) fun p hp z => by
        have := (hf.right p hp).2
        rw [z] at this; omega]
      cases look key (aB l) <;> rfl
    · rw [if_neg e, bZ hr, cJ (l := aB l) fun p hp z => by
        have := (hf.left p hp).2
        rw [z] at this; omega]
      rfl
def alN (B x y:Nat):Nat→Nat
 | 0=>0
 | c+1=>if x/2^(B - (c+1))=y/2^(B - (c+1)) then c+1 else alN B x y c
theorem uf {B x y : Nat} (hx : x < 2 ^ B) (hy : y < 2 ^ B) : ∀ n, n ≤ B → alN B x y n ≤ n ∧ x / 2 ^ (B - alN B x y n) = y / 2 ^ (B - alN B x y n) ∧ (alN B x y n = n ∨ x / 2 ^ (B - (alN B x y n + 1)) ≠ y / 2 ^ (B - (alN B x y n + 1)))
  | 0, _ => ⟨Nat.le_refl _, by show x / 2 ^ B = y / 2 ^ B; rw [Nat.div_eq_of_lt hx, Nat.div_eq_of_lt hy], .inl rfl⟩
  | c + 1, hn => by
    unfold alN
    split
    · rename_i e; exact ⟨Nat.le_refl _, e, .inl rfl⟩
    · rename_i e
      obtain ⟨a1, a2, a3⟩ := uf hx hy c (by omega)
      refine ⟨by omega, a2, .inr ?_⟩
      rcases a3 with z | z
      · rw [z]; exact e
      · exact z
def al (B x y:Nat):Nat:=alN B x y B
theorem jm {B x y:Nat} (hx:x<2^B) (hy:y<2^B):mR B x y (al B x y):=uf hx hy B (Nat.le_refl _)
theorem ou {B x y:Nat} (hx:x<2^B) (hy:y<2^B) (ne:x≠y):al B x y<B∧st B x (al B x y)=st B y (al B x y)∧sd B x (al B x y)≠sd B y (al B x y):=by
 obtain ⟨a1,a2,a3⟩:=jm hx hy
 have lt:al B x y<B:=by
   rcases Nat.lt_or_ge (al B x y) B with h | h
   · exact h
   · exfalso
     have e:al B x y=B:=by omega
     rw [e,Nat.sub_self,Nat.pow_zero,Nat.div_one,Nat.div_one] at a2
     exact ne a2
 refine ⟨lt,a2,fun z=>?_⟩
 rcases a3 with h | h
 · omega
 · apply h
   have e1:=@bX B x _ lt
   have e2:=@bX B y _ lt
   show st B x (al B x y+1)=st B y (al B x y+1)
   have a2':st B x (al B x y)=st B y (al B x y):=a2
   rw [e1,e2,a2',z]
theorem oS {B x y d e:Nat} (h1:d≤e) (h2:e≤B) (h:st B x e=st B y e):st B x d=st B y d:=by rw [jV h1 h2,jV h1 h2,h]
def dI (B d key:Nat) (x:α) (t:Kn α):Kn α:=if sd B key d=0 then .fork d (st B key d) (.leaf key x) t else .fork d (st B key d) t (.leaf key x)
def bR (B key : Nat) (x : α) : Kn α → Kn α
  | .bare => .leaf key x
  | .leaf k t => if key = k then .leaf key x else dI B (al B key k) key x (.leaf k t)
  | .fork d b l r => if st B key d = b then (if sd B key d = 0 then .fork d b (bR B key x l) r else .fork d b l (bR B key x r))
    else dI B (al d b (st B key d)) key x (.fork d b l r)
theorem WF.lift {B d0 b0 d b : Nat} : ∀ {t : Kn α}, WF B d0 b0 t → (∀ p ∈ aB t, st B p.1 d = b) → d ≤ B → d0 ≤ B → (∀ e b' l r, t = .fork e b' l r → d ≤ e) → WF B d b t
  | .bare, h, _, _, _, _ => h.elim
  | .leaf k t, h, hs, _, _, _ => ⟨h.1, hs (k, t) (List.mem_singleton.mpr rfl)⟩
  | .fork e b' l r, h, hs, hd, _, he => by
    have hf := h
    obtain ⟨h1, h2, h3, hl, hr⟩ := h
    have hde := he e b' l r rfl
    refine ⟨hde, h2, ?_, hl, hr⟩
    obtain ⟨p, hp⟩ := WF.ne (d0 := 0) (b0 := 0) hl
    have := hs p (List.mem_append_left _ hp)
    rw [jV hde (by omega), (hf.left p hp).1] at this
    exact this
theorem pA {B d0 b0 d key:Nat} {x:α} {t:Kn α} (h:WF B d0 b0 t) (hk:key<2^B) (hd:d<B) (h0:d0≤d) (hkb:st B key d0=b0) (hs:∀ p∈aB t,st B p.1 d=st B key d∧sd B p.1 d≠sd B key d)
   (he:∀ e b' l r,t=.fork e b' l r→d<e):WF B d0 b0 (dI B d key x t)∧∀ k,aA B k (dI B d key x t)=if k=key then some x else aA B k t:=by
 have lt:=@eI B key d
 have up:∀ p∈aB t,st B p.1 (d+1)=2*st B key d+(1 - sd B key d):=fun p hp=>by
   obtain ⟨a,c⟩:=hs p hp
   have:=@eI B p.1 d
   rw [bX hd,a]
   omega
 have wt:WF B (d+1) (2*st B key d+(1 - sd B key d)) t:=h.lift up hd (by omega) fun e b' l r z=>he e b' l r z
 have wk:WF B (d+1) (2*st B key d+sd B key d) (Kn.leaf key x):=⟨hk,bX hd⟩
 have pre:st B key d/2^(d - d0)=b0:=by rw [← jV h0 (by omega)];exact hkb
 unfold dI
 by_cases e:sd B key d=0
 · rw [if_pos e]
   rw [e] at wt wk
   refine ⟨⟨h0,hd,pre,wk,wt⟩,fun k=>?_⟩
   show (if sd B k d=0 then (if k=key then some x else none) else aA B k t)=_
   by_cases ek:k=key
   · subst ek;rw [if_pos e,if_pos rfl,if_pos rfl]
   · rw [if_neg ek,if_neg ek]
     by_cases e2:sd B k d=0
     · rw [if_pos e2,bZ h,cJ fun p hp z=>?_]
       have:=(hs p hp).2
       rw [z] at this;omega
     · rw [if_neg e2]
 · rw [if_neg e]
   have e1:sd B key d=1:=by omega
   rw [e1] at wt wk
   refine ⟨⟨h0,hd,pre,wt,wk⟩,fun k=>?_⟩
   show (if sd B k d=0 then aA B k t else (if k=key then some x else none))=_
   by_cases ek:k=key
   · subst ek;rw [if_neg e,if_pos rfl,if_pos rfl]
   · rw [if_neg ek,if_neg ek]
     by_cases e2:sd B k d=0
     · rw [if_pos e2]
     · rw [if_neg e2,bZ h,cJ fun p hp z=>?_]
       have w:=(hs p hp).2
       have:=@eI B k d
       rw [z] at w;omega
theorem kE {B key : Nat} {x : α} (hk : key < 2 ^ B) : ∀ {t : Kn α} {d0 b0 : Nat}, d0 ≤ B → WF B d0 b0 t → st B key d0 = b0 → WF B d0 b0 (bR B key x t) ∧ ∀ k, aA B k (bR B key x t) = if k = key then some x else aA B k t
  | .bare, _, _, _, h, _ => h.elim
  | .leaf k t, d0, b0, h0, h, hb => by
    unfold bR
    by_cases e : key = k
    · subst e
      rw [if_pos rfl]
      refine ⟨h, fun k' => ?_⟩
      show (if k' = key then some x else none) = if k' = key then some x else (if k' = key then some t else none)
      by_cases e : k' = key
      · rw [if_pos e, if_pos e]
      · rw [if_neg e, if_neg e, if_neg e]
    · rw [if_neg e]
      obtain ⟨a1, a2, a3⟩ := ou hk h.1 e
      refine pA h hk a1 ?_ hb (fun p hp => ?_) fun _ _ _ _ z => nomatch z
      · apply Classical.byContradiction
        intro hn
        apply a3
        have q : st B key (al B key k + 1) = st B k (al B key k + 1) := oS (by omega) h0 (by rw [hb, h.2])
        rw [bX a1, bX a1] at q
        omega
      · rw [List.mem_singleton.mp hp]
        exact ⟨a2.symm, Ne.symm a3⟩
  | .fork d b l r, d0, b0, h0, h, hb => by
    have hf := h
    obtain ⟨h1, h2, h3, hl, hr⟩ := h
    unfold bR
    by_cases e : st B key d = b
    · rw [if_pos e]
      by_cases e2 : sd B key d = 0
      · rw [if_pos e2]
        obtain ⟨w, f⟩ := kE (x := x) hk (by omega) hl (by rw [bX h2, e, e2]; rfl)
        refine ⟨⟨h1, h2, h3, w, hr⟩, fun k => ?_⟩
        show (if sd B k d = 0 then aA B k (bR B key x l) else aA B k r) = if k = key then some x else (if sd B k d = 0 then aA B k l else aA B k r)
        rw [f k]
        by_cases ek : k = key
        · subst ek; rw [if_pos e2, if_pos rfl, if_pos rfl]
        · rw [if_neg ek, if_neg ek]
      · rw [if_neg e2]
        have lt := @eI B key d
        obtain ⟨w, f⟩ := kE (x := x) hk (by omega) hr (by rw [bX h2, e]; omega)
        refine ⟨⟨h1, h2, h3, hl, w⟩, fun k => ?_⟩
        show (if sd B k d = 0 then aA B k l else aA B k (bR B key x r)) = if k = key then some x else (if sd B k d = 0 then aA B k l else aA B k r)
        rw [f k]
        by_cases ek : k = key
        · subst ek; rw [if_neg e2, if_pos rfl, if_pos rfl]
        · rw [if_neg ek, if_neg ek]
    · rw [if_neg e]
      have all : ∀ p ∈ aB (Kn.fork d b l r), st B p.1 d = b ∧ p.1 < 2 ^ B := fun p hp => ⟨(List.mem_append.mp hp).elim (fun z => (hf.left p z).1) fun z => (hf.right p z).1, (hf.mem h0 p hp).1⟩
      obtain ⟨p0, hp0⟩ := WF.ne (d0 := 0) (b0 := 0) hf
      have stlt : ∀ k, k < 2 ^ B → st B k d < 2 ^ d := fun k hk => by
        unfold st
        rw [Nat.div_lt_iff_lt_mul (Nat.two_pow_pos _), ← Nat.pow_add, show d + (B - d) = B by omega]
        exact hk
      have hbl : b < 2 ^ d := by rw [← (all p0 hp0).1]; exact stlt _ (all p0 hp0).2
      obtain ⟨a1, a2, a3⟩ := ou hbl (stlt key hk) (Ne.symm e)
      generalize al d b (st B key d) = a at a1 a2 a3 ⊢
      have pp : ∀ k, st d (st B k d) a = st B k a := fun k => by
        unfold st
        rw [Nat.div_div_eq_div_mul, ← Nat.pow_add, show B - d + (d - a) = B - a by omega]
      have ps : ∀ k, sd d (st B k d) a = sd B k a := fun k => by
        unfold sd st
        rw [Nat.div_div_eq_div_mul, ← Nat.pow_add, show B - d + (d - 1 - a) = B - 1 - a by omega]
      have ea : ∀ p ∈ aB (Kn.fork d b l r), st B p.1 a = st B key a ∧ sd B p.1 a ≠ sd B key a := fun p hp => by
        have q := (all p hp).1
        rw [← pp p.1, ← pp key, ← ps p.1, ← ps key, q]
        exact ⟨a2, a3⟩
      refine pA hf hk (by omega) ?_ hb ea fun e' _ _ _ z => by cases z; exact a1
      apply Classical.byContradiction
      intro hn
      apply (ea p0 hp0).2
      have q : st B p0.1 (a + 1) = st B key (a + 1) := oS (by omega) h0 (by rw [hb, (hf.mem h0 p0 hp0).2])
      rw [bX (by omega), bX (by omega), (ea p0 hp0).1] at q
      omega
def aI (B key:Nat):Kn α→Kn α
 | .bare=> .bare
 | .leaf k t=>if key=k then .bare else .leaf k t
 | .fork d b l r=>if sd B key d=0 then (match aI B key l with | .bare=>r | u=> .fork d b u r) else (match aI B key r with | .bare=>l | u=> .fork d b l u)
theorem ia {B key : Nat} : ∀ {t : Kn α} {d0 b0 : Nat}, d0 ≤ B → WF B d0 b0 t → (aI B key t = .bare ∨ WF B d0 b0 (aI B key t)) ∧ ∀ k, aA B k (aI B key t) = if k = key then none else aA B k t
  | .bare, _, _, _, h => h.elim
  | .leaf k t, d0, b0, h0, h => by
    unfold aI
    by_cases e : key = k
    · subst e
      rw [if_pos rfl]
      refine ⟨.inl rfl, fun k' => ?_⟩
      show none = if k' = key then none else (if k' = key then some t else none)
      by_cases e : k' = key
      · rw [if_pos e]
      · rw [if_neg e, if_neg e]
    · rw [if_neg e]
      refine ⟨.inr h, fun k' => ?_⟩
      show (if k' = k then some t else none) = if k' = key then none else (if k' = k then some t else none)
      by_cases e' : k' = key
      · rw [if_pos e', if_neg fun z => e (e'.symm.trans z)]
      · rw [if_neg e']
  | .fork d b l r, d0, b0, h0, h => by
    have hf := h
    obtain ⟨h1, h2, h3, hl, hr⟩ := h
    have one : ∀ {u : Kn α}, WF B (d + 1) (2 * b) u ∨ WF B (d + 1) (2 * b + 1) u → WF B d0 b0 u := fun {u} hu => by
      have hm : ∀ p ∈ aB u, st B p.1 d = b := fun p hp => by
        rcases hu with hu | hu
        · have c := (hu.mem (by omega) p hp).2
          rw [bX h2] at c
          have := @eI B p.1 d
          omega
        · have c := (hu.mem (by omega) p hp).2
          rw [bX h2] at c
          have := @eI B p.1 d
          omega
      have hm0 : ∀ p ∈ aB u, st B p.1 d0 = b0 := fun p hp => by rw [jV h1 (by omega), hm p hp]; exact h3
      rcases hu with hu | hu
      · exact hu.lift hm0 h0 (by omega) fun e b' l' r' z => by subst z; have := hu.1; omega
      · exact hu.lift hm0 h0 (by omega) fun e b' l' r' z => by subst z; have := hu.1; omega
    unfold aI
    by_cases e : sd B key d = 0
    · rw [if_pos e]
      obtain ⟨w, f⟩ := ia (key := key) (by omega) hl
      cases q : aI B key l with
      | bare =>
        rw [q] at f
        refine ⟨.inr (one (.inr hr)), fun k => ?_⟩
        show aA B k r = if k = key then none else (if sd B k d = 0 then aA B k l else aA B k r)
        have fk : none = if k = key then none else aA B k l := f k
        by_cases ek : k = key
        · subst ek
          rw [if_pos rfl, bZ hr, cJ fun p hp z => ?_]
          have := (hf.right p hp).2
          rw [z] at this; omega
        · rw [if_neg ek] at fk ⊢
          by_cases e2 : sd B k d = 0
          · rw [if_pos e2, ← fk, bZ hr, cJ fun p hp z => ?_]
            have := (hf.right p hp).2
            rw [z] at this; omega
          · rw [if_neg e2]
      | leaf k' t' =>
        rw [q] at w f
        have w' := w.resolve_left (by intro z; cases z)
        refine ⟨.inr ⟨h1, h2, h3, w', hr⟩, fun k => ?_⟩
        show (if sd B k d = 0 then aA B k (.leaf k' t') else aA B k r) = _
        rw [f k]
        show _ = if k = key then none else (if sd B k d = 0 then aA B k l else aA B k r)
        by_cases ek : k = key
        · subst ek; rw [if_pos e, if_pos rfl, if_pos rfl]
        · rw [if_neg ek, if_neg ek]
      | fork d' b' l' r' =>
        rw [q] at w f
        have w' := w.resolve_left (by intro z; cases z)
        refine ⟨.inr ⟨h1, h2, h3, w', hr⟩, fun k => ?_⟩
        show (if sd B k d = 0 then aA B k (.fork d' b' l' r') else aA B k r) = _
        rw [f k]
        show _ = if k = key then none else (if sd B k d = 0 then aA B k l else aA B k r)
        by_cases ek : k = key
        · subst ek; rw [if_pos e, if_pos rfl, if_pos rfl]
        · rw [if_neg ek, if_neg ek]
    · rw [if_neg e]
      have e1 : sd B key d = 1 := by have := @eI B key d; omega
      obtain ⟨w, f⟩ := ia (key := key) (by omega) hr
      cases q : aI B key r with
      | bare =>
        rw [q] at f
        refine ⟨.inr (one (.inl hl)), fun k => ?_⟩
        show aA B k l = if k = key then none else (if sd B k d = 0 then aA B k l else aA B k r)
        have fk : none = if k = key then none else aA B k r := f k
        by_cases ek : k = key
        · subst ek
          rw [if_pos rfl, bZ hl, cJ fun p hp z => ?_]
          have := (hf.left p hp).2
          rw [z] at this; omega
        · rw [if_neg ek] at fk ⊢
          by_cases e2 : sd B k d = 0
          · rw [if_pos e2]
          · rw [if_neg e2, ← fk, bZ hl, cJ fun p hp z => ?_]
            have := (hf.left p hp).2
            rw [z] at this; omega
      | leaf k' t' =>
        rw [q] at w f
        have w' := w.resolve_left (by intro z; cases z)
        refine ⟨.inr ⟨h1, h2, h3, hl, w'⟩, fun k => ?_⟩
        show (if sd B k d = 0 then aA B k l else aA B k (.leaf k' t')) = _
        rw [f k]
        show _ = if k = key then none else (if sd B k d = 0 then aA B k l else aA B k r)
        by_cases ek : k = key
        · subst ek; rw [if_neg e, if_pos rfl, if_pos rfl]
        · rw [if_neg ek, if_neg ek]
      | fork d' b' l' r' =>
        rw [q] at w f
        have w' := w.resolve_left (by intro z; cases z)
        refine ⟨.inr ⟨h1, h2, h3, hl, w'⟩, fun k => ?_⟩
        show (if sd B k d = 0 then aA B k l else aA B k (.fork d' b' l' r')) = _
        rw [f k]
        show _ = if k = key then none else (if sd B k d = 0 then aA B k l else aA B k r)
        by_cases ek : k = key
        · subst ek; rw [if_neg e, if_pos rfl, if_pos rfl]
        · rw [if_neg ek, if_neg ek]
theorem uE : ∀ {l m : List (Nat × α)}, iq l → iq m → (∀ k, look k l = look k m) → l = m
  | [], [], _, _, _ => rfl
  | [], q :: m, _, _, h => by
    have := h q.1
    have e : look q.1 (q :: m) = some q.2 := if_pos rfl
    rw [e] at this; cases this
  | p :: l, [], _, _, h => by
    have := h p.1
    have e : look p.1 (p :: l) = some p.2 := if_pos rfl
    rw [e] at this; cases this
  | p :: l, q :: m, hl, hm, h => by
    obtain ⟨l1, l2⟩ := List.pairwise_cons.mp hl
    obtain ⟨m1, m2⟩ := List.pairwise_cons.mp hm
    have no : ∀ {p : Nat × α} {l : List (Nat × α)}, (∀ q ∈ l, p.1 < q.1) → ∀ k, k ≤ p.1 → look k l = none := fun hp k hk => cJ fun q hq z => by have := hp q hq; omega
    have ep : look p.1 (p :: l) = some p.2 := if_pos rfl
    have eq : look q.1 (q :: m) = some q.2 := if_pos rfl
    have e1 : p.1 = q.1 := by
      rcases Nat.lt_trichotomy p.1 q.1 with z | z | z
      · have w := h p.1
        rw [ep] at w
        have : look p.1 (q :: m) = none := by
          show (if p.1 = q.1 then some q.2 else look p.1 m) = none
          rw [if_neg (by omega)]
          exact no m1 _ (by omega)
        rw [this] at w; cases w
      · exact z
      · have w := h q.1
        rw [eq] at w
        have : look q.1 (p :: l) = none := by
          show (if q.1 = p.1 then some p.2 else look q.1 l) = none
          rw [if_neg (by omega)]
          exact no l1 _ (by omega)
        rw [this] at w; cases w
    have e2 : p = q := by
      have w := h p.1
      rw [ep, e1, eq] at w
      exact Prod.ext e1 (Option.some.inj w)
    subst e2
    have e3 : l = m := uE l2 m2 fun k => by
      by_cases e : k = p.1
      · subst e; rw [no l1 _ (Nat.le_refl _), no m1 _ (Nat.le_refl _)]
      · have w := h k
        have a : look k (p :: l) = look k l := if_neg e
        have b : look k (p :: m) = look k m := if_neg e
        rw [a, b] at w; exact w
    rw [e3]
end
end Rs
namespace L2
open PySem PySem.Spec PyProof.Rows
section
variable {X:Cx}
end
end L2
namespace L2
open PySem PySem.Spec PyProof.Rows
def txV (ka:List (Key×Str)):List (Key×V):=ka.map fun p=>(p.1,V.str p.2)
def kAt (kb:List (Key×Str)) (k:Key):Option Str:=(kb.find? fun p=>decide (p.1=k)).map (·.2)
def Cp (ka kb:List (Key×Str)):Bool:=ka.length==kb.length&&ka.all fun p=>decide (kAt kb p.1=some p.2)
theorem zK (kb:List (Key×Str)) (k:Key):bK (txV kb) k=(kAt kb k).map V.str:=by
 unfold bK txV kAt
 rw [List.find?_map]
 simp only [Option.map_map]
 congr 1
theorem qw {A : Around} {s : Shared} {kb : List (Key × Str)} {vb : List (Key × Value)} (rb : KV (txV kb) vb) : ∀ {ka : List (Key × Str)} {va : List (Key × Value)}, KV (txV ka) va → W.KeqHits A s vb va (ka.all fun p => decide (kAt kb p.1 = some p.2))
  | [], _, h => by cases h; exact .nil
  | p :: ka, _, h => by
    cases h with
    | @cons _ q _ va e r =>
      obtain ⟨k, v⟩ := q
      obtain ⟨e1, e2⟩ := e
      have e1 : p.1 = k := e1
      subst e1
      obtain ⟨t, rfl⟩ : ∃ t, v = Value.str p.2 t := e2
      have rv := rb.val p.1
      rw [zK] at rv
      rw [List.all_cons]
      have ih := qw (A := A) (s := s) rb (ka := ka) r
      cases hk : kAt kb p.1 with
      | none =>
        rw [hk] at rv
        have hv : valueAt vb p.1 = none := by
          cases hv : valueAt vb p.1 with
          | none => rfl
          | some y => rw [hv] at rv; exact rv.elim
        rw [decide_eq_false (fun z => nomatch z), Bool.false_and]
        exact .miss hv
      | some z =>
        rw [hk] at rv
        cases hv : valueAt vb p.1 with
        | none => rw [hv] at rv; exact rv.elim
        | some y =>
          rw [hv] at rv
          obtain ⟨t2, rfl⟩ : ∃ t2, y = Value.str z t2 := rv
          have e3 : decide (some z = some p.2) = decide (p.2 = z) := decide_eq_decide.mpr ⟨fun h => (Option.some.inj h).symm, fun h => by rw [h]⟩
          rw [e3]
          exact .hit hv (SeqAt.EqAt.str_str p.2 t z t2) ih
section
variable {X:Cx}
def yL:R2:=fun x y H Q=>∃ a b ka kb,x=.ref a∧y=.ref b∧H a=some (.dK (txV ka))∧H b=some (.dK (txV kb))∧Q (.bl (!Cp ka kb)) H
theorem zv (hu:X.A.units<cLine):OpR X (compareOp .NotEq) yL:=by
 intro pins s σ H x y v u Q I rx ry h
 obtain ⟨a,b,ka,kb,rfl,rfl,ha,hb,q⟩:=h
 cases rx
 cases ry
 obtain ⟨_,la,va,ra,da⟩:=jK I.hok ha
 obtain ⟨_,lb,vb,rb,db⟩:=jK I.hok hb
 have e1:va.length=ka.length:=by rw [← ra.length];exact List.length_map _
 have e2:vb.length=kb.length:=by rw [← rb.length];exact List.length_map _
 refine W.keq_ne la lb da db hu (fun _=>qw rb ra) ⟨.bl (!Cp ka kb),H,I,?_,q⟩
 show Value.bool _=Value.bool _
 rw [e1,e2];rfl
end
end L2
namespace L2
open PySem PySem.Spec PyProof.Rows
section
variable {X:Cx} {pins:List (Addr×Obj)} {σ:St} {H:Hp} {s:Shared}
end
section
variable {X:Cx} {tg l:Expr} {tl:TE}
end
def tyD (x:V) (H:Hp):Prop:=∃ a,x=.ref a∧∃ kvs:List (Key×V),Rd H a (.dK kvs)
def pQ (r:V→List V→Hp→VK→Prop) (to:TE) (t:TA):TE:=fun σ H Q=>to σ H fun x H1=>tyD x H1∧t σ H1 fun xs H2=>r x xs H2 Q
section
variable {X:Cx} {o e:Expr} {es:List Expr} {to:TE} {t:TA} {name:Str} {apos cpos:Pos} {id:String} {r:V→List V→Hp→VK→Prop}
theorem AR {pins:List (Addr×Obj)} {σ:St} {H:Hp} {s:Shared} {x:V} {v:Value} (I:Inv X pins σ H s) (rv:aJ x v) (ty:tyD x H):s.TypeIs v "dict" ∧∀ a,v=.ref a→∃ ob,s.heap.get? a=some ob∧ob.dict=none:=by
 obtain ⟨p,rfl,kvs,hk⟩:=ty
 cases rv
 obtain ⟨_,_,_,_,o,_,_,e,ex,_⟩:=(show bh X.prog X.w H s.heap p (.dK kvs) from rn I.hok hk)
 refine ⟨⟨o,e,ex.1⟩,fun a e2=>?_⟩
 cases e2
 exact ⟨o,e,ex.2.1⟩
theorem Ef (pa : PlainAttrs "dict") (slot : Slot "dict" name id) (hty : typeOf (.builtin id) = pure (.type "method_descriptor")) (hm : MtR X id r) (ho : PE X o to) (ha : PA X (e :: es) t)
  (hbase : attributeBase o name X.env (eval o X.env) = eval o X.env := by rfl)
  (hfew : ((backTo cpos (starEach (e :: es) X.env)).all (fun x => !x.1) && (backToKw cpos (keywordEach [] X.env)).all (fun x => x.1.isSome)
   && decide ((e :: es).length + ([] : List Keyword).length + (if ([] : List Keyword).isEmpty then 0 else 1) < 30)) = true := by rfl)
  (hline : (apos.endLine == cpos.line) = true := by rfl) (hs : starEach (e :: es) X.env = (false, eval e X.env) :: starEach es X.env := by rfl) (hplain : (backTo cpos (starEach es X.env)).any (·.1) = false := by rfl) :
  PE X (.Call (.Attribute o name apos) (e :: es) [] cpos) (pQ r to t) := by
 intro pins s σ H Q I h
 refine wpAny_Call_method_late hbase hfew hline rfl (thn (ho pins s σ H _ I h) fun v s1 ⟨x, H1, I1, r1, ty, q1⟩ => ?_)
 obtain ⟨h1, h2⟩ := AR I1 r1 ty
 refine ⟨"dict", id, pa, slot, hty, h1, h2, ?_⟩
 have hA := ha cpos pins s1 σ H1 _ I1 q1
 rw [hs] at hA ⊢
 refine Calls.callWith_builtin (by show (false || (backTo cpos (starEach es X.env)).any (·.1)) = false; rw [hplain] <;> rfl) (Calls.evalArgs_plain ?_)
 exact thn hA fun us s2 ⟨vs, H2, I2, r2, q2⟩ => hm pins s2 σ H2 x vs v us Q I2 (r1) r2 q2
theorem yg (pa:PlainAttrs "dict") (slot:Slot "dict" name id) (hty:typeOf (.builtin id)=pure (.type "method_descriptor")) (hm:MtR X id r) (ho:QE X o to) (ha:QA X (e::es) t)
  (hbase:attributeBase o name X.env (eval o X.env)=eval o X.env:=by rfl) (hfew:decide ((e::es).length<30)=true:=by rfl)
  (hline:(apos.endLine==cpos.line)=true:=by rfl) (hs:bf (e::es)=true:=by rfl):QE X (.Call (.Attribute o name apos) (e::es) [] cpos) (pQ r to t):=
 have h:(bO e&&bf es)=true:=hs
 ⟨Ef pa slot hty hm ho.out ha.out hbase (by rw [hR hs];exact hfew) hline (bg (Bool.and_eq_true_iff.mp h).1 es X.env) (bJ (Bool.and_eq_true_iff.mp h).2)⟩
end
end L2
namespace L2
open PySem PySem.Spec PyProof.Rows
def Ite (K:W.Frag) (a:Addr):It where
 go:=fun i H=>∃ xs x,SqL K H a xs∧xs[i]?=some x
 yld:=fun i H v H'=>∃ p,v=.ref p∧H p=none∧∀ xs,SqL K H a xs→∃ x,xs[i]?=some x∧H'=upd H p (.tup [.int (i:Int),x])
 stop:=fun i H=>∃ xs,SqL K H a xs∧xs.length≤i
theorem zu:bootBuiltins "enumerate" =some (.type "enumerate"):=by decide +kernel
theorem uO {P:Program} {w:World} {K:W.Frag} {elts:List Expr} {ek:Nat} {ep:Pos} (a e it:Addr) (ne:e≠it):
  iQ P w K (.Tuple elts ek ep) (Ite K a) [e,it] e (fun i h=>(∃ old,IsEnum h e it i old)∧h.IsListIter it a i) where
 mem:=by simp
 obj:=fun i h st c hc=>by
  obtain ⟨⟨old,he⟩,o1,e1,c1,d1⟩:=st
  simp only [List.mem_cons,List.not_mem_nil,or_false] at hc
  rcases hc with rfl | rfl
  · exact ⟨_,he,fun v q=>by cases q⟩
  · exact ⟨o1,e1,fun v q=>by rw [d1] at q;cases q⟩
 keep:=fun i h h' st k=>by
  obtain ⟨⟨old,he⟩,h1⟩:=st
  exact ⟨⟨old,k e (by simp) _ he⟩,h1.at fun o q=>k it (by simp) o q⟩
 item:=by
  intro X hP hw hK hc i pins s σ H E I hf st hg
  subst hP hw hK
  obtain ⟨xs,x,hx,ex⟩:=hg
  obtain ⟨its,r1,p1,_⟩:=I.list hx
  obtain ⟨u,gu,ru⟩:=r1.get ex
  obtain ⟨⟨old,z1⟩,z4⟩:=st
  refine wpAny_pyNext_enum_item (items:=its.toArray) (x:=u) z1 z4 (gr p1) (by simpa using gu) ne fun h1 y1 y4 hT hsz hk=>?_
  refine ⟨_,rfl,wpAny_letOwnedTupleGo_enum (s:={ s with heap:=h1,toks:=s.toks+1 }) y1 fun h2 hz2 hs2=>?_⟩
  have Tn:∀ c∈[e,it],c≠s.heap.objs.size:=fun c hc q=>by
    obtain ⟨o,eo⟩:∃ o,s.heap.get? c=some o:=by
     simp only [List.mem_cons,List.not_mem_nil,or_false] at hc
     rcases hc with rfl | rfl
     · exact ⟨_,z1⟩
     · obtain ⟨_,q,_⟩:=z4;exact ⟨_,q⟩
    have:=Heap.lt_size eo
    rw [q] at this;exact Nat.lt_irrefl _ this
  have k2:∀ c o,c∉[e,it]→s.heap.get? c=some o→h2.get? c=some o:=fun c o hc q=>by
    simp only [List.mem_cons,List.not_mem_nil,or_false,not_or] at hc
    exact hs2.extBut _ _ hc.1 (hk c o hc.1 hc.2 q)
  have I1:Inv X pins σ H { s with heap:=h2,toks:=s.toks+1 }:=I.turnedL k2 hf
  have hTe:s.heap.objs.size≠e:=fun q=>Tn e (by simp) q.symm
  have hT2:=hs2.extBut _ _ hTe hT
  have hfr:H s.heap.objs.size=none:=I.hok.fresh (Nat.le_refl _)
  have I2:Inv X pins σ (upd H s.heap.objs.size (.tup [.int (i:Int),x])) { s with heap:=h2,toks:=s.toks+1 }:=
    Inv.track2 I I1 (Nat.le_refl _) hfr ⟨by show 2≤sizeLine;decide,[.int i s.toks,u],.cons ⟨_,rfl⟩ (.cons ru .nil),⟨_,hT2,rfl,_,rfl⟩⟩
  refine ⟨.ref s.heap.objs.size,_,I2,rfl,⟨_,rfl,hfr,fun xs' hx'=>⟨x,by rw [I.list_inj hx' hx];exact ex,rfl⟩⟩,?_,fun c hc=>?_⟩
  · exact ⟨⟨_,hz2⟩,y4.at fun o q=>hs2.extBut _ _ (Ne.symm ne) q⟩
  · rw [ao (Tn c hc)];exact (hf c hc).1
 done:=by
  intro X hP hw hK hc i pins s σ H E I hf st hg
  subst hP hw hK
  obtain ⟨xs,hx,hl⟩:=hg
  obtain ⟨its,r1,p1,_⟩:=I.list hx
  have l1:=r1.length
  obtain ⟨⟨old,z1⟩,z4⟩:=st
  refine wpAny_pyNext_enum_end (items:=its.toArray) (I.ok.hd hc) z1 z4 (gr p1) (by simp;omega) fun h1 hk=>⟨rfl,I.turnedL (t':=s.toks) (fun c o hc q=>?_) hf⟩
  simp only [List.mem_cons,List.not_mem_nil,or_false,not_or] at hc
  exact hk c o hc.2 q
 self:=fun _ _ _ _ _ st h=>by
  obtain ⟨⟨old,z1⟩,_⟩:=st
  exact wpAny_pyIter_enum z1 h
section
variable {X:Cx} {a:Expr} {t:TA} {p pos ep:Pos} {elts:List Expr} {ek:Nat}
def ss (K:W.Frag) (t:TA):TI:=fun σ H R=>t σ H fun vs H1=>∃ c xs,vs=[.ref c]∧SqL K H1 c xs∧R (Ite K c) H1
theorem uh:∀ (pins:List (Addr×Obj)) (s:Shared) (σ:St) (H:Hp) (us:List Value) (vs:List V) (R:It→Hp→Prop),Inv X pins σ H s→aZ vs us→(∃ c xs,vs=[.ref c]∧SqL X.K H c xs∧R (Ite X.K c) H)→
  wpAny (model X.prog X.w) X.A (call (.type "enumerate") us) (fun v s1=>wpAny (model X.prog X.w) X.A (pyIter v) (PIE X pins σ (.Tuple elts ek ep) R) X.xe s1) X.xe s:=by
 intro pins s σ H us vs R I r h
 obtain ⟨c,xs,rfl,hx,q⟩:=h
 obtain ⟨u,rfl,r1⟩:=dJ r
 cases r1
 obtain ⟨its,rv1,p1,_⟩:=I.list hx
 refine call_enumerate_list (show s.heap.IsList c its.toArray from (gr p1)) fun h' y1 y2 _ hk=>?_
 refine wpAny_pyIter_enum (s:={ s with heap:=h' }) y1 ?_
 refine ⟨s.heap.objs.size+1,[s.heap.objs.size+1,s.heap.objs.size],_,Ite X.K c,H,rfl,I.kept (t':=s.toks) hk,uO c (s.heap.objs.size+1) s.heap.objs.size (Nat.succ_ne_self _),⟨⟨_,y1⟩,y2⟩,fun b hb=>?_,q⟩
 have:s.heap.objs.size≤b:=by
  simp only [List.mem_cons,List.not_mem_nil,or_false] at hb
  rcases hb with rfl | rfl <;> omega
 exact I.fpOk this (I.hok.fresh this)
theorem DT (hm:X.mg "enumerate" =none) (ha:QA X [a] t) (hg:Gl X "enumerate" :=by rfl) (hs:bf [a]=true:=by rfl):QI X (.Tuple elts ek ep) (.Call (.Name "enumerate" p) [a] [] pos) (ss X.K t):=⟨fun pins s σ H R I h=>by
 have h':(bO a&&bf [])=true:=hs
 refine wpAny_Call_Name_kw (iu I hg hm zu ?_ (by decide) (by decide))
 exact PyProof.Rows.callWith_type1 (thn (ha.out pos pins s σ H _ I h) fun us s1 ⟨vs,H1,I1,r1,q1⟩=>uh pins s1 σ H1 us vs R I1 r1 q1)
  (bg (Bool.and_eq_true_iff.mp h').1 [] X.env) (bJ (Bool.and_eq_true_iff.mp h').2)⟩
end
end L2
namespace L2
open PySem PySem.Spec PyProof.Rows
section
variable {X:Cx} {pos ep px py pz pu pv:Pos} {ek:Nat} {x y z u v:Str} {iter:Expr} {wi:TI} {tS:TS}
theorem Dt (i j k l m:Nat) (hN:X.N.Nodup) {body:List Stmt} (hi:QI X (.Tuple [.Name x px,.Name y py,.Name z pz,.Name u pu,.Name v pv] ek ep) iter wi) (hb:QSs X body tS) (hp:PassesOwn (model X.prog X.w) X.A X.env X.xe) (hc:X.calm=true:=by rfl)
  (hj:X.N[i]?=some x:=by rfl) (hx:Loc X.env.scope x:=by first | exact .inl rfl | exact .inr rfl) (hf:X.fn x=true∨X.env.scope.names.lookup x=some .local:=by first | exact .inl rfl | exact .inr rfl)
  (hj2:X.N[j]?=some y:=by rfl) (hx2:Loc X.env.scope y:=by first | exact .inl rfl | exact .inr rfl) (hf2:X.fn y=true∨X.env.scope.names.lookup y=some .local:=by first | exact .inl rfl | exact .inr rfl)
  (hj3:X.N[k]?=some z:=by rfl) (hx3:Loc X.env.scope z:=by first | exact .inl rfl | exact .inr rfl) (hf3:X.fn z=true∨X.env.scope.names.lookup z=some .local:=by first | exact .inl rfl | exact .inr rfl)
  (hj4:X.N[l]?=some u:=by rfl) (hx4:Loc X.env.scope u:=by first | exact .inl rfl | exact .inr rfl) (hf4:X.fn u=true∨X.env.scope.names.lookup u=some .local:=by first | exact .inl rfl | exact .inr rfl)
  (hj5:X.N[m]?=some v:=by rfl) (hx5:Loc X.env.scope v:=by first | exact .inl rfl | exact .inr rfl) (hf5:X.fn v=true∨X.env.scope.names.lookup v=some .local:=by first | exact .inl rfl | exact .inr rfl)
  (hs:∀ x,foldedSetIterable iter X.env x=pure x:=by intro _;rfl):QS X (.For (.Tuple [.Name x px,.Name y py,.Name z pz,.Name u pu,.Name v pv] ek ep) iter body [] pos) (eN wi (rV X.K 5 (ej (au i) (ej (au j) (ej (au k) (ej (au l) (ej (au m) rq)))))) tS):=
 ⟨tR hp hc hi.out (uC hc (eO (eW hN hj hx hf) (eO (eW hN hj2 hx2 hf2) (eO (eW hN hj3 hx3 hf3) (eO (eW hN hj4 hx4 hf4) (eO (eW hN hj5 hx5 hf5) qT)))))) hb.out hs⟩
end
end L2
namespace L2
open PySem PySem.Spec PyProof.Rows
section
variable {X:Cx}
end
end L2
namespace L2
open PySem PySem.Spec PyProof.Rows
structure gb (scope:Scope) (x z:Str) (ys:List Str):Prop where
 kind:scope.kind=.function
 nocell:∀ y∈scope.names,y.2≠ .cell
 names:∀ y∈scope.names,y.2=.local→scope.names.lookup y.1=some .local
 own:scope.names.lookup x=some .local
 own2:scope.names.lookup z=some .local
 all:∀ y∈scope.names,y.2=.free→y.1∈ys
 nd:(x::z::ys).Nodup
def tP (K:W.Frag) (is:List Nat) (tc:TT) (te:TE) (σ:St) (D:Addr) (J:It) (H1:Hp) (Q:VK):Prop:=∃ W:Nat→Nat→List V→Hp→Prop,(∃ m,W 0 m [] (upd H1 D (.lst [])))∧
 ∀ i m ys H2,W i m ys H2→(J.stop i H2∧Q (.ref D) H2)∨(J.go i H2∧∀ x H3,J.yld i H2 x H3→∃ a v0 v1,x=.ref a∧SqT K H3 a [v0,v1]∧tc (some v0::some v1::aR σ is) H3 fun b H4=>if b=true then
  te (some v0::some v1::aR σ is) H4 fun y H5=>H5 D=some (.lst ys)∧ys.length<sizeLine∧∃ m',m'<m∧W (i+1) m' (ys++[y]) (upd H5 D (.lst (ys++[y])))
  else ∃ m',m'<m∧W (i+1) m' ys H4)
def li (K:W.Frag) (is:List Nat) (wi:TI) (tc:TT) (te:TE):TE:=fun σ H Q=>wi σ H fun J H1=>∀ D,H1 D=none→tP K is tc te σ D J H1 Q
section
variable {X:Cx}
theorem sg {elt iter : Expr} {ifs : List Expr} {x z : Str} {px pz ep pos : Pos} {ek : Nat} {scope : Scope} {ys : List Str} {is : List Nat} {tc : TT} {te : TE} {pins : List (Addr × Obj)} {σ : St} {H2 : Hp} {s2 : Shared} {it : Addr} {fp : List Addr} {tn : Nat → Heap → Prop} {J : It} {E : Value → Shared → Prop} {Q : VK} {RR : Value → Addr → Result → Shared → Prop}
    (hc : X.calm = true) (S : gb scope x z ys) (hcap : eC X scope ys is)
    (hif : ∀ C s H fp, mL (aD X scope C (x :: z :: ys) s H fp) ifs tc) (he : ∀ C s H fp, PE (aD X scope C (x :: z :: ys) s H fp) elt te)
    (I2 : Inv X pins σ H2 s2) (T : iQ X.prog X.w X.K (.Tuple [.Name x px, .Name z pz] ek ep) J fp it tn) (st2 : tn 0 s2.heap) (f2 : ∀ b ∈ fp, gB X pins H2 b)
    (hW : ∀ D, H2 D = none → ∃ W : Nat → Nat → List V → Hp → Prop, (∃ m, W 0 m [] (upd H2 D (.lst []))) ∧
      ∀ i m ys H2, W i m ys H2 → (J.stop i H2 ∧ Q (.ref D) H2) ∨ (J.go i H2 ∧ ∀ x H3, J.yld i H2 x H3 → ∃ a v0 v1, x = .ref a ∧ SqT X.K H3 a [v0, v1] ∧ tc (some v0 :: some v1 :: aR σ is) H3 fun b H4 => if b = true then
        te (some v0 :: some v1 :: aR σ is) H4 fun y H5 => H5 D = some (.lst ys) ∧ ys.length < sizeLine ∧ ∃ m', m' < m ∧ W (i + 1) m' (ys ++ [y]) (upd H5 D (.lst (ys ++ [y])))
        else ∃ m', m' < m ∧ W (i + 1) m' ys H4))
    (hRR : ∀ D C H' s', (X.s₀.heap.objs.size ≤ C ∧ ∀ p ∈ X.pn ++ pins, p.1 ≠ C) → (∃ m, s'.heap.Ns C m) → C ≠ X.env.locals → H' C = none → Inv X pins σ H' s' → (∀ h', Heap.SameBut C s'.heap h' → Inv X pins σ H' { s' with heap := h' }) → Q (.ref D) H' → RR (.ref D) C (.ok .next) s') :
    wpAny (model X.prog X.w) X.A (newList []) (fun acc s₃ => wpAny (model X.prog X.w) X.A (newFunctionEnv scope X.env.globals (cA scope.names X.env.cells []) [] X.env.qual none .none (some X.env)) (fun cenv s₄ =>
      codeAny (model X.prog X.w) X.A (.compStart (.ListComp elt [⟨.Tuple [.Name x px, .Name z pz] ek ep, iter, ifs, 0⟩] scope pos) 0 (.ref it) acc { cenv with scope := relabel scope X.env }) (RR acc cenv.locals) s₄) E s₃) E s2 := by
  have hf2 : H2 s2.heap.objs.size = none := I2.fresh
  refine wpAny_newObj_type (wpAny_newFunctionEnv S.nocell (by intro y hy; simp at hy) (fun h₁ hns₁ hsb₁ => ?_) S.kind)
  dsimp only at hns₁ hsb₁ ⊢
  have I3 : Inv X pins σ (upd H2 s2.heap.objs.size (.lst [])) { s2 with heap := s2.heap.push { cls := .type "list", data := .seq ([] : List Value).toArray } } := I2.lnew (t' := s2.toks) (ys := []) .nil (Nat.zero_le _)
  obtain ⟨W, ⟨m0, w0⟩, turn⟩ := hW _ hf2
  generalize hD : s2.heap.objs.size = D at I3 w0 turn hf2 ⊢
  generalize hs3 : ({ s2 with heap := s2.heap.push { cls := .type "list", data := .seq ([] : List Value).toArray } } : Shared) = s3 at I3
  have hp3 : s2.heap.push { cls := .type "list", dict := none, data := .seq ([] : List Value).toArray } = s3.heap := by rw [← hs3]
  rw [hp3] at hns₁ hsb₁ ⊢
  have tk3 : s2.toks = s3.toks := by rw [← hs3]
  generalize hH3 : upd H2 D (.lst []) = H3 at I3 w0
  generalize hC : s3.heap.objs.size = C at hns₁ hsb₁ ⊢
  have keep2 : ∀ b o, s2.heap.get? b = some o → s3.heap.get? b = some o := fun b o e => by rw [← hp3]; exact Heap.get?_push_of_some _ e
  have keep3 : ∀ b o, s3.heap.get? b = some o → h₁.get? b = some o := fun b o e => hsb₁.extBut b o (by rw [← hC]; exact Nat.ne_of_lt (Heap.lt_size e)) (Heap.get?_push_of_some _ e)
  have st3 : tn 0 s3.heap := T.keep _ _ _ st2 fun b _ o e => keep2 b o e
  have st4 : tn 0 h₁ := T.keep _ _ _ st3 fun b _ o e => keep3 b o e
  have fp3 : ∀ b ∈ fp, H3 b = none ∧ b < C := fun b hb => by
    obtain ⟨o, e, _⟩ := T.obj _ _ st2 b hb
    refine ⟨?_, by rw [← hC]; exact Heap.lt_size (keep2 b o e)⟩
    rw [← hH3, ao (by rw [← hD]; exact Nat.ne_of_lt (Heap.lt_size e))]
    exact (f2 b hb).1
  have hcells : ∀ {z : Str} {c : Addr}, (cA scope.names X.env.cells []).lookup z = some c → X.env.cells.lookup z = some c := fun h => jr (fun _ _ q => by cases q) h
  have hX : (aD X scope C (x :: z :: ys) s3 H3 fp).Ok := by
    refine ⟨I3.ok.mod, S.kind, I3.ok.glob, I3.ok.blt, Nat.le_of_eq hC, fun y z c h1 h2 => I3.ok.inj y z c (hcells h1) (hcells h2), fun y hy => ?_, fun y c h _ => absurd (show false = true from h) Bool.false_ne_true, I3.ok.hd, I3.ok.frames, .inl rfl, fun b hb => ⟨Nat.ne_of_lt (fp3 b hb).2, fun y c h => (f2 b hb).2.2.2.2.1 y c (hcells h)⟩, fun b o e => I3.bs b o e, Nat.le_trans I3.ok.bsz I3.sz, fun b o e hb => ?_, fun b hb z => ?_, I3.stack, I3.stkFree⟩
    · have hy : (relabel scope X.env).names.lookup y = some .cell ∨ (relabel scope X.env).names.lookup y = some .free := hy
      have hm : (y, NameKind.free) ∈ scope.names := by
        rcases hy with q | q
        · exact dU S.nocell q (.inl rfl)
        · exact dU S.nocell q (.inr rfl)
      have hs : ∃ c, X.env.cells.lookup y = some c := by
        by_cases hk : X.env.kindOf y = some .cell ∨ X.env.kindOf y = some .free
        · exact I3.ok.has y hk
        · exact absurd (gP hcap (S.all _ hm rfl)) hk
      exact Option.isSome_iff_exists.mp (fL hm (Option.isSome_iff_exists.mpr hs))
    · rcases (f2 b hb).2.2.2.1 with z | z
      · exact I3.ok.noex b o e z
      · exact absurd (Nat.lt_of_lt_of_le (Heap.lt_size e) (Nat.le_trans I3.ok.bsz z)) (Nat.lt_irrefl _)
    · rcases List.mem_cons.mp (I3.stkSub b z) with q | q
      · exact (f2 b hb).2.1 q
      · exact (f2 b hb).2.2.1 q
  have I4 : Inv (aD X scope C (x :: z :: ys) s3 H3 fp) [] (none :: none :: aR σ is) H3 { s2 with heap := h₁, toks := s2.toks + ([] : List (Str × Value)).length } := by
    obtain ⟨m3, hm3, hl3⟩ := id I3.loc
    refine ⟨hX, ?_, ?_, Un.kept keep3, ⟨_, hns₁, fun i y v e1 e2 e3 => ?_⟩, fun y c e => ?_, ?_, fun y c e => I3.freeC y c (hcells e), fun p hp => absurd (show p ∈ ([] : List (Addr × Obj)) from hp) (by simp), I3.hok.kept keep3, ?_⟩
    · show s2.os = s3.os
      rw [← hs3]
    · have := I2.bare; exact this
    · match i, e1, e2 with
      | 0, _, e2 => simp at e2
      | 1, _, e2 => simp at e2
      | j + 2, e1, e2 =>
        obtain ⟨u, r, hfr, c, ec, ic⟩ := nh hcap hl3 trivial j y v (by have e1' : (x :: z :: ys)[j + 2]? = some y := e1; simpa using e1') (by simpa using e2)
        have hk := jt (env := X.env) hfr
        obtain ⟨c', ec'⟩ := Option.isSome_iff_exists.mp (fL (cs := []) (iS hfr) (by rw [ec]; rfl) (cells := X.env.cells))
        have : c' = c := by have := hcells ec'; rw [ec] at this; exact (Option.some.inj this).symm
        subst this
        obtain ⟨o, ho, hd⟩ := ic
        exact ⟨u, r, .inr ⟨hk, c', ec', o, keep3 _ _ ho, hd⟩⟩
    · obtain ⟨v, o, ho, hd⟩ := I3.cell y c (hcells e)
      exact ⟨v, o, keep3 _ _ ho, hd⟩
    · have := I3.hok.fresh (a := C) (Nat.le_of_eq hC)
      exact this
    · have := pj hcap
      show (none :: none :: aR σ is).length = (x :: z :: ys).length
      simp [aR, this]
  have hown : (relabel scope X.env).names.lookup x = some .local := fO S.own
  have hown2 : (relabel scope X.env).names.lookup z = some .local := fO S.own2
  have loop : codeAny (model X.prog X.w) X.A (.compLoop (.ListComp elt [⟨.Tuple [.Name x px, .Name z pz] ek ep, iter, ifs, 0⟩] scope pos) 0 (.ref it) (.ref D) (compEnvC scope (cA scope.names X.env.cells []) C X.env)) (RR (.ref D) C)
      { s2 with heap := h₁, toks := s2.toks + ([] : List (Str × Value)).length } := by
    have fin : ∀ {H' : Hp} {v w : Option V} {s' : Shared}, Inv (aD X scope C (x :: z :: ys) s3 H3 fp) [] (v :: w :: aR σ is) H' s' → Q (.ref D) H' → RR (.ref D) C (.ok .next) s' := fun {H' v w s'} J q => by
      obtain ⟨m', hm', _⟩ := J.loc
      have hCL : C ≠ X.env.locals := Ne.symm (by rw [← hC]; exact Nat.ne_of_lt I3.lt)
      have back : ∀ h', Heap.SameBut C s'.heap h' → Inv X pins σ H' { s' with heap := h' } := fun h' hs' => by
        have os' : s'.os = s3.os := J.os
        refine I3.call' (s' := { s' with heap := h' }) (ch := fp) os' ⟨fun b o e n hb hx => ?_, fun b o e n hb hx => ?_, fun b o e n hx => J.base.free b o e n hx, fun b o e hx => ?_, J.base.tups, J.base.frzs, J.base.tbls⟩ (fun b o e => ?_) J.bare fun b hb => ?_
        · exact hs'.extBut b o (by rw [← hC]; exact Nat.ne_of_lt (Heap.lt_size e)) (J.base.keep b o e n hb hx)
        · obtain ⟨sl, e1⟩ := J.base.slot b o e n hb hx
          exact ⟨sl, hs'.extBut b _ (by rw [← hC]; exact Nat.ne_of_lt (Heap.lt_size e)) e1⟩
        · obtain ⟨o', e1⟩ := J.base.there b o e hx
          exact ⟨o', hs'.extBut b _ (by rw [← hC]; exact Nat.ne_of_lt (Heap.lt_size e)) e1⟩
        · refine (J.hok b o e).stay (fun c w' hc q => (hs'.2 c ?_).trans q) (fun _ q => q) fun _ _ q => q
          have fC : H' C = none := J.free
          rintro rfl
          rcases hc with rfl | hc
          · rw [fC] at e; cases e
          · rw [fC] at hc; cases hc
        · obtain ⟨_, a1, _, a2, a3, a4⟩ := f2 b hb
          exact ⟨a2, a1, a3, a4⟩
      refine hRR D C H' s' ⟨by rw [← hC]; exact I3.sz, fun p hp => by rw [← hC]; exact Nat.ne_of_lt (Heap.lt_size (I3.pin p hp).1)⟩ ⟨m', hm'⟩ hCL J.free ?_ back q
      have := back s'.heap (.refl ..)
      exact this
    have stat : ∀ {H' : Hp}, (∀ b ∈ fp, H' b = none) → ∀ b ∈ fp, gB (aD X scope C (x :: z :: ys) s3 H3 fp) [] H' b := fun hn b hb => by
      obtain ⟨_, a1, a5, a2, a3, a4⟩ := f2 b hb
      refine ⟨hn b hb, Nat.ne_of_lt (fp3 b hb).2, fun z => ?_, .inl hb, fun y c e => a3 y c (hcells e), fun p hp => absurd (show p ∈ ([] : List (Addr × Obj)) from hp) (by simp)⟩
      rcases List.mem_cons.mp (I3.stkSub b z) with q | q
      · exact a1 q
      · exact a5 q
    have turnAt : ∀ n s, (∃ i v w ys' H', Inv (aD X scope C (x :: z :: ys) s3 H3 fp) [] (v :: w :: aR σ is) H' s ∧ tn i s.heap ∧ (∀ b ∈ fp, H' b = none) ∧ W i n ys' H') →
        wpAny (model X.prog X.w) X.A (pyNext (.ref it)) (fun r s₁ => match r with
          | none => RR (.ref D) C (.ok .next) s₁
          | some u => wpAny (model X.prog X.w) X.A (letOwnedTupleGo (.Tuple [.Name x px, .Name z pz] ek ep) (.ref it) u) (fun _ s₁ => wpAny (model X.prog X.w) X.A (assign (.Tuple [.Name x px, .Name z pz] ek ep) (compEnvC scope (cA scope.names X.env.cells []) C X.env) u) (fun _ s₂ =>
            ∃ (x0 x1 : V) (i : Nat) (ys' : List V) (H3' H6 : Hp) (pl : List (Addr × Obj)), Inv (aD X scope C (x :: z :: ys) s3 H3 fp) ([] ++ pl) (some x0 :: some x1 :: aR σ is) H6 s₂ ∧
              (∀ s7 v7 w7 H7, Inv (aD X scope C (x :: z :: ys) s3 H3 fp) ([] ++ pl) (v7 :: w7 :: aR σ is) H7 s7 → Inv (aD X scope C (x :: z :: ys) s3 H3 fp) [] (v7 :: w7 :: aR σ is) H7 s7 ∧ tn (i + 1) s7.heap ∧ ∀ b ∈ fp, H7 b = none) ∧
              (tc (some x0 :: some x1 :: aR σ is) H6 fun b H4 => if b = true then te (some x0 :: some x1 :: aR σ is) H4 fun y H5 => H5 D = some (.lst ys') ∧ ys'.length < sizeLine ∧ ∃ m', m' < n ∧ W (i + 1) m' (ys' ++ [y]) (upd H5 D (.lst (ys' ++ [y])))
                else ∃ m', m' < n ∧ W (i + 1) m' ys' H4)) (fun _ _ => False) s₁) (fun _ _ => False) s₁) (fun _ _ => False) s := by
      rintro n s ⟨i, v, w, ys', H', J, st, fr, w'⟩
      rcases turn i n ys' H' w' with ⟨stop, qn⟩ | ⟨go, step⟩
      · refine thn (T.done (aD X scope C (x :: z :: ys) s3 H3 fp) rfl rfl rfl hc i [] s _ H' (fun _ _ => False) J (stat fr) st stop) fun r s4 ⟨hr, J4⟩ => ?_
        subst hr
        exact fin J4 qn
      · refine thn (T.item (aD X scope C (x :: z :: ys) s3 H3 fp) rfl rfl rfl hc i [] s _ H' (fun _ _ => False) J (stat fr) st go) fun r s4 ⟨u, hr, h4⟩ => ?_
        subst hr
        refine thn h4 fun _ s5 ⟨xx, H5, J5, r5, y5, st5, fr5⟩ => ?_
        have J5' := J5.pinned (stat fr5) (T.obj _ _ st5)
        obtain ⟨ta, x0, x1, rfl, hta, hstep⟩ := step xx H5 y5
        have pg : PG (aD X scope C (x :: z :: ys) s3 H3 fp) (.Tuple [.Name x px, .Name z pz] ek ep) (rV X.K 2 (ej (au 0) (ej (au 1) rq))) := uC hc (eO (eW (i := 0) S.nd rfl (.inl hown) (.inr hown)) (eO (eW (i := 1) S.nd rfl (.inl hown2) (.inr hown2)) qT))
        refine thn (pg _ s5 _ H5 (.ref ta) u (fun σ' H' => σ' = some x0 :: some x1 :: aR σ is ∧ H' = H5) J5' r5 ⟨ta, _, rfl, hta, rfl, _, _, rfl, _, _, rfl, rfl, rfl, rfl⟩) fun _ s6 ⟨σ6, H6, J6, e6, e7⟩ => ?_
        subst e6 e7
        refine ⟨x0, x1, i, ys', H6, H6, ik fp s5.heap, J6, fun s7 v7 w7 H7 J7 => ⟨J7.unpinned, T.keep _ _ _ st5 fun b hb o e => (J7.pin (b, o) (List.mem_append_right _ (List.mem_append_right _ (dW hb e)))).1, fun b hb => ?_⟩, hstep⟩
        obtain ⟨o, e, d⟩ := T.obj _ _ st5 b hb
        exact (J7.pin (b, o) (List.mem_append_right _ (List.mem_append_right _ (dW hb e)))).2.1
    have start0 : ∃ i v w ys' H', Inv (aD X scope C (x :: z :: ys) s3 H3 fp) [] (v :: w :: aR σ is) H' { s2 with heap := h₁, toks := s2.toks + ([] : List (Str × Value)).length } ∧ tn i h₁ ∧ (∀ b ∈ fp, H' b = none) ∧ W i m0 ys' H' :=
      ⟨0, none, none, [], H3, I4, st4, fun b hb => (fp3 b hb).1, w0⟩
    have emit : ∀ (n : Nat) (x0 x1 : V) (i : Nat) (ys' : List V) (H4 : Hp) (pl : List (Addr × Obj)) (s₂ : Shared), Inv (aD X scope C (x :: z :: ys) s3 H3 fp) ([] ++ pl) (some x0 :: some x1 :: aR σ is) H4 s₂ →
        (∀ s7 v7 w7 H7, Inv (aD X scope C (x :: z :: ys) s3 H3 fp) ([] ++ pl) (v7 :: w7 :: aR σ is) H7 s7 → Inv (aD X scope C (x :: z :: ys) s3 H3 fp) [] (v7 :: w7 :: aR σ is) H7 s7 ∧ tn (i + 1) s7.heap ∧ ∀ b ∈ fp, H7 b = none) →
        (te (some x0 :: some x1 :: aR σ is) H4 fun y H5 => H5 D = some (.lst ys') ∧ ys'.length < sizeLine ∧ ∃ m', m' < n ∧ W (i + 1) m' (ys' ++ [y]) (upd H5 D (.lst (ys' ++ [y])))) →
        wpAny (model X.prog X.w) X.A (eval elt (compEnvC scope (cA scope.names X.env.cells []) C X.env)) (fun y s₃ => wpAny (model X.prog X.w) X.A (call (.builtin "list.append") [.ref D, y]) (fun _ s₄ =>
          ∃ m, m < n ∧ ∃ i v w ys' H', Inv (aD X scope C (x :: z :: ys) s3 H3 fp) [] (v :: w :: aR σ is) H' s₄ ∧ tn i s₄.heap ∧ (∀ b ∈ fp, H' b = none) ∧ W i m ys' H') (fun _ _ => False) s₃) (fun _ _ => False) s₂ := by
      intro n x0 x1 i ys' H4 pl s₂ J2 back q
      refine thn (he C s3 H3 fp ([] ++ pl) s₂ _ H4 _ J2 q) fun y s₃ ⟨yv, H5, J3, r3, q1, q2, q3⟩ => ?_
      refine thn (eQ (X := aD X scope C (x :: z :: ys) s3 H3 fp) ([] ++ pl) s₃ _ H5 (.ref D) [yv] (.ref D) [y] (fun v H7 => v = .non ∧ H7 = upd H5 D (.lst (ys' ++ [yv]))) J3 rfl (.cons r3 .nil) ⟨D, ys', yv, rfl, rfl, q1, q2, rfl, rfl⟩) fun _ s₄ ⟨_, H7, J4, _, _, e7⟩ => ?_
      subst e7
      obtain ⟨m', hm', w'⟩ := q3
      obtain ⟨b1, b2, b3⟩ := back s₄ _ _ _ J4
      exact ⟨m', hm', i + 1, some x0, some x1, ys' ++ [yv], _, b1, b2, b3, w'⟩
    have ex0 : ∀ {α : Type} {t : Sem α} {Q' : α → Shared → Prop} {E' : Value → Shared → Prop} {s : Shared}, wpAny (model X.prog X.w) X.A t Q' (fun _ _ => False) s → wpAny (model X.prog X.w) X.A t Q' E' s := fun h => wpAny_mono h (fun _ _ q => q) fun _ _ q => q.elim
    cases ifs with
    | nil =>
      have htc : tc = fun _ H Q => Q true H := hif C s3 H3 fp
      subst htc
      refine fj (fun n s => ∃ i v w ys' H', Inv (aD X scope C (x :: z :: ys) s3 H3 fp) [] (v :: w :: aR σ is) H' s ∧ tn i s.heap ∧ (∀ b ∈ fp, H' b = none) ∧ W i n ys' H') (fun n s hI => ?_) m0 start0
      refine wpAny_mono (turnAt n s hI) (fun r s₁ h₁ => ?_) fun _ _ q => q.elim
      cases r with
      | none => exact h₁
      | some u =>
        refine wpAny_mono h₁ (fun _ s₁ h₁ => wpAny_mono h₁ (fun _ s₂ h₂ => ?_) fun _ _ q => q.elim) fun _ _ q => q.elim
        obtain ⟨x0, x1, i, ys', _, H6, pl, J2, back, q⟩ := h₂
        dsimp only at q
        rw [if_pos rfl] at q
        exact wpAny_mono (emit n x0 x1 i ys' H6 pl s₂ J2 back q) (fun y s₃ h₃ => ex0 h₃) fun _ _ q => q.elim
    | cons c r0 =>
      cases r0 with
      | cons _ _ => exact (hif C s3 H3 fp).elim
      | nil =>
        have hpt : PT (aD X scope C (x :: z :: ys) s3 H3 fp) c tc := hif C s3 H3 fp
        refine fi (fun n s => ∃ i v w ys' H', Inv (aD X scope C (x :: z :: ys) s3 H3 fp) [] (v :: w :: aR σ is) H' s ∧ tn i s.heap ∧ (∀ b ∈ fp, H' b = none) ∧ W i n ys' H') (fun n s hI => ?_) m0 start0
        refine wpAny_mono (turnAt n s hI) (fun r s₁ h₁ => ?_) fun _ _ q => q.elim
        cases r with
        | none => exact h₁
        | some u =>
          refine wpAny_mono h₁ (fun _ s₁ h₁ => wpAny_mono h₁ (fun _ s₂ h₂ => ?_) fun _ _ q => q.elim) fun _ _ q => q.elim
          obtain ⟨x0, x1, i, ys', _, H6, pl, J2, back, q⟩ := h₂
          refine wpAny_mono (hpt ([] ++ pl) s₂ _ H6 _ J2 q) (fun b s₃ h₃ => ?_) fun _ _ q => q.elim
          obtain ⟨H4, J4, q4⟩ := h₃
          cases b with
          | true =>
            rw [if_pos rfl] at q4 ⊢
            exact wpAny_mono (emit n x0 x1 i ys' H4 pl s₃ J4 back q4) (fun y s₃ h₃ => ex0 h₃) fun _ _ q => q.elim
          | false =>
            rw [if_neg Bool.false_ne_true] at q4 ⊢
            obtain ⟨m', hm', w'⟩ := q4
            obtain ⟨b1, b2, b3⟩ := back s₃ _ _ _ J4
            exact ⟨m', hm', i + 1, some x0, some x1, ys', _, b1, b2, b3, w'⟩
  exact codeAny_compStart_list loop (T.self X.A 0 _ _ _ st4 loop)
end
section
variable {X:Cx}
theorem wy {scope:Scope} {x z:Str} {ys:List Str} {is:List Nat} (ok:X.Ok) (S:gb scope x z ys) (hcap:eC X scope ys is):closureFor scope X.env=pure (cA scope.names X.env.cells []):=
 jF fun y hy hk=>by
  obtain ⟨c,e⟩:=ok.has y.1 (gP hcap (S.all y hy hk))
  rw [e];rfl
theorem xZ {elt iter:Expr} {ifs:List Expr} {x z:Str} {px pz ep pos:Pos} {ek:Nat} {scope:Scope} {ys:List Str} {is:List Nat} {wi:TI} {tc:TT} {te:TE}
  (hc:X.calm=true) (S:gb scope x z ys) (hcap:eC X scope ys is) (hi:PI X (.Tuple [.Name x px,.Name z pz] ek ep) iter wi)
  (hif:∀ C s H fp,mL (aD X scope C (x::z::ys) s H fp) ifs tc) (he:∀ C s H fp,PE (aD X scope C (x::z::ys) s H fp) elt te)
  (hs:∀ x,foldedSetIterable iter X.env x=pure x:=by intro _;rfl):PE X (.ListComp elt [⟨.Tuple [.Name x px,.Name z pz] ek ep,iter,ifs,0⟩] scope pos) (li X.K is wi tc te):=by
 intro pins s σ H Q I h
 rw [eval_ListComp]
 refine wpAny_comprehension_free (use:=none) rfl hs (wy I.ok S hcap) S.kind S.names (thn (hi pins s σ H _ I h) fun v s1 h1=>thn h1 fun itv s2 h2=>?_)
 obtain ⟨it,fp,tn,J,H2,rfl,I2,T,st2,f2,hW⟩:=h2
 refine sg (RR:=fun acc C=>compPost (model X.prog X.w) X.A X.xe none (EP X pins σ Q) acc C) hc S hcap hif he I2 T st2 f2 hW ?_
 intro D C H' s' hlt hns hne hfr I' back q
 obtain ⟨m,hm⟩:=hns
 exact ⟨m,hm,fun h' hs'=>⟨.ref D,H',back h' hs',rfl,q⟩⟩
end
section
variable {X:Cx} {iter elt:Expr} {wi:TI} {te:TE} {ifs:List Expr} {scope:Scope} {ys:List Str} {is:List Nat} {px pz py ep pos spos:Pos} {ek:Nat} {x y z:Str}
theorem zA {tcn:TT} (S:gb scope x z ys) (hcap:eC X scope ys is) (hi:QI X (.Tuple [.Name x px,.Name z pz] ek ep) iter wi)
 (hif:∀ C s H fp,sJ (aD X scope C (x::z::ys) s H fp) ifs tcn) (he:∀ C s H fp,QE (aD X scope C (x::z::ys) s H fp) elt te) (hc:X.calm=true:=by rfl)
 (hs:∀ x,foldedSetIterable iter X.env x=pure x:=by intro _;rfl):QE X (.ListComp elt [⟨.Tuple [.Name x px,.Name z pz] ek ep,iter,ifs,0⟩] scope pos) (li X.K is wi tcn te):=⟨xZ hc S hcap hi.out (fun C s H fp=>(hif C s H fp).out) (fun C s H fp=>(he C s H fp).out) hs⟩
end
theorem uH {K : W.Frag} {a : Addr} {xs : List V} {σ : St} {is : List Nat} {tc : TT} {te : TE} {Q : VK} {H1 : Hp} {D : Addr} (Pv : Nat → List V → Hp → Prop)
   (hl : ∀ i ys H, i ≤ xs.length → Pv i ys H → SqL K H a xs) (h0 : Pv 0 [] (upd H1 D (.lst [])))
   (hs : ∀ i x ys H p, xs[i]? = some x → Pv i ys H → H p = none → tc (some (.int (i : Int)) :: some x :: aR σ is) (upd H p (.tup [.int (i : Int), x])) fun b H4 => if b = true then
    te (some (.int (i : Int)) :: some x :: aR σ is) H4 fun y H5 => H5 D = some (.lst ys) ∧ ys.length < sizeLine ∧ ∃ m', m' < xs.length - i ∧ CWd xs.length Pv (i + 1) m' (ys ++ [y]) (upd H5 D (.lst (ys ++ [y])))
    else ∃ m', m' < xs.length - i ∧ CWd xs.length Pv (i + 1) m' ys H4)
   (hd : ∀ ys H, Pv xs.length ys H → Q (.ref D) H) : tP K is tc te σ D (Ite K a) H1 Q := by
 refine ⟨CWd xs.length Pv, ⟨xs.length, Nat.zero_le _, rfl, h0⟩, ?_⟩
 rintro i m ys H2 ⟨hi, rfl, p⟩
 have q1 := hl i ys H2 hi p
 by_cases hlt : i < xs.length
 · refine .inr ⟨⟨xs, _, q1, List.getElem?_eq_getElem hlt⟩, fun v H' yl => ?_⟩
   obtain ⟨pp, rfl, hn, hy⟩ := yl
   obtain ⟨x, ex, rfl⟩ := hy xs q1
   exact ⟨pp, _, _, rfl, SqT.of ak, hs i x ys H2 pp ex p hn⟩
 · have e : i = xs.length := by omega
   subst e
   exact .inl ⟨⟨xs, q1, Nat.le_refl _⟩, hd ys H2 p⟩
end L2
namespace L2
open PySem PySem.Spec PyProof.Rows
section
variable {X:Cx}
end
end L2
namespace L2
open PySem PySem.Spec PyProof.Rows PySem.W
section
variable {X:Cx}
def uG (K:W.Frag):List V→Hp→VK→Prop:=fun xs H Q=>∃ a rs,xs=[.ref a]∧H a=some (.dK (iG rs))∧rs.length<64∧∀ (l:Addr) (ns:List Int),H l=none→ns.Perm (rs.map (·.1))→ns.Pairwise (·≤·)→Q (.ref l) (upd H l (.lst (ns.map V.int)))
theorem BY (hc : X.calm = true) : bE X (.builtin "sorted") (uG X.K) := fun pins s σ H xs us Q I r h => by
  obtain ⟨a, rs, rfl, ha, h64, q⟩ := h
  obtain ⟨u, rfl, ru⟩ := dJ r
  cases (show u = Value.ref a from ru)
  obtain ⟨z, hd, vs, rel, dd⟩ := jK I.hok ha
  obtain ⟨ep, dat⟩ := dd.dictAt
  have lv := AZ rel
  refine Calls.call_function_entry kind_sorted plain_sorted entry_sorted (args_sorted1 _) ?_
  unfold Builtin.«sorted»
  refine wpAny_bind (m := checkCount "sorted" 1 1 _) (wpAny_pure ?_)
  refine wpAny_bind (kdu_collect (A := X.A.in1) (kdl_dict (knd := bH X.prog X.w) (kvs := vs) (ep := ep) hd) (I.ok.hd hc) dat (by rw [lv, sizeLine_eq]; omega) fun h1 tk acc hk hacc => ?_)
  have la : acc.toList.length = rs.length := by rw [Array.length_toList, ← lv]; exact hacc.1
  refine wpAny_bind (wpAny_newList ?_ (by rw [la, sizeLine_eq]; omega))
  have hB : (h1.push { cls := .type "list", data := .seq acc.toList.toArray }).get? h1.objs.size = some (seqObj "list" acc.toList.toArray 0) := Heap.get?_push_size _ rfl
  have hI : IntsAre acc.toList (rs.map (·.1)) := by
    have : ∀ (l : List Value) (ns : List Int), l.length = ns.length → (∀ (j : Nat) (v : Value), l[j]? = some v → ∃ n t, ns[j]? = some n ∧ v = .int n t) → IntsAre l ns := by
      intro l
      induction l with
      | nil => intro ns hl _; cases ns with
        | nil => exact .nil
        | cons => simp at hl
      | cons v l ih =>
        intro ns hl hv
        cases ns with
        | nil => simp at hl
        | cons n ns =>
          obtain ⟨n', t, e, rfl⟩ := hv 0 v rfl
          cases e
          exact .cons n t (ih ns (by simpa using hl) fun j v hj => by simpa using hv (j + 1) v (by simpa using hj))
    refine this _ _ (by rw [la, List.length_map]) fun j v hj => ?_
    obtain ⟨k, x, e1, e2⟩ := hacc.2 j v (by rw [← Array.getElem?_toList]; exact hj)
    obtain ⟨r, er, rfl, _⟩ := Hg rel e1
    obtain ⟨t, rfl⟩ := Av e2
    exact ⟨r.1, t, by rw [List.getElem?_map, er]; rfl, rfl⟩
  refine wpAny_bind (wpAny_holding (wpAny_call_entry slot_list_sort ⟨_, hB, rfl⟩ entry_list_sort ?_ (args_list_sort _)))
  refine list_sort_tree hB hI (by rw [la]; exact h64) fun out ns' hI' pm up => ?_
  refine ⟨_, rfl, wpAny_pure ⟨_, rfl, ?_⟩⟩
  obtain ⟨c, hBa⟩ := sortedHeap_at (out := out) hB
  have lt1 : ∀ b o, h1.get? b = some o → b < h1.objs.size := fun b o e => Heap.lt_size e
  have nw : New s.heap h1.objs.size := fun b u e z => by subst z; exact Nat.lt_irrefl _ (lt1 _ _ (hk _ u e))
  have I1 : Inv X pins σ H { s with heap := sortedHeap (h1.push { cls := .type "list", data := .seq acc.toList.toArray }) h1.objs.size acc.toList out, toks := tk } := I.kept fun b o e => by
    rw [sortedHeap_old (Nat.ne_of_lt (lt1 _ _ (hk b o e))) (by rw [Heap.size_push]; exact Nat.lt_succ_of_lt (lt1 _ _ (hk b o e)))]
    exact Heap.get?_push_of_some _ (hk b o e)
  have lo : ns'.length = rs.length := by rw [pm.length_eq, List.length_map]
  have hl2 : (ns'.map V.int).length ≤ sizeLine := by rw [List.length_map, lo, sizeLine_eq]; omega
  exact ⟨.ref h1.objs.size, _, Inv.track3 I I1 nw (nw.free I) (o := .lst (ns'.map V.int)) ⟨hl2, out.toList, c, jD hI', by rw [hBa, Array.toArray_toList]⟩, rfl, q _ ns' (nw.free I) pm up⟩
def fw (K:W.Frag):V→Option Int→Option Int→Hp→VK→Prop:=fun x lo hi H Q=>(DP K x lo hi H Q∨False)∨Be x lo hi H Q
theorem zX:SlR X (fun _ _ _ _ _=>False):=fun _ _ _ _ _ _ _ _ _ _ _ _ _ _ _ _ _ h=>h.elim
theorem fv:SlR X (fw X.K):=(Al.or zX).or CJ
end
end L2
namespace Rs
open PySem PySem.Spec PyProof.Rows L2
def bS (s:Stmt) (j:Nat):Stmt:=match s with
 | .ClassDef _ _ _ b _ _ _ _ _ _ _=>b.getD j (.Pass ⟨0,0,0,0⟩)
 | _=> .Pass ⟨0,0,0,0⟩
def top (i:Nat):Stmt:=PySem.Challenge.pw_rootstamp_k23_whole_slips_of_a_table.main.body.getD i (.Pass ⟨0,0,0,0⟩)
abbrev vD:Stmt:=top 12
abbrev wa:Stmt:=top 13
abbrev wB:Stmt:=top 14
abbrev xb:Stmt:=top 16
abbrev wR:Stmt:=top 15
abbrev vw:Stmt:=bS (top 46) 1
abbrev wV:Stmt:=top 53
abbrev vk:Stmt:=top 52
abbrev lg:Stmt:=top 47
abbrev wN:Stmt:=bS (top 46) 0
abbrev lf:Stmt:=top 48
abbrev kQ:Stmt:=top 57
abbrev kM:Stmt:=top 56
abbrev lc:Stmt:=top 58
abbrev wA:Stmt:=top 59
abbrev xj:Stmt:=top 20
abbrev vH:Stmt:=bS (top 27) 0
abbrev s_0:Stmt:=bS (top 28) 0
abbrev vV:Stmt:=bS (top 50) 0
abbrev xq:Stmt:=top 54
abbrev xD:Stmt:=top 21
abbrev s_1:Stmt:=bS (top 28) 1
abbrev xG:Stmt:=bS (top 29) 1
abbrev vi:Stmt:=top 23
abbrev s_9:Stmt:=bS (top 30) 2
abbrev s_7:Stmt:=bS (top 30) 4
abbrev xu:Stmt:=bS (top 50) 3
abbrev s_3:Stmt:=bS (top 28) 4
abbrev vt:Stmt:=bS (top 29) 4
abbrev s_5:Stmt:=bS (top 30) 3
abbrev s_4:Stmt:=bS (top 30) 0
abbrev s_6:Stmt:=bS (top 30) 8
abbrev vA:Stmt:=bS (top 30) 7
abbrev xF:Stmt:=bS (top 50) 2
abbrev xc:Stmt:=top 55
abbrev wH:Stmt:=top 22
abbrev xX:Stmt:=bS (top 29) 0
abbrev s_2:Stmt:=bS (top 28) 3
abbrev wg:Stmt:=top 24
abbrev we:Stmt:=top 31
abbrev xC:Stmt:=top 25
abbrev vB:Stmt:=bS (top 29) 3
abbrev s_8:Stmt:=bS (top 30) 1
abbrev vW:Stmt:=bS (top 30) 6
abbrev vS:Stmt:=bS (top 50) 1
abbrev wY:Stmt:=top 62
abbrev wj:Stmt:=bS (top 50) 7
abbrev xI:Stmt:=bS (top 50) 6
abbrev yd:Stmt:=top 39
abbrev xB:Stmt:=top 35
abbrev xS:Stmt:=top 34
abbrev wG:Stmt:=top 37
abbrev xQ:Stmt:=top 38
abbrev xg:Stmt:=top 36
abbrev vv:Stmt:=top 33
abbrev xO:Stmt:=top 41
abbrev xk:Stmt:=top 40
abbrev vJ:Stmt:=top 42
abbrev wo:Stmt:=top 60
abbrev vY:Stmt:=top 44
abbrev wK:Stmt:=top 43
abbrev wz:Stmt:=top 61
abbrev xp:Stmt:=top 63
abbrev xa:Stmt:=top 64
def sAt (i:Nat) (l:List Stmt):Stmt:=l.getD i (.Pass ⟨0,0,0,0⟩)
def Bn:Stmt→Expr | .Return (some e) _=>e | .Assign _ e _=>e | .Expr e _=>e | _=> .Constant .none 0 ⟨0,0,0,0⟩
def kg:Expr→Expr | .Lambda _ b _ _=>b | e=>e
def pO:Expr→Scope | .Lambda _ _ sc _=>sc | _=>{ kind:=.function,names:=[],isGenerator:=false,isCoroutine:=false }
abbrev vj:Expr:=(Bn (sAt 0 (aN lg)))
def fJ:cR:=⟨(("writing" :Str)++ ".<locals>.")++ "<lambda>",.expr (kg vj),pO vj,["term"],[]⟩
abbrev xN:Expr:=(Bn (sAt 1 (aN lf)))
def fY:cR:=⟨(("counting" :Str)++ ".<locals>.")++ "<lambda>",.expr (kg xN),pO xN,["term"],["numbers"]⟩
abbrev vN:Stmt:=(sAt 1 (aN kM))
def fV:cR:=⟨(("_law_sure" :Str)++ ".<locals>.")++ "_law_number",.stmts (aN vN),af vN,["_law_term"],["_law_known", "_law_first"]⟩
abbrev wO:Stmt:=(sAt 1 (aN kQ))
def gg:cR:=⟨(("_law_worded" :Str)++ ".<locals>.")++ "_law_word",.stmts (aN wO),af wO,["_law_term"],["_law_known"]⟩
abbrev vO:Stmt:=(sAt 0 (aN lc))
def fU:cR:=⟨(("_law_weak" :Str)++ ".<locals>.")++ "_law_short",.stmts (aN vO),af vO,["_law_term"],["_law_many"]⟩
set_option genInjectivity false in
set_option genSizeOf false in
abbrev Rd (sp:Sp) (t:TS) (N:List Str):Prop:=∀ (vs:List V) (H:Hp) (Q:VK) (E:XK),sp vs H Q E→t { nx:=fun _ H'=>Q .non H',rt:=Q } (L2.cp N vs) H
abbrev Ln (sp:Sp) (n:Nat):Prop:=∀ vs H Q E,sp vs H Q E→vs.length=n
structure Adr where
 a_54:Addr
 d_54:FuncData
 a_50:Addr
 d_50:FuncData
 a_52:Addr
 d_52:FuncData
 a_57:Addr
 d_57:FuncData
 a_68:Addr
 d_68:FuncData
 a_18:Addr
 d_18:FuncData
 a_26:Addr
 d_26:FuncData
 a_25:Addr
 d_25:FuncData
 a_66:Addr
 d_66:FuncData
 a_17:Addr
 d_17:FuncData
 a_42:Addr
 d_42:FuncData
 a_38:Addr
 d_38:FuncData
 a_32:Addr
 d_32:FuncData
 a_36:Addr
 d_36:FuncData
 a_31:Addr
 d_31:FuncData
 a_44:Addr
 d_44:FuncData
 a_12:Addr
 d_12:FuncData
 a_0:Addr
 d_0:FuncData
 a_19:Addr
 d_19:FuncData
 a_28:Addr
 d_28:FuncData
 a_47:Addr
 d_47:FuncData
 a_1:Addr
 d_1:FuncData
 a_14:Addr
 d_14:FuncData
 a_58:Addr
 d_58:FuncData
 a_9:Addr
 d_9:FuncData
 a_7:Addr
 d_7:FuncData
 a_24:Addr
 d_24:FuncData
 a_3:Addr
 d_3:FuncData
 a_16:Addr
 d_16:FuncData
 a_5:Addr
 d_5:FuncData
 a_4:Addr
 d_4:FuncData
 a_6:Addr
 d_6:FuncData
 a_11:Addr
 d_11:FuncData
 a_22:Addr
 d_22:FuncData
 a_34:Addr
 d_34:FuncData
 a_53:Addr
 d_53:FuncData
 a_13:Addr
 d_13:FuncData
 a_2:Addr
 d_2:FuncData
 a_64:Addr
 d_64:FuncData
 a_55:Addr
 d_55:FuncData
 a_40:Addr
 d_40:FuncData
 a_15:Addr
 d_15:FuncData
 a_8:Addr
 d_8:FuncData
 a_10:Addr
 d_10:FuncData
 a_20:Addr
 d_20:FuncData
 a_27:Addr
 d_27:FuncData
 a_23:Addr
 d_23:FuncData
 a_21:Addr
 d_21:FuncData
 a_61:Addr
 d_61:FuncData
 a_51:Addr
 d_51:FuncData
 a_41:Addr
 d_41:FuncData
 a_48:Addr
 d_48:FuncData
 a_46:Addr
 d_46:FuncData
 a_45:Addr
 d_45:FuncData
 a_49:Addr
 d_49:FuncData
 a_65:Addr
 d_65:FuncData
 a_62:Addr
 d_62:FuncData
 a_60:Addr
 d_60:FuncData
 a_30:Addr
 d_30:FuncData
 a_63:Addr
 d_63:FuncData
 a_59:Addr
 d_59:FuncData
 a_35:Addr
 d_35:FuncData
 a_29:Addr
 d_29:FuncData
 a_56:Addr
 d_56:FuncData
 k_66:Addr
 t_66:Addr
 k_42:Addr
 t_42:Addr
 k_38:Addr
 t_38:Addr
 k_32:Addr
 t_32:Addr
 k_36:Addr
 t_36:Addr
 c_Numbers:Addr
 c_Knot:Addr
 c_Bare:Addr
 c_Fork:Addr
 c_Leaf:Addr
 c_Table:Addr
set_option genInjectivity false in
set_option genSizeOf false in
structure Txt (K:W.Frag) (mg:Str→Option Value) (A:Adr):Prop where
 f_54:Fm K mg "is_whole" "is_whole" vD A.a_54 A.d_54 ["thing"]
 f_50:Fm K mg "is_stamp" "is_stamp" wa A.a_50 A.d_50 ["thing"]
 f_52:Fm K mg "is_term" "is_term" wB A.a_52 A.d_52 ["thing"]
 f_57:Fm K mg "part_form" "part_form" xb A.a_57 A.d_57 ["part"]
 f_68:Fm K mg "written" "written" wR A.a_68 A.d_68 ["term"]
 f_18:Fun K "number_of" "Numbers.number_of" vw A.a_18 A.d_18
 b_18:be K A.d_18 ["self", "term"] []
 f_26:Fm K mg "_law_bits" "_law_bits" wV A.a_26 A.d_26 ["_law_cell"]
 f_25:Fm K mg "_law_at" "_law_at" vk A.a_25 A.d_25 ["_law_script", "_law_k"]
 f_66:Fm K mg "writing" "writing" lg A.a_66 A.d_66 []
 f_17:Fun K "__init__" "Numbers.__init__" wN A.a_17 A.d_17
 b_17:be K A.d_17 ["self"] []
 f_42:Fm K mg "counting" "counting" lf A.a_42 A.d_42 []
 f_38:Fm K mg "_law_worded" "_law_worded" kQ A.a_38 A.d_38 []
 f_32:Fm K mg "_law_sure" "_law_sure" kM A.a_32 A.d_32 ["_law_first"]
 f_36:Fm K mg "_law_weak" "_law_weak" lc A.a_36 A.d_36 ["_law_many"]
 f_31:Fm K mg "_law_stamper" "_law_stamper" wA A.a_31 A.d_31 ["_law_cell"]
 f_44:Fm K mg "is_bits" "is_bits" xj A.a_44 A.d_44 ["thing"]
 f_12:Fun K "__init__" "Knot.__init__" vH A.a_12 A.d_12
 b_12:be K A.d_12 ["self", "stamper", "term"] []
 f_0:Fun K "__init__" "Bare.__init__" s_0 A.a_0 A.d_0
 b_0:be K A.d_0 ["self", "stamper"] []
 f_19:Fun K "__init__" "Table.__init__" vV A.a_19 A.d_19
 b_19:be K A.d_19 ["self", "stamper", "bits"] []
 f_28:Fm K mg "_law_key" "_law_key" xq A.a_28 A.d_28 ["_law_bits_here", "_law_cell", "_law_others"]
 f_47:Fm K mg "is_key" "is_key" xD A.a_47 A.d_47 ["bits", "thing"]
 f_1:Fun K "found" "Bare.found" s_1 A.a_1 A.d_1
 b_1:be K A.d_1 ["self", "bits", "key"] []
 f_14:Fun K "found" "Leaf.found" xG A.a_14 A.d_14
 b_14:be K A.d_14 ["self", "bits", "key"] []
 f_58:Fm K mg "side" "side" vi A.a_58 A.d_58 ["bits", "key", "depth"]
 f_9:Fun K "toward" "Fork.toward" s_9 A.a_9 A.d_9
 b_9:be K A.d_9 ["self", "bits", "key"] []
 f_7:Fun K "found" "Fork.found" s_7 A.a_7 A.d_7
 b_7:be K A.d_7 ["self", "bits", "key"] []
 f_24:Fun K "value_of" "Table.value_of" xu A.a_24 A.d_24
 b_24:be K A.d_24 ["self", "key"] []
 f_3:Fun K "without" "Bare.without" s_3 A.a_3 A.d_3
 b_3:be K A.d_3 ["self", "stamper", "bits", "key"] []
 f_16:Fun K "without" "Leaf.without" vt A.a_16 A.d_16
 b_16:be K A.d_16 ["self", "stamper", "bits", "key"] []
 f_5:Fun K "aside" "Fork.aside" s_5 A.a_5 A.d_5
 b_5:be K A.d_5 ["self", "bits", "key"] []
 f_4:Fun K "__init__" "Fork.__init__" s_4 A.a_4 A.d_4
 b_4:be K A.d_4 ["self", "stamper", "depth", "begin", "left", "right"] []
 f_6:Fun K "changed" "Fork.changed" s_6 A.a_6 A.d_6
 b_6:be K A.d_6 ["self", "stamper", "bits", "key", "knot"] []
 f_11:Fun K "without" "Fork.without" vA A.a_11 A.d_11
 b_11:be K A.d_11 ["self", "stamper", "bits", "key"] []
 f_22:Fun K "take" "Table.take" xF A.a_22 A.d_22
 b_22:be K A.d_22 ["self", "key"] []
 f_34:Fm K mg "_law_text" "_law_text" xc A.a_34 A.d_34 ["_law_cell"]
 f_53:Fm K mg "is_value" "is_value" wH A.a_53 A.d_53 ["thing"]
 f_13:Fun K "__init__" "Leaf.__init__" xX A.a_13 A.d_13
 b_13:be K A.d_13 ["self", "stamper", "key", "value"] []
 f_2:Fun K "with_key" "Bare.with_key" s_2 A.a_2 A.d_2
 b_2:be K A.d_2 ["self", "stamper", "bits", "key", "value"] []
 f_64:Fm K mg "start" "start" wg A.a_64 A.d_64 ["bits", "key", "depth"]
 f_55:Fm K mg "joined" "joined" we A.a_55 A.d_55 ["stamper", "bits", "depth", "leaf", "knot"]
 f_40:Fm K mg "alike" "alike" xC A.a_40 A.d_40 ["bits", "one", "other"]
 f_15:Fun K "with_key" "Leaf.with_key" vB A.a_15 A.d_15
 b_15:be K A.d_15 ["self", "stamper", "bits", "key", "value"] []
 f_8:Fun K "leads" "Fork.leads" s_8 A.a_8 A.d_8
 b_8:be K A.d_8 ["self", "bits", "key"] []
 f_10:Fun K "with_key" "Fork.with_key" vW A.a_10 A.d_10
 b_10:be K A.d_10 ["self", "stamper", "bits", "key", "value"] []
 f_20:Fun K "put" "Table.put" vS A.a_20 A.d_20
 b_20:be K A.d_20 ["self", "key", "value"] []
 f_27:Fm K mg "_law_deed" "_law_deed" wY A.a_27 A.d_27 ["_law_table", "_law_bits_here", "_law_known", "_law_keys", "_law_cell"]
 f_23:Fun K "twin" "Table.twin" wj A.a_23 A.d_23
 b_23:be K A.d_23 ["self"] []
 f_21:Fun K "root" "Table.root" xI A.a_21 A.d_21
 b_21:be K A.d_21 ["self"] []
 f_61:Fm K mg "slip_of" "slip_of" yd A.a_61 A.d_61 ["table", "key"]
 f_51:Fm K mg "is_step" "is_step" xB A.a_51 A.d_51 ["bits", "least", "thing"]
 f_41:Fm K mg "are_steps" "are_steps" xS A.a_41 A.d_41 ["bits", "thing"]
 f_48:Fm K mg "is_leaf" "is_leaf" wG A.a_48 A.d_48 ["bits", "depth", "begin", "thing"]
 f_46:Fm K mg "is_fork" "is_fork" xQ A.a_46 A.d_46 ["bits", "depth", "begin", "thing"]
 f_45:Fm K mg "is_end" "is_end" xg A.a_45 A.d_45 ["bits", "key", "place", "thing"]
 f_49:Fm K mg "is_slip" "is_slip" vv A.a_49 A.d_49 ["bits", "key", "thing"]
 f_65:Fm K mg "step_term" "step_term" xO A.a_65 A.d_65 ["bits", "key", "step", "mark"]
 f_62:Fm K mg "slip_terms" "slip_terms" xk A.a_62 A.d_62 ["stamper", "bits", "key", "slip"]
 f_60:Fm K mg "slip_mark" "slip_mark" vJ A.a_60 A.d_60 ["stamper", "bits", "key", "slip"]
 f_30:Fm K mg "_law_same" "_law_same" wo A.a_30 A.d_30 ["_law_found", "_law_due"]
 f_63:Fm K mg "slip_value" "slip_value" vY A.a_63 A.d_63 ["key", "slip"]
 f_59:Fm K mg "slip_answer" "slip_answer" wK A.a_59 A.d_59 ["stamper", "bits", "mark", "key", "slip"]
 f_35:Fm K mg "_law_told_right" "_law_told_right" wz A.a_35 A.d_35 ["_law_table", "_law_stamper_here", "_law_bits_here", "_law_root", "_law_known", "_law_key_here"]
 f_29:Fm K mg "_law_olds_right" "_law_olds_right" xp A.a_29 A.d_29 ["_law_olds", "_law_stamper_here", "_law_bits_here", "_law_keys"]
 f_56:Fm K mg "law" "law" xa A.a_56 A.d_56 ["_law_script"]
 z_all:mg "all" =none
 z_bool:mg "bool" =none
 z_dict:mg "dict" =none
 z_enumerate:mg "enumerate" =none
 z_int:mg "int" =none
 z_isinstance:mg "isinstance" =none
 z_len:mg "len" =none
 z_ord:mg "ord" =none
 z_range:mg "range" =none
 z_reversed:mg "reversed" =none
 z_sorted:mg "sorted" =none
 z_str:mg "str" =none
 z_sum:mg "sum" =none
 z_tuple:mg "tuple" =none
 c_MOST_BITS:∃ t,mg "MOST_BITS" =some (.int 60 t)
 c_MOST_PARTS:∃ t,mg "MOST_PARTS" =some (.int 8 t)
 c_MOST_SIGNS:∃ t,mg "MOST_SIGNS" =some (.int 60 t)
 kc_66:A.d_66.code=.ref A.k_66
 kc_42:A.d_42.code=.ref A.k_42
 kc_38:A.d_38.code=.ref A.k_38
 kc_32:A.d_32.code=.ref A.k_32
 kc_36:A.d_36.code=.ref A.k_36
 mc_Numbers:mg "Numbers" =some (.ref A.c_Numbers)
 cl_Numbers:Cls K A.c_Numbers
 na_Numbers_given:bz K A.c_Numbers "given"
 mc_Knot:mg "Knot" =some (.ref A.c_Knot)
 cl_Knot:Cls K A.c_Knot
 na_Knot_term:bz K A.c_Knot "term"
 na_Knot_mark:bz K A.c_Knot "mark"
 mc_Bare:mg "Bare" =some (.ref A.c_Bare)
 cl_Bare:Cls K A.c_Bare
 na_Bare_term:bz K A.c_Bare "term"
 na_Bare_mark:bz K A.c_Bare "mark"
 mc_Fork:mg "Fork" =some (.ref A.c_Fork)
 cl_Fork:Cls K A.c_Fork
 na_Fork_depth:bz K A.c_Fork "depth"
 na_Fork_begin:bz K A.c_Fork "begin"
 na_Fork_left:bz K A.c_Fork "left"
 na_Fork_right:bz K A.c_Fork "right"
 na_Fork_term:bz K A.c_Fork "term"
 na_Fork_mark:bz K A.c_Fork "mark"
 mc_Leaf:mg "Leaf" =some (.ref A.c_Leaf)
 cl_Leaf:Cls K A.c_Leaf
 na_Leaf_key:bz K A.c_Leaf "key"
 na_Leaf_text:bz K A.c_Leaf "text"
 na_Leaf_term:bz K A.c_Leaf "term"
 na_Leaf_mark:bz K A.c_Leaf "mark"
 mc_Table:mg "Table" =some (.ref A.c_Table)
 cl_Table:Cls K A.c_Table
 na_Table_stamper:bz K A.c_Table "stamper"
 na_Table_bits:bz K A.c_Table "bits"
 na_Table_top:bz K A.c_Table "top"
 me_Fork_toward:cH K A.c_Fork "toward" A.a_9
 me_Bare_found:cH K A.c_Bare "found" A.a_1
 me_Leaf_found:cH K A.c_Leaf "found" A.a_14
 me_Fork_found:cH K A.c_Fork "found" A.a_7
 me_Fork_changed:cH K A.c_Fork "changed" A.a_6
 me_Fork_aside:cH K A.c_Fork "aside" A.a_5
 me_Bare_without:cH K A.c_Bare "without" A.a_3
 me_Leaf_without:cH K A.c_Leaf "without" A.a_16
 me_Fork_without:cH K A.c_Fork "without" A.a_11
 me_Table_value_of:cH K A.c_Table "value_of" A.a_24
 me_Bare_with_key:cH K A.c_Bare "with_key" A.a_2
 me_Leaf_with_key:cH K A.c_Leaf "with_key" A.a_15
 me_Fork_with_key:cH K A.c_Fork "with_key" A.a_10
 me_Fork_leads:cH K A.c_Fork "leads" A.a_8
 me_Table_put:cH K A.c_Table "put" A.a_20
 me_Table_take:cH K A.c_Table "take" A.a_22
 me_Table_root:cH K A.c_Table "root" A.a_21
 me_Table_twin:cH K A.c_Table "twin" A.a_23
 me_Numbers_number_of:cH K A.c_Numbers "number_of" A.a_18
 mk_Numbers:Mk K A.c_Numbers A.a_17
 mk_Bare:Mk K A.c_Bare A.a_0
 mk_Fork:Mk K A.c_Fork A.a_4
 mk_Leaf:Mk K A.c_Leaf A.a_13
 mk_Table:Mk K A.c_Table A.a_19
 cf_Knot:yw K A.c_Knot "__init__" A.a_12
 oi_Bare:jL K A.c_Bare
 oi_Fork:jL K A.c_Fork
 oi_Leaf:jL K A.c_Leaf
 ko_Bare_Bare:W.kitOne K (.ref A.c_Bare) (.ref A.c_Bare)=some true
 ko_Bare_Fork:W.kitOne K (.ref A.c_Bare) (.ref A.c_Fork)=some false
 ko_Fork_Bare:W.kitOne K (.ref A.c_Fork) (.ref A.c_Bare)=some false
 ko_Fork_Fork:W.kitOne K (.ref A.c_Fork) (.ref A.c_Fork)=some true
 ko_Leaf_Bare:W.kitOne K (.ref A.c_Leaf) (.ref A.c_Bare)=some false
 ko_Leaf_Fork:W.kitOne K (.ref A.c_Leaf) (.ref A.c_Fork)=some false
def nP (A:Adr) (H:Hp):Prop:=H A.t_66=some (.tbl #[])∧H A.t_42=some (.tbl #[])∧H A.t_38=some (.tbl #[])∧H A.t_32=some (.tbl #[])∧H A.t_36=some (.tbl #[])∧([A.t_66,A.t_42,A.t_38,A.t_32,A.t_36]:List Addr).Nodup
theorem GS:dR ["term"] ["term"] [] fJ.scope:=⟨rfl,rfl,rfl,by decide +kernel,rfl,rfl,by decide +kernel,by decide +kernel,by decide +kernel,by decide +kernel,by decide +kernel⟩
theorem GL:dR ["term", "numbers"] ["term"] ["numbers"] fY.scope:=⟨rfl,rfl,rfl,by decide +kernel,rfl,rfl,by decide +kernel,by decide +kernel,by decide +kernel,by decide +kernel,by decide +kernel⟩
theorem HQ:dR ["_law_term", "_law_known", "_law_first"] ["_law_term"] ["_law_known", "_law_first"] fV.scope:=⟨rfl,rfl,rfl,by decide +kernel,rfl,rfl,by decide +kernel,by decide +kernel,by decide +kernel,by decide +kernel,by decide +kernel⟩
theorem GF:dR ["_law_term", "_law_known"] ["_law_term"] ["_law_known"] gg.scope:=⟨rfl,rfl,rfl,by decide +kernel,rfl,rfl,by decide +kernel,by decide +kernel,by decide +kernel,by decide +kernel,by decide +kernel⟩
theorem jN:dR ["_law_term", "_law_total", "_law_part", "_law_signs", "_law_many"] ["_law_term"] ["_law_many"] fU.scope:=⟨rfl,rfl,rfl,by decide +kernel,rfl,rfl,by decide +kernel,by decide +kernel,by decide +kernel,by decide +kernel,by decide +kernel⟩
theorem HI:av ["thing"] ["thing"] (af vD):=scF
theorem FL:av ["thing"] ["thing"] (af wa):=scF
theorem Gn:av ["thing"] ["thing"] (af wB):=scF
theorem zp:av ["part", "signs"] ["part"] (af xb):=scF
theorem GZ:av ["term"] ["term"] (af wR):=scF
theorem Fq:av ["self", "term"] ["self", "term"] (af vw):=scF
theorem FP:av ["_law_cell"] ["_law_cell"] (af wV):=scF
theorem lP:av ["_law_script", "_law_k", "_law_number_here", "_law_cell"] ["_law_script", "_law_k"] (af vk):=scF
theorem Hz:av [] [] (af lg):=scF
theorem Ez:av ["self"] ["self"] (af wN):=scF
theorem zh:av ["numbers"] [] (af lf):=scF
theorem rC:av ["_law_known", "_law_word"] [] (af kQ):=scF
theorem sr:av ["_law_first", "_law_known", "_law_number"] ["_law_first"] (af kM):=scF
theorem zc:av ["_law_many", "_law_short"] ["_law_many"] (af lc):=scF
theorem yQ:av ["_law_cell", "_law_way"] ["_law_cell"] (af wA):=scF
theorem FK:av ["thing"] ["thing"] (af xj):=scF
theorem GX:av ["self", "stamper", "term"] ["self", "stamper", "term"] (af vH):=scF
theorem Ip:av ["self", "stamper"] ["self", "stamper"] (af s_0):=scF
theorem Ft:av ["self", "stamper", "bits"] ["self", "stamper", "bits"] (af vV):=scF
theorem og:av ["_law_bits_here", "_law_cell", "_law_others", "_law_many", "_law_number_here", "_law_flip"] ["_law_bits_here", "_law_cell", "_law_others"] (af xq):=scF
theorem Gf:av ["bits", "thing"] ["bits", "thing"] (af xD):=scF
theorem Jz:av ["self", "bits", "key"] ["self", "bits", "key"] (af s_1):=scF
theorem GE:av ["self", "bits", "key"] ["self", "bits", "key"] (af xG):=scF
theorem Gy:av ["bits", "key", "depth"] ["bits", "key", "depth"] (af vi):=scF
theorem ID:av ["self", "bits", "key"] ["self", "bits", "key"] (af s_9):=scF
theorem Iv:av ["self", "bits", "key"] ["self", "bits", "key"] (af s_7):=scF
theorem Ey:av ["self", "key"] ["self", "key"] (af xu):=scF
theorem IB:av ["self", "stamper", "bits", "key"] ["self", "stamper", "bits", "key"] (af s_3):=scF
theorem ET:av ["self", "stamper", "bits", "key"] ["self", "stamper", "bits", "key"] (af vt):=scF
theorem Jc:av ["self", "bits", "key"] ["self", "bits", "key"] (af s_5):=scF
theorem IF:av ["self", "stamper", "depth", "begin", "left", "right"] ["self", "stamper", "depth", "begin", "left", "right"] (af s_4):=scF
theorem Ik:av ["self", "stamper", "bits", "key", "knot"] ["self", "stamper", "bits", "key", "knot"] (af s_6):=scF
theorem yB:av ["self", "stamper", "bits", "key", "rest"] ["self", "stamper", "bits", "key"] (af vA):=scF
theorem zd:av ["self", "key", "before"] ["self", "key"] (af xF):=scF
theorem gf:av ["_law_cell", "_law_signs", "_law_size", "_law_made", "_law_k"] ["_law_cell"] (af xc):=scF
theorem GU:av ["thing"] ["thing"] (af wH):=scF
theorem Ex:av ["self", "stamper", "key", "value"] ["self", "stamper", "key", "value"] (af xX):=scF
theorem IG:av ["self", "stamper", "bits", "key", "value"] ["self", "stamper", "bits", "key", "value"] (af s_2):=scF
theorem EG:av ["bits", "key", "depth"] ["bits", "key", "depth"] (af wg):=scF
theorem yC:av ["stamper", "bits", "depth", "leaf", "knot", "begin"] ["stamper", "bits", "depth", "leaf", "knot"] (af we):=scF
theorem ER:av ["bits", "one", "other"] ["bits", "one", "other"] (af xC):=scF
theorem yX:av ["self", "stamper", "bits", "key", "value", "leaf"] ["self", "stamper", "bits", "key", "value"] (af vB):=scF
theorem II:av ["self", "bits", "key"] ["self", "bits", "key"] (af s_8):=scF
theorem yW:av ["self", "stamper", "bits", "key", "value", "depth"] ["self", "stamper", "bits", "key", "value"] (af vW):=scF
theorem yk:av ["self", "key", "value", "before"] ["self", "key", "value"] (af vS):=scF
theorem lm:av ["_law_table", "_law_bits_here", "_law_known", "_law_keys", "_law_cell", "_law_number_here", "_law_key_here", "_law_told"] ["_law_table", "_law_bits_here", "_law_known", "_law_keys", "_law_cell"] (af wY):=scF
theorem yy:av ["self", "other"] ["self"] (af wj):=scF
theorem EB:av ["self"] ["self"] (af xI):=scF
theorem oE:av ["table", "key", "steps", "knot"] ["table", "key"] (af yd):=scF
theorem Gp:av ["bits", "least", "thing"] ["bits", "least", "thing"] (af xB):=scF
theorem oq:av ["bits", "thing", "least", "step"] ["bits", "thing"] (af xS):=scF
theorem HP:av ["bits", "depth", "begin", "thing"] ["bits", "depth", "begin", "thing"] (af wG):=scF
theorem GY:av ["bits", "depth", "begin", "thing"] ["bits", "depth", "begin", "thing"] (af xQ):=scF
theorem yu:av ["bits", "key", "place", "thing", "begin"] ["bits", "key", "place", "thing"] (af xg):=scF
theorem yR:av ["bits", "key", "thing", "place"] ["bits", "key", "thing"] (af vv):=scF
theorem sA:av ["bits", "key", "step", "mark", "depth", "begin"] ["bits", "key", "step", "mark"] (af xO):=scF
theorem sT:av ["stamper", "bits", "key", "slip", "terms", "step"] ["stamper", "bits", "key", "slip"] (af xk):=scF
theorem EC:av ["stamper", "bits", "key", "slip"] ["stamper", "bits", "key", "slip"] (af vJ):=scF
theorem Gj:av ["_law_found", "_law_due"] ["_law_found", "_law_due"] (af wo):=scF
theorem yG:av ["key", "slip", "end"] ["key", "slip"] (af vY):=scF
theorem zn:av ["stamper", "bits", "mark", "key", "slip", "came"] ["stamper", "bits", "mark", "key", "slip"] (af wK):=scF
theorem sW:av ["_law_table", "_law_stamper_here", "_law_bits_here", "_law_root", "_law_known", "_law_key_here", "_law_slip", "_law_many"] ["_law_table", "_law_stamper_here", "_law_bits_here", "_law_root", "_law_known", "_law_key_here"] (af wz):=scF
theorem sf:av ["_law_olds", "_law_stamper_here", "_law_bits_here", "_law_keys", "_law_twin_then", "_law_known", "_law_root", "_law_key_here", "_law_slip", "_law_other"] ["_law_olds", "_law_stamper_here", "_law_bits_here", "_law_keys"] (af xp):=scF
theorem eK:av ["_law_script", "_law_bits_here", "_law_stamper_here", "_law_table", "_law_known", "_law_keys", "_law_olds", "_law_cell", "_law_key_here", "_law_asked"] ["_law_script"] (af xa):=scF
end Rs
namespace Rs
open PySem PySem.Spec PyProof.Rows L2
inductive Dat where
 | non
 | bl (b:Bool)
 | int (i:Int)
 | str (z:Str)
 | lst (ds:List Dat)
 | tup (ds:List Dat)
 | dic
mutual
inductive aY (H:Hp):V→Dat→Prop
 | non:aY H .non .non
 | bl (b):aY H (.bl b) (.bl b)
 | int (i):aY H (.int i) (.int i)
 | str (z):aY H (.str z) (.str z)
 | lst {a xs ds}:H a=some (.lst xs)→DatWs H xs ds→aY H (.ref a) (.lst ds)
 | tup {a xs ds}:H a=some (.tup xs)→DatWs H xs ds→aY H (.ref a) (.tup ds)
 | dic {a}:(∃ kvs,H a=some (.dK kvs))→aY H (.ref a) .dic
inductive DatWs (H:Hp):List V→List Dat→Prop
 | nil:DatWs H [] []
 | cons {x xs d ds}:aY H x d→DatWs H xs ds→DatWs H (x::xs) (d::ds)
end
mutual
def dL:Dat→PyData
 | .non=> .none
 | .bl b=> .bool b
 | .int i=> .int i
 | .str z=> .str z
 | .lst ds=> .list (toPys ds)
 | .tup ds=> .tuple (toPys ds)
 | .dic=> .none
def toPys:List Dat→List PyData
 | []=>[]
 | d::r=>dL d::toPys r
end
def bW (z:Str):Bool:=z.cps.all (·<128)
mutual
def okD:Dat→Bool
 | .str z=>bW z&&decide (z.length≤100000)
 | .lst ds=>okDs ds
 | .tup ds=>okDs ds
 | .dic=>false
 | .non=>true
 | .bl _=>true
 | .int _=>true
def okDs:List Dat→Bool
 | []=>true
 | d::r=>okD d&&okDs r
end
def wU:Dat→Bool
 | .int _=>true
 | _=>false
def bB:Dat→Bool
 | .int i=>decide (0≤i∧i<10^60)
 | .str _=>true
 | _=>false
def cv (w:Str):Dat→Bool
 | .str z=>decide (z=w)
 | _=>false
def cY (bits:Int):Dat→Bool
 | .int i=>decide (0≤i∧i<2^bits.toNat)
 | _=>false
def cT:Dat→Bool
 | .str z=>decide (z.length≤60)
 | _=>false
def bi (bits key depth:Int):Int:=key/2^(bits - depth).toNat
def eV (bits depth begin:Int):Dat→Bool
 | .tup [w,.int k,z]=>cv "leaf" w&&decide (0≤k∧k<2^bits.toNat)&&cT z&&decide (bi bits k depth=begin)
 | _=>false
def cL (bits depth begin:Int):Dat→Bool
 | .tup [w,.int e,.int b,_,_]=>cv "fork" w&&decide (depth≤e∧e<bits)&&decide (0≤b∧b<2^e.toNat)&&decide (b/2^(e - depth).toNat=begin)
 | _=>false
def gn:Dat→Bool
 | .tup [w]=>cv "bare" w
 | _=>false
def bG (bits least:Int):Dat→Bool
 | .tup [.int d,m]=>decide (least≤d∧d<bits)&&bB m
 | _=>false
def dY:Dat→Int
 | .tup (.int d::_)=>d
 | _=>0
def bo (bits:Int):Int→List Dat→Bool
 | _,[]=>true
 | least,s::r=>bG bits least s&&bo bits (dY s+1) r
def sy (bits key:Int):Dat→Bool
 | .tup [_,.int e,.int b,m,n]=> !decide (b=bi bits key e)&&bB m&&bB n
 | _=>false
def de (bits key place:Int) (d:Dat):Bool:=
 if gn d then decide (place=0)
 else eV bits place (bi bits key place) d||(cL bits place (bi bits key place) d&&sy bits key d)
def iB (ds:List Dat):Int:=match ds.getLast? with
 | some s=>dY s+1
 | none=>0
def jY (bits key:Int):Dat→Bool
 | .tup [.tup ds,e]=>bo bits 0 ds&&de bits key (iB ds) e
 | _=>false
def fX (d:Dat):Prop:=(okD d=true∧(dL d).depth≤140)∨d=.dic
def fG (K:W.Frag) (A:Adr):Sp:=fun vs H Q _=>∃ v d,vs=[v]∧aY H v d∧Q (.bl (wU d)) H
def jd (K:W.Frag) (A:Adr):Sp:=fun vs H Q _=>∃ v d,vs=[v]∧aY H v d∧Q (.bl (bB d)) H
def fH (K:W.Frag) (A:Adr):Sp:=fun vs H Q _=>∃ (b k d:Int),vs=[.int b,.int k,.int d]∧d≤b∧Q (.int (bi b k d)) H
def iI (K:W.Frag) (A:Adr):Sp:=fun vs H Q _=>∃ (b:Int) (v:V) (d:Dat),vs=[.int b,v]∧0≤b∧b≤60∧aY H v d∧Q (.bl (cY b d)) H
def lp (K:W.Frag) (A:Adr):Sp:=fun vs H Q _=>∃ (v:V) (d:Dat),vs=[v]∧aY H v d∧okD d=true∧Q (.bl (cT d)) H
def nY (K:W.Frag) (A:Adr):Sp:=fun vs H Q _=>∃ (b p g:Int) (v:V) (d:Dat),vs=[.int b,.int p,.int g,v]∧0≤b∧b≤60∧p≤b∧aY H v d∧fX d∧Q (.bl (eV b p g d)) H
def ow (K:W.Frag) (A:Adr):Sp:=fun vs H Q _=>∃ (b p g:Int) (v:V) (d:Dat),vs=[.int b,.int p,.int g,v]∧0≤p∧b≤60∧p≤b∧aY H v d∧fX d∧Q (.bl (cL b p g d)) H
def oF (K:W.Frag) (A:Adr):Sp:=fun vs H Q _=>∃ (b l:Int) (v:V) (d:Dat),vs=[.int b,.int l,v]∧aY H v d∧Q (.bl (bG b l d)) H
def oH (K:W.Frag) (A:Adr):Sp:=fun vs H Q _=>∃ (b:Int) (v:V) (d:Dat),vs=[.int b,v]∧aY H v d∧Q (.bl (match d with | .tup ds=>bo b 0 ds | _=>false)) H
def nU (K:W.Frag) (A:Adr):Sp:=fun vs H Q _=>∃ (b k p:Int) (v:V) (d:Dat),vs=[.int b,.int k,.int p,v]∧0≤p∧b≤60∧p≤b∧aY H v d∧fX d∧∀ H',ay H H'→Q (.bl (de b k p d)) H'
def AH:Dat→Prop
 | .tup [_,e]=>fX e
 | _=>True
def nR (K:W.Frag) (A:Adr):Sp:=fun vs H Q _=>∃ (b k:Int) (v:V) (d:Dat),vs=[.int b,.int k,v]∧0≤b∧b≤60∧aY H v d∧AH d∧∀ H',ay H H'→Q (.bl (jY b k d)) H'
def bv:Key→Dat
 | .inl i=> .int i
 | .inr z=> .str z
def szK:Key→Nat
 | .inl _=>62
 | .inr z=>z.length+62
def stD (s:Int×Key):Dat:=.tup [.int s.1,bv s.2]
def dQ (low:Int) (ds:List Dat):Int:=match ds.getLast? with
 | some s=>dY s+1
 | none=>low
def gZ (K:W.Frag) (A:Adr):Sp:=fun vs H Q _=>∃ (a:Addr) (ns:List Int) (k:Int),vs=[.ref a,.int k]∧SqL K H a (ns.map V.int)∧0≤k∧∀ (z:Int) (H':Hp),ay H H'→Q (.int z) H'
def om (K:W.Frag) (A:Adr):Sp:=fun vs H Q _=>∃ c:Int,vs=[.int c]∧∀ (b:Int) (H':Hp),ay H H'→1≤b→b≤60→Q (.int b) H'
def jb (K:W.Frag) (A:Adr):Sp:=fun vs H Q _=>∃ (b c:Int) (o:Addr) (ks:List Int),vs=[.int b,.int c,.ref o]∧1≤b∧b≤60∧H o=some (.lst (ks.map V.int))∧ks.length≤100∧(∀ k∈ks,0≤k∧k<2^b.toNat)∧∀ (k:Int) (H':Hp),ay H H'→0≤k→k<2^b.toNat→Q (.int k) H'
def lW (K:W.Frag) (A:Adr):Sp:=fun vs H Q _=>∃ c:Int,vs=[.int c]∧∀ (z:Str) (H':Hp),ay H H'→z.length≤60→bW z=true→Q (.str z) H'
def okP:Key→Bool
 | .inl i=>decide (0≤i∧i<10^60)
 | .inr z=>bW z&&decide (z.length≤100000)
def rO:Key→Bool
 | .inr _=>true
 | .inl _=>false
def okT (k:List Key):Bool:=decide (1≤k.length∧k.length≤8)&&(k.head?.map rO).getD false&&k.all okP
def szT (k:List Key):Nat:=(k.map szK).sum
def mt (k:List Key):Key→Prop
 | .inl i=>0≤i∧i<10^60
 | .inr z=>bW z=true∧z.length≤szT k
def gS (t:Int):Key→Int
 | .inr z=>t*7+z.length+2*((PySem.Txt.slice z none (some 2)).cps.toList.map fun c=>((c:Nat):Int)).sum
 | .inl i=>t*5+i
def sR (m:Int) (k:List Key):Key:=.inl (k.foldl gS 0%m)
def eG:Key→Str
 | .inl i=>toString i++ ";"
 | .inr z=>toString (z.length:Int)++ ":" ++z
def fZ:List Key→Str
 | []=>Str.empty
 | x::r=>eG x++fZ r
def lG (H H':Hp):Prop:=∀ b o,H b=some o→(∀ ps,o≠ .tbl ps)→H' b=some o
def cg (kvs:List (List Key×Key)):List (List Key×V):=kvs.map fun p=>(p.1,kV p.2)
def dh (kvs:List (List Key×Key)) (k:List Key):Option Key:=(kvs.find? fun p=>decide (p.1=k)).map (·.2)
def gK:Key→Prop
 | .inl i=>0≤i∧i<10^60
 | .inr z=>bW z=true∧z.length≤62
def fg (kvs:List (List Key×Key)):Prop:=∀ p∈kvs,gK p.2
structure fW (A:Adr) (H:Hp) (x d:Addr) (kvs:List (List Key×V)):Prop where
 ob:∃ dx,H x=some (.ins A.c_Numbers dx [("given",.ref d)])
 di:H d=some (.dT kvs)
def aW (b:Addr) (H H':Hp):Prop:=∀ x o,x≠b→H x=some o→H' x=some o
inductive Stp (A:Adr) (H:Hp) (f b:Addr) (g:List Key→Option Key) (n:Nat):Prop
 | wri (hc:dw H f fJ [] []) (hb:b=f) (hg:g=fun k=>some (.inr (fZ k)))
 | cnt (q x:Addr) (kvs:List (List Key×Key)) (hc:dw H f fY [q] [.ref x]) (num:fW A H x b (cg kvs)) (hl:kvs.length≤n) (hs:fg kvs) (hg:g=dh kvs)
 | sur (q0 q1:Addr) (j:Int) (h0:0≤j) (h1:j<1000) (kvs:List (List Key×Key)) (hc:dw H f fV [q1,q0] [.ref b,.int j]) (hb:H b=some (.dT (cg kvs))) (hl:kvs.length≤n) (hs:fg kvs) (hg:g=dh kvs)
 | wor (q:Addr) (kvs:List (List Key×Key)) (hc:dw H f gg [q] [.ref b]) (hb:H b=some (.dT (cg kvs))) (hl:kvs.length≤n) (hs:fg kvs) (hg:g=dh kvs)
 | wea (q:Addr) (m:Int) (h1:1≤m) (h2:m≤9) (hc:dw H f fU [q] [.int m]) (hb:b=f) (hg:g=fun k=>some (sR m k))
def Sub (g g':List Key→Option Key):Prop:=∀ k v,g k=some v→g' k=some v
def Ext (g:List Key→Option Key) (h:List Key→Key):Prop:=∀ k v,g k=some v→h k=v
abbrev PK (H:Hp):List Addr→List (List Key)→Prop:=Paired (fun (p:Addr) (k:List Key)=>H p=some (.tup (k.map kV))∧okT k=true)
def lQ (K:W.Frag) (A:Adr):Sp:=fun vs H Q _=>∃ (p:Addr) (k:List Key),vs=[.ref p]∧H p=some (.tup (k.map kV))∧okT k=true∧∀ H',ay H H'→Q (.bl true) H'
def oB (K:W.Frag) (A:Adr):Sp:=fun vs H Q _=>∃ x:Key,vs=[kV x]∧okP x=true∧Q (.str (eG x)) H
def lr (K:W.Frag) (A:Adr):Sp:=fun vs H Q _=>∃ (p:Addr) (k:List Key),vs=[.ref p]∧H p=some (.tup (k.map kV))∧okT k=true∧∀ H',ay H H'→Q (.str (fZ k)) H'
def sh (K:W.Frag) (A:Adr):Sp:=lr K A
def ig (kvs:List (List Key×V)) (kk:List Key) (d:V):V:=(bK kvs kk).getD d
def hU (H:Hp) (b:Addr) (kvs:List (List Key×V)) (kk:List Key) (d:V):Hp:=if (bK kvs kk).isSome=true then H else upd H b (.dT (cB kvs kk d))
def oh (K:W.Frag) (A:Adr):Sp:=fun vs H Q _=>∃ x dx,vs=[.ref x]∧H x=some (.ins A.c_Numbers dx [])∧∀ d,H d=none→Q .non (upd (upd H d (.dT [])) x (.ins A.c_Numbers dx [("given",.ref d)]))
def ox (K:W.Frag) (A:Adr):Sp:=fun vs H Q _=>∃ (x d p:Addr) (kvs:List (List Key×V)) (k:List Key),vs=[.ref x,.ref p]∧fW A H x d kvs∧kvs.length≤50000∧H p=some (.tup (k.map kV))∧okT k=true∧∀ H',ay H H'→Q (ig kvs k (.int kvs.length)) (hU H' d kvs k (.int kvs.length))
def sN (K:W.Frag) (A:Adr):Sp:=fun vs H Q _=>∃ (x d p:Addr) (kvs:List (List Key×V)) (k:List Key),vs=[.ref p,.ref x]∧fW A H x d kvs∧kvs.length≤50000∧H p=some (.tup (k.map kV))∧okT k=true∧∀ H',ay H H'→Q (ig kvs k (.int kvs.length)) (hU H' d kvs k (.int kvs.length))
def rB (K:W.Frag) (A:Adr):Sp:=fun vs H Q _=>∃ (p b:Addr) (j:Int) (k:List Key) (kvs:List (List Key×V)),vs=[.ref p,.ref b,.int j]∧H p=some (.tup (k.map kV))∧H b=some (.dT kvs)∧kvs.length≤50000∧Q (ig kvs k (.int (3*(kvs.length:Int)+j))) (hU H b kvs k (.int (3*(kvs.length:Int)+j)))
def gT (n:Nat):Str:=("m" :Str)++((toString (n:Int):String):Str)
def sH (K:W.Frag) (A:Adr):Sp:=fun vs H Q _=>∃ (p b:Addr) (k:List Key) (kvs:List (List Key×V)),vs=[.ref p,.ref b]∧H p=some (.tup (k.map kV))∧H b=some (.dT kvs)∧kvs.length≤50000∧Q (ig kvs k (.str (gT kvs.length))) (hU H b kvs k (.str (gT kvs.length)))
def rQ (K:W.Frag) (A:Adr):Sp:=fun vs H Q _=>∃ (p:Addr) (m:Int) (k:List Key),vs=[.ref p,.int m]∧1≤m∧m≤9∧H p=some (.tup (k.map kV))∧okT k=true∧∀ H',ay H H'→Q (kV (sR m k)) H'
def bL (P:Addr) (H H':Hp):Prop:=∀ b o,H b=some o→b≠P→H' b=some o
def MkQ (A:Adr) (P:Addr) (H:Hp) (Q:VK):Prop:=∀ (f b:Addr) (g:List Key→Option Key) (H':Hp),bL P H H'→Stp A H' f b g 0→H b=none→Q (.ref f) H'
def oi (K:W.Frag) (A:Adr):Sp:=fun vs H Q _=>vs=[]∧H A.t_66=some (.tbl #[])∧MkQ A A.t_66 H Q
def nO (K:W.Frag) (A:Adr):Sp:=fun vs H Q _=>vs=[]∧H A.t_42=some (.tbl #[])∧MkQ A A.t_42 H Q
def nZ (K:W.Frag) (A:Adr):Sp:=fun vs H Q _=>vs=[]∧H A.t_38=some (.tbl #[])∧MkQ A A.t_38 H Q
def oj (K:W.Frag) (A:Adr):Sp:=fun vs H Q _=>∃ j:Int,vs=[.int j]∧0≤j∧j<1000∧H A.t_32=some (.tbl #[])∧MkQ A A.t_32 H Q
def oa (K:W.Frag) (A:Adr):Sp:=fun vs H Q _=>∃ m:Int,vs=[.int m]∧1≤m∧m≤9∧H A.t_36=some (.tbl #[])∧MkQ A A.t_36 H Q
def lR (K:W.Frag) (A:Adr):Sp:=fun vs H Q _=>∃ c:Int,vs=[.int c]∧nP A H∧∀ (f b:Addr) (g:List Key→Option Key) (H':Hp),lG H H'→Stp A H' f b g 0→H b=none→Q (.ref f) H'
def cV (b k d:Int) (m s:Key):List Key:=if k/2^(b - d - 1).toNat%2=0 then [.inr "fork",.inl d,.inl (bi b k d),s,m] else [.inr "fork",.inl d,.inl (bi b k d),m,s]
def fe (h:List Key→Key) (b k:Int):List Key→List (Int×Key)→List (List Key)
 | e,[]=>[e]
 | e,s::r=>e::fe h b k (cV b k s.1 s.2 (h e)) r
def fE (h:List Key→Key) (b k:Int):List Key→List (Int×Key)→List Key
 | e,[]=>e
 | e,s::r=>fE h b k (cV b k s.1 s.2 (h e)) r
def szS (st:List (Int×Key)):Nat:=(st.map fun s=>szK s.2+252).sum
structure fh (b k:Int) (st:List (Int×Key)) (e:List Key):Prop where
 b1:1≤b
 b60:b≤60
 k0:0≤k
 k1:k<2^b.toNat
 gs:bo b 0 (st.map stD)=true
 so:∀ s∈st,okP s.2=true
 et:okT e=true
 en:de b k (dQ 0 (st.map stD)) (.tup (e.map bv))=true
 sz:szT e+szS st≤100000
def dj (H:Hp) (v:V) (b k:Int) (st:List (Int×Key)) (e:List Key):Prop:=aY H v (.tup [.tup (st.map stD),.tup (e.map bv)])∧fh b k st e
def lw (k:Int):List Key→V
 | [.inr w,.inl x,.inr z]=>if w= "leaf" ∧x=k then .str z else .non
 | _=> .non
def gQ (K:W.Frag) (A:Adr):Sp:=fun vs H Q _=>∃ (b k d:Int),vs=[.int b,.int k,.int d]∧d<b∧0≤k∧Q (.int (k/2^(b - d - 1).toNat%2)) H
def nS (K:W.Frag) (A:Adr):Sp:=fun vs H Q _=>∃ (b k d:Int) (m s:Key) (p:Addr),vs=[.int b,.int k,.ref p,kV s]∧H p=some (.tup [.int d,kV m])∧d<b∧0≤k∧∀ t,H t=none→Q (.ref t) (upd H t (.tup ((cV b k d m s).map kV)))
def EZ (A:Adr) (f b:Addr) (B k:Int) (st:List (Int×Key)) (e:List Key) (g:List Key→Option Key) (n:Nat) (H:Hp) (Q:VK):Prop:=∀ (L:Addr) (ps:List Addr) (ts:List (List Key)) (g':List Key→Option Key) (H':Hp),aW b H H'→Stp A H' f b g' (n+st.length)→Sub g g'→H L=none→H' L=some (.lst (ps.map V.ref))→PK H' ps ts→(∀ k∈ts,szT k≤100000)→(∀ h,Ext g' h→ts=fe h B k e st.reverse)→Q (.ref L) H'
inductive Ask (A:Adr) (H:Hp) (B:Int) (v w:V) (E:XK) (R:Int→List (Int×Key)→List Key→Prop):Prop
 | good (k:Int) (st:List (Int×Key)) (e:List Key) (hv:v=.int k) (s:dj H w B k st e) (q:R k st e)
def oG (K:W.Frag) (A:Adr):Sp:=fun vs H Q E=>∃ (f b:Addr) (B:Int) (v w:V) (g:List Key→Option Key) (n:Nat),vs=[.ref f,.int B,v,w]∧1≤B∧B≤60∧Stp A H f b g n∧n≤40000∧Ask A H B v w E fun k st e=>EZ A f b B k st e g n H Q
def yH (A:Adr) (f b:Addr) (B k:Int) (st:List (Int×Key)) (e:List Key) (g:List Key→Option Key) (n:Nat) (H:Hp) (R:Key→Hp→Prop):Prop:=∀ (x:Key) (g':List Key→Option Key) (H':Hp),aW b H H'→Stp A H' f b g' (n+61)→Sub g g'→okP x=true→(∀ h,Ext g' h→x=h (fE h B k e st.reverse))→R x H'
def ma (K:W.Frag) (A:Adr):Sp:=fun vs H Q E=>∃ (f b:Addr) (B:Int) (v w:V) (g:List Key→Option Key) (n:Nat),vs=[.ref f,.int B,v,w]∧1≤B∧B≤60∧Stp A H f b g n∧n≤40000∧Ask A H B v w E fun k st e=>yH A f b B k st e g n H fun x H'=>Q (kV x) H'
def ot (K:W.Frag) (A:Adr):Sp:=fun vs H Q _=>∃ (b k:Int) (v:V) (st:List (Int×Key)) (e:List Key),vs=[.int k,v]∧dj H v b k st e∧Q (lw k e) H
def jR (K:W.Frag) (A:Adr):Sp:=fun vs H Q _=>∃ v:V,vs=[v,v]∧(v=.non∨∃ z,v=.str z)∧Q (.bl true) H
def jX (K:W.Frag) (A:Adr):Sp:=fun vs H Q E=>∃ (f b:Addr) (B:Int) (m:Key) (v w:V) (g:List Key→Option Key) (n:Nat),vs=[.ref f,.int B,kV m,v,w]∧1≤B∧B≤60∧Stp A H f b g n∧n≤40000∧Ask A H B v w E fun k st e=>yH A f b B k st e g n H fun x H'=>(x=m→Q (lw k e) H')∧(x≠m→False)
def lC (K:W.Frag) (A:Adr):Sp:=fun vs H Q _=>∃ b x y c:Nat,vs=[.int b,.int x,.int y]∧x<2^b∧y<2^b∧mR b x y c∧Q (.int c) H
def fB:Dat→Bool
 | .int i=>decide (1≤i∧i≤60)
 | _=>false
def oo (K:W.Frag) (A:Adr):Sp:=fun vs H Q _=>∃ (v:V) (d:Dat),vs=[v]∧aY H v d∧Q (.bl (fB d)) H
def gX (b D:Addr) (H H':Hp):Prop:=∀ x o,x≠b→x≠D→H x=some o→H' x=some o
def brT:List Key:=[.inr "bare"]
def lfT (k:Nat) (z:Str):List Key:=[.inr "leaf",.inl (k:Int),.inr z]
def fkT (d b:Nat) (l r:Key):List Key:=[.inr "fork",.inl (d:Int),.inl (b:Int),l,r]
def szN:Kn Str→Nat
 | .bare=>200
 | .leaf _ _=>400
 | .fork _ _ l r=>300+szN l+szN r
def eP (z:Str):Prop:=bW z=true∧z.length≤60
inductive KnA (A:Adr) (H:Hp) (g:List Key→Option Key):Addr→Kn Str→Key→Prop
 | bare {x dx t:Addr} {m:Key} (o:H x=some (.ins A.c_Bare dx [("term",.ref t),("mark",kV m)])) (ht:H t=some (.tup (brT.map kV))) (hm:g brT=some m) (ok:okP m=true) (sz:szK m≤200):KnA A H g x .bare m
 | leaf {x dx t:Addr} {m:Key} {k:Nat} {z:Str} (o:H x=some (.ins A.c_Leaf dx [("term",.ref t),("mark",kV m),("key",.int (k:Int)),("text",.str z)])) (ht:H t=some (.tup ((lfT k z).map kV))) (hm:g (lfT k z)=some m) (ok:okP m=true) (sz:szK m≤400) (hz:eP z):KnA A H g x (.leaf k z) m
 | fork {x dx t l r:Addr} {m ml mr:Key} {d b:Nat} {tl tr:Kn Str} (o:H x=some (.ins A.c_Fork dx [("term",.ref t),("mark",kV m),("depth",.int (d:Int)),("begin",.int (b:Int)),("left",.ref l),("right",.ref r)])) (hl:KnA A H g l tl ml) (hr:KnA A H g r tr mr)
  (ht:H t=some (.tup ((fkT d b ml mr).map kV))) (hm:g (fkT d b ml mr)=some m) (ok:okP m=true) (sz:szK m≤szN (.fork d b tl tr)):KnA A H g x (.fork d b tl tr) m
def clK (A:Adr):Kn Str→Addr
 | .bare=>A.c_Bare
 | .leaf _ _=>A.c_Leaf
 | .fork _ _ _ _=>A.c_Fork
def kdK:Kn Str→Nat
 | .bare=>0
 | .leaf _ _=>1
 | .fork _ _ _ _=>2
def hgt:Kn Str→Nat
 | .bare=>0
 | .leaf _ _=>0
 | .fork _ _ l r=>max (hgt l) (hgt r)+1
def fN (B:Nat):Kn Str→Prop
 | .bare=>True
 | .leaf _ _=>True
 | .fork d b l r=>d<B∧b<2^d∧fN B l∧fN B r
def ov:Option Str→V
 | none=> .non
 | some z=> .str z
def KnQ (A:Adr) (H:Hp) (f b:Addr) (g:List Key→Option Key) (n c:Nat) (t:Kn Str) (Q:VK):Prop:=∀ (y:Addr) (m:Key) (g':List Key→Option Key) (H':Hp),aW b H H'→KnA A H' g' y t m→Stp A H' f b g' (n+c)→Sub g g'→Q (.ref y) H'
def kh (K:W.Frag) (A:Adr):Sp:=fun vs H Q _=>∃ (x dx C f b p:Addr) (g:List Key→Option Key) (n:Nat) (k:List Key),vs=[.ref x,.ref f,.ref p]∧H x=some (.ins C dx [])∧Cls K C∧bz K C "term" ∧bz K C "mark" ∧Stp A H f b g n∧n≤45000∧H p=some (.tup (k.map kV))∧okT k=true∧
 ∀ (m:Key) (g':List Key→Option Key) (H':Hp),gX b x H H'→H' x=some (.ins C dx [("term",.ref p),("mark",kV m)])→Stp A H' f b g' (n+1)→Sub g g'→g' k=some m→mt k m→Q .non H'
def InQ (A:Adr) (H:Hp) (x f b:Addr) (g:List Key→Option Key) (n:Nat) (t:Kn Str) (Q:VK):Prop:=∀ (m:Key) (g':List Key→Option Key) (H':Hp),gX b x H H'→KnA A H' g' x t m→Stp A H' f b g' (n+1)→Sub g g'→Q .non H'
def mj (K:W.Frag) (A:Adr):Sp:=fun vs H Q _=>∃ (x dx f b:Addr) (g:List Key→Option Key) (n:Nat),vs=[.ref x,.ref f]∧H x=some (.ins A.c_Bare dx [])∧Stp A H f b g n∧n≤45000∧InQ A H x f b g n .bare Q
def iT (K:W.Frag) (A:Adr):Sp:=fun vs H Q _=>∃ (x dx f b:Addr) (g:List Key→Option Key) (n k:Nat) (z:Str),vs=[.ref x,.ref f,.int (k:Int),.str z]∧H x=some (.ins A.c_Leaf dx [])∧Stp A H f b g n∧n≤45000∧k<2^60∧eP z∧InQ A H x f b g n (.leaf k z) Q
def jy (K:W.Frag) (A:Adr):Sp:=fun vs H Q _=>∃ (x dx f b l r:Addr) (g:List Key→Option Key) (n d e:Nat) (tl tr:Kn Str) (ml mr:Key),vs=[.ref x,.ref f,.int (d:Int),.int (e:Int),.ref l,.ref r]∧H x=some (.ins A.c_Fork dx [])∧Stp A H f b g n∧n≤45000∧d<60∧e<2^60∧KnA A H g l tl ml∧KnA A H g r tr mr∧szN tl+szN tr≤90000∧InQ A H x f b g n (.fork d e tl tr) Q
def Kof (A:Adr) (H:Hp) (i:Nat) (g:List Key→Option Key) (x:Addr) (t:Kn Str) (m:Key):Prop:=KnA A H g x t m∧kdK t=i
def mT (A:Adr) (i:Nat) (n:Nat):Sp:=fun vs H Q _=>∃ (x:Addr) (g:List Key→Option Key) (t:Kn Str) (m:Key) (B key:Nat),vs=[.ref x,.int (B:Int),.int (key:Int)]∧Kof A H i g x t m∧fN B t∧hgt t<n∧Q (ov (aA B key t)) H
def mH (K:W.Frag) (A:Adr):Sp:=mT A 0 70
def jQ (K:W.Frag) (A:Adr):Sp:=mT A 1 70
def kX (K:W.Frag) (A:Adr) (n:Nat):Sp:=mT A 2 n
def hV (A:Adr) (H:Hp) (x:Addr) (d b:Nat) (l r:Addr):Prop:=∃ dx t m,H x=some (.ins A.c_Fork dx [("term",.ref t),("mark",kV m),("depth",.int (d:Int)),("begin",.int (b:Int)),("left",.ref l),("right",.ref r)])
def pG (K:W.Frag) (A:Adr):Sp:=fun vs H Q _=>∃ (x l r:Addr) (d b B key:Nat),vs=[.ref x,.int (B:Int),.int (key:Int)]∧hV A H x d b l r∧d<B∧Q (.bl (decide (st B key d=b))) H
def jw (K:W.Frag) (A:Adr):Sp:=fun vs H Q _=>∃ (x l r:Addr) (d b B key:Nat),vs=[.ref x,.int (B:Int),.int (key:Int)]∧hV A H x d b l r∧d<B∧Q (.ref (if sd B key d=0 then l else r)) H
def mf (K:W.Frag) (A:Adr):Sp:=fun vs H Q _=>∃ (x l r:Addr) (d b B key:Nat),vs=[.ref x,.int (B:Int),.int (key:Int)]∧hV A H x d b l r∧d<B∧Q (.ref (if sd B key d=0 then r else l)) H
structure KnS (A:Adr) (H:Hp) (f b:Addr) (g:List Key→Option Key) (n:Nat) (B:Nat) (x:Addr) (t:Kn Str) (m:Key):Prop where
 k:KnA A H g x t m
 s:Stp A H f b g n
 B60:B≤60
 dp:fN B t
 ln:(aB t).length≤100
 sz:szN t≤80000
def lV (K:W.Frag) (A:Adr):Sp:=fun vs H Q _=>∃ (f b x y:Addr) (g:List Key→Option Key) (n B d key:Nat) (z:Str) (t:Kn Str) (m m':Key),vs=[.ref f,.int (B:Int),.int (d:Int),.ref y,.ref x]∧KnS A H f b g n B x t m∧n≤45000∧KnA A H g y (.leaf key z) m'∧d<B∧key<2^B∧KnQ A H f b g n 1 (dI B d key z t) Q
def oY (K:W.Frag) (A:Adr):Sp:=fun vs H Q _=>∃ (x f b l r y:Addr) (g:List Key→Option Key) (n B d e key:Nat) (tl tr t:Kn Str) (m ml mr:Key),vs=[.ref x,.ref f,.int (B:Int),.int (key:Int),.ref y]∧hV A H x d e l r∧KnA A H g l tl ml∧KnA A H g r tr mr∧KnA A H g y t m∧Stp A H f b g n∧n≤45000∧d<B∧B≤60∧e<2^60∧szN (if sd B key d=0 then tr else tl)+szN t≤90000∧
 KnQ A H f b g n 1 (if sd B key d=0 then .fork d e t tr else .fork d e tl t) Q
def pE (A:Adr) (i:Nat) (j:Nat):Sp:=fun vs H Q _=>∃ (x f b:Addr) (g:List Key→Option Key) (n B key:Nat) (z:Str) (t:Kn Str) (m:Key),vs=[.ref x,.ref f,.int (B:Int),.int (key:Int),.str z]∧KnS A H f b g n B x t m∧kdK t=i∧n+hgt t+10≤45000∧(∀ p∈aB t,p.1<2^B)∧key<2^B∧eP z∧hgt t<j∧szN t≤70000∧KnQ A H f b g n (hgt t+2) (bR B key z t) Q
def ms (K:W.Frag) (A:Adr):Sp:=pE A 0 70
def jP (K:W.Frag) (A:Adr):Sp:=pE A 1 70
def ja (K:W.Frag) (A:Adr) (n:Nat):Sp:=pE A 2 n
def jn (A:Adr) (i:Nat) (j:Nat):Sp:=fun vs H Q _=>∃ (x f b:Addr) (g:List Key→Option Key) (n B key:Nat) (t:Kn Str) (m:Key),vs=[.ref x,.ref f,.int (B:Int),.int (key:Int)]∧KnS A H f b g n B x t m∧kdK t=i∧n+hgt t+10≤45000∧hgt t<j∧KnQ A H f b g n (hgt t+1) (aI B key t) Q
def mP (K:W.Frag) (A:Adr):Sp:=jn A 0 70
def jS (K:W.Frag) (A:Adr):Sp:=jn A 1 70
def iX (K:W.Frag) (A:Adr) (n:Nat):Sp:=jn A 2 n
def WFo (B:Nat) (t:Kn Str):Prop:=t=.bare∨WF B 0 0 t
structure TbA (A:Adr) (H:Hp) (g:List Key→Option Key) (x f:Addr) (B:Nat) (t:Kn Str) (m:Key):Prop where
 ob:∃ dx y,H x=some (.ins A.c_Table dx [("stamper",.ref f),("bits",.int (B:Int)),("top",.ref y)])∧KnA A H g y t m
 B1:1≤B
 B60:B≤60
 wf:WFo B t
structure TbS (A:Adr) (H:Hp) (x f b:Addr) (g:List Key→Option Key) (n B:Nat) (t:Kn Str) (m:Key):Prop where
 ta:TbA A H g x f B t m
 s:Stp A H f b g n
 ln:(aB t).length≤90
def TbQ (A:Adr) (H:Hp) (x f b:Addr) (g:List Key→Option Key) (n c B:Nat) (t:Kn Str) (R:Hp→Prop):Prop:=∀ (m:Key) (g':List Key→Option Key) (H':Hp),gX b x H H'→TbA A H' g' x f B t m→Stp A H' f b g' (n+c)→Sub g g'→R H'
def iP (K:W.Frag) (A:Adr):Sp:=fun vs H Q E=>∃ (x dx f b:Addr) (g:List Key→Option Key) (n:Nat) (v:V) (d:Dat),vs=[.ref x,.ref f,v]∧H x=some (.ins A.c_Table dx [])∧aY H v d∧Stp A H f b g n∧n≤45000∧(fB d=false→False)∧∀ B:Nat,d=.int (B:Int)→1≤B→B≤60→TbQ A H x f b g n 1 B .bare (Q .non)
def lU (K:W.Frag) (A:Adr):Sp:=fun vs H Q E=>∃ (x f:Addr) (g:List Key→Option Key) (B:Nat) (t:Kn Str) (m:Key) (v:V) (d:Dat),vs=[.ref x,v]∧TbA A H g x f B t m∧aY H v d∧(cY B d=false→False)∧∀ key:Nat,d=.int (key:Int)→key<2^B→Q (ov (aA B key t)) H
def lY (K:W.Frag) (A:Adr):Sp:=fun vs H Q E=>∃ (x f b:Addr) (g:List Key→Option Key) (n B:Nat) (t:Kn Str) (m:Key) (v w:V) (d e:Dat),vs=[.ref x,v,w]∧TbS A H x f b g n B t m∧n+100≤45000∧aY H v d∧aY H w e∧okD e=true∧(cY B d=false→False)∧
 ∀ key:Nat,d=.int (key:Int)→key<2^B→(cT e=false→False)∧∀ z,e=.str z→eP z→TbQ A H x f b g n 65 B (bR B key z t) fun H'=>Q (ov (aA B key t)) H'
def oA (K:W.Frag) (A:Adr):Sp:=fun vs H Q E=>∃ (x f b:Addr) (g:List Key→Option Key) (n B:Nat) (t:Kn Str) (m:Key) (v:V) (d:Dat),vs=[.ref x,v]∧TbS A H x f b g n B t m∧n+100≤45000∧aY H v d∧(cY B d=false→False)∧
 ∀ key:Nat,d=.int (key:Int)→key<2^B→(aA B key t=none→False)∧∀ z,aA B key t=some z→TbQ A H x f b g n 65 B (aI B key t) fun H'=>Q (.str z) H'
def gN (K:W.Frag) (A:Adr):Sp:=fun vs H Q _=>∃ (x f:Addr) (g:List Key→Option Key) (B:Nat) (t:Kn Str) (m:Key),vs=[.ref x]∧TbA A H g x f B t m∧Q (kV m) H
def dOf (kn:List (Nat×Str)):List (Key×V):=kn.map fun p=>(.inl (p.1:Int),.str p.2)
structure Kno (B:Nat) (kn:List (Nat×Str)) (t:Kn Str):Prop where
 nd:(kn.map (·.1)).Nodup
 ln:kn.length≤63
 eq:∀ k,look k kn=aA B k t
def yP (b x d:Addr) (H H':Hp):Prop:=∀ z o,z≠b→z≠x→z≠d→H z=some o→H' z=some o
def lO (K:W.Frag) (A:Adr):Sp:=fun vs H Q _=>∃ (x f b:Addr) (g:List Key→Option Key) (n B:Nat) (t:Kn Str) (m:Key),vs=[.ref x]∧TbS A H x f b g n B t m∧n≤45000∧∀ (y:Addr) (g':List Key→Option Key) (H':Hp),aW b H H'→H y=none→TbS A H' x f b g' (n+1) B t m→TbA A H' g' y f B t m→Sub g g'→Q (.ref y) H'
def Gs (B:Nat) (kn:List (Nat×Str)):Prop:=∀ p∈kn,p.1<2^B
structure TK (A:Adr) (H:Hp) (x f kd:Addr) (g:List Key→Option Key) (B:Nat) (t:Kn Str) (m:Key) (kn:List (Nat×Str)):Prop where
 ta:TbA A H g x f B t m
 hk:H kd=some (.dK (dOf kn))
 kno:Kno B kn t
def aT (h:List Key→Key):Kn Str→List Key
 | .bare=>brT
 | .leaf k z=>lfT k z
 | .fork d b l r=>fkT d b (h (aT h l)) (h (aT h r))
def aH (h:List Key→Key) (B key:Nat):Kn Str→List (Int×Key)
 | .fork d b l r=>if st B key d=b then (if sd B key d=0 then ((d:Int),h (aT h r))::aH h B key l else ((d:Int),h (aT h l))::aH h B key r) else []
 | _=>[]
def bw (h:List Key→Key) (B key:Nat):Kn Str→List Key
 | .fork d b l r=>if st B key d=b then (if sd B key d=0 then bw h B key l else bw h B key r) else aT h (.fork d b l r)
 | t=>aT h t
def iK (K:W.Frag) (A:Adr):Sp:=fun vs H Q E=>∃ (x f:Addr) (g:List Key→Option Key) (B:Nat) (t:Kn Str) (m:Key) (v:V) (d:Dat),vs=[.ref x,v]∧TbA A H g x f B t m∧(aB t).length≤100∧aY H v d∧(cY B d=false→False)∧
 ∀ key:Nat,d=.int (key:Int)→key<2^B→∀ (p:Addr) (st:List (Int×Key)) (e:List Key) (H':Hp),ay H H'→dj H' (.ref p) B key st e→(∀ h,Ext g h→st=aH h B key t∧e=bw h B key t)→Q (.ref p) H'
def lK (K:W.Frag) (A:Adr):Sp:=fun vs H Q _=>∃ (x f b kd L:Addr) (g:List Key→Option Key) (n B:Nat) (t:Kn Str) (m:Key) (kn:List (Nat×Str)) (ks:List Int) (c:Int),vs=[.ref x,.int (B:Int),.ref kd,.ref L,.int c]∧TK A H x f kd g B t m kn∧kn.length<60∧Stp A H f b g n∧n+100≤45000∧H L=some (.lst (ks.map V.int))∧ks.length≤100∧(∀ k∈ks,0≤k∧k<2^((B:Nat):Int).toNat)∧
 ∀ (key:Nat) (t':Kn Str) (m':Key) (kn':List (Nat×Str)) (g':List Key→Option Key) (H':Hp),yP b x kd H H'→TK A H' x f kd g' B t' m' kn'→kn'.length≤kn.length+1→Stp A H' f b g' (n+65)→Sub g g'→key<2^B→Q (.int (key:Int)) H'
def jT (K:W.Frag) (A:Adr):Sp:=fun vs H Q _=>∃ (x f b kd:Addr) (g:List Key→Option Key) (n B:Nat) (t:Kn Str) (m:Key) (kn:List (Nat×Str)) (key:Nat),vs=[.ref x,.ref f,.int (B:Int),kV m,.ref kd,.int (key:Int)]∧TK A H x f kd g B t m kn∧Stp A H f b g n∧n≤35000∧key<2^B∧∀ (g':List Key→Option Key) (H':Hp),aW b H H'→Stp A H' f b g' (n+200)→Sub g g'→Q (.bl true) H'
def oR (A:Adr) (H:Hp) (g:List Key→Option Key) (f:Addr) (B:Nat) (p:Addr):Prop:=∃ (x kd r:Addr) (t:Kn Str) (m:Key) (kn:List (Nat×Str)) (key:Nat) (st:List (Int×Key)) (e:List Key),H p=some (.tup [.ref x,.ref kd,kV m,.int (key:Int),.ref r])∧TK A H x f kd g B t m kn∧key<2^B∧dj H (.ref r) B key st e∧∀ h,Ext g h→st=aH h B key t∧e=bw h B key t
def lA (K:W.Frag) (A:Adr):Sp:=fun vs H Q _=>∃ (O f b L:Addr) (g:List Key→Option Key) (n B:Nat) (ps:List Addr) (ks:List Nat),vs=[.ref O,.ref f,.int (B:Int),.ref L]∧Stp A H f b g n∧n≤20000∧H O=some (.lst (ps.map V.ref))∧ps.length≤3∧(∀ p∈ps,oR A H g f B p)∧H L=some (.lst (ks.map fun k:Nat=>V.int (k:Int)))∧ks.length≤5∧(∀ k∈ks,k<2^B)∧∀ H',Q (.bl true) H'
def oC (K:W.Frag) (A:Adr):Sp:=fun vs H Q _=>∃ (a:Addr) (ns:List Int),vs=[.ref a]∧SqL K H a (ns.map V.int)∧ns.length≤63∧nP A H∧∀ H',Q (.bl true) H'
end Rs
namespace Rs
open PySem PySem.Spec PyProof.Rows L2
def kG (K:W.Frag) (A:Adr):L2.lS:=[(fJ,sh K A),(fY,sN K A),(fV,rB K A),(gg,sH K A),(fU,rQ K A)]
def Dl (K:W.Frag) (A:Adr):TE:=ar (lr K A) (fun _=>E0) (ae (ab 0) (ag))
def Ck (K:W.Frag) (A:Adr):TE:=bA A.c_Numbers "number_of" (ox K A) (fun _=>E0) (ab 1) (ae (ab 0) (ag))
def CZ (K:W.Frag) (A:Adr):TS:=az (tBM K "dict" my (ab 1) (ae (ab 0) (ae (tOp (bQ K) (tOp (eA) (tC (.int 3)) (tCB (ck K) (ae (ab 1) (ag)))) (ab 2)) (ag))))
def BW (K:W.Frag) (A:Adr):TS:=az (tBM K "dict" my (ab 1) (ae (ab 0) (ae (tOp (bQ K) (tC (.str "m")) (tCB (ww) (ae (tCB (ck K) (ae (ab 1) (ag))) (ag)))) (ag))))
def Bk (K:W.Frag) (A:Adr):TS:=aq (aF (tC (.int 0)) (au 1)) (aq (eN (em K (ab 0)) (au 2) (bc (bM K (tCB (eL) (ae (ab 2) (ae (tC (.ty "str")) (ag))))) (aq (aF (iH [] (em K (tSl (fw K) (ab 2) (cX) (dn (tC (.int 2))))) (fun _ H Q=>Q true H) (tCB (wZ) (ae (ab 0) (ag)))) (au 3)) (aF (tOp (bQ K) (tOp (bQ K) (tOp (eA) (ab 1) (tC (.int 7))) (tCB (ck K) (ae (ab 2) (ag)))) (tOp (eA) (tC (.int 2)) (tCB (Br K) (ae (ab 3) (ag))))) (au 1))) (aF (tOp (bQ K) (tOp (eA) (ab 1) (tC (.int 5))) (ab 2)) (au 1)))) (az (tOp (bF) (ab 1) (ab 4))))
def JA (K:W.Frag) (A:Adr):TS:=az (ff (tCB (eL) (ae (ab 0) (ae (tC (.ty "int")) (ag)))) (rY (tCB (eL) (ae (ab 0) (ae (tC (.ty "bool")) (ag))))))
def Jo (K:W.Frag) (A:Adr):TS:=aq (bc (bM K (ar (fG K A) (fun _=>E0) (ae (ab 0) (ag)))) (az (dS (mLe) (mLt) (tC (.int 0)) (ab 0) (tOp (wD) (tC (.int 10)) (tC (.int 60))))) (aK)) (az (tCB (eL) (ae (ab 0) (ae (tC (.ty "str")) (ag)))))
def IK (K:W.Frag) (A:Adr):TS:=aq (bc (bT (bM K (tCB (eL) (ae (ab 0) (ae (tC (.ty "tuple")) (ag)))))) (az (tC (.bl false))) (aK)) (aq (bc (bT (aS (dS (mLe) (mLe) (tC (.int 1)) (tCB (ck K) (ae (ab 0) (ag))) (tC (.int 8))))) (az (tC (.bl false))) (aK)) (az (ff (tCB (eL) (ae (tOp (bn K) (ab 0) (tC (.int 0))) (ae (tC (.ty "str")) (ag)))) (tCB (BH) (ae (iH [] (em K (ab 0)) (fun _ H Q=>Q true H) (ar (jd K A) (fun _=>E0) (ae (ab 0) (ag)))) (ag))))))
def Je (K:W.Frag) (A:Adr):TS:=aq (bc (bM K (ar (fG K A) (fun _=>E0) (ae (ab 0) (ag)))) (az (mJ ((rH (ab 0))::(tC (.str ";"))::[]) Str.empty)) (aK)) (aq (aF (tCB (ck K) (ae (ab 0) (ag))) (au 1)) (az (mJ ((rH (ab 1))::(tC (.str ":"))::(rH (ab 0))::[]) Str.empty)))
def JE (K:W.Frag) (A:Adr):TS:=aq (bc (bT (bM K (ar (lQ K A) (fun _=>E0) (ae (ab 0) (ag))))) (dC) (aK)) (az (tBM K "str" yZ (tC (.str "")) (ae (iH [] (em K (ab 0)) (fun _ H Q=>Q true H) (ar (oB K A) (fun _=>E0) (ae (ab 0) (ag)))) (ag))))
def Iq (K:W.Frag) (A:Adr):TS:=aq (bc (bT (bM K (ar (lQ K A) (fun _=>E0) (ae (ab 1) (ag))))) (dC) (aK)) (aq (bc (aS (tOp (qo K) (ab 1) (bd K (ab 0) "given"))) (aF (tCB (ck K) (ae (bd K (ab 0) "given") (ag))) (pq (bd K (ab 0) "given") (ab 1) lM)) (aK)) (az (tOp (bn K) (bd K (ab 0) "given") (ab 1))))
def HX (K:W.Frag) (A:Adr):TS:=az (tOp (bQ K) (tC (.int 1)) (tOp (bF) (tOp (cC) (ab 0) (tC (.int 3))) (tOp (bn K) (eZ (ae (tC (.int 60)) (ae (tC (.int 8)) (ae (tC (.int 60)) (ag))))) (tOp (bF) (ab 0) (tC (.int 3))))))
def JO (K:W.Frag) (A:Adr):TS:=aq (bc (aS (tOp (mLt) (ab 1) (tCB (ck K) (ae (ab 0) (ag))))) (az (tOp (bn K) (ab 0) (ab 1))) (aK)) (aq (aF (tOp (bQ K) (tC (.int 17)) (tCB (ck K) (ae (ab 0) (ag)))) (au 2)) (aq (eN (em K (tSl (fw K) (ab 0) (cX) (dn (tC (.int 5))))) (au 3) (aF (tOp (bF) (tOp (bQ K) (tOp (eA) (ab 2) (tC (.int 31))) (ab 3)) (tC (.int 1000003))) (au 2))) (aq (aF (tOp (bF) (tOp (bQ K) (ab 2) (tOp (eA) (tC (.int 7919)) (ab 1))) (tC (.int 1000003))) (au 2)) (az (tOp (bF) (tOp (eA) (ab 2) (ab 2)) (tC (.int 2147483629)))))))
def Bs (K:W.Frag) (A:Adr):TSM:=mQ (lh A.t_66 ⟨243,11,243,37⟩ fJ [])
def Jx (K:W.Frag) (A:Adr):TS:=dN K (ab 0) (gJ) "given"
def Di (K:W.Frag) (A:Adr) (q0:Addr):TSM:=kR (iC (aF (cO A.c_Numbers (oh K A) (fun _=>E0) (ag)) (au 0))) (mQ (lh A.t_42 ⟨246,11,246,47⟩ fY [q0]))
def AN (K:W.Frag) (A:Adr) (q0:Addr):TSM:=kR (iC (aF (gJ) (au 0))) (kR (iC (aF (lh A.t_38 ⟨332,4,333,75⟩ gg [q0]) (au 1))) (mQ (ab 1)))
def By (K:W.Frag) (A:Adr) (q0 q1:Addr):TSM:=kR (iC (aF (gJ) (au 1))) (kR (iC (aF (lh A.t_32 ⟨326,4,327,81⟩ fV [q1,q0]) (au 2))) (mQ (ab 2)))
def Dx (K:W.Frag) (A:Adr) (q0:Addr):TSM:=kR (iC (aF (lh A.t_36 ⟨337,4,345,37⟩ fU [q0]) (au 1))) (mQ (ab 1))
def JL (K:W.Frag) (A:Adr):TS:=aq (aF (tOp (bF) (ab 0) (tC (.int 5))) (au 1)) (aq (bc (aS (tOp (bN K) (ab 1) (tC (.int 0)))) (az (ar (oi K A) (fun _=>E0) ag)) (aK)) (aq (bc (aS (tOp (bN K) (ab 1) (tC (.int 1)))) (az (ar (nO K A) (fun _=>E0) ag)) (aK)) (aq (bc (aS (tOp (bN K) (ab 1) (tC (.int 2)))) (az (ar (nZ K A) (fun _=>E0) ag)) (aK)) (aq (bc (aS (tOp (bN K) (ab 1) (tC (.int 3)))) (az (ar (oj K A) (fun _=>E0) (ae (tOp (bF) (tOp (cC) (ab 0) (tC (.int 5))) (tC (.int 1000))) (ag)))) (aK)) (az (ar (oa K A) (fun _=>E0) (ae (tOp (bQ K) (tC (.int 1)) (tOp (bF) (tOp (cC) (ab 0) (tC (.int 5))) (tC (.int 9)))) (ag))))))))
def IS (K:W.Frag) (A:Adr):TS:=az (ff (ar (fG K A) (fun _=>E0) (ae (ab 0) (ag))) (dS (mLe) (mLe) (tC (.int 1)) (ab 0) (tC (.int 60))))
def IV (K:W.Frag) (A:Adr):TS:=aq (dN K (ab 0) (ab 2) "term") (dN K (ab 0) (nX (kG K A) (fun _=>E0) (ab 1) (ae (ab 2) (ag))) "mark")
def T_0 (K:W.Frag) (A:Adr):TS:=dm (ar (kh K A) (fun _=>E0) (ae (ab 0) (ae (ab 1) (ae (eY (ae (tC (.str "bare")) (ag))) (ag)))))
def Ih (K:W.Frag) (A:Adr):TS:=aq (bc (bT (bM K (ar (oo K A) (fun _=>E0) (ae (ab 2) (ag))))) (dC) (aK)) (aq (dN K (ab 0) (ab 1) "stamper") (aq (dN K (ab 0) (ab 2) "bits") (dN K (ab 0) (cO A.c_Bare (mj K A) (fun _=>E0) (ae (ab 1) (ag))) "top")))
def Iu (K:W.Frag) (A:Adr):TS:=aq (aF (tOp (ie) (tC (.int 1)) (ab 0)) (au 3)) (aq (aF (tOp (cC) (ab 1) (tC (.int 5))) (au 4)) (aq (bc (aS (tOp (bN K) (tOp (bF) (ab 1) (tC (.int 5))) (tC (.int 0)))) (az (tOp (bF) (ab 4) (ab 3))) (aK)) (aq (bc (aS (tOp (bN K) (tOp (bF) (ab 1) (tC (.int 5))) (tC (.int 1)))) (az (tOp (gL) (tOp (gL) (ab 3) (tC (.int 1))) (tOp (bF) (ab 4) (ab 3)))) (aK)) (aq (bc (jG (aS (tOp (bN K) (tOp (bF) (ab 1) (tC (.int 5))) (tC (.int 2)))) (aS (tOp (dH K) (ab 2) (eZ (ag))))) (aq (aF (tOp (bF) (tOp (bF) (tOp (eA) (ab 4) (tC (.int 48271))) (tC (.int 65537))) (ab 0)) (au 5)) (az (tOp (mD) (tOp (bn K) (ab 2) (tOp (bF) (ab 4) (tCB (ck K) (ae (ab 2) (ag))))) (tOp (ie) (tC (.int 1)) (ab 5))))) (aK)) (az (tOp (bF) (tOp (eA) (ab 4) (tC (.int 1152921504606846883))) (ab 3)))))))
def Io (K:W.Frag) (A:Adr):TS:=az (ff (ar (fG K A) (fun _=>E0) (ae (ab 1) (ag))) (dS (mLe) (mLt) (tC (.int 0)) (ab 1) (tOp (ie) (tC (.int 1)) (ab 0))))
def T_1 (K:W.Frag) (A:Adr):TS:=az (tC .non)
def Ju (K:W.Frag) (A:Adr):TS:=az (mIf (aS (tOp (bN K) (ab 2) (bd K (ab 0) "key"))) (bd K (ab 0) "text") (tC .non))
def Jb (K:W.Frag) (A:Adr):TS:=az (tOp (sj) (tOp (oP) (ab 1) (tOp (gL) (tOp (gL) (ab 0) (ab 2)) (tC (.int 1)))) (tC (.int 1)))
def T_9 (K:W.Frag) (A:Adr):TS:=az (mIf (aS (tOp (bN K) (ar (gQ K A) (fun _=>E0) (ae (ab 1) (ae (ab 2) (ae (bd K (ab 0) "depth") (ag))))) (tC (.int 0)))) (bd K (ab 0) "left") (bd K (ab 0) "right"))
def T_7 (K:W.Frag) (A:Adr) (n:Nat):TS:=az (gw [(A.c_Bare,(mH K A)),(A.c_Leaf,(jQ K A)),(A.c_Fork,(kX K A n))] "found" (fun _=>E0) (bA A.c_Fork "toward" (jw K A) (fun _=>E0) (ab 0) (ae (ab 1) (ae (ab 2) (ag)))) (ae (ab 1) (ae (ab 2) (ag))))
def JC (K:W.Frag) (A:Adr):TS:=aq (bc (bT (bM K (ar (iI K A) (fun _=>E0) (ae (bd K (ab 0) "bits") (ae (ab 1) (ag)))))) (dC) (aK)) (az (gw [(A.c_Bare,(mH K A)),(A.c_Leaf,(jQ K A)),(A.c_Fork,(kX K A 70))] "found" (fun _=>E0) (bd K (ab 0) "top") (ae (bd K (ab 0) "bits") (ae (ab 1) (ag)))))
def T_3 (K:W.Frag) (A:Adr):TS:=az (ab 0)
def Il (K:W.Frag) (A:Adr):TS:=az (mIf (aS (tOp (bN K) (ab 3) (bd K (ab 0) "key"))) (cO A.c_Bare (mj K A) (fun _=>E0) (ae (ab 1) (ag))) (ab 0))
def T_5 (K:W.Frag) (A:Adr):TS:=az (mIf (aS (tOp (bN K) (ar (gQ K A) (fun _=>E0) (ae (ab 1) (ae (ab 2) (ae (bd K (ab 0) "depth") (ag))))) (tC (.int 0)))) (bd K (ab 0) "right") (bd K (ab 0) "left"))
def T_4 (K:W.Frag) (A:Adr):TS:=aq (dm (ar (kh K A) (fun _=>E0) (ae (ab 0) (ae (ab 1) (ae (eY (ae (tC (.str "fork")) (ae (ab 2) (ae (ab 3) (ae (bd K (ab 4) "mark") (ae (bd K (ab 5) "mark") (ag))))))) (ag)))))) (aq (dN K (ab 0) (ab 2) "depth") (aq (dN K (ab 0) (ab 3) "begin") (aq (dN K (ab 0) (ab 4) "left") (dN K (ab 0) (ab 5) "right"))))
def T_6 (K:W.Frag) (A:Adr):TS:=aq (bc (aS (tOp (bN K) (ar (gQ K A) (fun _=>E0) (ae (ab 2) (ae (ab 3) (ae (bd K (ab 0) "depth") (ag))))) (tC (.int 0)))) (az (cO A.c_Fork (jy K A) (fun _=>E0) (ae (ab 1) (ae (bd K (ab 0) "depth") (ae (bd K (ab 0) "begin") (ae (ab 4) (ae (bd K (ab 0) "right") (ag)))))))) (aK)) (az (cO A.c_Fork (jy K A) (fun _=>E0) (ae (ab 1) (ae (bd K (ab 0) "depth") (ae (bd K (ab 0) "begin") (ae (bd K (ab 0) "left") (ae (ab 4) (ag))))))))
def Jm (K:W.Frag) (A:Adr) (n:Nat):TS:=aq (aF (gw [(A.c_Bare,(mP K A)),(A.c_Leaf,(jS K A)),(A.c_Fork,(iX K A n))] "without" (fun _=>E0) (bA A.c_Fork "toward" (jw K A) (fun _=>E0) (ab 0) (ae (ab 2) (ae (ab 3) (ag)))) (ae (ab 1) (ae (ab 2) (ae (ab 3) (ag))))) (au 4)) (aq (bc (bM K (tCB (sC K) (ae (ab 4) (ae (tC (.ref A.c_Bare)) (ag))))) (az (bA A.c_Fork "aside" (mf K A) (fun _=>E0) (ab 0) (ae (ab 2) (ae (ab 3) (ag))))) (aK)) (az (bA A.c_Fork "changed" (oY K A) (fun _=>E0) (ab 0) (ae (ab 1) (ae (ab 2) (ae (ab 3) (ae (ab 4) (ag))))))))
def HW (K:W.Frag) (A:Adr):TS:=aq (aF (bA A.c_Table "value_of" (lU K A) (fun _=>E0) (ab 0) (ae (ab 1) (ag))) (au 2)) (aq (bc (aS (tOp (pR) (ab 2) (tC .non))) (dC) (aK)) (aq (dN K (ab 0) (gw [(A.c_Bare,(mP K A)),(A.c_Leaf,(jS K A)),(A.c_Fork,(iX K A 70))] "without" (fun _=>E0) (bd K (ab 0) "top") (ae (bd K (ab 0) "stamper") (ae (bd K (ab 0) "bits") (ae (ab 1) (ag))))) "top") (az (ab 2))))
def Bo (K:W.Frag) (A:Adr):TS:=az (ab 3)
def Cb (K:W.Frag) (A:Adr):TS:=aq (eN (nW (ae (ab 2) (ag))) (au 4) (aF (tOp (bQ K) (ab 3) (tOp (bn K) (ab 1) (tOp (bF) (tOp (bQ K) (tOp (cC) (ab 0) (tC (.int 4))) (tOp (eA) (ab 4) (tOp (bF) (tOp (cC) (ab 0) (tC (.int 128))) (tC (.int 5))))) (tCB (ck K) (ae (ab 1) (ag)))))) (au 3))) (Bo K A)
def uM (K:W.Frag) (A:Adr):TS:=aq (aF (tC (.str "")) (au 3)) (Cb K A)
def Ct (K:W.Frag) (A:Adr):TS:=aq (bc (aS (tOp (bN K) (tOp (bF) (tOp (cC) (ab 0) (tC (.int 4))) (tC (.int 8))) (tC (.int 2)))) (aF (tOp (bF) (tOp (cC) (ab 0) (tC (.int 32))) (tC (.int 61))) (au 2)) (aK)) (uM K A)
def Ic (K:W.Frag) (A:Adr):TS:=aq (aF (tC (.str " !\"#$&'()*+,-./0123456789:;<=>?@ABCDEFGHIJKLMNOPQRSTUVWXYZ[\\]^_`")) (au 1)) (aq (aF (tOp (bQ K) (ab 1) (tC (.str "abcdefghijklmnopqrstuvwxyz{|}~"))) (au 1)) (aq (aF (tOp (bF) (ab 0) (tC (.int 4))) (au 2)) (aq (bc (aS (tOp (bN K) (tOp (bF) (tOp (cC) (ab 0) (tC (.int 4))) (tC (.int 8))) (tC (.int 1)))) (aF (tC (.int 60)) (au 2)) (aK)) (aq (bc (aS (tOp (bN K) (tOp (bF) (tOp (cC) (ab 0) (tC (.int 4))) (tC (.int 8))) (tC (.int 2)))) (aF (tOp (bF) (tOp (cC) (ab 0) (tC (.int 32))) (tC (.int 61))) (au 2)) (aK)) (aq (aF (tC (.str "")) (au 3)) (aq (eN (nW (ae (ab 2) (ag))) (au 4) (aF (tOp (bQ K) (ab 3) (tOp (bn K) (ab 1) (tOp (bF) (tOp (bQ K) (tOp (cC) (ab 0) (tC (.int 4))) (tOp (eA) (ab 4) (tOp (bF) (tOp (cC) (ab 0) (tC (.int 128))) (tC (.int 5))))) (tCB (ck K) (ae (ab 1) (ag)))))) (au 3))) (az (ab 3))))))))
def Jw (K:W.Frag) (A:Adr):TS:=az (ff (tCB (eL) (ae (ab 0) (ae (tC (.ty "str")) (ag)))) (tOp (mLe) (tCB (ck K) (ae (ab 0) (ag))) (tC (.int 60))))
def JB (K:W.Frag) (A:Adr):TS:=aq (dm (ar (kh K A) (fun _=>E0) (ae (ab 0) (ae (ab 1) (ae (eY (ae (tC (.str "leaf")) (ae (ab 2) (ae (ab 3) (ag))))) (ag)))))) (aq (dN K (ab 0) (ab 2) "key") (dN K (ab 0) (ab 3) "text"))
def T_2 (K:W.Frag) (A:Adr):TS:=az (cO A.c_Leaf (iT K A) (fun _=>E0) (ae (ab 1) (ae (ab 3) (ae (ab 4) (ag)))))
def Jy (K:W.Frag) (A:Adr):TS:=az (tOp (oP) (ab 1) (tOp (gL) (ab 0) (ab 2)))
def Jt (K:W.Frag) (A:Adr):TS:=aq (aF (ar (fH K A) (fun _=>E0) (ae (ab 1) (ae (bd K (ab 3) "key") (ae (ab 2) (ag))))) (au 5)) (aq (bc (aS (tOp (bN K) (ar (gQ K A) (fun _=>E0) (ae (ab 1) (ae (bd K (ab 3) "key") (ae (ab 2) (ag))))) (tC (.int 0)))) (az (cO A.c_Fork (jy K A) (fun _=>E0) (ae (ab 0) (ae (ab 2) (ae (ab 5) (ae (ab 3) (ae (ab 4) (ag)))))))) (aK)) (az (cO A.c_Fork (jy K A) (fun _=>E0) (ae (ab 0) (ae (ab 2) (ae (ab 5) (ae (ab 4) (ae (ab 3) (ag)))))))))
def Jd (K:W.Frag) (A:Adr):TS:=az (tOp (gL) (ab 0) (xh K "int" rZ (tOp (mD) (ab 1) (ab 2))))
def Ib (K:W.Frag) (A:Adr):TS:=aq (aF (cO A.c_Leaf (iT K A) (fun _=>E0) (ae (ab 1) (ae (ab 3) (ae (ab 4) (ag))))) (au 5)) (aq (bc (aS (tOp (bN K) (ab 3) (bd K (ab 0) "key"))) (az (ab 5)) (aK)) (az (ar (lV K A) (fun _=>E0) (ae (ab 1) (ae (ab 2) (ae (ar (lC K A) (fun _=>E0) (ae (ab 2) (ae (ab 3) (ae (bd K (ab 0) "key") (ag))))) (ae (ab 5) (ae (ab 0) (ag)))))))))
def T_8 (K:W.Frag) (A:Adr):TS:=az (tOp (bN K) (ar (fH K A) (fun _=>E0) (ae (ab 1) (ae (ab 2) (ae (bd K (ab 0) "depth") (ag))))) (bd K (ab 0) "begin"))
def Ie (K:W.Frag) (A:Adr) (n:Nat):TS:=aq (bc (bT (bM K (bA A.c_Fork "leads" (pG K A) (fun _=>E0) (ab 0) (ae (ab 2) (ae (ab 3) (ag)))))) (aq (aF (ar (lC K A) (fun _=>E0) (ae (bd K (ab 0) "depth") (ae (bd K (ab 0) "begin") (ae (ar (fH K A) (fun _=>E0) (ae (ab 2) (ae (ab 3) (ae (bd K (ab 0) "depth") (ag))))) (ag))))) (au 5)) (az (ar (lV K A) (fun _=>E0) (ae (ab 1) (ae (ab 2) (ae (ab 5) (ae (cO A.c_Leaf (iT K A) (fun _=>E0) (ae (ab 1) (ae (ab 3) (ae (ab 4) (ag))))) (ae (ab 0) (ag))))))))) (aK)) (az (bA A.c_Fork "changed" (oY K A) (fun _=>E0) (ab 0) (ae (ab 1) (ae (ab 2) (ae (ab 3) (ae (gw [(A.c_Bare,(ms K A)),(A.c_Leaf,(jP K A)),(A.c_Fork,(ja K A n))] "with_key" (fun _=>E0) (bA A.c_Fork "toward" (jw K A) (fun _=>E0) (ab 0) (ae (ab 2) (ae (ab 3) (ag)))) (ae (ab 1) (ae (ab 2) (ae (ab 3) (ae (ab 4) (ag)))))) (ag)))))))
def JN (K:W.Frag) (A:Adr):TS:=aq (aF (bA A.c_Table "value_of" (lU K A) (fun _=>E0) (ab 0) (ae (ab 1) (ag))) (au 3)) (aq (bc (bT (bM K (ar (lp K A) (fun _=>E0) (ae (ab 2) (ag))))) (dC) (aK)) (aq (dN K (ab 0) (gw [(A.c_Bare,(ms K A)),(A.c_Leaf,(jP K A)),(A.c_Fork,(ja K A 70))] "with_key" (fun _=>E0) (bd K (ab 0) "top") (ae (bd K (ab 0) "stamper") (ae (bd K (ab 0) "bits") (ae (ab 1) (ae (ab 2) (ag)))))) "top") (az (ab 3))))
def AM (K:W.Frag) (A:Adr):TS:=az (ab 6)
def Dw (K:W.Frag) (A:Adr):TS:=aq (aF (ab 7) (pq (ab 2) (ab 6) lM)) (AM K A)
def DL (K:W.Frag) (A:Adr):TS:=aq (dm (bA A.c_Table "put" (lY K A) (fun _=>E0) (ab 0) (ae (ab 6) (ae (ab 7) (ag))))) (Dw K A)
def DN (K:W.Frag) (A:Adr):TS:=aq (aF (ar (lW K A) (fun _=>E0) (ae (tOp (bF) (tOp (eA) (ab 4) (tC (.int 48271))) (tC (.int 1000003))) (ag))) (au 7)) (DL K A)
def Ba (K:W.Frag) (A:Adr):TS:=aq (aF (ar (jb K A) (fun _=>E0) (ae (ab 1) (ae (ab 5) (ae (ab 3) (ag))))) (au 6)) (DN K A)
def JG (K:W.Frag) (A:Adr):TS:=aq (aF (tOp (cC) (ab 4) (tC (.int 4))) (au 5)) (aq (bc (jG (aS (tOp (bN K) (tOp (bF) (ab 4) (tC (.int 4))) (tC (.int 0)))) (aS (tOp (yL) (ab 2) (gJ)))) (aq (aF (tOp (bn K) (tCB (uG K) (ae (ab 2) (ag))) (tOp (bF) (ab 5) (tCB (ck K) (ae (ab 2) (ag))))) (au 6)) (aq (dm (bA A.c_Table "take" (oA K A) (fun _=>E0) (ab 0) (ae (ab 6) (ag)))) (aq (dm (tBM K "dict" yn (ab 2) (ae (ab 6) (ag)))) (az (ab 6))))) (aK)) (aq (aF (ar (jb K A) (fun _=>E0) (ae (ab 1) (ae (ab 5) (ae (ab 3) (ag))))) (au 6)) (aq (aF (ar (lW K A) (fun _=>E0) (ae (tOp (bF) (tOp (eA) (ab 4) (tC (.int 48271))) (tC (.int 1000003))) (ag))) (au 7)) (aq (dm (bA A.c_Table "put" (lY K A) (fun _=>E0) (ab 0) (ae (ab 6) (ae (ab 7) (ag))))) (aq (aF (ab 7) (pq (ab 2) (ab 6) lM)) (az (ab 6)))))))
def HZ (K:W.Frag) (A:Adr):TS:=aq (aF (cO A.c_Table (iP K A) (fun _=>E0) (ae (bd K (ab 0) "stamper") (ae (bd K (ab 0) "bits") (ag)))) (au 1)) (aq (dN K (ab 1) (bd K (ab 0) "top") "top") (az (ab 1)))
def Jh (K:W.Frag) (A:Adr):TS:=az (bd K (bd K (ab 0) "top") "mark")
def Jf (K:W.Frag) (A:Adr):TS:=aq (bc (bT (bM K (ar (iI K A) (fun _=>E0) (ae (bd K (ab 0) "bits") (ae (ab 1) (ag)))))) (dC) (aK)) (aq (aF (eZ (ag)) (au 2)) (aq (aF (bd K (ab 0) "top") (au 3)) (aq (pM (jG (bM K (tCB (sC K) (ae (ab 3) (ae (tC (.ref A.c_Fork)) (ag))))) (bM K (bA A.c_Fork "leads" (pG K A) (fun _=>E0) (ab 3) (ae (bd K (ab 0) "bits") (ae (ab 1) (ag)))))) (aq (dm (tBM K "list" eR (ab 2) (ae (eY (ae (bd K (ab 3) "depth") (ae (bd K (bA A.c_Fork "aside" (mf K A) (fun _=>E0) (ab 3) (ae (bd K (ab 0) "bits") (ae (ab 1) (ag)))) "mark") (ag)))) (ag)))) (aF (bA A.c_Fork "toward" (jw K A) (fun _=>E0) (ab 3) (ae (bd K (ab 0) "bits") (ae (ab 1) (ag)))) (au 3)))) (az (eY (ae (tCB (pF K) (ae (ab 2) (ag))) (ae (bd K (ab 3) "term") (ag))))))))
def Jk (K:W.Frag) (A:Adr):TS:=aq (bc (mOr (bT (bM K (tCB (eL) (ae (ab 2) (ae (tC (.ty "tuple")) (ag)))))) (aS (tOp (dH K) (tCB (ck K) (ae (ab 2) (ag))) (tC (.int 2))))) (az (tC (.bl false))) (aK)) (az (ff (ar (fG K A) (fun _=>E0) (ae (tOp (bn K) (ab 2) (tC (.int 0))) (ag))) (ff (dS (mLe) (mLt) (ab 1) (tOp (bn K) (ab 2) (tC (.int 0))) (ab 0)) (ar (jd K A) (fun _=>E0) (ae (tOp (bn K) (ab 2) (tC (.int 1))) (ag))))))
def Js (K:W.Frag) (A:Adr):TS:=aq (bc (bT (bM K (tCB (eL) (ae (ab 1) (ae (tC (.ty "tuple")) (ag)))))) (az (tC (.bl false))) (aK)) (aq (aF (tC (.int 0)) (au 2)) (aq (eN (em K (ab 1)) (au 3) (aq (bc (bT (bM K (ar (oF K A) (fun _=>E0) (ae (ab 0) (ae (ab 2) (ae (ab 3) (ag))))))) (az (tC (.bl false))) (aK)) (aF (tOp (bQ K) (tOp (bn K) (ab 3) (tC (.int 0))) (tC (.int 1))) (au 2)))) (az (tC (.bl true)))))
def IZ (K:W.Frag) (A:Adr):TS:=aq (bc (mOr (bT (bM K (tCB (eL) (ae (ab 3) (ae (tC (.ty "tuple")) (ag)))))) (mOr (aS (tOp (dH K) (tCB (ck K) (ae (ab 3) (ag))) (tC (.int 3)))) (aS (tOp (dH K) (tOp (bn K) (ab 3) (tC (.int 0))) (tC (.str "leaf")))))) (az (tC (.bl false))) (aK)) (aq (bc (mOr (bT (bM K (ar (iI K A) (fun _=>E0) (ae (ab 0) (ae (tOp (bn K) (ab 3) (tC (.int 1))) (ag)))))) (bT (bM K (ar (lp K A) (fun _=>E0) (ae (tOp (bn K) (ab 3) (tC (.int 2))) (ag)))))) (az (tC (.bl false))) (aK)) (az (tOp (bN K) (ar (fH K A) (fun _=>E0) (ae (ab 0) (ae (tOp (bn K) (ab 3) (tC (.int 1))) (ae (ab 1) (ag))))) (ab 2))))
def IN (K:W.Frag) (A:Adr):TS:=aq (bc (mOr (bT (bM K (tCB (eL) (ae (ab 3) (ae (tC (.ty "tuple")) (ag)))))) (mOr (aS (tOp (dH K) (tCB (ck K) (ae (ab 3) (ag))) (tC (.int 5)))) (aS (tOp (dH K) (tOp (bn K) (ab 3) (tC (.int 0))) (tC (.str "fork")))))) (az (tC (.bl false))) (aK)) (aq (bc (mOr (bT (bM K (ar (fG K A) (fun _=>E0) (ae (tOp (bn K) (ab 3) (tC (.int 1))) (ag))))) (bT (aS (dS (mLe) (mLt) (ab 1) (tOp (bn K) (ab 3) (tC (.int 1))) (ab 0))))) (az (tC (.bl false))) (aK)) (aq (bc (mOr (bT (bM K (ar (fG K A) (fun _=>E0) (ae (tOp (bn K) (ab 3) (tC (.int 2))) (ag))))) (bT (aS (dS (mLe) (mLt) (tC (.int 0)) (tOp (bn K) (ab 3) (tC (.int 2))) (tOp (ie) (tC (.int 1)) (tOp (bn K) (ab 3) (tC (.int 1)))))))) (az (tC (.bl false))) (aK)) (az (tOp (bN K) (tOp (oP) (tOp (bn K) (ab 3) (tC (.int 2))) (tOp (gL) (tOp (bn K) (ab 3) (tC (.int 1))) (ab 1))) (ab 2)))))
def Jr (K:W.Frag) (A:Adr):TS:=aq (bc (aS (tOp (bN K) (ab 3) (eY (ae (tC (.str "bare")) (ag))))) (az (tOp (bN K) (ab 2) (tC (.int 0)))) (aK)) (aq (aF (ar (fH K A) (fun _=>E0) (ae (ab 0) (ae (ab 1) (ae (ab 2) (ag))))) (au 4)) (aq (bc (bM K (ar (nY K A) (fun _=>E0) (ae (ab 0) (ae (ab 2) (ae (ab 4) (ae (ab 3) (ag))))))) (az (tC (.bl true))) (aK)) (aq (bc (bT (bM K (ar (ow K A) (fun _=>E0) (ae (ab 0) (ae (ab 2) (ae (ab 4) (ae (ab 3) (ag)))))))) (az (tC (.bl false))) (aK)) (aq (bc (aS (tOp (bN K) (tOp (bn K) (ab 3) (tC (.int 2))) (ar (fH K A) (fun _=>E0) (ae (ab 0) (ae (ab 1) (ae (tOp (bn K) (ab 3) (tC (.int 1))) (ag))))))) (az (tC (.bl false))) (aK)) (az (ff (ar (jd K A) (fun _=>E0) (ae (tOp (bn K) (ab 3) (tC (.int 3))) (ag))) (ar (jd K A) (fun _=>E0) (ae (tOp (bn K) (ab 3) (tC (.int 4))) (ag)))))))))
def IH (K:W.Frag) (A:Adr):TS:=aq (bc (mOr (bT (bM K (tCB (eL) (ae (ab 2) (ae (tC (.ty "tuple")) (ag)))))) (aS (tOp (dH K) (tCB (ck K) (ae (ab 2) (ag))) (tC (.int 2))))) (az (tC (.bl false))) (aK)) (aq (bc (bT (bM K (ar (oH K A) (fun _=>E0) (ae (ab 0) (ae (tOp (bn K) (ab 2) (tC (.int 0))) (ag)))))) (az (tC (.bl false))) (aK)) (aq (aF (mIf (bM K (tOp (bn K) (ab 2) (tC (.int 0)))) (tOp (bQ K) (tOp (bn K) (tOp (bn K) (tOp (bn K) (ab 2) (tC (.int 0))) (tUn hZ (tC (.int 1)))) (tC (.int 0))) (tC (.int 1))) (tC (.int 0))) (au 3)) (az (ar (nU K A) (fun _=>E0) (ae (ab 0) (ae (ab 1) (ae (ab 3) (ae (tOp (bn K) (ab 2) (tC (.int 1))) (ag)))))))))
def Jp (K:W.Frag) (A:Adr):TS:=aq (aF (tOp (bn K) (ab 2) (tC (.int 0))) (au 4)) (aq (aF (ar (fH K A) (fun _=>E0) (ae (ab 0) (ae (ab 1) (ae (ab 4) (ag))))) (au 5)) (aq (bc (aS (tOp (bN K) (ar (gQ K A) (fun _=>E0) (ae (ab 0) (ae (ab 1) (ae (ab 4) (ag))))) (tC (.int 0)))) (az (eY (ae (tC (.str "fork")) (ae (ab 4) (ae (ab 5) (ae (ab 3) (ae (tOp (bn K) (ab 2) (tC (.int 1))) (ag)))))))) (aK)) (az (eY (ae (tC (.str "fork")) (ae (ab 4) (ae (ab 5) (ae (tOp (bn K) (ab 2) (tC (.int 1))) (ae (ab 3) (ag))))))))))
def Jv (K:W.Frag) (A:Adr):TS:=aq (bc (bT (bM K (ar (iI K A) (fun _=>E0) (ae (ab 1) (ae (ab 2) (ag)))))) (dC) (aK)) (aq (bc (bT (bM K (ar (nR K A) (fun _=>E0) (ae (ab 1) (ae (ab 2) (ae (ab 3) (ag))))))) (dC) (aK)) (aq (aF (eZ (ae (tOp (bn K) (ab 3) (tC (.int 1))) (ag))) (au 4)) (aq (eN (BS K (ae (tOp (bn K) (ab 3) (tC (.int 0))) (ag))) (au 5) (dm (tBM K "list" eR (ab 4) (ae (ar (nS K A) (fun _=>E0) (ae (ab 1) (ae (ab 2) (ae (ab 5) (ae (nX (kG K A) (fun _=>E0) (ab 0) (ae (tOp (bn K) (ab 4) (tUn hZ (tC (.int 1)))) (ag))) (ag)))))) (ag))))) (az (ab 4)))))
def Jn (K:W.Frag) (A:Adr):TS:=az (nX (kG K A) (fun _=>E0) (ab 0) (ae (tOp (bn K) (ar (oG K A) (fun _=>E0) (ae (ab 0) (ae (ab 1) (ae (ab 2) (ae (ab 3) (ag)))))) (tUn hZ (tC (.int 1)))) (ag)))
def IM (K:W.Frag) (A:Adr):TS:=aq (bc (aS (tOp (pR) (ab 1) (tC .non))) (az (tOp (pR) (ab 0) (tC .non))) (aK)) (az (ff (tCB (eL) (ae (ab 0) (ae (tC (.ty "str")) (ag)))) (tOp (bN K) (ab 0) (ab 1))))
def HU (K:W.Frag) (A:Adr):TS:=aq (aF (tOp (bn K) (ab 1) (tC (.int 1))) (au 2)) (az (mIf (jG (aS (tOp (bN K) (tOp (bn K) (ab 2) (tC (.int 0))) (tC (.str "leaf")))) (aS (tOp (bN K) (tOp (bn K) (ab 2) (tC (.int 1))) (ab 0)))) (tOp (bn K) (ab 2) (tC (.int 2))) (tC .non)))
def JM (K:W.Frag) (A:Adr):TS:=aq (aF (ar (ma K A) (fun _=>E0) (ae (ab 0) (ae (ab 1) (ae (ab 3) (ae (ab 4) (ag)))))) (au 5)) (aq (bc (aS (tOp (dH K) (ab 5) (ab 2))) (dC) (aK)) (az (ar (ot K A) (fun _=>E0) (ae (ab 3) (ae (ab 4) (ag))))))
def DE (K:W.Frag) (A:Adr):TS:=az (ar (jR K A) (fun _=>E0) (ae (ar (jX K A) (fun _=>E0) (ae (ab 1) (ae (ab 2) (ae (ab 3) (ae (ab 5) (ae (ab 6) (ag))))))) (ae (pQ nM (ab 4) (ae (ab 5) (ag))) (ag))))
def Bm (K:W.Frag) (A:Adr):TS:=aq (bc (mOr (aS (tOp (mGt) (ab 7) (ab 2))) (aS (tOp (mGt) (ab 7) (tCB (ck K) (ae (ab 4) (ag)))))) (az (tC (.bl false))) (aK)) (DE K A)
def JI (K:W.Frag) (A:Adr):TS:=aq (aF (ar (iK K A) (fun _=>E0) (ae (ab 0) (ae (ab 5) (ag)))) (au 6)) (aq (bc (aS (tOp (dH K) (ar (ma K A) (fun _=>E0) (ae (ab 1) (ae (ab 2) (ae (ab 5) (ae (ab 6) (ag)))))) (ab 3))) (az (tC (.bl false))) (aK)) (aq (aF (tOp (bQ K) (tCB (ck K) (ae (tOp (bn K) (ab 6) (tC (.int 0))) (ag))) (tOp (eA) (tC (.int 2)) (tCB (vE) (ae (tOp (bN K) (tOp (bn K) (tOp (bn K) (ab 6) (tC (.int 1))) (tC (.int 0))) (tC (.str "fork"))) (ag))))) (au 7)) (aq (bc (mOr (aS (tOp (mGt) (ab 7) (ab 2))) (aS (tOp (mGt) (ab 7) (tCB (ck K) (ae (ab 4) (ag)))))) (az (tC (.bl false))) (aK)) (az (ar (jR K A) (fun _=>E0) (ae (ar (jX K A) (fun _=>E0) (ae (ab 1) (ae (ab 2) (ae (ab 3) (ae (ab 5) (ae (ab 6) (ag))))))) (ae (pQ nM (ab 4) (ae (ab 5) (ag))) (ag))))))))
def Ji (K:W.Frag) (A:Adr):TS:=aq (eN (em K (ab 0)) (rV K 5 (ej (au 4) (ej (au 5) (ej (au 6) (ej (au 7) (ej (au 8) rq)))))) (aq (bc (mOr (aS (tOp (dH K) (ar (iK K A) (fun _=>E0) (ae (ab 4) (ae (ab 7) (ag)))) (ab 8))) (aS (tOp (dH K) (bA A.c_Table "root" (gN K A) (fun _=>E0) (ab 4) ag) (ab 6)))) (az (tC (.bl false))) (aK)) (aq (bc (bT (bM K (ar (jR K A) (fun _=>E0) (ae (ar (jX K A) (fun _=>E0) (ae (ab 1) (ae (ab 2) (ae (ab 6) (ae (ab 7) (ae (ab 8) (ag))))))) (ae (pQ nM (ab 5) (ae (ab 7) (ag))) (ag)))))) (az (tC (.bl false))) (aK)) (eN (em K (ab 3)) (au 9) (bc (bT (bM K (ar (jT K A) (fun _=>E0) (ae (ab 4) (ae (ab 1) (ae (ab 2) (ae (ab 6) (ae (ab 5) (ae (ab 9) (ag)))))))))) (az (tC (.bl false))) (aK)))))) (az (tC (.bl true)))
def zC (K:W.Frag) (A:Adr):TS:=az (ar (lA K A) (fun _=>E0) (ae (ab 6) (ae (ab 2) (ae (ab 1) (ae (tOp (bQ K) (tSl (fw K) (ab 9) (cX) (dn (tC (.int 4)))) (tSl (fw K) (ab 5) (cX) (dn (tC (.int 1))))) (ag))))))
def tY (K:W.Frag) (A:Adr):TS:=aq (eN (em K (ab 9)) (au 8) (bc (bT (bM K (ar (jT K A) (fun _=>E0) (ae (ab 3) (ae (ab 2) (ae (ab 1) (ae (bA A.c_Table "root" (gN K A) (fun _=>E0) (ab 3) ag) (ae (ab 4) (ae (ab 8) (ag)))))))))) (az (tC (.bl false))) (aK))) (zC K A)
def uF (K:W.Frag) (A:Adr):TS:=aq (aF (tOp (bQ K) (ab 9) (li K [1] (ss K (ae (tSl (fw K) (ab 5) (dn (tUn hZ (tC (.int 7)))) (cX)) (ag))) (fun _ H Q=>Q true H) (tOp (mD) (ab 1) (tOp (ie) (tC (.int 1)) (tOp (bF) (ab 0) (ab 2)))))) (au 9)) (tY K A)
def uY (K:W.Frag) (A:Adr):TS:=aq (aF (tOp (bQ K) (eZ (ae (tC (.int 0)) (ae (tOp (gL) (tOp (ie) (tC (.int 1)) (ab 1)) (tC (.int 1))) (ag)))) (tSl (fw K) (ab 5) (dn (tUn hZ (tC (.int 7)))) (cX))) (au 9)) (uF K A)
def uN (K:W.Frag) (A:Adr):TS:=aq (eN (em K (tSl (fw K) (ab 0) (dn (tC (.int 3))) (dn (tC (.int 60))))) (au 7) (aq (aF (ar (lK K A) (fun _=>E0) (ae (ab 3) (ae (ab 1) (ae (ab 4) (ae (ab 5) (ae (ab 7) (ag))))))) (au 8)) (aq (dm (tBM K "list" eR (ab 5) (ae (ab 8) (ag)))) (bc (jG (aS (tOp (mLt) (tCB (ck K) (ae (ab 6) (ag))) (tC (.int 3)))) (aS (tOp (mLt) (tOp (bF) (ab 7) (tC (.int 7))) (tC (.int 3))))) (dm (tBM K "list" eR (ab 6) (ae (eY (ae (bA A.c_Table "twin" (lO K A) (fun _=>E0) (ab 3) ag) (ae (tCB (sK K) (ae (ab 4) (ag))) (ae (bA A.c_Table "root" (gN K A) (fun _=>E0) (ab 3) ag) (ae (ab 8) (ae (ar (iK K A) (fun _=>E0) (ae (ab 3) (ae (ab 8) (ag)))) (ag))))))) (ag)))) (aK))))) (uY K A)
def uz (K:W.Frag) (A:Adr):TS:=aq (aF (eZ (ag)) (au 6)) (uN K A)
def tT (K:W.Frag) (A:Adr):TS:=aq (aF (eZ (ae (ar (jb K A) (fun _=>E0) (ae (ab 1) (ae (ar (gZ K A) (fun _=>E0) (ae (ab 0) (ae (tC (.int 2)) (ag)))) (ae (eZ (ag)) (ag))))) (ag))) (au 5)) (uz K A)
def tw (K:W.Frag) (A:Adr):TS:=aq (aF (gJ) (au 4)) (tT K A)
def tQ (K:W.Frag) (A:Adr):TS:=aq (aF (cO A.c_Table (iP K A) (fun _=>E0) (ae (ab 2) (ae (ab 1) (ag)))) (au 3)) (tw K A)
def BO (K:W.Frag) (A:Adr):TS:=aq (aF (ar (lR K A) (fun _=>E0) (ae (ar (gZ K A) (fun _=>E0) (ae (ab 0) (ae (tC (.int 1)) (ag)))) (ag))) (au 2)) (tQ K A)
def JJ (K:W.Frag) (A:Adr):TS:=aq (aF (ar (om K A) (fun _=>E0) (ae (ar (gZ K A) (fun _=>E0) (ae (ab 0) (ae (tC (.int 0)) (ag)))) (ag))) (au 1)) (aq (aF (ar (lR K A) (fun _=>E0) (ae (ar (gZ K A) (fun _=>E0) (ae (ab 0) (ae (tC (.int 1)) (ag)))) (ag))) (au 2)) (aq (aF (cO A.c_Table (iP K A) (fun _=>E0) (ae (ab 2) (ae (ab 1) (ag)))) (au 3)) (aq (aF (gJ) (au 4)) (aq (aF (eZ (ae (ar (jb K A) (fun _=>E0) (ae (ab 1) (ae (ar (gZ K A) (fun _=>E0) (ae (ab 0) (ae (tC (.int 2)) (ag)))) (ae (eZ (ag)) (ag))))) (ag))) (au 5)) (aq (aF (eZ (ag)) (au 6)) (aq (eN (em K (tSl (fw K) (ab 0) (dn (tC (.int 3))) (dn (tC (.int 60))))) (au 7) (aq (aF (ar (lK K A) (fun _=>E0) (ae (ab 3) (ae (ab 1) (ae (ab 4) (ae (ab 5) (ae (ab 7) (ag))))))) (au 8)) (aq (dm (tBM K "list" eR (ab 5) (ae (ab 8) (ag)))) (bc (jG (aS (tOp (mLt) (tCB (ck K) (ae (ab 6) (ag))) (tC (.int 3)))) (aS (tOp (mLt) (tOp (bF) (ab 7) (tC (.int 7))) (tC (.int 3))))) (dm (tBM K "list" eR (ab 6) (ae (eY (ae (bA A.c_Table "twin" (lO K A) (fun _=>E0) (ab 3) ag) (ae (tCB (sK K) (ae (ab 4) (ag))) (ae (bA A.c_Table "root" (gN K A) (fun _=>E0) (ab 3) ag) (ae (ab 8) (ae (ar (iK K A) (fun _=>E0) (ae (ab 3) (ae (ab 8) (ag)))) (ag))))))) (ag)))) (aK))))) (aq (aF (tOp (bQ K) (eZ (ae (tC (.int 0)) (ae (tOp (gL) (tOp (ie) (tC (.int 1)) (ab 1)) (tC (.int 1))) (ag)))) (tSl (fw K) (ab 5) (dn (tUn hZ (tC (.int 7)))) (cX))) (au 9)) (aq (aF (tOp (bQ K) (ab 9) (li K [1] (ss K (ae (tSl (fw K) (ab 5) (dn (tUn hZ (tC (.int 7)))) (cX)) (ag))) (fun _ H Q=>Q true H) (tOp (mD) (ab 1) (tOp (ie) (tC (.int 1)) (tOp (bF) (ab 0) (ab 2)))))) (au 9)) (aq (eN (em K (ab 9)) (au 8) (bc (bT (bM K (ar (jT K A) (fun _=>E0) (ae (ab 3) (ae (ab 2) (ae (ab 1) (ae (bA A.c_Table "root" (gN K A) (fun _=>E0) (ab 3) ag) (ae (ab 4) (ae (ab 8) (ag)))))))))) (az (tC (.bl false))) (aK))) (az (ar (lA K A) (fun _=>E0) (ae (ab 6) (ae (ab 2) (ae (ab 1) (ae (tOp (bQ K) (tSl (fw K) (ab 9) (cX) (dn (tC (.int 4)))) (tSl (fw K) (ab 5) (cX) (dn (tC (.int 1))))) (ag))))))))))))))))
end Rs
namespace Rs
open PySem PySem.Spec PyProof.Rows L2
def tyD:Dat→String
 | .non=> "NoneType"
 | .bl _=> "bool"
 | .int _=> "int"
 | .str _=> "str"
 | .lst _=> "list"
 | .tup _=> "tuple"
 | .dic=> "dict"
theorem aY.ty {H:Hp} {v:V} {d:Dat} (h:aY H v d):tyN H v=some (tyD d):=by
 cases h with
 | lst e _=>unfold tyN;dsimp only;rw [e];rfl
 | tup e _=>unfold tyN;dsimp only;rw [e];rfl
 | dic e=>unfold tyN;dsimp only;obtain ⟨kvs,e⟩:=e;rw [e];rfl
 | _=>rfl
mutual
theorem aY.toV {K:W.Frag} {H:Hp} {v:V} {d:Dat} (h:aY H v d) (ok:okD d=true):dM K H v (dL d):=by
 cases h with
 | non=>exact .non
 | bl b=>exact .bl b
 | int i=>exact .int i
 | str z=>exact .str z
 | lst e r=>exact .lst (SqL.of e) (DatWs.toV r ok)
 | tup e r=>exact .tup (SqT.of e) (DatWs.toV r ok)
 | dic e=>cases ok
theorem DatWs.toV {K : W.Frag} {H : Hp} {xs : List V} {ds : List Dat} (h : DatWs H xs ds) (ok : okDs ds = true) : DatVs K H xs (toPys ds) := by
  cases h with
  | nil => exact .nil
  | cons a r =>
    have ok : (okD _ && okDs _) = true := ok
    rw [Bool.and_eq_true] at ok
    exact .cons (aY.toV a ok.1) (DatWs.toV r ok.2)
end
theorem Cq {z:Str} (h:bW z=true):PyData.strOk z=true:=by
 unfold PyData.strOk
 unfold bW at h
 rw [Array.all_eq_true] at h ⊢
 intro i hi
 have:=of_decide_eq_true (h i hi)
 exact decide_eq_true (by omega)
mutual
theorem fu:∀ {d:Dat},okD d=true→(dL d).canLay0=true
 | .non,_=>rfl
 | .bl _,_=>rfl
 | .int _,_=>rfl
 | .str z,h=>Cq (Bool.and_eq_true_iff.mp h).1
 | .lst ds,h=>lay_toPys h
 | .tup ds,h=>lay_toPys h
theorem lay_toPys : ∀ {ds : List Dat}, okDs ds = true → PyData.canLayAll0 (toPys ds) = true
  | [], _ => rfl
  | d :: r, h => by
    have h : (okD d && okDs r) = true := h
    rw [Bool.and_eq_true] at h
    show ((dL d).canLay0 && PyData.canLayAll0 (toPys r)) = true
    rw [fu h.1, lay_toPys h.2]; rfl
end
theorem DatWs.len {H:Hp}:∀ {xs:List V} {ds:List Dat},DatWs H xs ds→xs.length=ds.length
 | _,_,.nil=>rfl
 | _,_,.cons _ r=>by rw [List.length_cons,List.length_cons,r.len]
theorem DatWs.get {H : Hp} : ∀ {xs : List V} {ds : List Dat}, DatWs H xs ds → ∀ {i : Nat} {x : V}, xs[i]? = some x → ∃ d, ds[i]? = some d ∧ aY H x d
  | _, _, .nil, i, x, e => by cases e
  | _, _, .cons a r, i, x, e => by
    cases i with
    | zero => cases e; exact ⟨_, rfl, a⟩
    | succ i => exact r.get e
mutual
theorem aY.mono {H H':Hp} {v:V} {d:Dat} (s:ay H H') (h:aY H v d):aY H' v d:=by
 cases h with
 | non=>exact .non
 | bl b=>exact .bl b
 | int i=>exact .int i
 | str z=>exact .str z
 | lst e r=>exact .lst (s _ _ e) (DatWs.mono s r)
 | tup e r=>exact .tup (s _ _ e) (DatWs.mono s r)
 | dic e=>exact (let ⟨k,e⟩:=e;.dic ⟨k,s _ _ e⟩)
theorem DatWs.mono {H H':Hp} {xs:List V} {ds:List Dat} (s:ay H H') (h:DatWs H xs ds):DatWs H' xs ds:=by
 cases h with
 | nil=>exact .nil
 | cons a r=>exact .cons (aY.mono s a) (DatWs.mono s r)
end
theorem qP {K:W.Frag} {H:Hp} {v:V} {d:Dat} {w:Str} {Q:VK} (h:aY H v d) (ok:okD d=true) (dp:(dL d).depth≤150) (hw:PyData.strOk w=true) (q:Q (.bl (!cv w d)) H):dH K v (.str w) H Q:=by
 have ref:∀ a,v=.ref a→(dL d).eqv (.str w)=false→cv w d=false→dH K v (.str w) H Q:=fun a e e1 e2=>by
  subst e
  refine ⟨_,_,h.toV ok,.str w,fu ok,hw,dp,?_⟩
  rw [e1];rw [e2] at q;exact q
 cases h with
 | non=>exact q
 | bl b=>exact q
 | int i=>exact q
 | str z=>exact q
 | lst e r=>exact ref _ rfl rfl rfl
 | tup e r=>exact ref _ rfl rfl rfl
 | dic e=>cases ok
theorem ixT {K:W.Frag} {H:Hp} {Q:VK} {a:Addr} {xs:List V} {x:V} {i:Int} {j:Nat} (ha:H a=some (.tup xs)) (e:i=j) (hx:xs[j]?=some x) (q:Q x H):bn K (.ref a) (.int i) H Q:=by
 subst e
 refine .inl (.inr (.inl ⟨a,xs,j,x,rfl,rfl,SqT.of ha,?_,q⟩))
 have hj:=(List.getElem?_eq_some_iff.mp hx).1
 rw [tX (by omega) (by omega)]
 simp [List.getD_eq_getElem?_getD,hx]
variable {K:W.Frag} {mg:Str→Option Value} {A:Adr}
theorem BB (K:W.Frag) (A:Adr):Ln (fG K A) 1:=by rintro vs H Q E ⟨v,d,rfl,_⟩;rfl
theorem Et (T:Txt K mg A) (vs:List V) (H:Hp) (Q:VK) (E:XK) (h:fG K A vs H Q E):JA K A { nx:=fun _ H'=>Q .non H',rt:=Q } (cp ["thing"] vs) H:=by
 obtain ⟨v,d,rfl,w,q⟩:=h
 refine ⟨by decide,_,w.ty,?_⟩
 cases d
 case int i=>exact Sel.yes rfl ⟨by decide,_,w.ty,q⟩
 case bl b=>exact Sel.yes rfl ⟨by decide,_,w.ty,q⟩
 all_goals exact Sel.no rfl q
theorem Do (K:W.Frag) (A:Adr):Ln (jd K A) 1:=by rintro vs H Q E ⟨v,d,rfl,_⟩;rfl
theorem HS (T : Txt K mg A) (vs : List V) (H : Hp) (Q : VK) (E : XK) (h : jd K A vs H Q E) : Jo K A { nx := fun _ H' => Q .non H', rt := Q } (cp ["thing"] vs) H := by
  obtain ⟨v, d, rfl, w, q⟩ := h
  refine ⟨v, d, rfl, w, ?_⟩
  cases w with
  | int i =>
    refine Sel.yes rfl (Sel.dec (fun h0 => ⟨⟨by decide, by decide, by decide⟩, ?_⟩) (fun h0 => ?_))
    · show Q (.bl (decide (i < 10 ^ ((60 : Int).toNat)))) H
      have e : bB (.int i) = decide (i < 10 ^ ((60 : Int).toNat)) := by
        show decide (0 ≤ i ∧ i < 10 ^ 60) = decide (i < 10 ^ 60)
        by_cases h1 : i < 10 ^ 60
        · rw [decide_eq_true h1, decide_eq_true ⟨h0, h1⟩]
        · rw [decide_eq_false h1, decide_eq_false fun z => h1 z.2]
      rw [← e]; exact q
    · have e : bB (.int i) = false := decide_eq_false fun z => h0 z.1
      rw [← e]; exact q
  | non => exact Sel.no rfl ⟨by decide, _, rfl, q⟩
  | bl b => exact Sel.no rfl ⟨by decide, _, rfl, q⟩
  | str z => exact Sel.no rfl ⟨by decide, _, rfl, q⟩
  | lst e r => exact Sel.no rfl ⟨by decide, _, (aY.lst e r).ty, q⟩
  | tup e r => exact Sel.no rfl ⟨by decide, _, (aY.tup e r).ty, q⟩
  | dic e => exact Sel.no rfl ⟨by decide, _, (aY.dic e).ty, q⟩
theorem Eh (K:W.Frag) (A:Adr):Ln (fH K A) 3:=by rintro vs H Q E ⟨b,k,d,rfl,_⟩;rfl
theorem GT (T:Txt K mg A):Rd (fH K A) (Jy K A) ["bits", "key", "depth"]:=by
 intro vs H Q E h
 obtain ⟨b,k,d,rfl,hd,q⟩:=h
 exact ⟨by omega,q⟩
theorem Bc (K:W.Frag) (A:Adr):Ln (iI K A) 2:=by rintro vs H Q E ⟨b,v,d,rfl,_⟩;rfl
theorem EA (T : Txt K mg A) : Rd (iI K A) (Io K A) ["bits", "thing"] := by
  intro vs H Q E h
  obtain ⟨b, v, d, rfl, h0, h1, w, q⟩ := h
  refine ⟨v, d, rfl, w, ?_⟩
  cases w with
  | int i =>
    refine Sel.yes rfl (Sel.dec (fun h2 => ⟨⟨h0, by omega, by decide⟩, ?_⟩) (fun h2 => ?_))
    · show Q (.bl (decide (i < 1 * 2 ^ b.toNat))) H
      have e : cY b (.int i) = decide (i < 1 * 2 ^ b.toNat) := by
        show decide (0 ≤ i ∧ i < 2 ^ b.toNat) = _
        rw [Int.one_mul]
        by_cases h1 : i < 2 ^ b.toNat
        · rw [decide_eq_true h1, decide_eq_true ⟨h2, h1⟩]
        · rw [decide_eq_false h1, decide_eq_false fun z => h1 z.2]
      rw [← e]; exact q
    · have e : cY b (.int i) = false := decide_eq_false fun z => h2 z.1
      rw [← e]; exact q
  | _ => exact Sel.no rfl q
theorem Eo (K:W.Frag) (A:Adr):Ln (lp K A) 1:=by rintro vs H Q E ⟨v,d,rfl,_⟩;rfl
theorem EI (T : Txt K mg A) : Rd (lp K A) (Jw K A) ["thing"] := by
  intro vs H Q E h
  obtain ⟨v, d, rfl, w, ok, q⟩ := h
  refine ⟨by decide, _, w.ty, ?_⟩
  cases w with
  | str z =>
    have hl := of_decide_eq_true (Bool.and_eq_true_iff.mp ok).2
    refine Sel.yes rfl (.inl ⟨ba (by omega), ?_⟩)
    have e : cT (.str z) = decide ((z.length : Int) ≤ 60) := by
      show decide (z.length ≤ 60) = _
      by_cases h1 : z.length ≤ 60
      · rw [decide_eq_true h1, decide_eq_true (by omega)]
      · rw [decide_eq_false h1, decide_eq_false (by omega)]
    show Q (.bl (decide ((z.length : Int) ≤ 60))) H
    rw [← e]; exact q
  | _ => exact Sel.no rfl q
theorem jA (b l i:Int) (m:Dat):bG b l (.tup [.int i,m])=(decide (l≤i∧i<b)&&bB m):=rfl
theorem Cy (K:W.Frag) (A:Adr):Ln (oF K A) 3:=by rintro vs H Q E ⟨b,l,v,d,rfl,_⟩;rfl
theorem Hy (T : Txt K mg A) : Rd (oF K A) (Jk K A) ["bits", "least", "thing"] := by
  intro vs H Q E h
  obtain ⟨b, l, v, d, rfl, w, q⟩ := h
  refine ⟨by decide, _, w.ty, ?_⟩
  cases w with
  | @tup a xs ds e r =>
    refine Sel.no rfl (.inl (.inr (.inl ⟨_, SqT.of e, ?_⟩)))
    have el := r.len
    refine Sel.ndec (fun hne => ?_) (fun he => ?_)
    · have e2 : bG b l (.tup ds) = false := by
        unfold bG
        split
        · rename_i heq; cases heq; simp at el; omega
        · rfl
      show Q (.bl false) H
      rw [← e2]; exact q
    · cases r with
      | nil => simp at he
      | cons w0 r =>
        cases r with
        | nil => simp at he
        | cons w1 r =>
          cases r with
          | cons _ _ => simp at he; omega
          | nil =>
            refine ixT (j := 0) e rfl rfl ⟨_, _, rfl, w0, ?_⟩
            cases w0 with
            | int i =>
              refine Sel.yes rfl (ixT (j := 0) e rfl rfl (Sel.dec (fun h1 => ?_) (fun h1 => ?_)))
              · refine Sel.dec (fun h2 => ?_) (fun h2 => ?_)
                · refine ixT (j := 1) e rfl rfl ⟨_, _, rfl, w1, ?_⟩
                  rw [jA, decide_eq_true ⟨h1, h2⟩] at q; exact q
                · rw [jA, decide_eq_false (fun z => h2 z.2)] at q; exact q
              · rw [jA, decide_eq_false (fun z => h1 z.1)] at q; exact Sel.no rfl q
            | _ => exact Sel.no rfl q
  | _ => exact Sel.yes rfl (Sel.t q)
end Rs
namespace Rs
open PySem PySem.Spec PyProof.Rows L2
theorem gF {b l:Int} {d:Dat} (h:bG b l d=true):∃ i m,d=.tup [.int i,m]:=by
 unfold bG at h
 split at h
 · exact ⟨_,_,rfl⟩
 · cases h
theorem tO {d : Dat} {ds : List Dat} (hm : d ∈ ds) : (dL d).depth ≤ PyData.depthAll (toPys ds) := by
  induction ds with
  | nil => cases hm
  | cons x r ih =>
    show _ ≤ max (dL x).depth (PyData.depthAll (toPys r))
    rcases List.mem_cons.mp hm with rfl | hm
    · omega
    · have := ih hm; omega
theorem oX {d : Dat} {ds : List Dat} (h : okDs ds = true) (hm : d ∈ ds) : okD d = true := by
  induction ds with
  | nil => cases hm
  | cons x r ih =>
    have h : (okD x && okDs r) = true := h
    rw [Bool.and_eq_true] at h
    rcases List.mem_cons.mp hm with rfl | hm
    · exact h.1
    · exact ih h.2 hm
theorem fX.tup {ds:List Dat} (h:fX (.tup ds)):okDs ds=true∧PyData.depthAll (toPys ds)≤139:=by
 rcases h with ⟨h1,h2⟩ | h
 · exact ⟨h1,by have h2:PyData.depthAll (toPys ds)+1≤140:=h2;omega⟩
 · cases h
theorem Ac {K : W.Frag} {H : Hp} {v : V} {d : Dat} {p : Addr} {Q : VK} (w : aY H v d) (ok : fX d) (hp : H p = some (.tup [.str "bare"])) (q : Q (.bl (gn d)) H) : bN K v (.ref p) H Q := by
  have dv : dM K H (.ref p) (.tuple [.str "bare"]) := .tup (SqT.of hp) (.cons (.str _) .nil)
  have lv : (PyData.tuple [.str "bare"]).canLay0 = true := by decide +kernel
  rcases ok with ⟨ok, dp⟩ | rfl
  · have hd : ∀ e : (dL d).eqv (.tuple [.str "bare"]) = gn d, pX K v (.ref p) H Q := fun e => ⟨_, _, w.toV ok, dv, fu ok, lv, by omega, by rw [e]; exact q⟩
    cases w with
    | non => exact hd rfl
    | bl b => exact hd rfl
    | int i => exact hd rfl
    | str z => exact hd rfl
    | lst e r => exact .inr (.inl (hd rfl))
    | @tup a xs ds e r =>
      refine .inr (.inl (hd ?_))
      clear hd r ok dp q
      cases ds with
      | nil => rfl
      | cons x rs =>
        cases rs with
        | nil =>
          show ((dL x).eqv (.str "bare") && true) = cv "bare" x
          rw [Bool.and_true]
          cases x with
          | str z =>
            show (z == ("bare" : Str)) = decide (z = "bare")
            by_cases h : z = "bare" <;> simp [h]
          | _ => rfl
        | cons y rs =>
          show ((dL x).eqv (.str "bare") && false) = false
          rw [Bool.and_false]
    | dic e => cases ok
  · cases w with
    | dic e => exact .inr (.inr ⟨_, p, _, rfl, rfl, .inl e, SqT.of hp, q⟩)
variable {K:W.Frag} {mg:Str→Option Value} {A:Adr}
theorem Df (K:W.Frag) (A:Adr):Ln (oH K A) 2:=by rintro vs H Q E ⟨b,v,d,rfl,_⟩;rfl
theorem HC (T : Txt K mg A) : Rd (oH K A) (Js K A) ["bits", "thing", "least", "step"] := by
  intro vs H Q E h
  obtain ⟨b, v, d, rfl, w, q⟩ := h
  refine ⟨by decide, _, w.ty, ?_⟩
  cases w with
  | @tup a xs ds e r =>
    have q : Q (.bl (bo b 0 ds)) H := q
    refine Sel.no rfl ⟨a, rfl, .inr ⟨⟨_, SqT.of e⟩, ?_⟩⟩
    have el := r.len
    refine qL (xs := xs) (fun i σ H' => H' = H ∧ ∃ l x3, σ = [some (.int b), some (.ref a), some (.int l), x3] ∧ bo b 0 ds = bo b l (ds.drop i)) ⟨rfl, 0, none, rfl, rfl⟩ ?_ ?_ ?_
    · rintro i σ _ _ ⟨rfl, _⟩; exact SqT.of e
    · rintro i x σ _ hx ⟨rfl, l, x3, rfl, eq⟩
      obtain ⟨d, hd, wx⟩ := r.get hx
      have hi : i < ds.length := (List.getElem?_eq_some_iff.mp hd).1
      have dr : ds.drop i = d :: ds.drop (i + 1) := by
        rw [List.drop_eq_getElem_cons hi]
        rw [List.getElem?_eq_getElem hi] at hd; rw [Option.some.inj hd]
      rw [dr] at eq
      have eq : bo b 0 ds = (bG b l d && bo b (dY d + 1) (ds.drop (i + 1))) := eq
      refine ⟨b, l, x, d, rfl, wx, Sel.mk (fun hf => ?_) (fun ht => ?_)⟩
      · have hf : bG b l d = false := by simpa using hf
        rw [hf] at eq
        rw [eq] at q; exact q
      · have ht : bG b l d = true := by simpa using ht
        obtain ⟨i0, m, rfl⟩ := gF ht
        cases wx with
        | tup ex rx =>
          cases rx with
          | cons w0 rx =>
            cases w0
            refine ixT (j := 0) ex rfl rfl ⟨rfl, _, _, rfl, ?_⟩
            rw [ht] at eq; exact eq
    · rintro σ _ ⟨rfl, l, x3, rfl, eq⟩
      rw [List.drop_eq_nil_of_le (by omega)] at eq
      rw [eq] at q; exact q
  | _ => exact Sel.yes rfl q
theorem Ds (K:W.Frag) (A:Adr):Ln (nY K A) 4:=by rintro vs H Q E ⟨b,p,g,v,d,rfl,_⟩;rfl
theorem GR (T : Txt K mg A) : Rd (nY K A) (IZ K A) ["bits", "depth", "begin", "thing"] := by
  intro vs H Q E h
  obtain ⟨b, p, g, v, d, rfl, b0, b60, hp, w, ok, q⟩ := h
  refine ⟨by decide, _, w.ty, ?_⟩
  cases w with
  | @tup a xs ds e r =>
    obtain ⟨ok, dp⟩ := ok.tup
    have el := r.len
    refine Sel.no rfl (.inl (.inr (.inl ⟨_, SqT.of e, Sel.ndec (fun ne => Sel.t ?_) (fun he => ?_)⟩)))
    · have e2 : eV b p g (.tup ds) = false := by
        unfold eV
        split
        · rename_i heq; cases heq; simp at el; omega
        · rfl
      rw [e2] at q; exact q
    · cases r with
      | nil => simp at he
      | @cons x0 _ d0 _ w0 r =>
      cases r with
      | nil => simp at he
      | @cons x1 _ d1 _ w1 r =>
      cases r with
      | nil => simp at he
      | @cons x2 _ d2 _ w2 r =>
      cases r with
      | cons _ _ => simp at he; omega
      | nil =>
      have o0 := oX ok (d := d0) (by simp)
      have p0 := tO (d := d0) (ds := [d0, d1, d2]) (by simp)
      have o2 := oX ok (d := d2) (by simp)
      refine ixT (j := 0) e rfl rfl (qP w0 o0 (by omega) (by decide +kernel) (Sel.mk (fun hn => ?_) (fun hy => ?_)))
      · have hn : cv "leaf" d0 = false := by simpa using hn
        have e2 : eV b p g (.tup [d0, d1, d2]) = false := by
          cases d1 <;> first | rfl | (show (cv "leaf" d0 && _ && _ && _) = false; rw [hn]; rfl)
        rw [e2] at q; exact q
      · have hy : cv "leaf" d0 = true := by simpa using hy
        refine ixT (j := 1) e rfl rfl ⟨b, x1, d1, rfl, b0, b60, w1, ?_⟩
        cases w1 with
        | int k =>
          have e2 : eV b p g (.tup [d0, .int k, d2]) = (decide (0 ≤ k ∧ k < 2 ^ b.toNat) && cT d2 && decide (bi b k p = g)) := by
            show (cv "leaf" d0 && _ && _ && _) = _
            rw [hy]; simp
          rw [e2] at q
          refine Sel.mk (fun hk => Sel.t ?_) (fun hk => ?_)
          · have hk : cY b (.int k) = false := by simpa only [Bool.not_eq_true'] using hk
            have hk : decide (0 ≤ k ∧ k < 2 ^ b.toNat) = false := hk
            rw [hk] at q; exact q
          · have hk : cY b (.int k) = true := by simpa only [Bool.not_eq_false'] using hk
            have hk : decide (0 ≤ k ∧ k < 2 ^ b.toNat) = true := hk
            rw [hk, Bool.true_and] at q
            refine ixT (j := 2) e rfl rfl ⟨x2, d2, rfl, w2, o2, ?_⟩
            refine Sel.mk (fun hv => ?_) (fun hv => ?_)
            · have hv : cT d2 = false := by simpa using hv
              rw [hv] at q; exact q
            · have hv : cT d2 = true := by simpa using hv
              rw [hv, Bool.true_and] at q
              exact ixT (j := 1) e rfl rfl ⟨b, k, p, rfl, hp, q⟩
        | _ => exact Sel.t (Sel.t q)
  | _ => exact Sel.yes rfl (Sel.t q)
theorem AE (K:W.Frag) (A:Adr):Ln (ow K A) 4:=by rintro vs H Q E ⟨b,p,g,v,d,rfl,_⟩;rfl
theorem GH (T : Txt K mg A) : Rd (ow K A) (IN K A) ["bits", "depth", "begin", "thing"] := by
  intro vs H Q E h
  obtain ⟨b, p, g, v, d, rfl, p0, b60, hp, w, ok, q⟩ := h
  refine ⟨by decide, _, w.ty, ?_⟩
  cases w with
  | @tup a xs ds e r =>
    obtain ⟨ok, dp⟩ := ok.tup
    have el := r.len
    refine Sel.no rfl (.inl (.inr (.inl ⟨_, SqT.of e, Sel.ndec (fun ne => Sel.t ?_) (fun he => ?_)⟩)))
    · have e2 : cL b p g (.tup ds) = false := by
        unfold cL
        split
        · rename_i heq; cases heq; simp at el; omega
        · rfl
      rw [e2] at q; exact q
    · cases r with
      | nil => simp at he
      | @cons x0 _ d0 _ w0 r =>
      cases r with
      | nil => simp at he
      | @cons x1 _ d1 _ w1 r =>
      cases r with
      | nil => simp at he
      | @cons x2 _ d2 _ w2 r =>
      cases r with
      | nil => simp at he
      | @cons x3 _ d3 _ w3 r =>
      cases r with
      | nil => simp at he
      | @cons x4 _ d4 _ w4 r =>
      cases r with
      | cons _ _ => simp at he; omega
      | nil =>
      have o0 := oX ok (d := d0) (by simp)
      have pp := tO (d := d0) (ds := [d0, d1, d2, d3, d4]) (by simp)
      refine ixT (j := 0) e rfl rfl (qP w0 o0 (by omega) (by decide +kernel) (Sel.mk (fun hn => ?_) (fun hy => ?_)))
      · have hn : cv "fork" d0 = false := by simpa using hn
        have e2 : cL b p g (.tup [d0, d1, d2, d3, d4]) = false := by
          cases d1 <;> first | rfl | (cases d2 <;> first | rfl | (show (cv "fork" d0 && _ && _ && _) = false; rw [hn]; rfl))
        rw [e2] at q; exact q
      · have hy : cv "fork" d0 = true := by simpa using hy
        refine ixT (j := 1) e rfl rfl ⟨x1, d1, rfl, w1, ?_⟩
        cases w1 with
        | int ee =>
          refine Sel.no rfl (ixT (j := 1) e rfl rfl ?_)
          have bad : decide (p ≤ ee ∧ ee < b) = false → cL b p g (.tup [d0, .int ee, d2, d3, d4]) = false := fun z => by
            cases d2 <;> first | rfl | (show (cv "fork" d0 && _ && _ && _) = false; rw [z]; simp)
          refine Sel.dec (fun h1 => Sel.ndec (fun h2 => ?_) (fun h2 => ?_)) (fun h1 => ?_)
          · rw [bad (decide_eq_false fun z => h2 z.2)] at q; exact q
          · refine ixT (j := 2) e rfl rfl ⟨x2, d2, rfl, w2, ?_⟩
            cases w2 with
            | int bb =>
              have e2 : cL b p g (.tup [d0, .int ee, .int bb, d3, d4]) = (decide (0 ≤ bb ∧ bb < 2 ^ ee.toNat) && decide (bb / 2 ^ (ee - p).toNat = g)) := by
                show (cv "fork" d0 && decide (p ≤ ee ∧ ee < b) && _ && _) = _
                rw [hy, decide_eq_true ⟨h1, h2⟩]; simp
              rw [e2] at q
              refine Sel.no rfl (ixT (j := 2) e rfl rfl ?_)
              refine Sel.dec (fun h3 => ixT (j := 1) e rfl rfl ⟨⟨by omega, by omega, by decide⟩, Sel.mk (fun h4 => ?_) (fun h4 => ?_)⟩) (fun h3 => ?_)
              · rw [Int.one_mul] at h4
                have h4 : ¬ bb < 2 ^ ee.toNat := by simpa using h4
                rw [decide_eq_false (fun z => h4 z.2)] at q; exact q
              · rw [Int.one_mul] at h4
                have h4 : bb < 2 ^ ee.toNat := by simpa using h4
                rw [decide_eq_true ⟨h3, h4⟩, Bool.true_and] at q
                exact ixT (j := 2) e rfl rfl (ixT (j := 1) e rfl rfl ⟨by omega, q⟩)
              · rw [decide_eq_false (fun z => h3 z.1)] at q; exact Sel.yes rfl q
            | _ => exact Sel.yes rfl (Sel.t q)
          · rw [bad (decide_eq_false fun z => h1 z.1)] at q; exact Sel.yes rfl q
        | _ => exact Sel.yes rfl (Sel.t q)
  | _ => exact Sel.yes rfl (Sel.t q)
end Rs
namespace Rs
open PySem PySem.Spec PyProof.Rows L2
theorem oW {b p g:Int} {d:Dat} (h:cL b p g d=true):∃ w e bb m n,d=.tup [w,.int e,.int bb,m,n]∧p≤e∧e<b:=by
 unfold cL at h
 split at h
 · rename_i w e bb m n
   simp only [Bool.and_eq_true,decide_eq_true_eq] at h
   exact ⟨w,e,bb,m,n,rfl,h.1.1.2.1,h.1.1.2.2⟩
 · cases h
variable {K:W.Frag} {mg:Str→Option Value} {A:Adr}
theorem BE (K:W.Frag) (A:Adr):Ln (nU K A) 4:=by rintro vs H Q E ⟨b,k,p,v,d,rfl,_⟩;rfl
theorem FV (T:Txt K mg A):Rd (nU K A) (Jr K A) ["bits", "key", "place", "thing", "begin"]:=by
 intro vs H Q E h
 obtain ⟨b,k,p,v,d,rfl,p0,b60,hp,w,ok,q⟩:=h
 refine ⟨ba (n:=1) (by decide),fun r hr=>?_⟩
 have S:=ay.upd (o:=.tup [V.str "bare"]) hr
 have q:=q _ S
 have w:=w.mono S
 refine Ac w ok ak ?_
 generalize upd H r (.tup [V.str "bare"])=H1 at w q ⊢
 unfold de at q
 refine Sel.mk (fun hb=>?_) (fun hb=>?_)
 · rw [hb,if_pos rfl] at q;exact q
 · rw [hb] at q
   have q:Q (.bl (eV b p (bi b k p) d||(cL b p (bi b k p) d&&sy b k d))) H1:=q
   refine ⟨b,k,p,rfl,hp,b,p,bi b k p,v,d,rfl,by omega,b60,hp,w,ok,?_⟩
   refine Sel.mk (fun hl=>?_) (fun hl=>?_)
   · rw [hl,Bool.true_or] at q;exact q
   · rw [hl,Bool.false_or] at q
     refine ⟨b,p,bi b k p,v,d,rfl,p0,b60,hp,w,ok,?_⟩
     refine Sel.mk (fun hf=>?_) (fun hf=>?_)
     · have hf:cL b p (bi b k p) d=false:=by simpa only [Bool.not_eq_true'] using hf
       rw [hf,Bool.false_and] at q;exact q
     · have hf:cL b p (bi b k p) d=true:=by simpa only [Bool.not_eq_false'] using hf
       rw [hf,Bool.true_and] at q
       obtain ⟨w0,e,bb,m,n,rfl,h1,h2⟩:=oW hf
       have q:Q (.bl (!decide (bb=bi b k e)&&bB m&&bB n)) H1:=q
       cases w with
       | tup ea r=>
       cases r with
       | cons _ r=>
       cases r with
       | cons z1 r=>
       cases r with
       | cons z2 r=>
       cases r with
       | cons z3 r=>
       cases r with
       | cons z4 r=>
       cases r
       cases z1
       cases z2
       refine ixT (j:=2) ea rfl rfl (ixT (j:=1) ea rfl rfl ⟨b,k,e,rfl,by omega,?_⟩)
       refine Sel.dec (fun he=>?_) (fun he=>?_)
       · rw [decide_eq_true he] at q;exact q
       · rw [decide_eq_false he] at q
         refine ixT (j:=3) ea rfl rfl ⟨_,_,rfl,z3,Sel.mk (fun hm=>?_) (fun hm=>?_)⟩
         · rw [hm] at q
           exact ixT (j:=4) ea rfl rfl ⟨_,_,rfl,z4,q⟩
         · rw [hm] at q;exact q
theorem je {b : Int} : ∀ {ds : List Dat} {l : Int}, 0 ≤ l → bo b l ds = true → ∀ {s}, ds.getLast? = some s → ∃ i m, s = .tup [.int i, m] ∧ 0 ≤ i ∧ i < b
  | [], l, _, _, s, e => by cases e
  | x :: r, l, hl, h, s, e => by
    have h : (bG b l x && bo b (dY x + 1) r) = true := h
    rw [Bool.and_eq_true] at h
    obtain ⟨i, m, rfl⟩ := gF h.1
    have hi : (decide (l ≤ i ∧ i < b) && bB m) = true := h.1
    rw [Bool.and_eq_true, decide_eq_true_eq] at hi
    cases r with
    | nil =>
      cases e
      exact ⟨i, m, rfl, by omega, hi.1.2⟩
    | cons y r =>
      rw [List.getLast?_cons_cons] at e
      exact je (l := i + 1) (by omega) h.2 e
theorem Bl (K:W.Frag) (A:Adr):Ln (nR K A) 3:=by rintro vs H Q E ⟨b,k,v,d,rfl,_⟩;rfl
theorem Hx (T : Txt K mg A) : Rd (nR K A) (IH K A) ["bits", "key", "thing", "place"] := by
  intro vs H Q E h
  obtain ⟨b, k, v, d, rfl, b0, b60, w, ok, q⟩ := h
  have q0 := q H (.refl H)
  refine ⟨by decide, _, w.ty, ?_⟩
  cases w with
  | @tup a xs ds e r =>
    have el := r.len
    refine Sel.no rfl (.inl (.inr (.inl ⟨_, SqT.of e, Sel.ndec (fun ne => ?_) (fun he => ?_)⟩)))
    · have e2 : jY b k (.tup ds) = false := by
        unfold jY
        split
        · rename_i heq; cases heq; simp at el; omega
        · rfl
      rw [e2] at q0; exact q0
    · cases r with
      | nil => simp at he
      | @cons x0 _ d0 _ w0 r =>
      cases r with
      | nil => simp at he
      | @cons x1 _ d1 _ w1 r =>
      cases r with
      | cons _ _ => simp at he; omega
      | nil =>
      have ok : fX d1 := ok
      refine ixT (j := 0) e rfl rfl ⟨b, x0, d0, rfl, w0, ?_⟩
      cases w0 with
      | @tup a0 ys es e0 r0 =>
        have q : ∀ H', ay H H' → Q (.bl (bo b 0 es && de b k (iB es) d1)) H' := q
        refine Sel.mk (fun hs => ?_) (fun hs => ?_)
        · have hs : bo b 0 es = false := by simpa only [Bool.not_eq_true'] using hs
          have q := q H (.refl H)
          rw [hs] at q; exact q
        · have hs : bo b 0 es = true := by simpa only [Bool.not_eq_false'] using hs
          rw [hs] at q
          refine ixT (j := 0) e rfl rfl ⟨!ys.isEmpty, .inr (.inl ⟨ys, SqT.of e0, rfl⟩), ?_⟩
          have l0 := r0.len
          cases ys with
          | nil =>
            cases r0
            exact Sel.no rfl (ixT (j := 1) e rfl rfl ⟨b, k, 0, x1, d1, rfl, by decide, b60, b0, w1, ok, q⟩)
          | cons y yr =>
            obtain ⟨s, hsl⟩ : ∃ s, es.getLast? = some s := by
              cases es with
              | nil => simp at l0
              | cons z zr => exact ⟨_, List.getLast?_eq_some_getLast (by simp)⟩
            obtain ⟨i, m, rfl, i0, i1⟩ := je (Int.le_refl 0) hs hsl
            have hlast : es[es.length - 1]? = some (.tup [.int i, m]) := by rw [← List.getLast?_eq_getElem?]; exact hsl
            have hpl : iB es = i + 1 := by unfold iB; rw [hsl]; rfl
            have hpos : 0 < (y :: yr).length := by simp
            obtain ⟨v', hv'⟩ : ∃ v', (y :: yr)[(y :: yr).length - 1]? = some v' := ⟨_, List.getElem?_eq_getElem (by omega)⟩
            obtain ⟨d', hd', wd'⟩ := r0.get hv'
            rw [l0] at hd'
            rw [hlast] at hd'; cases hd'
            refine Sel.yes rfl (ixT (j := 0) e rfl rfl ?_)
            refine .inl (.inr (.inl ⟨a0, y :: yr, -1, v', rfl, rfl, SqT.of e0, ?_, ?_⟩))
            · unfold atI ixN
              rw [if_neg (by decide), if_pos (by simp; omega)]
              show (y :: yr)[(-1 + ((y :: yr).length : Int)).toNat]? = _
              have : (-1 + ((y :: yr).length : Int)).toNat = (y :: yr).length - 1 := by omega
              rw [this]; exact hv'
            · cases wd' with
              | tup ee rr =>
                cases rr with
                | cons z0 rr =>
                  cases z0
                  refine ixT (j := 0) ee rfl rfl (ixT (j := 1) e rfl rfl ⟨b, k, i + 1, x1, d1, rfl, by omega, b60, by omega, w1, ok, ?_⟩)
                  rw [hpl] at q
                  exact q
      | _ => exact Sel.t q0
  | _ => exact Sel.yes rfl (Sel.t q0)
end Rs
namespace Rs
open PySem PySem.Spec PyProof.Rows L2
variable {K:W.Frag} {mg:Str→Option Value} {A:Adr}
theorem BZ {H:Hp} {Q:VK} {a:Addr} {xs:List V} {i:Int} (ha:H a=some (.lst xs)) (h0:0≤i) (h1:i<xs.length) (q:∀ v∈xs,Q v H):bn K (.ref a) (.int i) H Q:=by
 obtain ⟨v,hv⟩:=oM h0 h1
 obtain ⟨j,_,hj,_⟩:=gh hv
 exact .inl (.inl ⟨a,xs,i,v,rfl,rfl,SqL.of ha,hv,q v (List.mem_of_getElem? hj)⟩)
theorem uU {x:Int} (h:x.natAbs<2^64):Builtin.Int.intBits x≤64:=by
 unfold Builtin.Int.intBits
 split
 · decide
 · rename_i hx
   have hx:x≠0:=by simpa using hx
   have:x.natAbs.log2<64:=(Nat.log2_lt (by omega)).mpr h
   omega
theorem IL {x y:Int} (h0:0≤x) (h:x<2^64):IntMulOk x y:=IntMulOk.of_left (uU (by omega))
theorem mM {x y:Int} (h0:0≤y) (h:y<2^64):IntMulOk x y:=IntMulOk.of_right (uU (by omega))
theorem CB (K:W.Frag) (A:Adr):Ln (gZ K A) 2:=by rintro vs H Q E ⟨a,ns,k,rfl,_⟩;rfl
theorem GW (T:Txt K mg A):Rd (gZ K A) (JO K A) ["_law_script", "_law_k", "_law_number_here", "_law_cell"]:=by
 intro vs H Q E h
 obtain ⟨a,ns,k,rfl,hs,h0,q⟩:=h
 refine .inl (.inl ⟨_,hs,Sel.dec (fun h=>?_) (fun h=>?_)⟩)
 · obtain ⟨v,hv⟩:=oM h0 h
   obtain ⟨j,_,hj,_⟩:=gh hv
   obtain ⟨z,_,rfl⟩:=mh hj
   exact .inl (.inl ⟨a,_,k,_,rfl,rfl,hs,hv,q z H (.refl H)⟩)
 · obtain ⟨zs,ez,hz⟩:=uZ ns none (some 5)
   refine .inl (.inl ⟨_,hs,5,rfl,.inl (.inl ⟨a,_,rfl,hs,fun p hp=>?_⟩)⟩)
   rw [ez]
   refine ⟨p,rfl,.inl ⟨⟨_,SqL.of ak⟩,?_⟩⟩
   refine gD (xs:=zs.map V.int) (fun i σ H'=>H'=upd H p (.lst (zs.map V.int))∧∃ n x3,σ=[some (.ref a),some (.int k),some (.int n),x3]) ⟨rfl,_,none,rfl⟩ ?_ ?_ ?_
   · rintro i σ _ _ ⟨rfl,_⟩;exact SqL.of ak
   · rintro i x σ _ hx ⟨rfl,n,x3,rfl⟩
     obtain ⟨z,_,rfl⟩:=mh hx
     exact ⟨mM (by decide) (by decide),by decide,rfl,_,_,rfl⟩
   · rintro σ _ ⟨rfl,n,x3,rfl⟩
     refine ⟨IntMulOk.of_left (by decide),by decide,?_⟩
     have b0:0≤(n+7919*k)%1000003:=by omega
     have b1:(n+7919*k)%1000003<1000003:=by omega
     exact ⟨IL b0 (by omega),by decide,q _ _ (ay.upd hp)⟩
theorem De (K:W.Frag) (A:Adr):Ln (om K A) 1:=by rintro vs H Q E ⟨c,rfl,_⟩;rfl
theorem FJ (T:Txt K mg A):Rd (om K A) (HX K A) ["_law_cell"]:=by
 intro vs H Q E h
 obtain ⟨c,rfl,q⟩:=h
 refine ⟨⟨by decide,by decide⟩,ba (n:=3) (by decide),fun p hp=>⟨by decide,?_⟩⟩
 have hc:c%3=0∨c%3=1∨c%3=2:=by omega
 have S:=ay.upd (o:=.lst [V.int 60,.int 8,.int 60]) hp
 rcases hc with e | e | e <;> rw [e]
 · exact ixL (j:=0) ak rfl rfl ⟨by decide,q _ _ S (by omega) (by omega)⟩
 · exact ixL (j:=1) ak rfl rfl ⟨by decide,q _ _ S (by omega) (by omega)⟩
 · exact ixL (j:=2) ak rfl rfl ⟨by decide,q _ _ S (by omega) (by omega)⟩
theorem rj {x:Int} {j m:Nat} (x0:0≤x) (hm:j<m) (x1:x<2^m):0≤Builtin.bitXor x (1*2^j)∧Builtin.bitXor x (1*2^j)<2^m:=by
 obtain ⟨y,rfl⟩:=Int.eq_ofNat_of_zero_le x0
 have e:(1:Int)*2^j=((2^j:Nat):Int):=by rw [Int.one_mul,eh]
 rw [e,ls,←eh]
 refine ⟨by omega,?_⟩
 have y1:y<2^m:=by rw [← eh] at x1;exact_mod_cast x1
 have:=Nat.xor_lt_two_pow (n:=m) y1 (Nat.pow_lt_pow_right (by decide:1<2) hm)
 exact_mod_cast this
theorem DW (K:W.Frag) (A:Adr):Ln (jb K A) 3:=by rintro vs H Q E ⟨b,c,o,ks,rfl,_⟩;rfl
theorem GQ (T : Txt K mg A) : Rd (jb K A) (Iu K A) ["_law_bits_here", "_law_cell", "_law_others", "_law_many", "_law_number_here", "_law_flip"] := by
  intro vs H Q E h
  obtain ⟨b, c, o, ks, rfl, b1, b60, ho, kl, kk, q⟩ := h
  have hp : (0 : Int) < 1 * 2 ^ b.toNat := by rw [Int.one_mul]; exact gE _
  have e1 : (1 : Int) * 2 ^ b.toNat = 2 ^ b.toNat := Int.one_mul _
  have fin : ∀ (n : Int) (H' : Hp), ay H H' → Q (.int (n % (1 * 2 ^ b.toNat))) H' := fun n H' s => q _ _ s (Int.emod_nonneg _ (Int.ne_of_gt hp)) (Int.lt_of_lt_of_le (Int.emod_lt_of_pos _ hp) (Int.le_of_eq e1))
  refine ⟨⟨by omega, by omega, by decide⟩, ⟨by decide, by decide⟩, by decide, Sel.dec (fun h => ?_) (fun h => ?_)⟩
  · exact ⟨hp, fin _ H (.refl H)⟩
  refine ⟨by decide, Sel.dec (fun h1 => ?_) (fun h1 => ?_)⟩
  · have h2 := Int.emod_nonneg (c / 5) (b := 1 * 2 ^ b.toNat) (by omega)
    have h3 := Int.emod_lt_of_pos (c / 5) hp
    exact ⟨hp, q _ _ (.refl H) (by omega) (Int.lt_of_lt_of_le (b := 1 * 2 ^ b.toNat) (by omega) (Int.le_of_eq e1))⟩
  refine ⟨by decide, Sel.dec (fun h2 => ?_) (fun h2 => Sel.f ?_)⟩
  · refine ⟨ba (n := 0) (by decide), fun p hp' => ⟨_, _, .lst (SqL.of (ay.upd hp' _ _ ho)) (lH ks), .lst (SqL.of ak) .nil, kq ks, rfl, rE ks, ?_⟩⟩
    cases ks with
    | nil => exact Sel.no rfl ⟨mM (by decide) (by decide), hp, fin _ _ (ay.upd hp')⟩
    | cons x xr =>
      have hl : ((x :: xr).map V.int).length = (x :: xr).length := List.length_map _
      have l0 : (0 : Int) < ((x :: xr).length : Int) := by rw [List.length_cons]; omega
      refine Sel.yes rfl ⟨mM (by decide) (by decide), by decide, by omega, .inl (.inl ⟨_, SqL.of (ay.upd hp' _ _ ho), ?_⟩)⟩
      rw [hl]
      have i0 := Int.emod_nonneg (c / 5) (b := ((x :: xr).length : Int)) (by omega)
      have i1 := Int.emod_lt_of_pos (c / 5) l0
      refine ⟨l0, BZ (ay.upd hp' _ _ ho) i0 (by rw [hl]; exact i1) fun v hv => ?_⟩
      obtain ⟨y, hy, rfl⟩ := List.mem_map.mp hv
      have hx := kk y hy
      have r0 := Int.emod_nonneg (c / 5 * 48271 % 65537) (b := b) (by omega)
      have r1 := Int.emod_lt_of_pos (c / 5 * 48271 % 65537) (b := b) (by omega)
      have fl := rj (j := (c / 5 * 48271 % 65537 % b).toNat) hx.1 (by omega) hx.2
      exact ⟨⟨by omega, by omega, by decide⟩, q _ _ (ay.upd hp') fl.1 fl.2⟩
  · exact ⟨mM (by decide) (by decide), hp, fin _ H (.refl H)⟩
end Rs
namespace Rs
open PySem PySem.Spec PyProof.Rows L2
variable {K:W.Frag} {mg:Str→Option Value} {A:Adr}
theorem uk {a b:Int} (h0:0≤a) (h:a≤b):(2:Int)^b.toNat=2^a.toNat*2^(b - a).toNat:=by
 rw [← Int.pow_add]
 congr 1
 omega
theorem uJ {b k e:Int} (e0:0≤e) (h:e≤b) (hk:k<2^b.toNat):bi b k e<2^e.toNat:=by
 unfold bi
 refine Int.ediv_lt_of_lt_mul (gE _) ?_
 rw [← uk e0 h];exact hk
theorem tN {b k e:Int} (k0:0≤k):0≤bi b k e:=Int.ediv_nonneg k0 (Int.le_of_lt (gE _))
theorem vI {b k l x:Int} {z:Str} (l0:0≤l) (hl:l≤b) (x0:0≤x) (x1:x<2^b.toNat) (hs:bi b x l=bi b k l) (hz:z.length≤60):de b k l (.tup [.str "leaf",.int x,.str z])=true:=by
 unfold de
 have e1:gn (.tup [.str "leaf",.int x,.str z])=false:=rfl
 rw [e1]
 have e2:eV b l (bi b k l) (.tup [.str "leaf",.int x,.str z])=true:=by
  show (decide (("leaf" :Str)= "leaf")&&decide (0≤x∧x<2^b.toNat)&&decide (z.length≤60)&&decide (bi b x l=bi b k l))=true
  rw [decide_eq_true rfl,decide_eq_true ⟨x0,x1⟩,decide_eq_true hz,decide_eq_true hs];rfl
 rw [e2];rfl
theorem wX {b k l e bb:Int} {m n:Dat} (hl:l≤e) (he:e<b) (b0:0≤bb) (b1:bb<2^e.toNat) (hs:bb/2^(e - l).toNat=bi b k l) (hne:bb≠bi b k e) (hm:bB m=true) (hn:bB n=true):de b k l (.tup [.str "fork",.int e,.int bb,m,n])=true:=by
 unfold de
 have e1:gn (.tup [.str "fork",.int e,.int bb,m,n])=false:=rfl
 rw [e1]
 have e2:cL b l (bi b k l) (.tup [.str "fork",.int e,.int bb,m,n])=true:=by
  show (decide (("fork" :Str)= "fork")&&decide (l≤e∧e<b)&&decide (0≤bb∧bb<2^e.toNat)&&decide (bb/2^(e - l).toNat=bi b k l))=true
  rw [decide_eq_true rfl,decide_eq_true ⟨hl,he⟩,decide_eq_true ⟨b0,b1⟩,decide_eq_true hs];rfl
 have e3:sy b k (.tup [.str "fork",.int e,.int bb,m,n])=true:=by
  show (!decide (bb=bi b k e)&&bB m&&bB n)=true
  rw [decide_eq_false hne,hm,hn];rfl
 rw [e2,e3]
 simp
theorem nE {x y:Str} (h1:bW x=true) (h2:bW y=true):bW (x++y)=true:=by
 unfold bW at h1 h2 ⊢
 show (x.cps++y.cps).all _=true
 rw [Array.all_append,h1,h2];rfl
theorem ph (H:Hp) (m:Key):aY H (kV m) (bv m):=by cases m <;> constructor
theorem qH (m:Key):(dL (bv m)).depth=0:=by cases m <;> rfl
mutual
def noL:Dat→Bool
 | .lst _=>false
 | .tup ds=>noLs ds
 | .non=>true
 | .bl _=>true
 | .int _=>true
 | .str _=>true
 | .dic=>true
def noLs:List Dat→Bool
 | []=>true
 | d::r=>noL d&&noLs r
end
theorem DatWs.append {H:Hp}:∀ {xs ys:List V} {ds es:List Dat},DatWs H xs ds→DatWs H ys es→DatWs H (xs++ys) (ds++es)
 | _,_,_,_,.nil,h=>h
 | _,_,_,_,.cons a r,h=> .cons a (r.append h)
end Rs
namespace Rs
open PySem PySem.Spec PyProof.Rows L2
variable {K:W.Frag} {mg:Str→Option Value} {A:Adr}
theorem CP {x y z u v:Key} (hx:okP x=true) (hy:okP y=true) (hz:okP z=true) (hu:okP u=true) (hv:okP v=true) (h:rO x=true):okT [x,y,z,u,v]=true:=by
 show (true&&rO x&&(okP x&&(okP y&&(okP z&&(okP u&&(okP v&&true))))))=true
 rw [h,hx,hy,hz,hu,hv];rfl
theorem qt:okP (.inr "fork")=true∧okP (.inr "leaf")=true∧okP (.inr "bare")=true:=by decide +kernel
theorem qm:szK (.inr "fork")=66∧szK (.inr "leaf")=66∧szK (.inr "bare")=66:=by decide +kernel
theorem Dh {i:Int} (h0:0≤i) (h1:i<10^60):okP (.inl i)=true:=decide_eq_true ⟨h0,h1⟩
def sg1:Str:= " !\"#$&'()*+,-./0123456789:;<=>?@ABCDEFGHIJKLMNOPQRSTUVWXYZ[\\]^_`"
def sg2:Str:= "abcdefghijklmnopqrstuvwxyz{|}~"
theorem CO:(sg1++sg2).length=94∧(sg1++sg2).cps.toList.length=94∧(sg1++sg2).cps.toList.all (·<128)=true:=by decide +kernel
theorem Em (K:W.Frag) (A:Adr):Ln (lW K A) 1:=by rintro vs H Q E ⟨c,rfl,_⟩;rfl
theorem FE (T:Txt K mg A):Rd (lW K A) (Ic K A) ["_law_cell", "_law_signs", "_law_size", "_law_made", "_law_k"]:=by
 intro vs H Q E h
 obtain ⟨c,rfl,q⟩:=h
 obtain ⟨g1,g2,g3⟩:=CO
 have bY:∀ sz:Int,0≤sz→sz≤60→uM K A { nx:=fun _ H'=>Q .non H',rt:=Q } [some (.int c),some (.str (sg1++sg2)),some (.int sz),none,none] H:=by
  intro sz s0 s1
  refine ⟨sz,rfl,by omega,by omega,?_⟩
  refine vc (fun i σ H'=>H'=H∧∃ z x4,σ=[some (.int c),some (.str (sg1++sg2)),some (.int sz),some (.str z),x4]∧z.length=i∧bW z=true) ⟨rfl, "",none,rfl,by decide,by decide +kernel⟩ ?_ ?_
  · rintro i σ _ hi ⟨rfl,z,x4,rfl,hz,ho⟩
    refine ⟨⟨by decide,by decide⟩,⟨by decide,by decide⟩,by decide,mM (by omega) (by omega),.inl ⟨by rw [g1];exact ba (by decide),by rw [g1];decide,?_⟩⟩
    generalize (c/4+_:Int)=w
    have e94:((sg1++sg2).length:Int)=94:=by rw [g1];rfl
    rw [e94]
    obtain ⟨cc,hcc⟩:=oM (xs:=(sg1++sg2).cps.toList) (i:=w%94) (by omega) (by rw [g2];omega)
    refine .inl (.inr (.inr ⟨_,_,cc,rfl,rfl,by rw [g1];exact ba (by decide),hcc,?_⟩))
    refine ⟨by rw [hz];exact ba (by show i+1≤1000000;omega),rfl,z++⟨#[cc]⟩,_,rfl,by rw [strLen_append,hz];rfl,nE ho ?_⟩
    obtain ⟨j,_,hj,_⟩:=gh hcc
    have:=of_decide_eq_true (List.all_eq_true.mp g3 cc (List.mem_of_getElem? hj))
    unfold bW
    simp
    omega
  · rintro σ _ ⟨rfl,z,x4,rfl,hz,ho⟩
    exact q z _ (.refl _) (by omega) ho
 have rest4:∀ sz:Int,0≤sz→sz≤60→Ct K A { nx:=fun _ H'=>Q .non H',rt:=Q } [some (.int c),some (.str (sg1++sg2)),some (.int sz),none,none] H:=by
  intro sz s0 s1
  refine ⟨⟨by decide,by decide⟩,by decide,Sel.dec (fun h=>?_) (fun h=>bY sz s0 s1)⟩
  exact ⟨⟨by decide,by decide⟩,by decide,bY (c/32%61) (by omega) (by omega)⟩
 refine ⟨ba (by decide +kernel),by decide,⟨by decide,by decide⟩,by decide,Sel.dec (fun h=>rest4 60 (by decide) (by decide)) (fun h=>rest4 (c%4) (by omega) (by omega))⟩
end Rs
namespace Rs
open PySem PySem.Spec PyProof.Rows L2
variable {K:W.Frag} {mg:Str→Option Value} {A:Adr}
theorem xl {K:W.Frag} {H:Hp} {Q:VK} {a b:Key} (q:Q (.bl (decide (a=b))) H):bN K (kV a) (kV b) H Q:=by
 cases a <;> cases b
 · rename_i i j
   have e:decide ((Sum.inl i:Key)=Sum.inl j)=decide (i=j):=by simp
   rw [e] at q;exact q
 · have e:∀ (i:Int) (j:Str),decide ((Sum.inl i:Key)=Sum.inr j)=false:=by simp
   rw [e] at q;exact q
 · have e:∀ (i:Int) (j:Str),decide ((Sum.inr j:Key)=Sum.inl i)=false:=by simp
   rw [e] at q;exact q
 · rename_i i j
   have e:decide ((Sum.inr i:Key)=Sum.inr j)=decide (i=j):=by simp
   rw [e] at q;exact q
theorem pL {K:W.Frag} {H:Hp} {Q:VK} {a:Key} (q:Q (.bl false) H):dH K (kV a) (kV a) H Q:=by
 cases a
 · rename_i i
   have e:(!decide (i=i))=false:=by simp
   rw [← e] at q;exact q
 · rename_i i
   have e:(!decide (i=i))=false:=by simp
   rw [← e] at q;exact q
theorem yU {H:Hp} {v:V} {k:Key} (w:aY H v (bv k)):v=kV k:=by cases k <;> (cases w;rfl)
theorem tM {H : Hp} {v : V} : ∀ {e : List Key} {xs : List V}, DatWs H xs (e.map bv) → xs = e.map kV
  | [], _, h => by cases h; rfl
  | x :: r, _, h => by
    cases h with
    | cons a b => rw [yU a, tM (v := v) b]; rfl
theorem Ha {H:Hp} {v:V} {e:List Key} (h:aY H v (.tup (e.map bv))):∃ a,v=.ref a∧H a=some (.tup (e.map kV)):=by
 cases h with
 | @tup a xs _ ea r=>exact ⟨a,rfl,by rw [ea,tM (v:=.non) r]⟩
theorem uD {H : Hp} : ∀ {st : List (Int × Key)} {xs : List V}, DatWs H xs (st.map stD) → ∀ {i : Nat} {x : V}, xs[i]? = some x → ∃ s p, st[i]? = some s ∧ x = .ref p ∧ H p = some (.tup [.int s.1, kV s.2])
  | [], _, h, i, x, e => by cases h; cases e
  | s :: r, _, h, i, x, e => by
    cases h with
    | cons a b =>
      cases i with
      | zero =>
        cases e
        have a : aY H x (.tup [.int s.1, bv s.2]) := a
        cases a with
        | @tup p ys _ ea rr =>
          cases rr with
          | cons z0 rr =>
            cases rr with
            | cons z1 rr =>
              cases rr
              cases z0
              exact ⟨s, p, rfl, rfl, by rw [ea, yU z1]⟩
      | succ i => exact uD b e
theorem km {H : Hp} {v : V} {b k : Int} {st : List (Int × Key)} {e : List Key} (h : dj H v b k st e) : ∃ (a s t : Addr) (xs : List V), v = .ref a ∧ H a = some (.tup [.ref s, .ref t]) ∧ H s = some (.tup xs) ∧ DatWs H xs (st.map stD) ∧ H t = some (.tup (e.map kV)) := by
  obtain ⟨w, _⟩ := h
  cases w with
  | @tup a xs _ ea r =>
    cases r with
    | cons z0 r =>
      cases r with
      | cons z1 r =>
        cases r
        obtain ⟨t, rfl, ht⟩ := Ha z1
        cases z0 with
        | @tup s ys _ es rs => exact ⟨a, s, t, ys, rfl, ea, es, rs, ht⟩
theorem kI {w:Str} {d:Dat} (h:cv w d=true):d=.str w:=by
 cases d <;> first | cases h | skip
 rename_i z
 have:z=w:=of_decide_eq_true h
 rw [this]
theorem xf:∀ {a b:Key},bv a=bv b→a=b
 | .inl i,.inl j,h=>by cases h;rfl
 | .inl i,.inr j,h=>by cases h
 | .inr i,.inl j,h=>by cases h
 | .inr i,.inr j,h=>by cases h;rfl
theorem vn {b k l : Int} {e : List Key} (h : de b k l (.tup (e.map bv)) = true) : e = [.inr "bare"] ∨ (∃ x z, e = [.inr "leaf", .inl x, .inr z] ∧ z.length ≤ 60) ∨ ∃ d bb m n, e = [.inr "fork", .inl d, .inl bb, m, n] := by
  have key : ∀ {x : Key} {w : Str}, bv x = .str w → x = .inr w := fun {x w} hx => xf (b := .inr w) hx
  unfold de at h
  split at h
  · rename_i hb
    match e, hb with
    | [x], hb => exact .inl (by rw [key (kI hb)])
  · rw [Bool.or_eq_true] at h
    rcases h with h | h
    · match e, h with
      | [w, .inl x, z], h =>
        have h : (cv "leaf" (bv w) && decide (0 ≤ x ∧ x < 2 ^ b.toNat) && cT (bv z) && decide (bi b x l = bi b k l)) = true := h
        simp only [Bool.and_eq_true] at h
        cases z with
        | inl i => cases h.1.2
        | inr z => exact .inr (.inl ⟨x, z, by rw [key (kI h.1.1.1)], of_decide_eq_true h.1.2⟩)
    · rw [Bool.and_eq_true] at h
      have h := h.1
      match e, h with
      | [w, .inl d, .inl bb, m, n], h =>
        have h : (cv "fork" (bv w) && decide (l ≤ d ∧ d < b) && decide (0 ≤ bb ∧ bb < 2 ^ d.toNat) && decide (bb / 2 ^ (d - l).toNat = bi b k l)) = true := h
        simp only [Bool.and_eq_true] at h
        exact .inr (.inr ⟨d, bb, m, n, by rw [key (kI h.1.1.1)]⟩)
theorem BQ (K:W.Frag) (A:Adr):Ln (gQ K A) 3:=by rintro vs H Q E ⟨b,k,d,rfl,_⟩;rfl
theorem Gg (T:Txt K mg A):Rd (gQ K A) (Jb K A) ["bits", "key", "depth"]:=by
 intro vs H Q E h
 obtain ⟨b,k,d,rfl,hd,k0,q⟩:=h
 refine ⟨by omega,?_⟩
 show Q (.int (Builtin.bitAnd (k/2^(b - d - 1).toNat) 1)) H
 have h0:0≤k/2^(b - d - 1).toNat:=Int.ediv_nonneg k0 (Int.le_of_lt (gE _))
 obtain ⟨y,hy⟩:=Int.eq_ofNat_of_zero_le h0
 rw [hy] at q ⊢
 rw [rW]
 have:((y%2:Nat):Int)=(y:Int)%2:=by omega
 rw [this];exact q
theorem AI (K:W.Frag) (A:Adr):Ln (nS K A) 4:=by rintro vs H Q E ⟨b,k,d,m,s,p,rfl,_⟩;rfl
theorem Fo (T:Txt K mg A):Rd (nS K A) (Jp K A) ["bits", "key", "step", "mark", "depth", "begin"]:=by
 intro vs H Q E h
 obtain ⟨b,k,d,m,s,p,rfl,hp,hd,k0,q⟩:=h
 refine ixT (j:=0) hp rfl rfl ⟨b,k,d,rfl,by omega,b,k,d,rfl,hd,k0,?_⟩
 unfold cV at q
 refine Sel.dec (fun h=>?_) (fun h=>?_)
 · refine ixT (j:=1) hp rfl rfl ⟨ba (n:=5) (by decide),fun t ht=>?_⟩
   have q:=q t ht
   rw [if_pos h] at q;exact q
 · refine ixT (j:=1) hp rfl rfl ⟨ba (n:=5) (by decide),fun t ht=>?_⟩
   have q:=q t ht
   rw [if_neg h] at q;exact q
theorem vd {k x:Int} {z:Str}:lw k [.inr "leaf",.inl x,.inr z]=if x=k then .str z else .non:=by
 show (if ("leaf" :Str)= "leaf" ∧x=k then V.str z else .non)=_
 by_cases h:x=k
 · rw [if_pos ⟨rfl,h⟩,if_pos h]
 · rw [if_neg (fun z=>h z.2),if_neg h]
theorem vq:decide (("bare" :Str)= "leaf")=false:=by decide +kernel
theorem vg:decide (("fork" :Str)= "leaf")=false:=by decide +kernel
theorem AC (K:W.Frag) (A:Adr):Ln (ot K A) 2:=by rintro vs H Q E ⟨b,k,v,st,e,rfl,_⟩;rfl
theorem Hq (T:Txt K mg A):Rd (ot K A) (HU K A) ["key", "slip", "end"]:=by
 intro vs H Q E h
 obtain ⟨b,k,v,st,e,rfl,w,q⟩:=h
 obtain ⟨a,s,t,xs,rfl,ha,hs,ws,ht⟩:=km w
 refine ixT (j:=1) ha rfl rfl ?_
 rcases vn w.2.en with rfl | ⟨x,z,rfl,_⟩ | ⟨d,bb,m,n,rfl⟩
 · exact ixT (j:=0) ht rfl rfl (Sel.no vq (Sel.f q))
 · refine ixT (j:=0) ht rfl rfl (Sel.yes (decide_eq_true rfl) (ixT (j:=1) ht rfl rfl ?_))
   rw [vd] at q
   refine Sel.dec (fun h=>?_) (fun h=>?_)
   · rw [if_pos h] at q
     exact ixT (j:=2) ht rfl rfl q
   · rw [if_neg h] at q;exact q
 · exact ixT (j:=0) ht rfl rfl (Sel.no vg (Sel.f q))
theorem CQ (K:W.Frag) (A:Adr):Ln (jR K A) 2:=by rintro vs H Q E ⟨v,rfl,_⟩;rfl
theorem Ge (T:Txt K mg A):Rd (jR K A) (IM K A) ["_law_found", "_law_due"]:=by
 intro vs H Q E h
 obtain ⟨v,rfl,rfl | ⟨z,rfl⟩,q⟩:=h
 · exact Sel.yes rfl q
 · refine Sel.no rfl ⟨by decide, "str",rfl,Sel.yes rfl ?_⟩
   have e:decide (z=z)=true:=decide_eq_true rfl
   rw [← e] at q;exact q
theorem BJ {H : Hp} {ps : List Addr} {ts : List (List Key)} (h : PK H ps ts) : ∀ {i : Nat} {t : List Key}, ts[i]? = some t → ∃ p, ps[i]? = some p ∧ H p = some (.tup (t.map kV)) ∧ okT t = true := by
  induction h with
  | nil => intro i t e; cases e
  | cons r _ ih =>
    intro i t e
    cases i with
    | zero => cases e; exact ⟨_, rfl, r⟩
    | succ i => exact ih e
theorem ui {H:Hp} {ps:List Addr} {ts:List (List Key)} (h:PK H ps ts):ps.length=ts.length:=Paired.length h
theorem kj {k:List Key} (h:okT k=true):1≤k.length∧k.length≤8:=by
 unfold okT at h
 simp only [Bool.and_eq_true] at h
 exact of_decide_eq_true h.1.1
end Rs
namespace Rs
open PySem PySem.Spec PyProof.Rows L2
variable {K:W.Frag} {mg:Str→Option Value} {A:Adr}
theorem ft {k:List Key} (h:okT k=true):k.all okP=true:=by
 unfold okT at h
 rw [Bool.and_eq_true] at h
 exact h.2
theorem mC {k:List Key} {x:Key} (h:okT k=true) (hx:x∈k):okP x=true:=List.all_eq_true.mp (ft h) x hx
theorem wJ {k : List Key} (h : okT k = true) : ∃ z r, k = .inr z :: r := by
  unfold okT at h
  simp only [Bool.and_eq_true] at h
  cases k with
  | nil => cases h.1.2
  | cons x r =>
    cases x with
    | inl i => cases h.1.2
    | inr z => exact ⟨z, r, rfl⟩
theorem wc {x:Key} (h:okP x=true):bB (bv x)=true:=by
 cases x with
 | inl i=>exact h
 | inr z=>rfl
theorem jj {i:Int} (h0:0≤i) (h1:i<10^60):i.natAbs.log2<1920:=by
 by_cases e:i.natAbs=0
 · rw [e];decide
 · refine (Nat.log2_lt e).mpr ?_
   have:i.natAbs<10^60:=by omega
   exact Nat.lt_of_lt_of_le this (by decide +kernel)
theorem dX {i:Int} (h0:0≤i) (h1:i<10^60):((toString i:String):Str).length≤61:=by
 have:i.natAbs<10^60:=by omega
 have:=int_text_length_le10 (k:=60) (by decide) this
 show (Str.ofString _).length≤_
 rw [PySem.ofString_length];exact this
theorem gi (s:String) (h:s.length=1:=by rfl):(s:Str).length=1:=by
 show (Str.ofString s).length=1
 rw [PySem.ofString_length];exact h
theorem nB {x : Key} (h : okP x = true) : (eG x).length ≤ szK x := by
  cases x with
  | inl i =>
    have h := of_decide_eq_true h
    have := dX h.1 h.2
    show (((toString i : String) : Str) ++ ((";" : String) : Str)).length ≤ 62
    rw [strLen_append, gi ";"]; omega
  | inr z =>
    have h := of_decide_eq_true (Bool.and_eq_true_iff.mp h).2
    have := dX (i := (z.length : Int)) (by omega) (by omega)
    show (((toString (z.length : Int) : String) : Str) ++ ((":" : String) : Str) ++ z).length ≤ z.length + 62
    rw [strLen_append, strLen_append, gi ":"]; omega
theorem AF {x : Key} (h : okP x = true) : szK x ≤ 100062 := by
  cases x with
  | inl i => show 62 ≤ 100062; decide
  | inr z =>
    have h := of_decide_eq_true (Bool.and_eq_true_iff.mp h).2
    show z.length + 62 ≤ 100062; omega
theorem pb:∀ xs:List Key,fZ xs=(xs.map eG).foldr (·++·) Str.empty
 | []=>rfl
 | x::r=>by show eG x++fZ r=eG x++_;rw [pb r]
theorem nz : ∀ {k : List Key}, k.all okP = true → (fZ k).length ≤ szT k
  | [], _ => by show Str.empty.length ≤ 0; decide
  | x :: r, h => by
    rw [List.all_cons, Bool.and_eq_true] at h
    have h1 := nB h.1
    have h2 := nz h.2
    show (eG x ++ fZ r).length ≤ ((x :: r).map szK).sum
    rw [strLen_append, List.map_cons, List.sum_cons]
    unfold szT at h2
    omega
theorem im {x y:Str} (h1:bW x=true) (h2:bW y=true):bW (x++y)=true:=nE h1 h2
theorem oJ {z:Str} (h:∀ c∈z.cps.toList,c<128):bW z=true:=by
 unfold bW
 rw [Array.all_eq_true]
 intro i hi
 exact decide_eq_true (h _ (by simp))
theorem oI {z:Str} (h:bW z=true):∀ c∈z.cps.toList,c<128:=by
 intro c hc
 unfold bW at h
 rw [Array.all_eq_true] at h
 obtain ⟨i,hi,e⟩:=List.getElem_of_mem hc
 have:=of_decide_eq_true (h i (by simpa using hi))
 rw [← e]
 simpa using this
theorem qQ (n:Nat):bW ((toString (n:Int):String):Str)=true:=by
 refine oJ fun c hc=>?_
 rw [W.KIN.signs_num n] at hc
 obtain ⟨ch,hch,e⟩:=List.mem_map.mp hc
 have:=digit_range (Nat.isDigit_of_mem_toDigits (by decide) (by decide) hch)
 rw [← e];omega
theorem qF {i:Int} (h:0≤i):bW ((toString i:String):Str)=true:=by
 obtain ⟨n,rfl⟩:=Int.eq_ofNat_of_zero_le h
 exact qQ n
theorem uR {x : Key} (h : okP x = true) : bW (eG x) = true := by
  cases x with
  | inl i =>
    have h := of_decide_eq_true h
    exact im (qF h.1) (by decide +kernel)
  | inr z =>
    have h := (Bool.and_eq_true_iff.mp h).1
    exact im (im (qF (by omega)) (by decide +kernel)) h
theorem nv : ∀ {k : List Key}, k.all okP = true → bW (fZ k) = true
  | [], _ => by decide +kernel
  | x :: r, h => by
    rw [List.all_cons, Bool.and_eq_true] at h
    exact im (uR h.1) (nv h.2)
theorem rc : ∀ {k : List Key}, k.all okP = true → szT k ≤ k.length * 100062
  | [], _ => by decide
  | x :: r, h => by
    rw [List.all_cons, Bool.and_eq_true] at h
    have h1 := AF h.1
    have h2 := rc h.2
    show ((x :: r).map szK).sum ≤ _
    rw [List.map_cons, List.sum_cons, List.length_cons, Nat.succ_mul]
    unfold szT at h2
    omega
theorem pw : ∀ {k : List Key}, k.all okP = true → ((k.map eG).map (·.length)).sum ≤ szT k
  | [], _ => by decide
  | x :: r, h => by
    rw [List.all_cons, Bool.and_eq_true] at h
    have h1 := nB h.1
    have h2 := pw h.2
    show (((x :: r).map eG).map (·.length)).sum ≤ ((x :: r).map szK).sum
    rw [List.map_cons, List.map_cons, List.sum_cons, List.map_cons, List.sum_cons]
    unfold szT at h2
    omega
theorem Cm (K:W.Frag) (A:Adr):Ln (lQ K A) 1:=by rintro vs H Q E ⟨p,k,rfl,_⟩;rfl
theorem HF (T:Txt K mg A):Rd (lQ K A) (IK K A) ["thing"]:=by
 intro vs H Q E h
 obtain ⟨p,k,rfl,hp,ok,q⟩:=h
 obtain ⟨l1,l8⟩:=kj ok
 obtain ⟨z,r,hk⟩:=wJ ok
 have ty:tyN H (.ref p)=some "tuple" :=by unfold tyN;dsimp only;rw [hp]
 refine ⟨by decide, "tuple",ty,Sel.no rfl (.inl (.inr (.inl ⟨_,SqT.of hp,?_⟩)))⟩
 refine Sel.dec (fun h1=>?_) (fun h1=>absurd (by simp;omega) h1)
 refine Sel.ndec (fun h8=>absurd (by simp;omega) h8) (fun h8=>?_)
 refine ixT (j:=0) hp rfl (by rw [hk];rfl) ⟨by decide, "str",rfl,Sel.yes rfl ?_⟩
 refine ⟨p,rfl,.inr ⟨⟨_,SqT.of hp⟩,fun D hD=>?_⟩⟩
 have hne:p≠D:=ax hp hD
 have hml:(k.map kV).length=k.length:=by simp
 refine mO (eJ.tuple (xs:=k.map kV) .non) (fun i ys H2=>ys=(k.take i).map (fun x=>V.bl true)∧H2=upd H D (.lst ys)) (fun i ys H2 hi ⟨_,e2⟩=>?_) ⟨rfl,rfl⟩ (fun i ys H2 hi ⟨e1,e2⟩=>?_) (fun ys H2 ⟨e1,e2⟩=>?_)
 · rw [e2];exact SqT.of (by rw [ao hne];exact hp)
 · subst e2
   have hi':i<k.length:=by omega
   obtain ⟨x,hx⟩:∃ x,k[i]?=some x:=⟨_,List.getElem?_eq_getElem hi'⟩
   have hg:(k.map kV).getD i .non=kV x:=by rw [List.getD_eq_getElem?_getD,List.getElem?_map,hx];rfl
   rw [hg]
   have hs:=wc (mC ok (List.mem_of_getElem? hx))
   refine rF ⟨_,bv x,rfl,ph _ x,?_⟩
   rw [hs]
   have hyl:ys.length=i:=by rw [e1,List.length_map,List.length_take];omega
   refine ⟨ak,by rw [hyl];exact du (by omega),CWd.next hi ⟨?_,eT⟩⟩
   rw [e1,List.take_add_one,List.map_append,hx];rfl
 · subst e2
   refine ⟨D,k.map fun _=>true,rfl,by rw [ak,e1,hml,List.take_length,List.map_map];rfl,?_⟩
   have:(k.map fun _=>true).all id=true:=by simp
   rw [this];exact q _ (ay.upd hD)
theorem CM (K:W.Frag) (A:Adr):Ln (oB K A) 1:=by rintro vs H Q E ⟨v,rfl,_⟩;rfl
theorem EQ (T : Txt K mg A) : Rd (oB K A) (Je K A) ["part", "signs"] := by
  intro vs H Q E h
  obtain ⟨v, rfl, hp, q⟩ := h
  cases v with
  | inl i =>
    have h := of_decide_eq_true hp
    have l := dX h.1 h.2
    refine ⟨.int i, .int i, rfl, .int i, Sel.t ?_⟩
    have e1 : Str.empty ++ ((toString i : String) : Str) = ((toString i : String) : Str) := Str.empty_append _
    have l2 : (((toString i : String) : Str) ++ ((";" : String) : Str)).length ≤ sizeLine := by rw [strLen_append, gi ";"]; exact ba (by omega)
    refine ⟨jj h.1 h.2, by rw [e1]; exact ba (by omega), ?_, ?_, ?_⟩ <;> rw [e1]
    · exact l2
    · exact l2
    · exact q
  | inr z =>
    have h := of_decide_eq_true (Bool.and_eq_true_iff.mp hp).2
    have l := dX (i := (z.length : Int)) (by omega) (by omega)
    refine ⟨.str z, .str z, rfl, .str z, Sel.f ?_⟩
    have e1 : Str.empty ++ ((toString (z.length : Int) : String) : Str) = ((toString (z.length : Int) : String) : Str) := Str.empty_append _
    have l2 : (((toString (z.length : Int) : String) : Str) ++ ((":" : String) : Str)).length ≤ sizeLine := by rw [strLen_append, gi ":"]; exact ba (by omega)
    have l3 : (((toString (z.length : Int) : String) : Str) ++ ((":" : String) : Str) ++ z).length ≤ sizeLine := by rw [strLen_append, strLen_append, gi ":"]; exact ba (by omega)
    refine .inl ⟨ba (by omega), jj (by omega) (by omega), by rw [e1]; exact ba (by omega), ?_, ba (by omega), ?_, ?_, ?_⟩ <;> rw [e1]
    · exact l2
    · exact l3
    · exact l3
    · exact q
theorem BD (K:W.Frag) (A:Adr):Ln (lr K A) 1:=by rintro vs H Q E ⟨p,k,rfl,_⟩;rfl
theorem Es (T:Txt K mg A):Rd (lr K A) (JE K A) ["term"]:=by
 intro vs H Q E h
 obtain ⟨p,k,rfl,hp,ok,q⟩:=h
 refine ⟨p,k,rfl,hp,ok,fun H' s=>Sel.no rfl ?_⟩
 have hp':=s _ _ hp
 have hml:(k.map kV).length=k.length:=by simp
 obtain ⟨l1,l8⟩:=kj ok
 refine ⟨rfl,⟨p,rfl,.inr ⟨⟨_,SqT.of hp'⟩,fun D hD=>?_⟩⟩⟩
 have hne:p≠D:=ax hp' hD
 refine mO (eJ.tuple (xs:=k.map kV) .non) (fun i ys H2=>ys=(k.take i).map (fun x=>V.str (eG x))∧H2=upd H' D (.lst ys)) (fun i ys H2 hi ⟨_,e2⟩=>?_) ⟨rfl,rfl⟩ (fun i ys H2 hi ⟨e1,e2⟩=>?_) (fun ys H2 ⟨e1,e2⟩=>?_)
 · rw [e2];exact SqT.of (by rw [ao hne];exact hp')
 · subst e2
   have hi':i<k.length:=by omega
   obtain ⟨x,hx⟩:∃ x,k[i]?=some x:=⟨_,List.getElem?_eq_getElem hi'⟩
   have hg:(k.map kV).getD i .non=kV x:=by rw [List.getD_eq_getElem?_getD,List.getElem?_map,hx];rfl
   rw [hg]
   refine rF ⟨x,rfl,mC ok (List.mem_of_getElem? hx),?_⟩
   have hyl:ys.length=i:=by rw [e1,List.length_map,List.length_take];omega
   refine ⟨ak,by rw [hyl];exact du (by omega),CWd.next hi ⟨?_,eT⟩⟩
   rw [e1,List.take_add_one,List.map_append,hx];rfl
 · subst e2
   refine ⟨"",D,k.map eG,rfl,rfl,by rw [ak,e1,hml,List.take_length,List.map_map];rfl,?_,?_⟩
   · have h1:=pw (ft ok)
     have h2:=rc (ft ok)
     have e0:(("" :String):Str).length=0:=by decide
     rw [e0]
     have:k.length*100062≤8*100062:=Nat.mul_le_mul_right _ l8
     omega
   · rw [zF,←pb]
     exact q _ (s.trans (ay.upd hD))
theorem Bv (K:W.Frag) (A:Adr):Ln (oh K A) 1:=by rintro vs H Q E ⟨x,dx,rfl,_⟩;rfl
theorem HJ (T:Txt K mg A):Rd (oh K A) (Jx K A) ["self"]:=by
 intro vs H Q E h
 obtain ⟨x,dx,rfl,hx,q⟩:=h
 exact .inr fun d hd=>⟨x,A.c_Numbers,dx,[],rfl,by rw [ao (ax hx hd)];exact hx,T.cl_Numbers,T.na_Numbers_given,by decide,q d hd⟩
theorem fW.mono {H H':Hp} {x d:Addr} {kvs:List (List Key×V)} (s:ay H H') (n:fW A H x d kvs):fW A H' x d kvs:=by
 obtain ⟨⟨dx,h1⟩,h2⟩:=n
 exact ⟨⟨dx,s _ _ h1⟩,s _ _ h2⟩
theorem fW.hide {H:Hp} {x d:Addr} {kvs:List (List Key×V)} {cs:List Addr} {cvs:List V} (hc:cx H cs cvs) (n:fW A H x d kvs):fW A (cD cs H) x d kvs:=by
 obtain ⟨⟨dx,h1⟩,h2⟩:=n
 exact ⟨⟨dx,hc.hide h1 (fun _ z=>nomatch z)⟩,hc.hide h2 (fun _ z=>nomatch z)⟩
theorem El (K:W.Frag) (A:Adr):Ln (ox K A) 2:=by rintro vs H Q E ⟨x,d,p,kvs,k,rfl,_⟩;rfl
theorem Fj (T : Txt K mg A) : Rd (ox K A) (Iq K A) ["self", "term"] := by
  intro vs H Q E h
  obtain ⟨x, d, a, kvs, k, rfl, nu, hl, hp, ok, q⟩ := h
  refine ⟨a, k, rfl, hp, ok, fun H' s => Sel.no rfl ?_⟩
  have ta' := s _ _ hp
  obtain ⟨⟨dx, hx⟩, hd⟩ := nu.mono s
  have q := q H' s
  have g := dG.t hd ta'
  refine ⟨x, A.c_Numbers, dx, _, .ref d, rfl, hx, T.cl_Numbers, T.na_Numbers_given, rfl, .inl ⟨d, bK kvs k, rfl, g, ?_⟩⟩
  unfold ig hU at q
  cases e : bK kvs k with
  | some w =>
    rw [e] at q g
    have q : Q w H' := q
    exact Sel.no rfl ⟨x, A.c_Numbers, dx, _, .ref d, rfl, hx, T.cl_Numbers, T.na_Numbers_given, rfl, .inr ⟨d, w, rfl, g, q⟩⟩
  | none =>
    rw [e] at q g
    have q : Q (.int kvs.length) (upd H' d (.dT (cB kvs k (.int kvs.length)))) := q
    have hx' : upd H' d (.dT (cB kvs k (.int kvs.length))) x = some (.ins A.c_Numbers dx [("given", .ref d)]) := by rw [ao (ci hx hd (fun z => nomatch z))]; exact hx
    have ha' : upd H' d (.dT (cB kvs k (.int kvs.length))) a = some (.tup (k.map kV)) := by rw [ao (ci ta' hd (fun z => nomatch z))]; exact ta'
    refine Sel.yes rfl ⟨x, A.c_Numbers, dx, _, .ref d, rfl, hx, T.cl_Numbers, T.na_Numbers_given, rfl, .inr ⟨d, kvs, rfl, hd, x, A.c_Numbers, dx, _, .ref d, rfl, hx, T.cl_Numbers, T.na_Numbers_given, rfl, .inr ⟨d, _, rfl, .inr ⟨kvs, k, a, hd, rfl, ta', Nat.lt_of_le_of_lt hl (ba (n := 50001) (by decide)), rfl⟩, ?_⟩⟩⟩
    have g2 := dG.t (kvs := cB kvs k (.int kvs.length)) (k := k) ak ha'
    rw [ve, if_pos rfl] at g2
    exact ⟨x, A.c_Numbers, dx, _, .ref d, rfl, hx', T.cl_Numbers, T.na_Numbers_given, rfl, .inr ⟨d, _, rfl, g2, q⟩⟩
theorem EM (T:Txt K mg A) (a0:V) (H:Hp) (Q:VK) (E:XK) (h:sh K A [a0] H Q E):Dl K A (dB ["term"] [a0] []) H Q:=h
theorem EX (T:Txt K mg A) (a0 b0:V) (H:Hp) (Q:VK) (E:XK) (h:sN K A [a0,b0] H Q E):Ck K A (dB ["term", "numbers"] [a0] [b0]) H Q:=by
 obtain ⟨x,d,p,kvs,k,e,nu,hl,hp,ok,h⟩:=h
 cases e
 obtain ⟨dx,hx⟩:=nu.ob
 exact ⟨x,dx,_,rfl,hx,rfl,x,d,p,kvs,k,rfl,nu,hl,hp,ok,h⟩
theorem uj {H:Hp} {b p:Addr} {kvs:List (List Key×V)} {kk:List Key} {d:V} (hb:H b=some (.dT kvs)) (hp:H p=some (.tup (kk.map kV))) (hl:kvs.length≤50000):
  BU H b (.ref p) d (ig kvs kk d) (hU H b kvs kk d):=by
 unfold ig hU
 have g:=dG.t hb hp
 cases e:bK kvs kk with
 | some v=>rw [e] at g;exact .inl ⟨g,if_pos rfl⟩
 | none=>rw [e] at g;exact .inr ⟨g,.inr ⟨kvs,kk,p,hb,rfl,hp,Nat.lt_of_le_of_lt hl (ba (n:=50001) (by decide)),if_neg (by decide)⟩,rfl⟩
theorem FI (T:Txt K mg A) (a0 b0 b1:V) (H:Hp) (Q:VK) (E:XK) (h:rB K A [a0,b0,b1] H Q E):CZ K A { nx:=fun _ H'=>Q .non H',rt:=Q } (dB ["_law_term", "_law_known", "_law_first"] [a0] [b0,b1]) H:=by
 obtain ⟨p,b,j,k,kvs,e,hp,hb,hl,q⟩:=h
 cases e
 exact ⟨.inr (.inr (.inl ⟨rfl,.inr ⟨_,hb⟩⟩)),.inr ⟨b,kvs,rfl,hb,IntMulOk.of_left (by decide),b,.ref p,_,_,_,rfl,rfl,uj hb hp hl,q⟩⟩
theorem ub {z:Str} (h:bW z=true) (l u:Option Int):bW (PySem.Txt.slice z l u)=true:=by
 refine oJ fun c hc=>?_
 unfold PySem.Txt.slice at hc
 split at hc
 · exact oI h c hc
 · simp only [List.toList_toArray,List.mem_filterMap] at hc
   obtain ⟨i,_,e⟩:=hc
   exact oI h c (by rw [← Array.getElem?_toList] at e;exact List.mem_of_getElem? e)
theorem FB (T : Txt K mg A) (a0 b0 : V) (H : Hp) (Q : VK) (E : XK) (h : rQ K A [a0, b0] H Q E) : Bk K A { nx := fun _ H' => Q .non H', rt := Q } (dB ["_law_term", "_law_total", "_law_part", "_law_signs", "_law_many"] [a0] [b0]) H := by
  obtain ⟨p, m, k, e, h1, h2, hp, ok, q⟩ := h
  cases e
  refine ⟨p, rfl, .inr ⟨⟨_, SqT.of hp⟩, ?_⟩⟩
  refine qL (xs := k.map kV) (fun i σ H' => ay H H' ∧ ∃ x2 x3, σ = [some (.ref p), some (.int ((k.take i).foldl gS 0)), x2, x3, some (.int m)]) ⟨.refl H, none, none, rfl⟩ ?_ ?_ ?_
  · rintro i σ H' _ ⟨S, _⟩; exact SqT.of (S _ _ hp)
  · rintro i x σ H' hx ⟨S, x2, x3, rfl⟩
    obtain ⟨kk, hk, rfl⟩ := mh hx
    have okk : okP kk = true := mC ok (List.mem_of_getElem? hk)
    have st := rk gS 0 k i kk hk
    cases kk with
    | inl n =>
      refine ⟨by decide, "int", rfl, Sel.no rfl ⟨IntMulOk.of_right (by decide), S, some (.int n), x3, ?_⟩⟩
      rw [st]; rfl
    | inr z =>
      obtain ⟨hz, hl⟩ := Bool.and_eq_true_iff.mp okk
      have hl := of_decide_eq_true hl
      refine ⟨by decide, "str", rfl, Sel.yes rfl ⟨2, rfl, .inr ⟨z, rfl, ba (by omega), ub hz _ _, fun D hD => ?_⟩⟩⟩
      have hl2 := PySem.Txt.slice_le z none (some 2)
      rw [st]
      show rR _ _ _ _ _ _ _ _
      have est : gS ((k.take i).foldl gS 0) (.inr z) = (k.take i).foldl gS 0 * 7 + z.length + 2 * ((PySem.Txt.slice z none (some 2)).cps.toList.map fun c => ((c : Nat) : Int)).sum := rfl
      rw [est]
      generalize PySem.Txt.slice z none (some 2) = y at hl2 ⊢
      refine mO (eJ.str y) (fun j ys H2 => ys = (y.cps.toList.take j).map (fun c => V.int ((c : Nat) : Int)) ∧ H2 = upd H' D (.lst ys)) (fun _ _ _ _ _ => trivial) ⟨rfl, rfl⟩ (fun j ys H2 hj ⟨e1, e2⟩ => ?_) (fun ys H2 ⟨e1, e2⟩ => ?_)
      · subst e2
        have hj' : j < y.cps.toList.length := by rw [Array.length_toList]; exact hj
        refine rF ⟨rfl, ?_⟩
        have hyl : ys.length = j := by rw [e1, List.length_map, List.length_take]; omega
        refine ⟨ak, by rw [hyl]; exact Nat.lt_of_lt_of_le (by omega) (ba (n := 1000000) (by decide)), CWd.next hj ⟨?_, eT⟩⟩
        rw [e1, List.take_add_one, List.map_append, List.getElem?_eq_getElem hj']
        congr 1
        simp [Array.getD_eq_getD_getElem?, show j < y.cps.size from hj]
      · subst e2
        have ee : y.cps.toList.take y.length = y.cps.toList := List.take_of_length_le (by simp [Str.length])
        rw [ee] at e1
        refine ⟨IntMulOk.of_right (by decide), .inl ⟨ba (by omega), D, y.cps.toList.map (fun c => ((c : Nat) : Int)), rfl, SqL.of (by rw [ak, e1, List.map_map]; rfl), IntMulOk.of_left (by decide), S.trans (ay.upd hD), some (.str z), some (.ref D), rfl⟩⟩
  · rintro σ H' ⟨S, x2, x3, rfl⟩
    have e : k.take (k.map kV).length = k := List.take_of_length_le (by simp)
    rw [e]
    exact ⟨by omega, q _ S⟩
theorem bL.trans {P:Addr} {H H1 H2:Hp} (a:bL P H H1) (b:bL P H1 H2):bL P H H2:=fun x o e n=>b x o (a x o e n) n
theorem bL.new {P p:Addr} {H:Hp} {o:HO} (h:H p=none):bL P H (upd H p o):=fun b u e _=>by rw [ao (ax e h)];exact e
theorem bL.tab {P:Addr} {H:Hp} {o:HO}:bL P H (upd H P o):=fun b u e n=>by rw [ao n];exact e
theorem bV {H:Hp} {P q:Addr} {o:HO} (hP:H P=some o) (hq:H q=none):q≠P:=fun e=>by rw [e,hP] at hq;cases hq
theorem pY {H:Hp} {p q:Addr} {o:HO} (h:upd H p o q=none):q≠p∧H q=none:=by
 by_cases e:q=p
 · subst e;rw [ak] at h;cases h
 · rw [ao e] at h;exact ⟨e,h⟩
theorem rD {H:Hp} {P c f q:Addr} {o1 o2:HO} {t:cR} {v:V} (hP:H P=some o1) (hc:H c=none) (hf:H f=none) (hne:c≠f) (hq:upd (upd (upd H P o2) c (cF c t.qual)) f (dt f t [q] c) q=none):
  bL P H (upd (upd (upd (upd H P o2) c (cF c t.qual)) f (dt f t [q] c)) q (cr q v))∧dw (upd (upd (upd (upd H P o2) c (cF c t.qual)) f (dt f t [q] c)) q (cr q v)) f t [q] [v]:=by
 have c1:upd H P o2 c=none:=by rw [ao (bV hP hc)];exact hc
 have f1:upd (upd H P o2) c (cF c t.qual) f=none:=by rw [ao (Ne.symm hne),ao (bV hP hf)];exact hf
 have S3:=bL.new (P:=P) (o:=cr q v) hq
 have S2:=(bL.new (P:=P) (o:=dt f t [q] c) f1).trans S3
 have S1:=(bL.new (P:=P) (o:=cF c t.qual) c1).trans S2
 exact ⟨bL.tab.trans S1,⟨⟨c,S3 _ _ ak (bV hP hf),S2 _ _ ak (bV hP hc)⟩,.cons ak .nil⟩⟩
theorem GA {H:Hp} {P c f q0 q1:Addr} {o1 o2:HO} {t:cR} {v0 v1:V} (hP:H P=some o1) (hc:H c=none) (hf:H f=none) (hne:c≠f) (n01:q0≠q1) (h0:upd (upd (upd H P o2) c (cF c t.qual)) f (dt f t [q1,q0] c) q0=none) (h1:upd (upd (upd H P o2) c (cF c t.qual)) f (dt f t [q1,q0] c) q1=none):
  bL P H (upd (upd (upd (upd (upd H P o2) c (cF c t.qual)) f (dt f t [q1,q0] c)) q0 (cr q0 v0)) q1 (cr q1 v1))∧dw (upd (upd (upd (upd (upd H P o2) c (cF c t.qual)) f (dt f t [q1,q0] c)) q0 (cr q0 v0)) q1 (cr q1 v1)) f t [q1,q0] [v1,v0]:=by
 have c1:upd H P o2 c=none:=by rw [ao (bV hP hc)];exact hc
 have f1:upd (upd H P o2) c (cF c t.qual) f=none:=by rw [ao (Ne.symm hne),ao (bV hP hf)];exact hf
 have h1':upd (upd (upd (upd H P o2) c (cF c t.qual)) f (dt f t [q1,q0] c)) q0 (cr q0 v0) q1=none:=by rw [ao (Ne.symm n01)];exact h1
 have S4:=bL.new (P:=P) (o:=cr q1 v1) h1'
 have S3:=(bL.new (P:=P) (o:=cr q0 v0) h0).trans S4
 have S2:=(bL.new (P:=P) (o:=dt f t [q1,q0] c) f1).trans S3
 have S1:=(bL.new (P:=P) (o:=cF c t.qual) c1).trans S2
 exact ⟨bL.tab.trans S1,⟨⟨c,S3 _ _ ak (bV hP hf),S2 _ _ ak (bV hP hc)⟩,.cons ak (.cons (by rw [ao n01];exact ak) .nil)⟩⟩
theorem kF:fg []:=fun p hp=>nomatch hp
theorem lG.of {P:Addr} {H H':Hp} {ps:Array Value} (hP:H P=some (.tbl ps)) (k:bL P H H'):lG H H':=fun b o e n=>k b o e fun z=>by subst z;rw [hP] at e;cases e;exact n _ rfl
theorem Cw (K:W.Frag) (A:Adr):Ln (oi K A) 0:=by rintro vs H Q E ⟨rfl,_⟩;rfl
theorem Fi (T:Txt K mg A) (hnd:([]:List Addr).Nodup) (vs:List V) (H:Hp) (Q:VK) (E:XK) (h:oi K A vs H Q E):Bs K A { nx:=fun σ H'=>(∀ p∈([]:List (Nat×Addr)),H' p.2=none)→Q .non (cu [] σ H'),rt:=fun σ v H'=>(∀ p∈([]:List (Nat×Addr)),H' p.2=none)→Q v (cu [] σ H') } (L2.cp [] vs) H:=by
 obtain ⟨rfl,hP,q⟩:=h
 refine ⟨#[],hP,trivial,.inl ⟨rfl,fun c f hc hf hne _=>?_⟩⟩
 have cP:=bV hP hc
 have fP:=bV hP hf
 have c1:∀ o,upd H A.t_66 o c=none:=fun o=>by rw [ao cP];exact hc
 have f1:∀ o,upd (upd H A.t_66 o) c (cF c fJ.qual) f=none:=fun o=>by rw [ao (Ne.symm hne),ao fP];exact hf
 exact q f f _ _ (bL.tab.trans ((bL.new (c1 _)).trans (bL.new (f1 _)))) (.wri ⟨⟨c,ak,(ao hne).trans ak⟩,.nil⟩ rfl rfl) hf
theorem Dg (K:W.Frag) (A:Adr):Ln (nO K A) 0:=by rintro vs H Q E ⟨rfl,_⟩;rfl
theorem ED (T:Txt K mg A) (q0:Addr) (hnd:([q0]:List Addr).Nodup) (vs:List V) (H:Hp) (Q:VK) (E:XK) (h:nO K A vs H Q E):Di K A q0 { nx:=fun σ H'=>(∀ p∈([(0,q0)]:List (Nat×Addr)),H' p.2=none)→Q .non (cu [(0,q0)] σ H'),rt:=fun σ v H'=>(∀ p∈([(0,q0)]:List (Nat×Addr)),H' p.2=none)→Q v (cu [(0,q0)] σ H') } (L2.cp ["numbers"] vs) H:=by
 obtain ⟨rfl,hP,q⟩:=h
 intro x dx hx hdx hne
 refine ⟨x,dx,rfl,ak,fun d hd=>⟨rfl,?_⟩⟩
 obtain ⟨dnx,hd1⟩:=pY hd
 obtain ⟨dndx,hd0⟩:=pY hd1
 have xP:=bV hP hx
 have dxP:=bV hP hdx
 have dP:=bV hP hd0
 generalize e2:upd (upd (upd (upd H dx (.own x)) x (.ins A.c_Numbers dx [])) d (.dT [])) x (.ins A.c_Numbers dx [("given",.ref d)])=H2
 have S2:bL A.t_42 H H2:=by
  intro b o e n
  have b1:=ax e hx
  have b2:=ax e hdx
  have b3:=ax e hd0
  rw [← e2,ao b1,ao b3,ao b1,ao b2];exact e
 have hP2:H2 A.t_42=some (.tbl #[]):=by rw [← e2,ao (Ne.symm xP),ao (Ne.symm dP),ao (Ne.symm xP),ao (Ne.symm dxP)];exact hP
 have hx2:H2 x=some (.ins A.c_Numbers dx [("given",.ref d)]):=by rw [← e2,ak]
 have hd2:H2 d=some (.dT []):=by rw [← e2,ao dnx,ak]
 refine ⟨#[],hP2,trivial,.inl ⟨rfl,fun c f hc hf hne hq=>?_⟩⟩
 obtain ⟨k,ca⟩:=rD (v:=.ref x) hP2 hc hf hne (hq _ (List.mem_singleton.mpr rfl))
 exact q f d _ _ (S2.trans k) (.cnt q0 x [] ca ⟨⟨dx,k _ _ hx2 xP⟩,k _ _ hd2 dP⟩ (Nat.zero_le _) kF rfl) hd0
theorem CV (K:W.Frag) (A:Adr):Ln (oa K A) 1:=by rintro vs H Q E ⟨m,rfl,_⟩;rfl
theorem Fu (T:Txt K mg A) (q0:Addr) (hnd:([q0]:List Addr).Nodup) (vs:List V) (H:Hp) (Q:VK) (E:XK) (h:oa K A vs H Q E):Dx K A q0 { nx:=fun σ H'=>(∀ p∈([(0,q0)]:List (Nat×Addr)),H' p.2=none)→Q .non (cu [(0,q0)] σ H'),rt:=fun σ v H'=>(∀ p∈([(0,q0)]:List (Nat×Addr)),H' p.2=none)→Q v (cu [(0,q0)] σ H') } (L2.cp ["_law_many", "_law_short"] vs) H:=by
 obtain ⟨m,rfl,m1,m2,hP,q⟩:=h
 refine ⟨#[],hP,trivial,.inl ⟨rfl,fun c f hc hf hne hq=>?_⟩⟩
 obtain ⟨k,ca⟩:=rD (v:=.int m) hP hc hf hne (hq _ (List.mem_singleton.mpr rfl))
 exact q f f _ _ k (.wea q0 m m1 m2 ca rfl rfl) hf
theorem Gd (T:Txt K mg A) (a0 b0:V) (H:Hp) (Q:VK) (E:XK) (h:sH K A [a0,b0] H Q E):BW K A { nx:=fun _ H'=>Q .non H',rt:=Q } (dB ["_law_term", "_law_known"] [a0] [b0]) H:=by
 obtain ⟨p,b,k,kvs,e,hp,hb,hl,q⟩:=h
 cases e
 have l:=dX (i:=(kvs.length:Int)) (by omega) (by omega)
 exact ⟨.inr (.inr (.inl ⟨rfl,.inr ⟨_,hb⟩⟩)),.inr ⟨b,kvs,rfl,hb,jj (by omega) (by omega),Nat.le_trans (Nat.add_le_add (Nat.le_refl 1) l) (ba (by decide)),b,.ref p,_,_,_,rfl,rfl,uj hb hp hl,q⟩⟩
theorem CY (K:W.Frag) (A:Adr):Ln (oj K A) 1:=by rintro vs H Q E ⟨j,rfl,_⟩;rfl
theorem Gz (T:Txt K mg A) (q0 q1:Addr) (hnd:([q0,q1]:List Addr).Nodup) (vs:List V) (H:Hp) (Q:VK) (E:XK) (h:oj K A vs H Q E):By K A q0 q1 { nx:=fun σ H'=>(∀ p∈([(0,q0),(1,q1)]:List (Nat×Addr)),H' p.2=none)→Q .non (cu [(0,q0),(1,q1)] σ H'),rt:=fun σ v H'=>(∀ p∈([(0,q0),(1,q1)]:List (Nat×Addr)),H' p.2=none)→Q v (cu [(0,q0),(1,q1)] σ H') } (L2.cp ["_law_first", "_law_known", "_law_number"] vs) H:=by
 obtain ⟨j,rfl,j0,j1,hP,q⟩:=h
 have n01:q0≠q1:=fun e=>by simp [e] at hnd
 refine .inr fun b hb=>?_
 have bP:b≠A.t_32:=bV hP hb
 have hP1:upd H b (.dT []) A.t_32=some (.tbl #[]):=by rw [ao (Ne.symm bP)];exact hP
 have S1:bL A.t_32 H (upd H b (.dT [])):=bL.new hb
 refine ⟨#[],hP1,trivial,.inl ⟨rfl,fun c f hc hf hne hq=>?_⟩⟩
 obtain ⟨k,ca⟩:=GA (v0:=.int j) (v1:=.ref b) hP1 hc hf hne n01 (hq (0,q0) (by simp)) (hq (1,q1) (by simp))
 exact q f b _ _ (S1.trans k) (.sur q0 q1 j j0 j1 [] ca (k _ _ ak bP) (Nat.zero_le _) kF rfl) hb
theorem Cr (K:W.Frag) (A:Adr):Ln (nZ K A) 0:=by rintro vs H Q E ⟨rfl,_⟩;rfl
theorem FW (T:Txt K mg A) (q0:Addr) (hnd:([q0]:List Addr).Nodup) (vs:List V) (H:Hp) (Q:VK) (E:XK) (h:nZ K A vs H Q E):AN K A q0 { nx:=fun σ H'=>(∀ p∈([(0,q0)]:List (Nat×Addr)),H' p.2=none)→Q .non (cu [(0,q0)] σ H'),rt:=fun σ v H'=>(∀ p∈([(0,q0)]:List (Nat×Addr)),H' p.2=none)→Q v (cu [(0,q0)] σ H') } (L2.cp ["_law_known", "_law_word"] vs) H:=by
 obtain ⟨rfl,hP,q⟩:=h
 refine .inr fun b hb=>?_
 have bP:b≠A.t_38:=bV hP hb
 have hP1:upd H b (.dT []) A.t_38=some (.tbl #[]):=by rw [ao (Ne.symm bP)];exact hP
 have S1:bL A.t_38 H (upd H b (.dT [])):=bL.new hb
 refine ⟨#[],hP1,trivial,.inl ⟨rfl,fun c f hc hf hne hq=>?_⟩⟩
 obtain ⟨k,ca⟩:=rD (v:=.ref b) hP1 hc hf hne (hq _ (List.mem_singleton.mpr rfl))
 exact q f b _ _ (S1.trans k) (.wor q0 [] ca (k _ _ ak bP) (Nat.zero_le _) kF rfl) hb
theorem CK (K:W.Frag) (A:Adr):Ln (lR K A) 1:=by rintro vs H Q E ⟨c,rfl,_⟩;rfl
theorem FG (T:Txt K mg A):Rd (lR K A) (JL K A) ["_law_cell", "_law_way"]:=by
 intro vs H Q E h
 obtain ⟨c,rfl,⟨t1,t2,t3,t4,t5,_⟩,q⟩:=h
 refine ⟨by decide,Sel.dec (fun h=>?_) (fun h=>?_)⟩
 · exact ⟨rfl,t1,fun f b g H' k s hb=>q f b g H' (.of t1 k) s hb⟩
 refine Sel.dec (fun h=>?_) (fun h=>?_)
 · exact ⟨rfl,t2,fun f b g H' k s hb=>q f b g H' (.of t2 k) s hb⟩
 refine Sel.dec (fun h=>?_) (fun h=>?_)
 · exact ⟨rfl,t3,fun f b g H' k s hb=>q f b g H' (.of t3 k) s hb⟩
 refine Sel.dec (fun h=>?_) (fun h=>?_)
 · exact ⟨⟨by decide,by decide⟩,by decide,_,rfl,by omega,by omega,t4,fun f b g H' k s hb=>q f b g H' (.of t4 k) s hb⟩
 · exact ⟨⟨by decide,by decide⟩,by decide,_,rfl,by omega,by omega,t5,fun f b g H' k s hb=>q f b g H' (.of t5 k) s hb⟩
end Rs
namespace Rs
open PySem PySem.Spec PyProof.Rows L2
variable {K:W.Frag} {mg:Str→Option Value} {A:Adr}
theorem Sub.rfl' {g:List Key→Option Key}:Sub g g:=fun _ _ e=>e
theorem Sub.trans {g g1 g2:List Key→Option Key} (a:Sub g g1) (b:Sub g1 g2):Sub g g2:=fun k v e=>b k v (a k v e)
theorem Ext.of {g g':List Key→Option Key} {h:List Key→Key} (s:Sub g g') (e:Ext g' h):Ext g h:=fun k v z=>e k v (s k v z)
theorem qO (kvs:List (List Key×Key)) (k:List Key):bK (cg kvs) k=(dh kvs k).map kV:=by
 unfold bK cg dh
 rw [List.find?_map]
 simp only [Option.map_map]
 congr 1
theorem uK {kvs:List (List Key×Key)} {k:List Key} {v:Key} {x:List Key×Key} (h:dh kvs k=some v):dh (kvs++[x]) k=some v:=by
 unfold dh at h ⊢
 rw [List.find?_append]
 cases e:kvs.find? fun p=>decide (p.1=k) with
 | none=>rw [e] at h;cases h
 | some y=>rw [e] at h;exact h
theorem xW {kvs:List (List Key×Key)} {k:List Key} {d:Key} (h:dh kvs k=none):dh (kvs++[(k,d)]) k=some d:=by
 unfold dh at h ⊢
 rw [List.find?_append]
 cases e:kvs.find? fun p=>decide (p.1=k) with
 | none=>simp
 | some y=>rw [e] at h;cases h
theorem xR {kvs:List (List Key×Key)} {k:List Key} {v:Key} (h:dh kvs k=some v):bK (cg kvs) k=some (kV v):=by rw [qO,h];rfl
theorem xK {kvs : List (List Key × Key)} {k : List Key} {v : Key} (hs : fg kvs) (h : dh kvs k = some v) : gK v := by
  unfold dh at h
  cases e : kvs.find? fun p => decide (p.1 = k) with
  | none => rw [e] at h; cases h
  | some y =>
    rw [e] at h
    cases h
    exact hs y (List.mem_of_find?_eq_some e)
theorem qd {kvs:List (List Key×Key)} {x:List Key×Key} (h:fg kvs) (hx:gK x.2):fg (kvs++[x]):=fun p hp=>by
 rcases List.mem_append.mp hp with z | z
 · exact h p z
 · rw [List.mem_singleton.mp z];exact hx
theorem iL {k : List Key} {v : Key} (hk : 1 ≤ k.length) (h : gK v) : mt k v := by
  cases v with
  | inl i => exact h
  | inr z =>
    refine ⟨h.1, Nat.le_trans h.2 ?_⟩
    cases k with
    | nil => simp at hk
    | cons x r =>
      show 62 ≤ ((x :: r).map szK).sum
      rw [List.map_cons, List.sum_cons]
      have : 62 ≤ szK x := by cases x with
        | inl i => exact Nat.le_refl 62
        | inr z => show 62 ≤ z.length + 62; omega
      omega
theorem kW {H : Hp} {b : Addr} {cs : List Addr} {cvs : List V} {kvs : List (List Key × Key)} (kk : List Key) (d : Key) (hs : fg kvs) (hd : gK d) (hb : H b = some (.dT (cg kvs))) (hc : cx H cs cvs) (H1 : Hp) (S : ay (cD cs H) H1) :
    ∃ (kvs' : List (List Key × Key)) (v : Key) (H' : Hp), ig (cg kvs) kk (kV d) = kV v ∧ cq cs H (hU H1 b (cg kvs) kk (kV d)) = H' ∧ H' b = some (.dT (cg kvs')) ∧ (∀ x o, x ≠ b → H x = some o → H' x = some o) ∧ kvs'.length ≤ kvs.length + 1 ∧ fg kvs' ∧ dh kvs' kk = some v ∧ gK v ∧ ∀ k v, dh kvs k = some v → dh kvs' k = some v := by
  have hbc : b ∉ cs := hc.notin hb fun _ z => nomatch z
  have S2 := ay.hide cs S
  cases e : dh kvs kk with
  | some v =>
    have ev := xR e
    refine ⟨kvs, v, cq cs H H1, by unfold ig; rw [ev]; rfl, ?_, S2 _ _ hb, fun _ _ _ h => S2 _ _ h, Nat.le_succ _, hs, e, xK hs e, fun _ _ h => h⟩
    unfold hU; rw [ev]; rfl
  | none =>
    have ev : bK (cg kvs) kk = none := by rw [qO, e]; rfl
    refine ⟨kvs ++ [(kk, d)], d, upd (cq cs H H1) b (.dT (cg (kvs ++ [(kk, d)]))), by unfold ig; rw [ev]; rfl, ?_, ak, fun x o n h => by rw [ao n]; exact S2 _ _ h, by simp, qd hs hd, xW e, hd, fun _ _ h => uK h⟩
    unfold hU; rw [ev, if_neg (by decide), ux hbc, vZ _ ev]
    unfold cg; rw [List.map_append]; rfl
theorem m0 {x:cR×Sp} {l:List (cR×Sp)}:x∈x::l:=List.mem_cons_self
theorem mS {x y:cR×Sp} {l:List (cR×Sp)} (h:x∈l):x∈y::l:=List.mem_cons_of_mem _ h
theorem aW.rfl' {b:Addr} {H:Hp}:aW b H H:=fun _ _ _ e=>e
theorem aW.trans {b:Addr} {H H1 H2:Hp} (a:aW b H H1) (c:aW b H1 H2):aW b H H2:=fun x o n e=>c x o n (a x o n e)
theorem aW.same {b:Addr} {H H':Hp} (S:ay H H'):aW b H H':=fun x o _ e=>S x o e
theorem Stp.clo {H:Hp} {f b:Addr} {g:List Key→Option Key} {n:Nat} (s:Stp A H f b g n):∃ ts∈kG K A,∃ cs cvs,dw H f ts.1 cs cvs:=by
 cases s with
 | wri hc _ _=>exact ⟨_,m0,_,_,hc⟩
 | cnt _ _ _ hc=>exact ⟨_,mS m0,_,_,hc⟩
 | sur _ _ _ _ _ _ hc=>exact ⟨_,mS (mS m0),_,_,hc⟩
 | wor _ _ hc=>exact ⟨_,mS (mS (mS m0)),_,_,hc⟩
 | wea _ _ _ _ hc _ _=>exact ⟨_,mS (mS (mS (mS m0))),_,_,hc⟩
def stO (b z:Addr) (o:HO):Prop:=(∃ φ,o=.ext φ)∨(z=b∧∃ kvs,o=.dT kvs)∨∃ C dx v,o=HO.ins C dx [(("given" :Str),v)]
theorem Stp.keep {H H' : Hp} {f b : Addr} {g : List Key → Option Key} {n m : Nat} (s : Stp A H f b g n) (hn : n ≤ m) (k : ∀ z o, H z = some o → stO b z o → H' z = some o) : Stp A H' f b g m := by
  have kx : ∀ z φ, H z = some (.ext φ) → H' z = some (.ext φ) := fun z φ e => k z _ e (.inl ⟨_, rfl⟩)
  have kd : ∀ xs, H b = some (.dT xs) → H' b = some (.dT xs) := fun φ e => k b _ e (.inr (.inl ⟨rfl, _, rfl⟩))
  cases s with
  | wri hc hb hg => exact .wri (hc.keep kx) hb hg
  | cnt q x kvs hc num hl hs hg =>
    obtain ⟨⟨dx, h1⟩, h2⟩ := num
    exact .cnt q x kvs (hc.keep kx) ⟨⟨dx, k _ _ h1 (.inr (.inr ⟨_, _, _, rfl⟩))⟩, kd _ h2⟩ (Nat.le_trans hl hn) hs hg
  | sur q0 q1 j j0 j1 kvs hc hb hl hs hg => exact .sur q0 q1 j j0 j1 kvs (hc.keep kx) (kd _ hb) (Nat.le_trans hl hn) hs hg
  | wor q kvs hc hb hl hs hg => exact .wor q kvs (hc.keep kx) (kd _ hb) (Nat.le_trans hl hn) hs hg
  | wea q m h1 h2 hc hb hg => exact .wea q m h1 h2 (hc.keep kx) hb hg
theorem Stp.put {H:Hp} {f b x:Addr} {g:List Key→Option Key} {n m:Nat} {C dx:Addr} {fs:List (Str×V)} {o:HO} (s:Stp A H f b g n) (hn:n≤m) (e:H x=some (.ins C dx fs)) (h:∀ v,fs≠[(("given" :Str),v)]):Stp A (upd H x o) f b g m:=s.keep hn fun z u ez hz=>by
 rw [ao (ci ez e fun q=>?_)]
 · exact ez
 · subst q
   rcases hz with ⟨_,q⟩ | ⟨_,_,q⟩ | ⟨_,_,v,q⟩
   · cases q
   · cases q
   · injection q with _ _ q;exact h v q
theorem Stp.same {H H':Hp} {f b:Addr} {g:List Key→Option Key} {n m:Nat} (s:Stp A H f b g n) (hn:n≤m) (S:ay H H'):Stp A H' f b g m:=s.keep hn fun z o e _=>S z o e
theorem Stp.nb {H:Hp} {f b z:Addr} {g:List Key→Option Key} {n:Nat} {o:HO} (s:Stp A H f b g n) (e:H z=some o) (h:∀ kvs,o≠ .dT kvs) (h2:∀ φ,o≠ .ext φ:=by exact fun _ z=>nomatch z):z≠b:=fun q=>by
 subst q
 cases s with
 | wri hc hb hg=>subst hb;obtain ⟨⟨c,h,_⟩,_⟩:=hc;rw [e] at h;exact h2 _ (Option.some.inj h)
 | cnt q x kvs hc num hl hs hg=>have w:=num.di;rw [e] at w;exact h _ (Option.some.inj w)
 | sur q0 q1 j j0 j1 kvs hc hb hl hs hg=>rw [e] at hb;exact h _ (Option.some.inj hb)
 | wor q kvs hc hb hl hs hg=>rw [e] at hb;exact h _ (Option.some.inj hb)
 | wea q m h1 h2' hc hb hg=>subst hb;obtain ⟨⟨c,h,_⟩,_⟩:=hc;rw [e] at h;exact h2 _ (Option.some.inj h)
theorem Stp.tup {H H':Hp} {f b:Addr} {g:List Key→Option Key} {n:Nat} (s:Stp A H f b g n) (k:aW b H H'):∀ x xs,H x=some (.tup xs)→H' x=some (.tup xs):=fun x xs e=>k x _ (s.nb e fun _ z=>nomatch z) e
theorem Stp.lst {H H':Hp} {f b:Addr} {g:List Key→Option Key} {n:Nat} (s:Stp A H f b g n) (k:aW b H H'):∀ x xs,H x=some (.lst xs)→H' x=some (.lst xs):=fun x xs e=>k x _ (s.nb e fun _ z=>nomatch z) e
theorem mw {H : Hp} {f b p : Addr} {g : List Key → Option Key} {n : Nat} {k : List Key} {R : VK} (s : Stp A H f b g n) (hn : n ≤ 45000) (hp : H p = some (.tup (k.map kV))) (ok : okT k = true)
    (q : ∀ (v : Key) (H' : Hp) (g' : List Key → Option Key), aW b H H' → Stp A H' f b g' (n + 1) → Sub g g' → g' k = some v → mt k v → R (kV v) H') : zf (kG K A) f [.ref p] H R E0 := by
  have s0 := s
  have hk := (kj ok).1
  have ll : ∀ kvs : List (List Key × Key), (cg kvs).length = kvs.length := fun kvs => by simp [cg]
  cases s with
  | wri hc hb hg =>
    refine ⟨_, m0, _, _, hc, rfl, p, k, rfl, hc.cells.hide hp (fun _ z => nomatch z), ok, fun H' S => ?_⟩
    have S := ay.hide _ S
    exact q (.inr (fZ k)) _ g (aW.same S) (s0.same (Nat.le_succ _) S) Sub.rfl' (by rw [hg]) ⟨nv (ft ok), nz (ft ok)⟩
  | wea c m h1 h2 hc hb hg =>
    refine ⟨_, mS (mS (mS (mS m0))), _, _, hc, rfl, p, m, k, rfl, h1, h2, hc.cells.hide hp (fun _ z => nomatch z), ok, fun H' S => ?_⟩
    have S := ay.hide _ S
    have r0 := Int.emod_nonneg (k.foldl gS 0) (b := m) (by omega)
    have r1 := Int.emod_lt_of_pos (k.foldl gS 0) (b := m) (by omega)
    have p60 : (9 : Int) < 10 ^ 60 := by decide +kernel
    exact q (sR m k) _ g (aW.same S) (s0.same (Nat.le_succ _) S) Sub.rfl' (by rw [hg]) (show 0 ≤ _ ∧ _ < _ from ⟨r0, by omega⟩)
  | cnt c x kvs hc num hl hs hg =>
    have p60 : (50000 : Int) < 10 ^ 60 := by decide +kernel
    refine ⟨_, mS m0, _, _, hc, rfl, x, b, p, cg kvs, k, rfl, num.hide hc.cells, by rw [ll]; omega, hc.cells.hide hp (fun _ z => nomatch z), ok, fun H' S => ?_⟩
    obtain ⟨dx, hx⟩ := num.ob
    obtain ⟨kvs', v, H2, ev, eH, hb', keep, hl', hs', gv, sv, sub⟩ := kW k (.inl ((cg kvs).length : Int)) hs (show 0 ≤ _ ∧ _ < _ from ⟨by omega, by rw [ll]; omega⟩) num.di hc.cells H' S
    rw [show V.int ((cg kvs).length : Int) = kV (.inl ((cg kvs).length : Int)) from rfl, ev, eH]
    refine q v H2 (dh kvs') (fun x o n e => keep x o n e)
      (.cnt c x kvs' (hc.keep fun x φ e => keep x _ (ci e num.di (fun z => nomatch z)) e) ⟨⟨dx, keep _ _ (ci hx num.di (fun z => nomatch z)) hx⟩, hb'⟩ (by omega) hs' rfl) ?_ gv (iL hk sv)
    rw [hg]; exact sub
  | sur q0 q1 j j0 j1 kvs hc hb hl hs hg =>
    have p60 : (200000 : Int) < 10 ^ 60 := by decide +kernel
    obtain ⟨kvs', v, H2, ev, eH, hb', keep, hl', hs', gv, sv, sub⟩ := kW k (.inl (3 * ((cg kvs).length : Int) + j)) hs (show 0 ≤ _ ∧ _ < _ from ⟨by omega, by rw [ll]; omega⟩) hb hc.cells _ (.refl _)
    refine ⟨_, mS (mS m0), _, _, hc, rfl, p, b, j, k, cg kvs, rfl, hc.cells.hide hp (fun _ z => nomatch z), hc.cells.hide hb (fun _ z => nomatch z), by rw [ll]; omega, ?_⟩
    dsimp only
    rw [show V.int (3 * ((cg kvs).length : Int) + j) = kV (.inl (3 * ((cg kvs).length : Int) + j)) from rfl, ev, eH]
    refine q v H2 (dh kvs') (fun x o n e => keep x o n e)
      (.sur q0 q1 j j0 j1 kvs' (hc.keep fun x φ e => keep x _ (ci e hb (fun z => nomatch z)) e) hb' (by omega) hs' rfl) ?_ gv (iL hk sv)
    rw [hg]; exact sub
  | wor c kvs hc hb hl hs hg =>
    have l60 := dX (i := ((cg kvs).length : Int)) (by omega) (by rw [ll]; omega)
    have sw : gK (.inr (gT (cg kvs).length)) := ⟨im (by decide +kernel) (qQ _), by show (gT _).length ≤ 62; unfold gT; rw [strLen_append, gi "m"]; omega⟩
    obtain ⟨kvs', v, H2, ev, eH, hb', keep, hl', hs', gv, sv, sub⟩ := kW k (.inr (gT (cg kvs).length)) hs sw hb hc.cells _ (.refl _)
    refine ⟨_, mS (mS (mS m0)), _, _, hc, rfl, p, b, k, cg kvs, rfl, hc.cells.hide hp (fun _ z => nomatch z), hc.cells.hide hb (fun _ z => nomatch z), by rw [ll]; omega, ?_⟩
    dsimp only
    rw [show V.str (gT (cg kvs).length) = kV (.inr (gT (cg kvs).length)) from rfl, ev, eH]
    refine q v H2 (dh kvs') (fun x o n e => keep x o n e)
      (.wor c kvs' (hc.keep fun x φ e => keep x _ (ci e hb (fun z => nomatch z)) e) hb' (by omega) hs' rfl) ?_ gv (iL hk sv)
    rw [hg]; exact sub
end Rs
namespace Rs
open PySem PySem.Spec PyProof.Rows L2
variable {K:W.Frag} {mg:Str→Option Value} {A:Adr}
mutual
def mG:Dat→Bool
 | .lst _=>false
 | .tup ds=>tupDs ds
 | .non=>true
 | .bl _=>true
 | .int _=>true
 | .str _=>true
 | .dic=>false
def tupDs:List Dat→Bool
 | []=>true
 | d::r=>mG d&&tupDs r
end
mutual
theorem aY.keepT {H H':Hp} {v:V} {d:Dat} (h:aY H v d) (k:∀ b xs,H b=some (.tup xs)→H' b=some (.tup xs)) (t:mG d=true):aY H' v d:=by
 cases h with
 | non=>exact .non
 | bl b=>exact .bl b
 | int i=>exact .int i
 | str z=>exact .str z
 | lst e r=>cases t
 | tup e r=>exact .tup (k _ _ e) (DatWs.keepT r k t)
 | dic e=>cases t
theorem DatWs.keepT {H H' : Hp} {xs : List V} {ds : List Dat} (h : DatWs H xs ds) (k : ∀ b xs, H b = some (.tup xs) → H' b = some (.tup xs)) (t : tupDs ds = true) : DatWs H' xs ds := by
  cases h with
  | nil => exact .nil
  | cons a r =>
    have t : (mG _ && tupDs _) = true := t
    rw [Bool.and_eq_true] at t
    exact .cons (aY.keepT a k t.1) (DatWs.keepT r k t.2)
end
theorem qk (x:Key):mG (bv x)=true:=by cases x <;> rfl
theorem pf:∀ e:List Key,tupDs (e.map bv)=true
 | []=>rfl
 | x::r=>by show (mG (bv x)&&tupDs (r.map bv))=true;rw [qk,pf r];rfl
theorem jI : ∀ st : List (Int × Key), tupDs (st.map stD) = true
  | [] => rfl
  | s :: r => by
    show ((true && (mG (bv s.2) && true)) && tupDs (r.map stD)) = true
    rw [qk, jI r]; rfl
theorem dj.keep {H H':Hp} {v:V} {b k:Int} {st:List (Int×Key)} {e:List Key} (h:dj H v b k st e) (kt:∀ b xs,H b=some (.tup xs)→H' b=some (.tup xs)):dj H' v b k st e:=by
 refine ⟨h.1.keepT kt ?_,h.2⟩
 show (tupDs (st.map stD)&&(tupDs (e.map bv)&&true))=true
 rw [jI,pf];rfl
theorem pN {b l:Int} {d:Dat} (hl:0≤l) (h:bG b 0 d=false):bG b l d=false:=by
 unfold bG at h ⊢
 split at h
 · rename_i i m
   rw [Bool.and_eq_false_iff] at h ⊢
   rcases h with h | h
   · left
     have h:=of_decide_eq_false h
     exact decide_eq_false (by omega)
   · exact .inr h
 · rfl
theorem qY {b l:Int} {s:Dat} (hl:0≤l) (h:bG b l s=true):l≤dY s∧dY s<b:=by
 obtain ⟨i,m,rfl⟩:=gF h
 have h:(decide (l≤i∧i<b)&&bB m)=true:=h
 rw [Bool.and_eq_true,decide_eq_true_eq] at h
 exact h.1
theorem jE {b : Int} {d : Dat} (h : bG b 0 d = false) : ∀ {ds : List Dat} {l : Int} {j : Nat}, 0 ≤ l → ds[j]? = some d → bo b l ds = false
  | [], l, j, _, e => by cases e
  | s :: r, l, j, hl, e => by
    show (bG b l s && bo b (dY s + 1) r) = false
    cases hs : bG b l s with
    | false => rfl
    | true =>
      have := qY hl hs
      cases j with
      | zero =>
        have e : s = d := Option.some.inj e
        rw [e, pN hl h] at hs; cases hs
      | succ j =>
        have e : r[j]? = some d := e
        rw [jE h (by omega) e]; rfl
theorem jB {b : Int} : ∀ {ds : List Dat} {l : Int}, 0 ≤ l → l ≤ b → bo b l ds = true → (ds.length : Int) ≤ b - l
  | [], l, _, h, _ => by simp; omega
  | s :: r, l, hl, hb, h => by
    have h : (bG b l s && bo b (dY s + 1) r) = true := h
    rw [Bool.and_eq_true] at h
    have := qY hl h.1
    have := jB (by omega) (by omega) h.2
    rw [List.length_cons]; omega
theorem gp {x:Key} (h:okP x=true):okD (bv x)=true∧bB (bv x)=true:=by
 cases x with
 | inl i=>exact ⟨rfl,h⟩
 | inr z=>exact ⟨h,rfl⟩
theorem jl : ∀ {e : List Key}, e.all okP = true → okDs (e.map bv) = true
  | [], _ => rfl
  | x :: r, h => by
    rw [List.all_cons, Bool.and_eq_true] at h
    show (okD (bv x) && okDs (r.map bv)) = true
    rw [(gp h.1).1, jl h.2]; rfl
theorem mn : ∀ e : List Key, PyData.depthAll (toPys (e.map bv)) = 0
  | [] => rfl
  | x :: r => by
    show max (dL (bv x)).depth (PyData.depthAll (toPys (r.map bv))) = 0
    rw [qH, mn r]; rfl
theorem fh.step {b k:Int} {st:List (Int×Key)} {e:List Key} (g:fh b k st e) {i:Nat} {s:Int×Key} (h:st[i]?=some s):0≤s.1∧s.1<b∧okP s.2=true:=by
 have hi:(st.map stD)[i]?=some (stD s):=by rw [List.getElem?_map,h];rfl
 have hs:bG b 0 (stD s)=true:=by
  cases hh:bG b 0 (stD s) with
  | true=>rfl
  | false=>have:=jE hh (Int.le_refl 0) hi;rw [g.gs] at this;cases this
 have hs:(decide (0≤s.1∧s.1<b)&&bB (bv s.2))=true:=hs
 rw [Bool.and_eq_true,decide_eq_true_eq] at hs
 exact ⟨hs.1.1,hs.1.2,g.so s (List.mem_of_getElem? h)⟩
theorem fh.len {b k:Int} {st:List (Int×Key)} {e:List Key} (g:fh b k st e):st.length≤60:=by
 have h1:=jB (Int.le_refl 0) (by have:=g.b1;omega) g.gs
 have h2:=g.b60
 have h3:((st.map stD).length:Int)=st.length:=by simp
 omega
theorem tH {b k d:Int} (d0:0≤d) (hd:d≤b) (hb:b≤60) (k0:0≤k) (k1:k<2^b.toNat):0≤bi b k d∧bi b k d<10^60:=by
 refine ⟨tN k0,?_⟩
 have h1:=uJ d0 hd k1
 have h2:=Af (k:=d.toNat) (by omega)
 have q60:(2:Int)^60<10^60:=by decide +kernel
 omega
theorem qD {k:List Key} {v:Key} (h:mt k v) (hk:szT k≤100000):okP v=true∧szK v≤szT k+62:=by
 cases v with
 | inl i=>exact ⟨decide_eq_true h,by show 62≤_;omega⟩
 | inr z=>exact ⟨by show (bW z&&decide (z.length≤100000))=true;rw [h.1,decide_eq_true (Nat.le_trans h.2 hk)];rfl,by show z.length+62≤_;have:=h.2;omega⟩
theorem xi {b k d:Int} {m s:Key} (hd:okP (.inl d)=true) (hb:okP (.inl (bi b k d))=true) (hm:okP m=true) (hs:okP s=true):okT (cV b k d m s)=true∧szT (cV b k d m s)=190+szK m+szK s:=by
 unfold cV
 split
 · refine ⟨CP qt.1 hd hb hs hm rfl,?_⟩
   show ([szK (.inr "fork"),62,62,szK s,szK m]:List Nat).sum=_
   rw [qm.1];simp;omega
 · refine ⟨CP qt.1 hd hb hm hs rfl,?_⟩
   show ([szK (.inr "fork"),62,62,szK m,szK s]:List Nat).sum=_
   rw [qm.1];simp;omega
def cy (g:List Key→Option Key):List Key→Key:=fun k=>(g k).getD (.inl 0)
theorem cK (g:List Key→Option Key):Ext g (cy g):=fun k v e=>by unfold cy;rw [e];rfl
theorem chain_last (h : List Key → Key) (b k : Int) : ∀ (r : List (Int × Key)) (e : List Key), ∃ pre, fe h b k e r = pre ++ [fE h b k e r]
  | [], e => ⟨[], rfl⟩
  | s :: r, e => by
    obtain ⟨pre, hp⟩ := chain_last h b k r (cV b k s.1 s.2 (h e))
    exact ⟨e :: pre, by show e :: fe h b k _ r = _; rw [hp]; rfl⟩
theorem qg {g:List Key→Option Key} {b k:Int} {e:List Key} {r:List (Int×Key)} {ts:List (List Key)} (h:∀ f,Ext g f→ts=fe f b k e r):∃ pre cur,ts=pre++[cur]∧∀ f,Ext g f→fE f b k e r=cur:=by
 obtain ⟨pre,hp⟩:=chain_last (cy g) b k r e
 have h0:=h _ (cK g)
 refine ⟨pre,fE (cy g) b k e r,by rw [h0,hp],fun f hf=>?_⟩
 obtain ⟨pre',hp'⟩:=chain_last f b k r e
 have h1:=h f hf
 rw [hp'] at h1
 rw [hp] at h0
 rw [h0] at h1
 have:=congrArg List.getLast? h1
 simp at this
 exact this.symm
theorem zR {H:Hp} {ps:List Addr} {ts:List (List Key)} {p:Addr} {t:List Key} (h:PK H ps ts) (e:H p=some (.tup (t.map kV))∧okT t=true):PK H (ps++[p]) (ts++[t]):=by
 induction h with
 | nil=>exact .cons e .nil
 | cons r t ih=>exact .cons r ih
theorem qU {H H':Hp} {ps:List Addr} {ts:List (List Key)} (k:∀ b xs,H b=some (.tup xs)→H' b=some (.tup xs)) (h:PK H ps ts):PK H' ps ts:=L2.Paired.imp' (fun p x e=>⟨k _ _ e.1,e.2⟩) h
theorem qZ {H:Hp} {ps:List Addr} {pre:List (List Key)} {cur:List Key} (h:PK H ps (pre++[cur])):∃ qs p,ps=qs++[p]∧H p=some (.tup (cur.map kV))∧okT cur=true:=by
 have hl:=ui h
 obtain ⟨p,hp,h2⟩:=BJ h (i:=pre.length) (t:=cur) (by simp)
 have hn:ps≠[]:=by intro z;subst z;simp at hl
 refine ⟨ps.dropLast,p,?_,h2⟩
 have:ps.getLast?=some p:=by
  rw [List.getLast?_eq_getElem?]
  have:ps.length - 1=pre.length:=by simp at hl;omega
  rw [this];exact hp
 obtain ⟨ys,hy⟩:=List.getLast?_eq_some_iff.mp this
 rw [hy];simp
theorem qN {K:W.Frag} {H:Hp} {Q:VK} {L:Addr} {qs:List Addr} {p:Addr} (hL:H L=some (.lst ((qs++[p]).map V.ref))) (q:Q (.ref p) H):bn K (.ref L) (.int (-1)) H Q:=by
 refine .inl (.inl ⟨L,_,-1,.ref p,rfl,rfl,SqL.of hL,?_,q⟩)
 rw [List.map_append]
 exact xJ _ _
structure At (A:Adr) (H:Hp) (f b:Addr) (B k:Int) (st:List (Int×Key)) (e:List Key) (g:List Key→Option Key) (n:Nat) (L:Addr) (i:Nat) (H':Hp) (ps:List Addr) (pre:List (List Key)) (cur:List Key) (g':List Key→Option Key):Prop where
 kt:aW b H H'
 sp:Stp A H' f b g' (n+i)
 sub:Sub g g'
 hL:H' L=some (.lst (ps.map V.ref))
 pk:PK H' ps (pre++[cur])
 pl:pre.length=i
 sp2:∀ k∈pre,szT k≤100000
 sz:szT cur+szS (st.reverse.drop i)≤100000
 ch:∀ h,Ext g' h→fe h B k e st.reverse=pre++fe h B k cur (st.reverse.drop i)
theorem At.next {H:Hp} {f b:Addr} {B k:Int} {st:List (Int×Key)} {e:List Key} {g:List Key→Option Key} {n:Nat} {L:Addr} {i:Nat} {H1 H2:Hp} {ps:List Addr} {pre:List (List Key)} {cur:List Key} {g1 g2:List Key→Option Key} {s:Int×Key} {v:Key} {t:Addr}
   (a:At A H f b B k st e g n L i H1 ps pre cur g1) (gd:fh B k st e) (hi:st.reverse[i]?=some s) (hLn:H L=none) (kt:aW b H1 H2) (sp:Stp A H2 f b g2 (n+i+1)) (sub:Sub g1 g2) (gv:g2 cur=some v) (so:mt cur v) (ht:H2 t=none):
   At A H f b B k st e g n L (i+1) (upd (upd H2 t (.tup ((cV B k s.1 s.2 v).map kV))) L (.lst ((ps++[t]).map V.ref))) (ps++[t]) (pre++[cur]) (cV B k s.1 s.2 v) g2:=by
 have hil:i<st.length:=by
   rcases Nat.lt_or_ge i st.length with h | h
   · exact h
   · rw [List.getElem?_eq_none (by simp;exact h)] at hi;cases hi
 have gl:=gd.len
 have hst:st[st.length - 1 - i]?=some s:=by rw [← hi,List.getElem?_reverse hil]
 obtain ⟨d0,d1,mo⟩:=gd.step hst
 have hd:st.reverse.drop i=s::st.reverse.drop (i+1):=by
   rw [List.drop_eq_getElem_cons (by simp;exact hil)]
   have:st.reverse[i]?=some (st.reverse[i]'(by simp;exact hil)):=List.getElem?_eq_getElem _
   rw [this] at hi;cases hi;rfl
 have sz:szT cur+(szK s.2+252+szS (st.reverse.drop (i+1)))≤100000:=by have:=a.sz;rw [hd] at this;exact this
 have hL2:H2 L=some (.lst (ps.map V.ref)):=a.sp.lst kt _ _ a.hL
 have tL:t≠L:=fun z=>by subst z;rw [hL2] at ht;cases ht
 have S1:=ay.upd (o:=.tup ((cV B k s.1 s.2 v).map kV)) ht
 have hb60:=gd.b60
 have p60:(60:Int)<10^60:=by decide +kernel
 have vs:=qD so (by omega)
 have sd:=tH (b:=B) (k:=k) (d:=s.1) d0 (by omega) gd.b60 gd.k0 gd.k1
 have fo:=xi (b:=B) (k:=k) (Dh d0 (by omega)) (Dh sd.1 sd.2) mo vs.1
 have kp:∀ x o,x≠L→upd H2 t (.tup ((cV B k s.1 s.2 v).map kV)) x=some o→upd (upd H2 t (.tup ((cV B k s.1 s.2 v).map kV))) L (.lst ((ps++[t]).map V.ref)) x=some o:=fun x o h z=>by rw [ao h];exact z
 have nl:∀ x xs,H2 x=some (.tup xs)→x≠L:=fun x xs h z=>by subst z;rw [hL2] at h;cases h
 have ktt:∀ x xs,H2 x=some (.tup xs)→upd (upd H2 t (.tup ((cV B k s.1 s.2 v).map kV))) L (.lst ((ps++[t]).map V.ref)) x=some (.tup xs):=fun x xs h=>kp _ _ (nl _ _ h) (S1 _ _ h)
 refine ⟨fun x o nd h=>?_,?_,a.sub.trans sub,ak,?_,by simp [a.pl],(fun y hy=>by rcases List.mem_append.mp hy with z | z;exact a.sp2 y z;rw [List.mem_singleton.mp z];omega),?_,fun hh he=>?_⟩
 · exact kp _ _ (ax h hLn) (S1 _ _ (kt _ _ nd (a.kt _ _ nd h)))
 · refine sp.keep (by omega) fun x o h n1=>kp _ _ (fun z=>?_) (S1 _ _ h)
   subst z;rw [hL2] at h;cases h;rcases n1 with ⟨_,q⟩ | ⟨_,_,q⟩ | ⟨_,_,_,q⟩ <;> cases q
 · exact zR (qU ktt (qU (a.sp.tup kt) a.pk)) ⟨kp _ _ tL ak,fo.1⟩
 · rw [fo.2];have:=vs.2;omega
 · rw [a.ch hh (he.of sub)]
   rw [hd]
   show pre++(cur::fe hh B k (cV B k s.1 s.2 (hh cur)) _)=_
   rw [he cur v gv]
   simp
theorem At.done {H:Hp} {f b:Addr} {B k:Int} {st:List (Int×Key)} {e:List Key} {g:List Key→Option Key} {n:Nat} {L:Addr} {H':Hp} {ps:List Addr} {pre:List (List Key)} {cur:List Key} {g':List Key→Option Key} (a:At A H f b B k st e g n L st.length H' ps pre cur g'):∀ h,Ext g' h→pre++[cur]=fe h B k e st.reverse:=fun h he=>by
 rw [a.ch h he]
 have:st.reverse.drop st.length=[]:=by rw [List.drop_eq_nil_iff];simp
 rw [this];rfl
theorem BR {H:Hp} {st:List (Int×Key)} {xs:List V} (w:DatWs H xs (st.map stD)) {i:Nat} (hi:i<xs.length):∃ s p,st.reverse[i]?=some s∧xs.reverse.getD i .non=.ref p∧H p=some (.tup [.int s.1,kV s.2]):=by
 have hl:xs.length=st.length:=by rw [w.len];simp
 obtain ⟨x,hx⟩:∃ x,xs[xs.length - 1 - i]?=some x:=⟨_,List.getElem?_eq_getElem (by omega)⟩
 obtain ⟨s,p,hs,rfl,hp⟩:=uD w hx
 refine ⟨s,p,?_,?_,hp⟩
 · rw [List.getElem?_reverse (by omega),←hs,hl]
 · rw [List.getD_eq_getElem?_getD,List.getElem?_reverse hi,hx];rfl
theorem rL {ps:List Addr} {H:Hp} {ts:List (List Key)} (h:PK H ps ts) (ht:ts.length≤100):(ps.map V.ref).length<sizeLine:=by
 rw [List.length_map,ui h];exact du (by omega)
theorem As (st:List (Int×Key)):szS st.reverse=szS st:=by unfold szS;rw [List.map_reverse,List.sum_reverse]
theorem fh.okE {b k:Int} {st:List (Int×Key)} {e:List Key} (g:fh b k st e):fX (.tup (e.map bv)):=.inl ⟨jl (ft g.et),by show PyData.depthAll (toPys (e.map bv))+1≤140;rw [mn];decide⟩
theorem fh.slip {b k:Int} {st:List (Int×Key)} {e:List Key} (g:fh b k st e):jY b k (.tup [.tup (st.map stD),.tup (e.map bv)])=true:=by
 show (bo b 0 (st.map stD)&&de b k (iB (st.map stD)) (.tup (e.map bv)))=true
 have:iB (st.map stD)=dQ 0 (st.map stD):=rfl
 rw [g.gs,this,g.en];rfl
theorem At.zero {H H1:Hp} {f b t L:Addr} {B k:Int} {st:List (Int×Key)} {e:List Key} {g:List Key→Option Key} {n:Nat} (S:ay H H1) (gd:fh B k st e) (sp:Stp A H f b g n) (ht:H t=some (.tup (e.map kV))) (hL:H1 L=none):At A H f b B k st e g n L 0 (upd H1 L (.lst [.ref t])) [t] [] e g:=by
 have S2:=S.trans (ay.upd (o:=.lst [V.ref t]) hL)
 exact ⟨aW.same S2,sp.same (Nat.le_refl _) S2,Sub.rfl',ak,.cons ⟨S2 _ _ ht,gd.et⟩ .nil,rfl,(fun _ z=>nomatch z),by rw [List.drop_zero,As];exact gd.sz,fun h _=>rfl⟩
end Rs
namespace Rs
open PySem PySem.Spec PyProof.Rows L2
variable {K:W.Frag} {mg:Str→Option Value} {A:Adr}
def dO (o:HO):Prop:=(∃ xs,o=.lst xs)∨(∃ xs,o=.tup xs)∨∃ kvs,o=.dK kvs
mutual
theorem aY.kp {H H':Hp} {v:V} {d:Dat} (h:aY H v d) (k:∀ a o,H a=some o→dO o→H' a=some o):aY H' v d:=by
 cases h with
 | non=>exact .non
 | bl b=>exact .bl b
 | int i=>exact .int i
 | str z=>exact .str z
 | lst e r=>exact .lst (k _ _ e (.inl ⟨_,rfl⟩)) (DatWs.kp r k)
 | tup e r=>exact .tup (k _ _ e (.inr (.inl ⟨_,rfl⟩))) (DatWs.kp r k)
 | dic e=>exact (let ⟨kv,e⟩:=e;.dic ⟨kv,k _ _ e (.inr (.inr ⟨_,rfl⟩))⟩)
theorem DatWs.kp {H H':Hp} {xs:List V} {ds:List Dat} (h:DatWs H xs ds) (k:∀ a o,H a=some o→dO o→H' a=some o):DatWs H' xs ds:=by
 cases h with
 | nil=>exact .nil
 | cons a r=>exact .cons (aY.kp a k) (DatWs.kp r k)
end
theorem Stp.dO {H H':Hp} {f b:Addr} {g:List Key→Option Key} {n:Nat} (s:Stp A H f b g n) (k:aW b H H'):∀ a o,H a=some o→Rs.dO o→H' a=some o:=fun a o e h=>by
 rcases h with ⟨_,rfl⟩ | ⟨_,rfl⟩ | ⟨_,rfl⟩ <;> exact k a _ (s.nb e fun _ z=>nomatch z) e
theorem aY.kb {H H':Hp} {f b:Addr} {g:List Key→Option Key} {n:Nat} {v:V} {d:Dat} (h:aY H v d) (s:Stp A H f b g n) (k:aW b H H'):aY H' v d:=h.kp (s.dO k)
theorem dj.kb {H H':Hp} {f b:Addr} {g:List Key→Option Key} {n:Nat} {v:V} {B k:Int} {st:List (Int×Key)} {e:List Key} (h:dj H v B k st e) (s:Stp A H f b g n) (kb:aW b H H'):dj H' v B k st e:=⟨h.1.kb s kb,h.2⟩
theorem dj.same {H H':Hp} {v:V} {B k:Int} {st:List (Int×Key)} {e:List Key} (h:dj H v B k st e) (S:ay H H'):dj H' v B k st e:=⟨h.1.mono S,h.2⟩
theorem wm {B k:Int} (k0:0≤k) (k1:k<2^B.toNat):cY B (.int k)=true:=decide_eq_true ⟨k0,k1⟩
theorem At.szs {H:Hp} {f b:Addr} {B k:Int} {st:List (Int×Key)} {e:List Key} {g:List Key→Option Key} {n:Nat} {L:Addr} {i:Nat} {H':Hp} {ps:List Addr} {pre:List (List Key)} {cur:List Key} {g':List Key→Option Key} (a:At A H f b B k st e g n L i H' ps pre cur g'):∀ k∈pre++[cur],szT k≤100000:=fun y hy=>by
 rcases List.mem_append.mp hy with z | z
 · exact a.sp2 y z
 · rw [List.mem_singleton.mp z];have:=a.sz;omega
theorem tZ {K:W.Frag} {H:Hp} {Q:VK} {a b:Key} (q:Q (.bl (!decide (a=b))) H):dH K (kV a) (kV b) H Q:=by
 cases a <;> cases b
 · rename_i i j
   have e:decide ((Sum.inl i:Key)=Sum.inl j)=decide (i=j):=by simp
   rw [e] at q;exact q
 · have e:∀ (i:Int) (j:Str),decide ((Sum.inl i:Key)=Sum.inr j)=false:=by simp
   rw [e] at q;exact q
 · have e:∀ (i:Int) (j:Str),decide ((Sum.inr j:Key)=Sum.inl i)=false:=by simp
   rw [e] at q;exact q
 · rename_i i j
   have e:decide ((Sum.inr i:Key)=Sum.inr j)=decide (i=j):=by simp
   rw [e] at q;exact q
theorem DS (K:W.Frag) (A:Adr):Ln (oG K A) 4:=by rintro vs H Q E ⟨f,b,B,v,w,g,n,rfl,_⟩;rfl
theorem GG (T:Txt K mg A):Rd (oG K A) (Jv K A) ["stamper", "bits", "key", "slip", "terms", "step"]:=by
 intro vs H Q E h
 obtain ⟨f,b,B,v0,w0,g,n,rfl,B1,B60,sp,hn,ask⟩:=h
 cases ask with
 | good k st e hv w q=>
 subst hv
 have gd:=w.2
 have gl:=gd.len
 obtain ⟨a,s,t,xs,rfl,ha,hs,ws,ht⟩:=km w
 have hxl:xs.length=st.length:=by rw [ws.len];simp
 refine ⟨B,.int k,.int k,rfl,by omega,B60,.int k,?_⟩
 rw [wm gd.k0 gd.k1]
 refine Sel.no rfl ?_
 refine ⟨B,k,.ref a,_,rfl,by omega,B60,w.1,gd.okE,fun H0 S0=>?_⟩
 rw [gd.slip]
 refine Sel.no rfl ?_
 refine ixT (j:=1) (S0 _ _ ha) rfl rfl ⟨ba (n:=1) (by decide),fun L hL=>?_⟩
 have hLn:H L=none:=by
   cases z:H L with
   | none=>rfl
   | some o=>rw [S0 _ _ z] at hL;cases hL
 have S1:=S0.trans (ay.upd (o:=.lst [V.ref t]) hL)
 have a0:=At.zero (A:=A) S0 gd sp ht hL
 refine ixT (j:=0) (S1 _ _ ha) rfl rfl ⟨s,xs,rfl,SqT.of (S1 _ _ hs),?_⟩
 refine CT (eJ.rev .non) (fun i σ H'=>∃ ps pre cur g' x5,σ=[some (.ref f),some (.int B),some (.int k),some (.ref a),some (.ref L),x5]∧At A H f b B k st e g n L i H' ps pre cur g')
   ⟨[t],[],e,g,none,rfl,a0⟩ ?_ ?_ ?_
 · rintro i σ H1 _ ⟨ps,pre,cur,g1,x5,rfl,a1⟩
   exact SqT.of (sp.tup a1.kt _ _ hs)
 · rintro i σ H1 hi ⟨ps,pre,cur,g1,x5,rfl,a1⟩
   obtain ⟨sk,p,hsk,ep,hp⟩:=BR ws hi
   rw [ep]
   have hi':i<st.length:=by omega
   obtain ⟨d0,d1,_⟩:=gd.step (i:=st.length - 1 - i) (s:=sk) (by rw [← hsk,List.getElem?_reverse hi'])
   obtain ⟨qs,pc,rfl,hpc,okc⟩:=qZ a1.pk
   refine ⟨.inl ⟨rfl,_,SqL.of a1.hL⟩,?_⟩
   refine ⟨f,rfl,a1.sp.clo,qN a1.hL (mw a1.sp (by omega) hpc okc fun v H2 g2 kt sp2 sub gv so=>?_)⟩
   have hL2:H2 L=some (.lst ((qs++[pc]).map V.ref)):=a1.sp.lst kt _ _ a1.hL
   refine ⟨B,k,sk.1,sk.2,v,p,rfl,a1.sp.tup kt _ _ (sp.tup a1.kt _ _ hp),d1,gd.k0,fun t1 h1=>?_⟩
   have hlen:((qs++[pc]).map V.ref).length<sizeLine:=rL a1.pk (by have:=a1.pl;simp;omega)
   refine ⟨L,_,.ref t1,rfl,rfl,ay.upd h1 _ _ hL2,hlen,?_⟩
   have ml:(qs++[pc]).map V.ref++[V.ref t1]=(qs++[pc]++[t1]).map V.ref:=by simp
   rw [ml]
   exact ⟨_,_,_,g2,_,rfl,a1.next gd hsk hLn kt sp2 sub gv so h1⟩
 · rintro σ H1 ⟨ps,pre,cur,g1,x5,rfl,a1⟩
   rw [hxl] at a1
   exact q L ps _ g1 H1 a1.kt a1.sp a1.sub hLn a1.hL a1.pk a1.szs a1.done
theorem Ask.imp {H:Hp} {B:Int} {v w:V} {E E':XK} {R R':Int→List (Int×Key)→List Key→Prop} (h:Ask A H B v w E R) (f:∀ k st e,v=.int k→dj H w B k st e→R k st e→R' k st e):Ask A H B v w E' R':=by
 cases h with
 | good k st e hv w q=>exact .good k st e hv w (f k st e hv w q)
theorem Ea (K:W.Frag) (A:Adr):Ln (ma K A) 4:=by rintro vs H Q E ⟨f,b,B,v,w,g,n,rfl,_⟩;rfl
theorem FS (T:Txt K mg A):Rd (ma K A) (Jn K A) ["stamper", "bits", "key", "slip"]:=by
 intro vs H Q E h
 obtain ⟨f,b,B,v,w,g,n,rfl,B1,B60,sp,hn,ask⟩:=h
 refine ⟨f,rfl,sp.clo,f,b,B,v,w,g,n,rfl,B1,B60,sp,hn,ask.imp fun k st e _ ws q=>fun L ps ts g1 H1 kt sp1 sub hLn hL pk szs ch=>?_⟩
 have gl:=ws.2.len
 obtain ⟨pre,cur,rfl,hc⟩:=qg ch
 obtain ⟨qs,pc,rfl,hpc,okc⟩:=qZ pk
 refine qN hL (mw sp1 (by omega) hpc okc fun x H2 g2 kt2 sp2 sub2 gv so=>?_)
 refine q x g2 H2 (kt.trans kt2) (sp2.same (by omega) (.refl _)) (sub.trans sub2) (qD so (szs _ (by simp))).1 fun h he=>?_
 rw [hc h (he.of sub2)]
 exact (he _ _ gv).symm
theorem AO (K:W.Frag) (A:Adr):Ln (jX K A) 5:=by rintro vs H Q E ⟨f,b,B,m,v,w,g,n,rfl,_⟩;rfl
theorem HG (T:Txt K mg A):Rd (jX K A) (JM K A) ["stamper", "bits", "mark", "key", "slip", "came"]:=by
 intro vs H Q E h
 obtain ⟨f,b,B,m,v,w,g,n,rfl,B1,B60,sp,hn,ask⟩:=h
 refine ⟨f,b,B,v,w,g,n,rfl,B1,B60,sp,hn,ask.imp fun k st e hv ws q=>fun x g1 H1 kb s1 sub1 okx ex=>?_⟩
 subst hv
 obtain ⟨q1,q2⟩:=q x g1 H1 kb s1 sub1 okx ex
 refine tZ ?_
 by_cases exm:x=m
 · exact Sel.no (by rw [decide_eq_true exm];rfl) ⟨B,k,w,st,e,rfl,ws.kb sp kb,q1 exm⟩
 · exact Sel.yes (by rw [decide_eq_false exm];rfl) (q2 exm)
end Rs
namespace Rs
open PySem PySem.Spec PyProof.Rows L2
variable {K:W.Frag} {mg:Str→Option Value} {A:Adr}
theorem qb {b x y c:Nat} (hx:x<2^b) (hy:y<2^b) (h:mR b x y c):(b:Int) - (Builtin.Int.intBits (((x^^^y:Nat)):Int):Int)=(c:Int):=by
 obtain ⟨hc,he,hd⟩:=h
 have lt:x^^^y<2^(b - c):=by
   have h1:(x^^^y)/2^(b - c)=0:=by
     rw [← Nat.shiftRight_eq_div_pow,Nat.shiftRight_xor_distrib,Nat.shiftRight_eq_div_pow,Nat.shiftRight_eq_div_pow,he,Nat.xor_self]
   rcases (Nat.div_eq_zero_iff.mp h1) with h | h
   · have:=Nat.two_pow_pos (b - c);omega
   · exact h
 unfold Builtin.Int.intBits
 by_cases h0:x^^^y=0
 · rw [h0]
   have hxy:x=y:=xor_zero h0
   rcases hd with rfl | hd
   · simp
   · exact (hd (by rw [hxy])).elim
 · rw [if_neg (by simpa using h0)]
   rcases hd with rfl | hd
   · simp at lt;omega
   · by_cases hcb:c=b
     · subst hcb;simp at lt;omega
     have ge:2^(b - (c+1))≤x^^^y:=by
       apply Classical.byContradiction
       intro hn
       apply hd
       have h1:(x^^^y)/2^(b - (c+1))=0:=Nat.div_eq_of_lt (by omega)
       rw [← Nat.shiftRight_eq_div_pow,Nat.shiftRight_xor_distrib,Nat.shiftRight_eq_div_pow,Nat.shiftRight_eq_div_pow] at h1
       exact xor_zero h1
     have hl:(x^^^y).log2=b - (c+1):=by
       rw [Nat.log2_eq_iff h0]
       exact ⟨ge,by rw [show b - (c+1)+1=b - c by omega];exact lt⟩
     rw [Int.natAbs_natCast,hl]
     omega
theorem CD (K:W.Frag) (A:Adr):Ln (lC K A) 3:=by rintro vs H Q E ⟨b,_,_,_,rfl,_⟩;rfl
theorem EU (T:Txt K mg A):Rd (lC K A) (Jd K A) ["bits", "one", "other"]:=by
 intro vs H Q E h
 obtain ⟨b,x,y,c,rfl,hx,hy,hc,q⟩:=h
 refine ⟨rfl,?_⟩
 show Q (.int ((b:Int) - (Builtin.Int.intBits (Builtin.bitXor x y):Int))) H
 rw [ls,qb hx hy hc]
 exact q
theorem Bd (K:W.Frag) (A:Adr):Ln (oo K A) 1:=by rintro vs H Q E ⟨v,d,rfl,_⟩;rfl
theorem GK (T : Txt K mg A) : Rd (oo K A) (IS K A) ["thing"] := by
  intro vs H Q E h
  obtain ⟨v, d, rfl, w, q⟩ := h
  refine ⟨v, d, rfl, w, ?_⟩
  cases w with
  | int i =>
    refine Sel.yes rfl (Sel.dec (fun h1 => ?_) (fun h1 => ?_))
    · have e : fB (.int i) = decide (i ≤ 60) := by
        show decide (1 ≤ i ∧ i ≤ 60) = _
        by_cases h2 : i ≤ 60
        · rw [decide_eq_true h2, decide_eq_true ⟨h1, h2⟩]
        · rw [decide_eq_false h2, decide_eq_false fun z => h2 z.2]
      show Q (.bl (decide (i ≤ 60))) H
      rw [← e]; exact q
    · have e : fB (.int i) = false := decide_eq_false fun z => h1 z.1
      rw [← e]; exact q
  | _ => exact Sel.no rfl q
theorem fK (B k d:Nat):bi (B:Int) (k:Int) (d:Int)=((st B k d:Nat):Int):=by
 unfold bi st
 rw [show ((B:Int) - (d:Int)).toNat=B - d by omega,←eh,←Int.natCast_ediv]
theorem ju {B k d:Nat} (h:d<B):(k:Int)/2^((B:Int) - (d:Int) - 1).toNat%2=((sd B k d:Nat):Int):=by
 unfold sd
 rw [show ((B:Int) - (d:Int) - 1).toNat=B - 1 - d by omega,←eh]
 omega
end Rs
namespace Rs
open PySem PySem.Spec PyProof.Rows L2
variable {K:W.Frag} {mg:Str→Option Value} {A:Adr}
def knO (o:HO):Prop:=(∃ xs,o=.tup xs)∨∃ C dx t m fs,o=HO.ins C dx ((("term" :Str),t)::(("mark" :Str),m)::fs)
theorem KnA.keep {H H':Hp} {g g':List Key→Option Key} {x:Addr} {t:Kn Str} {m:Key} (h:KnA A H g x t m) (k:∀ z o,H z=some o→knO o→H' z=some o) (s:Sub g g'):KnA A H' g' x t m:=by
 induction h with
 | bare o ht hm ok sz=>exact .bare (k _ _ o (.inr ⟨_,_,_,_,_,rfl⟩)) (k _ _ ht (.inl ⟨_,rfl⟩)) (s _ _ hm) ok sz
 | leaf o ht hm ok sz hz=>exact .leaf (k _ _ o (.inr ⟨_,_,_,_,_,rfl⟩)) (k _ _ ht (.inl ⟨_,rfl⟩)) (s _ _ hm) ok sz hz
 | fork o hl hr ht hm ok sz ih1 ih2=>exact .fork (k _ _ o (.inr ⟨_,_,_,_,_,rfl⟩)) ih1 ih2 (k _ _ ht (.inl ⟨_,rfl⟩)) (s _ _ hm) ok sz
theorem knO.dT {kvs:List (List Key×V)} (h:knO (.dT kvs)):False:=by rcases h with ⟨_,h⟩ | ⟨_,_,_,_,_,h⟩ <;> cases h
theorem knO.tab {C dx:Addr} {v:V} {fs:List (Str×V)} (h:knO (.ins C dx ((("stamper" :Str),v)::fs))):False:=by
 rcases h with ⟨_,h⟩ | ⟨_,_,_,_,_,h⟩
 · cases h
 · injection h with _ _ h;injection h with h;injection h with h;exact absurd h (by decide)
theorem knO.nil {C dx:Addr} (h:knO (.ins C dx [])):False:=by rcases h with ⟨_,h⟩ | ⟨_,_,_,_,_,h⟩ <;> cases h
theorem knO.ext {φ} (h:knO (.ext φ)):False:=by rcases h with ⟨_,h⟩ | ⟨_,_,_,_,_,h⟩ <;> cases h
theorem aW.kn {H H':Hp} {f b:Addr} {g:List Key→Option Key} {n:Nat} (s:Stp A H f b g n) (k:aW b H H'):∀ z o,H z=some o→knO o→H' z=some o:=fun z o e h=>k z o (s.nb e (fun kvs q=>by subst q;exact h.dT) fun φ q=>by subst q;exact h.ext) e
theorem gX.kn {H H':Hp} {f b x:Addr} {g:List Key→Option Key} {n:Nat} {u:HO} (s:Stp A H f b g n) (k:gX b x H H') (hx:H x=some u) (hu:¬ knO u):∀ z o,H z=some o→knO o→H' z=some o:=fun z o e h=>k z o (s.nb e (fun kvs q=>by subst q;exact h.dT) fun φ q=>by subst q;exact h.ext) (fun q=>by subst q;rw [hx] at e;cases e;exact hu h) e
theorem KnA.kb {H H':Hp} {g g':List Key→Option Key} {f b x:Addr} {t:Kn Str} {m:Key} {n:Nat} (h:KnA A H g x t m) (s:Stp A H f b g n) (k:aW b H H') (sub:Sub g g'):KnA A H' g' x t m:=h.keep (aW.kn s k) sub
theorem KnA.same {H H':Hp} {g:List Key→Option Key} {x:Addr} {t:Kn Str} {m:Key} (h:KnA A H g x t m) (S:ay H H'):KnA A H' g x t m:=h.keep (fun z o e _=>S z o e) Sub.rfl'
theorem KnA.ok {H:Hp} {g:List Key→Option Key} {x:Addr} {t:Kn Str} {m:Key} (h:KnA A H g x t m):okP m=true∧szK m≤szN t:=by cases h <;> exact ⟨‹_›,‹_›⟩
theorem KnA.ob {H:Hp} {g:List Key→Option Key} {x:Addr} {t:Kn Str} {m:Key} (h:KnA A H g x t m):∃ dx p fs,H x=some (.ins (clK A t) dx ((("term" :Str),.ref p)::(("mark" :Str),kV m)::fs))∧∀ nm:Str,(nm= "found" ∨nm= "rows" ∨nm= "with_key" ∨nm= "without")→((("term" :Str),V.ref p)::(("mark" :Str),kV m)::fs).lookup nm=none:=by
 cases h with
 | bare o _ _ _ _=>exact ⟨_,_,_,o,fun nm hn=>by rcases hn with rfl | rfl | rfl | rfl <;> rfl⟩
 | leaf o _ _ _ _ _=>exact ⟨_,_,_,o,fun nm hn=>by rcases hn with rfl | rfl | rfl | rfl <;> rfl⟩
 | fork o _ _ _ _ _ _=>exact ⟨_,_,_,o,fun nm hn=>by rcases hn with rfl | rfl | rfl | rfl <;> rfl⟩
theorem dF (T:Txt K mg A) (t:Kn Str):Cls K (clK A t)∧bz K (clK A t) "mark" ∧bz K (clK A t) "term" :=by
 cases t
 · exact ⟨T.cl_Bare,T.na_Bare_mark,T.na_Bare_term⟩
 · exact ⟨T.cl_Leaf,T.na_Leaf_mark,T.na_Leaf_term⟩
 · exact ⟨T.cl_Fork,T.na_Fork_mark,T.na_Fork_term⟩
theorem vC:okP (.inr "bare")=true∧okP (.inr "leaf")=true∧okP (.inr "fork")=true:=by refine ⟨?_,?_,?_⟩ <;> decide +kernel
theorem Bj:szK (.inr "bare")=66∧szK (.inr "leaf")=66∧szK (.inr "fork")=66:=by refine ⟨?_,?_,?_⟩ <;> decide +kernel
theorem okN {i:Int} (h0:0≤i) (h:i<2^60):okP (.inl i)=true:=by
 have p60:(2:Int)^60<10^60:=by decide +kernel
 exact decide_eq_true ⟨h0,by omega⟩
theorem okZ {z:Str} (h:eP z):okP (.inr z)=true:=by
 show (bW z&&decide (z.length≤100000))=true
 rw [h.1,decide_eq_true (by have:=h.2;omega)];rfl
theorem oU {w:Str} {k:List Key} (hw:okP (.inr w)=true) (hk:∀ x∈k,okP x=true) (hl:k.length≤7):okT (.inr w::k)=true:=by
 unfold okT
 refine Bool.and_eq_true_iff.mpr ⟨Bool.and_eq_true_iff.mpr ⟨decide_eq_true ⟨by simp,by simp;omega⟩,rfl⟩,?_⟩
 rw [List.all_cons,hw]
 exact List.all_eq_true.mpr hk
theorem yp:okT brT=true:=oU vC.1 (fun _ h=>nomatch h) (Nat.zero_le _)
theorem rK {k:Nat} (h:k<2^60):okP (.inl (k:Int))=true:=okN (by omega) (by omega)
theorem yO {k:Nat} {z:Str} (h:k<2^60) (hz:eP z):okT (lfT k z)=true:=oU vC.2.1 (fun x hx=>by
 rcases List.mem_cons.mp hx with rfl | hx
 · exact rK h
 · rw [List.mem_singleton.mp hx];exact okZ hz) (show 2≤7 by decide)
theorem zq {d b:Nat} {l r:Key} (hd:d<60) (hb:b<2^60) (hl:okP l=true) (hr:okP r=true):okT (fkT d b l r)=true:=oU vC.2.2 (fun x hx=>by
 rcases List.mem_cons.mp hx with rfl | hx
 · exact rK (by omega)
 · rcases List.mem_cons.mp hx with rfl | hx
   · exact rK hb
   · rcases List.mem_cons.mp hx with rfl | hx
     · exact hl
     · rw [List.mem_singleton.mp hx];exact hr) (show 4≤7 by decide)
theorem kS {k : List Key} {v : Key} {n : Nat} (h : mt k v) (hn : szT k ≤ n) (h2 : n + 62 ≤ 100000) : okP v = true ∧ szK v ≤ n + 62 := by
  cases v with
  | inl i => exact ⟨decide_eq_true h, by show 62 ≤ _; omega⟩
  | inr z =>
    have := h.2
    refine ⟨?_, by show z.length + 62 ≤ _; omega⟩
    show (bW z && decide (z.length ≤ 100000)) = true
    rw [h.1, decide_eq_true (by omega)]; rfl
theorem yY {k:Nat} {z:Str} (hz:eP z):szT (lfT k z)≤250:=by
 have:=hz.2
 show szK (.inr "leaf")+(62+(z.length+62+0))≤_
 rw [Bj.2.1];omega
theorem yq {d b:Nat} {l r:Key}:szT (fkT d b l r)=190+szK l+szK r:=by
 show szK (.inr "fork")+(62+(62+(szK l+(szK r+0))))=_
 rw [Bj.2.2];omega
theorem zU {i:Nat} {σ:L2.St} {H:Hp} {Q:List V→Hp→Prop} {v:V} (h:σ[i]?=some (some v)) (q:Q [v] H):ae (ab i) ag σ H Q:=by
 show (match σ[i]? with | some (some v)=>ag σ H fun xs H2=>Q (v::xs) H2 | _=>False)
 rw [h];exact q
theorem Bt (K:W.Frag) (A:Adr):Ln (kh K A) 3:=by rintro vs H Q E ⟨x,dx,C,f,b,p,g,n,k,rfl,_⟩;rfl
theorem Gr (T:Txt K mg A):Rd (kh K A) (IV K A) ["self", "stamper", "term"]:=by
 intro vs H Q E h
 obtain ⟨x,dx,C,f,b,p,g,n,k,rfl,hx,cl,n1,n2,s,hn,hp,ok,q⟩:=h
 refine ⟨x,C,dx,[],rfl,hx,cl,n1,by decide,?_⟩
 have s1:Stp A (upd H x (.ins C dx (cw "term" (.ref p) []))) f b g n:=s.put (Nat.le_refl _) hx fun v z=>nomatch z
 have px:p≠x:=ci hp hx (fun z=>nomatch z)
 refine ⟨f,rfl,s1.clo,zU (v:=.ref p) rfl ?_⟩
 refine mw s1 hn (by rw [ao px];exact hp) ok fun v H2 g2 kb s2 sub gv st=>?_
 have hx1:upd H x (.ins C dx (cw "term" (.ref p) [])) x=some (.ins C dx [(("term" :Str),.ref p)]):=ak
 have hx2:=kb _ _ (s1.nb hx1 fun _ z=>nomatch z) hx1
 refine ⟨x,C,dx,[(("term" :Str),.ref p)],rfl,hx2,cl,n2,by show 1<1000;decide,q v g2 _ (fun z o zb zx e=>?_) ak (s2.put (Nat.le_refl _) hx2 fun v z=>?_) sub gv st⟩
 · rw [ao zx];exact kb _ _ zb (by rw [ao zx];exact e)
 · injection z with z;injection z with z;exact absurd z (by decide)
theorem Ht (K:W.Frag) (A:Adr):Ln (mj K A) 2:=by rintro vs H Q E ⟨x,dx,f,b,g,n,rfl,_⟩;rfl
theorem Jl (T:Txt K mg A):Rd (mj K A) (T_0 K A) ["self", "stamper"]:=by
 intro vs H Q E h
 obtain ⟨x,dx,f,b,g,n,rfl,hx,s,hn,q⟩:=h
 refine ⟨by show 1≤sizeLine;decide,fun p hp=>?_⟩
 have S:=ay.upd (o:=.tup [.str "bare"]) hp
 refine ⟨x,dx,A.c_Bare,f,b,p,g,n,brT,rfl,S _ _ hx,T.cl_Bare,T.na_Bare_term,T.na_Bare_mark,s.same (Nat.le_refl _) S,hn,ak,yp,fun m g' H' k o s' sub gm st=>?_⟩
 obtain ⟨ok,sz⟩:=kS (n:=130) st (by decide +kernel) (by decide)
 have px:p≠x:=Ne.symm (ax hx hp)
 have s1:=s.same (Nat.le_refl n) S
 exact q m g' H' (fun z u zb zx e=>k z u zb zx (S _ _ e)) (.bare o (k _ _ (s1.nb (o:=.tup (brT.map kV)) ak fun _ z=>nomatch z) px ak) gm ok (by omega)) s' sub
theorem BV (K:W.Frag) (A:Adr):Ln (iT K A) 4:=by rintro vs H Q E ⟨x,dx,f,b,g,n,k,z,rfl,_⟩;rfl
theorem Gw (T:Txt K mg A):Rd (iT K A) (JB K A) ["self", "stamper", "key", "value"]:=by
 intro vs H Q E h
 obtain ⟨x,dx,f,b,g,n,kk,z,rfl,hx,s,hn,k60,hz,q⟩:=h
 refine ⟨by show 3≤sizeLine;decide,fun p hp=>?_⟩
 have S:=ay.upd (o:=.tup [.str "leaf",.int (kk:Int),.str z]) hp
 refine ⟨x,dx,A.c_Leaf,f,b,p,g,n,lfT kk z,rfl,S _ _ hx,T.cl_Leaf,T.na_Leaf_term,T.na_Leaf_mark,s.same (Nat.le_refl _) S,hn,ak,yO k60 hz,fun m g' H' k o s' sub gm st=>?_⟩
 obtain ⟨ok,sz⟩:=kS (n:=250) st (yY hz) (by decide)
 have px:p≠x:=Ne.symm (ax hx hp)
 have s1:=s.same (Nat.le_refl n) S
 have hp':=k _ _ (s1.nb (o:=.tup ((lfT kk z).map kV)) ak fun _ z=>nomatch z) px ak
 refine ⟨x,A.c_Leaf,dx,_,rfl,o,T.cl_Leaf,T.na_Leaf_key,by show 2<1000;decide,?_⟩
 refine ⟨x,A.c_Leaf,dx,_,rfl,ak,T.cl_Leaf,T.na_Leaf_text,by show 3<1000;decide,?_⟩
 rw [eT]
 have e:cw "text" (.str z) (cw "key" (.int (kk:Int)) [("term",.ref p),("mark",kV m)])=([("term",.ref p),("mark",kV m),("key",.int (kk:Int)),("text",.str z)]:List (Str×V)):=rfl
 rw [e]
 refine q m g' _ (fun y u yb yx e=>by rw [ao yx];exact k y u yb yx (S _ _ e)) (.leaf ak (by rw [ao px];exact hp') gm ok (by omega) hz) (s'.put (Nat.le_refl _) o fun v z=>?_) sub
 injection z with z;injection z with z;exact absurd z (by decide)
theorem Gi (K:W.Frag) (A:Adr):Ln (jy K A) 6:=by rintro vs H Q E ⟨x,dx,f,b,l,r,g,n,d,e,tl,tr,ml,mr,rfl,_⟩;rfl
theorem Jj (T:Txt K mg A):Rd (jy K A) (T_4 K A) ["self", "stamper", "depth", "begin", "left", "right"]:=by
 intro vs H Q E h
 obtain ⟨x,dx,f,b,l,r,g,n,d,e,tl,tr,ml,mr,rfl,hx,s,hn,d60,e60,kl,kr,szs,q⟩:=h
 obtain ⟨dl,pl,fl,ol,_⟩:=kl.ob
 obtain ⟨dr,pr,fr,or',_⟩:=kr.ob
 refine ⟨l,_,dl,_,_,rfl,ol,(dF T tl).1,(dF T tl).2.1,rfl,r,_,dr,_,_,rfl,or',(dF T tr).1,(dF T tr).2.1,rfl,by show 5≤sizeLine;decide,fun p hp=>?_⟩
 have S:=ay.upd (o:=.tup [.str "fork",.int (d:Int),.int (e:Int),kV ml,kV mr]) hp
 refine ⟨x,dx,A.c_Fork,f,b,p,g,n,fkT d e ml mr,rfl,S _ _ hx,T.cl_Fork,T.na_Fork_term,T.na_Fork_mark,s.same (Nat.le_refl _) S,hn,ak,zq d60 e60 kl.ok.1 kr.ok.1,fun m g' H' k o s' sub gm st=>?_⟩
 have zl:=kl.ok.2
 have zr:=kr.ok.2
 obtain ⟨ok,sz⟩:=kS (n:=190+szK ml+szK mr) st (Nat.le_of_eq yq) (by omega)
 have px:p≠x:=Ne.symm (ax hx hp)
 have s1:=s.same (Nat.le_refl n) S
 have hp':=k _ _ (s1.nb (o:=.tup ((fkT d e ml mr).map kV)) ak fun _ z=>nomatch z) px ak
 have kn:=gX.kn s1 k (S _ _ hx) knO.nil
 refine ⟨x,A.c_Fork,dx,_,rfl,o,T.cl_Fork,T.na_Fork_depth,by show 2<1000;decide,?_⟩
 refine ⟨x,A.c_Fork,dx,_,rfl,ak,T.cl_Fork,T.na_Fork_begin,by show 3<1000;decide,?_⟩
 refine ⟨x,A.c_Fork,dx,_,rfl,ak,T.cl_Fork,T.na_Fork_left,by show 4<1000;decide,?_⟩
 refine ⟨x,A.c_Fork,dx,_,rfl,ak,T.cl_Fork,T.na_Fork_right,by show 5<1000;decide,?_⟩
 rw [eT,eT,eT]
 have ef:cw "right" (.ref r) (cw "left" (.ref l) (cw "begin" (.int (e:Int)) (cw "depth" (.int (d:Int)) [("term",.ref p),("mark",kV m)])))=([("term",.ref p),("mark",kV m),("depth",.int (d:Int)),("begin",.int (e:Int)),("left",.ref l),("right",.ref r)]:List (Str×V)):=rfl
 rw [ef]
 have up:∀ z u,H z=some u→knO u→upd H' x (.ins A.c_Fork dx [("term",.ref p),("mark",kV m),("depth",.int (d:Int)),("begin",.int (e:Int)),("left",.ref l),("right",.ref r)]) z=some u:=fun z u ez hu=>by
  rw [ao (fun q=>by subst q;rw [hx] at ez;cases ez;exact knO.nil hu)]
  exact kn z u (S _ _ ez) hu
 refine q m g' _ (fun y u yb yx e=>by rw [ao yx];exact k y u yb yx (S _ _ e)) (.fork ak (kl.keep up sub) (kr.keep up sub) (by rw [ao px];exact hp') gm ok (by show _≤300+szN tl+szN tr;omega)) (s'.put (Nat.le_refl _) o fun v z=>?_) sub
 injection z with z;injection z with z;exact absurd z (by decide)
end Rs
namespace Rs
open PySem PySem.Spec PyProof.Rows L2
variable {K:W.Frag} {mg:Str→Option Value} {A:Adr}
theorem pP {B d key:Nat} {z:Str} {t:Kn Str}:szN (dI B d key z t)=700+szN t:=by
 unfold dI;split
 · show 300+400+szN t=_;omega
 · show 300+szN t+400=_;omega
theorem iY {B key : Nat} {z : Str} : ∀ t : Kn Str, szN (bR B key z t) ≤ szN t + 700
  | .bare => by show 400 ≤ 200 + 700; omega
  | .leaf k t => by
    unfold bR; split
    · show 400 ≤ 400 + 700; omega
    · rw [pP]; omega
  | .fork d b l r => by
    have h1 := iY (B := B) (key := key) (z := z) l
    have h2 := iY (B := B) (key := key) (z := z) r
    unfold bR; split
    · split <;> (show 300 + _ + _ ≤ 300 + _ + _ + 700; omega)
    · rw [pP]; omega
theorem fF {B key : Nat} : ∀ t : Kn Str, szN (aI B key t) ≤ szN t
  | .bare => Nat.le_refl _
  | .leaf k t => by
    unfold aI; split
    · show 200 ≤ 400; omega
    · exact Nat.le_refl _
  | .fork d b l r => by
    have h1 := fF (B := B) (key := key) l
    have h2 := fF (B := B) (key := key) r
    have e : szN (.fork d b l r) = 300 + szN l + szN r := rfl
    unfold aI; split
    · cases q : aI B key l with
      | bare => show szN r ≤ _; omega
      | leaf _ _ => rw [q] at h1; show 300 + _ + _ ≤ _; omega
      | fork _ _ _ _ => rw [q] at h1; show 300 + _ + _ ≤ _; omega
    · cases q : aI B key r with
      | bare => show szN l ≤ _; omega
      | leaf _ _ => rw [q] at h2; show 300 + _ + _ ≤ _; omega
      | fork _ _ _ _ => rw [q] at h2; show 300 + _ + _ ≤ _; omega
theorem jk {B key : Nat} {z : Str} : ∀ t : Kn Str, (aB (bR B key z t)).length ≤ (aB t).length + 1
  | .bare => Nat.le_refl _
  | .leaf k t => by
    unfold bR; split
    · show 1 ≤ 2; decide
    · unfold dI; split <;> exact Nat.le_refl 2
  | .fork d b l r => by
    have h1 := jk (B := B) (key := key) (z := z) l
    have h2 := jk (B := B) (key := key) (z := z) r
    have ef : ∀ d b (l r : Kn Str), (aB (.fork d b l r)).length = (aB l).length + (aB r).length := fun _ _ _ _ => List.length_append
    have el : ∀ k (z : Str), (aB (.leaf k z)).length = 1 := fun _ _ => rfl
    unfold bR; split
    · split
      · rw [ef, ef]; omega
      · rw [ef, ef]; omega
    · unfold dI; split
      · rw [ef, el]; omega
      · rw [ef, el]; omega
theorem gA {B key : Nat} : ∀ t : Kn Str, (aB (aI B key t)).length ≤ (aB t).length
  | .bare => Nat.le_refl _
  | .leaf k t => by
    unfold aI; split
    · exact Nat.zero_le _
    · exact Nat.le_refl _
  | .fork d b l r => by
    have h1 := gA (B := B) (key := key) l
    have h2 := gA (B := B) (key := key) r
    have e : (aB (.fork d b l r)).length = (aB l).length + (aB r).length := List.length_append
    have ef : ∀ d b (l r : Kn Str), (aB (.fork d b l r)).length = (aB l).length + (aB r).length := fun _ _ _ _ => List.length_append
    unfold aI; split
    · cases q : aI B key l with
      | bare => show (aB r).length ≤ _; omega
      | leaf _ _ => rw [q] at h1; dsimp only; rw [ef]; omega
      | fork _ _ _ _ => rw [q] at h1; dsimp only; rw [ef]; omega
    · cases q : aI B key r with
      | bare => show (aB l).length ≤ _; omega
      | leaf _ _ => rw [q] at h2; dsimp only; rw [ef]; omega
      | fork _ _ _ _ => rw [q] at h2; dsimp only; rw [ef]; omega
theorem WF.dp {B : Nat} : ∀ {t : Kn Str} {d0 b0 : Nat}, b0 < 2 ^ d0 → WF B d0 b0 t → fN B t ∧ hgt t ≤ B - d0
  | .bare, _, _, _, _ => ⟨trivial, Nat.zero_le _⟩
  | .leaf _ _, _, _, _, _ => ⟨trivial, Nat.zero_le _⟩
  | .fork d b l r, d0, b0, hb, h => by
    obtain ⟨h1, h2, h3, h4, h5⟩ := h
    have hbd : b < 2 ^ d := by
      have e : 2 ^ d = 2 ^ d0 * 2 ^ (d - d0) := by rw [← Nat.pow_add]; congr 1; omega
      rw [e]
      exact (Nat.div_lt_iff_lt_mul (Nat.two_pow_pos _)).mp (by rw [h3]; exact hb)
    have e2 : 2 ^ (d + 1) = 2 * 2 ^ d := by rw [Nat.pow_succ]; omega
    obtain ⟨a1, a2⟩ := WF.dp (t := l) (by omega) h4
    obtain ⟨b1, b2⟩ := WF.dp (t := r) (by omega) h5
    exact ⟨⟨h2, hbd, a1, b1⟩, by show max (hgt l) (hgt r) + 1 ≤ _; omega⟩
theorem WF.szN {B : Nat} : ∀ {t : Kn Str} {d0 b0 : Nat}, WF B d0 b0 t → szN t + 300 ≤ 700 * (aB t).length
  | .bare, _, _, h => h.elim
  | .leaf _ _, _, _, _ => by show 400 + 300 ≤ 700 * 1; omega
  | .fork d b l r, _, _, h => by
    have a := WF.szN h.2.2.2.1
    have b' := WF.szN h.2.2.2.2
    have e : (aB (.fork d b l r)).length = (aB l).length + (aB r).length := List.length_append
    show 300 + Rs.szN l + Rs.szN r + 300 ≤ _
    rw [e]; omega
theorem WFo.dp {B:Nat} {t:Kn Str} (h:WFo B t):fN B t∧hgt t≤B:=by
 rcases h with rfl | h
 · exact ⟨trivial,Nat.zero_le _⟩
 · exact h.dp (by decide)
theorem WFo.szN {B:Nat} {t:Kn Str} (h:WFo B t):szN t≤700*(aB t).length+200:=by
 rcases h with rfl | h
 · exact Nat.le_refl _
 · have:=h.szN;omega
theorem WFo.lt {B:Nat} {t:Kn Str} (h:WFo B t):∀ p∈aB t,p.1<2^B:=by
 rcases h with rfl | h
 · exact fun _ z=>nomatch z
 · exact fun p hp=>(h.mem (Nat.zero_le _) p hp).1
theorem WFo.with {B key:Nat} {z:Str} {t:Kn Str} (h:WFo B t) (hk:key<2^B):WFo B (bR B key z t)∧∀ k,aA B k (bR B key z t)=if k=key then some z else aA B k t:=by
 rcases h with rfl | h
 · exact ⟨.inr ⟨hk,Nat.div_eq_of_lt (by simpa using hk)⟩,fun k=>rfl⟩
 · have e:st B key 0=0:=Nat.div_eq_of_lt (by simpa using hk)
   obtain ⟨a,b⟩:=kE (x:=z) hk (Nat.zero_le _) h e
   exact ⟨.inr a,b⟩
theorem WFo.without {B key:Nat} {t:Kn Str} (h:WFo B t):WFo B (aI B key t)∧∀ k,aA B k (aI B key t)=if k=key then none else aA B k t:=by
 rcases h with rfl | h
 · exact ⟨.inl rfl,fun k=>by show none=_;split <;> rfl⟩
 · exact ia (Nat.zero_le _) h
theorem WFo.up {B:Nat} {t:Kn Str} (h:WFo B t):iq (aB t)∧∀ k,aA B k t=look k (aB t):=by
 rcases h with rfl | h
 · exact ⟨.nil,fun _=>rfl⟩
 · exact ⟨h.up,fun k=>bZ h⟩
theorem jx {B key d b:Nat} {l r:Kn Str}:aI B key (.fork d b l r)=if sd B key d=0 then (if kdK (aI B key l)=0 then r else .fork d b (aI B key l) r) else (if kdK (aI B key r)=0 then l else .fork d b l (aI B key r)):=by
 rw [aI]
 split
 · cases aI B key l <;> rfl
 · cases aI B key r <;> rfl
end Rs
namespace Rs
open PySem PySem.Spec PyProof.Rows L2
variable {K:W.Frag} {mg:Str→Option Value} {A:Adr}
theorem KnQ.le {H:Hp} {f b:Addr} {g:List Key→Option Key} {n c c':Nat} {t:Kn Str} {Q:VK} (h:KnQ A H f b g n c' t Q) (hc:c≤c'):KnQ A H f b g n c t Q:=fun y m g' H' kb k s sub=>h y m g' H' kb k (s.same (by omega) ay.rfl') sub
theorem df {H:Hp} {x dx:Addr} {o u:HO} (hx:H x=none) (hdx:H dx=none) (ne:dx≠x):ay H (upd (upd H dx o) x u):=(ay.upd hdx).trans (ay.upd (by rw [ao (Ne.symm ne)];exact hx))
theorem pI {H:Hp} {x dx f b C:Addr} {g:List Key→Option Key} {n:Nat} {t:Kn Str} {Q:VK} (hx:H x=none) (hdx:H dx=none) (ne:dx≠x) (q:KnQ A H f b g n 1 t Q):InQ A (upd (upd H dx (.own x)) x (.ins C dx [])) x f b g n t (fun v H2=>v=.non∧Q (.ref x) H2):=
 fun m g' H' k kn s sub=>⟨rfl,q x m g' H' (fun z o zb e=>k z o zb (ax e hx) (df hx hdx ne _ _ e)) kn s sub⟩
theorem Ag {H:Hp} {x dx f b:Addr} {g:List Key→Option Key} {n k:Nat} {z:Str} {Q:VK} {E:XK} (hx:H x=none) (hdx:H dx=none) (ne:dx≠x) (s:Stp A H f b g n) (hn:n≤45000) (hk:k<2^60) (hz:eP z) (q:KnQ A H f b g n 1 (.leaf k z) Q):
  iT K A [.ref x,.ref f,.int (k:Int),.str z] (upd (upd H dx (.own x)) x (.ins A.c_Leaf dx [])) (fun v H2=>v=.non∧Q (.ref x) H2) E:=
 ⟨x,dx,f,b,g,n,k,z,rfl,ak,s.same (Nat.le_refl _) (df hx hdx ne),hn,hk,hz,pI hx hdx ne q⟩
theorem zB {H:Hp} {x dx f b:Addr} {g:List Key→Option Key} {n:Nat} {Q:VK} {E:XK} (hx:H x=none) (hdx:H dx=none) (ne:dx≠x) (s:Stp A H f b g n) (hn:n≤45000) (q:KnQ A H f b g n 1 .bare Q):
  mj K A [.ref x,.ref f] (upd (upd H dx (.own x)) x (.ins A.c_Bare dx [])) (fun v H2=>v=.non∧Q (.ref x) H2) E:=
 ⟨x,dx,f,b,g,n,rfl,ak,s.same (Nat.le_refl _) (df hx hdx ne),hn,pI hx hdx ne q⟩
theorem jU {H:Hp} {x dx f b l r:Addr} {g:List Key→Option Key} {n d e:Nat} {tl tr:Kn Str} {ml mr:Key} {Q:VK} {E:XK} (hx:H x=none) (hdx:H dx=none) (ne:dx≠x) (s:Stp A H f b g n) (hn:n≤45000) (hd:d<60) (he:e<2^60) (kl:KnA A H g l tl ml) (kr:KnA A H g r tr mr) (sz:szN tl+szN tr≤90000)
  (q:KnQ A H f b g n 1 (.fork d e tl tr) Q):jy K A [.ref x,.ref f,.int (d:Int),.int (e:Int),.ref l,.ref r] (upd (upd H dx (.own x)) x (.ins A.c_Fork dx [])) (fun v H2=>v=.non∧Q (.ref x) H2) E:=
 have S:=df (o:=.own x) (u:=.ins A.c_Fork dx []) hx hdx ne
 ⟨x,dx,f,b,l,r,g,n,d,e,tl,tr,ml,mr,rfl,ak,s.same (Nat.le_refl _) S,hn,hd,he,kl.same S,kr.same S,sz,pI hx hdx ne q⟩
theorem KnA.fk {H:Hp} {g:List Key→Option Key} {x:Addr} {d b:Nat} {tl tr:Kn Str} {m:Key} (h:KnA A H g x (.fork d b tl tr) m):∃ l r ml mr,hV A H x d b l r∧KnA A H g l tl ml∧KnA A H g r tr mr:=by
 cases h with
 | fork o hl hr _ _ _ _=>exact ⟨_,_,_,_,⟨_,_,_,o⟩,hl,hr⟩
theorem GD (K:W.Frag) (A:Adr):Ln (pG K A) 3:=by rintro vs H Q E ⟨x,l,r,d,b,B,key,rfl,_⟩;rfl
theorem Iy (T:Txt K mg A):Rd (pG K A) (T_8 K A) ["self", "bits", "key"]:=by
 intro vs H Q E h
 obtain ⟨x,l,r,d,b,B,key,rfl,⟨dx,t,m,o⟩,hd,q⟩:=h
 refine ⟨x,_,dx,_,_,rfl,o,T.cl_Fork,T.na_Fork_depth,rfl,_,_,_,rfl,by omega,x,_,dx,_,_,rfl,o,T.cl_Fork,T.na_Fork_begin,rfl,?_⟩
 have e:decide (((st B key d:Nat):Int)=(b:Int))=decide (st B key d=b):=by
  by_cases h:st B key d=b
  · rw [decide_eq_true h,decide_eq_true (by rw [h])]
  · rw [decide_eq_false h,decide_eq_false (by omega)]
 show Q (.bl (decide (bi (B:Int) (key:Int) (d:Int)=(b:Int)))) H
 rw [fK,e];exact q
theorem Hr (K:W.Frag) (A:Adr):Ln (jw K A) 3:=by rintro vs H Q E ⟨x,l,r,d,b,B,key,rfl,_⟩;rfl
theorem IX (T:Txt K mg A):Rd (jw K A) (T_9 K A) ["self", "bits", "key"]:=by
 intro vs H Q E h
 obtain ⟨x,l,r,d,b,B,key,rfl,⟨dx,t,m,o⟩,hd,q⟩:=h
 refine ⟨x,_,dx,_,_,rfl,o,T.cl_Fork,T.na_Fork_depth,rfl,_,_,_,rfl,by omega,by omega,?_⟩
 rw [ju hd]
 refine Sel.dec (fun h=>?_) (fun h=>?_)
 · have h:sd B key d=0:=by have h:((sd B key d:Nat):Int)=0:=h;omega
   rw [if_pos h] at q
   exact ⟨x,_,dx,_,_,rfl,o,T.cl_Fork,T.na_Fork_left,rfl,q⟩
 · have h:¬ sd B key d=0:=by have h:¬ ((sd B key d:Nat):Int)=0:=h;omega
   rw [if_neg h] at q
   exact ⟨x,_,dx,_,_,rfl,o,T.cl_Fork,T.na_Fork_right,rfl,q⟩
theorem GC (K:W.Frag) (A:Adr):Ln (mf K A) 3:=by rintro vs H Q E ⟨x,l,r,d,b,B,key,rfl,_⟩;rfl
theorem Ia (T:Txt K mg A):Rd (mf K A) (T_5 K A) ["self", "bits", "key"]:=by
 intro vs H Q E h
 obtain ⟨x,l,r,d,b,B,key,rfl,⟨dx,t,m,o⟩,hd,q⟩:=h
 refine ⟨x,_,dx,_,_,rfl,o,T.cl_Fork,T.na_Fork_depth,rfl,_,_,_,rfl,by omega,by omega,?_⟩
 rw [ju hd]
 refine Sel.dec (fun h=>?_) (fun h=>?_)
 · have h:sd B key d=0:=by have h:((sd B key d:Nat):Int)=0:=h;omega
   rw [if_pos h] at q
   exact ⟨x,_,dx,_,_,rfl,o,T.cl_Fork,T.na_Fork_right,rfl,q⟩
 · have h:¬ sd B key d=0:=by have h:¬ ((sd B key d:Nat):Int)=0:=h;omega
   rw [if_neg h] at q
   exact ⟨x,_,dx,_,_,rfl,o,T.cl_Fork,T.na_Fork_left,rfl,q⟩
theorem Ho (K:W.Frag) (A:Adr):Ln (mH K A) 3:=by rintro vs H Q E ⟨x,g,t,m,B,key,rfl,_⟩;rfl
theorem AT (K:W.Frag) (A:Adr):Ln (jQ K A) 3:=by rintro vs H Q E ⟨x,g,t,m,B,key,rfl,_⟩;rfl
theorem Fk (K:W.Frag) (A:Adr) (n:Nat):Ln (kX K A n) 3:=by rintro vs H Q E ⟨x,g,t,m,B,key,rfl,_⟩;rfl
theorem CC (K:W.Frag) (A:Adr):∀ vs H Q E,kX K A 0 vs H Q E→False:=by rintro vs H Q E ⟨x,g,t,m,B,key,rfl,_,_,h,_⟩;omega
theorem Kof.b {H:Hp} {g:List Key→Option Key} {x:Addr} {t:Kn Str} {m:Key} (h:Kof A H 0 g x t m):t=.bare:=by
 obtain ⟨k,e⟩:=h;cases t <;> first | rfl | cases e
theorem kd1 {t:Kn Str} (e:kdK t=1):∃ k z,t=.leaf k z:=by cases t <;> first | exact ⟨_,_,rfl⟩ | cases e
theorem kd2 {t:Kn Str} (e:kdK t=2):∃ d b l r,t=.fork d b l r:=by cases t <;> first | exact ⟨_,_,_,_,rfl⟩ | cases e
theorem vM {H:Hp} {g:List Key→Option Key} {x:Addr} {t:Kn Str} {m:Key} {sB sL sF:Sp} (nm:Str) (hn:nm= "found" ∨nm= "rows" ∨nm= "with_key" ∨nm= "without") (h:KnA A H g x t m) (R:Sp→Prop) (q0:kdK t=0→R sB) (q1:kdK t=1→R sL) (q2:kdK t=2→R sF):
  ∃ a C dx fs sp,V.ref x=.ref a∧H a=some (.ins C dx fs)∧(C,sp)∈[(A.c_Bare,sB),(A.c_Leaf,sL),(A.c_Fork,sF)]∧fs.lookup nm=none∧R sp:=by
 obtain ⟨dx,p,fs,o,l⟩:=h.ob
 cases t with
 | bare=>exact ⟨x,_,_,_,sB,rfl,o,List.mem_cons_self,l nm hn,q0 rfl⟩
 | leaf _ _=>exact ⟨x,_,_,_,sL,rfl,o,List.mem_cons_of_mem _ List.mem_cons_self,l nm hn,q1 rfl⟩
 | fork _ _ _ _=>exact ⟨x,_,_,_,sF,rfl,o,List.mem_cons_of_mem _ (List.mem_cons_of_mem _ List.mem_cons_self),l nm hn,q2 rfl⟩
theorem kdh {t:Kn Str} {i:Nat} (e:kdK t=i) (hi:i<2):hgt t<70:=by
 cases t with
 | bare=>show 0<70;decide
 | leaf _ _=>show 0<70;decide
 | fork _ _ _ _=>have:2=i:=e;omega
theorem jz {n:Nat} {H:Hp} {Q:VK} {E:XK} {g:List Key→Option Key} {x:Addr} {t:Kn Str} {m:Key} {B key:Nat} (k:KnA A H g x t m) (dp:fN B t) (hn:hgt t<n) (q:Q (ov (aA B key t)) H):
  ∃ a C dx fs sp,V.ref x=.ref a∧H a=some (.ins C dx fs)∧(C,sp)∈[(A.c_Bare,mH K A),(A.c_Leaf,jQ K A),(A.c_Fork,kX K A n)]∧fs.lookup ("found" :Str)=none∧sp [.ref x,.int (B:Int),.int (key:Int)] H Q E:=
 vM "found" (.inl rfl) k (fun sp=>sp [.ref x,.int (B:Int),.int (key:Int)] H Q E) (fun e=>⟨x,g,t,m,B,key,rfl,⟨k,e⟩,dp,kdh e (by decide),q⟩) (fun e=>⟨x,g,t,m,B,key,rfl,⟨k,e⟩,dp,kdh e (by decide),q⟩) (fun e=>⟨x,g,t,m,B,key,rfl,⟨k,e⟩,dp,hn,q⟩)
theorem Jg (T:Txt K mg A):Rd (mH K A) (T_1 K A) ["self", "bits", "key"]:=by
 intro vs H Q E h
 obtain ⟨x,g,t,m,B,key,rfl,k,_,_,q⟩:=h
 cases k.b
 exact q
theorem Gb (T : Txt K mg A) : Rd (jQ K A) (Ju K A) ["self", "bits", "key"] := by
  intro vs H Q E h
  obtain ⟨x, g, t, m, B, key, rfl, ⟨k, e⟩, _, _, q⟩ := h
  obtain ⟨kk, z, rfl⟩ := kd1 e
  cases k with
  | @leaf _ dx _ _ _ _ o _ _ _ _ _ =>
    refine ⟨x, _, dx, _, _, rfl, o, T.cl_Leaf, T.na_Leaf_key, rfl, Sel.dec (fun h => ?_) (fun h => ?_)⟩
    · have h : key = kk := by have h : (key : Int) = (kk : Int) := h; omega
      have q : Q (ov (if key = kk then some z else none)) H := q
      rw [if_pos h] at q
      exact ⟨x, _, dx, _, _, rfl, o, T.cl_Leaf, T.na_Leaf_text, rfl, q⟩
    · have h : ¬ key = kk := by have h : ¬ (key : Int) = (kk : Int) := h; omega
      have q : Q (ov (if key = kk then some z else none)) H := q
      rw [if_neg h] at q
      exact q
theorem JH (T:Txt K mg A) (n:Nat):Rd (kX K A (n+1)) (T_7 K A n) ["self", "bits", "key"]:=by
 intro vs H Q E h
 obtain ⟨x,g,t,m,B,key,rfl,⟨k,e⟩,dp,hn,q⟩:=h
 obtain ⟨d,b,tl,tr,rfl⟩:=kd2 e
 obtain ⟨l,r,ml,mr,fk,kl,kr⟩:=k.fk
 obtain ⟨dx,p,mm,o⟩:=id fk
 have q:Q (ov (if sd B key d=0 then aA B key tl else aA B key tr)) H:=q
 have hh:max (hgt tl) (hgt tr)+1<n+1:=hn
 refine ⟨x,dx,_,rfl,o,rfl,x,l,r,d,b,B,key,rfl,fk,dp.1,?_⟩
 by_cases hs:sd B key d=0
 · rw [if_pos hs] at q ⊢
   exact jz (n:=n) kl dp.2.2.1 (by omega) q
 · rw [if_neg hs] at q ⊢
   exact jz (n:=n) kr dp.2.2.2 (by omega) q
end Rs
namespace Rs
open PySem PySem.Spec PyProof.Rows L2
variable {K:W.Frag} {mg:Str→Option Value} {A:Adr}
theorem Cs (K:W.Frag) (A:Adr):Ln (lV K A) 5:=by rintro vs H Q E ⟨f,b,x,y,g,n,B,d,key,z,t,m,m',rfl,_⟩;rfl
theorem Ej {B key d:Nat} (h:key<2^B) (hB:B≤60):st B key d<2^60:=by
 have:2^B≤2^60:=Nat.pow_le_pow_right (by decide) hB
 exact Nat.lt_of_le_of_lt (Nat.div_le_self _ _) (Nat.lt_of_lt_of_le h this)
theorem Ew (T:Txt K mg A):Rd (lV K A) (Jt K A) ["stamper", "bits", "depth", "leaf", "knot", "begin"]:=by
 intro vs H Q E h
 obtain ⟨f,b,x,y,g,n,B,d,key,z,t,m,m',rfl,ks,hn,ky,hd,hk,q⟩:=h
 have B60:=ks.B60
 have sz:=ks.sz
 obtain ⟨dy,p,oy⟩:∃ dy p,H y=some (.ins A.c_Leaf dy [("term",.ref p),("mark",kV m'),("key",.int (key:Int)),("text",.str z)]):=by cases ky with | leaf o _ _ _ _ _=>exact ⟨_,_,o⟩
 refine ⟨y,_,dy,_,_,rfl,oy,T.cl_Leaf,T.na_Leaf_key,rfl,_,_,_,rfl,by omega,y,_,dy,_,_,rfl,oy,T.cl_Leaf,T.na_Leaf_key,rfl,_,_,_,rfl,by omega,by omega,?_⟩
 rw [ju hd,fK]
 unfold dI at q
 refine Sel.dec (fun h=>?_) (fun h=>?_)
 · have h:sd B key d=0:=by have h:((sd B key d:Nat):Int)=0:=h;omega
   rw [if_pos h] at q
   intro x' dx' hx hdx ne
   exact jU hx hdx ne ks.s hn (by omega) (Ej hk B60) ky ks.k (by show 400+_≤_;omega) q
 · have h:¬ sd B key d=0:=by have h:¬ ((sd B key d:Nat):Int)=0:=h;omega
   rw [if_neg h] at q
   intro x' dx' hx hdx ne
   exact jU hx hdx ne ks.s hn (by omega) (Ej hk B60) ks.k ky (by show _+400≤_;omega) q
theorem Gv (K:W.Frag) (A:Adr):Ln (oY K A) 5:=by rintro vs H Q E ⟨x,f,b,l,r,y,g,n,B,d,e,key,tl,tr,t,m,ml,mr,rfl,_⟩;rfl
theorem IR (T:Txt K mg A):Rd (oY K A) (T_6 K A) ["self", "stamper", "bits", "key", "knot"]:=by
 intro vs H Q E h
 obtain ⟨x,f,b,l,r,y,g,n,B,d,e,key,tl,tr,t,m,ml,mr,rfl,⟨dx,p,mm,o⟩,kl,kr,ky,s,hn,hd,B60,e60,sz,q⟩:=h
 refine ⟨x,_,dx,_,_,rfl,o,T.cl_Fork,T.na_Fork_depth,rfl,_,_,_,rfl,by omega,by omega,?_⟩
 rw [ju hd]
 refine Sel.dec (fun h=>?_) (fun h=>?_)
 · have h:sd B key d=0:=by have h:((sd B key d:Nat):Int)=0:=h;omega
   rw [if_pos h] at q sz
   refine ⟨x,_,dx,_,_,rfl,o,T.cl_Fork,T.na_Fork_depth,rfl,x,_,dx,_,_,rfl,o,T.cl_Fork,T.na_Fork_begin,rfl,x,_,dx,_,_,rfl,o,T.cl_Fork,T.na_Fork_right,rfl,fun x' dx' hx hdx ne=>?_⟩
   exact jU hx hdx ne s hn (by omega) e60 ky kr (by omega) q
 · have h:¬ sd B key d=0:=by have h:¬ ((sd B key d:Nat):Int)=0:=h;omega
   rw [if_neg h] at q sz
   refine ⟨x,_,dx,_,_,rfl,o,T.cl_Fork,T.na_Fork_depth,rfl,x,_,dx,_,_,rfl,o,T.cl_Fork,T.na_Fork_begin,rfl,x,_,dx,_,_,rfl,o,T.cl_Fork,T.na_Fork_left,rfl,fun x' dx' hx hdx ne=>?_⟩
   exact jU hx hdx ne s hn (by omega) e60 kl ky (by omega) q
theorem mx {H H':Hp} {x dx b:Addr} {o u:HO} (hx:H x=none) (hdx:H dx=none) (ne:dx≠x) (k:gX b x (upd (upd H dx o) x u) H'):aW b H H':=fun z o zb e=>k z o zb (ax e hx) (df hx hdx ne _ _ e)
theorem Hc (K:W.Frag) (A:Adr):Ln (ms K A) 5:=by rintro vs H Q E ⟨x,f,b,g,n,B,key,z,t,m,rfl,_⟩;rfl
theorem DZ (K:W.Frag) (A:Adr):Ln (jP K A) 5:=by rintro vs H Q E ⟨x,f,b,g,n,B,key,z,t,m,rfl,_⟩;rfl
theorem BG (K:W.Frag) (A:Adr) (j:Nat):∀ vs H Q E,ja K A j vs H Q E→vs.length=5:=by rintro vs H Q E ⟨x,f,b,g,n,B,key,z,t,m,rfl,_⟩;rfl
theorem yJ (K:W.Frag) (A:Adr):∀ vs H Q E,ja K A 0 vs H Q E→False:=by rintro vs H Q E ⟨x,f,b,g,n,B,key,z,t,m,rfl,_,_,_,_,_,_,h,_⟩;omega
theorem rG {B key:Nat} (h:key<2^B) (hB:B≤60):key<2^60:=Nat.lt_of_lt_of_le h (Nat.pow_le_pow_right (by decide) hB)
theorem Iz (T:Txt K mg A):Rd (ms K A) (T_2 K A) ["self", "stamper", "bits", "key", "value"]:=by
 intro vs H Q E h
 obtain ⟨x,f,b,g,n,B,key,z,t,m,rfl,ks,e,hn,_,hk,hz,_,_,q⟩:=h
 cases (Kof.b (A:=A) ⟨ks.k,e⟩)
 intro x' dx' hx hdx ne
 exact Ag hx hdx ne ks.s (by omega) (rG hk ks.B60) hz (q.le (by show 1≤0+2;decide))
theorem KnQ.after {H H1:Hp} {f b:Addr} {g g1:List Key→Option Key} {n c c1:Nat} {t:Kn Str} {Q:VK} (q:KnQ A H f b g n (c1+c) t Q) (kb:aW b H H1) (sub:Sub g g1):KnQ A H1 f b g1 (n+c1) c t Q:=fun y m g' H' kb' k s sub'=>q y m g' H' (kb.trans kb') k (s.same (by omega) ay.rfl') (sub.trans sub')
theorem HN (T:Txt K mg A):Rd (jP K A) (Ib K A) ["self", "stamper", "bits", "key", "value", "leaf"]:=by
 intro vs H Q E h
 obtain ⟨x,f,b,g,n,B,key,z,t,m,rfl,ks,e,hn,hr,hk,hz,_,_,q⟩:=h
 obtain ⟨kk,z',rfl⟩:=kd1 e
 have hkk:kk<2^B:=hr (kk,z') List.mem_cons_self
 intro y dx' hx hdx ne
 refine ⟨y,dx',f,b,g,n,key,z,rfl,ak,ks.s.same (Nat.le_refl _) (df hx hdx ne),by omega,rG hk ks.B60,hz,fun m' g1 H1 k2 ky s1 sub=>⟨rfl,?_⟩⟩
 have kb:=mx hx hdx ne k2
 have kx:=ks.k.kb ks.s kb sub
 obtain ⟨dy,p,oy⟩:∃ dy p,H1 x=some (.ins A.c_Leaf dy [("term",.ref p),("mark",kV m),("key",.int (kk:Int)),("text",.str z')]):=by cases kx with | leaf o _ _ _ _ _=>exact ⟨_,_,o⟩
 refine ⟨x,_,dy,_,_,rfl,oy,T.cl_Leaf,T.na_Leaf_key,rfl,Sel.dec (fun h=>?_) (fun h=>?_)⟩
 · have h:key=kk:=by have h:(key:Int)=(kk:Int):=h;omega
   have q:KnQ A H f b g n (0+2) (if key=kk then .leaf key z else dI B (al B key kk) key z (.leaf kk z')) Q:=q
   rw [if_pos h] at q
   exact q y m' g1 H1 kb ky (s1.same (by omega) ay.rfl') sub
 · have h:¬ key=kk:=by have h:¬ (key:Int)=(kk:Int):=h;omega
   have q:KnQ A H f b g n (0+2) (if key=kk then .leaf key z else dI B (al B key kk) key z (.leaf kk z')) Q:=q
   rw [if_neg h] at q
   obtain ⟨a1,_,_⟩:=ou hk hkk h
   refine ⟨x,_,dy,_,_,rfl,oy,T.cl_Leaf,T.na_Leaf_key,rfl,B,key,kk,al B key kk,rfl,hk,hkk,jm hk hkk,f,b,x,y,g1,n+1,B,al B key kk,key,z,.leaf kk z',m,m',rfl,⟨kx,s1,ks.B60,trivial,by show 1≤100;decide,by show 400≤80000;decide⟩,by omega,ky,a1,hk,?_⟩
   exact KnQ.after (c1:=1) (c:=1) q kb sub
end Rs
namespace Rs
open PySem PySem.Spec PyProof.Rows L2
variable {K:W.Frag} {mg:Str→Option Value} {A:Adr}
theorem kZ {j:Nat} {H:Hp} {Q:VK} {E:XK} {f b x:Addr} {g:List Key→Option Key} {n B key:Nat} {z:Str} {t:Kn Str} {m:Key} (ks:KnS A H f b g n B x t m) (hn:n+hgt t+10≤45000) (hr:∀ p∈aB t,p.1<2^B) (hk:key<2^B) (hz:eP z) (hj:hgt t<j) (sz:szN t≤70000)
  (q:KnQ A H f b g n (hgt t+2) (bR B key z t) Q):
  ∃ a C dx fs sp,V.ref x=.ref a∧H a=some (.ins C dx fs)∧(C,sp)∈[(A.c_Bare,ms K A),(A.c_Leaf,jP K A),(A.c_Fork,ja K A j)]∧fs.lookup ("with_key" :Str)=none∧sp [.ref x,.ref f,.int (B:Int),.int (key:Int),.str z] H Q E:=
 vM "with_key" (.inr (.inr (.inl rfl))) ks.k (fun sp=>sp [.ref x,.ref f,.int (B:Int),.int (key:Int),.str z] H Q E) (fun e=>⟨x,f,b,g,n,B,key,z,t,m,rfl,ks,e,hn,hr,hk,hz,kdh e (by decide),sz,q⟩)
  (fun e=>⟨x,f,b,g,n,B,key,z,t,m,rfl,ks,e,hn,hr,hk,hz,kdh e (by decide),sz,q⟩) (fun e=>⟨x,f,b,g,n,B,key,z,t,m,rfl,ks,e,hn,hr,hk,hz,hj,sz,q⟩)
theorem KnS.side {H:Hp} {f b x y:Addr} {g:List Key→Option Key} {n B d e:Nat} {tl tr t:Kn Str} {m m':Key} (h:KnS A H f b g n B x (.fork d e tl tr) m) (k:KnA A H g y t m') (ht:t=tl∨t=tr):KnS A H f b g n B y t m'∧szN t≤szN (.fork d e tl tr)∧hgt t+1≤hgt (.fork d e tl tr)∧∀ p∈aB t,p∈aB (.fork d e tl tr):=by
 have e1:szN (.fork d e tl tr)=300+szN tl+szN tr:=rfl
 have e2:(aB (.fork d e tl tr)).length=(aB tl).length+(aB tr).length:=List.length_append
 have e3:hgt (.fork d e tl tr)=max (hgt tl) (hgt tr)+1:=rfl
 have ln:=h.ln
 have sz:=h.sz
 rcases ht with rfl | rfl
 · exact ⟨⟨k,h.s,h.B60,h.dp.2.2.1,by omega,by omega⟩,by omega,by omega,fun p hp=>List.mem_append_left _ hp⟩
 · exact ⟨⟨k,h.s,h.B60,h.dp.2.2.2,by omega,by omega⟩,by omega,by omega,fun p hp=>List.mem_append_right _ hp⟩
theorem hV.keep {H H':Hp} {x:Addr} {d b:Nat} {l r:Addr} (h:hV A H x d b l r) (k:∀ z o,H z=some o→knO o→H' z=some o):hV A H' x d b l r:=by
 obtain ⟨dx,t,m,o⟩:=h
 exact ⟨dx,t,m,k _ _ o (.inr ⟨_,_,_,_,_,rfl⟩)⟩
theorem Hw (T:Txt K mg A) (j:Nat) (vs:List V) (H:Hp) (Q:VK) (E:XK) (h:ja K A (j+1) vs H Q E):Ie K A j { nx:=fun _ H'=>Q .non H',rt:=Q } (L2.cp ["self", "stamper", "bits", "key", "value", "depth"] vs) H:=by
 obtain ⟨x,f,b,g,n,B,key,z,t,m,rfl,ks,e,hn,hr,hk,hz,hj,sz,q⟩:=h
 obtain ⟨d,bb,tl,tr,rfl⟩:=kd2 e
 obtain ⟨l,r,ml,mr,fk,kl,kr⟩:=ks.k.fk
 obtain ⟨dx,p,mm,o⟩:=id fk
 have dp:=ks.dp
 have B60:=ks.B60
 have b60:bb<2^60:=Nat.lt_of_lt_of_le dp.2.1 (Nat.pow_le_pow_right (by decide) (by have:=dp.1;omega))
 have q:KnQ A H f b g n (hgt (.fork d bb tl tr)+2) (if st B key d=bb then (if sd B key d=0 then .fork d bb (bR B key z tl) tr else .fork d bb tl (bR B key z tr)) else dI B (al d bb (st B key d)) key z (.fork d bb tl tr)) Q:=q
 refine ⟨x,dx,_,rfl,o,rfl,x,l,r,d,bb,B,key,rfl,fk,dp.1,?_⟩
 by_cases hb:st B key d=bb
 · rw [if_pos hb] at q
   rw [decide_eq_true hb]
   refine Sel.no rfl ⟨x,dx,_,rfl,o,rfl,x,dx,_,rfl,o,rfl,x,l,r,d,bb,B,key,rfl,fk,dp.1,?_⟩
   by_cases hs:sd B key d=0
   · rw [if_pos hs] at q ⊢
     obtain ⟨k1,k2,k3,k4⟩:=ks.side kl (.inl rfl)
     refine kZ (j:=j) k1 (by omega) (fun p hp=>hr p (k4 p hp)) hk hz (by omega) (by omega) fun y m1 g1 H1 kb ky s1 sub=>?_
     have kn:=aW.kn ks.s kb
     have s2:=iY (B:=B) (key:=key) (z:=z) tl
     have s3:szN (.fork d bb tl tr)=300+szN tl+szN tr:=rfl
     refine ⟨x,f,b,l,r,y,g1,n+(hgt tl+2),B,d,bb,key,tl,tr,bR B key z tl,m1,ml,mr,rfl,fk.keep kn,kl.keep kn sub,kr.keep kn sub,ky,s1,by omega,dp.1,B60,b60,by rw [if_pos hs];omega,?_⟩
     rw [if_pos hs]
     exact KnQ.after (c1:=hgt tl+2) (c:=1) (q.le (by omega)) kb sub
   · rw [if_neg hs] at q ⊢
     obtain ⟨k1,k2,k3,k4⟩:=ks.side kr (.inr rfl)
     refine kZ (j:=j) k1 (by omega) (fun p hp=>hr p (k4 p hp)) hk hz (by omega) (by omega) fun y m1 g1 H1 kb ky s1 sub=>?_
     have kn:=aW.kn ks.s kb
     have s2:=iY (B:=B) (key:=key) (z:=z) tr
     have s3:szN (.fork d bb tl tr)=300+szN tl+szN tr:=rfl
     refine ⟨x,f,b,l,r,y,g1,n+(hgt tr+2),B,d,bb,key,tl,tr,bR B key z tr,m1,ml,mr,rfl,fk.keep kn,kl.keep kn sub,kr.keep kn sub,ky,s1,by omega,dp.1,B60,b60,by rw [if_neg hs];omega,?_⟩
     rw [if_neg hs]
     exact KnQ.after (c1:=hgt tr+2) (c:=1) (q.le (by omega)) kb sub
 · rw [if_neg hb] at q
   rw [decide_eq_false hb]
   refine Sel.yes rfl ⟨x,_,dx,_,_,rfl,o,T.cl_Fork,T.na_Fork_depth,rfl,x,_,dx,_,_,rfl,o,T.cl_Fork,T.na_Fork_begin,rfl,x,_,dx,_,_,rfl,o,T.cl_Fork,T.na_Fork_depth,rfl,_,_,_,rfl,by have:=dp.1;omega,?_⟩
   rw [fK]
   have hst:st B key d<2^d:=by
     have e:2^B=2^d*2^(B - d):=by rw [← Nat.pow_add];congr 1;have:=dp.1;omega
     exact (Nat.div_lt_iff_lt_mul (Nat.two_pow_pos _)).mpr (by rw [← e];exact hk)
   obtain ⟨a1,_,_⟩:=ou dp.2.1 hst (Ne.symm hb)
   refine ⟨d,bb,st B key d,al d bb (st B key d),rfl,dp.2.1,hst,jm dp.2.1 hst,fun y dy hy hdy ne=>?_⟩
   refine ⟨y,dy,f,b,g,n,key,z,rfl,ak,ks.s.same (Nat.le_refl _) (df hy hdy ne),by omega,rG hk B60,hz,fun m' g1 H1 k2 ky s1 sub=>⟨rfl,?_⟩⟩
   have kb:=mx hy hdy ne k2
   refine ⟨f,b,x,y,g1,n+1,B,al d bb (st B key d),key,z,.fork d bb tl tr,m,m',rfl,⟨ks.k.kb ks.s kb sub,s1,B60,dp,ks.ln,ks.sz⟩,by omega,ky,by have:=dp.1;omega,hk,?_⟩
   exact KnQ.after (c1:=1) (c:=1) (q.le (by omega)) kb sub
theorem EJ (K:W.Frag) (A:Adr):Ln (mP K A) 4:=by rintro vs H Q E ⟨x,f,b,g,n,B,key,t,m,rfl,_⟩;rfl
theorem AG (K:W.Frag) (A:Adr):Ln (jS K A) 4:=by rintro vs H Q E ⟨x,f,b,g,n,B,key,t,m,rfl,_⟩;rfl
theorem AS (K:W.Frag) (A:Adr) (j:Nat):∀ vs H Q E,iX K A j vs H Q E→vs.length=4:=by rintro vs H Q E ⟨x,f,b,g,n,B,key,t,m,rfl,_⟩;rfl
theorem yh (K:W.Frag) (A:Adr):∀ vs H Q E,iX K A 0 vs H Q E→False:=by rintro vs H Q E ⟨x,f,b,g,n,B,key,t,m,rfl,_,_,_,h,_⟩;omega
theorem IW (T:Txt K mg A):Rd (mP K A) (T_3 K A) ["self", "stamper", "bits", "key"]:=by
 intro vs H Q E h
 obtain ⟨x,f,b,g,n,B,key,t,m,rfl,ks,e,hn,hj,q⟩:=h
 cases (Kof.b (A:=A) ⟨ks.k,e⟩)
 exact q x m g H aW.rfl' ks.k (ks.s.same (by omega) ay.rfl') Sub.rfl'
theorem HM (T:Txt K mg A):Rd (jS K A) (Il K A) ["self", "stamper", "bits", "key"]:=by
 intro vs H Q E h
 obtain ⟨x,f,b,g,n,B,key,t,m,rfl,ks,e,hn,hj,q⟩:=h
 obtain ⟨kk,z',rfl⟩:=kd1 e
 obtain ⟨dy,p,oy⟩:∃ dy p,H x=some (.ins A.c_Leaf dy [("term",.ref p),("mark",kV m),("key",.int (kk:Int)),("text",.str z')]):=by cases ks.k with | leaf o _ _ _ _ _=>exact ⟨_,_,o⟩
 have q:KnQ A H f b g n (0+1) (if key=kk then .bare else .leaf kk z') Q:=q
 refine ⟨x,_,dy,_,_,rfl,oy,T.cl_Leaf,T.na_Leaf_key,rfl,Sel.dec (fun h=>?_) (fun h=>?_)⟩
 · have h:key=kk:=by have h:(key:Int)=(kk:Int):=h;omega
   rw [if_pos h] at q
   intro x' dx' hx hdx ne
   exact zB hx hdx ne ks.s (by omega) q
 · have h:¬ key=kk:=by have h:¬ (key:Int)=(kk:Int):=h;omega
   rw [if_neg h] at q
   exact q x m g H aW.rfl' ks.k (ks.s.same (by omega) ay.rfl') Sub.rfl'
theorem ib {j:Nat} {H:Hp} {Q:VK} {E:XK} {f b x:Addr} {g:List Key→Option Key} {n B key:Nat} {t:Kn Str} {m:Key} (ks:KnS A H f b g n B x t m) (hn:n+hgt t+10≤45000) (hj:hgt t<j) (q:KnQ A H f b g n (hgt t+1) (aI B key t) Q):
  ∃ a C dx fs sp,V.ref x=.ref a∧H a=some (.ins C dx fs)∧(C,sp)∈[(A.c_Bare,mP K A),(A.c_Leaf,jS K A),(A.c_Fork,iX K A j)]∧fs.lookup ("without" :Str)=none∧sp [.ref x,.ref f,.int (B:Int),.int (key:Int)] H Q E:=
 vM "without" (.inr (.inr (.inr rfl))) ks.k (fun sp=>sp [.ref x,.ref f,.int (B:Int),.int (key:Int)] H Q E) (fun e=>⟨x,f,b,g,n,B,key,t,m,rfl,ks,e,hn,kdh e (by decide),q⟩)
  (fun e=>⟨x,f,b,g,n,B,key,t,m,rfl,ks,e,hn,kdh e (by decide),q⟩) (fun e=>⟨x,f,b,g,n,B,key,t,m,rfl,ks,e,hn,hj,q⟩)
theorem tU {H:Hp} {g:List Key→Option Key} {x:Addr} {t:Kn Str} {m:Key} (T:Txt K mg A) (k:KnA A H g x t m):∃ C dx fs,H x=some (.ins C dx fs)∧Cls K C∧jL K C∧W.kitOne K (.ref C) (.ref A.c_Bare)=some (decide (kdK t=0)):=by
 obtain ⟨dx,p,fs,o,_⟩:=k.ob
 cases t with
 | bare=>exact ⟨_,dx,_,o,T.cl_Bare,T.oi_Bare,T.ko_Bare_Bare⟩
 | leaf _ _=>exact ⟨_,dx,_,o,T.cl_Leaf,T.oi_Leaf,T.ko_Leaf_Bare⟩
 | fork _ _ _ _=>exact ⟨_,dx,_,o,T.cl_Fork,T.oi_Fork,T.ko_Fork_Bare⟩
theorem Hk (T:Txt K mg A) (j:Nat) (vs:List V) (H:Hp) (Q:VK) (E:XK) (h:iX K A (j+1) vs H Q E):Jm K A j { nx:=fun _ H'=>Q .non H',rt:=Q } (L2.cp ["self", "stamper", "bits", "key", "rest"] vs) H:=by
 obtain ⟨x,f,b,g,n,B,key,t,m,rfl,ks,e,hn,hj,q⟩:=h
 obtain ⟨d,bb,tl,tr,rfl⟩:=kd2 e
 obtain ⟨l,r,ml,mr,fk,kl,kr⟩:=ks.k.fk
 obtain ⟨dx,p,mm,o⟩:=id fk
 have dp:=ks.dp
 have B60:=ks.B60
 have sz:=ks.sz
 have b60:bb<2^60:=Nat.lt_of_lt_of_le dp.2.1 (Nat.pow_le_pow_right (by decide) (by have:=dp.1;omega))
 have s3:szN (.fork d bb tl tr)=300+szN tl+szN tr:=rfl
 refine ⟨x,dx,_,rfl,o,rfl,x,l,r,d,bb,B,key,rfl,fk,dp.1,?_⟩
 by_cases hs:sd B key d=0
 · rw [if_pos hs]
   obtain ⟨k1,k2,k3,k4⟩:=ks.side kl (.inl rfl)
   refine ib (j:=j) k1 (by omega) (by omega) fun y m1 g1 H1 kb ky s1 sub=>?_
   have kn:=aW.kn ks.s kb
   have s2:=fF (B:=B) (key:=key) tl
   have fk1:=fk.keep kn
   obtain ⟨dx1,p1,mm1,o1⟩:=id fk1
   obtain ⟨C,dz,fz,oz,c1,c2,c3⟩:=tU T ky
   refine ⟨y,C,dz,fz,_,_,rfl,oz,c1,c2,c3,?_⟩
   rw [jx] at q
   rw [if_pos hs] at q
   by_cases hbr:kdK (aI B key tl)=0
   · rw [if_pos hbr] at q
     rw [decide_eq_true hbr]
     refine Sel.yes rfl ⟨x,dx1,_,rfl,o1,rfl,x,l,r,d,bb,B,key,rfl,fk1,dp.1,?_⟩
     rw [if_pos hs]
     exact q r mr g1 H1 kb (kr.keep kn sub) (s1.same (by omega) ay.rfl') sub
   · rw [if_neg hbr] at q
     rw [decide_eq_false hbr]
     refine Sel.no rfl ⟨x,dx1,_,rfl,o1,rfl,x,f,b,l,r,y,g1,n+(hgt tl+1),B,d,bb,key,tl,tr,aI B key tl,m1,ml,mr,rfl,fk1,kl.keep kn sub,kr.keep kn sub,ky,s1,by omega,dp.1,B60,b60,by rw [if_pos hs];omega,?_⟩
     rw [if_pos hs]
     exact KnQ.after (c1:=hgt tl+1) (c:=1) (q.le (by omega)) kb sub
 · rw [if_neg hs]
   obtain ⟨k1,k2,k3,k4⟩:=ks.side kr (.inr rfl)
   refine ib (j:=j) k1 (by omega) (by omega) fun y m1 g1 H1 kb ky s1 sub=>?_
   have kn:=aW.kn ks.s kb
   have s2:=fF (B:=B) (key:=key) tr
   have fk1:=fk.keep kn
   obtain ⟨dx1,p1,mm1,o1⟩:=id fk1
   obtain ⟨C,dz,fz,oz,c1,c2,c3⟩:=tU T ky
   refine ⟨y,C,dz,fz,_,_,rfl,oz,c1,c2,c3,?_⟩
   rw [jx] at q
   rw [if_neg hs] at q
   by_cases hbr:kdK (aI B key tr)=0
   · rw [if_pos hbr] at q
     rw [decide_eq_true hbr]
     refine Sel.yes rfl ⟨x,dx1,_,rfl,o1,rfl,x,l,r,d,bb,B,key,rfl,fk1,dp.1,?_⟩
     rw [if_neg hs]
     exact q l ml g1 H1 kb (kl.keep kn sub) (s1.same (by omega) ay.rfl') sub
   · rw [if_neg hbr] at q
     rw [decide_eq_false hbr]
     refine Sel.no rfl ⟨x,dx1,_,rfl,o1,rfl,x,f,b,l,r,y,g1,n+(hgt tr+1),B,d,bb,key,tl,tr,aI B key tr,m1,ml,mr,rfl,fk1,kl.keep kn sub,kr.keep kn sub,ky,s1,by omega,dp.1,B60,b60,by rw [if_neg hs];omega,?_⟩
     rw [if_neg hs]
     exact KnQ.after (c1:=hgt tr+1) (c:=1) (q.le (by omega)) kb sub
end Rs
namespace Rs
open PySem PySem.Spec PyProof.Rows L2
variable {K:W.Frag} {mg:Str→Option Value} {A:Adr}
theorem jC {σ:L2.St} {H:Hp} {t:TA} {x:Addr} {nm:Str} {L:List (Addr×Sp)} {Q:VK} {E:XK} (vs:List V) (ht:∀ R:List V→Hp→Prop,R vs H→t σ H R) (h:∃ a C dx fs sp,V.ref x=.ref a∧H a=some (.ins C dx fs)∧(C,sp)∈L∧fs.lookup nm=none∧sp (.ref x::vs) H Q E):
  ∃ a C dx fs sp,V.ref x=.ref a∧H a=some (.ins C dx fs)∧(C,sp)∈L∧fs.lookup nm=none∧t σ H fun ws H2=>sp (.ref x::ws) H2 Q E:=by
 obtain ⟨a,C,dx,fs,sp,e,o,m,l,q⟩:=h
 exact ⟨a,C,dx,fs,sp,e,o,m,l,ht _ q⟩
theorem Dk (K:W.Frag) (A:Adr):Ln (iP K A) 3:=by rintro vs H Q E ⟨x,dx,f,b,g,n,v,d,rfl,_⟩;rfl
theorem wv {d:Dat} (h:fB d=true):∃ B:Nat,d=.int (B:Int)∧1≤B∧B≤60:=by
 cases d <;> first | cases h | skip
 rename_i i
 have h:1≤i∧i≤60:=of_decide_eq_true h
 obtain ⟨y,hy⟩:=Int.eq_ofNat_of_zero_le (a:=i) (by omega)
 exact ⟨y,by rw [hy],by omega,by omega⟩
theorem qX {B:Nat} {d:Dat} (h:cY (B:Int) d=true):∃ k:Nat,d=.int (k:Int)∧k<2^B:=by
 cases d <;> first | cases h | skip
 rename_i i
 have h:0≤i∧i<2^(B:Int).toNat:=of_decide_eq_true h
 obtain ⟨y,hy⟩:=Int.eq_ofNat_of_zero_le (a:=i) h.1
 refine ⟨y,by rw [hy],?_⟩
 have h2:=h.2
 rw [hy,show (B:Int).toNat=B by omega,←eh] at h2
 omega
theorem Ab {d:Dat} (ok:okD d=true) (h:cT d=true):∃ z,d=.str z∧eP z:=by
 cases d <;> first | cases h | skip
 rename_i z
 exact ⟨z,rfl,(Bool.and_eq_true_iff.mp ok).1,of_decide_eq_true h⟩
theorem aY.int_inv {H:Hp} {v:V} {i:Int} (h:aY H v (.int i)):v=.int i:=by cases h;rfl
theorem aY.str_inv {H:Hp} {v:V} {z:Str} (h:aY H v (.str z)):v=.str z:=by cases h;rfl
theorem Hj (T : Txt K mg A) : Rd (iP K A) (Ih K A) ["self", "stamper", "bits"] := by
  intro vs H Q E h
  obtain ⟨x, dx, f, b, g, n, v, d, rfl, hx, hd, s, hn, qE, q⟩ := h
  refine ⟨v, d, rfl, hd, ?_⟩
  cases hb : fB d with
  | false => exact Sel.yes rfl (qE hb)
  | true =>
    obtain ⟨B, rfl, B1, B60⟩ := wv hb
    cases hd.int_inv
    have q := q B rfl B1 B60
    refine Sel.no rfl ⟨x, A.c_Table, dx, [], rfl, hx, T.cl_Table, T.na_Table_stamper, by decide, ?_⟩
    refine ⟨x, A.c_Table, dx, _, rfl, ak, T.cl_Table, T.na_Table_bits, by show 1 < 1000; decide, ?_⟩
    rw [eT]
    have e2 : cw "bits" (.int (B : Int)) (cw "stamper" (.ref f) []) = ([("stamper", .ref f), ("bits", .int (B : Int))] : List (Str × V)) := rfl
    rw [e2]
    have hx1 : upd H x (.ins A.c_Table dx [("stamper", .ref f), ("bits", .int (B : Int))]) x = some (.ins A.c_Table dx [("stamper", .ref f), ("bits", .int (B : Int))]) := ak
    have s1 : Stp A (upd H x (.ins A.c_Table dx [("stamper", .ref f), ("bits", .int (B : Int))])) f b g n := s.put (Nat.le_refl _) hx fun v z => nomatch z
    intro y dy hy hdy ne
    refine ⟨y, dy, f, b, g, n, rfl, ak, s1.same (Nat.le_refl _) (df hy hdy ne), hn, fun m g1 H1 k2 ky s2 sub => ⟨rfl, ?_⟩⟩
    have kb := mx hy hdy ne k2
    have hx2 := kb _ _ (s1.nb hx1 fun _ z => nomatch z) hx1
    refine ⟨x, A.c_Table, dx, _, rfl, hx2, T.cl_Table, T.na_Table_top, by show 2 < 1000; decide, ?_⟩
    have e3 : cw "top" (.ref y) ([("stamper", .ref f), ("bits", .int (B : Int))] : List (Str × V)) = ([("stamper", .ref f), ("bits", .int (B : Int)), ("top", .ref y)] : List (Str × V)) := rfl
    rw [e3]
    have ky' : ∀ z u, H1 z = some u → knO u → upd H1 x (.ins A.c_Table dx [("stamper", .ref f), ("bits", .int (B : Int)), ("top", .ref y)]) z = some u := fun z u ez hu => by
      rw [ao (fun q => by subst q; rw [hx2] at ez; cases ez; exact hu.tab)]; exact ez
    refine q m g1 _ (fun z o zb zx e => by rw [ao zx]; exact kb z o zb (by rw [ao zx]; exact e)) ⟨⟨dx, y, ak, ky.keep ky' Sub.rfl'⟩, B1, B60, .inl rfl⟩ (s2.put (Nat.le_refl _) hx2 fun v z => ?_) sub
    injection z with z; injection z with z; exact absurd z (by decide)
theorem Du (K:W.Frag) (A:Adr):Ln (lU K A) 2:=by rintro vs H Q E ⟨x,f,g,B,t,m,v,d,rfl,_⟩;rfl
theorem Gc (T : Txt K mg A) : Rd (lU K A) (JC K A) ["self", "key"] := by
  intro vs H Q E h
  obtain ⟨x, f, g, B, t, m, v, d, rfl, ta, hd, qE, q⟩ := h
  obtain ⟨dx, y, o, ky⟩ := ta.ob
  have B60 := ta.B60
  refine ⟨x, _, dx, _, _, rfl, o, T.cl_Table, T.na_Table_bits, rfl, (B : Int), v, d, rfl, by omega, by omega, hd, ?_⟩
  cases hb : cY (B : Int) d with
  | false => exact Sel.yes rfl (qE hb)
  | true =>
    obtain ⟨key, rfl, hk⟩ := qX hb
    cases hd.int_inv
    refine Sel.no rfl ⟨x, _, dx, _, _, rfl, o, T.cl_Table, T.na_Table_top, rfl, ?_⟩
    exact jC [.int (B : Int), .int (key : Int)] (fun R r => ⟨x, _, dx, _, _, rfl, o, T.cl_Table, T.na_Table_bits, rfl, r⟩) (jz ky ta.wf.dp.1 (by have := ta.wf.dp.2; omega) (q key rfl hk))
theorem Bi (K:W.Frag) (A:Adr):Ln (gN K A) 1:=by rintro vs H Q E ⟨x,f,g,B,t,m,rfl,_⟩;rfl
theorem Hd (T:Txt K mg A):Rd (gN K A) (Jh K A) ["self"]:=by
 intro vs H Q E h
 obtain ⟨x,f,g,B,t,m,rfl,ta,q⟩:=h
 obtain ⟨dx,y,o,ky⟩:=ta.ob
 obtain ⟨dy,p,fs,oy,_⟩:=ky.ob
 exact ⟨x,_,dx,_,_,rfl,o,T.cl_Table,T.na_Table_top,rfl,y,_,dy,_,_,rfl,oy,(dF T t).1,(dF T t).2.1,rfl,q⟩
theorem DY (K:W.Frag) (A:Adr):Ln (lY K A) 3:=by rintro vs H Q E ⟨x,f,b,g,n,B,t,m,v,w,d,e,rfl,_⟩;rfl
theorem TbA.top {H H1:Hp} {g g1:List Key→Option Key} {x f b y:Addr} {B n n1:Nat} {t':Kn Str} {m':Key} {dx:Addr} {y0:Addr} (o:H x=some (.ins A.c_Table dx [("stamper",.ref f),("bits",.int (B:Int)),("top",.ref y0)])) (s:Stp A H f b g n) (kb:aW b H H1) (ky:KnA A H1 g1 y t' m') (s1:Stp A H1 f b g1 n1) (B1:1≤B) (B60:B≤60) (wf:WFo B t'):
  H1 x=some (.ins A.c_Table dx [("stamper",.ref f),("bits",.int (B:Int)),("top",.ref y0)])∧gX b x H (upd H1 x (.ins A.c_Table dx [("stamper",.ref f),("bits",.int (B:Int)),("top",.ref y)]))∧TbA A (upd H1 x (.ins A.c_Table dx [("stamper",.ref f),("bits",.int (B:Int)),("top",.ref y)])) g1 x f B t' m'∧Stp A (upd H1 x (.ins A.c_Table dx [("stamper",.ref f),("bits",.int (B:Int)),("top",.ref y)])) f b g1 n1:=by
 have hx2:=kb _ _ (s.nb o fun _ z=>nomatch z) o
 have ky':∀ z u,H1 z=some u→knO u→upd H1 x (.ins A.c_Table dx [("stamper",.ref f),("bits",.int (B:Int)),("top",.ref y)]) z=some u:=fun z u ez hu=>by
  rw [ao (fun q=>by subst q;rw [hx2] at ez;cases ez;exact hu.tab)];exact ez
 refine ⟨hx2,fun z o zb zx e=>by rw [ao zx];exact kb z o zb e,⟨⟨dx,y,ak,ky.keep ky' Sub.rfl'⟩,B1,B60,wf⟩,s1.put (Nat.le_refl _) hx2 fun v z=>?_⟩
 injection z with z;injection z with z;exact absurd z (by decide)
theorem TbS.kn {H:Hp} {x f b:Addr} {g:List Key→Option Key} {n B:Nat} {t:Kn Str} {m:Key} (h:TbS A H x f b g n B t m):∃ dx y,H x=some (.ins A.c_Table dx [("stamper",.ref f),("bits",.int (B:Int)),("top",.ref y)])∧KnS A H f b g n B y t m∧szN t≤70000∧hgt t≤60:=by
 obtain ⟨dx,y,o,ky⟩:=h.ta.ob
 have ln:=h.ln
 have sz:=h.ta.wf.szN
 have dp:=h.ta.wf.dp
 have B60:=h.ta.B60
 exact ⟨dx,y,o,⟨ky,h.s,B60,dp.1,by omega,by omega⟩,by omega,by omega⟩
theorem FM (T : Txt K mg A) : Rd (lY K A) (JN K A) ["self", "key", "value", "before"] := by
  intro vs H Q E h
  obtain ⟨x, f, b, g, n, B, t, m, v, w, d, e, rfl, ts, hn, hd, he, ok, qE, q⟩ := h
  obtain ⟨dx, y, o, ks, sz, hg⟩ := ts.kn
  refine ⟨x, dx, _, rfl, o, rfl, x, f, g, B, t, m, v, d, rfl, ts.ta, hd, qE, fun key ed hk => ?_⟩
  obtain ⟨qV, qz⟩ := q key ed hk
  refine ⟨w, e, rfl, he, ok, ?_⟩
  cases hv : cT e with
  | false => exact Sel.yes rfl (qV hv)
  | true =>
    obtain ⟨z, rfl, hz⟩ := Ab ok hv
    cases he.str_inv
    subst ed
    cases hd.int_inv
    refine Sel.no rfl ⟨x, _, dx, _, _, rfl, o, T.cl_Table, T.na_Table_top, rfl, ?_⟩
    refine jC [.ref f, .int (B : Int), .int (key : Int), .str z] (fun R r => ⟨x, _, dx, _, _, rfl, o, T.cl_Table, T.na_Table_stamper, rfl, x, _, dx, _, _, rfl, o, T.cl_Table, T.na_Table_bits, rfl, r⟩)
      (kZ ks (by omega) ts.ta.wf.lt hk hz (by omega) sz fun y' m' g1 H1 kb ky s1 sub => ?_)
    obtain ⟨hx2, k2, ta2, s2⟩ := TbA.top o ts.s kb ky s1 ts.ta.B1 ts.ta.B60 (ts.ta.wf.with hk).1
    exact ⟨x, A.c_Table, dx, _, rfl, hx2, T.cl_Table, T.na_Table_top, by show 3 < 1000; decide, qz z rfl hz m' g1 _ k2 ta2 (s2.same (by omega) ay.rfl') sub⟩
theorem CL (K:W.Frag) (A:Adr):Ln (oA K A) 2:=by rintro vs H Q E ⟨x,f,b,g,n,B,t,m,v,d,rfl,_⟩;rfl
theorem EE (T : Txt K mg A) : Rd (oA K A) (HW K A) ["self", "key", "before"] := by
  intro vs H Q E h
  obtain ⟨x, f, b, g, n, B, t, m, v, d, rfl, ts, hn, hd, qE, q⟩ := h
  obtain ⟨dx, y, o, ks, sz, hg⟩ := ts.kn
  refine ⟨x, dx, _, rfl, o, rfl, x, f, g, B, t, m, v, d, rfl, ts.ta, hd, qE, fun key ed hk => ?_⟩
  obtain ⟨qM, qz⟩ := q key ed hk
  subst ed
  cases hd.int_inv
  cases hf : aA B key t with
  | none => exact Sel.yes rfl (qM hf)
  | some z =>
    refine Sel.no rfl ⟨x, _, dx, _, _, rfl, o, T.cl_Table, T.na_Table_top, rfl, ?_⟩
    refine jC [.ref f, .int (B : Int), .int (key : Int)] (fun R r => ⟨x, _, dx, _, _, rfl, o, T.cl_Table, T.na_Table_stamper, rfl, x, _, dx, _, _, rfl, o, T.cl_Table, T.na_Table_bits, rfl, r⟩)
      (ib ks (by omega) (by omega) fun y' m' g1 H1 kb ky s1 sub => ?_)
    obtain ⟨hx2, k2, ta2, s2⟩ := TbA.top o ts.s kb ky s1 ts.ta.B1 ts.ta.B60 ts.ta.wf.without.1
    exact ⟨x, A.c_Table, dx, _, rfl, hx2, T.cl_Table, T.na_Table_top, by show 3 < 1000; decide, qz z hf m' g1 _ k2 ta2 (s2.same (by omega) ay.rfl') sub⟩
end Rs
namespace Rs
open PySem PySem.Spec PyProof.Rows L2
variable {K:W.Frag} {mg:Str→Option Value} {A:Adr}
theorem TbS.ob {H:Hp} {x f b:Addr} {g:List Key→Option Key} {n B:Nat} {t:Kn Str} {m:Key} (h:TbS A H x f b g n B t m):∃ dx y,H x=some (.ins A.c_Table dx [("stamper",.ref f),("bits",.int (B:Int)),("top",.ref y)]):=let ⟨dx,y,o,_⟩:=h.ta.ob;⟨dx,y,o⟩
theorem ir {B key:Nat} (h:key<2^B):cY (B:Int) (.int (key:Int))=true:=by
 refine decide_eq_true ⟨by omega,?_⟩
 rw [show (B:Int).toNat=B by omega,←eh];omega
theorem zY {z:Str} (h:eP z):cT (.str z)=true:=decide_eq_true h.2
theorem Ap (kn:List (Nat×Str)):dOf kn=iG (kn.map fun p=>((p.1:Int),V.str p.2)):=by
 unfold dOf iG;rw [List.map_map];rfl
theorem iF {k : Nat} {z : Str} : ∀ {l : List (Nat × Str)}, (l.map (·.1)).Nodup → (look k l = some z ↔ (k, z) ∈ l)
  | [], _ => by constructor <;> intro h <;> cases h
  | (a, b) :: l, nd => by
    have nd' := List.nodup_cons.mp nd
    unfold look
    by_cases e : k = a
    · rw [if_pos e]
      constructor
      · intro h; cases h; rw [e]; exact List.mem_cons_self
      · intro h
        rcases List.mem_cons.mp h with h | h
        · cases h; rfl
        · exact absurd (List.mem_map.mpr ⟨_, h, rfl⟩) (by rw [e]; exact nd'.1)
    · rw [if_neg e, iF nd'.2]
      constructor
      · intro h; exact List.mem_cons_of_mem _ h
      · intro h
        rcases List.mem_cons.mp h with h | h
        · cases h; exact absurd rfl e
        · exact h
theorem Kno.sorted {B : Nat} {kn rs : List (Nat × Str)} {t : Kn Str} (h : Kno B kn t) (wf : WFo B t) (pm : rs.Perm kn) (up : iq rs) : rs = aB t := by
  refine uE up wf.up.1 fun k => ?_
  rw [← wf.up.2, ← h.eq]
  have nd : (rs.map (·.1)).Nodup := (pm.map (·.1)).nodup_iff.mpr h.nd
  have key : ∀ z, look k rs = some z ↔ look k kn = some z := fun z => by rw [iF nd, iF h.nd, pm.mem_iff]
  cases e : look k kn with
  | none =>
    cases e2 : look k rs with
    | none => rfl
    | some z => rw [(key z).mp e2] at e; cases e
  | some z => exact (key z).mpr e
def fR (p:Nat×Str):Int×V:=((p.1:Int),V.str p.2)
theorem sY (a k:Nat):decide ((Sum.inl (a:Int):Key)=Sum.inl (k:Int))=decide (k=a):=by
 by_cases h:k=a
 · rw [h,decide_eq_true rfl,decide_eq_true rfl]
 · rw [decide_eq_false h,decide_eq_false fun z=>h (by have:=Sum.inl.inj z;omega)]
theorem qA (kn : List (Nat × Str)) (k : Nat) : bK (dOf kn) (.inl (k : Int)) = (look k kn).map V.str := by
  unfold bK dOf
  induction kn with
  | nil => rfl
  | cons p kn ih =>
    rw [List.map_cons, List.find?_cons, sY]
    unfold look
    by_cases h : k = p.1
    · rw [decide_eq_true h, if_pos h]; rfl
    · rw [decide_eq_false h, if_neg h]; exact ih
def hJ (kn:List (Nat×Str)) (k:Nat) (z:Str):List (Nat×Str):=if (kn.any fun p=>decide (k=p.1))=true then kn.map (fun p=>if k=p.1 then (p.1,z) else p) else kn++[(k,z)]
theorem Aq (kn:List (Nat×Str)) (k:Nat) (z:Str):cB (dOf kn) (.inl (k:Int)) (.str z)=dOf (hJ kn k z):=by
 unfold cB hJ dOf
 have e1:((kn.map fun p=>((Sum.inl (p.1:Int):Key),V.str p.2)).any fun kv=>decide (kv.1=Sum.inl (k:Int)))=kn.any fun p=>decide (k=p.1):=by
   rw [List.any_map];congr 1;funext p;exact sY p.1 k
 rw [e1]
 by_cases h:(kn.any fun p=>decide (k=p.1))=true
 · rw [if_pos h,if_pos h,List.map_map,List.map_map]
   refine List.map_congr_left fun p _=>?_
   have d:=sY p.1 k
   show (if (Sum.inl (p.1:Int):Key)=Sum.inl (k:Int) then _ else _)=_
   by_cases hk:k=p.1
   · rw [if_pos (by rw [hk])];show _=((Sum.inl ((if k=p.1 then (p.1,z) else p).1:Int):Key),V.str (if k=p.1 then (p.1,z) else p).2);rw [if_pos hk]
   · rw [if_neg fun q=>hk (by have:=Sum.inl.inj q;omega)];show _=((Sum.inl ((if k=p.1 then (p.1,z) else p).1:Int):Key),V.str (if k=p.1 then (p.1,z) else p).2);rw [if_neg hk]
 · rw [if_neg h,if_neg h,List.map_append];rfl
theorem pB {k : Nat} {z : Str} : ∀ (kn : List (Nat × Str)) (k' : Nat), look k' (kn.map fun p => if k = p.1 then (p.1, z) else p) = if k' = k then (look k kn).map fun _ => z else look k' kn
  | [], k' => by show none = _; split <;> rfl
  | p :: kn, k' => by
    have ih := pB (k := k) (z := z) kn k'
    obtain ⟨a, y⟩ := p
    rw [List.map_cons]
    by_cases h : k = a
    · subst h
      rw [if_pos rfl]
      show (if k' = k then some z else look k' _) = _
      by_cases h2 : k' = k
      · rw [if_pos h2, if_pos h2]; show _ = Option.map _ (if k = k then some y else _); rw [if_pos rfl]; rfl
      · rw [if_neg h2, if_neg h2, ih, if_neg h2]; show _ = if k' = k then some y else _; rw [if_neg h2]
    · rw [if_neg h]
      show (if k' = a then some y else look k' _) = _
      by_cases h2 : k' = a
      · subst h2
        rw [if_pos rfl, if_neg (Ne.symm h)]; show _ = if k' = k' then some y else _; rw [if_pos rfl]
      · rw [if_neg h2, ih]
        show _ = if k' = k then Option.map _ (if k = a then some y else look k kn) else if k' = a then some y else look k' kn
        rw [if_neg h, if_neg h2]
theorem tF {k : Nat} {kn : List (Nat × Str)} : (kn.any fun p => decide (k = p.1)) = (look k kn).isSome := by
  induction kn with
  | nil => rfl
  | cons p kn ih =>
    rw [List.any_cons, ih]
    show _ = (if k = p.1 then some p.2 else look k kn).isSome
    by_cases h : k = p.1
    · rw [decide_eq_true h, if_pos h]; rfl
    · rw [decide_eq_false h, if_neg h, Bool.false_or]
theorem vT (kn:List (Nat×Str)) (k:Nat) (z:Str) (k':Nat):look k' (hJ kn k z)=if k'=k then some z else look k' kn:=by
 unfold hJ
 rw [tF]
 by_cases h:(look k kn).isSome=true
 · rw [if_pos h,pB]
   split
   · obtain ⟨y,hy⟩:=Option.isSome_iff_exists.mp h;rw [hy];rfl
   · rfl
 · rw [if_neg h,kC]
   by_cases h2:k'=k
   · rw [if_pos h2,h2]
     have:look k kn=none:=by cases e:look k kn <;> first | rfl | (rw [e] at h;exact absurd rfl h)
     rw [this];show (if k=k then some z else none)=_;rw [if_pos rfl]
   · rw [if_neg h2];show (look k' kn).or (if k'=k then some z else none)=_;rw [if_neg h2,Option.or_none]
theorem qS {kn:List (Nat×Str)} {k:Nat} {z:Str} (h:(kn.map (·.1)).Nodup):((hJ kn k z).map (·.1)).Nodup∧(hJ kn k z).length≤kn.length+1:=by
 unfold hJ
 by_cases hk:(kn.any fun p=>decide (k=p.1))=true
 · rw [if_pos hk,List.map_map,List.length_map]
   have e:(kn.map ((fun p:Nat×Str=>p.1)∘fun p=>if k=p.1 then (p.1,z) else p))=kn.map (·.1):=List.map_congr_left fun p _=>by show (if k=p.1 then (p.1,z) else p).1=p.1;split <;> rfl
   rw [e];exact ⟨h,Nat.le_succ _⟩
 · rw [if_neg hk,List.map_append,List.length_append]
   refine ⟨List.nodup_append.mpr ⟨h,List.pairwise_singleton _ _,fun a ha b hb e=>?_⟩,Nat.le_refl _⟩
   have e:a=k:=by rw [List.mem_singleton.mp hb] at e;exact e
   obtain ⟨p,hp,e2⟩:=List.mem_map.mp ha
   exact hk (List.any_eq_true.mpr ⟨p,hp,decide_eq_true (by rw [← e];exact e2.symm)⟩)
theorem Kno.put {B:Nat} {kn:List (Nat×Str)} {t:Kn Str} {key:Nat} {z:Str} (h:Kno B kn t) (wf:WFo B t) (hk:key<2^B) (ln:kn.length<63):Kno B (hJ kn key z) (bR B key z t):=by
 obtain ⟨a,b⟩:=qS (k:=key) (z:=z) h.nd
 exact ⟨a,by omega,fun k=>by rw [vT,(wf.with hk).2,h.eq]⟩
theorem FZ {z:Str} (h:eP z):okD (.str z)=true:=by
 show (bW z&&decide (z.length≤100000))=true
 rw [h.1,decide_eq_true (by have:=h.2;omega)];rfl
def lsO (o:HO):Prop:=(∃ xs,o=.lst xs)∨∃ ob u,o=.frz ob u
def KL (H H':Hp):Prop:=∀ z o,H z=some o→lsO o→H' z=some o
theorem TbS.dk {H:Hp} {x f b kd:Addr} {g:List Key→Option Key} {n B:Nat} {t:Kn Str} {m:Key} {kvs kvs':List (Key×V)} (h:TbS A H x f b g n B t m) (e:H kd=some (.dK kvs)):TbS A (upd H kd (.dK kvs')) x f b g n B t m:=by
 have kx:∀ z o,H z=some o→(∀ kvs,o≠ .dK kvs)→upd H kd (.dK kvs') z=some o:=fun z o ez n=>by rw [ao (ci ez e (n _))];exact ez
 obtain ⟨dx,y,o,ky⟩:=h.ta.ob
 refine ⟨⟨⟨dx,y,kx _ _ o (fun _ z=>nomatch z),ky.keep (fun z u e hu=>kx z u e fun ps q=>by subst q;rcases hu with ⟨_,q⟩ | ⟨_,_,_,_,_,q⟩ <;> exact nomatch q) Sub.rfl'⟩,h.ta.B1,h.ta.B60,h.ta.wf⟩,h.s.keep (Nat.le_refl _) (fun z u e hu=>kx z u e fun ps q=>?_),h.ln⟩
 subst q
 rcases hu with ⟨_,q⟩ | ⟨_,_,q⟩ | ⟨_,_,_,q⟩ <;> cases q
theorem Kno.perm {B:Nat} {kn:List (Nat×Str)} {t:Kn Str} (h:Kno B kn t) (wf:WFo B t):(aB t).Perm kn:=by
 have pm:=List.mergeSort_perm kn (fun a b=>decide (a.1≤b.1))
 have so:=List.pairwise_mergeSort (le:=fun (a b:Nat×Str)=>decide (a.1≤b.1)) (fun a b c h1 h2=>by simp only [decide_eq_true_eq] at *;omega) (fun a b=>by simp only [Bool.or_eq_true,decide_eq_true_eq];omega) kn
 have nd:((kn.mergeSort (fun a b=>decide (a.1≤b.1))).map (·.1)).Nodup:=(pm.map (·.1)).nodup_iff.mpr h.nd
 have nd2:=List.pairwise_map.mp nd
 have up:iq (kn.mergeSort (fun a b=>decide (a.1≤b.1))):=(so.and nd2).imp fun {a b} z=>by
  have z1:=of_decide_eq_true z.1
  have z2:=z.2
  omega
 rw [← h.sorted wf pm up];exact pm
theorem Kno.len {B:Nat} {kn:List (Nat×Str)} {t:Kn Str} (h:Kno B kn t) (wf:WFo B t):(aB t).length=kn.length:=(h.perm wf).length_eq
theorem Kno.keys {B:Nat} {kn:List (Nat×Str)} {t:Kn Str} (h:Kno B kn t) (wf:WFo B t):Gs B kn:=fun p hp=>wf.lt p ((h.perm wf).mem_iff.mpr hp)
theorem wI {B:Nat} (h1:1≤B) (h2:B≤60):fB (.int (B:Int))=true:=decide_eq_true ⟨by omega,by omega⟩
theorem pS {H:Hp} {x dx f b:Addr} {g:List Key→Option Key} {n B:Nat} {Q:VK} {E:XK} (hx:H x=none) (hdx:H dx=none) (ne:dx≠x) (s:Stp A H f b g n) (hn:n≤45000) (B1:1≤B) (B60:B≤60) (q:∀ (m:Key) (g':List Key→Option Key) (H':Hp),aW b H H'→TbA A H' g' x f B .bare m→Stp A H' f b g' (n+1)→Sub g g'→Q .non H'):
   iP K A [.ref x,.ref f,.int (B:Int)] (upd (upd H dx (.own x)) x (.ins A.c_Table dx [])) Q E:=by
 have S1:=df (o:=.own x) (u:=.ins A.c_Table dx []) hx hdx ne
 refine ⟨x,dx,f,b,g,n,_,.int (B:Int),rfl,ak,.int _,s.same (Nat.le_refl _) S1,hn,fun h=>?_,fun B' eB _ _ m g2 H2 k2 ta2 s2 sub2=>?_⟩
 · rw [wI B1 B60] at h;cases h
 · have:B'=B:=by have:=Dat.int.inj eB;omega
   subst this
   exact q m g2 H2 (fun z o zb e=>k2 z o zb (ax e hx) (S1 _ _ e)) ta2 s2 sub2
def iO (kn:List (Nat×Str)) (k:Nat):List (Nat×Str):=kn.filter fun p=>decide (k≠p.1)
theorem xV (kn:List (Nat×Str)) (k:Nat):jc (dOf kn) (.inl (k:Int))=dOf (iO kn k):=by
 unfold jc iO dOf
 rw [List.filter_map]
 congr 1
 refine List.filter_congr fun p _=>?_
 show decide ((Sum.inl (p.1:Int):Key)≠Sum.inl (k:Int))=_
 exact decide_eq_decide.mpr ⟨fun z w=>z (by rw [w]),fun z w=>z (by have:=Sum.inl.inj w;omega)⟩
theorem uT (kn : List (Nat × Str)) (k k' : Nat) : look k' (iO kn k) = if k' = k then none else look k' kn := by
  unfold iO
  induction kn with
  | nil => show none = _; split <;> rfl
  | cons p kn ih =>
    obtain ⟨a, z⟩ := p
    rw [List.filter_cons]
    by_cases h : k = a
    · subst h
      rw [if_neg (by simp), ih]
      by_cases h2 : k' = k
      · rw [if_pos h2, if_pos h2]
      · rw [if_neg h2, if_neg h2]; show _ = if k' = k then some z else _; rw [if_neg h2]
    · rw [if_pos (decide_eq_true h)]
      show (if k' = a then some z else look k' _) = if k' = k then none else if k' = a then some z else look k' kn
      rw [ih]
      by_cases h2 : k' = a
      · rw [if_pos h2, if_pos h2, if_neg (fun q => h (by rw [← q, h2]))]
      · rw [if_neg h2, if_neg h2]
theorem Kno.drop {B:Nat} {kn:List (Nat×Str)} {t:Kn Str} {key:Nat} (h:Kno B kn t) (wf:WFo B t):Kno B (iO kn key) (aI B key t)∧(iO kn key).length≤kn.length:=by
 have l:=List.length_filter_le (fun p:Nat×Str=>decide (key≠p.1)) kn
 refine ⟨⟨((List.filter_sublist (p:=fun p:Nat×Str=>decide (key≠p.1)) (l:=kn)).map Prod.fst).nodup h.nd,Nat.le_trans l h.ln,fun k=>?_⟩,l⟩
 rw [uT,wf.without.2,h.eq]
theorem TK.ts {H:Hp} {x f kd b:Addr} {g:List Key→Option Key} {B n:Nat} {t:Kn Str} {m:Key} {kn:List (Nat×Str)} (h:TK A H x f kd g B t m kn) (s:Stp A H f b g n):TbS A H x f b g n B t m:=⟨h.ta,s,by rw [h.kno.len h.ta.wf];have:=h.kno.ln;omega⟩
theorem TK.dg {H:Hp} {x f kd:Addr} {g:List Key→Option Key} {B:Nat} {t:Kn Str} {m:Key} {kn:List (Nat×Str)} (h:TK A H x f kd g B t m kn) (key:Nat):dG H kd (.int (key:Int)) ((aA B key t).map V.str):=by
 rw [← h.kno.eq,←qA];exact dG.k (k:=.inl (key:Int)) h.hk
theorem TK.ne {H:Hp} {x f kd b:Addr} {g g':List Key→Option Key} {B n:Nat} {t:Kn Str} {m:Key} {kn:List (Nat×Str)} (h:TK A H x f kd g B t m kn) (s:Stp A H f b g' n):kd≠b∧kd≠x:=by
 obtain ⟨dx,y,o,_⟩:=h.ta.ob
 exact ⟨s.nb h.hk (fun _ z=>nomatch z),ci h.hk o (fun z=>nomatch z)⟩
theorem DB {H:Hp} {kd:Addr} {kvs:List (Key×V)} (h:H kd=some (.dK kvs)):tyV K "dict" (.ref kd) H:=.inr (.inr (.inl ⟨rfl,.inl ⟨_,h⟩⟩))
theorem TK.same {H H':Hp} {x f kd:Addr} {g:List Key→Option Key} {B:Nat} {t:Kn Str} {m:Key} {kn:List (Nat×Str)} (h:TK A H x f kd g B t m kn) (S:ay H H'):TK A H' x f kd g B t m kn:=by
 obtain ⟨dx,y,o,ky⟩:=h.ta.ob
 exact ⟨⟨⟨dx,y,S _ _ o,ky.same S⟩,h.ta.B1,h.ta.B60,h.ta.wf⟩,S _ _ h.hk,h.kno⟩
theorem BP {i:Nat} {σ:L2.St} {H:Hp} {Q:VK} {v:V} (h:σ[i]?=some (some v)) (q:Q v H):ab i σ H Q:=by
 unfold ab;rw [h];exact q
theorem TbA.same {H H':Hp} {g:List Key→Option Key} {x f:Addr} {B:Nat} {t:Kn Str} {m:Key} (h:TbA A H g x f B t m) (S:ay H H'):TbA A H' g x f B t m:=by
 obtain ⟨dx,y,o,ky⟩:=h.ob
 exact ⟨⟨dx,y,S _ _ o,ky.same S⟩,h.B1,h.B60,h.wf⟩
theorem TbA.keep {H H':Hp} {g g':List Key→Option Key} {x f:Addr} {B:Nat} {t:Kn Str} {m:Key} (h:TbA A H g x f B t m) (kx:∀ o,H x=some o→H' x=some o) (k:∀ z o,H z=some o→knO o→H' z=some o) (sub:Sub g g'):TbA A H' g' x f B t m:=by
 obtain ⟨dx,y,o,ky⟩:=h.ob
 exact ⟨⟨dx,y,kx _ o,ky.keep k sub⟩,h.B1,h.B60,h.wf⟩
theorem TbA.kb {H H':Hp} {g g' g0:List Key→Option Key} {x f b:Addr} {B n:Nat} {t:Kn Str} {m:Key} (h:TbA A H g x f B t m) (s:Stp A H f b g0 n) (kb:aW b H H') (sub:Sub g g'):TbA A H' g' x f B t m:=by
 obtain ⟨dx,y,o,ky⟩:=h.ob
 exact h.keep (fun u e=>kb _ _ (s.nb o fun _ z=>nomatch z) e) (fun z u e hu=>kb z u (s.nb e (fun _ q=>(by subst q;exact hu.dT)) fun _ q=>(by subst q;exact hu.ext)) e) sub
theorem uo (o:Option Str):(o.map V.str).getD .non=ov o:=by cases o <;> rfl
theorem Bb (K:W.Frag) (A:Adr):Ln (lO K A) 1:=by rintro vs H Q E ⟨x,f,b,g,n,B,t,m,rfl,_⟩;rfl
theorem FT (T:Txt K mg A):Rd (lO K A) (HZ K A) ["self", "other"]:=by
 intro vs H Q E h
 obtain ⟨x,f,b,g,n,B,t,m,rfl,ts,hn,q⟩:=h
 obtain ⟨dx,y0,o,k0⟩:=ts.ta.ob
 refine ⟨x,_,dx,_,_,rfl,o,T.cl_Table,T.na_Table_stamper,rfl,x,_,dx,_,_,rfl,o,T.cl_Table,T.na_Table_bits,rfl,fun y dy hy hdy ne=>?_⟩
 refine pS hy hdy ne ts.s hn ts.ta.B1 ts.ta.B60 fun m2 g2 H2 kb ta2 s2 sub=>⟨rfl,?_⟩
 have hx2:=kb _ _ (ts.s.nb o fun _ z=>nomatch z) o
 have k2:KnA A H2 g2 y0 t m:=k0.kb ts.s kb sub
 obtain ⟨dy2,y2,oy,_⟩:=ta2.ob
 obtain ⟨_,k3,ta3,s3⟩:=TbA.top oy s2 aW.rfl' k2 s2 ts.ta.B1 ts.ta.B60 ts.ta.wf
 have xy:x≠y:=ax o hy
 refine ⟨x,_,dx,_,_,rfl,hx2,T.cl_Table,T.na_Table_top,rfl,y,A.c_Table,dy2,_,rfl,oy,T.cl_Table,T.na_Table_top,by show 3<1000;decide,?_⟩
 have k3':KnA A _ g2 y0 t m:=k2.keep (fun z u e hu=>k3 z u (s2.nb e (fun _ q=>(by subst q;exact hu.dT)) fun _ q=>(by subst q;exact hu.ext)) (fun q=>by subst q;rw [oy] at e;cases e;exact hu.tab) e) Sub.rfl'
 refine q y g2 _ (fun z u zb e=>k3 z u zb (ax e hy) (kb z u zb e)) hy ⟨⟨⟨dx,y0,k3 _ _ (s2.nb hx2 fun _ z=>nomatch z) xy hx2,k3'⟩,ts.ta.B1,ts.ta.B60,ts.ta.wf⟩,s3,ts.ln⟩ ta3 sub
theorem TK.kb {H H':Hp} {x f kd b:Addr} {g g':List Key→Option Key} {B n:Nat} {t:Kn Str} {m:Key} {kn:List (Nat×Str)} (h:TK A H x f kd g B t m kn) (s:Stp A H f b g n) (kb:aW b H H') (sub:Sub g g'):TK A H' x f kd g' B t m kn:=⟨h.ta.kb s kb sub,kb _ _ (h.ne s).1 h.hk,h.kno⟩
end Rs
namespace Rs
open PySem PySem.Spec PyProof.Rows L2
variable {K:W.Frag} {mg:Str→Option Value} {A:Adr}
theorem KnA.ext {H:Hp} {g:List Key→Option Key} {x:Addr} {t:Kn Str} {m:Key} (k:KnA A H g x t m) {h:List Key→Key} (he:Ext g h):m=h (aT h t):=by
 induction k with
 | bare o ht hm ok sz=>exact (he _ _ hm).symm
 | leaf o ht hm ok sz hz=>exact (he _ _ hm).symm
 | fork o hl hr ht hm ok sz ih1 ih2=>show _=h (fkT _ _ (h (aT h _)) (h (aT h _)));rw [← ih1,←ih2];exact (he _ _ hm).symm
theorem rf {B key d b:Nat} {m s:Key} (hd:d<B) (hs:st B key d=b):cV (B:Int) (key:Int) (d:Int) m s=if sd B key d=0 then fkT d b s m else fkT d b m s:=by
 unfold cV
 rw [fK,hs,ju hd]
 by_cases e:sd B key d=0
 · rw [if_pos e,if_pos (by rw [e];rfl)];rfl
 · rw [if_neg e,if_neg (by omega)];rfl
theorem jH (h:List Key→Key) (b k:Int) (s:Int×Key):∀ (r:List (Int×Key)) (e:List Key),fE h b k e (r++[s])=cV b k s.1 s.2 (h (fE h b k e r))
 | [],e=>rfl
 | x::r,e=>by show fE h b k _ (r++[s])=_;rw [jH h b k s r];rfl
theorem iW {h : List Key → Key} {B key : Nat} : ∀ {t : Kn Str}, fN B t → fE h (B : Int) (key : Int) (bw h B key t) (aH h B key t).reverse = aT h t
  | .bare, _ => rfl
  | .leaf _ _, _ => rfl
  | .fork d b l r, hd => by
    obtain ⟨h1, h2, hl, hr⟩ := hd
    unfold aH bw
    by_cases e : st B key d = b
    · rw [if_pos e, if_pos e]
      by_cases e0 : sd B key d = 0
      · rw [if_pos e0, if_pos e0, List.reverse_cons, jH, iW hl, rf h1 e, if_pos e0]; rfl
      · rw [if_neg e0, if_neg e0, List.reverse_cons, jH, iW hr, rf h1 e, if_neg e0]; rfl
    · rw [if_neg e, if_neg e]; rfl
theorem kY {h : List Key → Key} {B key : Nat} : ∀ {t : Kn Str} {d0 b0 : Nat}, d0 ≤ B → WF B d0 b0 t → lw (key : Int) (bw h B key t) = ov (aA B key t)
  | .bare, _, _, _, w => w.elim
  | .leaf k z, _, _, _, w => by
    show (if ("leaf" : Str) = "leaf" ∧ (k : Int) = (key : Int) then V.str z else .non) = ov (if key = k then some z else none)
    by_cases e : key = k
    · rw [if_pos e, if_pos ⟨rfl, by rw [e]⟩]; rfl
    · rw [if_neg e, if_neg (fun z => e (by have := z.2; omega))]; rfl
  | .fork d b l r, d0, b0, h0, w => by
    have w0 := w
    obtain ⟨w1, w2, w3, wl, wr⟩ := w
    unfold bw aA
    by_cases e : st B key d = b
    · rw [if_pos e]
      by_cases e0 : sd B key d = 0
      · rw [if_pos e0, if_pos e0]; exact kY (by omega) wl
      · rw [if_neg e0, if_neg e0]; exact kY (by omega) wr
    · rw [if_neg e]
      have nf : aA B key (.fork d b l r) = none := by
        rw [bZ w0]
        refine cJ fun p hp z => e ?_
        rcases List.mem_append.mp hp with y | y
        · rw [← z]; exact (w0.left p y).1
        · rw [← z]; exact (w0.right p y).1
      unfold aA at nf
      rw [nf]; rfl
def iD (h:List Key→Key):Kn Str→Prop
 | .bare=>True
 | .leaf _ z=>eP z
 | .fork _ _ l r=>(okP (h (aT h l))=true∧szK (h (aT h l))≤szN l)∧(okP (h (aT h r))=true∧szK (h (aT h r))≤szN r)∧iD h l∧iD h r
theorem KnA.mk {H : Hp} {g : List Key → Option Key} {x : Addr} {t : Kn Str} {m : Key} (k : KnA A H g x t m) {h : List Key → Key} (he : Ext g h) : iD h t := by
  induction k with
  | bare o ht hm ok sz => trivial
  | leaf o ht hm ok sz hz => exact hz
  | fork o hl hr ht hm ok sz ih1 ih2 =>
    have e1 := hl.ext he
    have e2 := hr.ext he
    exact ⟨by rw [← e1]; exact hl.ok, by rw [← e2]; exact hr.ok, ih1, ih2⟩
theorem kU {h : List Key → Key} {B key : Nat} (hk : key < 2 ^ B) : ∀ {t : Kn Str} {d0 b0 : Nat}, d0 ≤ B → WF B d0 b0 t → iD h t → st B key d0 = b0 → bo (B : Int) (d0 : Int) ((aH h B key t).map stD) = true ∧
    ∃ d1 : Nat, dQ (d0 : Int) ((aH h B key t).map stD) = (d1 : Int) ∧ d1 ≤ B ∧ d0 ≤ d1 ∧ d0 + (aH h B key t).length ≤ d1 ∧ (aH h B key t).length + 1 ≤ (aB t).length ∧
      ((∃ k z, bw h B key t = lfT k z ∧ k < 2 ^ B ∧ st B k d1 = st B key d1 ∧ (k, z) ∈ aB t) ∨ ∃ d b l r, bw h B key t = fkT d b (h (aT h l)) (h (aT h r)) ∧ d1 < d ∧ d < B ∧ b < 2 ^ d ∧ b / 2 ^ (d - d1) = st B key d1 ∧ b ≠ st B key d ∧ (aH h B key t).length + 2 ≤ (aB t).length)
  | .bare, _, _, _, w, _, _ => w.elim
  | .leaf k z, d0, b0, h0, w, _, e0 => ⟨rfl, d0, rfl, h0, Nat.le_refl _, Nat.le_refl _, Nat.le_refl _, .inl ⟨k, z, rfl, w.1, by rw [w.2, e0], List.mem_singleton.mpr rfl⟩⟩
  | .fork d b l r, d0, b0, h0, w, mk, e0 => by
    have w0 := w
    obtain ⟨w1, w2, w3, wl, wr⟩ := w
    have rl : (aB (Kn.fork d b l r)).length = (aB l).length + (aB r).length := List.length_append
    have one : ∀ {u : Kn Str} {d1 b1 : Nat}, WF B d1 b1 u → 1 ≤ (aB u).length := fun {u d1 b1} wu => by
      obtain ⟨p, hp⟩ := WF.ne (B := B) (d0 := 0) (b0 := 0) wu
      exact List.length_pos_of_mem hp
    unfold aH bw
    by_cases e : st B key d = b
    · rw [if_pos e, if_pos e]
      have fin : ∀ (u v : Kn Str), bB (bv (h (aT h v))) = true → WF B (d + 1) (st B key (d + 1)) u → (aB u).length + 1 ≤ (aB (Kn.fork d b l r)).length → (∀ p ∈ aB u, p ∈ aB (Kn.fork d b l r)) →
          (bo (B : Int) ((d + 1 : Nat) : Int) ((aH h B key u).map stD) = true ∧ ∃ d1 : Nat, dQ ((d + 1 : Nat) : Int) ((aH h B key u).map stD) = (d1 : Int) ∧ d1 ≤ B ∧ d + 1 ≤ d1 ∧ d + 1 + (aH h B key u).length ≤ d1 ∧ (aH h B key u).length + 1 ≤ (aB u).length ∧
            ((∃ k z, bw h B key u = lfT k z ∧ k < 2 ^ B ∧ st B k d1 = st B key d1 ∧ (k, z) ∈ aB u) ∨ ∃ d b l r, bw h B key u = fkT d b (h (aT h l)) (h (aT h r)) ∧ d1 < d ∧ d < B ∧ b < 2 ^ d ∧ b / 2 ^ (d - d1) = st B key d1 ∧ b ≠ st B key d ∧ (aH h B key u).length + 2 ≤ (aB u).length)) →
          bo (B : Int) (d0 : Int) ((((d : Int), h (aT h v)) :: aH h B key u).map stD) = true ∧ ∃ d1 : Nat, dQ (d0 : Int) ((((d : Int), h (aT h v)) :: aH h B key u).map stD) = (d1 : Int) ∧ d1 ≤ B ∧ d0 ≤ d1 ∧ d0 + (((d : Int), h (aT h v)) :: aH h B key u).length ≤ d1 ∧ (((d : Int), h (aT h v)) :: aH h B key u).length + 1 ≤ (aB (Kn.fork d b l r)).length ∧
            ((∃ k z, bw h B key u = lfT k z ∧ k < 2 ^ B ∧ st B k d1 = st B key d1 ∧ (k, z) ∈ aB (Kn.fork d b l r)) ∨ ∃ d' b' l' r', bw h B key u = fkT d' b' (h (aT h l')) (h (aT h r')) ∧ d1 < d' ∧ d' < B ∧ b' < 2 ^ d' ∧ b' / 2 ^ (d' - d1) = st B key d1 ∧ b' ≠ st B key d' ∧ (((d : Int), h (aT h v)) :: aH h B key u).length + 2 ≤ (aB (Kn.fork d b l r)).length) := by
        intro u v hs wu hl hm ⟨ih, d1, p1, p2, p3, p4, p5, p6⟩
        refine ⟨?_, d1, ?_, p2, by omega, by rw [List.length_cons]; omega, by rw [List.length_cons]; omega, ?_⟩
        · show (decide ((d0 : Int) ≤ (d : Int) ∧ (d : Int) < (B : Int)) && bB (bv (h (aT h v))) && bo (B : Int) ((d : Int) + 1) ((aH h B key u).map stD)) = true
          rw [decide_eq_true ⟨by omega, by omega⟩, hs, show ((d : Int) + 1) = ((d + 1 : Nat) : Int) by omega, ih]; rfl
        · rw [← p1, List.map_cons]
          unfold dQ
          rw [List.getLast?_cons]
          cases hg : ((aH h B key u).map stD).getLast? with
          | none => show (d : Int) + 1 = ((d + 1 : Nat) : Int); omega
          | some s => rfl
        · rcases p6 with ⟨k, z, q1, q2, q3, q4⟩ | ⟨d', b', l', r', q1, q2, q3, q4, q5, q6, q7⟩
          · exact .inl ⟨k, z, q1, q2, q3, hm _ q4⟩
          · exact .inr ⟨d', b', l', r', q1, q2, q3, q4, q5, q6, by rw [List.length_cons]; omega⟩
      have stS := bX (B := B) (k := key) (d := d) w2
      by_cases e1 : sd B key d = 0
      · rw [if_pos e1, if_pos e1]
        have hs1 : st B key (d + 1) = 2 * b := by rw [stS, e1, e]; omega
        have wl' : WF B (d + 1) (st B key (d + 1)) l := by rw [hs1]; exact wl
        exact fin l r (gp mk.2.1.1).2 wl' (by have := one wr; omega) (fun p hp => List.mem_append_left _ hp) (kU hk (by omega) wl' mk.2.2.1 rfl)
      · rw [if_neg e1, if_neg e1]
        have hs1 : st B key (d + 1) = 2 * b + 1 := by rw [stS, e]; have := @eI B key d; omega
        have wr' : WF B (d + 1) (st B key (d + 1)) r := by rw [hs1]; exact wr
        exact fin r l (gp mk.1.1).2 wr' (by have := one wl; omega) (fun p hp => List.mem_append_right _ hp) (kU hk (by omega) wr' mk.2.2.2 rfl)
    · rw [if_neg e, if_neg e]
      have n1 := one wl
      have n2 := one wr
      have hb : b < 2 ^ d := by
        obtain ⟨p, hp⟩ := WF.ne (B := B) (d0 := 0) (b0 := 0) wl
        have := (w0.left p hp).1
        have h2 := (wl.mem (by omega) p hp).1
        rw [← this]
        unfold st
        refine Nat.div_lt_of_lt_mul ?_
        rw [← Nat.pow_add, show B - d + d = B by omega]; exact h2
      refine ⟨rfl, d0, rfl, h0, Nat.le_refl _, Nat.le_refl _, by show 0 + 1 ≤ _; omega, .inr ⟨d, b, l, r, rfl, ?_, w2, hb, by rw [w3, e0], fun z => e z.symm, by show 0 + 2 ≤ _; omega⟩⟩
      rcases Nat.lt_or_eq_of_le w1 with z | z
      · exact z
      · subst z
        rw [Nat.sub_self, Nat.pow_zero, Nat.div_one] at w3
        exact absurd (by rw [e0, w3]) e
end Rs
namespace Rs
open PySem PySem.Spec PyProof.Rows L2
variable {K:W.Frag} {mg:Str→Option Value} {A:Adr}
theorem KnA.same_ext {H : Hp} {g : List Key → Option Key} {x : Addr} {t : Kn Str} {m : Key} (k : KnA A H g x t m) {h h' : List Key → Key} (he : Ext g h) (he' : Ext g h') (B key : Nat) : aT h t = aT h' t ∧ aH h B key t = aH h' B key t ∧ bw h B key t = bw h' B key t := by
  induction k with
  | bare o ht hm ok sz => exact ⟨rfl, rfl, rfl⟩
  | leaf o ht hm ok sz hz => exact ⟨rfl, rfl, rfl⟩
  | @fork x dx t l r m ml mr d b tl tr o hl hr ht hm ok sz ih1 ih2 =>
    have l1 := hl.ext he
    have l2 := hl.ext he'
    have r1 := hr.ext he
    have r2 := hr.ext he'
    have tt : aT h (.fork d b tl tr) = aT h' (.fork d b tl tr) := by show fkT _ _ (h _) (h _) = fkT _ _ (h' _) (h' _); rw [← l1, ← l2, ← r1, ← r2]
    refine ⟨tt, ?_, ?_⟩
    · show (if st B key d = b then (if sd B key d = 0 then ((d : Int), h (aT h tr)) :: aH h B key tl else ((d : Int), h (aT h tl)) :: aH h B key tr) else []) = (if st B key d = b then (if sd B key d = 0 then ((d : Int), h' (aT h' tr)) :: aH h' B key tl else ((d : Int), h' (aT h' tl)) :: aH h' B key tr) else [])
      rw [← l1, ← l2, ← r1, ← r2, ih1.2.1, ih2.2.1]
    · show (if st B key d = b then (if sd B key d = 0 then bw h B key tl else bw h B key tr) else aT h (.fork d b tl tr)) = (if st B key d = b then (if sd B key d = 0 then bw h' B key tl else bw h' B key tr) else aT h' (.fork d b tl tr))
      rw [ih1.2.2, ih2.2.2, tt]
theorem kT {h : List Key → Key} {B key : Nat} : ∀ {t : Kn Str}, iD h t → ∀ s ∈ aH h B key t, okP s.2 = true
  | .bare, _, _, hs => nomatch hs
  | .leaf _ _, _, _, hs => nomatch hs
  | .fork d b l r, mk, s, hs => by
    unfold aH at hs
    split at hs
    · split at hs
      · rcases List.mem_cons.mp hs with rfl | z
        · exact mk.2.1.1
        · exact kT mk.2.2.1 s z
      · rcases List.mem_cons.mp hs with rfl | z
        · exact mk.1.1
        · exact kT mk.2.2.2 s z
    · cases hs
theorem Eg {d b:Nat} {l r:Key}:szT (fkT d b l r)=190+szK l+szK r:=yq
theorem kN {h : List Key → Key} {B key : Nat} : ∀ {t : Kn Str}, iD h t → szT (bw h B key t) + szS (aH h B key t) ≤ szN t
  | .bare, _ => by show szT brT + 0 ≤ 200; decide +kernel
  | .leaf k z, mk => by show szT (lfT k z) + 0 ≤ 400; have := yY (k := k) mk; omega
  | .fork d b l r, mk => by
    unfold bw aH
    show _ ≤ 300 + szN l + szN r
    split
    · split
      · have := kN (B := B) (key := key) mk.2.2.1
        show _ + (szK (h (aT h r)) + 252 + szS (aH h B key l)) ≤ _
        have := mk.2.1.2
        omega
      · have := kN (B := B) (key := key) mk.2.2.2
        show _ + (szK (h (aT h l)) + 252 + szS (aH h B key r)) ≤ _
        have := mk.1.2
        omega
    · show szT (fkT d b (h (aT h l)) (h (aT h r))) + 0 ≤ _
      rw [Eg]; have := mk.1.2; have := mk.2.1.2; omega
theorem kO {h : List Key → Key} : ∀ {t : Kn Str}, iD h t → ∀ p ∈ aB t, eP p.2
  | .bare, _, _, hp => nomatch hp
  | .leaf k z, mk, p, hp => by rw [List.mem_singleton.mp hp]; exact mk
  | .fork d b l r, mk, p, hp => by
    rcases List.mem_append.mp hp with z | z
    · exact kO mk.2.2.1 p z
    · exact kO mk.2.2.2 p z
theorem p2z {k B:Nat} (h:k<2^B):(k:Int)<2^((B:Nat):Int).toNat:=by
 have:((k:Nat):Int)<((2^B:Nat):Int):=by omega
 rw [eh] at this;simpa using this
theorem mX {h : List Key → Key} {B key : Nat} {t : Kn Str} (B1 : 1 ≤ B) (B60 : B ≤ 60) (hk : key < 2 ^ B) (wf : WFo B t) (mk : iD h t) (sz : szN t ≤ 90000) : fh (B : Int) (key : Int) (aH h B key t) (bw h B key t) ∧ ((aH h B key t).length + (if (bw h B key t).head? = some (.inr "fork") then 2 else 0) ≤ B ∧ (aH h B key t).length + (if (bw h B key t).head? = some (.inr "fork") then 2 else 0) ≤ (aB t).length) := by
  have hz := kN (B := B) (key := key) mk
  have so := kT (B := B) (key := key) mk
  rcases wf with rfl | w
  · have en : de (B : Int) (key : Int) 0 (.tup [.str "bare"]) = true := by
      unfold de; rw [show gn (.tup [.str "bare"]) = true by decide +kernel, if_pos rfl]; exact decide_eq_true rfl
    exact ⟨⟨by omega, by omega, by omega, p2z hk, rfl, (fun s hs => nomatch hs), yp, en, by omega⟩, Nat.zero_le _, Nat.le_refl _⟩
  · obtain ⟨gs, d1, p1, p2, p3, p4, p5, p6⟩ := kU (h := h) hk (Nat.zero_le _) w mk (Nat.div_eq_of_lt (by simpa using hk))
    have p1 : dQ 0 ((aH h B key t).map stD) = (d1 : Int) := p1
    rcases p6 with ⟨k, z, q1, q2, q3, q4⟩ | ⟨d, b, l, r, q1, q2, q3, q4, q5, q6, q7⟩
    · have vz := kO mk _ q4
      refine ⟨⟨by omega, by omega, by omega, p2z hk, gs, so, ?_, ?_, by omega⟩, ?_⟩
      · rw [q1]; exact yO (Nat.lt_of_lt_of_le q2 (Nat.pow_le_pow_right (by decide) B60)) vz
      · rw [p1, q1]
        exact vI (by omega) (by omega) (by omega) (p2z q2) (by rw [fK, fK, q3]) vz.2
      · have e : (bw h B key t).head? ≠ some (.inr "fork") := by rw [q1]; show some (Sum.inr ("leaf" : Str)) ≠ _; decide +kernel
        rw [if_neg e]; omega
    · have b60 : b < 2 ^ 60 := Nat.lt_of_lt_of_le q4 (Nat.pow_le_pow_right (by decide) (by omega))
      have ee : okP (h (aT h l)) = true ∧ okP (h (aT h r)) = true := by
        have : ∀ {u : Kn Str}, iD h u → bw h B key u = fkT d b (h (aT h l)) (h (aT h r)) → okP (h (aT h l)) = true ∧ okP (h (aT h r)) = true := by
          intro u
          induction u with
          | bare => intro _ e; cases e
          | leaf k z => intro _ e; cases e
          | fork d' b' l' r' ih1 ih2 =>
            intro mk e
            unfold bw at e
            split at e
            · split at e
              · exact ih1 mk.2.2.1 e
              · exact ih2 mk.2.2.2 e
            · have e : fkT d' b' (h (aT h l')) (h (aT h r')) = fkT d b (h (aT h l)) (h (aT h r)) := e
              unfold fkT at e
              injection e with _ e; injection e with _ e; injection e with _ e; injection e with e1 e; injection e with e2 _
              rw [← e1, ← e2]; exact ⟨mk.1.1, mk.2.1.1⟩
        exact this mk q1
      refine ⟨⟨by omega, by omega, by omega, p2z hk, gs, so, ?_, ?_, by omega⟩, ?_⟩
      · rw [q1]; exact zq (by omega) b60 ee.1 ee.2
      · rw [p1, q1]
        refine wX (by omega) (by omega) (by omega) (by have := p2z q4; simpa using this) ?_ ?_ (gp ee.1).2 (gp ee.2).2
        · rw [fK, ← q5, show ((d : Int) - (d1 : Int)).toNat = d - d1 by omega, ← eh, ← Int.natCast_ediv]
        · rw [fK]; omega
      · have e : (bw h B key t).head? = some (.inr "fork") := by rw [q1]; rfl
        rw [if_pos e]; omega
theorem CN {H:Hp} {g:List Key→Option Key} {x:Addr} {t:Kn Str} {m:Key} (T:Txt K mg A) (k:KnA A H g x t m):∃ C dx fs,H x=some (.ins C dx fs)∧Cls K C∧jL K C∧W.kitOne K (.ref C) (.ref A.c_Fork)=some (decide (kdK t=2)):=by
 obtain ⟨dx,p,fs,o,_⟩:=k.ob
 cases t with
 | bare=>exact ⟨_,dx,_,o,T.cl_Bare,T.oi_Bare,T.ko_Bare_Fork⟩
 | leaf _ _=>exact ⟨_,dx,_,o,T.cl_Leaf,T.oi_Leaf,T.ko_Leaf_Fork⟩
 | fork _ _ _ _=>exact ⟨_,dx,_,o,T.cl_Fork,T.oi_Fork,T.ko_Fork_Fork⟩
theorem KnA.term {H:Hp} {g:List Key→Option Key} {x:Addr} {t:Kn Str} {m:Key} (k:KnA A H g x t m) {h:List Key→Key} (he:Ext g h):∃ dx p fs,H x=some (.ins (clK A t) dx ((("term" :Str),.ref p)::fs))∧H p=some (.tup ((aT h t).map kV)):=by
 cases k with
 | bare o ht _ _ _=>exact ⟨_,_,_,o,ht⟩
 | leaf o ht _ _ _ _=>exact ⟨_,_,_,o,ht⟩
 | fork o hl hr ht _ _ _=>exact ⟨_,_,_,o,by rw [hl.ext he,hr.ext he] at ht;exact ht⟩
theorem zH {H:Hp} {p:Addr}:∀ {e:List Key},H p=some (.tup (e.map kV))→aY H (.ref p) (.tup (e.map bv)):=fun {e} hp=>by
 have:∀ e:List Key,DatWs H (e.map kV) (e.map bv):=fun e=>by
  induction e with
  | nil=>exact .nil
  | cons x r ih=>exact .cons (ph _ x) ih
 exact .tup hp (this e)
theorem Cz (K:W.Frag) (A:Adr):Ln (iK K A) 2:=by rintro vs H Q E ⟨x,f,g,B,t,m,v,d,rfl,_⟩;rfl
theorem HK (T : Txt K mg A) : Rd (iK K A) (Jf K A) ["table", "key", "steps", "knot"] := by
  intro vs H Q E h
  obtain ⟨x, f, g, B, t, m, v, dd, rfl, ta, ln, hd, qE, q⟩ := h
  obtain ⟨dx, y0, o, ky⟩ := ta.ob
  have B60 := ta.B60
  refine ⟨x, _, dx, _, _, rfl, o, T.cl_Table, T.na_Table_bits, rfl, (B : Int), v, dd, rfl, by omega, by omega, hd, ?_⟩
  cases hb : cY (B : Int) dd with
  | false => exact Sel.yes rfl (qE hb)
  | true =>
  obtain ⟨key, rfl, hk⟩ := qX hb
  cases hd.int_inv
  have q := q key rfl hk
  refine Sel.no rfl ⟨ba (n := 0) (by decide), fun D hD => ?_⟩
  have S0 := ay.upd (o := .lst []) hD
  refine ⟨x, _, dx, _, _, rfl, S0 _ _ o, T.cl_Table, T.na_Table_top, rfl, ?_⟩
  have mk := ky.mk (cK g)
  have szN9 : szN t ≤ 90000 := by have := ta.wf.szN; omega
  have gd := mX (h := cy g) ta.B1 B60 hk ta.wf mk szN9
  have gl := gd.1.len
  refine ⟨fun n σ H' => ∃ (xs : List V) (pre : List (Int × Key)) (u : Kn Str) (y : Addr) (mu : Key), n = hgt u ∧ σ = [some (.ref x), some (.int (key : Int)), some (.ref D), some (.ref y)] ∧ ay H H' ∧ H' D = some (.lst xs) ∧ DatWs H' xs (pre.map stD) ∧ KnA A H g y u mu ∧ fN B u ∧ aH (cy g) B key t = pre ++ aH (cy g) B key u ∧ bw (cy g) B key t = bw (cy g) B key u,
    ⟨_, [], [], t, y0, m, rfl, rfl, S0, ak, .nil, ky, ta.wf.dp.1, rfl, rfl⟩, ?_⟩
  rintro n σ H1 ⟨xs, pre, u, y, mu, rfl, rfl, S1, hD1, w, ku, dp, es, ee⟩
  have hxl : xs.length = pre.length := by rw [w.len, List.length_map]
  have pl : pre.length ≤ 60 := by have := congrArg List.length es; rw [List.length_append] at this; omega
  have o1 := S1 _ _ o
  have fin : aH (cy g) B key u = [] → bw (cy g) B key u = aT (cy g) u → az (eY (ae (tCB (pF K) (ae (ab 2) (ag))) (ae (bd K (ab 3) "term") (ag)))) { nx := fun _ H' => Q .non H', rt := Q } [some (.ref x), some (.int (key : Int)), some (.ref D), some (.ref y)] H1 := fun e1 e2 => by
    rw [e1, List.append_nil] at es
    rw [e2] at ee
    refine ⟨D, xs, rfl, .inl ⟨SqL.of hD1, fun p hp => ?_⟩⟩
    have S2 := ay.upd (o := .tup xs) hp
    obtain ⟨dy, tp, fs, oy, htp⟩ := ku.term (cK g)
    refine ⟨y, _, dy, _, _, rfl, S2 _ _ (S1 _ _ oy), (dF T u).1, (dF T u).2.2, rfl, ba (show 2 ≤ 1000000 by decide), fun r hr => ?_⟩
    have S3 := ay.upd (o := .tup [.ref p, .ref tp]) hr
    refine q r pre _ _ (S1.trans (S2.trans S3)) ⟨.tup ak (.cons (.tup (S3 _ _ ak) ((w.mono S2).mono S3)) (.cons (zH (S3 _ _ (S2 _ _ (S1 _ _ htp)))) .nil)), ?_⟩ fun h he => ?_
    · have := gd.1; rw [es, ee] at this; exact this
    · obtain ⟨_, a, b⟩ := ky.same_ext he (cK g) B key
      rw [a, b, es, ee]; exact ⟨rfl, rfl⟩
  obtain ⟨C, dz, fz, oz, c1, c2, c3⟩ := CN T ku
  refine ⟨y, C, dz, fz, _, _, rfl, S1 _ _ oz, c1, c2, c3, ?_⟩
  cases u with
  | bare => exact Sel.no rfl (fin rfl rfl)
  | leaf k z => exact Sel.no rfl (fin rfl rfl)
  | fork d b tl tr =>
    refine Sel.yes rfl ?_
    obtain ⟨l, r, ml, mr, fk, kl, kr⟩ := ku.fk
    have fk1 : hV A H1 y d b l r := let ⟨a, b, c, z⟩ := fk; ⟨a, b, c, S1 _ _ z⟩
    obtain ⟨dy, tp, mm, oy⟩ := id fk1
    refine ⟨y, dy, _, rfl, oy, rfl, x, _, dx, _, _, rfl, o1, T.cl_Table, T.na_Table_bits, rfl, y, l, r, d, b, B, key, rfl, fk1, dp.1, ?_⟩
    by_cases hb : st B key d = b
    · rw [decide_eq_true hb]
      refine ⟨fun σ' H' => ∃ (xs : List V) (pre : List (Int × Key)) (u : Kn Str) (y : Addr) (mu : Key), hgt u < hgt (Kn.fork d b tl tr) ∧ σ' = [some (.ref x), some (.int (key : Int)), some (.ref D), some (.ref y)] ∧ ay H H' ∧ H' D = some (.lst xs) ∧ DatWs H' xs (pre.map stD) ∧ KnA A H g y u mu ∧ fN B u ∧ aH (cy g) B key t = pre ++ aH (cy g) B key u ∧ bw (cy g) B key t = bw (cy g) B key u, fun σ' H' ⟨xs', pre', u', y', mu', hlt, bY⟩ => ⟨hgt u', hlt, xs', pre', u', y', mu', rfl, bY⟩, ?_⟩
      have hgl : hgt tl < hgt (Kn.fork d b tl tr) := by show _ < max _ _ + 1; omega
      have hgr : hgt tr < hgt (Kn.fork d b tl tr) := by show _ < max _ _ + 1; omega
      have step : ∀ (z v : Addr) (tz tv : Kn Str) (mz mv : Key), KnA A H g z tz mz → KnA A H g v tv mv → hgt tv < hgt (Kn.fork d b tl tr) → fN B tv → aH (cy g) B key (Kn.fork d b tl tr) = ((d : Int), cy g (aT (cy g) tz)) :: aH (cy g) B key tv → bw (cy g) B key (Kn.fork d b tl tr) = bw (cy g) B key tv → (if sd B key d = 0 then r else l) = z → (if sd B key d = 0 then l else r) = v →
          aq (dm (tBM K "list" eR (ab 2) (ae (eY (ae (bd K (ab 3) "depth") (ae (bd K (bA A.c_Fork "aside" (mf K A) (fun _ => E0) (ab 3) (ae (bd K (ab 0) "bits") (ae (ab 1) (ag)))) "mark") (ag)))) (ag)))) (aF (bA A.c_Fork "toward" (jw K A) (fun _ => E0) (ab 3) (ae (bd K (ab 0) "bits") (ae (ab 1) (ag)))) (au 3)) { nx := fun σ' H' => ∃ (xs : List V) (pre : List (Int × Key)) (u : Kn Str) (y : Addr) (mu : Key), hgt u < hgt (Kn.fork d b tl tr) ∧ σ' = [some (.ref x), some (.int (key : Int)), some (.ref D), some (.ref y)] ∧ ay H H' ∧ H' D = some (.lst xs) ∧ DatWs H' xs (pre.map stD) ∧ KnA A H g y u mu ∧ fN B u ∧ aH (cy g) B key t = pre ++ aH (cy g) B key u ∧ bw (cy g) B key t = bw (cy g) B key u, rt := Q } [some (.ref x), some (.int (key : Int)), some (.ref D), some (.ref y)] H1 := by
        intro z v tz tv mz mv kz kv hv dv e1 e2 ez ev
        obtain ⟨dz, pz, fz, oz, _⟩ := kz.ob
        refine ⟨.inl ⟨rfl, _, SqL.of hD1⟩, y, _, dy, _, _, rfl, oy, T.cl_Fork, T.na_Fork_depth, rfl, y, dy, _, rfl, oy, rfl, x, _, dx, _, _, rfl, o1, T.cl_Table, T.na_Table_bits, rfl, y, l, r, d, b, B, key, rfl, fk1, dp.1, ?_⟩
        rw [ez]
        refine ⟨z, _, dz, _, _, rfl, S1 _ _ oz, (dF T tz).1, (dF T tz).2.1, rfl, ba (show 2 ≤ 1000000 by decide), fun p hp => ?_⟩
        have S2 := ay.upd (o := .tup [.int (d : Int), kV mz]) hp
        have hD2 := S2 _ _ hD1
        refine ⟨D, xs, .ref p, rfl, rfl, hD2, by rw [hxl]; exact du (by omega), ?_⟩
        have hp2 : upd H1 p (.tup [.int (d : Int), kV mz]) p = some (.tup [.int (d : Int), kV mz]) := ak
        have w2 := w.mono S2
        have S12 := S1.trans S2
        generalize upd H1 p (.tup [.int (d : Int), kV mz]) = H2 at S2 hD2 hp2 w2 S12
        have S3 : ay H (upd H2 D (.lst (xs ++ [.ref p]))) := fun a u ea => by rw [ao (ax ea hD)]; exact S12 _ _ ea
        have kt : ∀ a us, H2 a = some (.tup us) → upd H2 D (.lst (xs ++ [.ref p])) a = some (.tup us) := fun a us ea => by rw [ao (ci ea hD2 fun q => nomatch q)]; exact ea
        have fk3 : hV A (upd H2 D (.lst (xs ++ [.ref p]))) y d b l r := let ⟨a, b, c, z⟩ := fk; ⟨a, b, c, S3 _ _ z⟩
        obtain ⟨dy3, tp3, mm3, oy3⟩ := id fk3
        refine ⟨y, dy3, _, rfl, oy3, rfl, x, _, dx, _, _, rfl, S3 _ _ o, T.cl_Table, T.na_Table_bits, rfl, y, l, r, d, b, B, key, rfl, fk3, dp.1, ?_⟩
        rw [ev]
        refine ⟨xs ++ [.ref p], pre ++ [((d : Int), mz)], tv, v, mv, hv, rfl, S3, ak, ?_, kv, dv, ?_, by rw [ee, e2]⟩
        · rw [List.map_append]
          refine ((w2.append (.cons (.tup hp2 (.cons (.int _) (.cons (ph _ mz) .nil))) .nil)).keepT kt ?_)
          have := jI (pre ++ [((d : Int), mz)])
          rwa [List.map_append] at this
        · rw [es, e1, kz.ext (cK g), List.append_assoc]; rfl
      by_cases e0 : sd B key d = 0
      · exact step r l tr tl mr ml kr kl hgl dp.2.2.1 (by show (if st B key d = b then (if sd B key d = 0 then _ else _) else _) = _; rw [if_pos hb, if_pos e0]) (by show (if st B key d = b then (if sd B key d = 0 then _ else _) else _) = _; rw [if_pos hb, if_pos e0]) (if_pos e0) (if_pos e0)
      · exact step l r tl tr ml mr kl kr hgr dp.2.2.2 (by show (if st B key d = b then (if sd B key d = 0 then _ else _) else _) = _; rw [if_pos hb, if_neg e0]) (by show (if st B key d = b then (if sd B key d = 0 then _ else _) else _) = _; rw [if_pos hb, if_neg e0]) (if_neg e0) (if_neg e0)
    · rw [decide_eq_false hb]
      refine fin ?_ ?_
      · show (if st B key d = b then _ else _) = _; rw [if_neg hb]
      · show (if st B key d = b then _ else _) = _; rw [if_neg hb]
end Rs
namespace Rs
open PySem PySem.Spec PyProof.Rows L2
variable {K:W.Frag} {mg:Str→Option Value} {A:Adr}
theorem Fg {H:Hp} {Q:VK} {p r:Addr} {d:Dat} (hp:aY H (.ref p) d) (hr:aY H (.ref r) d) (ok:okD d=true) (dp:(dL d).depth≤150) (q:Q (.bl false) H):dH K (.ref p) (.ref r) H Q:=
 ⟨_,_,hp.toV ok,hr.toV ok,fu ok,fu ok,dp,by rw [PySem.SeqAt.eqv_refl _ (fu ok)];exact q⟩
def tkN (kn:List (Nat×Str)):List (Key×Str):=kn.map fun p=>(.inl (p.1:Int),p.2)
theorem Dn (kn:List (Nat×Str)):dOf kn=txV (tkN kn):=by unfold dOf txV tkN;rw [List.map_map];rfl
theorem p2n {k:Int} {B:Nat} (h0:0≤k) (h:k<2^((B:Nat):Int).toNat):∃ j:Nat,k=(j:Int)∧j<2^B:=by
 obtain ⟨j,rfl⟩:=Int.eq_ofNat_of_zero_le h0
 refine ⟨j,rfl,?_⟩
 have h:((j:Nat):Int)<2^B:=by simpa using h
 rw [← eh] at h;omega
theorem DG (K:W.Frag) (A:Adr):Ln (lK K A) 5:=by rintro vs H Q E ⟨x,f,b,kd,L,g,n,B,t,m,kn,ks,c,rfl,_⟩;rfl
theorem EO (T:Txt K mg A):Rd (lK K A) (JG K A) ["_law_table", "_law_bits_here", "_law_known", "_law_keys", "_law_cell", "_law_number_here", "_law_key_here", "_law_told"]:=by
 intro vs H Q E h
 obtain ⟨x,f,b,kd,L,g,n,B,t,m,kn,ks,c,rfl,tk,hl,s,hn,hL,lk,kk,q⟩:=h
 have B1:=tk.ta.B1
 have B60:=tk.ta.B60
 have put:∀ H1,ay H H1→Ba K A { nx:=fun _ H'=>Q .non H',rt:=Q } [some (.ref x),some (.int (B:Int)),some (.ref kd),some (.ref L),some (.int c),some (.int (c/4)),none,none] H1:=fun H1 S1=>by
  refine ⟨(B:Int),c/4,L,ks,rfl,by omega,by omega,S1 _ _ hL,lk,kk,fun k H2 S2 k0 k1=>?_⟩
  obtain ⟨key,rfl,hkey⟩:=p2n k0 k1
  refine ⟨mM (by decide) (by decide),by decide,_,rfl,fun z H3 S3 zl za=>?_⟩
  have hz:eP z:=⟨za,zl⟩
  have S:=S1.trans (S2.trans S3)
  have tk2:=tk.same S
  have s2:=s.same (Nat.le_refl _) S
  obtain ⟨nkb,nkx⟩:=tk2.ne s2
  have ts2:=tk2.ts s2
  obtain ⟨dx,y,o⟩:=ts2.ob
  refine ⟨x,dx,_,rfl,o,rfl,x,f,b,g,n,B,t,m,_,_,.int (key:Int),.str z,rfl,ts2,hn,.int _,.str _,FZ hz,fun h=>(by rw [ir hkey] at h;cases h),fun key' ek hk'=>⟨fun h=>(by rw [zY hz] at h;cases h),fun z2 e2 _ m4 g4 H4 k4 ta4 s4 sub4=>?_⟩⟩
  cases e2
  have:key'=key:=by have:=Dat.int.inj ek;omega
  subst this
  have hk4:=k4 _ _ nkb nkx tk2.hk
  refine .inr ⟨kd,_,rfl,mE.k (k:=.inl (key':Int)) hk4 (du (by unfold dOf;rw [List.length_map];omega)),?_⟩
  rw [Aq]
  have ln4:=jk (B:=B) (key:=key') (z:=z) t
  have ts4:TbS A H4 x f b g4 (n+65) B (bR B key' z t) m4:=⟨ta4,s4,by have:=tk.kno.len tk.ta.wf;omega⟩
  have ts5:=ts4.dk (kvs':=dOf (hJ kn key' z)) hk4
  have kn4:=(qS (k:=key') (z:=z) tk.kno.nd).2
  exact q key' _ m4 (hJ kn key' z) g4 _ (fun w u wb wx wd e=>by rw [ao wd];exact k4 w u wb wx (S _ _ e)) ⟨ts5.ta,ak,tk.kno.put tk.ta.wf hkey (by omega)⟩ kn4 ts5.s sub4 hkey
 refine ⟨⟨by decide,by decide⟩,by decide,Sel.dec (fun h=>?_) (fun h=>Sel.f (put H (.refl H)))⟩
 refine .inl fun p hp=>?_
 have S1:=ay.upd (o:=.dK []) hp
 refine ⟨kd,p,tkN kn,[],rfl,rfl,by rw [← Dn];exact S1 _ _ tk.hk,ak,?_⟩
 cases hkn:kn with
 | nil=>exact Sel.no rfl (put _ S1)
 | cons p0 r0=>
 refine Sel.yes rfl ?_
 have tk1:=tk.same S1
 have s1:=s.same (Nat.le_refl n) S1
 generalize upd H p (.dK [])=H1 at S1 tk1 s1
 have kl:0<(kn.length:Int):=by rw [hkn];show 0<((r0.length+1:Nat):Int);omega
 refine ⟨kd,kn.map fR,rfl,by rw [tk1.hk,Ap];rfl,by rw [List.length_map];omega,fun l ns hl pm _=>?_⟩
 have S2:=ay.upd (o:=.lst (ns.map V.int)) hl
 have hl1:upd H1 l (.lst (ns.map V.int)) l=some (.lst (ns.map V.int)):=ak
 have tk2:=tk1.same S2
 have s2:=s1.same (Nat.le_refl n) S2
 have S12:=S1.trans S2
 generalize upd H1 l (.lst (ns.map V.int))=H2 at S2 hl1 tk2 s2 S12
 have nl:ns.length=kn.length:=by rw [pm.length_eq,List.length_map,List.length_map]
 refine .inl (.inr (.inr ⟨_,tk2.hk,?_⟩))
 have dl:(dOf kn).length=kn.length:=List.length_map _
 rw [dl]
 refine ⟨kl,BZ hl1 (Int.emod_nonneg _ (by omega)) (by rw [List.length_map,nl];exact Int.emod_lt_of_pos _ kl) fun v hv=>?_⟩
 obtain ⟨i,hi,rfl⟩:=List.mem_map.mp hv
 have mi:=pm.mem_iff.mp hi
 rw [List.map_map] at mi
 obtain ⟨pr,hpr,rfl⟩:=List.mem_map.mp mi
 have hkey:=tk.kno.keys tk.ta.wf pr hpr
 have hf:aA B pr.1 t=some pr.2:=by rw [← tk.kno.eq];exact (iF tk.kno.nd).mpr hpr
 have ts2:=tk2.ts s2
 obtain ⟨dx,y,o⟩:=ts2.ob
 obtain ⟨nkb,nkx⟩:=tk2.ne s2
 refine ⟨x,dx,_,rfl,o,rfl,x,f,b,g,n,B,t,m,_,.int (pr.1:Int),rfl,ts2,hn,.int _,fun h=>(by rw [ir hkey] at h;cases h),fun key' ek hk'=>?_⟩
 have:key'=pr.1:=by have:=Dat.int.inj ek;omega
 subst this
 refine ⟨fun hf'=>(by rw [hf] at hf';cases hf'),fun z hz m4 g4 H4 k4 ta4 s4 sub4=>?_⟩
 have hk4:=k4 _ _ nkb nkx tk2.hk
 refine ⟨DB hk4,kd,_,.inl (pr.1:Int),.str pr.2,rfl,rfl,hk4,by rw [qA,tk.kno.eq,hf];rfl,?_⟩
 rw [xV]
 obtain ⟨kno3,l3⟩:=tk.kno.drop (key:=pr.1) tk.ta.wf
 have ln3:=gA (B:=B) (key:=pr.1) t
 have ts4:TbS A H4 x f b g4 (n+65) B (aI B pr.1 t) m4:=⟨ta4,s4,by have:=ts2.ln;omega⟩
 have ts5:=ts4.dk (kvs':=dOf (iO kn pr.1)) hk4
 exact q pr.1 _ m4 _ g4 _ (fun w u wb wx wd e=>by rw [ao wd];exact k4 w u wb wx (S12 _ _ e)) ⟨ts5.ta,ak,kno3⟩ (by omega) ts5.s sub4 hkey
end Rs
namespace Rs
open PySem PySem.Spec PyProof.Rows L2
variable {K:W.Frag} {mg:Str→Option Value} {A:Adr}
theorem WFo.told {h:List Key→Key} {B key:Nat} {t:Kn Str} (w:WFo B t):lw (key:Int) (bw h B key t)=ov (aA B key t):=by
 rcases w with rfl | w
 · rfl
 · exact kY (Nat.zero_le _) w
theorem TbA.last {H:Hp} {g g':List Key→Option Key} {x f:Addr} {B key:Nat} {t:Kn Str} {m y:Key} {st:List (Int×Key)} {e:List Key} (ta:TbA A H g x f B t m) (sub:Sub g g') (ex:∀ h,Ext g h→st=aH h B key t∧e=bw h B key t) (ey:∀ h,Ext g' h→y=h (fE h (B:Int) (key:Int) e st.reverse)):y=m:=by
 obtain ⟨dx,y0,o,ky⟩:=ta.ob
 have he:=(cK g').of sub
 have e1:=ex _ he
 rw [ey _ (cK g'),e1.1,e1.2,iW ta.wf.dp.1,←ky.ext he]
theorem TK.ln {H:Hp} {x f kd:Addr} {g:List Key→Option Key} {B:Nat} {t:Kn Str} {m:Key} {kn:List (Nat×Str)} (h:TK A H x f kd g B t m kn):(aB t).length≤63:=by rw [h.kno.len h.ta.wf];exact h.kno.ln
theorem TK.many {H:Hp} {x f kd:Addr} {g:List Key→Option Key} {B key:Nat} {t:Kn Str} {m:Key} {kn:List (Nat×Str)} {st:List (Int×Key)} {e:List Key} (h:TK A H x f kd g B t m kn) (hk:key<2^B) (ex:∀ h,Ext g h→st=aH h B key t∧e=bw h B key t):st.length+(if e.head?=some (.inr "fork") then 2 else 0)≤B∧st.length+(if e.head?=some (.inr "fork") then 2 else 0)≤kn.length:=by
 obtain ⟨dx,y0,o,ky⟩:=h.ta.ob
 have l:=h.ln
 have sz:=h.ta.wf.szN
 obtain ⟨e1,e2⟩:=ex _ (cK g)
 have:=(mX (h:=cy g) (key:=key) h.ta.B1 h.ta.B60 hk h.ta.wf (ky.mk (cK g)) (by omega)).2
 rw [e1,e2,←h.kno.len h.ta.wf];exact this
theorem qr (o:Option Str):ov o=.non∨∃ z,ov o=.str z:=by
 cases o with
 | none=>exact .inl rfl
 | some z=>exact .inr ⟨z,rfl⟩
theorem DC (K:W.Frag) (A:Adr):Ln (jT K A) 6:=by rintro vs H Q E ⟨x,f,b,kd,g,n,B,t,m,kn,key,rfl,_⟩;rfl
theorem FQ (T:Txt K mg A):Rd (jT K A) (JI K A) ["_law_table", "_law_stamper_here", "_law_bits_here", "_law_root", "_law_known", "_law_key_here", "_law_slip", "_law_many"]:=by
 intro vs H Q E h
 obtain ⟨x,f,b,kd,g,n,B,t,m,kn,key,rfl,tk,s,hn,hkey,q⟩:=h
 have B1:=tk.ta.B1
 have B60:=tk.ta.B60
 refine ⟨x,f,g,B,t,m,_,.int (key:Int),rfl,tk.ta,by have:=tk.ln;omega,.int _,fun h=>(by rw [ir hkey] at h;cases h),fun key' ek hk' p st e H1 S1 sl ex=>?_⟩
 have:key'=key:=by have:=Dat.int.inj ek;omega
 subst this
 have s1:=s.same (Nat.le_refl n) S1
 have tk1:=tk.same S1
 refine ⟨f,b,(B:Int),.int (key':Int),.ref p,g,n,rfl,by omega,by omega,s1,by omega,.good (key':Int) st e rfl sl fun y g2 H2 kb2 s2 sub2 oky ey=>?_⟩
 have ym:y=m:=tk.ta.last sub2 ex ey
 subst ym
 have sl2:=sl.kb s1 kb2
 have tk2:=tk1.kb s1 kb2 sub2
 refine pL (Sel.no rfl ?_)
 obtain ⟨a,sa,ta,xs,ea,ha,hs,ws,ht⟩:=km sl2
 cases ea
 have hxl:xs.length=st.length:=by rw [ws.len];simp
 have gl:=sl2.2.len
 obtain ⟨mB,mK⟩:=tk.many hkey ex
 obtain ⟨e0,er,rfl⟩:∃ e0 er,e=e0::er:=by
   cases e with
   | nil=>have:=(kj sl2.2.et).1;simp at this
   | cons a r=>exact ⟨a,r,rfl⟩
 refine ixT (j:=0) ha rfl rfl (.inl (.inr (.inl ⟨xs,SqT.of hs,?_⟩)))
 refine ixT (j:=1) ha rfl rfl (ixT (j:=0) ht rfl rfl ?_)
 show bN K (kV e0) (kV (.inr "fork")) _ _
 refine xl ⟨IntMulOk.of_left (by decide),?_⟩
 rw [hxl]
 have me:(2:Int)*(if decide (e0=.inr "fork")=true then 1 else 0)=((if (e0::er).head?=some (.inr "fork") then 2 else 0:Nat):Int):=by
   by_cases z:e0=.inr "fork"
   · rw [decide_eq_true z,if_pos rfl,if_pos (by rw [z];rfl)];rfl
   · rw [decide_eq_false z,if_neg (by decide),if_neg (by intro w;exact z (Option.some.inj w))];rfl
 show Bm K A _ [some (.ref x),some (.ref f),some (.int (B:Int)),some (kV y),some (.ref kd),some (.int (key':Int)),some (.ref p),some (.int ((st.length:Int)+2*(if decide (e0=.inr "fork")=true then 1 else 0)))] H2
 rw [me]
 generalize (if (e0::er).head?=some (.inr "fork") then 2 else 0:Nat)=w at mB mK
 refine Sel.no (decide_eq_false (by omega)) (.inl (.inr (.inr ⟨_,tk2.hk,Sel.no (decide_eq_false ?_) ?_⟩)))
 · have:(dOf kn).length=kn.length:=List.length_map _
   rw [this];omega
 refine ⟨f,b,(B:Int),y,.int (key':Int),.ref p,g2,_,rfl,by omega,by omega,s2,by omega,.good (key':Int) st (e0::er) rfl sl2 fun u g3 H3 kb3 s3 sub3 oku eu=>⟨fun _=>?_,fun ne=>absurd ?_ ne⟩⟩
 · have tk3:=tk2.kb s2 kb3 sub3
   refine ⟨⟨kd,rfl,_,.inl tk3.hk⟩,kd,_,_,rfl,rfl,tk3.dg key',?_⟩
   rw [uo,(ex _ (cK g)).2,tk.ta.wf.told]
   exact ⟨_,rfl,qr _,q g3 H3 ((aW.same S1).trans (kb2.trans kb3)) (s3.same (by omega) (.refl _)) (sub2.trans sub3)⟩
 · exact tk.ta.last (sub2.trans sub3) ex eu
theorem fh.dat {B k : Int} {st : List (Int × Key)} {e : List Key} (g : fh B k st e) : okD (.tup [.tup (st.map stD), .tup (e.map bv)]) = true ∧ (dL (.tup [.tup (st.map stD), .tup (e.map bv)])).depth ≤ 150 := by
  have a : ∀ st : List (Int × Key), (∀ s ∈ st, okP s.2 = true) → okDs (st.map stD) = true ∧ PyData.depthAll (toPys (st.map stD)) ≤ 1 := by
    intro st
    induction st with
    | nil => intro _; exact ⟨rfl, Nat.zero_le _⟩
    | cons s r ih =>
      intro h
      obtain ⟨i1, i2⟩ := ih fun x hx => h x (List.mem_cons_of_mem _ hx)
      constructor
      · show ((true && (okD (bv s.2) && true)) && okDs (r.map stD)) = true
        rw [(gp (h s List.mem_cons_self)).1, i1]; rfl
      · show max (max 0 (max (dL (bv s.2)).depth 0) + 1) (PyData.depthAll (toPys (r.map stD))) ≤ 1
        rw [qH]; omega
  obtain ⟨a1, a2⟩ := a st g.so
  constructor
  · show (okDs (st.map stD) && (okDs (e.map bv) && true)) = true
    rw [a1, jl (ft g.et)]; rfl
  · show max (PyData.depthAll (toPys (st.map stD)) + 1) (max (PyData.depthAll (toPys (e.map bv)) + 1) 0) + 1 ≤ 150
    rw [mn]; omega
theorem oR.kb {H H':Hp} {g g':List Key→Option Key} {f b:Addr} {B n:Nat} {p:Addr} (h:oR A H g f B p) (s:Stp A H f b g n) (kb:aW b H H') (sub:Sub g g'):oR A H' g' f B p:=by
 obtain ⟨x,kd,r,t,m,kn,key,st,e,hp,tk,hk,sl,ex⟩:=h
 exact ⟨x,kd,r,t,m,kn,key,st,e,s.tup kb _ _ hp,tk.kb s kb sub,hk,sl.kb s kb,fun h he=>ex h (he.of sub)⟩
theorem Bx (K:W.Frag) (A:Adr):Ln (lA K A) 4:=by rintro vs H Q E ⟨O,f,b,L,g,n,B,ps,ks,rfl,_⟩;rfl
theorem FR (T:Txt K mg A):Rd (lA K A) (Ji K A) ["_law_olds", "_law_stamper_here", "_law_bits_here", "_law_keys", "_law_twin_then", "_law_known", "_law_root", "_law_key_here", "_law_slip", "_law_other"]:=by
 intro vs H Q E h
 obtain ⟨O,f,b,L,g,n,B,ps,ks,rfl,s,hn,hO,pl,old,hL,kl,kk,q⟩:=h
 refine ⟨O,rfl,.inl ⟨⟨_,SqL.of hO⟩,?_⟩⟩
 refine gD (xs:=ps.map V.ref) (fun i σ H'=>∃ g' x4 x5 x6 x7 x8 x9,σ=[some (.ref O),some (.ref f),some (.int (B:Int)),some (.ref L),x4,x5,x6,x7,x8,x9]∧aW b H H'∧Stp A H' f b g' (n+1500*i)∧Sub g g') ⟨g,none,none,none,none,none,none,rfl,aW.rfl',s,Sub.rfl'⟩ ?_ ?_ ?_
 · rintro i σ H' _ ⟨_,_,_,_,_,_,_,_,kb,_⟩;exact SqL.of (s.lst kb _ _ hO)
 · rintro i v σ H1 hv ⟨g1,x4,x5,x6,x7,x8,x9,rfl,kb1,s1,sub1⟩
   have hi:i<(ps.map V.ref).length:=(List.getElem?_eq_some_iff.mp hv).1
   rw [List.length_map] at hi
   obtain ⟨p,hp,rfl⟩:=List.mem_map.mp (List.mem_of_getElem? hv)
   obtain ⟨x,kd,r,t,m,kn,key,st,e,hpt,tk,hkey,sl,ex⟩:=(old p hp).kb s kb1 sub1
   have B1:=tk.ta.B1
   have B60:=tk.ta.B60
   refine ⟨p,_,rfl,SqT.of hpt,rfl,_,_,rfl,_,_,rfl,_,_,rfl,_,_,rfl,_,_,rfl,rfl,?_⟩
   refine ⟨x,f,g1,B,t,m,_,.int (key:Int),rfl,tk.ta,by have:=tk.ln;omega,.int _,fun h=>(by rw [ir hkey] at h;cases h),fun key' ek hk' p2 st2 e2 H2 S2 sl2 ex2=>?_⟩
   have:key'=key:=by have:=Dat.int.inj ek;omega
   subst this
   have es:st2=st∧e2=e:=by
     have a:=ex _ (cK g1)
     have c:=ex2 _ (cK g1)
     rw [a.1,a.2,c.1,c.2];exact ⟨rfl,rfl⟩
   obtain ⟨rfl,rfl⟩:=es
   obtain ⟨ok,dp⟩:=sl.2.dat
   have tk2:=tk.same S2
   have s2:=s1.same (Nat.le_refl _) S2
   have slr:=sl.same S2
   obtain ⟨a1,_,_,_,ea1,_⟩:=km sl2
   cases ea1
   refine BP (v:=.ref r) rfl ?_
   refine Fg sl2.1 slr.1 ok dp ?_
   refine Sel.no rfl ?_
   obtain ⟨dx,y0,o,ky⟩:=tk2.ta.ob
   refine ⟨x,dx,_,rfl,o,rfl,x,f,g1,B,t,m,rfl,tk2.ta,pL (Sel.no rfl ?_)⟩
   refine ⟨f,b,(B:Int),m,.int (key':Int),.ref r,g1,_,rfl,by omega,by omega,s2,by omega,.good (key':Int) st2 e2 rfl slr fun u g3 H3 kb3 s3 sub3 oku eu=>⟨fun _=>?_,fun ne=>absurd (tk.ta.last sub3 ex eu) ne⟩⟩
   have tk3:=tk2.kb s2 kb3 sub3
   refine ⟨⟨kd,rfl,_,.inl tk3.hk⟩,kd,_,_,rfl,rfl,tk3.dg key',?_⟩
   rw [uo,(ex _ (cK g1)).2,tk.ta.wf.told]
   refine ⟨_,rfl,qr _,Sel.no rfl ?_⟩
   have kb3':=kb1.trans ((aW.same S2).trans kb3)
   have hL3:=s.lst kb3' _ _ hL
   refine ⟨L,rfl,.inl ⟨⟨_,SqL.of hL3⟩,?_⟩⟩
   have s3:Stp A H3 f b g3 (n+1500*i+61):=s3
   refine gD (xs:=ks.map fun k:Nat=>V.int (k:Int)) (fun j σ H'=>∃ g' x9,σ=[some (.ref O),some (.ref f),some (.int (B:Int)),some (.ref L),some (.ref x),some (.ref kd),some (kV m),some (.int (key':Int)),some (.ref r),x9]∧aW b H3 H'∧Stp A H' f b g' (n+1500*i+61+200*j)∧Sub g3 g') ⟨g3,x9,rfl,aW.rfl',s3,Sub.rfl'⟩ ?_ ?_ ?_
   · rintro j σ H' _ ⟨_,_,_,kb,_⟩;exact SqL.of (s3.lst kb _ _ hL3)
   · rintro j v σ H4 hv ⟨g4,y9,rfl,kb4,s4,sub4⟩
     have hj:j<(ks.map fun k:Nat=>V.int (k:Int)).length:=(List.getElem?_eq_some_iff.mp hv).1
     rw [List.length_map] at hj
     obtain ⟨k,hk,rfl⟩:=List.mem_map.mp (List.mem_of_getElem? hv)
     refine ⟨x,f,b,kd,g4,_,B,t,m,kn,k,rfl,tk3.kb s3 kb4 sub4,s4,by omega,kk k hk,fun g5 H5 kb5 s5 sub5=>Sel.no rfl ?_⟩
     exact ⟨g5,_,rfl,kb4.trans kb5,s5.same (by omega) (.refl _),sub4.trans sub5⟩
   · rintro σ H4 ⟨g4,y9,rfl,kb4,s4,sub4⟩
     rw [List.length_map] at s4
     exact ⟨g4,_,_,_,_,_,_,rfl,kb3'.trans kb4,s4.same (by omega) (.refl _),sub1.trans (sub3.trans sub4)⟩
 · rintro σ H1 ⟨g1,x4,x5,x6,x7,x8,x9,rfl,kb1,s1,sub1⟩
   exact q H1
end Rs
namespace Rs
open PySem PySem.Spec PyProof.Rows L2
variable {K:W.Frag} {mg:Str→Option Value} {A:Adr}
abbrev nV (ks:List Nat):List V:=ks.map fun k:Nat=>V.int (k:Int)
theorem BN (ks:List Nat):nV ks=(ks.map fun k:Nat=>(k:Int)).map V.int:=by unfold nV;rw [List.map_map];rfl
theorem gx {H:Hp} {L:Addr} {xs ys:List V} (hL:H L=some (.lst xs)):∀ z o,H z=some o→(∀ zs,o≠ .lst zs)→upd H L (.lst ys) z=some o:=fun z o e n=>by rw [ao (ci e hL (n _))];exact e
theorem Stp.ul {H:Hp} {f b L:Addr} {g:List Key→Option Key} {n:Nat} {xs ys:List V} (s:Stp A H f b g n) (hL:H L=some (.lst xs)):Stp A (upd H L (.lst ys)) f b g n:=s.keep (Nat.le_refl _) fun z o e h=>gx hL z o e fun zs q=>by
 subst q;rcases h with ⟨_,q⟩ | ⟨_,_,q⟩ | ⟨_,_,_,q⟩ <;> cases q
theorem knO.lst {xs:List V} (h:knO (.lst xs)):False:=by rcases h with ⟨_,h⟩ | ⟨_,_,_,_,_,h⟩ <;> cases h
theorem knO.dK {kvs:List (Key×V)} (h:knO (.dK kvs)):False:=by rcases h with ⟨_,h⟩ | ⟨_,_,_,_,_,h⟩ <;> cases h
theorem TK.keep {H H':Hp} {x f kd:Addr} {g g':List Key→Option Key} {B:Nat} {t:Kn Str} {m:Key} {kn:List (Nat×Str)} (h:TK A H x f kd g B t m kn) (kx:∀ o,H x=some o→H' x=some o) (k:∀ z o,H z=some o→knO o→H' z=some o) (kk:H kd=some (.dK (dOf kn))→H' kd=some (.dK (dOf kn))) (sub:Sub g g'):TK A H' x f kd g' B t m kn:=⟨h.ta.keep kx k sub,kk h.hk,h.kno⟩
theorem TK.ul {H:Hp} {x f kd L:Addr} {g:List Key→Option Key} {B:Nat} {t:Kn Str} {m:Key} {kn:List (Nat×Str)} {xs ys:List V} (h:TK A H x f kd g B t m kn) (hL:H L=some (.lst xs)):TK A (upd H L (.lst ys)) x f kd g B t m kn:=by
 obtain ⟨dx,y,o,_⟩:=h.ta.ob
 exact h.keep (fun u e=>gx hL _ _ e fun zs q=>by subst q;rw [o] at e;cases e) (fun z u e hu=>gx hL _ _ e fun zs q=>by subst q;exact hu.lst) (fun e=>gx hL _ _ e fun _ q=>nomatch q) Sub.rfl'
def cU (A:Adr) (H:Hp) (g:List Key→Option Key) (f:Addr) (B:Nat) (x kd:Addr) (p:Addr):Prop:=∃ (x' kd' r:Addr) (t:Kn Str) (m:Key) (kn:List (Nat×Str)) (key:Nat) (st:List (Int×Key)) (e:List Key),x'≠x∧kd'≠kd∧H p=some (.tup [.ref x',.ref kd',kV m,.int (key:Int),.ref r])∧TK A H x' f kd' g B t m kn∧key<2^B∧dj H (.ref r) B key st e∧∀ h,Ext g h→st=aH h B key t∧e=bw h B key t
theorem cU.old {H:Hp} {g:List Key→Option Key} {f x kd p:Addr} {B:Nat} (h:cU A H g f B x kd p):oR A H g f B p:=by
 obtain ⟨x',kd',r,t,m,kn,key,st,e,_,_,h⟩:=h
 exact ⟨x',kd',r,t,m,kn,key,st,e,h⟩
theorem cU.keep {H H':Hp} {g g':List Key→Option Key} {f x kd p:Addr} {B:Nat} (h:cU A H g f B x kd p) (k:∀ z o,H z=some o→knO o→H' z=some o) (kx:∀ z C dx v fs,z≠x→H z=some (.ins C dx ((("stamper" :Str),v)::fs))→H' z=some (.ins C dx ((("stamper" :Str),v)::fs))) (kk:∀ z kvs,z≠kd→H z=some (.dK kvs)→H' z=some (.dK kvs)) (sub:Sub g g'):cU A H' g' f B x kd p:=by
 obtain ⟨x',kd',r,t,m,kn,key,st,e,nx,nk,hp,tk,hk,sl,ex⟩:=h
 obtain ⟨dx,y,o,_⟩:=tk.ta.ob
 exact ⟨x',kd',r,t,m,kn,key,st,e,nx,nk,k _ _ hp (.inl ⟨_,rfl⟩),tk.keep (fun u eu=>by rw [o] at eu;cases eu;exact kx _ _ _ _ _ nx o) k (fun e=>kk _ _ nk e) sub,hk,sl.keep fun _ _ h=>k _ _ h (.inl ⟨_,rfl⟩),fun h he=>ex h (he.of sub)⟩
theorem cU.same {H H':Hp} {g:List Key→Option Key} {f x kd p:Addr} {B:Nat} (h:cU A H g f B x kd p) (S:ay H H'):cU A H' g f B x kd p:=h.keep (fun _ _ e _=>S _ _ e) (fun _ _ _ _ _ _ e=>S _ _ e) (fun _ _ _ e=>S _ _ e) Sub.rfl'
theorem cU.ul {H:Hp} {g:List Key→Option Key} {f x kd p L:Addr} {B:Nat} {xs ys:List V} (h:cU A H g f B x kd p) (hL:H L=some (.lst xs)):cU A (upd H L (.lst ys)) g f B x kd p:=h.keep (fun z u e hu=>gx hL _ _ e fun zs q=>by subst q;exact hu.lst) (fun _ _ _ _ _ _ e=>gx hL _ _ e fun _ q=>nomatch q) (fun _ _ _ e=>gx hL _ _ e fun _ q=>nomatch q) Sub.rfl'
theorem cU.k3 {H H':Hp} {g g' g0:List Key→Option Key} {f x kd p b:Addr} {B n:Nat} {t:Kn Str} {m:Key} {kn:List (Nat×Str)} (h:cU A H g f B x kd p) (s:Stp A H f b g0 n) (tk:TK A H x f kd g B t m kn) (k3:yP b x kd H H') (sub:Sub g g'):cU A H' g' f B x kd p:=by
 obtain ⟨dx,y,o,_⟩:=tk.ta.ob
 refine h.keep (fun z u e hu=>k3 z u (s.nb e (fun _ q=>by subst q;exact hu.dT) fun _ q=>by subst q;exact hu.ext) (fun q=>by subst q;rw [o] at e;cases e;exact hu.tab) (fun q=>by subst q;rw [tk.hk] at e;cases e;exact hu.dK) e)
  (fun z C dz v fs nx e=>k3 _ _ (s.nb e fun _ q=>nomatch q) nx (ci e tk.hk fun q=>nomatch q) e) (fun z kvs nk e=>k3 _ _ (s.nb e fun _ q=>nomatch q) (ci e o fun q=>nomatch q) nk e) sub
theorem cU.kb {H H':Hp} {g g' g0:List Key→Option Key} {f x kd p b:Addr} {B n:Nat} (h:cU A H g f B x kd p) (s:Stp A H f b g0 n) (k:aW b H H') (sub:Sub g g'):cU A H' g' f B x kd p:=h.keep (fun z u e hu=>k z u (s.nb e (fun _ q=>by subst q;exact hu.dT) fun _ q=>by subst q;exact hu.ext) e)
 (fun z C dz v fs nx e=>k _ _ (s.nb e fun _ q=>nomatch q) e) (fun z kvs nk e=>k _ _ (s.nb e fun _ q=>nomatch q) e) sub
theorem JK (xs:List V):(bC xs (some (-7)) none).length≤7:=by
 unfold bC
 rw [List.length_take,List.length_drop]
 have e1:HT.sIx xs.length 0 (some (-7))=((-7:Int)+(xs.length:Int)).toNat:=rfl
 rw [e1]
 omega
theorem jW {xs:List V} {lo hi:Option Int} {v:V} (h:v∈bC xs lo hi):v∈xs:=by
 unfold bC at h
 exact List.mem_of_mem_drop (List.mem_of_mem_take h)
theorem kf {B : Nat} : ∀ {xs : List V}, (∀ v ∈ xs, ∃ k : Nat, v = .int (k : Int) ∧ k < 2 ^ B) → ∃ ks : List Nat, xs = nV ks ∧ (∀ k ∈ ks, k < 2 ^ B)
  | [], _ => ⟨[], rfl, fun _ h => nomatch h⟩
  | v :: r, h => by
    obtain ⟨k, rfl, hk⟩ := h v List.mem_cons_self
    obtain ⟨ks, rfl, hks⟩ := kf (xs := r) fun w hw => h w (List.mem_cons_of_mem _ hw)
    exact ⟨k :: ks, rfl, fun j hj => by rcases List.mem_cons.mp hj with rfl | z; exact hk; exact hks j z⟩
theorem lZ {B:Nat} {ks:List Nat} (h:∀ k∈ks,k<2^B):∀ v∈nV ks,∃ k:Nat,v=.int (k:Int)∧k<2^B:=fun v hv=>by
 obtain ⟨k,hk,rfl⟩:=List.mem_map.mp hv
 exact ⟨k,rfl,h k hk⟩
theorem lG.seq {H H':Hp} {a:Addr} {xs:List V} (e:lG H H') (h:SqL K H a xs):SqL K H' a xs:=by
 rcases h with (h | ⟨o,h⟩) | h
 · exact .inl (.inl (e _ _ h (fun _ z=>nomatch z)))
 · exact .inl (.inr ⟨o,e _ _ h (fun _ z=>nomatch z)⟩)
 · exact .inr h
theorem Stp.seq {H H':Hp} {f b a:Addr} {g:List Key→Option Key} {n:Nat} {xs:List V} (s:Stp A H f b g n) (k:aW b H H') (h:SqL K H a xs):SqL K H' a xs:=by
 rcases h with (h | ⟨o,h⟩) | h
 · exact .inl (.inl (s.lst k _ _ h))
 · exact .inl (.inr ⟨o,k _ _ (s.nb h fun _ z=>nomatch z) h⟩)
 · exact .inr h
end Rs
namespace Rs
open PySem PySem.Spec PyProof.Rows L2
variable {K:W.Frag} {mg:Str→Option Value} {A:Adr}
theorem Cv (K:W.Frag) (A:Adr):Ln (oC K A) 1:=by rintro vs H Q E ⟨a,ns,rfl,_⟩;rfl
structure sD (A:Adr) (H:Hp) (f b x kd KL OL:Addr) (B:Nat) (N:Nat) (g:List Key→Option Key) (t:Kn Str) (m:Key) (kn:List (Nat×Str)) (ks:List Nat) (ps:List Addr):Prop where
 tk:TK A H x f kd g B t m kn
 s:Stp A H f b g N
 hK:H KL=some (.lst (nV ks))
 kk:∀ k∈ks,k<2^B
 hO:H OL=some (.lst (ps.map V.ref))
 pl:ps.length≤3
 old:∀ p∈ps,cU A H g f B x kd p
theorem IU {Q:VK} {H:Hp} {a f b x kd KL OL:Addr} {B N:Nat} {g:List Key→Option Key} {t:Kn Str} {m:Key} {kn:List (Nat×Str)} {ks:List Nat} {ps:List Addr} {x7 x8:Option V} (E:sD A H f b x kd KL OL B N g t m kn ks ps) (hN:N≤10000) (hl:ks.length≤100) (q:∀ H',Q (.bl true) H'):
   uY K A { nx:=fun _ H'=>Q .non H',rt:=Q } [some (.ref a),some (.int (B:Int)),some (.ref f),some (.ref x),some (.ref kd),some (.ref KL),some (.ref OL),x7,x8,none] H:=by
 obtain ⟨tk,s,hK,kk,hO,pl,old⟩:=E
 have B1:=tk.ta.B1
 have B60:=tk.ta.B60
 have p0:=gE B
 have e1:(1:Int)*2^((B:Nat):Int).toNat=2^B:=by rw [Int.one_mul];simp
 refine ⟨⟨by omega,by omega,by decide⟩,ba (show 2≤1000000 by decide),fun p1 hp1=>?_⟩
 have S1:=ay.upd (o:=.lst [.int 0,.int (1*2^((B:Nat):Int).toNat - 1)]) hp1
 refine ⟨-7,rfl,.inl (.inl ⟨KL,_,rfl,SqL.of (S1 _ _ hK),fun p2 hp2=>?_⟩)⟩
 have S2:=ay.upd (o:=.lst (bC (nV ks) (some (-7)) none)) hp2
 have c7:=JK (nV ks)
 refine .inl ⟨p1,p2,_,_,rfl,rfl,S2 _ _ ak,ak,ba (by show 2+_≤1000000;omega),fun AL hAL=>?_⟩
 have S3:=ay.upd (o:=.lst ([.int 0,.int (1*2^((B:Nat):Int).toNat - 1)]++bC (nV ks) (some (-7)) none)) hAL
 have hm:∀ v∈bC (nV ks) (some (-7)) none,∃ k:Nat,v=.int (k:Int)∧k<2^B:=fun v hv=>lZ kk v (jW hv)
 obtain ⟨as,has,hasB⟩:∃ as:List Nat,[.int 0,.int (1*2^((B:Nat):Int).toNat - 1)]++bC (nV ks) (some (-7)) none=nV as∧∀ k∈as,k<2^B:=kf fun v hv=>by
   rcases List.mem_append.mp hv with z | z
   · rcases List.mem_cons.mp z with rfl | z
     · exact ⟨0,rfl,Nat.two_pow_pos _⟩
     · rw [List.mem_singleton.mp z,e1]
       obtain ⟨j,hj⟩:∃ j:Nat,(2:Int)^B - 1=(j:Int):=⟨((2:Int)^B - 1).toNat,by omega⟩
       refine ⟨j,by rw [hj],?_⟩
       rw [← eh] at hj;omega
   · exact hm v z
 have al:as.length≤9:=by
   have:=congrArg List.length has
   rw [List.length_append,List.length_map] at this
   have l2:([.int 0,.int (1*2^((B:Nat):Int).toNat - 1)]:List V).length=2:=rfl
   omega
 have hA3:upd (upd (upd H p1 (.lst [.int 0,.int (1*2^((B:Nat):Int).toNat - 1)])) p2 (.lst (bC (nV ks) (some (-7)) none))) AL (.lst ([.int 0,.int (1*2^((B:Nat):Int).toNat - 1)]++bC (nV ks) (some (-7)) none)) AL=some (.lst (nV as)):=by rw [ak,has]
 have S:=S1.trans (S2.trans S3)
 generalize upd (upd (upd H p1 (.lst [.int 0,.int (1*2^((B:Nat):Int).toNat - 1)])) p2 (.lst (bC (nV ks) (some (-7)) none))) AL (.lst ([.int 0,.int (1*2^((B:Nat):Int).toNat - 1)]++bC (nV ks) (some (-7)) none))=H3 at hA3 S
 clear S1 S2 S3 has
 show uF K A _ [some (.ref a),some (.int (B:Int)),some (.ref f),some (.ref x),some (.ref kd),some (.ref KL),some (.ref OL),x7,x8,some (.ref AL)] H3
 refine ⟨-7,rfl,.inl (.inl ⟨KL,_,rfl,SqL.of (S _ _ hK),fun c hc=>⟨c,_,rfl,SqL.of ak,fun D hD=>?_⟩⟩)⟩
 have S4:=ay.upd (o:=.lst (bC (nV ks) (some (-7)) none)) hc
 have hc4:upd H3 c (.lst (bC (nV ks) (some (-7)) none)) c=some (.lst (bC (nV ks) (some (-7)) none)):=ak
 generalize upd H3 c (.lst (bC (nV ks) (some (-7)) none))=H4 at S4 hc4 hD
 generalize bC (nV ks) (some (-7)) none=cs at hc4 hm c7
 refine uH (xs:=cs) (fun i ys H'=>ay H4 H'∧H' D=some (.lst ys)∧ys.length=i∧∀ y∈ys,∃ k:Nat,y=.int (k:Int)∧k<2^B) (fun i ys H' _ ⟨S5,_⟩=>SqL.of (S5 _ _ hc4)) ⟨ay.upd hD,ak,rfl,(fun _ z=>nomatch z)⟩ ?_ ?_
 · rintro i v ys H5 p hv ⟨S5,hD5,ly,hy⟩ hp
   have hi:i<cs.length:=(List.getElem?_eq_some_iff.mp hv).1
   obtain ⟨k,rfl,hk⟩:=hm v (List.mem_of_getElem? hv)
   have j0:=Int.emod_nonneg (i:Int) (b:=(B:Int)) (by omega)
   have j1:=Int.emod_lt_of_pos (i:Int) (b:=(B:Int)) (by omega)
   have fl:=rj (x:=(k:Int)) (m:=((B:Nat):Int).toNat) (j:=((i:Int)%(B:Int)).toNat) (by omega) (by omega) (p2z hk)
   obtain ⟨w,hw,hwB⟩:=p2n fl.1 fl.2
   have S6:=ay.upd (o:=.tup [.int (i:Int),.int (k:Int)]) hp
   refine rF ⟨by omega,⟨j0,by omega,by decide⟩,S6 _ _ hD5,by rw [ly];exact du (by omega),CWd.next hi ⟨fun z o e=>?_,ak,by rw [List.length_append,ly];rfl,fun y hyy=>?_⟩⟩
   · rw [ao (ax e hD)];exact S6 _ _ (S5 _ _ e)
   · rcases List.mem_append.mp hyy with z | z
     · exact hy y z
     · rw [List.mem_singleton.mp z];exact ⟨w,by rw [← hw],hwB⟩
 · rintro ys H5 ⟨S5,hD5,ly,hy⟩
   obtain ⟨ys,rfl,hyB⟩:=kf hy
   have S35:=S4.trans S5
   refine .inl ⟨AL,D,_,_,rfl,rfl,S35 _ _ hA3,hD5,ba (by rw [List.length_map,List.length_map];rw [List.length_map] at ly;omega),fun BL hBL=>?_⟩
   have S6:=ay.upd (o:=.lst (nV as++nV ys)) hBL
   have hB6:upd H5 BL (.lst (nV as++nV ys)) BL=some (.lst (nV (as++ys))):=by rw [ak];unfold nV;rw [List.map_append]
   have S36:=S.trans (S35.trans S6)
   rw [List.length_map] at ly
   show tY K A _ [some (.ref a),some (.int (B:Int)),some (.ref f),some (.ref x),some (.ref kd),some (.ref KL),some (.ref OL),x7,x8,some (.ref BL)] _
   generalize upd H5 BL (.lst (nV as++nV ys))=H6 at hB6 S36
   have tk6:=tk.same S36
   have s6:=s.same (Nat.le_refl N) S36
   have askB:∀ k∈as++ys,k<2^B:=fun k hk=>by
     rcases List.mem_append.mp hk with z | z
     · exact hasB k z
     · exact hyB k z
   have askL:(as++ys).length≤16:=by rw [List.length_append];omega
   generalize as++ys=zs at hB6 askB askL
   refine ⟨BL,rfl,.inl ⟨⟨_,SqL.of hB6⟩,?_⟩⟩
   refine gD (xs:=nV zs) (fun i σ H'=>∃ g' y8,σ=[some (.ref a),some (.int (B:Int)),some (.ref f),some (.ref x),some (.ref kd),some (.ref KL),some (.ref OL),x7,y8,some (.ref BL)]∧aW b H6 H'∧Stp A H' f b g' (N+200*i)∧Sub g g') ⟨g,x8,rfl,aW.rfl',s6,Sub.rfl'⟩ ?_ ?_ ?_
   · rintro i σ H' _ ⟨_,_,_,kb,_⟩;exact SqL.of (s6.lst kb _ _ hB6)
   · rintro i v σ H7 hv ⟨g7,y8,rfl,kb7,s7,sub7⟩
     have hi:i<(nV zs).length:=(List.getElem?_eq_some_iff.mp hv).1
     rw [List.length_map] at hi
     obtain ⟨k,rfl,hk⟩:=lZ askB v (List.mem_of_getElem? hv)
     have tk7:=tk6.kb s6 kb7 sub7
     obtain ⟨dx,y0,o,_⟩:=tk7.ta.ob
     refine ⟨x,dx,_,rfl,o,rfl,x,f,g7,B,t,m,rfl,tk7.ta,?_⟩
     refine ⟨x,f,b,kd,g7,_,B,t,m,kn,k,rfl,tk7,s7,by omega,hk,fun g8 H8 kb8 s8 sub8=>Sel.no rfl ?_⟩
     exact ⟨g8,_,rfl,kb7.trans kb8,s8.same (by omega) (.refl _),sub7.trans sub8⟩
   · rintro σ H7 ⟨g7,y8,rfl,kb7,s7,sub7⟩
     rw [List.length_map] at s7
     have hB7:=s6.lst kb7 _ _ hB6
     have hK7:=s6.lst kb7 _ _ (S36 _ _ hK)
     refine ⟨4,rfl,.inl (.inl ⟨BL,_,rfl,SqL.of hB7,fun q1 hq1=>?_⟩)⟩
     have T1:=ay.upd (o:=.lst (bC (nV zs) none (some 4))) hq1
     refine ⟨1,rfl,.inl (.inl ⟨KL,_,rfl,SqL.of (T1 _ _ hK7),fun q2 hq2=>?_⟩)⟩
     have T2:=ay.upd (o:=.lst (bC (nV ks) none (some 1))) hq2
     have ca:(bC (nV zs) none (some 4)).length≤4:=by
       unfold bC;rw [List.length_take]
       have e2:HT.sIx (nV zs).length (nV zs).length (some 4)=min 4 (nV zs).length:=HT.jM _ _ 4
       have e3:HT.sIx (nV zs).length 0 none=0:=rfl
       rw [e2,e3];omega
     have cb:(bC (nV ks) none (some 1)).length≤1:=by
       unfold bC;rw [List.length_take]
       have e2:HT.sIx (nV ks).length (nV ks).length (some 1)=min 1 (nV ks).length:=HT.jM _ _ 1
       have e3:HT.sIx (nV ks).length 0 none=0:=rfl
       rw [e2,e3];omega
     refine .inl ⟨q1,q2,_,_,rfl,rfl,T2 _ _ ak,ak,ba (by omega),fun q3 hq3=>?_⟩
     have T3:=ay.upd (o:=.lst (bC (nV zs) none (some 4)++bC (nV ks) none (some 1))) hq3
     have TT:=T1.trans (T2.trans T3)
     obtain ⟨us,eus,husB⟩:∃ us:List Nat,bC (nV zs) none (some 4)++bC (nV ks) none (some 1)=nV us∧∀ k∈us,k<2^B:=kf fun v hv=>by
       rcases List.mem_append.mp hv with z | z
       · exact lZ askB v (jW z)
       · exact lZ kk v (jW z)
     have ul:us.length≤5:=by
       have:=congrArg List.length eus
       rw [List.length_append,List.length_map] at this;omega
     refine ⟨OL,f,b,q3,g7,N+200*zs.length,B,ps,us,rfl,s7.same (Nat.le_refl _) TT,by omega,TT _ _ (s6.lst kb7 _ _ (S36 _ _ hO)),pl,fun p hp=>((((old p hp).same S36).kb s6 kb7 sub7).same TT).old,by rw [ak,eus],ul,husB,q⟩
theorem EW (T:Txt K mg A):Rd (oC K A) (JJ K A) ["_law_script", "_law_bits_here", "_law_stamper_here", "_law_table", "_law_known", "_law_keys", "_law_olds", "_law_cell", "_law_key_here", "_law_asked"]:=by
 intro vs H Q E h
 obtain ⟨a,ns,rfl,hs,hlen,tabs,q⟩:=h
 refine ⟨a,ns,0,rfl,hs,by decide,fun z0 H0 S0=>⟨z0,rfl,fun b0 H1 S1 b1 b60=>?_⟩⟩
 obtain ⟨B,rfl⟩:∃ B:Nat,b0=(B:Int):=⟨b0.toNat,by omega⟩
 have S1:=S0.trans S1
 show BO K A _ [some (.ref a),some (.int (B:Int)),none,none,none,none,none,none,none,none] H1
 refine ⟨a,ns,1,rfl,S1.seq hs,by decide,fun z1 H2 S2=>?_⟩
 have S2:=S1.trans S2
 have tabs2:nP A H2:=by
   unfold nP at tabs ⊢
   exact ⟨S2 _ _ tabs.1,S2 _ _ tabs.2.1,S2 _ _ tabs.2.2.1,S2 _ _ tabs.2.2.2.1,S2 _ _ tabs.2.2.2.2.1,tabs.2.2.2.2.2⟩
 refine ⟨z1,rfl,tabs2,fun f b g H3 k3 s3 _=>?_⟩
 have hs3:=k3.seq (S2.seq hs)
 show tQ K A _ [some (.ref a),some (.int (B:Int)),some (.ref f),none,none,none,none,none,none,none] H3
 clear S1 S2 S0 tabs tabs2 k3 hs
 intro x dx hx hdx ne
 refine pS hx hdx ne s3 (by omega) (by omega) (by omega) fun m0 g4 H4 kb4 ta4 s4 sub4=>⟨rfl,?_⟩
 have hs4:=s3.seq kb4 hs3
 show tw K A _ [some (.ref a),some (.int (B:Int)),some (.ref f),some (.ref x),none,none,none,none,none,none] H4
 refine .inl fun kd hkd=>?_
 have S5:=ay.upd (o:=.dK []) hkd
 have tk5:TK A (upd H4 kd (.dK [])) x f kd g4 B .bare m0 []:=⟨ta4.same S5,ak,.nil,by decide,fun k=>rfl⟩
 have s5:=s4.same (Nat.le_refl _) S5
 have hs5:=S5.seq hs4
 show tT K A _ [some (.ref a),some (.int (B:Int)),some (.ref f),some (.ref x),some (.ref kd),none,none,none,none,none] _
 generalize upd H4 kd (.dK [])=H5 at tk5 s5 hs5
 clear S5 s4 ta4 hs4 hkd kb4 hs3 s3
 refine ⟨a,ns,2,rfl,hs5,by decide,fun z2 H6 S6=>⟨ba (n:=0) (by decide),fun o ho=>⟨(B:Int),z2,o,[],rfl,by omega,by omega,ak,by decide,(fun _ z=>nomatch z),fun k0 H7 S7 k00 k01=>⟨ba (n:=1) (by decide),fun KL hKL=>?_⟩⟩⟩⟩
 obtain ⟨key0,rfl,hk0⟩:=p2n k00 k01
 have S7':=S6.trans ((ay.upd ho).trans S7)
 have S8:=S7'.trans (ay.upd (o:=.lst [.int (key0:Int)]) hKL)
 have hK8:upd H7 KL (.lst [.int (key0:Int)]) KL=some (.lst (nV [key0])):=ak
 have tk8:=tk5.same S8
 have s8:=s5.same (Nat.le_refl _) S8
 have hs8:=S8.seq hs5
 show uz K A _ [some (.ref a),some (.int (B:Int)),some (.ref f),some (.ref x),some (.ref kd),some (.ref KL),none,none,none,none] _
 generalize upd H7 KL (.lst [.int (key0:Int)])=H8 at hK8 tk8 s8 hs8
 clear S8 S7' S6 S7 hKL tk5 s5 hs5 ho
 refine ⟨ba (n:=0) (by decide),fun OL hOL=>?_⟩
 have S9:=ay.upd (o:=.lst []) hOL
 have nKO:KL≠OL:=ax hK8 hOL
 have hK9:=S9 _ _ hK8
 have tk9:=tk8.same S9
 have s9:=s8.same (Nat.le_refl _) S9
 have hs9:=S9.seq hs8
 have hO9:upd H8 OL (.lst []) OL=some (.lst (([]:List Addr).map V.ref)):=ak
 show uN K A _ [some (.ref a),some (.int (B:Int)),some (.ref f),some (.ref x),some (.ref kd),some (.ref KL),some (.ref OL),none,none,none] _
 generalize upd H8 OL (.lst [])=H9 at hK9 tk9 s9 hs9 hO9
 clear S9 tk8 s8 hs8 hK8 hOL
 refine ⟨3,rfl,60,rfl,.inl (.inl ⟨a,_,rfl,hs9,fun W hW=>⟨W,rfl,.inl ⟨⟨_,SqL.of ak⟩,?_⟩⟩⟩)⟩
 have S10:=ay.upd (o:=.lst (bC (ns.map V.int) (some 3) (some 60))) hW
 have nKW:KL≠W:=ax hK9 hW
 have nOW:OL≠W:=ax hO9 hW
 have cl:=ko (ns.map V.int) (some 3) (some 60)
 have c57:(bC (ns.map V.int) (some 3) (some 60)).length≤57:=by
   unfold bC;rw [List.length_take]
   have e2:HT.sIx (ns.map V.int).length (ns.map V.int).length (some 60)=min 60 (ns.map V.int).length:=HT.jM _ _ 60
   have e3:HT.sIx (ns.map V.int).length 0 (some 3)=min 3 (ns.map V.int).length:=HT.jM _ _ 3
   rw [e2,e3];omega
 have itz:∀ v∈bC (ns.map V.int) (some 3) (some 60),∃ i,v=.int i:=fun v hv=>by
   obtain ⟨i,_,rfl⟩:=List.mem_map.mp (jW hv)
   exact ⟨i,rfl⟩
 have hW0:upd H9 W (.lst (bC (ns.map V.int) (some 3) (some 60))) W=some (.lst (bC (ns.map V.int) (some 3) (some 60))):=ak
 have hK10:=S10 _ _ hK9
 have hO10:=S10 _ _ hO9
 have tk10:=tk9.same S10
 have s10:=s9.same (Nat.le_refl _) S10
 generalize upd H9 W (.lst (bC (ns.map V.int) (some 3) (some 60)))=H10 at hW0 hK10 hO10 tk10 s10
 generalize bC (ns.map V.int) (some 3) (some 60)=cs at hW0 c57 itz
 clear S10 tk9 s9 hs9 hK9 hO9 hW
 refine gD (xs:=cs) (fun i σ H'=>∃ (g':List Key→Option Key) (t:Kn Str) (m:Key) (kn:List (Nat×Str)) (ks:List Nat) (ps:List Addr) (x7 x8:Option V),σ=[some (.ref a),some (.int (B:Int)),some (.ref f),some (.ref x),some (.ref kd),some (.ref KL),some (.ref OL),x7,x8,none]∧sD A H' f b x kd KL OL B (1+70*i) g' t m kn ks ps∧kn.length≤i∧ks.length=i+1∧H' W=some (.lst cs))
   ⟨g4,_,m0,[],[key0],[],none,none,rfl,⟨tk10,s10,hK10,(fun k hk=>by rw [List.mem_singleton.mp hk];exact hk0),hO10,Nat.zero_le _,(fun _ z=>nomatch z)⟩,Nat.le_refl _,rfl,hW0⟩ ?_ ?_ ?_
 · rintro i σ H' _ ⟨_,_,_,_,_,_,_,_,_,_,_,_,e⟩;exact SqL.of e
 · rintro i v σ H' hv ⟨g',t,m,kn,ks,ps,x7,x8,rfl,⟨tk,s,hK,kk,hO,pl,old⟩,kl,ksl,hW'⟩
   have hi:i<cs.length:=(List.getElem?_eq_some_iff.mp hv).1
   obtain ⟨c,rfl⟩:=itz v (List.mem_of_getElem? hv)
   refine ⟨x,f,b,kd,KL,g',_,B,t,m,kn,ks.map fun k:Nat=>(k:Int),c,rfl,tk,by omega,s,by omega,by rw [← BN];exact hK,by rw [List.length_map];omega,fun k hk=>?_,fun key t' m' kn' g1 H1 k3 tk1 l1 s1 sub1 hkey=>?_⟩
   · obtain ⟨j,hj,rfl⟩:=List.mem_map.mp hk
     exact ⟨by omega,p2z (kk j hj)⟩
   obtain ⟨dx1,y1,o1,_⟩:=tk.ta.ob
   have kl3:∀ L xs,H' L=some (.lst xs)→H1 L=some (.lst xs):=fun L xs e=>k3 _ _ (s.nb e fun _ z=>nomatch z) (ci e o1 fun z=>nomatch z) (ci e tk.hk fun z=>nomatch z) e
   have hK1:=kl3 _ _ hK
   have hO1:=kl3 _ _ hO
   have hW1:=kl3 _ _ hW'
   have old1:∀ p∈ps,cU A H1 g1 f B x kd p:=fun p hp=>(old p hp).k3 s tk k3 sub1
   refine ⟨.inl ⟨rfl,_,SqL.of hK1⟩,KL,_,.int (key:Int),rfl,rfl,hK1,by rw [List.length_map];exact du (by omega),?_⟩
   have e2:nV ks++[.int (key:Int)]=nV (ks++[key]):=by unfold nV;rw [List.map_append];rfl
   rw [e2]
   have tk2:=tk1.ul (ys:=nV (ks++[key])) hK1
   have s2:=s1.ul (ys:=nV (ks++[key])) hK1
   have hO2:upd H1 KL (.lst (nV (ks++[key]))) OL=some (.lst (ps.map V.ref)):=by rw [ao (Ne.symm nKO)];exact hO1
   have hW2:upd H1 KL (.lst (nV (ks++[key]))) W=some (.lst cs):=by rw [ao (Ne.symm nKW)];exact hW1
   have old2:∀ p∈ps,cU A (upd H1 KL (.lst (nV (ks++[key])))) g1 f B x kd p:=fun p hp=>(old1 p hp).ul hK1
   have hK2:upd H1 KL (.lst (nV (ks++[key]))) KL=some (.lst (nV (ks++[key]))):=ak
   have kk2:∀ k∈ks++[key],k<2^B:=fun k hk=>by
     rcases List.mem_append.mp hk with z | z
     · exact kk k z
     · rw [List.mem_singleton.mp z];exact hkey
   generalize upd H1 KL (.lst (nV (ks++[key])))=H2 at tk2 s2 hO2 hW2 old2 hK2
   have skip:∃ (g':List Key→Option Key) (t:Kn Str) (m:Key) (kn:List (Nat×Str)) (ks:List Nat) (ps:List Addr) (x7 x8:Option V),[some (.ref a),some (.int (B:Int)),some (.ref f),some (.ref x),some (.ref kd),some (.ref KL),some (.ref OL),some (.int c),some (.int (key:Int)),none]=[some (.ref a),some (.int (B:Int)),some (.ref f),some (.ref x),some (.ref kd),some (.ref KL),some (.ref OL),x7,x8,none]∧sD A H2 f b x kd KL OL B (1+70*(i+1)) g' t m kn ks ps∧kn.length≤i+1∧ks.length=i+1+1∧H2 W=some (.lst cs):=
     ⟨g1,t',m',kn',ks++[key],ps,_,_,rfl,⟨tk2,s2.same (by omega) (.refl _),hK2,kk2,hO2,pl,old2⟩,by omega,by rw [List.length_append,ksl];rfl,hW2⟩
   refine .inl (.inl ⟨_,SqL.of hO2,?_⟩)
   rw [List.length_map]
   refine Sel.dec (fun h3=>?_) (fun _=>Sel.f skip)
   refine ⟨by decide,Sel.dec (fun h7=>?_) (fun _=>skip)⟩
   have h3:(ps.length:Int)<3:=h3
   obtain ⟨dx2,y2,o2,ky2⟩:=tk2.ta.ob
   have ts2:=tk2.ts s2
   refine ⟨.inl ⟨rfl,_,SqL.of hO2⟩,x,dx2,_,rfl,o2,rfl,x,f,b,g1,_,B,t',m',rfl,ts2,by omega,fun y g3 H3 kb3 hy ts3 ta3 sub3=>?_⟩
   have tk3:=tk2.kb s2 kb3 sub3
   refine ⟨kd,_,rfl,tk3.hk,fun kd' hkd'=>?_⟩
   have S4:=ay.upd (o:=.dK (dOf kn')) hkd'
   have tk4:=tk3.same S4
   obtain ⟨dx4,y4,o4,_⟩:=tk4.ta.ob
   refine ⟨x,dx4,_,rfl,o4,rfl,x,f,g3,B,t',m',rfl,tk4.ta,?_⟩
   refine ⟨x,f,g3,B,t',m',_,.int (key:Int),rfl,tk4.ta,by have:=tk4.ln;omega,.int _,fun h=>(by rw [ir hkey] at h;cases h),fun key' ek hk' p2 st e H5 S5 sl ex=>?_⟩
   have:key'=key:=by have:=Dat.int.inj ek;omega
   subst this
   refine ⟨ba (show 5≤1000000 by decide),fun p hp=>?_⟩
   have S6:=ay.upd (o:=.tup [.ref y,.ref kd',kV m',.int (key':Int),.ref p2]) hp
   have S36:=S4.trans (S5.trans S6)
   have hO6:=S36 _ _ (s2.lst kb3 _ _ hO2)
   have nxy:y≠x:=Ne.symm (ax o2 hy)
   have nkk:kd'≠kd:=Ne.symm (ax tk3.hk hkd')
   have new:cU A (upd H5 p (.tup [.ref y,.ref kd',kV m',.int (key':Int),.ref p2])) g3 f B x kd p:=⟨y,kd',p2,t',m',kn',key',st,e,nxy,nkk,ak,⟨ta3.same S36,S5.trans S6 _ _ ak,tk3.kno⟩,hkey,sl.same S6,ex⟩
   have tk6:=tk3.same S36
   have s6:=ts3.s.same (Nat.le_refl _) S36
   have hK6:=S36 _ _ (s2.lst kb3 _ _ hK2)
   have hW6:=S36 _ _ (s2.lst kb3 _ _ hW2)
   have old6:∀ p∈ps,cU A (upd H5 p (.tup [.ref y,.ref kd',kV m',.int (key':Int),.ref p2])) g3 f B x kd p∨True:=fun _ _=> .inr trivial
   have old6:∀ r∈ps,cU A (upd H5 p (.tup [.ref y,.ref kd',kV m',.int (key':Int),.ref p2])) g3 f B x kd r:=fun r hr=>((old2 r hr).kb s2 kb3 sub3).same S36
   generalize upd H5 p (.tup [.ref y,.ref kd',kV m',.int (key':Int),.ref p2])=H6 at hO6 new tk6 s6 hK6 hW6 old6
   refine ⟨OL,_,.ref p,rfl,rfl,hO6,by rw [List.length_map];exact du (by omega),?_⟩
   have e6:ps.map V.ref++[V.ref p]=(ps++[p]).map V.ref:=by rw [List.map_append];rfl
   rw [e6]
   refine ⟨g3,t',m',kn',ks++[key'],ps++[p],_,_,rfl,⟨tk6.ul hO6,(s6.ul hO6).same (by omega) (.refl _),by rw [ao nKO];exact hK6,kk2,ak,by rw [List.length_append];show ps.length+1≤3;omega,fun r hr=>?_⟩,by omega,by rw [List.length_append,ksl];rfl,by rw [ao (Ne.symm nOW)];exact hW6⟩
   rcases List.mem_append.mp hr with z | z
   · exact (old6 r z).ul hO6
   · rw [List.mem_singleton.mp z];exact new.ul hO6
 · rintro σ H' ⟨g',t,m,kn,ks,ps,x7,x8,rfl,En,kl,ksl,hW'⟩
   exact IU En (by omega) (by omega) q
end Rs
namespace Rs
open PySem PySem.Spec PyProof.Rows L2
structure TP (P:Program) (w:World) (K:W.Frag) (mg:Str→Option Value) (base:Heap) (A:Adr):Prop extends Txt K mg A where
 B:BM mg base
 C_66:W.CodeHd base A.k_66 A.t_66
 C_42:W.CodeHd base A.k_42 A.t_42
 C_38:W.CodeHd base A.k_38 A.t_38
 C_32:W.CodeHd base A.k_32 A.t_32
 C_36:W.CodeHd base A.k_36 A.t_36
variable {P:Program} {w:World} {K:W.Frag} {mg:Str→Option Value} {base:Heap} {A:Adr} (T:TP P w K mg base A)
include T
theorem iZ:aE P w K mg base (CX1 P w) 1 A.a_54 A.d_54 ["thing"] (fG K A):=
 T.f_54.f.okS HI (BB K A) (Et T.1) fun _ _ _ _ _ _ hr=>
 am (aw (fS (aU fx T.z_isinstance boot_isinstance (ac (aa 0) (ac (fD T.z_int boot_int) (ai)))) (gM (GP (aU fx T.z_isinstance boot_isinstance (ac (aa 0) (ac (fD T.z_bool boot_bool) (ai))))))))
theorem nN:aE P w K mg base (CX1 P w) 2 A.a_50 A.d_50 ["thing"] (jd K A):=
 T.f_50.f.okS FL (Do K A) (HS T.1) fun _ _ _ _ _ _ hr=>
 aj (aQ (bp (aO (iZ T) hr.le T.f_54 (ac (aa 0) (ai)))) (am (aw (jZ oLe oLt (ap) (aa 0) (aC Im (ap) (ap))))) (aG)) (am (aw (aU fx T.z_isinstance boot_isinstance (ac (aa 0) (ac (fD T.z_str boot_str) (ai))))))
theorem yF:aE P w K mg base (CX1 P w) 3 A.a_52 A.d_52 ["thing"] (lQ K A):=
 T.f_52.f.okS Gn (Cm K A) (HF T.1) fun _ _ _ _ _ _ hr=>
 aj (aQ (bx (bp (aU fx T.z_isinstance boot_isinstance (ac (aa 0) (ac (fD T.z_tuple boot_tuple) (ai)))))) (am (aw (cM))) (aG)) (aj (aQ (bx (kK oLe oLe (ap) (aU cE T.z_len PySem.boot_len (ac (aa 0) (ai))) (wL T.c_MOST_PARTS))) (am (aw (cM))) (aG)) (am (aw (fS (aU fx T.z_isinstance boot_isinstance (ac (bu (aM hr.units1) (aa 0) (ap) (fun _ _=>rfl)) (ac (fD T.z_str boot_str) (ai)))) (gM (aU (JF rfl) T.z_all L2.CG (ac (tK (ys:=[]) (by exact ⟨rfl,by decide +kernel,by decide +kernel,rfl,by decide +kernel,by decide +kernel⟩) (by exact .nil) (eF (aa 0)) (fun C s H fp=>lF) (fun C s H fp=>(aO (nN T) hr.le T.f_50 (ac (aa 0) (ai))))) (ai))))))))
theorem FY:aE P w K mg base (CX1 P w) 2 A.a_57 A.d_57 ["part"] (oB K A):=
 T.f_57.f.okS zp (CM K A) (EQ T.1) fun _ _ _ _ _ _ hr=>
 aj (aQ (bp (aO (iZ T) hr.le T.f_54 (ac (aa 0) (ai)))) (am (aw (uP (.cons (sP (aa 0)) (.cons (cZ) (.nil)))))) (aG)) (aj (aP 1 zp.nd (aU cE T.z_len PySem.boot_len (ac (aa 0) (ai)))) (am (aw (uP (.cons (sP (aa 1)) (.cons (cZ) (.cons (sP (aa 0)) (.nil))))))))
theorem Gx:aE P w K mg base (CX1 P w) 4 A.a_68 A.d_68 ["term"] (lr K A):=
 T.f_68.f.okS GZ (BD K A) (Es T.1) fun _ _ _ _ _ _ hr=>
 aj (aQ (bx (bp (aO (yF T) hr.le T.f_52 (ac (aa 0) (ai))))) (am (dE)) (aG)) (am (aw (jq PySem.F.plainAttrs_str PySem.F.slot_str_join PySem.F.type_str_join AA (cZ) (ac (tK (ys:=[]) (by exact ⟨rfl,by decide +kernel,by decide +kernel,rfl,by decide +kernel,by decide +kernel⟩) (by exact .nil) (eF (aa 0)) (fun C s H fp=>lF) (fun C s H fp=>(aO (FY T) hr.le T.f_57 (ac (aa 0) (ai))))) (ai)))))
theorem FO (f c:Addr) (cl:List (Str×Addr)) (Ar:Around) (outer:List Env) (s:Shared) (H:Hp) (E:XK)
  (hr:bj 4 (Ar.deeper (W.envX fJ.qual fJ.scope s.heap.objs.size f (.ref c) cl))):PE (fT P w K mg base ["term"] fJ.qual fJ.scope f c cl Ar outer s H E).nox (kg vj) (Dl K A):=QE.out (
 aO (Gx T) hr.le T.f_68 (ac (aa 0) (ai)))
theorem Hs:eX P w K mg base 5 fJ (sh K A):=
 qI rfl GS (fun f c cl Ar outer s H vs cvs Q E hr hl hc h=>by
  obtain ⟨a0,rfl⟩:=L2.dA hl
  obtain rfl:=L2.rP hc
  exact ⟨_,(FO T f c cl Ar outer s H E hr).nox,EM T.1 a0 H Q E h⟩)
theorem Hi:aE P w K mg base (CX1 P w) 4 A.a_18 A.d_18 ["self", "term"] (ox K A):=
 T.f_18.okS Fq (El K A) (Fj T.1) fun _ _ _ _ _ _ hr=>
 aj (aQ (bx (bp (aO (yF T) hr.le T.f_52 (ac (aa 1) (ai))))) (am (dE)) (aG)) (aj (aQ (aX (zV hr.units150) (aa 1) (aV (aa 0))) (am (pd hr.units1 (aV (aa 0)) (aa 1) (aU cE T.z_len PySem.boot_len (ac (aV (aa 0)) (ai))))) (aG)) (am (aw (bu (aM hr.units1) (aV (aa 0)) (aa 1) (fun _ _=>rfl)))))
theorem Fs (f c:Addr) (cl:List (Str×Addr)) (Ar:Around) (outer:List Env) (s:Shared) (H:Hp) (E:XK)
  (hr:bj 4 (Ar.deeper (W.envX fY.qual fY.scope s.heap.objs.size f (.ref c) cl))):PE (fT P w K mg base ["term", "numbers"] fY.qual fY.scope f c cl Ar outer s H E).nox (kg xN) (Ck K A):=QE.out (
 cz (aa 1) T.cl_Numbers T.me_Numbers_number_of (Hi T) hr.le T.b_18 aL (ac (aa 0) (ai)))
theorem ES:eX P w K mg base 5 fY (sN K A):=
 qI rfl GL (fun f c cl Ar outer s H vs cvs Q E hr hl hc h=>by
  obtain ⟨a0,rfl⟩:=L2.dA hl
  obtain ⟨b0,rfl⟩:=L2.dA hc
  exact ⟨_,(Fs T f c cl Ar outer s H E hr).nox,EX T.1 a0 b0 H Q E h⟩)
theorem Hv (f c:Addr) (cl:List (Str×Addr)) (Ar:Around) (outer:List Env) (s:Shared) (H:Hp) (E:XK)
  (hr:bj 0 (Ar.deeper (W.envX fV.qual fV.scope s.heap.objs.size f (.ref c) cl))):PSs (fT P w K mg base ["_law_term", "_law_known", "_law_first"] fV.qual fV.scope f c cl Ar outer s H E).nox (aN vN) (CZ K A):=QSs.out (
 am (aw (jq PySem.F.plainAttrs_dict PySem.F.slot_dict_setdefault PySem.F.type_dict_setdefault (mW hr.units1) (aa 1) (ac (aa 0) (ac (aC cG (aC fQ (ap) (aU cE T.z_len PySem.boot_len (ac (aa 1) (ai)))) (aa 2)) (ai))))))
theorem GN:eX P w K mg base 1 fV (rB K A):=
 oO rfl HQ (fun f c cl Ar outer s H vs cvs Q E hr hl hc h=>by
  obtain ⟨a0,rfl⟩:=L2.dA hl
  obtain ⟨b0,b1,rfl⟩:=L2.sI hc
  exact ⟨_,(Hv T f c cl Ar outer s H E hr).nox,FI T.1 a0 b0 b1 H Q E h⟩)
theorem FF (f c:Addr) (cl:List (Str×Addr)) (Ar:Around) (outer:List Env) (s:Shared) (H:Hp) (E:XK)
  (hr:bj 0 (Ar.deeper (W.envX gg.qual gg.scope s.heap.objs.size f (.ref c) cl))):PSs (fT P w K mg base ["_law_term", "_law_known"] gg.qual gg.scope f c cl Ar outer s H E).nox (aN wO) (BW K A):=QSs.out (
 am (aw (jq PySem.F.plainAttrs_dict PySem.F.slot_dict_setdefault PySem.F.type_dict_setdefault (mW hr.units1) (aa 1) (ac (aa 0) (ac (aC cG (cZ) (iV Ij T.z_str boot_str (ac (aU cE T.z_len PySem.boot_len (ac (aa 1) (ai))) (ai)))) (ai))))))
theorem GI:eX P w K mg base 1 gg (sH K A):=
 oO rfl GF (fun f c cl Ar outer s H vs cvs Q E hr hl hc h=>by
  obtain ⟨a0,rfl⟩:=L2.dA hl
  obtain ⟨b0,rfl⟩:=L2.dA hc
  exact ⟨_,(FF T f c cl Ar outer s H E hr).nox,Gd T.1 a0 b0 H Q E h⟩)
theorem Gu (f c:Addr) (cl:List (Str×Addr)) (Ar:Around) (outer:List Env) (s:Shared) (H:Hp) (E:XK)
  (hr:bj 0 (Ar.deeper (W.envX fU.qual fU.scope s.heap.objs.size f (.ref c) cl))):PSs (fT P w K mg base ["_law_term", "_law_total", "_law_part", "_law_signs", "_law_many"] fU.qual fU.scope f c cl Ar outer s H E).nox (aN vO) (Bk K A):=QSs.out (
 aj (aP 1 jN.nd (ap)) (aj (hE 2 jN.nd (eF (aa 0)) (am (aQ (bp (aU fx T.z_isinstance boot_isinstance (ac (aa 2) (ac (fD T.z_str boot_str) (ai))))) (aj (uu (ys:=[]) 3 jN.nd (by exact ⟨rfl,by decide +kernel,by decide +kernel,rfl,by decide +kernel,by decide +kernel⟩) (by exact .nil) (eF (fq fv (aa 2) (gq) (eU (ap)))) (fun C s H fp=>lF) (fun C s H fp=>(aU IE T.z_ord boot_ord (ac (aa 0) (ai))))) (am (aP 1 jN.nd (aC cG (aC cG (aC fQ (aa 1) (ap)) (aU cE T.z_len PySem.boot_len (ac (aa 2) (ai)))) (aC fQ (ap) (aU (IQ rfl) T.z_sum boot_sum (ac (aa 3) (ai)))))))) (am (aP 1 jN.nd (aC cG (aC fQ (aa 1) (ap)) (aa 2)))))) PassesOwn.never) (am (aw (aC cj (aa 1) (aa 4))))))
theorem Er:eX P w K mg base 1 fU (rQ K A):=
 oO rfl jN (fun f c cl Ar outer s H vs cvs Q E hr hl hc h=>by
  obtain ⟨a0,rfl⟩:=L2.dA hl
  obtain ⟨b0,rfl⟩:=L2.dA hc
  exact ⟨_,(Gu T f c cl Ar outer s H E hr).nox,FB T.1 a0 b0 H Q E h⟩)
theorem Hn:aE P w K mg base (CX1 P w) 1 A.a_26 A.d_26 ["_law_cell"] (om K A):=
 T.f_26.f.okS FP (De K A) (FJ T.1) fun _ _ _ _ _ _ hr=>
 am (aw (aC cG (ap) (aC cj (aC eE (aa 0) (ap)) (bu (aM hr.units1) (gY (ac (ap) (ac (ap) (ac (ap) (ai))))) (aC cj (aa 0) (ap)) (fun _ _=>rfl)))))
theorem rp:aE P w K mg base (CX1 P w) 1 A.a_25 A.d_25 ["_law_script", "_law_k"] (gZ K A):=
 T.f_25.f.okS lP (CB K A) (GW T.1) fun _ _ _ _ _ _ hr=>
 aj (aQ (aX oLt (aa 1) (aU cE T.z_len PySem.boot_len (ac (aa 0) (ai)))) (am (aw (bu (aM hr.units1) (aa 0) (aa 1) (fun _ _=>rfl)))) (aG)) (aj (aP 2 lP.nd (aC cG (ap) (aU cE T.z_len PySem.boot_len (ac (aa 0) (ai))))) (aj (hE 3 lP.nd (eF (fq fv (aa 0) (gq) (eU (ap)))) (am (aP 2 lP.nd (aC cj (aC cG (aC fQ (aa 2) (ap)) (aa 3)) (ap)))) PassesOwn.never) (aj (aP 2 lP.nd (aC cj (aC cG (aa 2) (aC fQ (ap) (aa 1))) (ap))) (am (aw (aC cj (aC fQ (aa 2) (aa 2)) (ap)))))))
theorem FX (B:BM mg base) (C:W.CodeHd base A.k_66 A.t_66) (Ar:Around) (outer:List Env) (s:Shared) (H:Hp) (E:XK)
  (hr:bj 0 (Ar.deeper (envOfC "writing" (af lg) s.heap.objs.size A.a_66 (.ref A.k_66)))):QMs (eM (CX1 P w) P w K mg base [] "writing" (af lg) A.a_66 (.ref A.k_66) Ar outer s H E).nox (aN lg) (Bs K A):=(
 lE (lj (zk B C rfl (by rfl) (by simp <;> omega) rfl rfl rfl rfl (fun _ _ _ _ us hl=>by obtain ⟨_,rfl⟩:=L2.dA hl;rfl))))
theorem Fz:aE P w K mg base (CX1 P w) 1 A.a_66 A.d_66 [] (oi K A):=
 T.f_66.f.okM (caps:=fun L=>[]) T.kc_66 Hz (Cw K A) (fun L p hp=>nomatch hp) (fun L=>by simp) (fun Ar outer s H vs Q E hr h=>⟨_,QMs.nox (FX T T.B T.C_66 Ar outer s H E hr),Fi T.1 (by simp) vs H Q E h⟩)
theorem FD:aE P w K mg base (CX1 P w) 1 A.a_17 A.d_17 ["self"] (oh K A):=
 T.f_17.okS Ez (Bv K A) (HJ T.1) fun _ _ _ _ _ _ hr=>
 am (bU (aa 0) (ij))
theorem EK (B:BM mg base) (C:W.CodeHd base A.k_42 A.t_42) (Ar:Around) (outer:List Env) (s:Shared) (H:Hp) (E:XK)
  (hr:bj 2 (Ar.deeper (envOfC "counting" (af lf) s.heap.objs.size A.a_42 (.ref A.k_42)))):QMs (eM (CX1 P w) P w K mg base ["numbers"] "counting" (af lf) A.a_42 (.ref A.k_42) Ar outer s H E).nox (aN lf) (Di K A (s.heap.objs.size+1)):=(
 iA (io (aP 0 zh.nd (vm T.mk_Numbers (FD T) hr.le T.mc_Numbers T.b_17 aL))) (lE (lj (zk B C rfl (by rfl) (by simp <;> omega) rfl rfl rfl rfl (fun _ _ _ _ us hl=>by obtain ⟨_,rfl⟩:=L2.dA hl;rfl)))))
theorem Fc:aE P w K mg base (CX1 P w) 3 A.a_42 A.d_42 [] (nO K A):=
 T.f_42.f.okM (caps:=fun L=>[(0,L+1)]) T.kc_42 zh (Dg K A) (fun L p hp=>by simp only [List.mem_cons,List.not_mem_nil,or_false] at hp;rcases hp with rfl <;> exact ⟨_,rfl,rfl,rfl⟩) (fun L=>by simp) (fun Ar outer s H vs Q E hr h=>⟨_,QMs.nox (EK T T.B T.C_42 Ar outer s H E hr),ED T.1 (s.heap.objs.size+1) (by simp) vs H Q E h⟩)
theorem Fy (B:BM mg base) (C:W.CodeHd base A.k_38 A.t_38) (Ar:Around) (outer:List Env) (s:Shared) (H:Hp) (E:XK)
  (hr:bj 0 (Ar.deeper (envOfC "_law_worded" (af kQ) s.heap.objs.size A.a_38 (.ref A.k_38)))):QMs (eM (CX1 P w) P w K mg base ["_law_known", "_law_word"] "_law_worded" (af kQ) A.a_38 (.ref A.k_38) Ar outer s H E).nox (aN kQ) (AN K A (s.heap.objs.size+1)):=(
 iA (io (aP 0 rC.nd (ij))) (iA (io (sX 1 rC.nd B C rfl (by rfl) (by simp <;> omega) rfl rfl rfl rfl (fun _ _ _ _ _ us hl=>by obtain ⟨_,rfl⟩:=L2.dA hl;rfl))) (lE (lj (aa 1)))))
theorem Fe:aE P w K mg base (CX1 P w) 1 A.a_38 A.d_38 [] (nZ K A):=
 T.f_38.f.okM (caps:=fun L=>[(0,L+1)]) T.kc_38 rC (Cr K A) (fun L p hp=>by simp only [List.mem_cons,List.not_mem_nil,or_false] at hp;rcases hp with rfl <;> exact ⟨_,rfl,rfl,rfl⟩) (fun L=>by simp) (fun Ar outer s H vs Q E hr h=>⟨_,QMs.nox (Fy T T.B T.C_38 Ar outer s H E hr),FW T.1 (s.heap.objs.size+1) (by simp) vs H Q E h⟩)
theorem HR (B:BM mg base) (C:W.CodeHd base A.k_32 A.t_32) (Ar:Around) (outer:List Env) (s:Shared) (H:Hp) (E:XK)
  (hr:bj 0 (Ar.deeper (envOfC "_law_sure" (af kM) s.heap.objs.size A.a_32 (.ref A.k_32)))):QMs (eM (CX1 P w) P w K mg base ["_law_first", "_law_known", "_law_number"] "_law_sure" (af kM) A.a_32 (.ref A.k_32) Ar outer s H E).nox (aN kM) (By K A (s.heap.objs.size+1) (s.heap.objs.size+1+1)):=(
 iA (io (aP 1 sr.nd (ij))) (iA (io (sX 2 sr.nd B C rfl (by rfl) (by simp <;> omega) rfl rfl rfl rfl (fun _ _ _ _ _ us hl=>by obtain ⟨_,rfl⟩:=L2.dA hl;rfl))) (lE (lj (aa 2)))))
theorem HH:aE P w K mg base (CX1 P w) 1 A.a_32 A.d_32 ["_law_first"] (oj K A):=
 T.f_32.f.okM (caps:=fun L=>[(0,L+1),(1,L+1+1)]) T.kc_32 sr (CY K A) (fun L p hp=>by simp only [List.mem_cons,List.not_mem_nil,or_false] at hp;rcases hp with rfl | rfl <;> exact ⟨_,rfl,rfl,rfl⟩) (fun L=>by simp) (fun Ar outer s H vs Q E hr h=>⟨_,QMs.nox (HR T T.B T.C_32 Ar outer s H E hr),Gz T.1 (s.heap.objs.size+1) (s.heap.objs.size+1+1) (by simp) vs H Q E h⟩)
theorem Fd (B:BM mg base) (C:W.CodeHd base A.k_36 A.t_36) (Ar:Around) (outer:List Env) (s:Shared) (H:Hp) (E:XK)
  (hr:bj 0 (Ar.deeper (envOfC "_law_weak" (af lc) s.heap.objs.size A.a_36 (.ref A.k_36)))):QMs (eM (CX1 P w) P w K mg base ["_law_many", "_law_short"] "_law_weak" (af lc) A.a_36 (.ref A.k_36) Ar outer s H E).nox (aN lc) (Dx K A (s.heap.objs.size+1)):=(
 iA (io (sX 1 zc.nd B C rfl (by rfl) (by simp <;> omega) rfl rfl rfl rfl (fun _ _ _ _ _ us hl=>by obtain ⟨_,rfl⟩:=L2.dA hl;rfl))) (lE (lj (aa 1))))
theorem HD:aE P w K mg base (CX1 P w) 1 A.a_36 A.d_36 ["_law_many"] (oa K A):=
 T.f_36.f.okM (caps:=fun L=>[(0,L+1)]) T.kc_36 zc (CV K A) (fun L p hp=>by simp only [List.mem_cons,List.not_mem_nil,or_false] at hp;rcases hp with rfl <;> exact ⟨_,rfl,rfl,rfl⟩) (fun L=>by simp) (fun Ar outer s H vs Q E hr h=>⟨_,QMs.nox (Fd T T.B T.C_36 Ar outer s H E hr),Fu T.1 (s.heap.objs.size+1) (by simp) vs H Q E h⟩)
theorem Hf:aE P w K mg base (CX1 P w) 4 A.a_31 A.d_31 ["_law_cell"] (lR K A):=
 T.f_31.f.okS yQ (CK K A) (FG T.1) fun _ _ _ _ _ _ hr=>
 aj (aP 1 yQ.nd (aC cj (aa 0) (ap))) (aj (aQ (aX (cn hr.units150) (aa 1) (ap)) (am (aw (kL (Fz T) hr.le T.f_66.m T.f_66.f.kp T.f_66.b aL))) (aG)) (aj (aQ (aX (cn hr.units150) (aa 1) (ap)) (am (aw (kL (Fc T) hr.le T.f_42.m T.f_42.f.kp T.f_42.b aL))) (aG)) (aj (aQ (aX (cn hr.units150) (aa 1) (ap)) (am (aw (kL (Fe T) hr.le T.f_38.m T.f_38.f.kp T.f_38.b aL))) (aG)) (aj (aQ (aX (cn hr.units150) (aa 1) (ap)) (am (aw (aO (HH T) hr.le T.f_32 (ac (aC cj (aC eE (aa 0) (ap)) (ap)) (ai))))) (aG)) (am (aw (aO (HD T) hr.le T.f_36 (ac (aC cG (ap) (aC cj (aC eE (aa 0) (ap)) (ap))) (ai)))))))))
theorem Fp:aE P w K mg base (CX1 P w) 2 A.a_44 A.d_44 ["thing"] (oo K A):=
 T.f_44.f.okS FK (Bd K A) (GK T.1) fun _ _ _ _ _ _ hr=>
 am (aw (fS (aO (iZ T) hr.le T.f_54 (ac (aa 0) (ai))) (gM (jZ oLe oLe (ap) (aa 0) (wL T.c_MOST_BITS)))))
theorem oN:qy P w K mg base 5 (kG K A):=fun ts hts=>by
 simp only [kG,List.mem_cons,List.not_mem_nil,or_false] at hts
 rcases hts with rfl | rfl | rfl | rfl | rfl
 · exact (Hs T).mono (by decide)
 · exact (ES T).mono (by decide)
 · exact (GN T).mono (by decide)
 · exact (GI T).mono (by decide)
 · exact (Er T).mono (by decide)
theorem sU:aE P w K mg base (CX1 P w) 6 A.a_12 A.d_12 ["self", "stamper", "term"] (kh K A):=
 T.f_12.okS GX (Bt K A) (Gr T.1) fun _ _ _ _ _ _ hr=>
 aj (bU (aa 0) (aa 2)) (am (bU (aa 0) (pe (oN T) hr.le aL (aa 1) (ac (aa 2) (ai)))))
theorem BI:aE P w K mg base (CX1 P w) 7 A.a_0 A.d_0 ["self", "stamper"] (mj K A):=
 T.f_0.okS Ip (Ht K A) (Jl T.1) fun _ _ _ _ _ _ hr=>
 am (eD (pJ T.mc_Knot T.cf_Knot (sU T) hr.le T.b_12 aL (ac (aa 0) (ac (aa 1) (ac (gc (ac (cZ) (ai))) (ai))))))
theorem yD:aE P w K mg base (CX1 P w) 9 A.a_19 A.d_19 ["self", "stamper", "bits"] (iP K A):=
 T.f_19.okS Ft (Dk K A) (Hj T.1) fun _ _ _ _ _ _ hr=>
 aj (aQ (bx (bp (aO (Fp T) hr.le T.f_44 (ac (aa 2) (ai))))) (am (dE)) (aG)) (aj (bU (aa 0) (aa 1)) (aj (bU (aa 0) (aa 2)) (am (bU (aa 0) (dq T.mk_Bare (BI T) hr.le T.mc_Bare T.b_0 aL (ac (aa 1) (ai)))))))
theorem zj:aE P w K mg base (CX1 P w) 1 A.a_28 A.d_28 ["_law_bits_here", "_law_cell", "_law_others"] (jb K A):=
 T.f_28.f.okS og (DW K A) (GQ T.1) fun _ _ _ _ _ _ hr=>
 aj (aP 3 og.nd (aC mU (ap) (aa 0))) (aj (aP 4 og.nd (aC eE (aa 1) (ap))) (aj (aQ (aX (cn hr.units150) (aC cj (aa 1) (ap)) (ap)) (am (aw (aC cj (aa 4) (aa 3)))) (aG)) (aj (aQ (aX (cn hr.units150) (aC cj (aa 1) (ap)) (ap)) (am (aw (aC jp (aC jp (aa 3) (ap)) (aC cj (aa 4) (aa 3))))) (aG)) (aj (aQ (x_w (jv (aX (cn hr.units150) (aC cj (aa 1) (ap)) (ap)) (iz (aX (gC hr.units150) (aa 2) (gY (ai)))))) (aj (aP 5 og.nd (aC cj (aC cj (aC fQ (aa 4) (ap)) (ap)) (aa 0))) (am (aw (aC xY (bu (aM hr.units1) (aa 2) (aC cj (aa 4) (aU cE T.z_len PySem.boot_len (ac (aa 2) (ai)))) (fun _ _=>rfl)) (aC mU (ap) (aa 5)))))) (aG)) (am (aw (aC cj (aC fQ (aa 4) (ap)) (aa 3))))))))
theorem nQ:aE P w K mg base (CX1 P w) 2 A.a_47 A.d_47 ["bits", "thing"] (iI K A):=
 T.f_47.f.okS Gf (Bc K A) (EA T.1) fun _ _ _ _ _ _ hr=>
 am (aw (fS (aO (iZ T) hr.le T.f_54 (ac (aa 1) (ai))) (gM (jZ oLe oLt (ap) (aa 1) (aC mU (ap) (aa 0))))))
theorem Bq:aE P w K mg base (CX1 P w) 1 A.a_1 A.d_1 ["self", "bits", "key"] (mH K A):=
 T.f_1.okS Jz (Ho K A) (Jg T.1) fun _ _ _ _ _ _ hr=>
 am (aw (jO))
theorem yN:aE P w K mg base (CX1 P w) 1 A.a_14 A.d_14 ["self", "bits", "key"] (jQ K A):=
 T.f_14.okS GE (AT K A) (Gb T.1) fun _ _ _ _ _ _ hr=>
 am (aw (mI (aX (cn hr.units150) (aa 2) (aV (aa 0))) (aV (aa 0)) (jO)))
theorem lB:aE P w K mg base (CX1 P w) 1 A.a_58 A.d_58 ["bits", "key", "depth"] (gQ K A):=
 T.f_58.f.okS Gy (BQ K A) (Gg T.1) fun _ _ _ _ _ _ hr=>
 am (aw (aC Hh (aC vp (aa 1) (aC jp (aC jp (aa 0) (aa 2)) (ap))) (ap)))
theorem rS:aE P w K mg base (CX1 P w) 2 A.a_9 A.d_9 ["self", "bits", "key"] (jw K A):=
 T.f_9.okS ID (Hr K A) (IX T.1) fun _ _ _ _ _ _ hr=>
 am (aw (mI (aX (cn hr.units150) (aO (lB T) hr.le T.f_58 (ac (aa 1) (ac (aa 2) (ac (aV (aa 0)) (ai))))) (ap)) (aV (aa 0)) (aV (aa 0))))
theorem DK:∀ n:Nat,aE P w K mg base (CX1 P w) (2+n) A.a_7 A.d_7 ["self", "bits", "key"] (kX K A n)
 | 0=>⟨fun vs H Q E h=>(CC K A vs H Q E h).elim,fun _ _ _ H _ _ vs Q E _ _ _ _ h=>(CC K A vs H Q E h).elim⟩
 | n+1=>T.f_7.okS Iv (Fk K A (n+1)) (JH T.1 n) fun _ _ _ _ _ _ (hr:bj (2+n) _)=>
 am (aw (gk (cz (aa 0) T.cl_Fork T.me_Fork_toward (rS T) hr.le T.b_9 aL (ac (aa 1) (ac (aa 2) (ai)))) (mdc T.cl_Bare T.me_Bare_found (Bq T) hr.le T.b_1 aL (mdc T.cl_Leaf T.me_Leaf_found (yN T) hr.le T.b_14 aL (mdc T.cl_Fork T.me_Fork_found (DK n) hr.le T.b_7 aL (mdn rfl)))) (ac (aa 1) (ac (aa 2) (ai)))))
theorem zg:aE P w K mg base (CX1 P w) 73 A.a_24 A.d_24 ["self", "key"] (lU K A):=
 T.f_24.okS Ey (Du K A) (Gc T.1) fun _ _ _ _ _ _ hr=>
 aj (aQ (bx (bp (aO (nQ T) hr.le T.f_47 (ac (aV (aa 0)) (ac (aa 1) (ai)))))) (am (dE)) (aG)) (am (aw (gk (aV (aa 0)) (mdc T.cl_Bare T.me_Bare_found (Bq T) hr.le T.b_1 aL (mdc T.cl_Leaf T.me_Leaf_found (yN T) hr.le T.b_14 aL (mdc T.cl_Fork T.me_Fork_found (DK T 70) hr.le T.b_7 aL (mdn rfl)))) (ac (aV (aa 0)) (ac (aa 1) (ai))))))
theorem Bz:aE P w K mg base (CX1 P w) 1 A.a_3 A.d_3 ["self", "stamper", "bits", "key"] (mP K A):=
 T.f_3.okS IB (EJ K A) (IW T.1) fun _ _ _ _ _ _ hr=>
 am (aw (aa 0))
theorem yz:aE P w K mg base (CX1 P w) 9 A.a_16 A.d_16 ["self", "stamper", "bits", "key"] (jS K A):=
 T.f_16.okS ET (AG K A) (HM T.1) fun _ _ _ _ _ _ hr=>
 am (aw (mI (aX (cn hr.units150) (aa 3) (aV (aa 0))) (dq T.mk_Bare (BI T) hr.le T.mc_Bare T.b_0 aL (ac (aa 1) (ai))) (aa 0)))
theorem AW:aE P w K mg base (CX1 P w) 2 A.a_5 A.d_5 ["self", "bits", "key"] (mf K A):=
 T.f_5.okS Jc (GC K A) (Ia T.1) fun _ _ _ _ _ _ hr=>
 am (aw (mI (aX (cn hr.units150) (aO (lB T) hr.le T.f_58 (ac (aa 1) (ac (aa 2) (ac (aV (aa 0)) (ai))))) (ap)) (aV (aa 0)) (aV (aa 0))))
theorem rz:aE P w K mg base (CX1 P w) 7 A.a_4 A.d_4 ["self", "stamper", "depth", "begin", "left", "right"] (jy K A):=
 T.f_4.okS IF (Gi K A) (Jj T.1) fun _ _ _ _ _ _ hr=>
 aj (eD (pJ T.mc_Knot T.cf_Knot (sU T) hr.le T.b_12 aL (ac (aa 0) (ac (aa 1) (ac (gc (ac (cZ) (ac (aa 2) (ac (aa 3) (ac (aV (aa 4)) (ac (aV (aa 5)) (ai))))))) (ai)))))) (aj (bU (aa 0) (aa 2)) (aj (bU (aa 0) (aa 3)) (aj (bU (aa 0) (aa 4)) (am (bU (aa 0) (aa 5))))))
theorem Cc:aE P w K mg base (CX1 P w) 9 A.a_6 A.d_6 ["self", "stamper", "bits", "key", "knot"] (oY K A):=
 T.f_6.okS Ik (Gv K A) (IR T.1) fun _ _ _ _ _ _ hr=>
 aj (aQ (aX (cn hr.units150) (aO (lB T) hr.le T.f_58 (ac (aa 2) (ac (aa 3) (ac (aV (aa 0)) (ai))))) (ap)) (am (aw (dq T.mk_Fork (rz T) hr.le T.mc_Fork T.b_4 aL (ac (aa 1) (ac (aV (aa 0)) (ac (aV (aa 0)) (ac (aa 4) (ac (aV (aa 0)) (ai))))))))) (aG)) (am (aw (dq T.mk_Fork (rz T) hr.le T.mc_Fork T.b_4 aL (ac (aa 1) (ac (aV (aa 0)) (ac (aV (aa 0)) (ac (aV (aa 0)) (ac (aa 4) (ai)))))))))
theorem yT:∀ n:Nat,aE P w K mg base (CX1 P w) (9+n) A.a_11 A.d_11 ["self", "stamper", "bits", "key"] (iX K A n)
 | 0=>⟨fun vs H Q E h=>(yh K A vs H Q E h).elim,fun _ _ _ H _ _ vs Q E _ _ _ _ h=>(yh K A vs H Q E h).elim⟩
 | n+1=>T.f_11.okS yB (AS K A (n+1)) (Hk T.1 n) fun _ _ _ _ _ _ (hr:bj (9+n) _)=>
 aj (aP 4 yB.nd (gk (cz (aa 0) T.cl_Fork T.me_Fork_toward (rS T) hr.le T.b_9 aL (ac (aa 2) (ac (aa 3) (ai)))) (mdc T.cl_Bare T.me_Bare_without (Bz T) hr.le T.b_3 aL (mdc T.cl_Leaf T.me_Leaf_without (yz T) hr.le T.b_16 aL (mdc T.cl_Fork T.me_Fork_without (yT n) hr.le T.b_11 aL (mdn rfl)))) (ac (aa 1) (ac (aa 2) (ac (aa 3) (ai)))))) (aj (aQ (bp (aU yf T.z_isinstance boot_isinstance (ac (aa 4) (ac (Ei T.mc_Bare) (ai))))) (am (aw (cz (aa 0) T.cl_Fork T.me_Fork_aside (AW T) hr.le T.b_5 aL (ac (aa 2) (ac (aa 3) (ai)))))) (aG)) (am (aw (cz (aa 0) T.cl_Fork T.me_Fork_changed (Cc T) hr.le T.b_6 aL (ac (aa 1) (ac (aa 2) (ac (aa 3) (ac (aa 4) (ai)))))))))
theorem HL:aE P w K mg base (CX1 P w) 80 A.a_22 A.d_22 ["self", "key"] (oA K A):=
 T.f_22.okS zd (CL K A) (EE T.1) fun _ _ _ _ _ _ hr=>
 aj (aP 2 zd.nd (cz (aa 0) T.cl_Table T.me_Table_value_of (zg T) hr.le T.b_24 aL (ac (aa 1) (ai)))) (aj (aQ (aX vP (aa 2) (jO)) (am (dE)) (aG)) (aj (bU (aa 0) (gk (aV (aa 0)) (mdc T.cl_Bare T.me_Bare_without (Bz T) hr.le T.b_3 aL (mdc T.cl_Leaf T.me_Leaf_without (yz T) hr.le T.b_16 aL (mdc T.cl_Fork T.me_Fork_without (yT T 70) hr.le T.b_11 aL (mdn rfl)))) (ac (aV (aa 0)) (ac (aV (aa 0)) (ac (aa 1) (ai)))))) (am (aw (aa 2)))))
theorem GV:aE P w K mg base (CX1 P w) 1 A.a_34 A.d_34 ["_law_cell"] (lW K A):=
 T.f_34.f.okS gf (Em K A) (FE T.1) fun _ _ _ _ _ _ hr=>
 aj (aP 1 gf.nd (cZ)) (aj (aP 1 gf.nd (aC cG (aa 1) (cZ))) (aj (aP 2 gf.nd (aC cj (aa 0) (ap))) (aj (aQ (aX (cn hr.units150) (aC cj (aC eE (aa 0) (ap)) (ap)) (ap)) (am (aP 2 gf.nd (ap))) (aG)) (aj (aQ (aX (cn hr.units150) (aC cj (aC eE (aa 0) (ap)) (ap)) (ap)) (am (aP 2 gf.nd (aC cj (aC eE (aa 0) (ap)) (ap)))) (aG)) (aj (aP 3 gf.nd (cZ)) (aj (hE 4 gf.nd (vK T.z_range (ac (aa 2) (ai))) (am (aP 3 gf.nd (aC cG (aa 3) (bu (aM hr.units1) (aa 1) (aC cj (aC cG (aC eE (aa 0) (ap)) (aC fQ (aa 4) (aC cj (aC eE (aa 0) (ap)) (ap)))) (aU cE T.z_len PySem.boot_len (ac (aa 1) (ai)))) (fun _ _=>rfl))))) PassesOwn.never) (am (aw (aa 3)))))))))
theorem zm:aE P w K mg base (CX1 P w) 1 A.a_53 A.d_53 ["thing"] (lp K A):=
 T.f_53.f.okS GU (Eo K A) (EI T.1) fun _ _ _ _ _ _ hr=>
 am (aw (fS (aU fx T.z_isinstance boot_isinstance (ac (aa 0) (ac (fD T.z_str boot_str) (ai)))) (gM (gR oLe (aU cE T.z_len PySem.boot_len (ac (aa 0) (ai))) (wL T.c_MOST_SIGNS)))))
theorem su:aE P w K mg base (CX1 P w) 7 A.a_13 A.d_13 ["self", "stamper", "key", "value"] (iT K A):=
 T.f_13.okS Ex (BV K A) (Gw T.1) fun _ _ _ _ _ _ hr=>
 aj (eD (pJ T.mc_Knot T.cf_Knot (sU T) hr.le T.b_12 aL (ac (aa 0) (ac (aa 1) (ac (gc (ac (cZ) (ac (aa 2) (ac (aa 3) (ai))))) (ai)))))) (aj (bU (aa 0) (aa 2)) (am (bU (aa 0) (aa 3))))
theorem Ce:aE P w K mg base (CX1 P w) 9 A.a_2 A.d_2 ["self", "stamper", "bits", "key", "value"] (ms K A):=
 T.f_2.okS IG (Hc K A) (Iz T.1) fun _ _ _ _ _ _ hr=>
 am (aw (dq T.mk_Leaf (su T) hr.le T.mc_Leaf T.b_13 aL (ac (aa 1) (ac (aa 3) (ac (aa 4) (ai))))))
theorem iN:aE P w K mg base (CX1 P w) 1 A.a_64 A.d_64 ["bits", "key", "depth"] (fH K A):=
 T.f_64.f.okS EG (Eh K A) (GT T.1) fun _ _ _ _ _ _ hr=>
 am (aw (aC vp (aa 1) (aC jp (aa 0) (aa 2))))
theorem yj:aE P w K mg base (CX1 P w) 9 A.a_55 A.d_55 ["stamper", "bits", "depth", "leaf", "knot"] (lV K A):=
 T.f_55.f.okS yC (Cs K A) (Ew T.1) fun _ _ _ _ _ _ hr=>
 aj (aP 5 yC.nd (aO (iN T) hr.le T.f_64 (ac (aa 1) (ac (aV (aa 3)) (ac (aa 2) (ai)))))) (aj (aQ (aX (cn hr.units150) (aO (lB T) hr.le T.f_58 (ac (aa 1) (ac (aV (aa 3)) (ac (aa 2) (ai))))) (ap)) (am (aw (dq T.mk_Fork (rz T) hr.le T.mc_Fork T.b_4 aL (ac (aa 0) (ac (aa 2) (ac (aa 5) (ac (aa 3) (ac (aa 4) (ai))))))))) (aG)) (am (aw (dq T.mk_Fork (rz T) hr.le T.mc_Fork T.b_4 aL (ac (aa 0) (ac (aa 2) (ac (aa 5) (ac (aa 4) (ac (aa 3) (ai))))))))))
theorem ye:aE P w K mg base (CX1 P w) 1 A.a_40 A.d_40 ["bits", "one", "other"] (lC K A):=
 T.f_40.f.okS ER (CD K A) (EU T.1) fun _ _ _ _ _ _ hr=>
 am (aw (aC jp (aa 0) (FH PySem.F.plainAttrs_int PySem.F.slot_int_bit_length PySem.F.type_int_bit_length Aj (aC xY (aa 1) (aa 2)))))
theorem zt:aE P w K mg base (CX1 P w) 10 A.a_15 A.d_15 ["self", "stamper", "bits", "key", "value"] (jP K A):=
 T.f_15.okS yX (DZ K A) (HN T.1) fun _ _ _ _ _ _ hr=>
 aj (aP 5 yX.nd (dq T.mk_Leaf (su T) hr.le T.mc_Leaf T.b_13 aL (ac (aa 1) (ac (aa 3) (ac (aa 4) (ai)))))) (aj (aQ (aX (cn hr.units150) (aa 3) (aV (aa 0))) (am (aw (aa 5))) (aG)) (am (aw (aO (yj T) hr.le T.f_55 (ac (aa 1) (ac (aa 2) (ac (aO (ye T) hr.le T.f_40 (ac (aa 2) (ac (aa 3) (ac (aV (aa 0)) (ai))))) (ac (aa 5) (ac (aa 0) (ai))))))))))
theorem AU:aE P w K mg base (CX1 P w) 2 A.a_8 A.d_8 ["self", "bits", "key"] (pG K A):=
 T.f_8.okS II (GD K A) (Iy T.1) fun _ _ _ _ _ _ hr=>
 am (aw (gR (cn hr.units150) (aO (iN T) hr.le T.f_64 (ac (aa 1) (ac (aa 2) (ac (aV (aa 0)) (ai))))) (aV (aa 0))))
theorem yA:∀ n:Nat,aE P w K mg base (CX1 P w) (10+n) A.a_10 A.d_10 ["self", "stamper", "bits", "key", "value"] (ja K A n)
 | 0=>⟨fun vs H Q E h=>(yJ K A vs H Q E h).elim,fun _ _ _ H _ _ vs Q E _ _ _ _ h=>(yJ K A vs H Q E h).elim⟩
 | n+1=>T.f_10.okS yW (BG K A (n+1)) (Hw T.1 n) fun _ _ _ _ _ _ (hr:bj (10+n) _)=>
 aj (aQ (bx (bp (cz (aa 0) T.cl_Fork T.me_Fork_leads (AU T) hr.le T.b_8 aL (ac (aa 2) (ac (aa 3) (ai)))))) (aj (aP 5 yW.nd (aO (ye T) hr.le T.f_40 (ac (aV (aa 0)) (ac (aV (aa 0)) (ac (aO (iN T) hr.le T.f_64 (ac (aa 2) (ac (aa 3) (ac (aV (aa 0)) (ai))))) (ai)))))) (am (aw (aO (yj T) hr.le T.f_55 (ac (aa 1) (ac (aa 2) (ac (aa 5) (ac (dq T.mk_Leaf (su T) hr.le T.mc_Leaf T.b_13 aL (ac (aa 1) (ac (aa 3) (ac (aa 4) (ai))))) (ac (aa 0) (ai)))))))))) (aG)) (am (aw (cz (aa 0) T.cl_Fork T.me_Fork_changed (Cc T) hr.le T.b_6 aL (ac (aa 1) (ac (aa 2) (ac (aa 3) (ac (gk (cz (aa 0) T.cl_Fork T.me_Fork_toward (rS T) hr.le T.b_9 aL (ac (aa 2) (ac (aa 3) (ai)))) (mdc T.cl_Bare T.me_Bare_with_key (Ce T) hr.le T.b_2 aL (mdc T.cl_Leaf T.me_Leaf_with_key (zt T) hr.le T.b_15 aL (mdc T.cl_Fork T.me_Fork_with_key (yA n) hr.le T.b_10 aL (mdn rfl)))) (ac (aa 1) (ac (aa 2) (ac (aa 3) (ac (aa 4) (ai)))))) (ai))))))))
theorem GO:aE P w K mg base (CX1 P w) 81 A.a_20 A.d_20 ["self", "key", "value"] (lY K A):=
 T.f_20.okS yk (DY K A) (FM T.1) fun _ _ _ _ _ _ hr=>
 aj (aP 3 yk.nd (cz (aa 0) T.cl_Table T.me_Table_value_of (zg T) hr.le T.b_24 aL (ac (aa 1) (ai)))) (aj (aQ (bx (bp (aO (zm T) hr.le T.f_53 (ac (aa 2) (ai))))) (am (dE)) (aG)) (aj (bU (aa 0) (gk (aV (aa 0)) (mdc T.cl_Bare T.me_Bare_with_key (Ce T) hr.le T.b_2 aL (mdc T.cl_Leaf T.me_Leaf_with_key (zt T) hr.le T.b_15 aL (mdc T.cl_Fork T.me_Fork_with_key (yA T 70) hr.le T.b_10 aL (mdn rfl)))) (ac (aV (aa 0)) (ac (aV (aa 0)) (ac (aa 1) (ac (aa 2) (ai))))))) (am (aw (aa 3)))))
theorem EF:aE P w K mg base (CX1 P w) 82 A.a_27 A.d_27 ["_law_table", "_law_bits_here", "_law_known", "_law_keys", "_law_cell"] (lK K A):=
 T.f_27.f.okS lm (DG K A) (EO T.1) fun _ _ _ _ _ _ hr=>
 aj (aP 5 lm.nd (aC eE (aa 4) (ap))) (aj (aQ (x_w (jv (aX (cn hr.units150) (aC cj (aa 4) (ap)) (ap)) (iz (aX (zv (Nat.lt_of_le_of_lt (Nat.le_add_right _ 150) hr.units150)) (aa 2) (ij))))) (aj (aP 6 lm.nd (bu (aM hr.units1) (aU (BY rfl) T.z_sorted boot_sorted (ac (aa 2) (ai))) (aC cj (aa 5) (aU cE T.z_len PySem.boot_len (ac (aa 2) (ai)))) (fun _ _=>rfl))) (aj (eD (cz (aa 0) T.cl_Table T.me_Table_take (HL T) hr.le T.b_22 aL (ac (aa 6) (ai)))) (aj (eD (jq PySem.F.plainAttrs_dict PySem.F.slot_dict_pop PySem.F.type_dict_pop zQ (aa 2) (ac (aa 6) (ai)))) (am (aw (aa 6)))))) (aG)) (aj (aP 6 lm.nd (aO (zj T) hr.le T.f_28 (ac (aa 1) (ac (aa 5) (ac (aa 3) (ai)))))) (aj (aP 7 lm.nd (aO (GV T) hr.le T.f_34 (ac (aC cj (aC fQ (aa 4) (ap)) (ap)) (ai)))) (aj (eD (cz (aa 0) T.cl_Table T.me_Table_put (GO T) hr.le T.b_20 aL (ac (aa 6) (ac (aa 7) (ai))))) (aj (pd hr.units1 (aa 2) (aa 6) (aa 7)) (am (aw (aa 6))))))))
theorem Fx:aE P w K mg base (CX1 P w) 11 A.a_23 A.d_23 ["self"] (lO K A):=
 T.f_23.okS yy (Bb K A) (FT T.1) fun _ _ _ _ _ _ hr=>
 aj (aP 1 yy.nd (dq T.mk_Table (yD T) hr.le T.mc_Table T.b_19 aL (ac (aV (aa 0)) (ac (aV (aa 0)) (ai))))) (aj (bU (aa 1) (aV (aa 0))) (am (aw (aa 1))))
theorem rJ:aE P w K mg base (CX1 P w) 1 A.a_21 A.d_21 ["self"] (gN K A):=
 T.f_21.okS EB (Bi K A) (Hd T.1) fun _ _ _ _ _ _ hr=>
 am (aw (aV (aV (aa 0))))
theorem rM:aE P w K mg base (CX1 P w) 3 A.a_61 A.d_61 ["table", "key"] (iK K A):=
 T.f_61.f.okS oE (Cz K A) (HK T.1) fun _ _ _ _ _ _ hr=>
 aj (aQ (bx (bp (aO (nQ T) hr.le T.f_47 (ac (aV (aa 0)) (ac (aa 1) (ai)))))) (am (dE)) (aG)) (aj (aP 2 oE.nd (gY (ai))) (aj (aP 3 oE.nd (aV (aa 0))) (aj (Ae (x_w (jv (bp (aU yf T.z_isinstance boot_isinstance (ac (aa 3) (ac (Ei T.mc_Fork) (ai))))) (iz (bp (cz (aa 3) T.cl_Fork T.me_Fork_leads (AU T) hr.le T.b_8 aL (ac (aV (aa 0)) (ac (aa 1) (ai)))))))) (aj (eD (jq PySem.F.plainAttrs_list PySem.F.slot_list_append PySem.F.type_list_append eQ (aa 2) (ac (gc (ac (aV (aa 3)) (ac (aV (cz (aa 3) T.cl_Fork T.me_Fork_aside (AW T) hr.le T.b_5 aL (ac (aV (aa 0)) (ac (aa 1) (ai))))) (ai)))) (ai)))) (am (aP 3 oE.nd (cz (aa 3) T.cl_Fork T.me_Fork_toward (rS T) hr.le T.b_9 aL (ac (aV (aa 0)) (ac (aa 1) (ai))))))) PassesOwn.never) (am (aw (gc (ac (iV BA T.z_tuple boot_tuple (ac (aa 2) (ai))) (ac (aV (aa 3)) (ai)))))))))
theorem EN:aE P w K mg base (CX1 P w) 3 A.a_51 A.d_51 ["bits", "least", "thing"] (oF K A):=
 T.f_51.f.okS Gp (Cy K A) (Hy T.1) fun _ _ _ _ _ _ hr=>
 aj (aQ (x_w (fc (bx (bp (aU fx T.z_isinstance boot_isinstance (ac (aa 2) (ac (fD T.z_tuple boot_tuple) (ai)))))) (fb (aX (gC hr.units150) (aU cE T.z_len PySem.boot_len (ac (aa 2) (ai))) (ap))))) (am (aw (cM))) (aG)) (am (aw (fS (aO (iZ T) hr.le T.f_54 (ac (bu (aM hr.units1) (aa 2) (ap) (fun _ _=>rfl)) (ai))) (fS (jZ oLe oLt (aa 1) (bu (aM hr.units1) (aa 2) (ap) (fun _ _=>rfl)) (aa 0)) (gM (aO (nN T) hr.le T.f_50 (ac (bu (aM hr.units1) (aa 2) (ap) (fun _ _=>rfl)) (ai))))))))
theorem HB:aE P w K mg base (CX1 P w) 4 A.a_41 A.d_41 ["bits", "thing"] (oH K A):=
 T.f_41.f.okS oq (Df K A) (HC T.1) fun _ _ _ _ _ _ hr=>
 aj (aQ (bx (bp (aU fx T.z_isinstance boot_isinstance (ac (aa 1) (ac (fD T.z_tuple boot_tuple) (ai)))))) (am (aw (cM))) (aG)) (aj (aP 2 oq.nd (ap)) (aj (hE 3 oq.nd (eF (aa 1)) (aj (aQ (bx (bp (aO (EN T) hr.le T.f_51 (ac (aa 0) (ac (aa 2) (ac (aa 3) (ai))))))) (am (aw (cM))) (aG)) (am (aP 2 oq.nd (aC cG (bu (aM hr.units1) (aa 3) (ap) (fun _ _=>rfl)) (ap))))) PassesOwn.never) (am (aw (cM)))))
theorem GM:aE P w K mg base (CX1 P w) 3 A.a_48 A.d_48 ["bits", "depth", "begin", "thing"] (nY K A):=
 T.f_48.f.okS HP (Ds K A) (GR T.1) fun _ _ _ _ _ _ hr=>
 aj (aQ (x_w (fc (bx (bp (aU fx T.z_isinstance boot_isinstance (ac (aa 3) (ac (fD T.z_tuple boot_tuple) (ai)))))) (fc (aX (gC hr.units150) (aU cE T.z_len PySem.boot_len (ac (aa 3) (ai))) (ap)) (fb (aX (gC hr.units150) (bu (aM hr.units1) (aa 3) (ap) (fun _ _=>rfl)) (cZ)))))) (am (aw (cM))) (aG)) (aj (aQ (x_w (fc (bx (bp (aO (nQ T) hr.le T.f_47 (ac (aa 0) (ac (bu (aM hr.units1) (aa 3) (ap) (fun _ _=>rfl)) (ai)))))) (fb (bx (bp (aO (zm T) hr.le T.f_53 (ac (bu (aM hr.units1) (aa 3) (ap) (fun _ _=>rfl)) (ai)))))))) (am (aw (cM))) (aG)) (am (aw (gR (cn hr.units150) (aO (iN T) hr.le T.f_64 (ac (aa 0) (ac (bu (aM hr.units1) (aa 3) (ap) (fun _ _=>rfl)) (ac (aa 1) (ai))))) (aa 2)))))
theorem GB:aE P w K mg base (CX1 P w) 2 A.a_46 A.d_46 ["bits", "depth", "begin", "thing"] (ow K A):=
 T.f_46.f.okS GY (AE K A) (GH T.1) fun _ _ _ _ _ _ hr=>
 aj (aQ (x_w (fc (bx (bp (aU fx T.z_isinstance boot_isinstance (ac (aa 3) (ac (fD T.z_tuple boot_tuple) (ai)))))) (fc (aX (gC hr.units150) (aU cE T.z_len PySem.boot_len (ac (aa 3) (ai))) (ap)) (fb (aX (gC hr.units150) (bu (aM hr.units1) (aa 3) (ap) (fun _ _=>rfl)) (cZ)))))) (am (aw (cM))) (aG)) (aj (aQ (x_w (fc (bx (bp (aO (iZ T) hr.le T.f_54 (ac (bu (aM hr.units1) (aa 3) (ap) (fun _ _=>rfl)) (ai))))) (fb (bx (kK oLe oLt (aa 1) (bu (aM hr.units1) (aa 3) (ap) (fun _ _=>rfl)) (aa 0)))))) (am (aw (cM))) (aG)) (aj (aQ (x_w (fc (bx (bp (aO (iZ T) hr.le T.f_54 (ac (bu (aM hr.units1) (aa 3) (ap) (fun _ _=>rfl)) (ai))))) (fb (bx (kK oLe oLt (ap) (bu (aM hr.units1) (aa 3) (ap) (fun _ _=>rfl)) (aC mU (ap) (bu (aM hr.units1) (aa 3) (ap) (fun _ _=>rfl)))))))) (am (aw (cM))) (aG)) (am (aw (gR (cn hr.units150) (aC vp (bu (aM hr.units1) (aa 3) (ap) (fun _ _=>rfl)) (aC jp (bu (aM hr.units1) (aa 3) (ap) (fun _ _=>rfl)) (aa 1))) (aa 2))))))
theorem Hm:aE P w K mg base (CX1 P w) 4 A.a_45 A.d_45 ["bits", "key", "place", "thing"] (nU K A):=
 T.f_45.f.okS yu (BE K A) (FV T.1) fun _ _ _ _ _ _ hr=>
 aj (aQ (aX (cn hr.units150) (aa 3) (gc (ac (cZ) (ai)))) (am (aw (gR (cn hr.units150) (aa 2) (ap)))) (aG)) (aj (aP 4 yu.nd (aO (iN T) hr.le T.f_64 (ac (aa 0) (ac (aa 1) (ac (aa 2) (ai)))))) (aj (aQ (bp (aO (GM T) hr.le T.f_48 (ac (aa 0) (ac (aa 2) (ac (aa 4) (ac (aa 3) (ai))))))) (am (aw (cM))) (aG)) (aj (aQ (bx (bp (aO (GB T) hr.le T.f_46 (ac (aa 0) (ac (aa 2) (ac (aa 4) (ac (aa 3) (ai)))))))) (am (aw (cM))) (aG)) (aj (aQ (aX (cn hr.units150) (bu (aM hr.units1) (aa 3) (ap) (fun _ _=>rfl)) (aO (iN T) hr.le T.f_64 (ac (aa 0) (ac (aa 1) (ac (bu (aM hr.units1) (aa 3) (ap) (fun _ _=>rfl)) (ai)))))) (am (aw (cM))) (aG)) (am (aw (fS (aO (nN T) hr.le T.f_50 (ac (bu (aM hr.units1) (aa 3) (ap) (fun _ _=>rfl)) (ai))) (gM (aO (nN T) hr.le T.f_50 (ac (bu (aM hr.units1) (aa 3) (ap) (fun _ _=>rfl)) (ai)))))))))))
theorem FU:aE P w K mg base (CX1 P w) 5 A.a_49 A.d_49 ["bits", "key", "thing"] (nR K A):=
 T.f_49.f.okS yR (Bl K A) (Hx T.1) fun _ _ _ _ _ _ hr=>
 aj (aQ (x_w (fc (bx (bp (aU fx T.z_isinstance boot_isinstance (ac (aa 2) (ac (fD T.z_tuple boot_tuple) (ai)))))) (fb (aX (gC hr.units150) (aU cE T.z_len PySem.boot_len (ac (aa 2) (ai))) (ap))))) (am (aw (cM))) (aG)) (aj (aQ (bx (bp (aO (HB T) hr.le T.f_41 (ac (aa 0) (ac (bu (aM hr.units1) (aa 2) (ap) (fun _ _=>rfl)) (ai)))))) (am (aw (cM))) (aG)) (aj (aP 3 yR.nd (mI (bp (bu (aM hr.units1) (aa 2) (ap) (fun _ _=>rfl))) (aC cG (bu (aM hr.units1) (bu (aM hr.units1) (bu (aM hr.units1) (aa 2) (ap) (fun _ _=>rfl)) (lX (ap)) (fun _ _=>rfl)) (ap) (fun _ _=>rfl)) (ap)) (ap))) (am (aw (aO (Hm T) hr.le T.f_45 (ac (aa 0) (ac (aa 1) (ac (aa 3) (ac (bu (aM hr.units1) (aa 2) (ap) (fun _ _=>rfl)) (ai))))))))))
theorem Ff:aE P w K mg base (CX1 P w) 2 A.a_65 A.d_65 ["bits", "key", "step", "mark"] (nS K A):=
 T.f_65.f.okS sA (AI K A) (Fo T.1) fun _ _ _ _ _ _ hr=>
 aj (aP 4 sA.nd (bu (aM hr.units1) (aa 2) (ap) (fun _ _=>rfl))) (aj (aP 5 sA.nd (aO (iN T) hr.le T.f_64 (ac (aa 0) (ac (aa 1) (ac (aa 4) (ai)))))) (aj (aQ (aX (cn hr.units150) (aO (lB T) hr.le T.f_58 (ac (aa 0) (ac (aa 1) (ac (aa 4) (ai))))) (ap)) (am (aw (gc (ac (cZ) (ac (aa 4) (ac (aa 5) (ac (aa 3) (ac (bu (aM hr.units1) (aa 2) (ap) (fun _ _=>rfl)) (ai))))))))) (aG)) (am (aw (gc (ac (cZ) (ac (aa 4) (ac (aa 5) (ac (bu (aM hr.units1) (aa 2) (ap) (fun _ _=>rfl)) (ac (aa 3) (ai)))))))))))
theorem Eu:aE P w K mg base (CX1 P w) 6 A.a_62 A.d_62 ["stamper", "bits", "key", "slip"] (oG K A):=
 T.f_62.f.okS sT (DS K A) (GG T.1) fun _ _ _ _ _ _ hr=>
 aj (aQ (bx (bp (aO (nQ T) hr.le T.f_47 (ac (aa 1) (ac (aa 2) (ai)))))) (am (dE)) (aG)) (aj (aQ (bx (bp (aO (FU T) hr.le T.f_49 (ac (aa 1) (ac (aa 2) (ac (aa 3) (ai))))))) (am (dE)) (aG)) (aj (aP 4 sT.nd (gY (ac (bu (aM hr.units1) (aa 3) (ap) (fun _ _=>rfl)) (ai)))) (aj (hE 5 sT.nd (Fb T.z_reversed (ac (bu (aM hr.units1) (aa 3) (ap) (fun _ _=>rfl)) (ai))) (am (eD (jq PySem.F.plainAttrs_list PySem.F.slot_list_append PySem.F.type_list_append eQ (aa 4) (ac (aO (Ff T) hr.le T.f_65 (ac (aa 1) (ac (aa 2) (ac (aa 5) (ac (pe (oN T) hr.le aL (aa 0) (ac (bu (aM hr.units1) (aa 4) (lX (ap)) (fun _ _=>rfl)) (ai))) (ai)))))) (ai))))) PassesOwn.never) (am (aw (aa 4))))))
theorem yK:aE P w K mg base (CX1 P w) 7 A.a_60 A.d_60 ["stamper", "bits", "key", "slip"] (ma K A):=
 T.f_60.f.okS EC (Ea K A) (FS T.1) fun _ _ _ _ _ _ hr=>
 am (aw (pe (oN T) hr.le aL (aa 0) (ac (bu (aM hr.units1) (aO (Eu T) hr.le T.f_62 (ac (aa 0) (ac (aa 1) (ac (aa 2) (ac (aa 3) (ai)))))) (lX (ap)) (fun _ _=>rfl)) (ai))))
theorem yE:aE P w K mg base (CX1 P w) 1 A.a_30 A.d_30 ["_law_found", "_law_due"] (jR K A):=
 T.f_30.f.okS Gj (CQ K A) (Ge T.1) fun _ _ _ _ _ _ hr=>
 aj (aQ (aX vP (aa 1) (jO)) (am (aw (gR vP (aa 0) (jO)))) (aG)) (am (aw (fS (aU fx T.z_isinstance boot_isinstance (ac (aa 0) (ac (fD T.z_str boot_str) (ai)))) (gM (gR (cn hr.units150) (aa 0) (aa 1))))))
theorem Fw:aE P w K mg base (CX1 P w) 1 A.a_63 A.d_63 ["key", "slip"] (ot K A):=
 T.f_63.f.okS yG (AC K A) (Hq T.1) fun _ _ _ _ _ _ hr=>
 aj (aP 2 yG.nd (bu (aM hr.units1) (aa 1) (ap) (fun _ _=>rfl))) (am (aw (mI (x_w (jv (aX (cn hr.units150) (bu (aM hr.units1) (aa 2) (ap) (fun _ _=>rfl)) (cZ)) (iz (aX (cn hr.units150) (bu (aM hr.units1) (aa 2) (ap) (fun _ _=>rfl)) (aa 0))))) (bu (aM hr.units1) (aa 2) (ap) (fun _ _=>rfl)) (jO))))
theorem zo:aE P w K mg base (CX1 P w) 8 A.a_59 A.d_59 ["stamper", "bits", "mark", "key", "slip"] (jX K A):=
 T.f_59.f.okS zn (AO K A) (HG T.1) fun _ _ _ _ _ _ hr=>
 aj (aP 5 zn.nd (aO (yK T) hr.le T.f_60 (ac (aa 0) (ac (aa 1) (ac (aa 3) (ac (aa 4) (ai))))))) (aj (aQ (aX (gC hr.units150) (aa 5) (aa 2)) (am (dE)) (aG)) (am (aw (aO (Fw T) hr.le T.f_63 (ac (aa 3) (ac (aa 4) (ai)))))))
theorem yi:aE P w K mg base (CX1 P w) 9 A.a_35 A.d_35 ["_law_table", "_law_stamper_here", "_law_bits_here", "_law_root", "_law_known", "_law_key_here"] (jT K A):=
 T.f_35.f.okS sW (DC K A) (FQ T.1) fun _ _ _ _ _ _ hr=>
 aj (aP 6 sW.nd (aO (rM T) hr.le T.f_61 (ac (aa 0) (ac (aa 5) (ai))))) (aj (aQ (aX (gC hr.units150) (aO (yK T) hr.le T.f_60 (ac (aa 1) (ac (aa 2) (ac (aa 5) (ac (aa 6) (ai)))))) (aa 3)) (am (aw (cM))) (aG)) (aj (aP 7 sW.nd (aC cG (aU cE T.z_len PySem.boot_len (ac (bu (aM hr.units1) (aa 6) (ap) (fun _ _=>rfl)) (ai))) (aC fQ (ap) (iV HY T.z_int L2.AX (ac (gR (cn hr.units150) (bu (aM hr.units1) (bu (aM hr.units1) (aa 6) (ap) (fun _ _=>rfl)) (ap) (fun _ _=>rfl)) (cZ)) (ai)))))) (aj (aQ (x_w (fc (aX oGt (aa 7) (aa 2)) (fb (aX oGt (aa 7) (aU cE T.z_len PySem.boot_len (ac (aa 4) (ai))))))) (am (aw (cM))) (aG)) (am (aw (aO (yE T) hr.le T.f_30 (ac (aO (zo T) hr.le T.f_59 (ac (aa 1) (ac (aa 2) (ac (aa 3) (ac (aa 5) (ac (aa 6) (ai))))))) (ac (yg PySem.F.plainAttrs_dict PySem.F.slot_dict_get PySem.F.type_dict_get (qq hr.units1) (aa 4) (ac (aa 5) (ai))) (ai)))))))))
theorem EH:aE P w K mg base (CX1 P w) 10 A.a_29 A.d_29 ["_law_olds", "_law_stamper_here", "_law_bits_here", "_law_keys"] (lA K A):=
 T.f_29.f.okS sf (Bx K A) (FR T.1) fun _ _ _ _ _ _ hr=>
 aj (Dt 4 5 6 7 8 sf.nd (eF (aa 0)) (aj (aQ (x_w (fc (aX (gC hr.units150) (aO (rM T) hr.le T.f_61 (ac (aa 4) (ac (aa 7) (ai)))) (aa 8)) (fb (aX (gC hr.units150) (iE (aa 4) T.cl_Table T.me_Table_root (rJ T) hr.le T.b_21 aL) (aa 6))))) (am (aw (cM))) (aG)) (aj (aQ (bx (bp (aO (yE T) hr.le T.f_30 (ac (aO (zo T) hr.le T.f_59 (ac (aa 1) (ac (aa 2) (ac (aa 6) (ac (aa 7) (ac (aa 8) (ai))))))) (ac (yg PySem.F.plainAttrs_dict PySem.F.slot_dict_get PySem.F.type_dict_get (qq hr.units1) (aa 5) (ac (aa 7) (ai))) (ai)))))) (am (aw (cM))) (aG)) (am (hE 9 sf.nd (eF (aa 3)) (am (aQ (bx (bp (aO (yi T) hr.le T.f_35 (ac (aa 4) (ac (aa 1) (ac (aa 2) (ac (aa 6) (ac (aa 5) (ac (aa 9) (ai)))))))))) (am (aw (cM))) (aG))) PassesOwn.never)))) PassesOwn.never) (am (aw (cM)))
theorem EY:aE P w K mg base (CX1 P w) 83 A.a_56 A.d_56 ["_law_script"] (oC K A):=
 T.f_56.f.okS eK (Cv K A) (EW T.1) fun _ _ _ _ _ _ hr=>
 aj (aP 1 eK.nd (aO (Hn T) hr.le T.f_26 (ac (aO (rp T) hr.le T.f_25 (ac (aa 0) (ac (ap) (ai)))) (ai)))) (aj (aP 2 eK.nd (aO (Hf T) hr.le T.f_31 (ac (aO (rp T) hr.le T.f_25 (ac (aa 0) (ac (ap) (ai)))) (ai)))) (aj (aP 3 eK.nd (dq T.mk_Table (yD T) hr.le T.mc_Table T.b_19 aL (ac (aa 2) (ac (aa 1) (ai))))) (aj (aP 4 eK.nd (ij)) (aj (aP 5 eK.nd (gY (ac (aO (zj T) hr.le T.f_28 (ac (aa 1) (ac (aO (rp T) hr.le T.f_25 (ac (aa 0) (ac (ap) (ai)))) (ac (gY (ai)) (ai))))) (ai)))) (aj (aP 6 eK.nd (gY (ai))) (aj (hE 7 eK.nd (eF (fq fv (aa 0) (eU (ap)) (eU (ap)))) (aj (aP 8 eK.nd (aO (EF T) hr.le T.f_27 (ac (aa 3) (ac (aa 1) (ac (aa 4) (ac (aa 5) (ac (aa 7) (ai)))))))) (aj (eD (jq PySem.F.plainAttrs_list PySem.F.slot_list_append PySem.F.type_list_append eQ (aa 5) (ac (aa 8) (ai)))) (am (aQ (x_w (jv (aX oLt (aU cE T.z_len PySem.boot_len (ac (aa 6) (ai))) (ap)) (iz (aX oLt (aC cj (aa 7) (ap)) (ap))))) (am (eD (jq PySem.F.plainAttrs_list PySem.F.slot_list_append PySem.F.type_list_append eQ (aa 6) (ac (gc (ac (iE (aa 3) T.cl_Table T.me_Table_twin (Fx T) hr.le T.b_23 aL) (ac (iV Fl T.z_dict boot_dict (ac (aa 4) (ai))) (ac (iE (aa 3) T.cl_Table T.me_Table_root (rJ T) hr.le T.b_21 aL) (ac (aa 8) (ac (aO (rM T) hr.le T.f_61 (ac (aa 3) (ac (aa 8) (ai)))) (ai))))))) (ai))))) (aG))))) PassesOwn.never) (aj (aP 9 eK.nd (aC cG (gY (ac (ap) (ac (aC jp (aC mU (ap) (aa 1)) (ap)) (ai)))) (fq fv (aa 5) (eU (lX (ap))) (gq)))) (aj (aP 9 eK.nd (aC cG (aa 9) (zA (ys:=["_law_bits_here"]) (by exact ⟨rfl,by decide +kernel,by decide +kernel,rfl,rfl,by decide +kernel,by decide +kernel⟩) (by exact .cons rfl (by first | exact .inl rfl | exact .inr rfl) rfl (.nil)) (DT T.z_enumerate (ac (fq fv (aa 5) (eU (lX (ap))) (gq)) (ai))) (fun C s H fp=>lF) (fun C s H fp=>(aC xY (aa 1) (aC mU (ap) (aC cj (aa 0) (aa 2)))))))) (aj (hE 8 eK.nd (eF (aa 9)) (am (aQ (bx (bp (aO (yi T) hr.le T.f_35 (ac (aa 3) (ac (aa 2) (ac (aa 1) (ac (iE (aa 3) T.cl_Table T.me_Table_root (rJ T) hr.le T.b_21 aL) (ac (aa 4) (ac (aa 8) (ai)))))))))) (am (aw (cM))) (aG))) PassesOwn.never) (am (aw (aO (EH T) hr.le T.f_29 (ac (aa 6) (ac (aa 2) (ac (aa 1) (ac (aC cG (fq fv (aa 9) (gq) (eU (ap))) (fq fv (aa 5) (gq) (eU (ap)))) (ai)))))))))))))))))
omit T
def rA (P:Program) (w:World) (K:W.Frag) (mg:Str→Option Value) (fa:Addr):Prop:=∃ (fd:FuncData) (tabs:List (Addr×Addr)) (sp:Sp),(∀ (s:Shared) (v:Value),BindsTo s fd ⟨[v],[]⟩ [("_law_script",v)])∧W.noTabs K=true∧(∀ t∈tabs,∃ y∈(["writing", "counting", "_law_worded", "_law_sure", "_law_weak"]:List Str),W.tabIn K y=some t)∧(∀ base:Heap,K.In base→base.Ns mainGlobals mg→BM mg base→(∀ t∈tabs,W.CodeHd base t.1 t.2)→aE P w K mg base (CX1 P w) 83 fa fd ["_law_script"] sp)∧∀ (H:Hp) (a:Addr) (ns:List Int),ns.length≤63→(∀ t∈tabs,H t.2=some (.tbl #[]))→SqL K H a (ns.map V.int)→sp [.ref a] H (fun v _=>v=.bl true) fun _ _ _=>False
theorem DO (T:Txt K mg A) (nt:W.noTabs K=true) (tb_66:W.tabIn K "writing" =some (A.k_66,A.t_66)) (tb_42:W.tabIn K "counting" =some (A.k_42,A.t_42)) (tb_38:W.tabIn K "_law_worded" =some (A.k_38,A.t_38)) (tb_32:W.tabIn K "_law_sure" =some (A.k_32,A.t_32)) (tb_36:W.tabIn K "_law_weak" =some (A.k_36,A.t_36)) (tdn:([A.t_66,A.t_42,A.t_38,A.t_32,A.t_36]:List Addr).Nodup):rA P w K mg A.a_56:=by
 refine ⟨A.d_56,[(A.k_66,A.t_66),(A.k_42,A.t_42),(A.k_38,A.t_38),(A.k_32,A.t_32),(A.k_36,A.t_36)],oC K A,T.f_56.f.bt,nt,?_,fun base _ _ B C=>?_,fun H a ns hl hO hS=>⟨a,ns,rfl,hS,hl,⟨hO (A.k_66,A.t_66) (by simp),hO (A.k_42,A.t_42) (by simp),hO (A.k_38,A.t_38) (by simp),hO (A.k_32,A.t_32) (by simp),hO (A.k_36,A.t_36) (by simp),tdn⟩,fun _=>rfl⟩⟩
 · intro t ht
   simp only [List.mem_cons,List.not_mem_nil,or_false] at ht
   rcases ht with rfl | rfl | rfl | rfl | rfl
   · exact ⟨"writing",by simp,tb_66⟩
   · exact ⟨"counting",by simp,tb_42⟩
   · exact ⟨"_law_worded",by simp,tb_38⟩
   · exact ⟨"_law_sure",by simp,tb_32⟩
   · exact ⟨"_law_weak",by simp,tb_36⟩
 · exact EY ⟨T,B,C (A.k_66,A.t_66) (by simp),C (A.k_42,A.t_42) (by simp),C (A.k_38,A.t_38) (by simp),C (A.k_32,A.t_32) (by simp),C (A.k_36,A.t_36) (by simp)⟩
theorem Dq {h:Heap} {fa:Addr} (X:K.In h) (G:h.Ns mainGlobals mg) (hfa:mg "law" =some (.ref fa)) {x_54 x_50 x_52 x_57 x_68 x_18 x_26 x_25 x_66 x_17 x_42 x_38 x_32 x_36 x_31 x_44 x_12 x_0 x_19 x_28 x_47 x_1 x_14 x_58 x_9 x_7 x_24 x_3 x_16 x_5 x_4 x_6 x_11 x_22 x_34 x_53 x_13 x_2 x_64 x_55 x_40 x_15 x_8 x_10 x_20 x_27 x_23 x_21 x_61 x_51 x_41 x_48 x_46 x_45 x_49 x_65 x_62 x_60 x_30 x_63 x_59 x_35 x_29 x_56 y_Numbers y_Knot y_Bare y_Fork y_Leaf y_Table:Addr} {d0 d1 d2 d3 d4 d5 d6 d7 d8 d9 d10 d11 d12 d13 d14 d15 d16 d17 d18 d19 d20 d21 d22 d23 d24 d25 d26 d27 d28 d29 d30 d31 d32 d33 d34 d35 d36 d37 d38 d39 d40 d41 d42 d43 d44 d45 d46 d47 d48 d49 d50 d51 d52 d53 d54 d55 d56 d57 d58 d59 d60 d61 d62 d63:FuncData} {tc0 tc1 tc2:Tok}
  (bo_Numbers:W.nsIn K mainGlobals "Numbers" =some (some (.ref y_Numbers))) (bo_Knot:W.nsIn K mainGlobals "Knot" =some (some (.ref y_Knot))) (bo_Bare:W.nsIn K mainGlobals "Bare" =some (some (.ref y_Bare))) (bo_Fork:W.nsIn K mainGlobals "Fork" =some (some (.ref y_Fork))) (bo_Leaf:W.nsIn K mainGlobals "Leaf" =some (some (.ref y_Leaf))) (bo_Table:W.nsIn K mainGlobals "Table" =some (some (.ref y_Table))) (h0:Fa K "is_whole" "is_whole" vD x_54 d0) (h1:Fa K "is_stamp" "is_stamp" wa x_50 d1) (h2:Fa K "is_term" "is_term" wB x_52 d2) (h3:Fa K "part_form" "part_form" xb x_57 d3) (h4:Fa K "written" "written" wR x_68 d4) (a5:W.findIn K (.ref y_Numbers) "number_of" =some (some (.ref x_18))) (h5:Fun K "number_of" "Numbers.number_of" vw x_18 d5) (fn5:W.isFn K (.ref x_18)=true) (h6:Fa K "_law_bits" "_law_bits" wV x_26 d6) (h7:Fa K "_law_at" "_law_at" vk x_25 d7) (h8:Fa K "writing" "writing" lg x_66 d8) (tb_66:(W.tabIn K "writing").isSome=true) (a9:W.findIn K (.ref y_Numbers) "__init__" =some (some (.ref x_17))) (h9:Fun K "__init__" "Numbers.__init__" wN x_17 d9) (fn9:W.isFn K (.ref x_17)=true) (h10:Fa K "counting" "counting" lf x_42 d10) (tb_42:(W.tabIn K "counting").isSome=true) (h11:Fa K "_law_worded" "_law_worded" kQ x_38 d11) (tb_38:(W.tabIn K "_law_worded").isSome=true) (h12:Fa K "_law_sure" "_law_sure" kM x_32 d12) (tb_32:(W.tabIn K "_law_sure").isSome=true) (h13:Fa K "_law_weak" "_law_weak" lc x_36 d13) (tb_36:(W.tabIn K "_law_weak").isSome=true) (h14:Fa K "_law_stamper" "_law_stamper" wA x_31 d14) (h15:Fa K "is_bits" "is_bits" xj x_44 d15) (a16:W.findIn K (.ref y_Knot) "__init__" =some (some (.ref x_12))) (h16:Fun K "__init__" "Knot.__init__" vH x_12 d16) (fn16:W.isFn K (.ref x_12)=true) (a17:W.findIn K (.ref y_Bare) "__init__" =some (some (.ref x_0))) (h17:Fun K "__init__" "Bare.__init__" s_0 x_0 d17) (fn17:W.isFn K (.ref x_0)=true) (a18:W.findIn K (.ref y_Table) "__init__" =some (some (.ref x_19))) (h18:Fun K "__init__" "Table.__init__" vV x_19 d18) (fn18:W.isFn K (.ref x_19)=true) (h19:Fa K "_law_key" "_law_key" xq x_28 d19) (h20:Fa K "is_key" "is_key" xD x_47 d20) (a21:W.findIn K (.ref y_Bare) "found" =some (some (.ref x_1))) (h21:Fun K "found" "Bare.found" s_1 x_1 d21) (fn21:W.isFn K (.ref x_1)=true) (a22:W.findIn K (.ref y_Leaf) "found" =some (some (.ref x_14))) (h22:Fun K "found" "Leaf.found" xG x_14 d22) (fn22:W.isFn K (.ref x_14)=true) (h23:Fa K "side" "side" vi x_58 d23) (a24:W.findIn K (.ref y_Fork) "toward" =some (some (.ref x_9))) (h24:Fun K "toward" "Fork.toward" s_9 x_9 d24) (fn24:W.isFn K (.ref x_9)=true) (a25:W.findIn K (.ref y_Fork) "found" =some (some (.ref x_7))) (h25:Fun K "found" "Fork.found" s_7 x_7 d25) (fn25:W.isFn K (.ref x_7)=true) (a26:W.findIn K (.ref y_Table) "value_of" =some (some (.ref x_24))) (h26:Fun K "value_of" "Table.value_of" xu x_24 d26) (fn26:W.isFn K (.ref x_24)=true) (a27:W.findIn K (.ref y_Bare) "without" =some (some (.ref x_3))) (h27:Fun K "without" "Bare.without" s_3 x_3 d27) (fn27:W.isFn K (.ref x_3)=true) (a28:W.findIn K (.ref y_Leaf) "without" =some (some (.ref x_16))) (h28:Fun K "without" "Leaf.without" vt x_16 d28) (fn28:W.isFn K (.ref x_16)=true) (a29:W.findIn K (.ref y_Fork) "aside" =some (some (.ref x_5))) (h29:Fun K "aside" "Fork.aside" s_5 x_5 d29) (fn29:W.isFn K (.ref x_5)=true) (a30:W.findIn K (.ref y_Fork) "__init__" =some (some (.ref x_4))) (h30:Fun K "__init__" "Fork.__init__" s_4 x_4 d30) (fn30:W.isFn K (.ref x_4)=true) (a31:W.findIn K (.ref y_Fork) "changed" =some (some (.ref x_6))) (h31:Fun K "changed" "Fork.changed" s_6 x_6 d31) (fn31:W.isFn K (.ref x_6)=true) (a32:W.findIn K (.ref y_Fork) "without" =some (some (.ref x_11))) (h32:Fun K "without" "Fork.without" vA x_11 d32) (fn32:W.isFn K (.ref x_11)=true) (a33:W.findIn K (.ref y_Table) "take" =some (some (.ref x_22))) (h33:Fun K "take" "Table.take" xF x_22 d33) (fn33:W.isFn K (.ref x_22)=true) (h34:Fa K "_law_text" "_law_text" xc x_34 d34) (h35:Fa K "is_value" "is_value" wH x_53 d35) (a36:W.findIn K (.ref y_Leaf) "__init__" =some (some (.ref x_13))) (h36:Fun K "__init__" "Leaf.__init__" xX x_13 d36) (fn36:W.isFn K (.ref x_13)=true) (a37:W.findIn K (.ref y_Bare) "with_key" =some (some (.ref x_2))) (h37:Fun K "with_key" "Bare.with_key" s_2 x_2 d37) (fn37:W.isFn K (.ref x_2)=true) (h38:Fa K "start" "start" wg x_64 d38) (h39:Fa K "joined" "joined" we x_55 d39) (h40:Fa K "alike" "alike" xC x_40 d40) (a41:W.findIn K (.ref y_Leaf) "with_key" =some (some (.ref x_15))) (h41:Fun K "with_key" "Leaf.with_key" vB x_15 d41) (fn41:W.isFn K (.ref x_15)=true) (a42:W.findIn K (.ref y_Fork) "leads" =some (some (.ref x_8))) (h42:Fun K "leads" "Fork.leads" s_8 x_8 d42) (fn42:W.isFn K (.ref x_8)=true) (a43:W.findIn K (.ref y_Fork) "with_key" =some (some (.ref x_10))) (h43:Fun K "with_key" "Fork.with_key" vW x_10 d43) (fn43:W.isFn K (.ref x_10)=true) (a44:W.findIn K (.ref y_Table) "put" =some (some (.ref x_20))) (h44:Fun K "put" "Table.put" vS x_20 d44) (fn44:W.isFn K (.ref x_20)=true) (h45:Fa K "_law_deed" "_law_deed" wY x_27 d45) (a46:W.findIn K (.ref y_Table) "twin" =some (some (.ref x_23))) (h46:Fun K "twin" "Table.twin" wj x_23 d46) (fn46:W.isFn K (.ref x_23)=true) (a47:W.findIn K (.ref y_Table) "root" =some (some (.ref x_21))) (h47:Fun K "root" "Table.root" xI x_21 d47) (fn47:W.isFn K (.ref x_21)=true) (h48:Fa K "slip_of" "slip_of" yd x_61 d48) (h49:Fa K "is_step" "is_step" xB x_51 d49) (h50:Fa K "are_steps" "are_steps" xS x_41 d50) (h51:Fa K "is_leaf" "is_leaf" wG x_48 d51) (h52:Fa K "is_fork" "is_fork" xQ x_46 d52) (h53:Fa K "is_end" "is_end" xg x_45 d53) (h54:Fa K "is_slip" "is_slip" vv x_49 d54) (h55:Fa K "step_term" "step_term" xO x_65 d55) (h56:Fa K "slip_terms" "slip_terms" xk x_62 d56) (h57:Fa K "slip_mark" "slip_mark" vJ x_60 d57) (h58:Fa K "_law_same" "_law_same" wo x_30 d58) (h59:Fa K "slip_value" "slip_value" vY x_63 d59) (h60:Fa K "slip_answer" "slip_answer" wK x_59 d60) (h61:Fa K "_law_told_right" "_law_told_right" wz x_35 d61) (h62:Fa K "_law_olds_right" "_law_olds_right" xp x_29 d62) (h63:Fa K "law" "law" xa x_56 d63) (pg_Numbers:W.plainGet K y_Numbers Str.empty=true) (hd_Numbers:W.hasDictIn K y_Numbers=true) (po_Numbers:W.plainOver K y_Numbers=true) (sa_Numbers:W.findIn K (.ref y_Numbers) "__setattr__" =some (some (.builtin "object.__setattr__"))) (na_Numbers_given:W.findIn K (.ref y_Numbers) "given" =some none) (pg_Knot:W.plainGet K y_Knot Str.empty=true) (hd_Knot:W.hasDictIn K y_Knot=true) (po_Knot:W.plainOver K y_Knot=true) (sa_Knot:W.findIn K (.ref y_Knot) "__setattr__" =some (some (.builtin "object.__setattr__"))) (na_Knot_term:W.findIn K (.ref y_Knot) "term" =some none) (na_Knot_mark:W.findIn K (.ref y_Knot) "mark" =some none) (pg_Bare:W.plainGet K y_Bare Str.empty=true) (hd_Bare:W.hasDictIn K y_Bare=true) (po_Bare:W.plainOver K y_Bare=true) (sa_Bare:W.findIn K (.ref y_Bare) "__setattr__" =some (some (.builtin "object.__setattr__"))) (na_Bare_term:W.findIn K (.ref y_Bare) "term" =some none) (na_Bare_mark:W.findIn K (.ref y_Bare) "mark" =some none) (pg_Fork:W.plainGet K y_Fork Str.empty=true) (hd_Fork:W.hasDictIn K y_Fork=true) (po_Fork:W.plainOver K y_Fork=true) (sa_Fork:W.findIn K (.ref y_Fork) "__setattr__" =some (some (.builtin "object.__setattr__"))) (na_Fork_depth:W.findIn K (.ref y_Fork) "depth" =some none) (na_Fork_begin:W.findIn K (.ref y_Fork) "begin" =some none) (na_Fork_left:W.findIn K (.ref y_Fork) "left" =some none) (na_Fork_right:W.findIn K (.ref y_Fork) "right" =some none) (na_Fork_term:W.findIn K (.ref y_Fork) "term" =some none) (na_Fork_mark:W.findIn K (.ref y_Fork) "mark" =some none) (pg_Leaf:W.plainGet K y_Leaf Str.empty=true) (hd_Leaf:W.hasDictIn K y_Leaf=true) (po_Leaf:W.plainOver K y_Leaf=true) (sa_Leaf:W.findIn K (.ref y_Leaf) "__setattr__" =some (some (.builtin "object.__setattr__"))) (na_Leaf_key:W.findIn K (.ref y_Leaf) "key" =some none) (na_Leaf_text:W.findIn K (.ref y_Leaf) "text" =some none) (na_Leaf_term:W.findIn K (.ref y_Leaf) "term" =some none) (na_Leaf_mark:W.findIn K (.ref y_Leaf) "mark" =some none) (pg_Table:W.plainGet K y_Table Str.empty=true) (hd_Table:W.hasDictIn K y_Table=true) (po_Table:W.plainOver K y_Table=true) (sa_Table:W.findIn K (.ref y_Table) "__setattr__" =some (some (.builtin "object.__setattr__"))) (na_Table_stamper:W.findIn K (.ref y_Table) "stamper" =some none) (na_Table_bits:W.findIn K (.ref y_Table) "bits" =some none) (na_Table_top:W.findIn K (.ref y_Table) "top" =some none) (cg_Knot:W.specialIn K (.ref y_Knot) "__getattribute__" =some (some (.builtin "type.__getattribute__"))) (cr_Knot:W.readsIn K y_Knot (.type "type")=true) (cv_Knot:W.findCls K (.ref y_Knot) (.type "type") "__init__" =some (.val (.ref x_12))) (cw_Knot:W.handedIn (.ref x_12)=true) (oig:W.specialIn K (.builtin "object.__class__") "__get__" =some (some (.builtin "getset_descriptor.__get__"))) (oit:W.takesIn K (.builtin "object.__class__")=some true) (oic_Bare:W.findIn K (.ref y_Bare) "__class__" =some (some (.builtin "object.__class__"))) (oim_Bare:W.mroIn K y_Bare (.type "object")=some true) (oic_Fork:W.findIn K (.ref y_Fork) "__class__" =some (some (.builtin "object.__class__"))) (oim_Fork:W.mroIn K y_Fork (.type "object")=some true) (oic_Leaf:W.findIn K (.ref y_Leaf) "__class__" =some (some (.builtin "object.__class__"))) (oim_Leaf:W.mroIn K y_Leaf (.type "object")=some true) (ko_Bare_Bare:W.kitOne K (.ref y_Bare) (.ref y_Bare)=some true) (ko_Bare_Fork:W.kitOne K (.ref y_Bare) (.ref y_Fork)=some false) (ko_Fork_Bare:W.kitOne K (.ref y_Fork) (.ref y_Bare)=some false) (ko_Fork_Fork:W.kitOne K (.ref y_Fork) (.ref y_Fork)=some true) (ko_Leaf_Bare:W.kitOne K (.ref y_Leaf) (.ref y_Bare)=some false) (ko_Leaf_Fork:W.kitOne K (.ref y_Leaf) (.ref y_Fork)=some false) (mk_Numbers:W.makesIn K y_Numbers=true) (kc_Numbers:W.keepIn K (.ref y_Numbers)=true) (mk_Bare:W.makesIn K y_Bare=true) (kc_Bare:W.keepIn K (.ref y_Bare)=true) (mk_Fork:W.makesIn K y_Fork=true) (kc_Fork:W.keepIn K (.ref y_Fork)=true) (mk_Leaf:W.makesIn K y_Leaf=true) (kc_Leaf:W.keepIn K (.ref y_Leaf)=true) (mk_Table:W.makesIn K y_Table=true) (kc_Table:W.keepIn K (.ref y_Table)=true) (z_all:W.nsIn K mainGlobals "all" =some none) (z_bool:W.nsIn K mainGlobals "bool" =some none) (z_dict:W.nsIn K mainGlobals "dict" =some none) (z_enumerate:W.nsIn K mainGlobals "enumerate" =some none) (z_int:W.nsIn K mainGlobals "int" =some none) (z_isinstance:W.nsIn K mainGlobals "isinstance" =some none) (z_len:W.nsIn K mainGlobals "len" =some none) (z_ord:W.nsIn K mainGlobals "ord" =some none) (z_range:W.nsIn K mainGlobals "range" =some none) (z_reversed:W.nsIn K mainGlobals "reversed" =some none) (z_sorted:W.nsIn K mainGlobals "sorted" =some none) (z_str:W.nsIn K mainGlobals "str" =some none) (z_sum:W.nsIn K mainGlobals "sum" =some none) (z_tuple:W.nsIn K mainGlobals "tuple" =some none) (c_MOST_BITS:W.nsIn K mainGlobals "MOST_BITS" =some (some (.int 60 tc0))) (c_MOST_PARTS:W.nsIn K mainGlobals "MOST_PARTS" =some (some (.int 8 tc1))) (c_MOST_SIGNS:W.nsIn K mainGlobals "MOST_SIGNS" =some (some (.int 60 tc2))) (nt:W.noTabs K=true) (td:mV K ["writing", "counting", "_law_worded", "_law_sure", "_law_weak"]=true):rA P w K mg fa:=by
 cases hfa.symm.trans (W.mg_of X G h63.m)
 obtain ⟨⟨z_66,t_66⟩,tb_66⟩:=Option.isSome_iff_exists.mp tb_66
 obtain ⟨⟨z_42,t_42⟩,tb_42⟩:=Option.isSome_iff_exists.mp tb_42
 obtain ⟨⟨z_38,t_38⟩,tb_38⟩:=Option.isSome_iff_exists.mp tb_38
 obtain ⟨⟨z_32,t_32⟩,tb_32⟩:=Option.isSome_iff_exists.mp tb_32
 obtain ⟨⟨z_36,t_36⟩,tb_36⟩:=Option.isSome_iff_exists.mp tb_36
 have tdn:([t_66,t_42,t_38,t_32,t_36]:List Addr).Nodup:=wC (by unfold mV at td;simp only [List.map_cons,List.map_nil,tb_66,tb_42,tb_38,tb_32,tb_36,Option.map_some] at td;exact of_decide_eq_true td)
 exact DO (A:=⟨x_54,d0,x_50,d1,x_52,d2,x_57,d3,x_68,d4,x_18,d5,x_26,d6,x_25,d7,x_66,d8,x_17,d9,x_42,d10,x_38,d11,x_32,d12,x_36,d13,x_31,d14,x_44,d15,x_12,d16,x_0,d17,x_19,d18,x_28,d19,x_47,d20,x_1,d21,x_14,d22,x_58,d23,x_9,d24,x_7,d25,x_24,d26,x_3,d27,x_16,d28,x_5,d29,x_4,d30,x_6,d31,x_11,d32,x_22,d33,x_34,d34,x_53,d35,x_13,d36,x_2,d37,x_64,d38,x_55,d39,x_40,d40,x_15,d41,x_8,d42,x_10,d43,x_20,d44,x_27,d45,x_23,d46,x_21,d47,x_61,d48,x_51,d49,x_41,d50,x_48,d51,x_46,d52,x_45,d53,x_49,d54,x_65,d55,x_62,d56,x_60,d57,x_30,d58,x_63,d59,x_59,d60,x_35,d61,x_29,d62,fa,d63,z_66,t_66,z_42,t_42,z_38,t_38,z_32,t_32,z_36,t_36,y_Numbers,y_Knot,y_Bare,y_Fork,y_Leaf,y_Table⟩) ⟨h0.fm1 X G,h1.fm1 X G,h2.fm1 X G,h3.fm1 X G,h4.fm1 X G,h5,h5.b2,h6.fm1 X G,h7.fm2 X G,h8.fm0 X G,h9,h9.b1,h10.fm0 X G,h11.fm0 X G,h12.fm1 X G,h13.fm1 X G,h14.fm1 X G,h15.fm1 X G,h16,h16.b3,h17,h17.b2,h18,h18.b3,h19.fm3 X G,h20.fm2 X G,h21,h21.b3,h22,h22.b3,h23.fm3 X G,h24,h24.b3,h25,h25.b3,h26,h26.b2,h27,h27.b4,h28,h28.b4,h29,h29.b3,h30,h30.b6,h31,h31.b5,h32,h32.b4,h33,h33.b2,h34.fm1 X G,h35.fm1 X G,h36,h36.b4,h37,h37.b5,h38.fm3 X G,h39.fm5 X G,h40.fm3 X G,h41,h41.b5,h42,h42.b3,h43,h43.b5,h44,h44.b3,h45.fm5 X G,h46,h46.b1,h47,h47.b1,h48.fm2 X G,h49.fm3 X G,h50.fm2 X G,h51.fm4 X G,h52.fm4 X G,h53.fm4 X G,h54.fm3 X G,h55.fm4 X G,h56.fm4 X G,h57.fm4 X G,h58.fm2 X G,h59.fm2 X G,h60.fm5 X G,h61.fm6 X G,h62.fm4 X G,h63.fm1 X G,W.mg_none_of X G z_all,W.mg_none_of X G z_bool,W.mg_none_of X G z_dict,W.mg_none_of X G z_enumerate,W.mg_none_of X G z_int,W.mg_none_of X G z_isinstance,W.mg_none_of X G z_len,W.mg_none_of X G z_ord,W.mg_none_of X G z_range,W.mg_none_of X G z_reversed,W.mg_none_of X G z_sorted,W.mg_none_of X G z_str,W.mg_none_of X G z_sum,W.mg_none_of X G z_tuple,⟨_,W.mg_of X G c_MOST_BITS⟩,⟨_,W.mg_of X G c_MOST_PARTS⟩,⟨_,W.mg_of X G c_MOST_SIGNS⟩,h8.code X G tb_66,h10.code X G tb_42,h11.code X G tb_38,h12.code X G tb_32,h13.code X G tb_36,W.mg_of X G bo_Numbers,⟨pg_Numbers,hd_Numbers,po_Numbers,sa_Numbers⟩,na_Numbers_given,W.mg_of X G bo_Knot,⟨pg_Knot,hd_Knot,po_Knot,sa_Knot⟩,na_Knot_term,na_Knot_mark,W.mg_of X G bo_Bare,⟨pg_Bare,hd_Bare,po_Bare,sa_Bare⟩,na_Bare_term,na_Bare_mark,W.mg_of X G bo_Fork,⟨pg_Fork,hd_Fork,po_Fork,sa_Fork⟩,na_Fork_depth,na_Fork_begin,na_Fork_left,na_Fork_right,na_Fork_term,na_Fork_mark,W.mg_of X G bo_Leaf,⟨pg_Leaf,hd_Leaf,po_Leaf,sa_Leaf⟩,na_Leaf_key,na_Leaf_text,na_Leaf_term,na_Leaf_mark,W.mg_of X G bo_Table,⟨pg_Table,hd_Table,po_Table,sa_Table⟩,na_Table_stamper,na_Table_bits,na_Table_top,⟨a24,fn24,h24.kp⟩,⟨a21,fn21,h21.kp⟩,⟨a22,fn22,h22.kp⟩,⟨a25,fn25,h25.kp⟩,⟨a31,fn31,h31.kp⟩,⟨a29,fn29,h29.kp⟩,⟨a27,fn27,h27.kp⟩,⟨a28,fn28,h28.kp⟩,⟨a32,fn32,h32.kp⟩,⟨a26,fn26,h26.kp⟩,⟨a37,fn37,h37.kp⟩,⟨a41,fn41,h41.kp⟩,⟨a43,fn43,h43.kp⟩,⟨a42,fn42,h42.kp⟩,⟨a44,fn44,h44.kp⟩,⟨a33,fn33,h33.kp⟩,⟨a47,fn47,h47.kp⟩,⟨a46,fn46,h46.kp⟩,⟨a5,fn5,h5.kp⟩,⟨mk_Numbers,a9,fn9,kc_Numbers⟩,⟨mk_Bare,a17,fn17,kc_Bare⟩,⟨mk_Fork,a30,fn30,kc_Fork⟩,⟨mk_Leaf,a36,fn36,kc_Leaf⟩,⟨mk_Table,a18,fn18,kc_Table⟩,⟨cg_Knot,cr_Knot,cv_Knot,cw_Knot,h16.kp⟩,⟨oic_Bare,oig,oit,oim_Bare⟩,⟨oic_Fork,oig,oit,oim_Fork⟩,⟨oic_Leaf,oig,oit,oim_Leaf⟩,ko_Bare_Bare,ko_Bare_Fork,ko_Fork_Bare,ko_Fork_Fork,ko_Leaf_Bare,ko_Leaf_Fork⟩ nt tb_66 tb_42 tb_38 tb_32 tb_36 tdn
theorem IJ {l:W.OpenLaw} {q:Program} {loose:List Str} {XP:(Str→Option Value)→Heap→Prop} {YP:World→Heap→Prop} {d:DefRec} {K:Params→W.Frag} (hn:l.most=some 63) (hdf:d.params.defaults=[])
  (hY:∀ (w:World) (h:Heap),YP w h→(K w.params).In h) (hq:∀ y∈(["writing", "counting", "_law_worded", "_law_sure", "_law_weak"]:List Str),((PyProof.Rows.recsOf q).find? fun e=>e.name==y).isSome=true)
  (F:∀ (w:World) (mg:Str→Option Value) (fa:Addr) (h:Heap),(K w.params).In h→h.Ns mainGlobals mg→mg d.name=some (.ref fa)→rA l.prog w (K w.params) mg fa):
  W.WalkO q loose XP YP l.row.toRowW d [] (fun f vs=>PySem.call f vs):=
 L2.vU (n:=63) (k:=83) (x:= "_law_script") (CX:=fun w=>CX1 l.prog w) hn (by decide) hdf ⟨rfl,by decide,by decide⟩ hY hq F fun _ _ _ _ _ ⟨_,_,_,_,_,_,z⟩=>z
end Rs
def PySem.W.Fast.tw13527104012681747481:Unit:=()
def PySem.W.Fast.tw5549793955807697525:Unit:=()
def PySem.W.Fast.tw5099389103212768434:Unit:=()
def PySem.W.Fast.tw11000071880825059121:Unit:=()
def PySem.W.Fast.tw16974230500374688853:Unit:=()
def PySem.W.Fast.tw6901113841856035881:Unit:=()
def PySem.W.Fast.tw6455749796523550558:Unit:=()
def PySem.W.Fast.tw376399760567451366:Unit:=()
def PySem.W.Fast.tw8185938467012697739:Unit:=()
def PySem.W.Fast.tw1275634316493167513:Unit:=()
def PySem.W.Fast.tw6742888061492007631:Unit:=()
def PySem.W.Fast.tw6210940961362460134:Unit:=()
def PySem.W.Fast.tw17719524383238572874:Unit:=()
def PySem.W.Fast.tw16861989880346716623:Unit:=()
def PySem.W.Fast.tw10729185650453414370:Unit:=()
def PySem.W.Fast.tw6022093905115823651:Unit:=()
def PySem.W.Fast.tw8844739389857962219:Unit:=()
def PySem.W.Fast.tw14927403453485089187:Unit:=()
def PySem.W.Fast.tw4657089738557767668:Unit:=()
def PySem.W.Fast.tw15334872492439669532:Unit:=()
def PySem.W.Fast.tw18167869296726594144:Unit:=()
def PySem.W.Fast.tw9539292591930571942:Unit:=()
def PySem.W.Fast.tw15875329481948554969:Unit:=()
def PySem.W.Fast.tw543253278217900707:Unit:=()
def PySem.W.Fast.tw721507151482363227:Unit:=()
def PySem.W.Fast.tw9896989257480310135:Unit:=()
def PySem.W.Fast.tw18080247378266240287:Unit:=()
def PySem.W.Fast.tw16006008874752629815:Unit:=()
def PySem.W.Fast.tw3806184646747868278:Unit:=()
def PySem.W.Fast.tw9626435794379143226:Unit:=()
def PySem.W.Fast.tw1561364748434639875:Unit:=()
def PySem.W.Fast.tw12433638192620298170:Unit:=()
def PySem.W.Fast.tw4211512143013240374:Unit:=()
def PySem.W.Fast.tw101984922862919265:Unit:=()
def PySem.W.Fast.tw7248416657769816433:Unit:=()
def PySem.W.Fast.tw11944326997040574486:Unit:=()
def PySem.W.Fast.tw18225831368383077688:Unit:=()
def PySem.W.Fast.tw2355180480930969585:Unit:=()
def PySem.W.Fast.tw2410712762826674846:Unit:=()
def PySem.W.Fast.tw13310533041044853326:Unit:=()
def PySem.W.Fast.tw2114550692964460943:Unit:=()
def PySem.W.Fast.tw3220771881718603344:Unit:=()
def PySem.W.Fast.tw11448187035854633970:Unit:=()
def PySem.W.Fast.tw10421102984784232299:Unit:=()
def PySem.W.Fast.tw2481355485394200776:Unit:=()
def PySem.W.Fast.tw11739726348617302374:Unit:=()
def PySem.W.Fast.tw14574151054564375819:Unit:=()
def PySem.W.Fast.tw7897678437675881825:Unit:=()
def PySem.W.Fast.tw3496677853897074192:Unit:=()
def PySem.W.Fast.tw6477394848493291292:Unit:=()
def PySem.W.Fast.tw1680454215156550566:Unit:=()
def PySem.W.Fast.tw439568760254905447:Unit:=()
def PySem.W.Fast.tw18255756668024826437:Unit:=()
def PySem.W.Fast.tw2169536254923198575:Unit:=()
def PySem.W.Fast.tw12150671000870721334:Unit:=()
def PySem.W.Fast.tw1796601892816033488:Unit:=()
def PySem.W.Fast.tw13945446631516748053:Unit:=()
def PySem.W.Fast.tw4279274550585630432:Unit:=()
def PySem.W.Fast.tw6046069736789123592:Unit:=()
def PySem.W.Fast.tw12194535791960842521:Unit:=()
def PySem.W.Fast.tw8383267241404176116:Unit:=()
def PySem.W.Fast.tw13040553407453617740:Unit:=()
def PySem.W.Fast.tw462346618932838674:Unit:=()
def PySem.W.Fast.tw17229909477415586256:Unit:=()
def PySem.W.Fast.tw16387391227355772119:Unit:=()
def PySem.W.Fast.tw12272044770301071890:Unit:=()
def PySem.W.Fast.tw15689398797289425131:Unit:=()
def PySem.W.Fast.tw896896403113713024:Unit:=()
def PySem.W.Fast.tw5480287578692112089:Unit:=()
def PySem.W.Fast.tw7004994595856768436:Unit:=()
def PySem.W.Fast.tw14987923489476863842:Unit:=()
def PySem.W.Fast.tw1189516471066421945:Unit:=()
def PySem.W.Fast.tw14360796758136425531:Unit:=()
def PySem.W.Fast.tw12954198414190584252:Unit:=()
def PySem.W.Fast.tw14939625072295913019:Unit:=()
def PySem.W.Fast.tw15386924904547413644:Unit:=()
def PySem.W.Fast.tw4710566714210073759:Unit:=()
def PySem.W.Fast.tw1997074907619429144:Unit:=()
def PySem.W.Fast.tw17552216616249126267:Unit:=()
def PySem.W.Fast.tw13940984690330734650:Unit:=()
def PySem.W.Fast.tw17024236358577494819:Unit:=()
def PySem.W.Fast.tw13771398915169428258:Unit:=()
def PySem.W.Fast.tw5127287892193304259:Unit:=()
def PySem.W.Fast.tw18248116623404916275:Unit:=()
def PySem.W.Fast.tw8688770280342526947:Unit:=()
def PySem.W.Fast.tw2523078341242842332:Unit:=()
def PySem.W.Fast.tw18163830684582115804:Unit:=()
def PySem.W.Fast.tw16284211865597630096:Unit:=()
def PySem.W.Fast.tw6538393786592973426:Unit:=()
def PySem.W.Fast.tw12246356101241764038:Unit:=()
def PySem.W.Fast.tw5520533691845244505:Unit:=()
def PySem.W.Fast.tw13122740834064253327:Unit:=()
def PySem.W.Fast.tw3937394273481168453:Unit:=()
def PySem.W.Fast.tw13717800925401255206:Unit:=()
def PySem.W.Fast.tw7035091492998430890:Unit:=()
def PySem.W.Fast.tw12348898922310836114:Unit:=()
def PySem.W.Fast.tw15283557820548184746:Unit:=()
def PySem.W.Fast.tw10653844798653513268:Unit:=()
def PySem.W.Fast.tw11990608654580493028:Unit:=()
def PySem.W.Fast.tw5925822766079019703:Unit:=()
def PySem.W.Fast.tw3800735404431163492:Unit:=()
def PySem.W.Fast.tw12191340858498997168:Unit:=()
def PySem.W.Fast.tw9539556016356383841:Unit:=()
def PySem.W.Fast.tw14971665158833222087:Unit:=()
def PySem.W.Fast.tw5321111663384225270:Unit:=()
def PySem.W.Fast.tw15473944569383658978:Unit:=()
def PySem.W.Fast.tw5515463501922926910:Unit:=()
def PySem.W.Fast.tw17325790551279111998:Unit:=()
def PySem.W.Fast.tw6400097624492757738:Unit:=()
def PySem.W.Fast.tw7420234234098851184:Unit:=()
def PySem.W.Fast.tw7525118007035838955:Unit:=()
def PySem.W.Fast.tw17794889896577564129:Unit:=()
def PySem.W.Fast.tw8312131300424711774:Unit:=()
def PySem.W.Fast.tw9848126720097561283:Unit:=()
def PySem.W.Fast.tw13480657950391587902:Unit:=()
def PySem.W.Fast.tw7608944426472451673:Unit:=()
def PySem.W.Fast.tw12295020560220274168:Unit:=()
def PySem.W.Fast.tw14299854034085801666:Unit:=()
def PySem.W.Fast.tw16752920811676562170:Unit:=()
def PySem.W.Fast.tw9114868208171576473:Unit:=()
def PySem.W.Fast.tw17822797369445897497:Unit:=()
def PySem.W.Fast.tw9430900901916860068:Unit:=()
def PySem.W.Fast.tw16969889525712639230:Unit:=()
def PySem.W.Fast.tw915407309431970423:Unit:=()
def PySem.W.Fast.tw2599205361083309865:Unit:=()
def PySem.W.Fast.tw1133538136453595846:Unit:=()
def PySem.W.Fast.tw7939696849851529201:Unit:=()
def PySem.W.Fast.tw15412979714514624005:Unit:=()
def PySem.W.Fast.tw13581814606668149357:Unit:=()
def PySem.W.Fast.tw16953538431590674507:Unit:=()
def PySem.W.Fast.tw15442043729539285666:Unit:=()
def PySem.W.Fast.tw11401631759386166930:Unit:=()
def PySem.W.Fast.tw8189302141192836536:Unit:=()
def PySem.W.Fast.tw9674884937276385472:Unit:=()
def PySem.W.Fast.tw11617976863899349268:Unit:=()
def PySem.W.Fast.tw9394674102130296752:Unit:=()
def PySem.W.Fast.tw10655468884010007512:Unit:=()
def PySem.W.Fast.tw94656788958081603:Unit:=()
def PySem.W.Fast.tw18373397636262309313:Unit:=()
def PySem.W.Fast.tw10338396634228715142:Unit:=()
def PySem.W.Fast.tw3956260621471880155:Unit:=()
def PySem.W.Fast.tw7534247111482963371:Unit:=()
def PySem.W.Fast.tw10803871021161827845:Unit:=()
def PySem.W.Fast.tw17475451903664190031:Unit:=()
def PySem.W.Fast.tw8051475543020158460:Unit:=()
def PySem.W.Fast.tw12050729831681446517:Unit:=()
def PySem.W.Fast.tw6889607752188763236:Unit:=()
def PySem.W.Fast.tw7007326772621030894:Unit:=()
def PySem.W.Fast.tw14716964425025069507:Unit:=()
def PySem.W.Fast.tw3451528387632996418:Unit:=()
def PySem.W.Fast.tw13441774601871641562:Unit:=()
def PySem.W.Fast.tw10474013629928044421:Unit:=()
def PySem.W.Fast.tw15533281259755189879:Unit:=()
def PySem.W.Fast.tw14196829797058027652:Unit:=()
def PySem.W.Fast.tw8068938735997588435:Unit:=()
def PySem.W.Fast.tw1490898296726401188:Unit:=()
def PySem.W.Fast.tw12148194901659160453:Unit:=()
def PySem.W.Fast.tw353751056166492536:Unit:=()
def PySem.W.Fast.tw5311472577060973454:Unit:=()
def PySem.W.Fast.tw6476123119650062170:Unit:=()
def PySem.W.Fast.tw17878748337129003978:Unit:=()
def PySem.W.Fast.tw7400698407715252116:Unit:=()
def PySem.W.Fast.tw9289194182264682885:Unit:=()
def PySem.W.Fast.tw1700327745994919120:Unit:=()
def PySem.W.Fast.tw16885728783397448478:Unit:=()
def PySem.W.Fast.tw6569924723137419883:Unit:=()
def PySem.W.Fast.tw4407214627340695133:Unit:=()
def PySem.W.Fast.tw2761765280314956551:Unit:=()
def PySem.W.Fast.tw6943965314013634071:Unit:=()
def PySem.W.Fast.tw17990114678013267886:Unit:=()
def PySem.W.Fast.tw16085817702075385889:Unit:=()
def PySem.W.Fast.tw17613584718187159929:Unit:=()
def PySem.W.Fast.tw11425069592363202085:Unit:=()
def PySem.W.Fast.tw315741854242732933:Unit:=()
def PySem.W.Fast.tw16762413783112646411:Unit:=()
def PySem.W.Fast.tw16875291519133758191:Unit:=()
def PySem.W.Fast.tw14927666646765296239:Unit:=()
def PySem.W.Fast.tw13480098130480655800:Unit:=()
def PySem.W.Fast.tw3220595359598553689:Unit:=()
def PySem.W.Fast.tw15672126273028274277:Unit:=()
open PySem PySem.W PyProof.Rows
set_option maxRecDepth 100000 in
set_option maxHeartbeats 0 in
theorem PySem.Challenge.cw_rootstamp_k23_whole_slips_of_a_table_holds : PySem.Challenge.rw_rootstamp_k23_whole_slips_of_a_table.Holds := by
 w_on; o_law; k_head; (case hw => w_witness2)
 k_fill
 refine Rs.IJ (l := PySem.Challenge.rw_rootstamp_k23_whole_slips_of_a_table) rfl rfl (fun w h Y => by first | exact PySem.W.kIn_of Y | exact PySem.W.km_in_of Y) (by decide +kernel) ?F
 case F =>
  intro w mg fa h KX G hmg
  refine' Rs.Dq KX G hmg ?bo_Numbers ?bo_Knot ?bo_Bare ?bo_Fork ?bo_Leaf ?bo_Table (L2.bq ?a0 ?l0 ?c0 ?k0) (L2.bq ?a1 ?l1 ?c1 ?k1) (L2.bq ?a2 ?l2 ?c2 ?k2) (L2.bq ?a3 ?l3 ?c3 ?k3) (L2.bq ?a4 ?l4 ?c4 ?k4) ?a5 (L2.bD ?l5 ?c5 ?k5) ?fn5 (L2.bq ?a6 ?l6 ?c6 ?k6) (L2.bq ?a7 ?l7 ?c7 ?k7) (L2.bq ?a8 ?l8 ?c8 ?k8) ?tb_66 ?a9 (L2.bD ?l9 ?c9 ?k9) ?fn9 (L2.bq ?a10 ?l10 ?c10 ?k10) ?tb_42 (L2.bq ?a11 ?l11 ?c11 ?k11) ?tb_38 (L2.bq ?a12 ?l12 ?c12 ?k12) ?tb_32 (L2.bq ?a13 ?l13 ?c13 ?k13) ?tb_36 (L2.bq ?a14 ?l14 ?c14 ?k14) (L2.bq ?a15 ?l15 ?c15 ?k15) ?a16 (L2.bD ?l16 ?c16 ?k16) ?fn16 ?a17 (L2.bD ?l17 ?c17 ?k17) ?fn17 ?a18 (L2.bD ?l18 ?c18 ?k18) ?fn18 (L2.bq ?a19 ?l19 ?c19 ?k19) (L2.bq ?a20 ?l20 ?c20 ?k20) ?a21 (L2.bD ?l21 ?c21 ?k21) ?fn21 ?a22 (L2.bD ?l22 ?c22 ?k22) ?fn22 (L2.bq ?a23 ?l23 ?c23 ?k23) ?a24 (L2.bD ?l24 ?c24 ?k24) ?fn24 ?a25 (L2.bD ?l25 ?c25 ?k25) ?fn25 ?a26 (L2.bD ?l26 ?c26 ?k26) ?fn26 ?a27 (L2.bD ?l27 ?c27 ?k27) ?fn27 ?a28 (L2.bD ?l28 ?c28 ?k28) ?fn28 ?a29 (L2.bD ?l29 ?c29 ?k29) ?fn29 ?a30 (L2.bD ?l30 ?c30 ?k30) ?fn30 ?a31 (L2.bD ?l31 ?c31 ?k31) ?fn31 ?a32 (L2.bD ?l32 ?c32 ?k32) ?fn32 ?a33 (L2.bD ?l33 ?c33 ?k33) ?fn33 (L2.bq ?a34 ?l34 ?c34 ?k34) (L2.bq ?a35 ?l35 ?c35 ?k35) ?a36 (L2.bD ?l36 ?c36 ?k36) ?fn36 ?a37 (L2.bD ?l37 ?c37 ?k37) ?fn37 (L2.bq ?a38 ?l38 ?c38 ?k38) (L2.bq ?a39 ?l39 ?c39 ?k39) (L2.bq ?a40 ?l40 ?c40 ?k40) ?a41 (L2.bD ?l41 ?c41 ?k41) ?fn41 ?a42 (L2.bD ?l42 ?c42 ?k42) ?fn42 ?a43 (L2.bD ?l43 ?c43 ?k43) ?fn43 ?a44 (L2.bD ?l44 ?c44 ?k44) ?fn44 (L2.bq ?a45 ?l45 ?c45 ?k45) ?a46 (L2.bD ?l46 ?c46 ?k46) ?fn46 ?a47 (L2.bD ?l47 ?c47 ?k47) ?fn47 (L2.bq ?a48 ?l48 ?c48 ?k48) (L2.bq ?a49 ?l49 ?c49 ?k49) (L2.bq ?a50 ?l50 ?c50 ?k50) (L2.bq ?a51 ?l51 ?c51 ?k51) (L2.bq ?a52 ?l52 ?c52 ?k52) (L2.bq ?a53 ?l53 ?c53 ?k53) (L2.bq ?a54 ?l54 ?c54 ?k54) (L2.bq ?a55 ?l55 ?c55 ?k55) (L2.bq ?a56 ?l56 ?c56 ?k56) (L2.bq ?a57 ?l57 ?c57 ?k57) (L2.bq ?a58 ?l58 ?c58 ?k58) (L2.bq ?a59 ?l59 ?c59 ?k59) (L2.bq ?a60 ?l60 ?c60 ?k60) (L2.bq ?a61 ?l61 ?c61 ?k61) (L2.bq ?a62 ?l62 ?c62 ?k62) (L2.bq ?a63 ?l63 ?c63 ?k63) ?pg_Numbers ?hd_Numbers ?po_Numbers ?sa_Numbers ?na_Numbers_given ?pg_Knot ?hd_Knot ?po_Knot ?sa_Knot ?na_Knot_term ?na_Knot_mark ?pg_Bare ?hd_Bare ?po_Bare ?sa_Bare ?na_Bare_term ?na_Bare_mark ?pg_Fork ?hd_Fork ?po_Fork ?sa_Fork ?na_Fork_depth ?na_Fork_begin ?na_Fork_left ?na_Fork_right ?na_Fork_term ?na_Fork_mark ?pg_Leaf ?hd_Leaf ?po_Leaf ?sa_Leaf ?na_Leaf_key ?na_Leaf_text ?na_Leaf_term ?na_Leaf_mark ?pg_Table ?hd_Table ?po_Table ?sa_Table ?na_Table_stamper ?na_Table_bits ?na_Table_top ?cg_Knot ?cr_Knot ?cv_Knot ?cw_Knot ?oig ?oit ?oic_Bare ?oim_Bare ?oic_Fork ?oim_Fork ?oic_Leaf ?oim_Leaf ?ko_Bare_Bare ?ko_Bare_Fork ?ko_Fork_Bare ?ko_Fork_Fork ?ko_Leaf_Bare ?ko_Leaf_Fork ?mk_Numbers ?kc_Numbers ?mk_Bare ?kc_Bare ?mk_Fork ?kc_Fork ?mk_Leaf ?kc_Leaf ?mk_Table ?kc_Table ?z_all ?z_bool ?z_dict ?z_enumerate ?z_int ?z_isinstance ?z_len ?z_ord ?z_range ?z_reversed ?z_sorted ?z_str ?z_sum ?z_tuple ?c_MOST_BITS ?c_MOST_PARTS ?c_MOST_SIGNS ?nt ?td
  case bo_Numbers | bo_Knot | bo_Bare | bo_Fork | bo_Leaf | bo_Table | a0 | l0 | c0 | k0 | a1 | l1 | c1 | k1 | a2 | l2 | c2 | k2 | a3 | l3 | c3 | k3 | a4 | l4 | c4 | k4 | a5 | l5 | c5 | k5 | fn5 | a6 | l6 | c6 | k6 | a7 | l7 | c7 | k7 | a8 | l8 | c8 | k8 => k_is
  case tb_66 => kernel_rfl
  case a9 | l9 | c9 | k9 | fn9 | a10 | l10 | c10 | k10 => k_is
  case tb_42 => kernel_rfl
  case a11 | l11 | c11 | k11 => k_is
  case tb_38 => kernel_rfl
  case a12 | l12 | c12 | k12 => k_is
  case tb_32 => kernel_rfl
  case a13 | l13 | c13 | k13 => k_is
  case tb_36 => kernel_rfl
  case a14 | l14 | c14 | k14 | a15 | l15 | c15 | k15 | a16 | l16 | c16 | k16 | fn16 | a17 | l17 | c17 | k17 | fn17 | a18 | l18 | c18 | k18 | fn18 | a19 | l19 | c19 | k19 | a20 | l20 | c20 | k20 | a21 | l21 | c21 | k21 | fn21 | a22 | l22 | c22 | k22 | fn22 | a23 | l23 | c23 | k23 | a24 | l24 | c24 | k24 | fn24 | a25 | l25 | c25 | k25 | fn25 | a26 | l26 | c26 | k26 | fn26 | a27 | l27 | c27 | k27 | fn27 | a28 | l28 | c28 | k28 | fn28 | a29 | l29 | c29 | k29 | fn29 | a30 | l30 | c30 | k30 | fn30 | a31 | l31 | c31 | k31 | fn31 | a32 | l32 | c32 | k32 | fn32 | a33 | l33 | c33 | k33 | fn33 | a34 | l34 | c34 | k34 | a35 | l35 | c35 | k35 | a36 | l36 | c36 | k36 | fn36 | a37 | l37 | c37 | k37 | fn37 | a38 | l38 | c38 | k38 | a39 | l39 | c39 | k39 | a40 | l40 | c40 | k40 | a41 | l41 | c41 | k41 | fn41 | a42 | l42 | c42 | k42 | fn42 | a43 | l43 | c43 | k43 | fn43 | a44 | l44 | c44 | k44 | fn44 | a45 | l45 | c45 | k45 | a46 | l46 | c46 | k46 | fn46 | a47 | l47 | c47 | k47 | fn47 | a48 | l48 | c48 | k48 | a49 | l49 | c49 | k49 | a50 | l50 | c50 | k50 | a51 | l51 | c51 | k51 | a52 | l52 | c52 | k52 | a53 | l53 | c53 | k53 | a54 | l54 | c54 | k54 | a55 | l55 | c55 | k55 | a56 | l56 | c56 | k56 | a57 | l57 | c57 | k57 | a58 | l58 | c58 | k58 | a59 | l59 | c59 | k59 | a60 | l60 | c60 | k60 | a61 | l61 | c61 | k61 | a62 | l62 | c62 | k62 | a63 | l63 | c63 | k63 | pg_Numbers | hd_Numbers | po_Numbers | sa_Numbers | na_Numbers_given | pg_Knot | hd_Knot | po_Knot | sa_Knot | na_Knot_term | na_Knot_mark | pg_Bare | hd_Bare | po_Bare | sa_Bare | na_Bare_term | na_Bare_mark | pg_Fork | hd_Fork | po_Fork | sa_Fork | na_Fork_depth | na_Fork_begin | na_Fork_left | na_Fork_right | na_Fork_term | na_Fork_mark | pg_Leaf | hd_Leaf | po_Leaf | sa_Leaf | na_Leaf_key | na_Leaf_text | na_Leaf_term | na_Leaf_mark | pg_Table | hd_Table | po_Table | sa_Table | na_Table_stamper | na_Table_bits | na_Table_top => k_is
  case cg_Knot | cr_Knot | cv_Knot | cw_Knot | oig | oit | oic_Bare | oim_Bare | oic_Fork | oim_Fork | oic_Leaf | oim_Leaf => first | k_is | kernel_rfl
  case ko_Bare_Bare | ko_Bare_Fork | ko_Fork_Bare | ko_Fork_Fork | ko_Leaf_Bare | ko_Leaf_Fork => kit_is
  case mk_Numbers | kc_Numbers | mk_Bare | kc_Bare | mk_Fork | kc_Fork | mk_Leaf | kc_Leaf | mk_Table | kc_Table | z_all | z_bool | z_dict | z_enumerate | z_int | z_isinstance | z_len | z_ord | z_range | z_reversed | z_sorted | z_str | z_sum | z_tuple | c_MOST_BITS | c_MOST_PARTS | c_MOST_SIGNS => k_is
  case nt | td => kernel_rfl

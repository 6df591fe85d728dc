import PyProof.Rows.All
import Wide.All
import OpenK.AllK
import Wide.FinOn
import PyProof.EqAt
import PyProof.EqKinds
import PyProof.TupleCall
import KE.BitLaws
import PySem.Challenge.RW_twoprojectors_s01_answers
import Open.SpecLaws
import KE.OsHead
import KE.OsGo
import PyVbfaal
import KE.KDictList
import PyProof.Rows.SortShellAny
import PyFlatLaws
set_option Elab.async false
set_option linter.all false
set_option maxRecDepth 100000
set_option maxHeartbeats 4000000
abbrev FG:=PySem.W.Frag
abbrev EPr:=PySem.Value->PySem.Shared->Prop
theorem Hd.said:PySem.Challenge.rw_twoprojectors_s01_answers.wellSaid=true:=by decide +kernel
section
namespace L2
open PySem PySem.Spec PyProof.Rows
abbrev Key:=Sum Int Str
def Qxv:Key->Value->Bool
 | .inl k,v=>Value.isInt k v
 | .inr x,v=>Value.isStrOf x v
def Zvq (w:World):Key->Int
 | .inl k=>hashInt k
 | .inr x=>hashStr w x
theorem Yp:∀ {k:Key} {v:Value},Qxv k v=true->(∃ i t,k=Sum.inl i/\v=Value.int i t)\/(∃ x t,k=Sum.inr x/\v=Value.str x t)
 | .inl i,v,h=>by
  obtain ⟨t,e⟩:=Value.isInt_shape (k:=i) (v:=v) h;exact .inl ⟨i,t,rfl,e⟩
 | .inr x,v,h=>by
  obtain ⟨t,e⟩:=Value.isStrOf_shape (x:=x) (v:=v) h;exact .inr ⟨x,t,rfl,e⟩
theorem Zek (i:Int) (t:Tok):Qxv (.inl i) (.int i t)=true:=by simp[Qxv,Value.isInt]
theorem Zel (x:Str) (t:Tok):Qxv (.inr x) (.str x t)=true:=by simp[Qxv,Value.isStrOf]
theorem Zqn (a b:Int):decide ((Sum.inl a:Key)=Sum.inl b)=(a == b):=by
 by_cases e:a=b
 .subst e;simp
 .have h:¬ (Sum.inl a:Key)=Sum.inl b:=fun q=>e (Sum.inl.inj q);rw[decide_eq_false h];exact (beq_eq_false_iff_ne.mpr e).symm
theorem Zqo (a b:Str):decide ((Sum.inr a:Key)=Sum.inr b)=decide (a=b):=by
 by_cases e:a=b
 .subst e;simp
 .have h:¬ (Sum.inr a:Key)=Sum.inr b:=fun q=>e (Sum.inr.inj q);rw[decide_eq_false h,decide_eq_false e]
theorem Zqp (a:Int) (b:Str):decide ((Sum.inl a:Key)=Sum.inr b)=false:=decide_eq_false (fun q=>nomatch q)
theorem Zqq (a:Str) (b:Int):decide ((Sum.inr a:Key)=Sum.inl b)=false:=decide_eq_false (fun q=>nomatch q)
def Jp (prog:Program) (w:World):PySem.KeyKind prog w Key where
 is:=Qxv
 hash:=Zvq w
 inj:=fun v a b ha hb=>by
  rcases Yp ha with ⟨i,t,rfl,rfl⟩ | ⟨x,t,rfl,rfl⟩
  .rcases Yp hb with ⟨j,u,rfl,e⟩ | ⟨y,u,rfl,e⟩
   .injection e with e1 _;rw[e1]
   .exact nomatch e
  .rcases Yp hb with ⟨j,u,rfl,e⟩ | ⟨y,u,rfl,e⟩
   .exact nomatch e
   .injection e with e1 _;rw[e1]
 byValue:=fun k v h=>by
  rcases Yp h with ⟨i,t,rfl,rfl⟩ | ⟨x,t,rfl,rfl⟩ <;> rfl
 pyHash:=fun hv h=>by
  rcases Yp hv with ⟨i,t,rfl,rfl⟩ | ⟨x,t,rfl,rfl⟩
  .exact wpAny_pyHash_int h
  .exact wpAny_pyHash_str h
 eqBool:=fun hu hv h=>by
  rcases Yp hu with ⟨i,t,rfl,rfl⟩ | ⟨x,t,rfl,rfl⟩
  .rcases Yp hv with ⟨j,u,rfl,rfl⟩ | ⟨y,u,rfl,rfl⟩
   .rw[Zqn]at h;exact wpAny_eqBool_int h
   .rw[Zqp]at h;exact SeqAt.EqAt.int_str i t y u _ _ _ _ h
  .rcases Yp hv with ⟨j,u,rfl,rfl⟩ | ⟨y,u,rfl,rfl⟩
   .rw[Zqq]at h;exact SeqAt.EqAt.str_int x t j u _ _ _ _ h
   .rw[Zqo]at h;exact wpAny_eqBool_str h
 «strs»:=fun k x t v h=>by
  rcases Yp h with ⟨i,u,rfl,e⟩ | ⟨y,u,rfl,e⟩
  .exact nomatch e
  .injection e with e1 _
   subst e1;cases v <;> rfl
theorem Qxw (prog:Program) (w:World) (i:Int) (t:Tok):(Jp prog w).is (.inl i) (.int i t)=true:=Zek i t
theorem Qxx (prog:Program) (w:World) (x:Str) (t:Tok):(Jp prog w).is (.inr x) (.str x t)=true:=Zel x t
end L2
namespace L2
open PySem PySem.Spec PyProof.Rows
inductive V where
 | non | bl (b:Bool) | int (i:Int) | str (x:Str) | byt (b:Array UInt8) | flt (b:UInt64) | ref (a:Addr) | ty (n:String)
 deriving DecidableEq
def RelV:V->Value->Prop
 | .non,u=>u=Value.none
 | .bl b,u=>u=Value.bool b
 | .int i,u=>∃ t,u=Value.int i t
 | .str x,u=>∃ t,u=Value.str x t
 | .byt b,u=>∃ t,u=Value.bytes b t
 | .flt b,u=>∃ t,u=Value.float b t
 | .ref a,u=>u=Value.ref a
 | .ty n,u=>u=Value.type n
abbrev Vals:List V->List Value->Prop:=Paired RelV
theorem Vals.length {xs:List V} {us:List Value} (r:Vals xs us):xs.length=us.length:=Paired.length r
theorem Vals.get:∀ {xs:List V} {us:List Value} {i:Nat} {x:V},Vals xs us->xs[i]? = some x->∃ u,us[i]? = some u/\RelV x u
 | _,_,_,_,.nil,e=>by simp at e
 | _,_,0,_,.cons r _,e=>by simp at e;subst e;exact ⟨_,rfl,r⟩
 | _,_,i+1,x,.cons _ t,e=>by
  obtain ⟨u,h1,h2⟩:=Vals.get (i:=i) (x:=x) t (by simpa using e);exact ⟨u,by simpa using h1,h2⟩
theorem Vals.set {x:V} {u:Value} (r:RelV x u):∀ {xs:List V} {us:List Value} (i:Nat),Vals xs us->Vals (xs.set i x) (us.set i u)
 | _,_,_,.nil=>.nil
 | _,_,0,.cons _ t=>.cons r t
 | _,_,i+1,.cons q t=>.cons q (Vals.set r i t)
theorem Vals.append:∀ {xs ys:List V} {us ws:List Value},Vals xs us->Vals ys ws->Vals (xs++ys) (us++ws)
 | _,_,_,_,.nil,s=>s
 | _,_,_,_,.cons r t,s=>.cons r (Vals.append t s)
theorem Vals.take:∀ {xs:List V} {us:List Value} (n:Nat),Vals xs us->Vals (xs.take n) (us.take n)
 | _,_,0,_=>.nil
 | _,_,_+1,.nil=>.nil
 | _,_,n+1,.cons r t=>.cons r (Vals.take n t)
theorem Vals.drop:∀ {xs:List V} {us:List Value} (n:Nat),Vals xs us->Vals (xs.drop n) (us.drop n)
 | _,_,0,r=>r
 | _,_,_+1,.nil=>.nil
 | _,_,n+1,.cons _ t=>Vals.drop n t
theorem Vals.none_of:∀ {xs:List V} {us:List Value} {i:Nat},Vals xs us->xs[i]? = none->us[i]? = none:=fun {xs us i} r e=>by
 have h1:=r.length;have h2:xs.length<=i:=List.getElem?_eq_none_iff.mp e;exact List.getElem?_eq_none_iff.mpr (by omega)
def Qtw:Option V->Option Value->Prop
 | some v,some u=>RelV v u
 | none,none=>True
 | _,_=>False
def KV {κ:Type}:List (κ × V)->List (κ × Value)->Prop:=Paired fun (p:κ × V) (q:κ × Value)=>p.1=q.1/\RelV p.2 q.2
def kV:Key->V
 | .inl i=>.int i
 | .inr x=>.str x
inductive HO where
 | lst (xs:List V)
 | tup (xs:List V)
 | dK (kvs:List (Key × V)) | dT (kvs:List (List Key × V))
 | set (S:Int->Bool) (n:Nat)
 | ins (C dx:Addr) (fs:List (Str × V))
 | own (x:Addr)
 | xd (fs:List (Str × V))
 | met (f x:Addr)
 | rng (lo hi:Int)
 | frz (o:Obj) (u:HO)
 | tbl (ps:Array Value)
 | ext (φ:Heap->Prop)
abbrev Hp:=Addr->Option HO
def upd (H:Hp) (a:Addr) (o:HO):Hp:=fun b=>if b=a then some o else H b
theorem Qk {H:Hp} {a:Addr} {o:HO}:upd H a o a=some o:=by unfold upd;rw[if_pos rfl]
theorem Ql {H:Hp} {a b:Addr} {o:HO} (h:b ≠ a):upd H a o b=H b:=by unfold upd;rw[if_neg h]
theorem Zb {H:Hp} {a:Addr} {o u:HO}:upd (upd H a o) a u=upd H a u:=by funext b;unfold upd;split <;> rfl
theorem Yu {H:Hp} {a b:Addr} {o u:HO} (h:H a=some o) (h':H b=some u) (d:o ≠ u):a ≠ b:=by intro e;subst e;rw[h]at h';exact d (Option.some.inj h')
theorem Qg {H:Hp} {a b:Addr} {o:HO} (h:H a=some o) (h':H b=none):a ≠ b:=by intro e;subst e;rw[h]at h';cases h'
section
variable (P:Program) (w:World)
def Qbj (H:Hp) (h:Heap) (a:Addr):HO->Prop
 | .lst xs=>xs.length<=sizeLine/\∃ (its:List Value) (n:Nat),Vals xs its/\h.get? a=some { cls:=.type "list",data:=.seq its.toArray n }
 | .tup xs=>xs.length<=sizeLine/\∃ its:List Value,Vals xs its/\IsTup h a its.toArray
 | .dK kvs=>kvs.length<=sizeLine/\(a == sysModules)=false/\∃ vs,KV kvs vs/\h.DictOf (Jp P w) a vs
 | .dT kvs=>kvs.length<=sizeLine/\(a == sysModules)=false/\∃ xs:List (List Key × Addr × Value),
   Paired (fun (p:List Key × V) (q:List Key × Addr × Value)=>p.1=q.1/\H q.2.1=some (.tup (p.1.map kV))/\RelV p.2 q.2.2) kvs xs /\
   ∃ o es ep,h.get? a=some o/\o.ExactDict/\o.data = .dict es ep/\es.toList=xs.map (entryOfKey (tupleKind (Jp P w)))/\(xs.map (·.1)).Nodup
 | .set S n=>h.SetOf (intKind P w) a S n
 | .ins C dx fs=>H dx=some (.own a)/\fs.length<=1000/\dx ≠ a/\h.get? a=some (PySem.W.instObj C dx) /\
   ∃ mA,h.Ns1 dx mA/\(∀ f,Qtw (fs.lookup f) (mA f))/\PySem.Within mA (fs.map (·.1))
 | .own _=>∃ o,h.get? a=some o
 | .xd fs=>∃ mA,h.Ns1 a mA/\∀ f,Qtw (fs.lookup f) (mA f)
 | .rng lo hi=>∃ t u v,h.get? a=some { cls:=.type "range",data:=.fields #[.int lo t,.int hi u,.int 1 v] }
 | .frz o u=>h.get? a=some o/\Qbj H h a u
 | .tbl ps=>h.get? a=some { cls:=.none,data:=.fields ps }
 | .met f x=>h.get? a=some (PySem.W.methodObj (.ref f) (.ref x))
 | .ext φ=>φ h/\(∃ o,h.get? a=some o)/\∀ h1 h2:Heap,φ h1->(∀ o,h1.get? a=some o->h2.get? a=some o)->φ h2
def HOk (H:Hp) (h:Heap):Prop:=∀ a o,H a=some o->Qbj P w H h a o
end
section
variable {P:Program} {w:World} {H H':Hp} {h h':Heap} {a:Addr} {o:HO}
theorem Qbj.lt (x:Qbj P w H h a o):a < h.objs.size:=by
 cases o with
 | lst xs=>obtain ⟨_,_,_,_,e⟩:=x;exact Heap.lt_size e
 | tup xs=>obtain ⟨_,_,_,p⟩:=x;exact p.lt
 | dK kvs=>obtain ⟨_,_,_,_,o,_,_,e,_⟩:=x;exact Heap.lt_size e
 | dT kvs=>obtain ⟨_,_,_,_,o,_,_,e,_⟩:=x;exact Heap.lt_size e
 | set S n=>obtain ⟨o,_,_,_,e,_⟩:=x;exact Heap.lt_size e
 | ins C dx fs=>obtain ⟨_,_,_,e,_⟩:=x;exact Heap.lt_size e
 | own y=>obtain ⟨_,e⟩:=x;exact Heap.lt_size e
 | xd fs=>obtain ⟨_,⟨_,_,_,e,_⟩,_⟩:=x;exact Heap.lt_size e
 | rng lo hi=>obtain ⟨_,_,_,e⟩:=x;exact Heap.lt_size e
 | frz ob u=>obtain ⟨e,_⟩:=x;exact Heap.lt_size e
 | tbl ps=>exact Heap.lt_size (show h.get? a=some _ from x)
 | met f y=>exact Heap.lt_size (show h.get? a=some _ from x)
 | ext φ=>obtain ⟨_,⟨_,e⟩,_⟩:=x;exact Heap.lt_size e
theorem Paired.Zta {α β:Type} {F G:α->β->Prop}:∀ {l₁:List α} {l₂:List β},Paired F l₁ l₂->(∀ a b,F a b->G a b)->Paired G l₁ l₂
 | _,_,.nil,_=>.nil
 | _,_,.cons r t,f=>.cons (f _ _ r) (Paired.Zta t f)
theorem Qbj.stay (x:Qbj P w H h a o) (k:∀ b u,(b=a\/H b=some (.own a))->h.get? b=some u->h'.get? b=some u)
  (ho:∀ b,H b=some (.own a)->H' b=some (.own a)) (ht:∀ b xs,H b=some (.tup xs)->H' b=some (.tup xs)):Qbj P w H' h' a o:=by
 induction o with
 | lst xs=>obtain ⟨z,its,n,r,e⟩:=x;exact ⟨z,its,n,r,k _ _ (.inl rfl) e⟩
 | tup xs=>obtain ⟨z,its,r,ob,e,c⟩:=x;exact ⟨z,its,r,ob,k _ _ (.inl rfl) e,c⟩
 | dK kvs=>obtain ⟨z,y,vs,r,ob,es,ep,e,c⟩:=x;exact ⟨z,y,vs,r,ob,es,ep,k _ _ (.inl rfl) e,c⟩
 | dT kvs =>obtain ⟨z,y,xs,r,ob,es,ep,e,c⟩:=x;exact ⟨z,y,xs,Paired.Zta r fun p q z=>⟨z.1,ht _ _ z.2.1,z.2.2⟩,ob,es,ep,k _ _ (.inl rfl) e,c⟩
 | set S n=>obtain ⟨ob,es,ep,t,e,c⟩:=x;exact ⟨ob,es,ep,t,k _ _ (.inl rfl) e,c⟩
 | ins C dx fs =>obtain ⟨d,z,ne,e,mA,⟨od,es,ep,e2,c⟩,r⟩:=x;exact ⟨ho _ d,z,ne,k _ _ (.inl rfl) e,mA,⟨od,es,ep,k _ _ (.inr d) e2,c⟩,r⟩
 | own y=>obtain ⟨ob,e⟩:=x;exact ⟨ob,k _ _ (.inl rfl) e⟩
 | xd fs=>obtain ⟨mA,⟨od,es,ep,e,c⟩,r⟩:=x;exact ⟨mA,⟨od,es,ep,k _ _ (.inl rfl) e,c⟩,r⟩
 | rng lo hi=>obtain ⟨t,u,v,e⟩:=x;exact ⟨t,u,v,k _ _ (.inl rfl) e⟩
 | frz ob u ih=>obtain ⟨e,q⟩:=x;exact ⟨k _ _ (.inl rfl) e,ih q⟩
 | tbl ps =>have e:h.get? a=some { cls:=.none,data:=.fields ps }:=x;show h'.get? a=some { cls:=.none,data:=.fields ps };exact k a _ (.inl rfl) e
 | met f y =>have e:h.get? a=some (PySem.W.methodObj (.ref f) (.ref y)):=x;show h'.get? a=some (PySem.W.methodObj (.ref f) (.ref y));exact k a _ (.inl rfl) e
 | ext φ=>obtain ⟨p,⟨o,e⟩,st⟩:=x;exact ⟨st _ _ p fun o q=>k _ _ (.inl rfl) q,⟨o,k _ _ (.inl rfl) e⟩,st⟩
theorem HOk.lt (x:HOk P w H h) (e:H a=some o):a < h.objs.size:=(x a o e).lt
theorem HOk.fresh (x:HOk P w H h) (e:h.objs.size<=a):H a=none:=by
 cases q:H a with
 | none=>rfl
 | some u=>exact absurd (Nat.lt_of_lt_of_le (x.lt q) e) (Nat.lt_irrefl _)
theorem HOk.kept (x:HOk P w H h) (k:∀ b u,h.get? b=some u->h'.get? b=some u):HOk P w H h':=fun a o e =>
 (x a o e).stay (fun b u _ q=>k b u q) (fun _ q=>q) fun _ _ q=>q
theorem HOk.laid (x:HOk P w H h) (k:∀ b u,h.get? b=some u->h'.get? b=some u) (hp:h.objs.size<=a) (new:Qbj P w (upd H a o) h' a o):HOk P w (upd H a o) h':=fun b u e=>by
 have hn:=x.fresh hp;by_cases hb:b=a
 .subst hb;rw[Qk]at e;cases e;exact new
 .rw[Ql hb]at e;exact (x b u e).stay (fun c v _ q=>k c v q) (fun c q=>by rw[Ql (Qg q hn)];exact q) fun c xs q=>by rw[Ql (Qg q hn)];exact q
end
def Rd (H:Hp) (a:Addr) (u:HO):Prop:=H a=some u\/∃ o,H a=some (.frz o u)
theorem Rd.of {H:Hp} {a:Addr} {u:HO} (h:H a=some u):Rd H a u:=.inl h
theorem Rd.ok {P:Program} {w:World} {H:Hp} {h:Heap} {a:Addr} {u:HO} (r:Rd H a u) (x:HOk P w H h):Qbj P w H h a u:=by
 rcases r with r | ⟨o,r⟩
 .exact x a u r
 .obtain ⟨_,q⟩:=x a _ r;exact q
def Mut:Option HO->Prop
 | some (.lst _)=>True
 | some (.dK _)=>True
 | some (.dT _)=>True
 | some (.set _ _)=>True
 | some (.ins _ _ _)=>True
 | some (.ext _)=>True
 | _=>False
section
variable {P:Program} {w:World} {H:Hp} {h h':Heap} {x e:Addr} {o':HO}
theorem HOk.write (ok:HOk P w H h) (mu:Mut (H x)) (he:e=x\/H e=some (.own x)) (k:∀ b u,b ≠ e->h.get? b=some u->h'.get? b=some u) (heo:∃ u,h'.get? e=some u)
  (new:Qbj P w (upd H x o') h' x o'):HOk P w (upd H x o') h':=fun b u q=>by
 have Zur:∀ c y,H c=some (.own y)->c ≠ x:=fun c y r z=>by subst z;rw[r]at mu;exact mu
 have Zvr:∀ c xs,H c=some (.tup xs)->c ≠ x:=fun c xs r z=>by subst z;rw[r]at mu;exact mu
 by_cases hb:b=x
 .subst hb;rw[Qk]at q;cases q;exact new
 .rw[Ql hb]at q;by_cases hbe:b=e
  .have q':H b=some (.own x):=by
    rcases he with z | z
    .exact absurd (hbe.trans z) hb
    .rw[hbe];exact z
   rw[q]at q';cases q';obtain ⟨v,hv⟩:=heo;exact ⟨v,by rw[hbe];exact hv⟩
  .refine (ok b u q).stay (fun c v hc r=>k c v ?_ r) (fun c r=>by rw[Ql (Zur c b r)];exact r) fun c xs r=>by rw[Ql (Zvr c xs r)];exact r
   rcases hc with rfl | hc
   .exact hbe
   .rintro rfl
    rcases he with z | z
    .exact Zur c b hc z
    .rw[hc]at z;cases z;exact hb rfl
end
structure Un (fs ex:List Addr) (H H':Hp) (h h':Heap):Prop where
 keep:∀ b o,h.get? b=some o->H b=none->b ∉ fs->b ∉ ex->h'.get? b=some o
 slot:∀ b o,h.get? b=some o->H b=none->b ∈ fs->b ∉ ex->∃ sl,h'.get? b=some { o with slots:=sl }
 free:∀ b o,h.get? b=some o->H b=none->b ∉ ex->H' b=none
 there:∀ b o,h.get? b=some o->b ∉ ex->∃ o',h'.get? b=some o'
 tups:∀ b xs,H b=some (.tup xs)->H' b=some (.tup xs)
 Zch:∀ b o u,H b=some (.frz o u)->H' b=some (.frz o u)
 Zeg:∀ b ps,H b=some (.tbl ps)->∃ more,H' b=some (.tbl (ps++more))
section
variable {fs fs' ex ex':List Addr} {H H1 H2:Hp} {h h1 h2 h':Heap} {a x e:Addr} {o:HO}
theorem Un.any (u:Un fs ex H H1 h h1) {b:Addr} {ob:Obj} (q:h.get? b=some ob) (n:H b=none) (hx:b ∉ ex):∃ sl,h1.get? b=some { ob with slots:=sl }:=by
 by_cases hb:b ∈ fs
 .exact u.slot b ob q n hb hx
 .exact ⟨ob.slots,u.keep b ob q n hb hx⟩
theorem Un.trans (a:Un fs ex H H1 h h1) (b:Un fs ex H1 H2 h1 h2):Un fs ex H H2 h h2 where
 keep:=fun c ob q n hc hx=>b.keep c ob (a.keep c ob q n hc hx) (a.free c ob q n hx) hc hx
 slot:=fun c ob q n hc hx=>by
  obtain ⟨sl,e1⟩:=a.slot c ob q n hc hx;obtain ⟨sl',e2⟩:=b.slot c _ e1 (a.free c ob q n hx) hc hx;exact ⟨sl',e2⟩
 free:=fun c ob q n hx=>by
  obtain ⟨o',e1⟩:=a.there c ob q hx;exact b.free c o' e1 (a.free c ob q n hx) hx
 there:=fun c ob q hx=>by
  obtain ⟨o',e1⟩:=a.there c ob q hx;exact b.there c o' e1 hx
 tups:=fun c xs q=>b.tups c xs (a.tups c xs q)
 Zch:=fun c ob xs q=>b.Zch c ob xs (a.Zch c ob xs q)
 Zeg:=fun c ps q=>by
  obtain ⟨m1,e1⟩:=a.Zeg c ps q;obtain ⟨m2,e2⟩:=b.Zeg c _ e1;exact ⟨m1++m2,by rw[e2,Array.append_assoc]⟩
theorem Un.kept (k:∀ b u,h.get? b=some u->h'.get? b=some u):Un fs ex H H h h':=
 ⟨fun b ob q _ _ _=>k b ob q,fun b ob q _ _ _=>⟨ob.slots,k b ob q⟩,fun _ _ _ n _=>n,fun b ob q _=>⟨ob,k b ob q⟩,fun _ _ q=>q,fun _ _ _ q=>q,fun _ ps q=>⟨#[],by rw[q];simp⟩⟩
theorem Un.refl:Un fs ex H H h h:=Un.kept fun _ _ q=>q
theorem Un.laid (k:∀ b u,h.get? b=some u->h'.get? b=some u) (hp:h.objs.size<=a) (hn:H a=none):Un fs ex H (upd H a o) h h' where
 keep:=fun b u q _ _ _=>k b u q
 slot:=fun b u q _ _ _=>⟨u.slots,k b u q⟩
 free:=fun b u q n _=>by rw[Ql (Nat.ne_of_lt (Nat.lt_of_lt_of_le (Heap.lt_size q) hp))];exact n
 there:=fun b u q _=>⟨u,k b u q⟩
 tups:=fun b xs q=>by rw[Ql (Qg q hn)];exact q
 Zch:=fun b u xs q=>by rw[Ql (Qg q hn)];exact q
 Zeg:=fun b ps q=>⟨#[],by rw[Ql (Qg q hn),q];simp⟩
theorem Un.write (mu:Mut (H x)) (he:e=x\/H e=some (.own x)) (k:∀ b u,b ≠ e->h.get? b=some u->h'.get? b=some u) (heo:∃ u,h'.get? e=some u):Un fs ex H (upd H x o) h h':=by
 have hx:∀ b,H b=none->b ≠ x:=fun b n z=>by subst z;rw[n]at mu;exact mu
 have hb:∀ b,H b=none->b ≠ e:=fun b n z=>by
  subst z;rcases he with r | r
  .exact hx b n r
  .rw[n]at r;cases r
 have hm:∀ b u,H b=some u->¬ Mut (some u)->b ≠ x:=fun b u q nm z=>by subst z;rw[q]at mu;exact nm mu
 refine ⟨fun b u q n _ _=>k b u (hb b n) q,fun b u q n _ _=>⟨u.slots,k b u (hb b n) q⟩,fun b u q n _=>by rw[Ql (hx b n)];exact n,fun b u q _=>?_,
  fun b xs q=>by rw[Ql (hm b _ q fun z=>z)];exact q,fun b u xs q=>by rw[Ql (hm b _ q fun z=>z)];exact q,fun b ps q=>⟨#[],by rw[Ql (hm b _ q fun z=>z),q];simp⟩⟩
 by_cases hbe:b=e
 .subst hbe;exact heo
 .exact ⟨u,k b u hbe q⟩
theorem Un.mono (u:Un fs ex H H1 h h1) (hs:∀ b ∈ fs,b ∈ fs') (hx:∀ b ∈ ex,b ∈ ex'):Un fs' ex' H H1 h h1:=
 ⟨fun b ob q n hb he=>u.keep b ob q n (fun z=>hb (hs b z)) fun z=>he (hx b z),fun _ _ q n _ he=>u.any q n fun z=>he (hx _ z),fun b ob q n he=>u.free b ob q n fun z=>he (hx b z),fun b ob q he=>u.there b ob q fun z=>he (hx b z),u.tups,u.Zch,u.Zeg⟩
end
def trk (h:Heap) (H:Hp):List Addr:=(List.range h.objs.size).filter fun a=>(H a).isSome
def Zj4 (h:Heap) (H:Hp):Heap:=PySem.W.hideAll h (trk h H)
theorem Zem (h:Heap) (H:Hp):(Zj4 h H).objs.size=h.objs.size:=PySem.W.hideAll_size _ _
theorem Zj5 {h:Heap} {H:Hp} {b:Addr} {o:Obj} (e:h.get? b=some o) (n:H b=none):(Zj4 h H).get? b=some o:=
 PySem.W.hideAll_get _ e fun hm=>by
  have q:(H b).isSome=true:=(List.mem_filter.mp hm).2;rw[n]at q;simp at q
theorem Znm {h:Heap} {H:Hp} {b:Addr} {o:Obj} (e:(Zj4 h H).get? b=some o):h.get? b=some o/\H b=none:=by
 have e':h.get? b=some o:=PySem.W.of_hideAll (trk h H) e;refine ⟨e',?_⟩;cases q:H b with
 | none=>rfl
 | some x =>have hm:b ∈ trk h H:=List.mem_filter.mpr ⟨List.mem_range.mpr (Heap.lt_size e'),by simp[q]⟩;have z:(Zj4 h H).get? b=none:=PySem.W.hideAll_none (trk h H) hm;rw[z]at e;cases e
def Znn (g h:Heap) (L:Addr):List (Addr × Obj):=(List.range h.objs.size).filterMap fun a=>if a=L\/(g.get? a).isSome=true then none else (h.get? a).map fun o=>(a,o)
def rest (g h:Heap) (L d:Addr):List (Addr × Obj):=(Znn g h L).filter fun p=>decide (p.1 ≠ d)
end L2
namespace L2
open PySem PySem.Spec PyProof.Rows
structure Mod (K:FG) (mg:Str->Option Value) (base:Heap):Prop where
 kin:K.In base
 glob:base.Ns mainGlobals mg
 blt:∃ mb,base.Ns builtinsNs mb/\∀ x:Str,x ≠ "__name__" -> mb x=bootBuiltins x
 nolimit:base.NoLimit
structure Cx where
 prog:Program
 w:World
 K:FG
 mg:Str->Option Value
 base:Heap
 A:Around
 N:List Str
 s_0:Shared
 H_0:Hp
 env:Env
 outer:List Env
 stack:List Env
 ex:List Addr
 fn:Str->Bool
 calm:Bool
 pn:List (Addr × Obj)
 xe:EPr
def frs (l:List Env):List Addr:=l.filterMap (·.frame)
abbrev Cx.fs (X:Cx):List Addr:=frs X.outer
def Vis (sc:Scope) (x:Str):Prop:=sc.names.lookup x=some .local\/sc.names.lookup x=some .cell\/sc.names.lookup x=some .free
def Loc (sc:Scope) (x:Str):Prop:=sc.names.lookup x=some .local\/sc.names.lookup x=some .cell
def Look (env:Env) (h:Heap) (m:Str->Option Value) (x:Str) (u:Value):Prop:=
 (env.kindOf x=some .local/\m x=some u)\/((env.kindOf x=some .cell\/env.kindOf x=some .free)/\∃ c,env.cells.lookup x=some c/\h.IsCell c (some u))
structure Cx.Ok (X:Cx):Prop where
 mod:Mod X.K X.mg X.base
 kind:X.env.scope.kind = .function
 glob:X.env.globals=mainGlobals
 blt:X.env.builtins=builtinsNs
 above:X.s_0.heap.objs.size<=X.env.locals
 inj:∀ x y c,X.env.cells.lookup x=some c->X.env.cells.lookup y=some c->x=y
 has:∀ x,(X.env.kindOf x=some .cell\/X.env.kindOf x=some .free)->∃ c,X.env.cells.lookup x=some c
 cab:∀ x c,X.fn x=true->X.env.cells.lookup x=some c->X.s_0.heap.objs.size<=c
 hd:X.calm=true->X.A.handled=none
 frames:X.A.frames=some X.stack
 stk:X.stack=X.outer\/(X.stack=X.env::X.outer/\X.env.frame=some X.env.locals)
 exf:∀ b ∈ X.ex,b ≠ X.env.locals/\∀ x c,X.env.cells.lookup x=some c->c ≠ b
 bs:∀ b o,X.base.get? b=some o->X.s_0.heap.get? b=some o/\X.H_0 b=none
 bsz:X.base.objs.size<=X.s_0.heap.objs.size
 Zqr:∀ b o,X.base.get? b=some o->b ∉ X.ex
 Zqs:∀ b ∈ X.ex,b ∉ X.fs
 Zci:X.s_0.heap.FunFrames X.base X.outer
 frf:∀ b ∈ X.fs,X.H_0 b=none
structure Inv (X:Cx) (pins:List (Addr × Obj)) (σ:List (Option V)) (H:Hp) (s:Shared):Prop where
 ok:X.Ok
 os:s.os=X.s_0.os
 bare:AllBare s.gens
 base:Un X.fs X.ex X.H_0 H X.s_0.heap s.heap
 loc:∃ m,s.heap.Ns X.env.locals m/\∀ (i:Nat) (x:Str) (v:V),X.N[i]? = some x->σ[i]? = some (some v)->Vis X.env.scope x->∃ u,RelV v u/\Look X.env s.heap m x u
 cell:∀ x c,X.env.cells.lookup x=some c->∃ v,s.heap.IsCell c v
 free:H X.env.locals=none
 Qmt:∀ x c,X.env.cells.lookup x=some c->H c=none
 pin:∀ p ∈ X.pn++pins,s.heap.get? p.1=some p.2/\H p.1=none/\p.1 ≠ X.env.locals/\p.1 ∉ X.fs/\∀ v,p.2.data ≠ .cell v
 hok:HOk X.prog X.w H s.heap
 len:σ.length=X.N.length
section
variable {X:Cx} {pins:List (Addr × Obj)} {σ:List (Option V)} {H H':Hp} {s:Shared} {h':Heap}
theorem Cx.Ok.Zvs (ok:X.Ok) {b:Addr} {o:Obj} (e:X.base.get? b=some o):b ∉ X.fs:=fun hb=>by
 have:=(ok.Zci.mem hb).1
 rw[e]at this;cases this
theorem Inv.bs (I:Inv X pins σ H s):∀ b o,X.base.get? b=some o->s.heap.get? b=some o/\H b=none:=fun b o e =>
 ⟨I.base.keep b o (I.ok.bs b o e).1 (I.ok.bs b o e).2 (I.ok.Zvs e) (I.ok.Zqr b o e),I.base.free b o (I.ok.bs b o e).1 (I.ok.bs b o e).2 (I.ok.Zqr b o e)⟩
theorem Inv.bk (I:Inv X pins σ H s):∀ b o,X.base.get? b=some o->s.heap.get? b=some o:=fun b o e=>(I.bs b o e).1
theorem Inv.mod (I:Inv X pins σ H s):Mod X.K X.mg X.base:=I.ok.mod
theorem Inv.kIn (I:Inv X pins σ H s):X.K.In s.heap:=I.ok.mod.kin.keeps I.bk
theorem Inv.nolimit (I:Inv X pins σ H s):s.heap.NoLimit:=I.ok.mod.nolimit.keeps I.bk
theorem Inv.fr (I:Inv X pins σ H s):∃ m,Fr X.base X.env.locals s.heap m:=
 let ⟨m,hn,_⟩:=I.loc
 ⟨m,hn,I.bk,Nat.le_trans I.ok.bsz I.ok.above⟩
theorem Inv.lt (I:Inv X pins σ H s):X.env.locals < s.heap.objs.size:=let ⟨_,hn,_⟩:=I.loc;hn.lt
theorem Inv.sz (I:Inv X pins σ H s):X.s_0.heap.objs.size<=s.heap.objs.size:=Nat.le_trans I.ok.above (Nat.le_of_lt I.lt)
theorem Inv.Zvt (I:Inv X pins σ H s) {a:Addr} (h:s.heap.objs.size<=a):a ∉ X.fs:=fun hb=>by
 obtain ⟨_,o,ho,_⟩:=I.ok.Zci.mem hb;exact absurd (Nat.lt_of_lt_of_le (Heap.lt_size ho) (Nat.le_trans I.sz h)) (Nat.lt_irrefl _)
theorem Inv.cne (I:Inv X pins σ H s):∀ x c,X.env.cells.lookup x=some c->c ≠ X.env.locals:=fun x c e z=>by
 obtain ⟨v,o,ho,hd⟩:=I.cell x c e;obtain ⟨m,⟨o',es,ep,ho',hd',_⟩,_⟩:=I.loc;rw[z,ho']at ho;cases ho;rw[hd']at hd;cases hd
theorem Inv.Zci (I:Inv X pins σ H s):s.heap.FunFrames X.base X.outer:=by
 have all:∀ (l:List Env),(∀ b ∈ frs l,b ∈ X.fs)->X.s_0.heap.FunFrames X.base l->s.heap.FunFrames X.base l:=by
  intro l
  induction l with
  | nil=>intro _ _;trivial
  | cons env r ih =>intro hs hl;obtain ⟨hk,⟨L,o,hf,hn,ho,hd⟩,hr⟩:=hl;have hL:L ∈ X.fs:=hs L (by unfold frs;rw[List.filterMap_cons,hf];exact List.mem_cons_self);obtain ⟨sl,e⟩:=I.base.slot L o ho (I.ok.frf L hL) hL fun z=>I.ok.Zqs L z hL;exact ⟨hk,⟨L,_,hf,hn,e,hd⟩,ih (fun b hb=>hs b (by unfold frs;rw[List.filterMap_cons,hf];exact List.mem_cons_of_mem _ hb)) hr⟩
 exact all X.outer (fun _ hb=>hb) I.ok.Zci
theorem Inv.stack (I:Inv X pins σ H s):s.heap.FunFrames X.base X.stack:=by
 rcases I.ok.stk with e | ⟨e,hf⟩
 .rw[e];exact I.Zci
 .rw[e];obtain ⟨m,hn,_⟩:=I.loc;refine .cons (by rw[I.ok.kind];decide) hf hn ?_ I.Zci;exact Heap.get?_none_of_le (Nat.le_trans I.ok.bsz I.ok.above)
theorem Inv.Zen (I:Inv X pins σ H s):∀ b ∈ frs X.stack,b ∈ X.env.locals::X.fs:=fun b hb=>by
 rcases I.ok.stk with e | ⟨e,hf⟩
 .rw[e]at hb;exact List.mem_cons_of_mem _ hb
 .rw[e]at hb;unfold frs at hb;rw[List.filterMap_cons,hf]at hb;exact hb
theorem Inv.Zeo (I:Inv X pins σ H s):∀ b ∈ frs X.stack,H b=none:=fun b hb=>by
 rcases List.mem_cons.mp (I.Zen b hb) with e | hb
 .rw[e];exact I.free
 .obtain ⟨_,o,ho,_⟩:=I.ok.Zci.mem hb;exact I.base.free b o ho (I.ok.frf b hb) fun z=>I.ok.Zqs b z hb
theorem Inv.step {g':Array GenState} {t':Nat} {d':Drawn} {ch:List Addr} (I:Inv X pins σ H s)
  (hch:∀ b ∈ ch,(b ∈ X.ex\/X.s_0.heap.objs.size<=b)/\b ≠ X.env.locals/\(∀ x c,X.env.cells.lookup x=some c->c ≠ b)/\∀ p ∈ X.pn++pins,p.1 ≠ b)
  (keep:∀ b o,b ≠ X.env.locals->b ∉ X.fs->b ∉ ch->s.heap.get? b=some o->H b=none->h'.get? b=some o)
  (slot:∀ b o,b ≠ X.env.locals->b ∈ X.fs->b ∉ ch->s.heap.get? b=some o->H b=none->∃ sl,h'.get? b=some { o with slots:=sl }) (free:∀ b o,b ∉ ch->s.heap.get? b=some o->H b=none->H' b=none)
  (there:∀ b o,b ∉ ch->s.heap.get? b=some o->∃ o',h'.get? b=some o')
  (tups:∀ b xs,H b=some (.tup xs)->H' b=some (.tup xs)) (Zch:∀ b o u,H b=some (.frz o u)->H' b=some (.frz o u)) (Zeg:∀ b ps,H b=some (.tbl ps)->∃ more,H' b=some (.tbl (ps++more)))
  (ns:∀ m,s.heap.Ns X.env.locals m->h'.Ns X.env.locals m) (hok:HOk X.prog X.w H' h') (hg:AllBare g') :
  Inv X pins σ H' { s with heap:=h',gens:=g',drawn:=d',toks:=t' }:=by
 have neL:∀ b o,X.s_0.heap.get? b=some o->b ≠ X.env.locals:=fun b o e=>Nat.ne_of_lt (Nat.lt_of_lt_of_le (Heap.lt_size e) I.ok.above);have neC:∀ b o,X.s_0.heap.get? b=some o->b ∉ X.ex->b ∉ ch:=fun b o e hx hb=>by
  rcases (hch b hb).1 with z | z
  .exact hx z
  .exact absurd (Nat.lt_of_lt_of_le (Heap.lt_size e) z) (Nat.lt_irrefl _)
 have cellK:∀ x c,X.env.cells.lookup x=some c->∀ v,s.heap.IsCell c v->h'.IsCell c v:=fun x c e v ⟨o,ho,hd⟩=>by
  have nch:c ∉ ch:=fun z=>(hch c z).2.2.1 x c e rfl;by_cases hc:c ∈ X.fs
  .obtain ⟨sl,q⟩:=slot c o (I.cne x c e) hc nch ho (I.Qmt x c e);exact ⟨_,q,hd⟩
  .exact ⟨o,keep c o (I.cne x c e) hc nch ho (I.Qmt x c e),hd⟩
 refine ⟨I.ok,I.os,hg,⟨fun b o e n hb hx=>?_,fun b o e n hb hx=>?_,fun b o e n hx=>?_,fun b o e hx=>?_,fun b xs e=>tups b xs (I.base.tups b xs e),fun b o xs e=>Zch b o xs (I.base.Zch b o xs e),fun b ps e=>?_⟩,?_,fun x c e=>?_,?_,fun x c e=>?_,fun p hp=>?_,hok,I.len⟩
 .exact keep b o (neL b o e) hb (neC b o e hx) (I.base.keep b o e n hb hx) (I.base.free b o e n hx)
 .obtain ⟨sl,e1⟩:=I.base.slot b o e n hb hx;obtain ⟨sl',e2⟩:=slot b _ (neL b o e) hb (neC b o e hx) e1 (I.base.free b o e n hx);exact ⟨sl',e2⟩
 .obtain ⟨o',e1⟩:=I.base.there b o e hx;exact free b o' (neC b o e hx) e1 (I.base.free b o e n hx)
 .obtain ⟨o',e1⟩:=I.base.there b o e hx;exact there b o' (neC b o e hx) e1
 .obtain ⟨m1,e1⟩:=I.base.Zeg b ps e;obtain ⟨m2,e2⟩:=Zeg b _ e1;exact ⟨m1++m2,by rw[e2,Array.append_assoc]⟩
 .obtain ⟨m,hn,hl⟩:=I.loc;refine ⟨m,ns m hn,fun i x v e1 e2 e3=>?_⟩;obtain ⟨u,r,l⟩:=hl i x v e1 e2 e3;refine ⟨u,r,?_⟩;rcases l with l | ⟨k,c,e,z⟩
  .exact .inl l
  .exact .inr ⟨k,c,e,cellK x c e _ z⟩
 .obtain ⟨v,z⟩:=I.cell x c e;exact ⟨v,cellK x c e v z⟩
 .obtain ⟨m,⟨o,_,_,ho,_⟩,_⟩:=I.loc;exact free _ o (fun z=>(hch _ z).2.1 rfl) ho I.free
 .obtain ⟨v,o,ho,hd⟩:=I.cell x c e;exact free c o (fun z=>(hch c z).2.2.1 x c e rfl) ho (I.Qmt x c e)
 .obtain ⟨e,n,ne,nf,d⟩:=I.pin p hp;have nch:p.1 ∉ ch:=fun z=>(hch p.1 z).2.2.2 p hp rfl;exact ⟨keep p.1 p.2 ne nf nch e n,free p.1 p.2 nch e n,ne,nf,d⟩
theorem Inv.un {t':Nat} (I:Inv X pins σ H s) (u:Un X.fs [] H H' s.heap h') (hok:HOk X.prog X.w H' h'):Inv X pins σ H' { s with heap:=h',toks:=t' }:=by
 obtain ⟨m,⟨o,es,ep,ho,r⟩,_⟩:=id I.loc;obtain ⟨sl,hL⟩:=u.any ho I.free (by simp)
 exact I.step (g':=s.gens) (d':=s.drawn) (ch:=[]) (fun _ z=>nomatch z) (fun b o _ hb _ e n=>u.keep b o e n hb (by simp)) (fun b o _ hb _ e n=>u.slot b o e n hb (by simp)) (fun b o _ e n=>u.free b o e n (by simp)) (fun b o _ e=>u.there b o e (by simp)) u.tups u.Zch u.Zeg (fun m' hm=>by
  obtain ⟨o',es',ep',ho',r'⟩:=hm;rw[ho]at ho';cases ho'
  exact ⟨_,es',ep',hL,r'⟩) hok I.bare
theorem Inv.call {g':Array GenState} {t':Nat} {d':Drawn} {ch:List Addr} (I:Inv X pins σ H s) (u:Un (frs X.stack) ch H H' s.heap h') (hok:HOk X.prog X.w H' h') (hg:AllBare g')
  (hch:∀ b ∈ ch,(b ∈ X.ex\/X.s_0.heap.objs.size<=b)/\b ≠ X.env.locals/\(∀ x c,X.env.cells.lookup x=some c->c ≠ b)/\∀ p ∈ X.pn++pins,p.1 ≠ b) :
  Inv X pins σ H' { s with heap:=h',gens:=g',drawn:=d',toks:=t' }:=by
 obtain ⟨m,⟨o,es,ep,ho,r⟩,_⟩:=id I.loc;obtain ⟨sl,hL⟩:=u.any ho I.free fun z=>(hch _ z).2.1 rfl
 exact I.step (ch:=ch) hch (fun b o hL hb hc e n=>u.keep b o e n (fun z=>(List.mem_cons.mp (I.Zen b z)).elim hL hb) hc) (fun b o _ _ hc e n=>u.any e n hc) (fun b o hc e n=>u.free b o e n hc) (fun b o hc e=>u.there b o e hc) u.tups u.Zch u.Zeg (fun m' hm=>by
  obtain ⟨o',es',ep',ho',r'⟩:=hm;rw[ho]at ho';cases ho'
  exact ⟨_,es',ep',hL,r'⟩) hok hg
theorem Inv.turned {t':Nat} {it:Addr} (I:Inv X pins σ H s) (k:∀ b o,b ≠ it->s.heap.get? b=some o->h'.get? b=some o) (hn:H it=none) (hL:it ≠ X.env.locals)
  (h1:it ∈ X.ex\/X.s_0.heap.objs.size<=it) (h2:∀ x c,X.env.cells.lookup x=some c->c ≠ it) (h3:∀ p ∈ X.pn++pins,p.1 ≠ it):Inv X pins σ H { s with heap:=h',toks:=t' }:=by
 have nit:∀ b u,H b=some u->b ≠ it:=fun b u e z=>by rw[z,hn]at e;cases e
 refine I.step (g':=s.gens) (d':=s.drawn) (ch:=[it]) (fun b hb=>?_) (fun b o _ _ hc e _=>k b o (fun z=>hc (by simp[z])) e) (fun b o _ _ hc e _=>⟨o.slots,k b o (fun z=>hc (by simp[z])) e⟩) (fun _ _ _ _ n=>n)
  (fun b o hc e=>⟨o,k b o (fun z=>hc (by simp[z])) e⟩) (fun _ _ e=>e) (fun _ _ _ e=>e) (fun b ps e=>⟨#[],by rw[e];simp⟩) (fun m hm=>?_) (fun b u e=>?_) I.bare
 .have e:b=it:=by simpa using hb
  subst e;exact ⟨h1,hL,h2,h3⟩
 .obtain ⟨o,es,ep,ho,r⟩:=hm;exact ⟨o,es,ep,k _ o (Ne.symm hL) ho,r⟩
 .refine (I.hok b u e).stay (fun c v hc q=>k c v ?_ q) (fun _ q=>q) fun _ _ q=>q;rcases hc with z | z
  .rw[z];exact nit b u e
  .exact nit c _ z
theorem Inv.tok (I:Inv X pins σ H s) (t:Nat):Inv X pins σ H { s with toks:=t }:=I.un (h':=s.heap) (t':=t) Un.refl I.hok
theorem Inv.kept {t':Nat} (I:Inv X pins σ H s) (k:∀ b u,s.heap.get? b=some u->h'.get? b=some u):Inv X pins σ H { s with heap:=h',toks:=t' }:=I.un (Un.kept k) (I.hok.kept k)
theorem Inv.laid {a:Addr} {o:HO} {t':Nat} (I:Inv X pins σ H s) (k:∀ b u,s.heap.get? b=some u->h'.get? b=some u) (hp:s.heap.objs.size<=a) (new:Qbj X.prog X.w (upd H a o) h' a o) :
  Inv X pins σ (upd H a o) { s with heap:=h',toks:=t' }:=I.un (Un.laid k hp (I.hok.fresh hp)) (I.hok.laid k hp new)
theorem Inv.write {x e:Addr} {o:HO} {t':Nat} (I:Inv X pins σ H s) (mu:Mut (H x)) (he:e=x\/H e=some (.own x)) (k:∀ b u,b ≠ e->s.heap.get? b=some u->h'.get? b=some u) (heo:∃ u,h'.get? e=some u)
  (new:Qbj X.prog X.w (upd H x o) h' x o):Inv X pins σ (upd H x o) { s with heap:=h',toks:=t' }:=I.un (Un.write mu he k heo) (I.hok.write mu he k heo new)
theorem Inv.weak {σ':List (Option V)} (I:Inv X pins σ H s) (hl:σ'.length=σ.length) (w:∀ (i:Nat) v,σ'[i]? = some (some v)->σ[i]? = some (some v)):Inv X pins σ' H s:=
 ⟨I.ok,I.os,I.bare,I.base,let ⟨m,hn,hl'⟩:=I.loc;⟨m,hn,fun i x v e1 e2 e3=>hl' i x v e1 (w i v e2) e3⟩,I.cell,I.free,I.Qmt,I.pin,I.hok,hl.trans I.len⟩
theorem Inv.Zep {Zqt:List (Addr × Obj)} (I:Inv X pins σ H s) (h:∀ p ∈ Zqt,s.heap.get? p.1=some p.2/\H p.1=none/\p.1 ≠ X.env.locals/\p.1 ∉ X.fs/\∀ v,p.2.data ≠ .cell v):Inv X Zqt σ H s:=
 ⟨I.ok,I.os,I.bare,I.base,I.loc,I.cell,I.free,I.Qmt,fun p hp=>(List.mem_append.mp hp).elim (fun z=>I.pin p (List.mem_append_left _ z)) (h p),I.hok,I.len⟩
theorem Qro {N:List Str} (hN:N.Nodup) {i j:Nat} {x:Str} (a:N[i]? = some x) (b:N[j]? = some x):i=j:=by obtain ⟨h1,e1⟩:=List.getElem?_eq_some_iff.mp a;obtain ⟨h2,e2⟩:=List.getElem?_eq_some_iff.mp b;exact (List.getElem_inj hN).mp (e1.trans e2.symm)
theorem Zeq {M:Model} {A:Around} {E:EPr} {i:Nat} {x:Str} {v:V} {u:Value} {Q:Unit->Shared->Prop} (I:Inv X pins σ H s) (hN:X.N.Nodup) (hi:X.N[i]? = some x) (hx:Loc X.env.scope x) (r:RelV v u)
  (h:∀ s',Inv X pins (σ.set i (some v)) H s' -> (∃ a,Heap.SameBut a s.heap s'.heap/\(a=X.env.locals\/X.env.cells.lookup x=some a))->Q () s') (hf:X.fn x=true\/X.env.scope.names.lookup x=some .local:=by first | exact .inl rfl | exact .inr rfl | assumption):wpAny M A (storeName X.env x u) Q E s:=by
 obtain ⟨m,hn,hl⟩:=id I.loc;have hcls:(X.env.scope.kind == .class||(X.env.scope.kind == .module&&X.env.locals != X.env.globals))=false:=by rw[I.ok.kind];rfl
 have hiσ:i < σ.length:=by rw[I.len];exact (List.getElem?_eq_some_iff.mp hi).1
 have cne:=I.cne;have tracked:∀ {a:Addr} {h':Heap},(∃ o,s.heap.get? a=some o/\H a=none)->Heap.SameBut a s.heap h' -> HOk X.prog X.w H h':=fun {a h'} ha hs b ob e=>by
  obtain ⟨_,_,hfree⟩:=ha;refine (I.hok b ob e).stay (fun c w' hc q=>(hs.2 c ?_).trans q) (fun _ q=>q) fun _ _ q=>q
  rintro rfl
  rcases hc with rfl | hc
  .rw[hfree]at e;cases e
  .rw[hfree]at hc;cases hc
 rcases hx with hk | hk
 .refine wpAny_storeName_local hk hn (fun h' hn' hs=>?_) hcls;obtain ⟨oL,_,_,hoL,_⟩:=id hn;refine h _ ⟨I.ok,I.os,I.bare,⟨fun b o e n hb hx=>?_,fun b o e n hb hx=>?_,I.base.free,fun b o e hx=>?_,I.base.tups,I.base.Zch,I.base.Zeg⟩,⟨_,hn',fun j y v' e1 e2 e3=>?_⟩,fun y c e=>?_,I.free,I.Qmt,fun p hp=>?_,tracked ⟨oL,hoL,I.free⟩ hs,by simpa using I.len⟩ ⟨_,hs,.inl rfl⟩
  .exact (hs.2 b (Nat.ne_of_lt (Nat.lt_of_lt_of_le (Heap.lt_size e) I.ok.above))).trans (I.base.keep b o e n hb hx)
  .obtain ⟨sl,e1⟩:=I.base.slot b o e n hb hx;exact ⟨sl,(hs.2 b (Nat.ne_of_lt (Nat.lt_of_lt_of_le (Heap.lt_size e) I.ok.above))).trans e1⟩
  .obtain ⟨o',e1⟩:=I.base.there b o e hx;exact ⟨o',(hs.2 b (Nat.ne_of_lt (Nat.lt_of_lt_of_le (Heap.lt_size e) I.ok.above))).trans e1⟩
  .by_cases hj:j=i
   .subst hj;rw[hi]at e1;cases e1;rw[List.getElem?_set_self hiσ]at e2;cases e2;exact ⟨u,r,.inl ⟨hk,by simp⟩⟩
   .rw[List.getElem?_set_ne (Ne.symm hj)]at e2;obtain ⟨u',r',q⟩:=hl j y v' e1 e2 e3;refine ⟨u',r',?_⟩;rcases q with ⟨k,e⟩ | ⟨k,c,e,z⟩
    .refine .inl ⟨k,?_⟩
     have:y ≠ x:=fun e=>hj (Qro hN e1 (e ▸ hi))
     simp[this,e]
    .exact .inr ⟨k,c,e,z.sameBut hs (cne y c e)⟩
  .obtain ⟨w',z⟩:=I.cell y c e;exact ⟨w',z.sameBut hs (cne y c e)⟩
  .obtain ⟨e,n,ne,nf,d⟩:=I.pin p hp;exact ⟨(hs.2 p.1 ne).trans e,n,ne,nf,d⟩
 .have hfn:X.fn x=true:=by
   rcases hf with z | z
   .exact z
   .rw[z]at hk;cases hk
  obtain ⟨c,hc⟩:=I.ok.has x (.inl hk);obtain ⟨w',z⟩:=I.cell x c hc;refine wpAny_storeName_cell I.ok.kind hk hc z (fun h' hc' hs=>?_);obtain ⟨oc,hoc,Zvu⟩:=id z;refine h { s with heap:=h' } ⟨I.ok,I.os,I.bare,⟨fun b o e n hb hx=>?_,fun b o e n hb hx=>?_,I.base.free,fun b o e hx=>?_,I.base.tups,I.base.Zch,I.base.Zeg⟩,⟨m,hn.sameBut hs (Ne.symm (cne x c hc)),fun j y v' e1 e2 e3=>?_⟩,fun y c' e=>?_,I.free,I.Qmt,fun p hp=>?_,tracked ⟨oc,hoc,I.Qmt x c hc⟩ hs,by simpa using I.len⟩ ⟨c,hs,.inr hc⟩
  .exact (hs.2 b (Nat.ne_of_lt (Nat.lt_of_lt_of_le (Heap.lt_size e) (I.ok.cab x c hfn hc)))).trans (I.base.keep b o e n hb hx)
  .obtain ⟨sl,e1⟩:=I.base.slot b o e n hb hx;exact ⟨sl,(hs.2 b (Nat.ne_of_lt (Nat.lt_of_lt_of_le (Heap.lt_size e) (I.ok.cab x c hfn hc)))).trans e1⟩
  .obtain ⟨o',e1⟩:=I.base.there b o e hx;exact ⟨o',(hs.2 b (Nat.ne_of_lt (Nat.lt_of_lt_of_le (Heap.lt_size e) (I.ok.cab x c hfn hc)))).trans e1⟩
  .by_cases hj:j=i
   .subst hj;rw[hi]at e1;cases e1;rw[List.getElem?_set_self hiσ]at e2;cases e2;exact ⟨u,r,.inr ⟨.inl hk,c,hc,hc'⟩⟩
   .rw[List.getElem?_set_ne (Ne.symm hj)]at e2;obtain ⟨u',r',q⟩:=hl j y v' e1 e2 e3;refine ⟨u',r',?_⟩;rcases q with q | ⟨k,c',e,z'⟩
    .exact .inl q
    .refine .inr ⟨k,c',e,z'.sameBut hs ?_⟩
     rintro rfl
     exact hj (Qro hN e1 (I.ok.inj _ _ _ e hc ▸ hi))
  .by_cases hcc:c' = c
   .subst hcc;exact ⟨_,hc'⟩
   .obtain ⟨w2,z2⟩:=I.cell y c' e;exact ⟨w2,z2.sameBut hs hcc⟩
  .obtain ⟨e,n,ne,nf,d⟩:=I.pin p hp;refine ⟨(hs.2 p.1 ?_).trans e,n,ne,nf,d⟩;intro q;rw[q,hoc]at e;have q':oc=p.2:=Option.some.inj e;exact d w' (by rw[<-q'];exact Zvu)
theorem Qrp {M:Model} {A:Around} {E:EPr} {i:Nat} {x:Str} {v:V} {u:Value} {Q:Unit->Shared->Prop} (I:Inv X pins σ H s) (hN:X.N.Nodup) (hi:X.N[i]? = some x) (hx:Loc X.env.scope x) (r:RelV v u)
  (h:∀ s',Inv X pins (σ.set i (some v)) H s' -> Q () s') (hf:X.fn x=true\/X.env.scope.names.lookup x=some .local:=by first | exact .inl rfl | exact .inr rfl | assumption):wpAny M A (storeName X.env x u) Q E s:=
 Zeq I hN hi hx r (fun s' I' _=>h s' I') hf
theorem Inv.Ztb {s':Shared} {ch:List Addr} (I:Inv X pins σ H s) (ho:s'.os=s.os) (u:Un (frs X.stack) ch H H' s.heap s'.heap) (hok:HOk X.prog X.w H' s'.heap) (hg:AllBare s'.gens)
  (hch:∀ b ∈ ch,(b ∈ X.ex\/X.s_0.heap.objs.size<=b)/\b ≠ X.env.locals/\(∀ x c,X.env.cells.lookup x=some c->c ≠ b)/\∀ p ∈ X.pn++pins,p.1 ≠ b):Inv X pins σ H' s':=by
 obtain ⟨h',g',d',t',o'⟩:=s';have e:o' = s.os:=ho;subst e;exact I.call (g':=g') (t':=t') (d':=d') u hok hg hch
end
abbrev XK:=Value->Option Addr->Hp->Prop
abbrev St:=List (Option V)
abbrev VK:=V->Hp->Prop
abbrev TE:=St->Hp->VK->Prop
abbrev TT:=St->Hp->(Bool->Hp->Prop)->Prop
abbrev TA:=St->Hp->(List V->Hp->Prop)->Prop
structure Ends where
 nx:St->Hp->Prop
 rt:VK
 bk:St->Hp->Prop:=fun _ _=>False
 ct:St->Hp->Prop:=fun _ _=>False
abbrev TS:=Ends->St->Hp->Prop
def EP (X:Cx) (pins:List (Addr × Obj)) (σ:St) (Q:VK) (u:Value) (s':Shared):Prop:=∃ v H',Inv X pins σ H' s' /\ RelV v u/\Q v H'
def TP (X:Cx) (pins:List (Addr × Obj)) (σ:St) (Q:Bool->Hp->Prop) (b:Bool) (s':Shared):Prop:=∃ H',Inv X pins σ H' s' /\ Q b H'
def AP (X:Cx) (pins:List (Addr × Obj)) (σ:St) (Q:List V->Hp->Prop) (us:List Value) (s':Shared):Prop:=∃ vs H',Inv X pins σ H' s' /\ Vals vs us/\Q vs H'
def SP (X:Cx) (pins:List (Addr × Obj)) (D:Ends) (f:Flow) (s':Shared):Prop:=
 match f with
 | .next=>∃ σ' H',Inv X pins σ' H' s' /\ D.nx σ' H'
 | .brk=>∃ σ' H',Inv X pins σ' H' s' /\ D.bk σ' H'
 | .cont=>∃ σ' H',Inv X pins σ' H' s' /\ D.ct σ' H'
 | .ret u=>∃ v σ' H',Inv X pins σ' H' s' /\ RelV v u/\D.rt v H'
def PE (X:Cx) (e:Expr) (t:TE):Prop:=
 ∀ (pins:List (Addr × Obj)) (s:Shared) (σ:St) (H:Hp) (Q:VK),Inv X pins σ H s->t σ H Q->wpAny (model X.prog X.w) X.A (eval e X.env) (EP X pins σ Q) X.xe s
def PT (X:Cx) (e:Expr) (t:TT):Prop:=
 ∀ (pins:List (Addr × Obj)) (s:Shared) (σ:St) (H:Hp) (Q:Bool->Hp->Prop),Inv X pins σ H s->t σ H Q->wpAny (model X.prog X.w) X.A (isTrue e X.env (eval e X.env)) (TP X pins σ Q) X.xe s
def PW (X:Cx) (e:Expr) (t:TT):Prop:=
 ∀ (whole:Sem Value) (pins:List (Addr × Obj)) (s:Shared) (σ:St) (H:Hp) (Q:Bool->Hp->Prop),Inv X pins σ H s->t σ H Q->wpAny (model X.prog X.w) X.A (isTrue e X.env whole) (TP X pins σ Q) X.xe s
theorem PW.pt {X:Cx} {e:Expr} {t:TT} (h:PW X e t):PT X e t:=h _
def PA (X:Cx) (es:List Expr) (t:TA):Prop:=
 ∀ (pos:Pos) (pins:List (Addr × Obj)) (s:Shared) (σ:St) (H:Hp) (Q:List V->Hp->Prop),Inv X pins σ H s->t σ H Q->wpAny (model X.prog X.w) X.A (spliced (backTo pos (starEach es X.env))) (AP X pins σ Q) X.xe s
def PS (X:Cx) (st:Stmt) (t:TS):Prop:=
 ∀ (pins:List (Addr × Obj)) (s:Shared) (σ:St) (H:Hp) (D:Ends),Inv X pins σ H s->t D σ H->wpAny (model X.prog X.w) X.A (exec st X.env) (SP X pins D) X.xe s
def PSs (X:Cx) (st:List Stmt) (t:TS):Prop:=
 ∀ (pins:List (Addr × Obj)) (s:Shared) (σ:St) (H:Hp) (D:Ends),Inv X pins σ H s->t D σ H->wpAny (model X.prog X.w) X.A (execs st X.env) (SP X pins D) X.xe s
theorem thn {α:Type} {t:Sem α} {Q Q':α->Shared->Prop} {M:Model} {A:Around} {E:EPr} {s:Shared} (h:wpAny M A t Q E s) (hQ:∀ a s,Q a s->Q' a s):wpAny M A t Q' E s:=wpAny_mono h hQ fun _ _ x=>x
end L2
namespace L2
open PySem PySem.Spec PyProof.Rows
section
variable {X:Cx}
theorem bin {a b:Expr} {ta tb:TE} (ha:PE X a ta) (hb:PE X b tb) {pins:List (Addr × Obj)} {s:Shared} {σ:St} {H:Hp} {R:V->V->Hp->Prop} (I:Inv X pins σ H s) (h:ta σ H fun x H1=>tb σ H1 fun y H2=>R x y H2)
  {α:Type} {Q:α->Shared->Prop} {f:Value->Value->Sem α}
  (hf:∀ v u s2 x y H2,Inv X pins σ H2 s2->RelV x v->RelV y u->R x y H2->wpAny (model X.prog X.w) X.A (f v u) Q X.xe s2) :
  wpAny (model X.prog X.w) X.A (eval a X.env) (fun v s₁=>wpAny (model X.prog X.w) X.A (eval b X.env) (fun u s₂=>wpAny (model X.prog X.w) X.A (f v u) Q X.xe s₂) X.xe s₁) X.xe s:=by
 refine thn (ha pins s σ H _ I h) fun v s1 ⟨x,H1,I1,r1,q1⟩=>?_;refine thn (hb pins s1 σ H1 _ I1 q1) fun u s2 ⟨y,H2,I2,r2,q2⟩=>?_;exact hf v u s2 x y H2 I2 r1 r2 q2
def Qdt (i:Nat):TE:=fun σ H Q=>∃ v,σ[i]? = some (some v)/\Q v H
def tC (v:V):TE:=fun _ H Q=>Q v H
theorem Zqu {i:Nat} {x:Str} {pos:Pos} (hN:X.N[i]? = some x) (hv:Vis X.env.scope x) (hd:(x == ("__debug__" : Str))=false:=by decide) (hcd:(x == ("__classdict__" : Str))=false:=by decide):PE X (.Name x pos) (Qdt i):=by
 intro pins s σ H Q I h;obtain ⟨v,e,h⟩:=h;obtain ⟨m,hn,hl⟩:=I.loc;obtain ⟨u,r,l⟩:=hl i x v hN e hv;have fin:EP X pins σ Q u s:=⟨v,H,I,r,h⟩
 rcases l with ⟨hk,hm⟩ | ⟨hk,c,hc,hcell⟩
 .exact wpAny_Name (wpAny_loadName_local I.ok.kind hk hn hm fin) hd
 .rcases hk with hk | hk
  .exact wpAny_Name (wpAny_loadName_cell I.ok.kind hk hc hcell fin) hd
  .exact wpAny_Name (wpAny_loadName_free I.ok.kind hk hc hcell fin hcd) hd
theorem Qj {i j pos}:PE X (.Constant (.int i) j pos) (tC (.int i)):=fun _ _ _ H _ I h=>wpAny_Constant_int ⟨.int i,H,I.tok _,⟨_,rfl⟩,h⟩
theorem Yb {b j pos}:PE X (.Constant (.bool b) j pos) (tC (.bl b)):=fun _ _ _ H _ I h=>Constant_bool ⟨.bl b,H,I,rfl,h⟩
theorem Qtz {j pos}:PE X (.Constant .none j pos) (tC .non):=fun _ _ _ H _ I h=>Constant_none ⟨.non,H,I,rfl,h⟩
theorem Qel {x j pos}:PE X (.Constant (.str x) j pos) (tC (.str x)):=fun _ _ _ H _ I h=>Calls.Constant_str ⟨.str x,H,I.tok _,⟨_,rfl⟩,h⟩
def Gl (X:Cx) (x:Str):Prop:=X.env.kindOf x=some .globalImplicit
theorem Qrq {E:EPr} {pins:List (Addr × Obj)} {s:Shared} {σ:St} {H:Hp} {x:Str} {u:Value} {pos:Pos} {Q:EPr} (I:Inv X pins σ H s) (hg:Gl X x) (hm:X.mg x=some u) (h:Q u s)
  (hd:(x == ("__debug__" : Str))=false:=by decide):wpAny (model X.prog X.w) X.A (eval (.Name x pos) X.env) Q E s:=
 Calls.Name_function_global I.ok.kind hg (Calls.loadGlobal_global (by rw[I.ok.glob];exact I.mod.glob.keeps I.bk) hm h) hd
theorem Qmu {E:EPr} {pins:List (Addr × Obj)} {s:Shared} {σ:St} {H:Hp} {x:Str} {u:Value} {pos:Pos} {Q:EPr} (I:Inv X pins σ H s) (hg:Gl X x) (hm:X.mg x=none) (hv:bootBuiltins x=some u) (h:Q u s)
  (hn:x ≠ "__name__":=by decide) (hd:(x == ("__debug__" : Str))=false:=by decide):wpAny (model X.prog X.w) X.A (eval (.Name x pos) X.env) Q E s:=by
 obtain ⟨mb,h1,h2⟩:=I.mod.blt;exact Calls.Name_function_global I.ok.kind hg (Calls.loadGlobal_builtin (by rw[I.ok.glob];exact I.mod.glob.keeps I.bk) hm (by rw[I.ok.blt];exact h1.keeps I.bk) ((h2 x hn).trans hv) h) hd
theorem Zer {x:Str} {v:V} {u:Value} {pos:Pos} (hg:Gl X x) (hm:X.mg x=some u) (r:RelV v u) (hd:(x == ("__debug__" : Str))=false:=by decide):PE X (.Name x pos) (tC v):=
 fun _ _ _ H _ I h=>Qrq I hg hm ⟨v,H,I,r,h⟩ hd
variable {a b:Expr} {ta tb:TE} {pos:Pos}
def PC (X:Cx) (op:CmpOp) (a b:Expr) (t:TE):Prop:=
 ∀ (pins:List (Addr × Obj)) (s:Shared) (σ:St) (H:Hp) (Q:VK),Inv X pins σ H s->t σ H Q ->
  wpAny (model X.prog X.w) X.A (eval a X.env) (fun v s₁=>wpAny (model X.prog X.w) X.A (eval b X.env) (fun u s₂=>wpAny (model X.prog X.w) X.A (compareOp op v u) (EP X pins σ Q) X.xe s₂) X.xe s₁) X.xe s
theorem Zj6 (b:Expr) {op:CmpOp} (h:op ≠ .In) (h2:op ≠ .NotIn):behindInMarks op b=false:=by
 have e1:(op == CmpOp.In)=false:=by cases op <;> first | rfl | exact absurd rfl h
 have e2:(op == CmpOp.NotIn)=false:=by cases op <;> first | rfl | exact absurd rfl h2
 cases b <;> simp[behindInMarks,e1,e2]
def tB (t:TE):TT:=fun σ H Q=>t σ H fun x H1=>∃ c,x = .bl c/\Q c H1
theorem Zus {op:CmpOp} {t:TE} (h:PC X op a b t) (h1:behindInMarks op b=false:=by first | exact Zj6 _ (by decide) (by decide) | rfl):PT X (.Compare a [op] [b] pos) (tB t):=by intro pins s σ H Q I hw;refine wpAny_isTrue_Compare1 (thn (h pins s σ H _ I hw) fun v s1 h1=>thn h1 fun u s2 h2=>thn h2 fun c s3 ⟨x,H1,I1,r1,q1⟩=>?_) h1;obtain ⟨d,rfl,q⟩:=q1;cases r1;exact wpAny_truthy_bool ⟨H1,I1,q⟩
theorem Zm {e:Expr} {t:TE} (h:PE X e t) (he:∀ whole,isTrue e X.env whole=(do let v <-whole;standAt e.pos;holding [v] (truthy v)):=by intro _;rfl):PT X e (tB t):=by intro pins s σ H Q I hw;refine isTrue_plain (thn (h pins s σ H _ I hw) fun v s1 ⟨x,H1,I1,r1,q1⟩=>?_) (he _);obtain ⟨d,rfl,q⟩:=q1;cases r1;exact wpAny_truthy_bool ⟨H1,I1,q⟩
variable {tA tB':TT} {rest:List Expr}
def Zut (t u:TT):TT:=fun σ H Q=>t σ H fun c H1=>if c=true then u σ H1 Q else Q false H1
def tOr (t u:TT):TT:=fun σ H Q=>t σ H fun c H1=>if c=true then Q true H1 else u σ H1 Q
def Zvv (t:TT):TT:=fun σ H Q=>t σ H fun c H1=>Q (!c) H1
theorem Qd2 (ha:PT X a tA):PW X (.BoolOp .And [a] pos) tA:=by
 intro wh pins s σ H Q I h;refine isTrue_and (thn (ha pins s σ H Q I h) fun c s1 e=>?_);cases c with
 | true=>exact isTrue_and_nil e
 | false=>exact e
theorem Qfr (ha:PT X a tA):PW X (.BoolOp .Or [a] pos) tA:=by
 intro wh pins s σ H Q I h;refine isTrue_or (thn (ha pins s σ H Q I h) fun c s1 e=>?_);cases c with
 | false=>exact isTrue_or_nil e
 | true=>exact e
theorem Qho (ha:PT X a tA) (hb:PW X (.BoolOp .And (b::rest) pos) tB'):PW X (.BoolOp .And (a::b::rest) pos) (Zut tA tB'):=by
 intro wh pins s σ H Q I h;refine isTrue_and (thn (ha pins s σ H _ I h) fun c s1 ⟨H1,I1,q1⟩=>?_);cases c with
 | true=>exact hb wh pins s1 σ H1 Q I1 q1
 | false=>exact ⟨H1,I1,q1⟩
theorem Qi7 (ha:PT X a tA) (hb:PW X (.BoolOp .Or (b::rest) pos) tB'):PW X (.BoolOp .Or (a::b::rest) pos) (tOr tA tB'):=by
 intro wh pins s σ H Q I h;refine isTrue_or (thn (ha pins s σ H _ I h) fun c s1 ⟨H1,I1,q1⟩=>?_);cases c with
 | true=>exact ⟨H1,I1,q1⟩
 | false=>exact hb wh pins s1 σ H1 Q I1 q1
theorem Qae (ha:PT X a tA):PT X (.UnaryOp .Not a pos) (Zvv tA):=by intro pins s σ H Q I h;exact isTrue_not (ha pins s σ H (fun c H1=>Q (!c) H1) I h)
def Qxy (ta tb:TE):TE:=fun σ H Q=>ta σ H fun x H1=>∃ c,x = .bl c/\if c=true then tb σ H1 Q else Q (.bl false) H1
def Zvw (ta tb:TE):TE:=fun σ H Q=>ta σ H fun x H1=>∃ c,x = .bl c/\if c=true then Q (.bl true) H1 else tb σ H1 Q
def Ztc (ta:TE):TE:=fun σ H Q=>ta σ H fun x H1=>∃ c,x = .bl c/\Q (.bl (!c)) H1
theorem Qdu {op} {t:TE} (h:PE X a t):PE X (.BoolOp op [a] pos) t:=fun pins s σ H Q I hw=>BoolOp_one (h pins s σ H Q I hw)
theorem Qbz (ha:PE X a ta) (hb:PE X (.BoolOp .And (b::rest) pos) tb):PE X (.BoolOp .And (a::b::rest) pos) (Qxy ta tb):=by
 intro pins s σ H Q I h;refine BoolOp_and (thn (ha pins s σ H _ I h) fun v s1 ⟨x,H1,I1,r1,q1⟩=>?_);obtain ⟨c,rfl,q1⟩:=q1;cases r1;refine wpAny_truthy_bool ?_;cases c with
 | true=>exact hb pins s1 σ H1 Q I1 q1
 | false=>exact ⟨.bl false,H1,I1,rfl,q1⟩
theorem Zes (ha:PE X a ta) (hb:PE X (.BoolOp .Or (b::rest) pos) tb):PE X (.BoolOp .Or (a::b::rest) pos) (Zvw ta tb):=by
 intro pins s σ H Q I h;refine BoolOp_or (thn (ha pins s σ H _ I h) fun v s1 ⟨x,H1,I1,r1,q1⟩=>?_);obtain ⟨c,rfl,q1⟩:=q1;cases r1;refine wpAny_truthy_bool ?_;cases c with
 | false=>exact hb pins s1 σ H1 Q I1 q1
 | true=>exact ⟨.bl true,H1,I1,rfl,q1⟩
theorem Qt0 (ha:PE X a ta):PE X (.UnaryOp .Not a pos) (Ztc ta):=by intro pins s σ H Q I h;refine UnaryOp_ (thn (ha pins s σ H _ I h) fun v s1 ⟨x,H1,I1,r1,q1⟩=>?_);obtain ⟨c,rfl,q1⟩:=q1;cases r1;exact not_of (wpAny_truthy_bool ⟨.bl (!c),H1,I1,rfl,q1⟩)
def tIf (t:TT) (ta tb:TE):TE:=fun σ H Q=>t σ H fun c H1=>if c=true then ta σ H1 Q else tb σ H1 Q
theorem Za0 {c:Expr} (hc:PT X c tA) (ha:PE X a ta) (hb:PE X b tb):PE X (.IfExp c a b pos) (tIf tA ta tb):=by
 intro pins s σ H Q I h;refine wpAny_IfExp (thn (hc pins s σ H _ I h) fun d s1 ⟨H1,I1,q1⟩=>?_);cases d with
 | true=>exact ha pins s1 σ H1 Q I1 q1
 | false=>exact hb pins s1 σ H1 Q I1 q1
end
end L2
namespace L2
open PySem PySem.Spec PyProof.Rows
def SqL (K:FG) (H:Hp) (a:Addr) (xs:List V):Prop:=
 Rd H a (.lst xs) \/
  ∃ (o:Obj) (its:Array Value) (n:Nat),K.lookup a=some o/\o.cls = .type "list" /\ o.dict=none/\o.data = .seq its n/\its.size<=sizeLine/\Vals xs its.toList
def SqT (K:FG) (H:Hp) (a:Addr) (xs:List V):Prop:=
 Rd H a (.tup xs) \/
  ∃ (o:Obj) (its:Array Value) (n:Nat),K.lookup a=some o/\o.cls = .type "tuple" /\ o.data = .seq its n/\its.size<=sizeLine/\Vals xs its.toList
def Zvx:Value->Option V
 | .none=>some .non
 | .bool b=>some (.bl b)
 | .int i _=>some (.int i)
 | .str x _=>some (.str x)
 | .bytes b _=>some (.byt b)
 | .float b _=>some (.flt b)
 | .ref a=>some (.ref a)
 | .type n=>some (.ty n)
 | _=>none
theorem RelV.abs {x:V} {u:Value} (r:RelV x u):Zvx u=some x:=by
 cases x with
 | non=>cases r;rfl
 | bl _=>cases r;rfl
 | int _=>obtain ⟨t,rfl⟩:=r;rfl
 | str _=>obtain ⟨t,rfl⟩:=r;rfl
 | byt _=>obtain ⟨t,rfl⟩:=r;rfl
 | flt _=>obtain ⟨t,rfl⟩:=r;rfl
 | ref _=>cases r;rfl
 | ty _=>cases r;rfl
theorem RelV.inj {x y:V} {u:Value} (r:RelV x u) (q:RelV y u):x=y:=Option.some.inj (r.abs.symm.trans q.abs)
theorem Vals.inj:∀ {xs ys:List V} {us:List Value},Vals xs us->Vals ys us->xs=ys
 | _,_,_,.nil,.nil=>rfl
 | _,_,_,.cons r t,.cons r' t'=>by rw[r.inj r',Vals.inj t t']
section
variable {X:Cx} {pins:List (Addr × Obj)} {σ:St} {H:Hp} {s:Shared} {a:Addr} {xs ys:List V}
theorem SqL.of {K:FG} (h:H a=some (.lst xs)):SqL K H a xs:=.inl (.inl h)
theorem SqT.of {K:FG} (h:H a=some (.tup xs)):SqT K H a xs:=.inl (.inl h)
theorem Inv.list (I:Inv X pins σ H s) (h:SqL X.K H a xs):∃ its:List Value,Vals xs its/\PlainL s.heap a its.toArray/\xs.length<=sizeLine:=by
 rcases h with h | ⟨o,its,n,hk,hc,hd,hs,hz,r⟩
 .obtain ⟨z,its,n,r,e⟩:=h.ok I.hok;exact ⟨its,r,⟨_,n,e,rfl,rfl,rfl⟩,z⟩
 .refine ⟨its.toList,r,⟨o,n,I.kIn a o hk,hc,hd,by simpa using hs⟩,?_⟩;have e:=r.length;simp only[Array.length_toList]at e;omega
theorem Inv.tuple (I:Inv X pins σ H s) (h:SqT X.K H a xs):∃ its:List Value,Vals xs its/\IsTup s.heap a its.toArray/\xs.length<=sizeLine:=by
 rcases h with h | ⟨o,its,n,hk,hc,hs,hz,r⟩
 .obtain ⟨z,its,r,p⟩:=h.ok I.hok;exact ⟨its,r,p,z⟩
 .refine ⟨its.toList,r,⟨o,I.kIn a o hk,hc,n,by simpa using hs⟩,?_⟩;have e:=r.length;simp only[Array.length_toList]at e;omega
theorem Inv.Qmm (I:Inv X pins σ H s) (h:SqL X.K H a xs) (h':SqL X.K H a ys):xs=ys:=by
 obtain ⟨its,r,⟨o,n,e,_,_,d⟩,_⟩:=I.list h;obtain ⟨its',r',⟨o',n',e',_,_,d'⟩,_⟩:=I.list h';rw[e]at e';cases e';rw[d]at d';injection d' with d1 _
 have:its=its':=by simpa using congrArg Array.toList d1
 subst this;exact r.inj r'
theorem Inv.Qt1 (I:Inv X pins σ H s) (h:SqT X.K H a xs) (h':SqT X.K H a ys):xs=ys:=by
 obtain ⟨its,r,⟨o,e,_,n,d⟩,_⟩:=I.tuple h;obtain ⟨its',r',⟨o',e',_,n',d'⟩,_⟩:=I.tuple h';rw[e]at e';cases e';rw[d]at d';injection d' with d1 _
 have:its=its':=by simpa using congrArg Array.toList d1
 subst this;exact r.inj r'
end
abbrev Cx.Zeh (X:Cx) (E:EPr):Cx:={ X with xe:=E }
abbrev Cx.nox (X:Cx):Cx:=X.Zeh fun _ _=>False
theorem Cx.Ok.Zeh {X:Cx} (ok:X.Ok) (E:EPr):(X.Zeh E).Ok:=
 ⟨ok.mod,ok.kind,ok.glob,ok.blt,ok.above,ok.inj,ok.has,ok.cab,ok.hd,ok.frames,ok.stk,ok.exf,ok.bs,ok.bsz,ok.Zqr,ok.Zqs,ok.Zci,ok.frf⟩
theorem Cx.Ok.Qhp {X:Cx} {E:EPr} (ok:(X.Zeh E).Ok):X.Ok:=
 ⟨ok.mod,ok.kind,ok.glob,ok.blt,ok.above,ok.inj,ok.has,ok.cab,ok.hd,ok.frames,ok.stk,ok.exf,ok.bs,ok.bsz,ok.Zqr,ok.Zqs,ok.Zci,ok.frf⟩
section
variable {X:Cx} {pins:List (Addr × Obj)} {σ:St} {H:Hp} {s:Shared} {E:EPr}
theorem Inv.Zeh (I:Inv X pins σ H s) (E:EPr):Inv (X.Zeh E) pins σ H s:=⟨I.ok.Zeh E,I.os,I.bare,I.base,I.loc,I.cell,I.free,I.Qmt,I.pin,I.hok,I.len⟩
theorem Inv.Qhp (I:Inv (X.Zeh E) pins σ H s):Inv X pins σ H s:=⟨I.ok.Qhp,I.os,I.bare,I.base,I.loc,I.cell,I.free,I.Qmt,I.pin,I.hok,I.len⟩
theorem SP.Qhp {D:Ends} {f:Flow} {s':Shared} (h:SP (X.Zeh E) pins D f s'):SP X pins D f s':=by
 cases f with
 | next=>obtain ⟨σ',H',I,q⟩:=h;exact ⟨σ',H',I.Qhp,q⟩
 | brk=>obtain ⟨σ',H',I,q⟩:=h;exact ⟨σ',H',I.Qhp,q⟩
 | cont=>obtain ⟨σ',H',I,q⟩:=h;exact ⟨σ',H',I.Qhp,q⟩
 | ret u=>obtain ⟨v,σ',H',I,r,q⟩:=h;exact ⟨v,σ',H',I.Qhp,r,q⟩
theorem PE.nox {e:Expr} {t:TE} (h:PE X.nox e t):PE X e t:=fun pins s σ H Q I hw =>
 wpAny_mono (h pins s σ H Q (I.Zeh _) hw) (fun _ _ ⟨v,H',I',r,q⟩=>⟨v,H',I'.Qhp,r,q⟩) fun _ _ z=>False.elim z
theorem PT.nox {e:Expr} {t:TT} (h:PT X.nox e t):PT X e t:=fun pins s σ H Q I hw =>
 wpAny_mono (h pins s σ H Q (I.Zeh _) hw) (fun _ _ ⟨H',I',q⟩=>⟨H',I'.Qhp,q⟩) fun _ _ z=>False.elim z
theorem PSs.nox {st:List Stmt} {t:TS} (h:PSs X.nox st t):PSs X st t:=fun pins s σ H D I hw =>
 wpAny_mono (h pins s σ H D (I.Zeh _) hw) (fun _ _ q=>q.Qhp) fun _ _ z=>False.elim z
end
section
variable {X:Cx} {st:Stmt} {rest:List Stmt} {t u:TS} {e:Expr} {te:TE} {pos:Pos}
def Zno:TS:=fun D σ H=>D.nx σ H
def Zet (t u:TS):TS:=fun D σ H=>t { D with nx:=u D } σ H
theorem Qp:PSs X [] Zno:=fun _ _ σ H _ I h=>wpAny_execs_nil ⟨σ,H,I,h⟩
theorem Qb (h1:PS X st t) (h2:PSs X rest u):PSs X (st::rest) (Zet t u):=by
 intro pins s σ H D I h;refine wpAny_execs_cons (thn (h1 pins s σ H { D with nx:=u D } I h) fun f s1 q=>?_);cases f with
 | next =>obtain ⟨σ',H',I',q⟩:=q;exact h2 pins s1 σ' H' D I' q
 | ret v=>exact q
 | brk=>exact q
 | cont=>exact q
theorem Qc (h1:PS X st t):PSs X [st] t:=by
 intro pins s σ H D I h;refine wpAny_execs_cons (thn (h1 pins s σ H D I h) fun f s1 q=>?_);cases f with
 | next=>exact wpAny_execs_nil q
 | ret v=>exact q
 | brk=>exact q
 | cont=>exact q
theorem Inv.quiet {pins:List (Addr × Obj)} {σ:St} {H:Hp} {s:Shared} (I:Inv X pins σ H s):interactive X.env=false:=by simp[interactive,I.ok.kind]
def Zeu (te:TE):TS:=fun D σ H=>te σ H fun _ H1=>D.nx σ H1
theorem Qx (he:PE X e te) (hs:swapsWith e none pos.line X.env=pure false:=by rfl):PS X (.Expr e pos) (Zeu te):=by intro pins s σ H D I h;exact wpAny_Expr_any (thn (he pins s σ H _ I h) fun v s1 ⟨x,H1,I1,r1,q1⟩=>⟨σ,H1,I1,q1⟩) I.quiet hs
def Zqh (te:TE):TS:=fun D σ H=>te σ H D.rt
theorem Qm (he:PE X e te):PS X (.Return (some e) pos) (Zqh te):=by intro pins s σ H D I h;exact wpAny_Return_some (thn (he pins s σ H _ I h) fun v s1 ⟨x,H1,I1,r1,q1⟩=>⟨x,σ,H1,I1,r1,q1⟩)
def Ztd:TS:=fun D _ H=>D.rt .non H
theorem Znp:PS X (.Return none pos) Ztd:=fun _ _ σ H _ I h=>wpAny_Return_none ⟨.non,σ,H,I,rfl,h⟩
def Zte (c:TT) (t u:TS):TS:=fun D σ H=>c σ H fun b H1=>if b=true then t D σ H1 else u D σ H1
theorem Qz {c:Expr} {a b:List Stmt} {tc:TT} (hc:PT X c tc) (ha:PSs X a t) (hb:PSs X b u):PS X (.If c a b pos) (Zte tc t u):=by
 intro pins s σ H D I h;refine wpAny_If (thn (hc pins s σ H _ I h) fun d s1 ⟨H1,I1,q1⟩=>?_);cases d with
 | true=>exact ha pins s1 σ H1 D I1 q1
 | false=>exact hb pins s1 σ H1 D I1 q1
end
abbrev TG:=V->St->Hp->(St->Hp->Prop)->Prop
abbrev TGs:=List V->St->Hp->(St->Hp->Prop)->Prop
def PG (X:Cx) (target:Expr) (t:TG):Prop:=
 ∀ (pins:List (Addr × Obj)) (s:Shared) (σ:St) (H:Hp) (v:V) (u:Value) (Q:St->Hp->Prop),Inv X pins σ H s->RelV v u->t v σ H Q ->
  wpAny (model X.prog X.w) X.A (assign target X.env u) (fun _ s'=>∃ σ' H',Inv X pins σ' H' s' /\ Q σ' H') X.xe s
def PGs (X:Cx) (ts:List Expr) (t:TGs):Prop:=
 ∀ (pins:List (Addr × Obj)) (s:Shared) (σ:St) (H:Hp) (vs:List V) (us:List Value) (Q:St->Hp->Prop),Inv X pins σ H s->Vals vs us->t vs σ H Q ->
  wpAny (model X.prog X.w) X.A (assignInOrder ((assignEach ts X.env).map (·.2)) us) (fun _ s'=>∃ σ' H',Inv X pins σ' H' s' /\ Q σ' H') X.xe s
abbrev Ztf:=V->V->V->Hp->(Hp->Prop)->Prop
def Zuu (X:Cx) (t:Ztf):Prop:=
 ∀ (pins:List (Addr × Obj)) (s:Shared) (σ:St) (H:Hp) (o i v:V) (ov iv u:Value) (Q:Hp->Prop),Inv X pins σ H s->RelV o ov->RelV i iv->RelV v u->t o i v H Q ->
  wpAny (model X.prog X.w) X.A (setItem ov iv u) (fun _ s'=>∃ H',Inv X pins σ H' s' /\ Q H') X.xe s
abbrev TIp:=V->V->Hp->VK->Prop
def PIp (X:Cx) (op:Operator) (t:TIp):Prop:=
 ∀ (pins:List (Addr × Obj)) (s:Shared) (σ:St) (H:Hp) (x y:V) (v u:Value) (Q:VK),Inv X pins σ H s->RelV x v->RelV y u->t x y H Q ->
  wpAny (model X.prog X.w) X.A (inplaceOp op v u) (EP X pins σ Q) X.xe s
section
variable {X:Cx} {pos:Pos}
def Qxz (i:Nat):TG:=fun v σ H Q=>Q (σ.set i (some v)) H
theorem Znq {i:Nat} {x:Str} (hN:X.N.Nodup) (hi:X.N[i]? = some x) (hx:Loc X.env.scope x) (hf:X.fn x=true\/X.env.scope.names.lookup x=some .local:=by first | exact .inl rfl | exact .inr rfl | assumption):PG X (.Name x pos) (Qxz i):=by intro pins s σ H v u Q I r h;exact wpAny_assign_Name (Qrp I hN hi hx r (fun s' I'=>⟨_,H,I',h⟩) hf)
def Zvy:TGs:=fun vs σ H Q=>vs=[]/\Q σ H
def Ztg (t:TG) (u:TGs):TGs:=fun vs σ H Q=>∃ v r,vs=v::r/\t v σ H fun σ' H'=>u r σ' H' Q
theorem Qki:PGs X [] Zvy:=by intro pins s σ H vs us Q I r h;obtain ⟨e,h⟩:=h;subst e;cases r;exact assignInOrder_nil ⟨σ,H,I,h⟩
theorem Qaq {e:Expr} {es:List Expr} {t:TG} {u:TGs} (h1:PG X e t) (h2:PGs X es u)
  (hs:(assignEach (e::es) X.env).map (·.2)=assign e X.env::(assignEach es X.env).map (·.2):=by rfl):PGs X (e::es) (Ztg t u):=by
 intro pins s σ H vs us Q I r h;obtain ⟨v,vr,e1,h⟩:=h;subst e1;cases r with
 | cons r rr =>rw[hs];refine assignInOrder_cons (thn (h1 pins s σ H _ _ _ I r h) fun _ s1 ⟨σ1,H1,I1,q1⟩=>?_);exact h2 pins s1 σ1 H1 _ _ Q I1 rr q1
def Zuv (K:FG) (n:Nat) (t:TGs):TG:=fun v σ H Q=>∃ a xs,v = .ref a/\SqT K H a xs/\xs.length=n/\t xs σ H Q
theorem Qqn {es:List Expr} {k:Nat} {t:TGs} {n:Nat} (hc:X.calm=true) (h:PGs X es t)
  (hn:(assignEach es X.env).length=n:=by rfl) (hst:(assignEach es X.env).findIdx? (·.1)=none:=by rfl):PG X (.Tuple es k pos) (Zuv X.K n t):=by
 intro pins s σ H v u Q I r hw;obtain ⟨a,xs,e1,hq,hl,hw⟩:=hw;subst e1;cases r;obtain ⟨its,rv,ht,hz⟩:=I.tuple hq;refine assign_Tuple_tuple (I.ok.hd hc) ht (by simp[hn,<-hl,rv.length]) hst fun h' hx=>?_;have I1:Inv X pins σ H { s with heap:=h' }:=I.kept (t':=s.toks) fun b o e=>hx b o (Nat.ne_of_lt (Heap.lt_size e)) e
 exact h pins _ σ H xs _ Q I1 (by simpa using rv) hw
def Zvz (to ti:TE) (t:Ztf):TG:=fun v σ H Q=>to σ H fun o H1=>ti σ H1 fun i H2=>t o i v H2 fun H3=>Q σ H3
theorem Zmk {o i:Expr} {to ti:TE} {t:Ztf} (ho:PE X o to) (hi:PE X i ti) (hs:Zuu X t)
  (ha:∀ v,assign (.Subscript o i pos) X.env v=(do
   let ov <-holding [v] (eval o X.env)
   let iv <-holding [v,ov] (eval i X.env)
   standAt pos
   holding [v,ov,iv] (setItem ov iv v)
   release [v,ov,iv] []):=by intro _;rfl):PG X (.Subscript o i pos) (Zvz to ti t):=by
 intro pins s σ H v u Q I r h;rw[ha];refine wpAny_bind (wpAny_holding (thn (ho pins s σ H _ I h) fun ov s1 ⟨x,H1,I1,r1,q1⟩=>?_));refine wpAny_bind (wpAny_holding (thn (hi pins s1 σ H1 _ I1 q1) fun iv s2 ⟨y,H2,I2,r2,q2⟩=>?_));refine wpAny_bind (wpAny_standAt (wpAny_bind (wpAny_holding (thn (hs pins s2 σ H2 x y v ov iv u _ I2 r1 r2 r q2) fun _ s3 ⟨H3,I3,q3⟩=>?_))));exact wpAny_release ⟨σ,H3,I3,q3⟩
def Zqv (te:TE) (g:TG):TS:=fun D σ H=>te σ H fun x H1=>g x σ H1 D.nx
theorem Zml {tg e:Expr} {te:TE} {g:TG} (he:PE X e te) (hg:PG X tg g) (hs:swapsWithSole [tg] e pos.line X.env=pure false:=by rfl) (hw:swappedStores [tg] e X.env=pure none:=by rfl)
  (h1:(assignEach [tg] X.env).map (·.2)=[assign tg X.env]:=by rfl):PS X (.Assign [tg] e pos) (Zqv te g):=by
 intro pins s σ H D I h;refine wpAny_Assign_stores (thn (he pins s σ H _ I h) fun v s1 ⟨x,H1,I1,r1,q1⟩=>?_) hs hw;rw[h1];exact thn (hg pins s1 σ H1 x v _ I1 r1 q1) fun _ s2 q=>q
theorem Zqw {i:Nat} {x:Str} {e:Expr} {te:TE} {pos':Pos} (hN:X.N.Nodup) (hi:X.N[i]? = some x) (hx:Loc X.env.scope x) (he:PE X e te) (hs:swapsWith e (some (.Name x pos')) pos.line X.env=pure false:=by rfl) (hf:X.fn x=true\/X.env.scope.names.lookup x=some .local:=by first | exact .inl rfl | exact .inr rfl | assumption) :
  PS X (.Assign [.Name x pos'] e pos) (Zqv te (Qxz i)):=by
 intro pins s σ H D I h;refine wpAny_Assign_Name (thn (he pins s σ H _ I h) fun v s1 ⟨y,H1,I1,r1,q1⟩=>?_) hs;exact Qrp I1 hN hi hx r1 (fun s2 I2=>⟨_,H1,I2,q1⟩) hf
def Zuw (i:Nat) (te:TE) (ti:TIp):TS:=fun D σ H=>∃ x,σ[i]? = some (some x)/\te σ H fun y H1=>ti x y H1 fun z H2=>D.nx (σ.set i (some z)) H2
theorem Zqx {i:Nat} {x:Str} {e:Expr} {te:TE} {op:Operator} {ti:TIp} {pos':Pos} (hN:X.N.Nodup) (hi:X.N[i]? = some x) (hx:Loc X.env.scope x) (he:PE X e te) (ho:PIp X op ti) (hf:X.fn x=true\/X.env.scope.names.lookup x=some .local:=by first | exact .inl rfl | exact .inr rfl | assumption) :
  PS X (.AugAssign (.Name x pos') op e pos) (Zuw i te ti):=by
 intro pins s σ H D I h;obtain ⟨v,e1,h⟩:=h;obtain ⟨m,hn,hl⟩:=I.loc;have vis:Vis X.env.scope x:=by rcases hx with k | k;exact .inl k;exact .inr (.inl k)
 obtain ⟨u,r,l⟩:=hl i x v hi e1 vis;refine wpAny_AugAssign_Name ?_;have go:wpAny (model X.prog X.w) X.A (eval e X.env) (fun w s₂=>wpAny (model X.prog X.w) X.A (inplaceOp op u w) (fun r s₃=>wpAny (model X.prog X.w) X.A (storeName X.env x r) (fun _=>SP X pins D .next) X.xe s₃) X.xe s₂) X.xe s:=by refine thn (he pins s σ H _ I h) fun w s1 ⟨y,H1,I1,r1,q1⟩=>?_;refine thn (ho pins s1 σ H1 v y u w _ I1 r r1 q1) fun z s2 ⟨zv,H2,I2,r2,q2⟩=>?_;exact Qrp I2 hN hi hx r2 (fun s3 I3=>⟨_,H2,I3,q2⟩) hf
 rcases l with ⟨hk,hm⟩ | ⟨hk,c,hc,hcell⟩
 .exact wpAny_loadName_local I.ok.kind hk hn hm go
 .rcases hk with hk | hk
  .exact wpAny_loadName_cell I.ok.kind hk hc hcell go
  .rcases hx with k | k
   .have:X.env.scope.names.lookup x=some .free:=hk
    rw[k]at this;cases this
   .have:X.env.scope.names.lookup x=some .free:=hk
    rw[k]at this;cases this
def ipI (f:Int->Int->Int):TIp:=fun x y H Q=>∃ i j,x = .int i/\y = .int j/\Q (.int (f i j)) H
theorem Za1:PIp X .Add (ipI fun i j=>i+j):=by intro pins s σ H x y v u Q I r1 r2 h;obtain ⟨i,j,e1,e2,q⟩:=h;subst e1;subst e2;obtain ⟨t,rfl⟩:=r1;obtain ⟨t',rfl⟩:=r2;exact iadd_int ⟨.int _,H,I.tok _,⟨_,rfl⟩,q⟩
end
section
variable {X:Cx} {pos:Pos}
def Zmm (c:TT) (tb:TS):TS:=fun D σ H=>∃ W:Nat->St->Hp->Prop,(∃ m,W m σ H)/\∀ m σ H,W m σ H ->
 c σ H fun b H1=>if b=true then ∃ N:St->Hp->Prop,(∀ σ' H',N σ' H' -> ∃ m',m' < m/\W m' σ' H')/\tb { D with nx:=N,ct:=N,bk:=D.nx } σ H1 else D.nx σ H1
theorem Zj7 {c:Expr} {body:List Stmt} {tc:TT} {tb:TS} (hp:PassesOwn (model X.prog X.w) X.A X.env X.xe) (hc:PT X c tc) (hb:PSs X body tb):PS X (.While c body [] pos) (Zmm tc tb):=by
 intro pins s σ H D I h;obtain ⟨W,⟨m0,w0⟩,turn⟩:=h;refine wpAny_While (codeAny_whileLoop (fun n s'=>∃ σ' H',Inv X pins σ' H' s' /\ W n σ' H') ?_ m0 ⟨σ,H,I,w0⟩)
 rintro n s1 ⟨σ1,H1,I1,w1⟩
 refine wpAny_passesOwn hp (thn (hc pins s1 σ1 H1 _ I1 (turn n σ1 H1 w1)) fun b s2 ⟨H2,I2,q2⟩=>?_);cases b with
 | true =>
  obtain ⟨N,hN,q2⟩:=q2;rw[if_pos rfl];refine wpAny_passesOwn hp (thn (hb pins s2 σ1 H2 _ I2 q2) fun f s3 q3=>?_);cases f with
  | next =>obtain ⟨σ3,H3,I3,n3⟩:=q3;obtain ⟨m',hm,w3⟩:=hN σ3 H3 n3;exact ⟨m',hm,σ3,H3,I3,w3⟩
  | cont =>obtain ⟨σ3,H3,I3,n3⟩:=q3;obtain ⟨m',hm,w3⟩:=hN σ3 H3 n3;exact ⟨m',hm,σ3,H3,I3,w3⟩
  | brk=>exact q3
  | ret v=>exact q3
 | false =>rw[if_neg Bool.false_ne_true];exact wpAny_execs_nil ⟨σ1,H2,I2,q2⟩
end
structure It where
 go:Nat->Hp->Prop
 yld:Nat->Hp->V->Hp->Prop
 stop:Nat->Hp->Prop
def Zei (X:Cx) (pins:List (Addr × Obj)) (H:Hp) (b:Addr):Prop:=
 H b=none/\b ≠ X.env.locals/\b ∉ X.fs/\(b ∈ X.ex\/X.s_0.heap.objs.size<=b)/\(∀ x c,X.env.cells.lookup x=some c->c ≠ b)/\∀ p ∈ X.pn++pins,p.1 ≠ b
theorem Inv.Zmn {X:Cx} {pins:List (Addr × Obj)} {σ:St} {H H':Hp} {s:Shared} {b:Addr} (I:Inv X pins σ H s) (hb:s.heap.objs.size<=b) (hn:H' b=none):Zei X pins H' b:=by
 refine ⟨hn,Nat.ne_of_gt (Nat.lt_of_lt_of_le I.lt hb),I.Zvt hb,.inr (Nat.le_trans I.sz hb),fun x c e z=>?_,fun p hp z=>?_⟩
 .obtain ⟨v,q⟩:=I.cell x c e;exact absurd (Nat.lt_of_lt_of_le q.lt (by rw[z];exact hb)) (Nat.lt_irrefl _)
 .exact absurd (Nat.lt_of_lt_of_le (Heap.lt_size (I.pin p hp).1) (by rw[z];exact hb)) (Nat.lt_irrefl _)
structure Turn (P:Program) (w:World) (K:FG) (tg:Expr) (J:It) (fp:List Addr) (it:Addr) (tn:Nat->Heap->Prop):Prop where
 mem:it ∈ fp
 obj:∀ i h,tn i h->∀ b ∈ fp,∃ o,h.get? b=some o/\∀ v,o.data ≠ .cell v
 keep:∀ i h h',tn i h->(∀ b ∈ fp,∀ o,h.get? b=some o->h'.get? b=some o)->tn i h'
 item:∀ (X:Cx),X.prog=P->X.w=w->X.K=K->X.calm=true->∀ (i:Nat) (pins:List (Addr × Obj)) (s:Shared) (σ:St) (H:Hp) (E:EPr),Inv X pins σ H s->(∀ b ∈ fp,Zei X pins H b)->tn i s.heap->J.go i H ->
  wpAny (model P w) X.A (pyNext (.ref it)) (fun r s1=>∃ u,r=some u /\
   wpAny (model P w) X.A (letOwnedTupleGo tg (.ref it) u) (fun _ s2=>∃ x H',Inv X pins σ H' s2/\RelV x u/\J.yld i H x H' /\ tn (i+1) s2.heap/\∀ b ∈ fp,H' b=none) E s1) E s
 done:∀ (X:Cx),X.prog=P->X.w=w->X.K=K->X.calm=true->∀ (i:Nat) (pins:List (Addr × Obj)) (s:Shared) (σ:St) (H:Hp) (E:EPr),Inv X pins σ H s->(∀ b ∈ fp,Zei X pins H b)->tn i s.heap->J.stop i H ->
  wpAny (model P w) X.A (pyNext (.ref it)) (fun r s1=>r=none/\Inv X pins σ H s1) E s
 self:∀ (A:Around) (i:Nat) (s:Shared) (Q:EPr) (E:EPr),tn i s.heap->Q (.ref it) s->wpAny (model P w) A (pyIter (.ref it)) Q E s
abbrev TI:=St->Hp->(It->Hp->Prop)->Prop
def PIE (X:Cx) (pins:List (Addr × Obj)) (σ:St) (tg:Expr) (R:It->Hp->Prop) (itv:Value) (s2:Shared):Prop:=
 ∃ (it:Addr) (fp:List Addr) (tn:Nat->Heap->Prop) (J:It) (H':Hp),itv = .ref it/\Inv X pins σ H' s2/\Turn X.prog X.w X.K tg J fp it tn/\tn 0 s2.heap/\(∀ b ∈ fp,Zei X pins H' b)/\R J H'
def PI (X:Cx) (tg iter:Expr) (wi:TI):Prop:=
 ∀ (pins:List (Addr × Obj)) (s:Shared) (σ:St) (H:Hp) (R:It->Hp->Prop),Inv X pins σ H s->wi σ H R ->
  wpAny (model X.prog X.w) X.A (eval iter X.env) (fun v s1=>wpAny (model X.prog X.w) X.A (pyIter v) (PIE X pins σ tg R) X.xe s1) X.xe s
theorem Znr {M:Model} {A:Around} {E:EPr} {s:Shared} {tg:Expr} {it:Addr} {u:Value} {o:Obj} {n:String} {vs:Array Value} {Q:Unit->Shared->Prop} (ho:s.heap.get? it=some o) (hc:o.cls = .type n) (hd:o.data = .fields vs)
  (hn:["enumerate","zip","dict_itemiterator","dict_reverseitemiterator","odict_iterator","itertools.zip_longest","itertools.pairwise"].contains n=false) (hQ:Q () s):wpAny M A (letOwnedTupleGo tg (.ref it) u) Q E s:=by
 unfold letOwnedTupleGo;cases tg <;> first
  | exact wpAny_pure hQ
  | (cases u <;> first
    | exact wpAny_pure hQ
    | (refine wpAny_bind (wpAny_load ho ?_)
       rw[hc,hd];show wpAny M A (if (["enumerate","zip","dict_itemiterator","dict_reverseitemiterator","odict_iterator","itertools.zip_longest","itertools.pairwise"].contains n&&vs[0]? == some (rawInt _))=true then _ else _) Q E s;rw[if_neg (by intro h;rw[hn,Bool.false_and]at h;cases h)]
       exact wpAny_pure hQ))
def Itl (K:FG) (a:Addr):It:=
 ⟨fun i H=>∃ xs x,SqL K H a xs/\xs[i]? = some x,fun i H x H'=>H' = H/\∀ xs,SqL K H a xs->xs[i]? = some x,fun i H=>∃ xs,SqL K H a xs/\xs.length<=i⟩
def Itr (lo:Int) (n:Nat):It:=⟨fun i _=>i < n,fun i H x H'=>H' = H/\x = .int (lo+i),fun i _=>n<=i⟩
theorem Zev {P:Program} {w:World} {K:FG} {tg:Expr} (a it:Addr):Turn P w K tg (Itl K a) [it] it (fun i h=>h.IsListIter it a i) where
 mem:=by simp
 obj:=fun i h st b hb=>by
  have e:b=it:=by simpa using hb
  subst e;obtain ⟨o,e,c,d⟩:=st;exact ⟨o,e,fun v z=>by rw[d]at z;cases z⟩
 keep:=fun i h h' st k=>st.at fun o e=>k it (by simp) o e
 item:=by
  intro X hP hw hK hc i pins s σ H E I hf st hg;subst hP hw hK;obtain ⟨xs,x,hq,hx⟩:=hg;obtain ⟨its,rv,p,hz⟩:=I.list hq;obtain ⟨u,hu,ru⟩:=rv.get hx;obtain ⟨f0,f1,f2,f3,f4,f5⟩:=hf it (by simp);refine wpAny_pyNext_list_item st p.isList (x:=u) (by simpa using hu) fun h' st' sb=>?_;have I1:Inv X pins σ H { s with heap:=h' }:=I.turned (t':=s.toks) (fun b o hb e=>(sb.2 b hb).trans e) f0 f1 f3 f4 f5
  obtain ⟨o,e,c,d⟩:=id st';exact ⟨u,rfl,Znr (s:={ s with heap:=h' }) e c d (by decide) ⟨x,H,I1,ru,⟨rfl,fun ys hy=>by rw[I.Qmm hy hq];exact hx⟩,st',fun b hb=>(hf b hb).1⟩⟩
 done:=by intro X hP hw hK hc i pins s σ H E I hf st hg;subst hP hw hK;obtain ⟨xs,hq,hx⟩:=hg;obtain ⟨its,rv,p,hz⟩:=I.list hq;obtain ⟨f0,f1,f2,f3,f4,f5⟩:=hf it (by simp);have hl:=rv.length;exact wpAny_pyNext_list_end (I.ok.hd hc) st p.isList (by simp;omega) fun h' eb=>⟨rfl,I.turned (t':=s.toks) (fun b o hb e=>eb b o hb e) f0 f1 f3 f4 f5⟩
 self:=fun _ _ _ _ _ st h=>wpAny_pyIter_listiter st h
theorem Zcj {P:Program} {w:World} {K:FG} {tg:Expr} (it:Addr) (lo:Int) (n:Nat):Turn P w K tg (Itr lo n) [it] it (fun i h=>IsRangeIter h it (lo+(i:Nat)*1) ((n:Int) - (i:Nat)) 1) where
 mem:=by simp
 obj:=fun i h st b hb=>by
  have e:b=it:=by simpa using hb
  subst e
  exact ⟨_,st,fun v z=>by
   have z':Data.fields _=Data.cell v:=z
   cases z'⟩
 keep:=fun i h h' st k=>k it (by simp) _ st
 item:=by
  intro X hP hw hK hc i pins s σ H E I hf st hg;subst hP hw hK;obtain ⟨f0,f1,f2,f3,f4,f5⟩:=hf it (by simp);have W:=Walks.range (prog:=X.prog) (w:=X.w) (I.ok.hd hc) it lo 1 n;refine W.item i s _ _ hg st fun v h' tk hv st' kk=>?_;obtain ⟨t,rfl⟩:=hv;have I1:Inv X pins σ H { s with heap:=h',toks:=tk }:=I.turned (fun b o hb e=>kk b o (by simpa using hb) e) f0 f1 f3 f4 f5
  refine ⟨_,rfl,Znr (s:={ s with heap:=h',toks:=tk }) (n := "range_iterator") st' rfl rfl (by decide) ⟨.int (lo+i),H,I1,⟨t,?_⟩,⟨rfl,rfl⟩,st',fun b hb=>(hf b hb).1⟩⟩;rw[Int.mul_one]
 done:=by intro X hP hw hK hc i pins s σ H E I hf st hg;subst hP hw hK;obtain ⟨f0,f1,f2,f3,f4,f5⟩:=hf it (by simp);exact wpAny_pyNext_range_end (I.ok.hd hc) st (by have:n<=i:=hg;omega) fun h' eb=>⟨rfl,I.turned (t':=s.toks) (fun b o hb e=>eb b o hb e) f0 f1 f3 f4 f5⟩
 self:=fun _ _ _ _ _ st h=>wpAny_pyIter_rangeiter st h
end L2
namespace L2
open PySem PySem.Spec PyProof.Rows
section
variable {X:Cx} {tg:Expr}
def Zqy (K:FG) (tl:TE):TI:=fun σ H R=>tl σ H fun x H1=>∃ a,x = .ref a/\(∃ xs,SqL K H1 a xs)/\R (Itl K a) H1
theorem Jq {l:Expr} {tl:TE} (hl:PE X l tl):PI X tg l (Zqy X.K tl):=by
 intro pins s σ H R I h;refine thn (hl pins s σ H _ I h) fun v s1 ⟨x,H1,I1,r1,q1⟩=>?_;obtain ⟨a,e,⟨xs,hq⟩,q⟩:=q1;subst e;cases r1;obtain ⟨its,rv,p,hz⟩:=I1.list hq;refine wpAny_pyIter_list p.isList ?_;refine ⟨s1.heap.objs.size,[s1.heap.objs.size],_,_,H1,rfl,I1.kept (t':=s1.toks) fun b o e=>Heap.get?_push_of_some _ e,Zev a _,⟨_,Heap.get?_push_size _ rfl,rfl,rfl⟩,fun b hb=>?_,q⟩;have e:b=s1.heap.objs.size:=by simpa using hb
 subst e;exact I1.Zmn (Nat.le_refl _) (I1.hok.fresh (Nat.le_refl _))
theorem Zj8 {pins:List (Addr × Obj)} {σ:St} {H:Hp} {s:Shared} {R:It->Hp->Prop} {E:EPr} {lo hi:Int} {t u v:Tok} {tk:Nat} (I:Inv X pins σ H s) (h1 : -(2 ^ 62)<=lo) (h2:lo < 2 ^ 62) (h3 : -(2 ^ 62)<=hi) (h4:hi < 2 ^ 62)
  (q:R (Itr lo (hi - lo).toNat) H):wpAny (model X.prog X.w) X.A (pyIter (.ref s.heap.objs.size)) (PIE X pins σ tg R) E { s with heap:=s.heap.push { cls:=.type "range",data:=.fields #[.int lo t,.int hi u,.int 1 v] },toks:=tk }:=by
 refine wpAny_pyIter_range (IsRange.new ..) (small_one h1 h2 h3 h4) ?_;have I1:Inv X pins σ H { s with heap:=s.heap.push { cls:=.type "range",data:=.fields #[.int lo t,.int hi u,.int 1 v] },toks:=tk }:=I.kept fun b o e=>Heap.get?_push_of_some _ e
 refine ⟨(s.heap.push { cls:=.type "range",data:=.fields #[.int lo t,.int hi u,.int 1 v] }).objs.size,[(s.heap.push { cls:=.type "range",data:=.fields #[.int lo t,.int hi u,.int 1 v] }).objs.size],_,_,H,rfl,
  I1.kept (t':=tk) fun b o e=>Heap.get?_push_of_some _ e,Zcj _ lo (hi - lo).toNat,?_,fun b hb=>?_,q⟩
 .have e1:lo+((0:Nat):Int)*1=lo:=by simp
  have e2:(((hi - lo).toNat:Nat):Int) - ((0:Nat):Int)=Builtin.Range.rangeSize lo hi 1:=by rw[rangeSize_one];split <;> omega
  show IsRangeIter _ _ (lo+((0:Nat):Int)*1) ((((hi - lo).toNat:Nat):Int) - ((0:Nat):Int)) 1;rw[e1,e2];exact Heap.get?_push_size _ rfl
 .have e:b=(s.heap.push { cls:=.type "range",data:=.fields #[.int lo t,.int hi u,.int 1 v] }).objs.size:=by simpa using hb
  subst e;exact I1.Zmn (Nat.le_refl _) (I1.hok.fresh (Nat.le_refl _))
def Zth (ta:TA):TI:=fun σ H R=>ta σ H fun vs H1=>∃ j:Int,vs=[.int j] /\ -(2 ^ 62)<=j/\j < 2 ^ 62/\R (Itr 0 j.toNat) H1
theorem Zew {a:Expr} {ta:TA} {p pos:Pos} (hg:Gl X "range") (hm:X.mg "range" = none) (ha:PA X [a] ta) (hs:starEach [a] X.env=[(false,eval a X.env)]:=by rfl):PI X tg (.Call (.Name "range" p) [a] [] pos) (Zth ta):=by
 intro pins s σ H R I h;refine Call_ (Qmu I hg hm boot_range (PyProof.Rows.callWith_type1 (thn (ha pos pins s σ H _ I h) fun us s1 ⟨vs,H1,I1,r1,q1⟩=>?_) hs rfl));obtain ⟨j,e,q1,q2,q⟩:=q1;subst e;cases r1 with
 | cons r rr =>cases rr;obtain ⟨t,rfl⟩:=r;exact call_range_1 (Zj8 I1 (by omega) (by omega) q1 q2 (by simpa using q))
def Zux (wi:TI) (g:TG) (tb:TS):TS:=fun D σ H=>wi σ H fun J H1=>∃ W:Nat->Nat->St->Hp->Prop,(∃ m,W 0 m σ H1)/\∀ i m σ H,W i m σ H ->
 (J.stop i H/\D.nx σ H)\/(J.go i H/\∃ N:St->Hp->Prop,(∀ σ' H',N σ' H' -> ∃ m',m' < m/\W (i+1) m' σ' H')/\∀ x H',J.yld i H x H' -> g x σ H' fun σ2 H2=>tb { D with nx:=N,ct:=N,bk:=D.nx } σ2 H2)
def Qt2 (fp:List Addr) (h:Heap):List (Addr × Obj):=fp.filterMap fun b=>(h.get? b).map fun o=>(b,o)
theorem Qkj {fp:List Addr} {h:Heap} {b:Addr} {o:Obj} (hb:b ∈ fp) (e:h.get? b=some o):(b,o) ∈ Qt2 fp h:=List.mem_filterMap.mpr ⟨b,hb,by rw[e];rfl⟩
theorem Zex {fp:List Addr} {h:Heap} {p:Addr × Obj} (hp:p ∈ Qt2 fp h):p.1 ∈ fp/\h.get? p.1=some p.2:=by
 obtain ⟨b,hb,e⟩:=List.mem_filterMap.mp hp;cases q:h.get? b with
 | none=>rw[q]at e;cases e
 | some o =>rw[q]at e;have e':(b,o)=p:=Option.some.inj e;subst e';exact ⟨hb,q⟩
theorem Inv.pinned {pins:List (Addr × Obj)} {σ:St} {H:Hp} {s:Shared} {fp:List Addr} (I:Inv X pins σ H s) (hf:∀ b ∈ fp,Zei X pins H b) (ho:∀ b ∈ fp,∃ o,s.heap.get? b=some o/\∀ v,o.data ≠ .cell v):Inv X (pins++Qt2 fp s.heap) σ H s:=
 I.Zep fun p hp=>(List.mem_append.mp hp).elim (fun z=>I.pin p (List.mem_append_right _ z)) fun z=>by
  obtain ⟨hb,e⟩:=Zex z;obtain ⟨f0,f1,f2,_⟩:=hf p.1 hb;obtain ⟨o,e',d⟩:=ho p.1 hb;rw[e]at e';cases e';exact ⟨e,f0,f1,f2,d⟩
theorem Inv.Qmn {pins pl:List (Addr × Obj)} {σ:St} {H:Hp} {s:Shared} (I:Inv X (pins++pl) σ H s):Inv X pins σ H s:=I.Zep fun p hp=>I.pin p (List.mem_append_right _ (List.mem_append_left _ hp))
theorem Qav {iter:Expr} {body:List Stmt} {wi:TI} {g:TG} {tb:TS} {pos:Pos} (hp:PassesOwn (model X.prog X.w) X.A X.env X.xe) (hc:X.calm=true) (hi:PI X tg iter wi) (hg:PG X tg g) (hb:PSs X body tb)
  (hs:∀ x,foldedSetIterable iter X.env x=pure x:=by intro _;rfl):PS X (.For tg iter body [] pos) (Zux wi g tb):=by
 intro pins s σ H D I h;refine wpAny_For (thn (hi pins s σ H _ I h) fun v s1 h1=>thn h1 fun itv s2 h2=>?_) hs;obtain ⟨it,fp,tn,J,H2,e,I2,T,st2,f2,W,⟨m0,w0⟩,turn⟩:=h2;subst e;have Zns:∀ {H':Hp},(∀ b ∈ fp,H' b=none)->∀ b ∈ fp,Zei X pins H' b:=fun hn b hb=>⟨hn b hb,(f2 b hb).2⟩
 refine codeAny_forLoop_any (fun n s'=>∃ i σ' H',Inv X pins σ' H' s' /\ tn i s'.heap/\(∀ b ∈ fp,H' b=none)/\W i n σ' H') ?_ m0 ⟨0,σ,H2,I2,st2,fun b hb=>(f2 b hb).1,w0⟩
 rintro n s3 ⟨i,σ3,H3,I3,st3,fr3,w3⟩
 rcases turn i n σ3 H3 w3 with ⟨stop,qn⟩ | ⟨go,N,hN,step⟩
 .refine wpAny_passesOwn hp (thn (T.done X rfl rfl rfl hc i pins s3 σ3 H3 X.xe I3 (Zns fr3) st3 stop) fun r s4 ⟨hr,I4⟩=>?_);subst hr;exact wpAny_execs_nil ⟨σ3,H3,I4,qn⟩
 .refine wpAny_passesOwn hp (thn (T.item X rfl rfl rfl hc i pins s3 σ3 H3 X.xe I3 (Zns fr3) st3 go) fun r s4 ⟨u,hr,h4⟩=>?_);subst hr;refine wpAny_passesOwn hp (thn h4 fun _ s5 ⟨x,H5,I5,r5,y5,st5,fr5⟩=>?_);have I5':=I5.pinned (Zns fr5) (T.obj _ _ st5);refine wpAny_passesOwn hp (thn (hg _ s5 σ3 H5 x u _ I5' r5 (step x H5 y5)) fun _ s6 ⟨σ6,H6,I6,q6⟩=>?_);refine wpAny_passesOwn hp (thn (hb _ s6 σ6 H6 _ I6 q6) fun f s7 q7=>?_);have again:∀ {σ7:St} {H7:Hp},Inv X (pins++Qt2 fp s5.heap) σ7 H7 s7->N σ7 H7->∃ m,m < n/\∃ i σ' H',Inv X pins σ' H' s7/\tn i s7.heap/\(∀ b ∈ fp,H' b=none)/\W i m σ' H':=fun {σ7 H7} I7 n7=>by
   obtain ⟨m',hm,w7⟩:=hN σ7 H7 n7;refine ⟨m',hm,i+1,σ7,H7,I7.Qmn,T.keep _ _ _ st5 fun b hb o e=>(I7.pin (b,o) (List.mem_append_right _ (List.mem_append_right _ (Qkj hb e)))).1,fun b hb=>?_,w7⟩;obtain ⟨o,e,d⟩:=T.obj _ _ st5 b hb;exact (I7.pin (b,o) (List.mem_append_right _ (List.mem_append_right _ (Qkj hb e)))).2.1
  cases f with
  | next=>obtain ⟨σ7,H7,I7,n7⟩:=q7;exact again I7 n7
  | cont=>obtain ⟨σ7,H7,I7,n7⟩:=q7;exact again I7 n7
  | brk=>obtain ⟨σ7,H7,I7,q7⟩:=q7;exact ⟨σ7,H7,I7.Qmn,q7⟩
  | ret v=>obtain ⟨x7,σ7,H7,I7,r7,q7⟩:=q7;exact ⟨x7,σ7,H7,I7.Qmn,r7,q7⟩
end
theorem Jm {K:FG} {a:Addr} {xs:List V} {g:TG} {tb:TS} {D:Ends} {σ:St} {H:Hp} (Pv:Nat->St->Hp->Prop) (h0:Pv 0 σ H) (hl:∀ i σ H,i<=xs.length->Pv i σ H->SqL K H a xs)
  (hs:∀ i x σ H,xs[i]? = some x->Pv i σ H->g x σ H fun σ2 H2=>tb { D with nx:=Pv (i+1),ct:=Pv (i+1),bk:=D.nx } σ2 H2) (hd:∀ σ H,Pv xs.length σ H->D.nx σ H) :
  ∃ W:Nat->Nat->St->Hp->Prop,(∃ m,W 0 m σ H)/\∀ i m σ H,W i m σ H ->
   ((Itl K a).stop i H/\D.nx σ H)\/((Itl K a).go i H/\∃ N:St->Hp->Prop,(∀ σ' H',N σ' H' -> ∃ m',m' < m/\W (i+1) m' σ' H')/\∀ x H',(Itl K a).yld i H x H' -> g x σ H' fun σ2 H2=>tb { D with nx:=N,ct:=N,bk:=D.nx } σ2 H2):=by
 refine ⟨fun i m σ H=>m=xs.length - i/\i<=xs.length/\Pv i σ H,⟨xs.length,by simp,Nat.zero_le _,h0⟩,?_⟩
 rintro i m σ H ⟨rfl,hi,p⟩
 have q:=hl i σ H hi p;by_cases hlt:i < xs.length
 .refine .inr ⟨⟨xs,xs[i],q,by simp[hlt]⟩,Pv (i+1),fun σ' H' p'=>⟨xs.length - (i+1),by omega,rfl,hlt,p'⟩,fun x H' y=>?_⟩;obtain ⟨e,y⟩:=y;subst e;exact hs i x σ _ (y xs q) p
 .have e:i=xs.length:=by omega
  subst e;exact .inl ⟨⟨xs,q,Nat.le_refl _⟩,hd σ H p⟩
theorem Zey {lo:Int} {n:Nat} {g:TG} {tb:TS} {D:Ends} {σ:St} {H:Hp} (Pv:Nat->St->Hp->Prop) (h0:Pv 0 σ H)
  (hs:∀ i σ H,i < n->Pv i σ H->g (.int (lo+i)) σ H fun σ2 H2=>tb { D with nx:=Pv (i+1),ct:=Pv (i+1),bk:=D.nx } σ2 H2) (hd:∀ σ H,Pv n σ H->D.nx σ H) :
  ∃ W:Nat->Nat->St->Hp->Prop,(∃ m,W 0 m σ H)/\∀ i m σ H,W i m σ H ->
   ((Itr lo n).stop i H/\D.nx σ H)\/((Itr lo n).go i H/\∃ N:St->Hp->Prop,(∀ σ' H',N σ' H' -> ∃ m',m' < m/\W (i+1) m' σ' H')/\∀ x H',(Itr lo n).yld i H x H' -> g x σ H' fun σ2 H2=>tb { D with nx:=N,ct:=N,bk:=D.nx } σ2 H2):=by
 refine ⟨fun i m σ H=>m=n - i/\i<=n/\Pv i σ H,⟨n,by simp,Nat.zero_le _,h0⟩,?_⟩
 rintro i m σ H ⟨rfl,hi,p⟩
 by_cases hlt:i < n
 .refine .inr ⟨hlt,Pv (i+1),fun σ' H' p'=>⟨n - (i+1),by omega,rfl,hlt,p'⟩,fun x H' y=>?_⟩;obtain ⟨e,y⟩:=y;subst e y;exact hs i σ _ hlt p
 .have e:i=n:=by omega
  subst e;exact .inl ⟨Nat.le_refl _,hd σ H p⟩
theorem Zj9 {c:TT} {tb:TS} {D:Ends} {σ:St} {H:Hp} (Pv:St->Hp->Prop) (μ:St->Hp->Nat) (h0:Pv σ H)
  (hs:∀ σ H,Pv σ H->c σ H fun b H1=>if b=true then tb { D with nx:=fun σ' H'=>Pv σ' H' /\ μ σ' H' < μ σ H,ct:=fun σ' H'=>Pv σ' H' /\ μ σ' H' < μ σ H,bk:=D.nx } σ H1 else D.nx σ H1)
  (mono:∀ σ H Q Q',(∀ b H1,Q b H1->Q' b H1)->c σ H Q->c σ H Q'):Zmm c tb D σ H:=by
 refine ⟨fun m σ H=>m=μ σ H/\Pv σ H,⟨_,rfl,h0⟩,?_⟩
 rintro m σ H ⟨rfl,p⟩
 refine mono σ H _ _ (fun b H1 q=>?_) (hs σ H p);cases b with
 | true=>exact ⟨_,fun σ' H' ⟨p',l⟩=>⟨_,l,rfl,p'⟩,q⟩
 | false=>exact q
end L2
namespace L2
open PySem PySem.Spec PyProof.Rows
abbrev R2:=V->V->Hp->VK->Prop
def OpR (X:Cx) (f:Value->Value->Sem Value) (r:R2):Prop:=
 ∀ (pins:List (Addr × Obj)) (s:Shared) (σ:St) (H:Hp) (x y:V) (v u:Value) (Q:VK),Inv X pins σ H s->RelV x v->RelV y u->r x y H Q ->
  wpAny (model X.prog X.w) X.A (f v u) (EP X pins σ Q) X.xe s
def UnR (X:Cx) (f:Value->Sem Value) (r:V->Hp->VK->Prop):Prop:=
 ∀ (pins:List (Addr × Obj)) (s:Shared) (σ:St) (H:Hp) (x:V) (v:Value) (Q:VK),Inv X pins σ H s->RelV x v->r x H Q ->
  wpAny (model X.prog X.w) X.A (f v) (EP X pins σ Q) X.xe s
def Qpi (X:Cx) (f:Value) (r:List V->Hp->VK->Prop):Prop:=
 ∀ (pins:List (Addr × Obj)) (s:Shared) (σ:St) (H:Hp) (xs:List V) (us:List Value) (Q:VK),Inv X pins σ H s->Vals xs us->r xs H Q ->
  wpAny (model X.prog X.w) X.A (call f us) (EP X pins σ Q) X.xe s
def tOp (r:R2) (ta tb:TE):TE:=fun σ H Q=>ta σ H fun x H1=>tb σ H1 fun y H2=>r x y H2 Q
def tUn (r:V->Hp->VK->Prop) (ta:TE):TE:=fun σ H Q=>ta σ H fun x H1=>r x H1 Q
def rI (C:Int->Int->Prop) (g:Int->Int->V):R2:=fun x y H Q=>∃ i j,x = .int i/\y = .int j/\C i j/\Q (g i j) H
def rI0 (g:Int->Int->V):R2:=fun x y H Q=>∃ i j,x = .int i/\y = .int j/\Q (g i j) H
def rU (g:Int->V):V->Hp->VK->Prop:=fun x H Q=>∃ i,x = .int i/\Q (g i) H
section
variable {X:Cx} {a b c:Expr} {ta tb tc:TE} {pos:Pos}
theorem Zti (ha:PE X a ta) (hb:PE X b tb) {pins:List (Addr × Obj)} {s:Shared} {σ:St} {H:Hp} {R:V->V->Hp->Prop} (I:Inv X pins σ H s)
  (h:ta σ H fun x H1=>tb σ H1 fun y H2=>R x y H2) {Q:EPr} {f:Value->Value->Sem Value}
  (hf:∀ v u s2 x y H2,Inv X pins σ H2 s2->RelV x v->RelV y u->R x y H2->wpAny (model X.prog X.w) X.A (f v u) Q X.xe s2) :
  wpAny (model X.prog X.w) X.A (eval a X.env) (fun v s₁=>wpAny (model X.prog X.w) X.A (eval b X.env) (fun u s₂=>wpAny (model X.prog X.w) X.A (f v u) Q X.xe s₂) X.xe s₁) X.xe s:=by
 refine thn (ha pins s σ H _ I h) fun v s1 ⟨x,H1,I1,r1,q1⟩=>?_;refine thn (hb pins s1 σ H1 _ I1 q1) fun u s2 ⟨y,H2,I2,r2,q2⟩=>?_;exact hf v u s2 x y H2 I2 r1 r2 q2
theorem Zq {op:Operator} {r:R2} (ho:OpR X (binaryOp op) r) (ha:PE X a ta) (hb:PE X b tb):PE X (.BinOp a op b pos) (tOp r ta tb):=by intro pins s σ H Q I h;exact wpAny_BinOp (Zti ha hb I h fun v u s2 x y H2 I2 rx ry q=>ho pins s2 σ H2 x y v u Q I2 rx ry q)
theorem Qkk {op:UnaryOp} {r:V->Hp->VK->Prop} (ho:UnR X (unaryOp op) r) (ha:PE X a ta):PE X (.UnaryOp op a pos) (tUn r ta):=by intro pins s σ H Q I h;exact UnaryOp_ (thn (ha pins s σ H _ I h) fun v s1 ⟨x,H1,I1,r1,q1⟩=>ho pins s1 σ H1 x v Q I1 r1 q1)
theorem opI {f:Value->Value->Sem Value} {C:Int->Int->Prop} {g:Int->Int->Int}
  (rule:∀ (i j:Int) (t u:Tok) (s:Shared) (Q:EPr) (E:EPr),C i j->Q (.int (g i j) s.toks) { s with toks:=s.toks+1 }->wpAny (model X.prog X.w) X.A (f (.int i t) (.int j u)) Q E s) :
  OpR X f (rI C fun i j=>.int (g i j)):=by
 intro pins s σ H x y v u Q I rx ry h;obtain ⟨i,j,rfl,rfl,hc,q⟩:=h;obtain ⟨t,rfl⟩:=rx;obtain ⟨t',rfl⟩:=ry;exact rule i j t t' s _ _ hc ⟨.int (g i j),H,I.tok _,⟨_,rfl⟩,q⟩
theorem Zuy {f:Value->Value->Sem Value} {g:Int->Int->Int}
  (rule:∀ (i j:Int) (t u:Tok) (s:Shared) (Q:EPr) (E:EPr),Q (.int (g i j) s.toks) { s with toks:=s.toks+1 }->wpAny (model X.prog X.w) X.A (f (.int i t) (.int j u)) Q E s) :
  OpR X f (rI0 fun i j=>.int (g i j)):=by
 intro pins s σ H x y v u Q I rx ry h;obtain ⟨i,j,rfl,rfl,q⟩:=h;obtain ⟨t,rfl⟩:=rx;obtain ⟨t',rfl⟩:=ry;exact rule i j t t' s _ _ ⟨.int (g i j),H,I.tok _,⟨_,rfl⟩,q⟩
theorem Zs2 {f:Value->Value->Sem Value} {g:Int->Int->Bool}
  (rule:∀ (i j:Int) (t u:Tok) (s:Shared) (Q:EPr) (E:EPr),Q (.bool (g i j)) s->wpAny (model X.prog X.w) X.A (f (.int i t) (.int j u)) Q E s) :
  OpR X f (rI0 fun i j=>.bl (g i j)):=by
 intro pins s σ H x y v u Q I rx ry h;obtain ⟨i,j,rfl,rfl,q⟩:=h;obtain ⟨t,rfl⟩:=rx;obtain ⟨t',rfl⟩:=ry;exact rule i j t t' s _ _ ⟨.bl (g i j),H,I,rfl,q⟩
def Zv0 (i j:Int):Prop:=0 < j/\j < 1073741824
def Zs3 (i j:Int):Prop:=(-(2 ^ 64) < i/\i < 2 ^ 64)\/(-(2 ^ 64) < j/\j < 2 ^ 64)
theorem Zs3.ok {i j:Int} (h:Zs3 i j):IntMulOk i j:=by
 rcases h with ⟨h1,h2⟩ | ⟨h1,h2⟩
 .exact .of_left (intBits_le_64 h1 h2)
 .exact .of_right (intBits_le_64 h1 h2)
theorem Qa1:OpR X (binaryOp .Add) (rI0 fun i j=>.int (i+j)):=Zuy fun _ _ _ _ _ _ _ q=>add_int q
theorem Qaw:OpR X (binaryOp .Sub) (rI0 fun i j=>.int (i - j)):=Zuy fun _ _ _ _ _ _ _ q=>sub_int q
theorem Zqz:OpR X (binaryOp .Mult) (rI Zs3 fun i j=>.int (i*j)):=opI fun _ _ _ _ _ _ _ hc q=>mul_int q hc.ok
theorem Zez:OpR X (binaryOp .FloorDiv) (rI Zv0 fun i j=>.int (i / j)):=opI fun i j _ _ _ _ _ hc q=>by
 have h1:(0:Int) < j:=hc.1;have h2:j < 1073741824:=hc.2;exact floordiv_int (by omega) (by rw[Int.fdiv_eq_ediv_of_nonneg i (by omega)];exact q) (.inl (PyProof.noPylong_small (by omega)))
theorem Zmo:OpR X (binaryOp .Mod) (rI (fun _ j=>0 < j) fun i j=>.int (i % j)):=opI fun i j _ _ _ _ _ hc q=>by
 have h1:(0:Int) < j:=hc;exact mod_int' (by omega) (by rw[Int.fmod_eq_emod_of_nonneg i (by omega)];exact q)
theorem unI {f:Value->Sem Value} {g:Int->Int}
  (rule:∀ (i:Int) (t:Tok) (s:Shared) (Q:EPr) (E:EPr),Q (.int (g i) s.toks) { s with toks:=s.toks+1 }->wpAny (model X.prog X.w) X.A (f (.int i t)) Q E s) :
  UnR X f (rU fun i=>.int (g i)):=by
 intro pins s σ H x v Q I rx h;obtain ⟨i,rfl,q⟩:=h;obtain ⟨t,rfl⟩:=rx;exact rule i t s _ _ ⟨.int (g i),H,I.tok _,⟨_,rfl⟩,q⟩
theorem Qem:UnR X (unaryOp .USub) (rU fun i=>.int (-i)):=unI fun _ _ _ _ _ q=>neg_int q
end
def Zuz:V->V->Bool
 | .non,.non=>true | .non,.int _=>true | .int _,.non=>true | .non,.bl _=>true | .bl _,.non=>true | .non,.str _=>true | .str _,.non=>true
 | .int _,.int _=>true | .bl _,.bl _=>true | .str _,.str _=>true | .byt _,.byt _=>true
 | .int _,.str _=>true | .str _,.int _=>true | .bl _,.str _=>true | .str _,.bl _=>true
 | _,_=>false
def rEq:R2:=fun x y H Q=>Zuz x y=true/\Q (.bl (decide (x=y))) H
def rNe:R2:=fun x y H Q=>Zuz x y=true/\Q (.bl (!decide (x=y))) H
theorem Ze0 {i j:Int}:decide (V.int i=V.int j)=(i == j):=by rw[Bool.eq_iff_iff];simp
theorem Zmp {i j:Bool}:decide (V.bl i=V.bl j)=(i == j):=by rw[Bool.eq_iff_iff];simp
theorem Ze1 {i j:Str}:decide (V.str i=V.str j)=(i == j):=by rw[Bool.eq_iff_iff];simp
theorem Ze2 {i j:Array UInt8}:decide (V.byt i=V.byt j)=(i.toList == j.toList):=by rw[Bool.eq_iff_iff];cases i;cases j;simp
section
variable {X:Cx} {a b c:Expr} {ta tb tc:TE} {pos:Pos}
theorem Yi {pins:List (Addr × Obj)} {σ:St} {H:Hp} {s:Shared} {Q:VK} {k k':Bool} (I:Inv X pins σ H s) (q:Q (.bl k) H) (e:k=k'):EP X pins σ Q (.bool k') s:=by subst e;exact ⟨.bl k,H,I,rfl,q⟩
theorem Yc:OpR X (compareOp .Eq) rEq:=by
 intro pins s σ H x y v u Q I rx ry h;obtain ⟨hs,q⟩:=h;cases x with
 | non =>
  cases rx;cases y with
  | non=>cases ry;exact PySem.EqNone.eq_none_none (Yi I q (by simp))
  | bl j=>cases ry;exact PySem.EqNone.eq_none_bool (Yi I q (by simp))
  | int j=>obtain ⟨t',rfl⟩:=ry;exact PySem.EqNone.eq_none_int (Yi I q (by simp))
  | str j=>obtain ⟨t',rfl⟩:=ry;exact PySem.EqNone.eq_none_str (Yi I q (by simp))
  | _=>exact absurd (show false=true from hs) Bool.false_ne_true
 | bl i =>
  cases rx;cases y with
  | non=>cases ry;exact PySem.EqNone.eq_bool_none (Yi I q (by simp))
  | bl j=>cases ry;exact eq_bool (Yi I q Zmp)
  | str j=>obtain ⟨t',rfl⟩:=ry;exact PySem.EqMixed.eq_bool_str (Yi I q (by simp))
  | _=>exact absurd (show false=true from hs) Bool.false_ne_true
 | int i =>
  obtain ⟨t,rfl⟩:=rx;cases y with
  | non=>cases ry;exact PySem.EqNone.eq_int_none (Yi I q (by simp))
  | int j=>obtain ⟨t',rfl⟩:=ry;exact eq_int (Yi I q Ze0)
  | str j=>obtain ⟨t',rfl⟩:=ry;exact PySem.EqMixed.eq_int_str (Yi I q (by simp))
  | _=>exact absurd (show false=true from hs) Bool.false_ne_true
 | str i =>
  obtain ⟨t,rfl⟩:=rx;cases y with
  | non=>cases ry;exact PySem.EqNone.eq_str_none (Yi I q (by simp))
  | bl j=>cases ry;exact PySem.EqMixed.eq_str_bool (Yi I q (by simp))
  | int j=>obtain ⟨t',rfl⟩:=ry;exact PySem.EqMixed.eq_str_int (Yi I q (by simp))
  | str j=>obtain ⟨t',rfl⟩:=ry;exact eq_str (Yi I q Ze1)
  | _=>exact absurd (show false=true from hs) Bool.false_ne_true
 | byt i =>
  obtain ⟨t,rfl⟩:=rx;cases y with
  | byt j=>obtain ⟨t',rfl⟩:=ry;exact PySem.W.eq_bytes (Yi I q Ze2)
  | _=>exact absurd (show false=true from hs) Bool.false_ne_true
 | _=>cases y <;> exact absurd (show false=true from hs) Bool.false_ne_true
theorem Qpj:OpR X (compareOp .NotEq) rNe:=by
 intro pins s σ H x y v u Q I rx ry h;obtain ⟨hs,q⟩:=h;cases x with
 | non =>
  cases rx;cases y with
  | non=>cases ry;exact PySem.EqNone.ne_none_none (Yi I q (by simp))
  | bl j=>cases ry;exact PySem.EqNone.ne_none_bool (Yi I q (by simp))
  | int j=>obtain ⟨t',rfl⟩:=ry;exact PySem.EqNone.ne_none_int (Yi I q (by simp))
  | str j=>obtain ⟨t',rfl⟩:=ry;exact PySem.EqNone.ne_none_str (Yi I q (by simp))
  | _=>exact absurd (show false=true from hs) Bool.false_ne_true
 | bl i =>
  cases rx;cases y with
  | non=>cases ry;exact PySem.EqNone.ne_bool_none (Yi I q (by simp))
  | bl j=>cases ry;exact ne_bool (Yi I q (congrArg not Zmp))
  | str j=>obtain ⟨t',rfl⟩:=ry;exact PySem.EqMixed.ne_bool_str (Yi I q (by simp))
  | _=>exact absurd (show false=true from hs) Bool.false_ne_true
 | int i =>
  obtain ⟨t,rfl⟩:=rx;cases y with
  | non=>cases ry;exact PySem.EqNone.ne_int_none (Yi I q (by simp))
  | int j=>obtain ⟨t',rfl⟩:=ry;exact ne_int (Yi I q (congrArg not Ze0))
  | str j=>obtain ⟨t',rfl⟩:=ry;exact PySem.EqMixed.ne_int_str (Yi I q (by simp))
  | _=>exact absurd (show false=true from hs) Bool.false_ne_true
 | str i =>
  obtain ⟨t,rfl⟩:=rx;cases y with
  | non=>cases ry;exact PySem.EqNone.ne_str_none (Yi I q (by simp))
  | bl j=>cases ry;exact PySem.EqMixed.ne_str_bool (Yi I q (by simp))
  | int j=>obtain ⟨t',rfl⟩:=ry;exact PySem.EqMixed.ne_str_int (Yi I q (by simp))
  | str j=>obtain ⟨t',rfl⟩:=ry;exact ne_str (Yi I q (congrArg not Ze1))
  | _=>exact absurd (show false=true from hs) Bool.false_ne_true
 | byt i =>
  obtain ⟨t,rfl⟩:=rx;cases y with
  | byt j=>obtain ⟨t',rfl⟩:=ry;exact PySem.W.ne_bytes (Yi I q (congrArg not Ze2))
  | _=>exact absurd (show false=true from hs) Bool.false_ne_true
 | _=>cases y <;> exact absurd (show false=true from hs) Bool.false_ne_true
theorem Qh0:OpR X (compareOp .Lt) (rI0 fun i j=>.bl (decide (i < j))):=Zs2 fun _ _ _ _ _ _ _ q=>lt_int q
theorem Zq0:OpR X (compareOp .LtE) (rI0 fun i j=>.bl (decide (i<=j))):=Zs2 fun _ _ _ _ _ _ _ q=>le_int q
theorem Qd3:OpR X (compareOp .Gt) (rI0 fun i j=>.bl (decide (j < i))):=Zs2 fun _ _ _ _ _ _ _ q=>gt_int q
theorem Qrr:OpR X (compareOp .GtE) (rI0 fun i j=>.bl (decide (j<=i))):=Zs2 fun _ _ _ _ _ _ _ q=>ge_int q
theorem Zmq:OpR X (compareOp .Is) (fun x y H Q=>y = .non/\Q (.bl (decide (x = .non))) H):=by
 intro pins s σ H x y v u Q I rx ry h;obtain ⟨rfl,q⟩:=h;cases ry;refine is_none_gen (Yi I q ?_);cases x <;> first
  | (cases rx;rfl)
  | (obtain ⟨t,rfl⟩:=rx;rfl)
theorem Znt:OpR X (compareOp .IsNot) (fun x y H Q=>y = .non/\Q (.bl (!decide (x = .non))) H):=by
 intro pins s σ H x y v u Q I rx ry h;obtain ⟨rfl,q⟩:=h;cases ry;refine isnot_none_gen (Yi I q ?_);cases x <;> first
  | (cases rx;rfl)
  | (obtain ⟨t,rfl⟩:=rx;rfl)
theorem Qq (b:Expr) {op:CmpOp} (h:op ≠ .In:=by decide) (h2:op ≠ .NotIn:=by decide):behindInMarks op b=false:=by
 have e1:(op == CmpOp.In)=false:=by cases op <;> first | rfl | exact absurd rfl h
 have e2:(op == CmpOp.NotIn)=false:=by cases op <;> first | rfl | exact absurd rfl h2
 cases b <;> simp[behindInMarks,e1,e2]
theorem Yg {op:CmpOp} {r:R2} (ho:OpR X (compareOp op) r) (ha:PE X a ta) (hb:PE X b tb) (hm:behindInMarks op b=false):PE X (.Compare a [op] [b] pos) (tOp r ta tb):=by intro pins s σ H Q I h;exact wpAny_Compare1 (Zti ha hb I h fun v u s2 x y H2 I2 rx ry q=>ho pins s2 σ H2 x y v u Q I2 rx ry q) hm
def Ze3 (t:TE):TT:=fun σ H Q=>t σ H fun x H'=>∃ k,x = .bl k/\Q k H'
theorem Qo {op:CmpOp} {r:R2} (ho:OpR X (compareOp op) r) (ha:PE X a ta) (hb:PE X b tb) (hm:behindInMarks op b=false):PT X (.Compare a [op] [b] pos) (Ze3 (tOp r ta tb)):=by
 intro pins s σ H Q I h
 refine wpAny_isTrue_Compare1 (thn (ha pins s σ H _ I h) fun v s1 ⟨x,H1,I1,r1,q1⟩=>thn (hb pins s1 σ H1 _ I1 q1) fun u s2 ⟨y,H2,I2,r2,q2⟩ =>
  thn (ho pins s2 σ H2 x y v u _ I2 r1 r2 q2) fun c s3 ⟨z,H3,I3,r3,k,e,q3⟩=>?_) hm
 subst e;cases r3;exact wpAny_truthy_bool ⟨H3,I3,q3⟩
theorem Za2:(sizeLine:Nat) < 2 ^ 63:=by rw[sizeLine_eq];decide
theorem Yj:OpR X (binaryOp .Add) (fun x y H Q=>∃ i j,x = .str i/\y = .str j/\i.length+j.length<=sizeLine/\Q (.str (i++j)) H):=by intro pins s σ H x y v u Q I rx ry h;obtain ⟨i,j,rfl,rfl,hz,q⟩:=h;obtain ⟨t,rfl⟩:=rx;obtain ⟨t',rfl⟩:=ry;exact add_str (fun t' tk=>⟨.str (i++j),H,I.tok _,⟨_,rfl⟩,q⟩) hz
theorem vals1 {x:V} {us:List Value} (r:Vals [x] us):∃ u,us=[u]/\RelV x u:=by
 cases r with
 | cons r1 r2=>cases r2;exact ⟨_,rfl,r1⟩
theorem vals2 {x y:V} {us:List Value} (r:Vals [x,y] us):∃ u w',us=[u,w']/\RelV x u/\RelV y w':=by
 cases r with
 | cons r1 r2 =>
  cases r2 with
  | cons r3 r4=>cases r4;exact ⟨_,_,rfl,r1,r3⟩
theorem Qmv (hc:X.calm=true):Qpi X (.builtin "max") (fun xs H Q=>∃ i j,xs=[.int i,.int j]/\Q (.int (if j > i then j else i)) H):=by
 intro pins s σ H xs us Q I r h;obtain ⟨i,j,rfl,q⟩:=h;obtain ⟨u,w',rfl,⟨t,rfl⟩,⟨t',rfl⟩⟩:=vals2 r;refine max_two_ints (I.ok.hd hc) fun h' tk k=>⟨_,H,I.kept k,?_,q⟩
 by_cases hj:j > i
 .rw[if_pos hj,if_pos hj];exact ⟨_,rfl⟩
 .rw[if_neg hj,if_neg hj];exact ⟨_,rfl⟩
theorem Ze4 (hc:X.calm=true):Qpi X (.builtin "min") (fun xs H Q=>∃ i j,xs=[.int i,.int j]/\Q (.int (if j < i then j else i)) H):=by
 intro pins s σ H xs us Q I r h;obtain ⟨i,j,rfl,q⟩:=h;obtain ⟨u,w',rfl,⟨t,rfl⟩,⟨t',rfl⟩⟩:=vals2 r;refine min_two_ints (I.ok.hd hc) fun h' tk k=>⟨_,H,I.kept k,?_,q⟩
 by_cases hj:j < i
 .rw[if_pos hj,if_pos hj];exact ⟨_,rfl⟩
 .rw[if_neg hj,if_neg hj];exact ⟨_,rfl⟩
theorem Ja:Qpi X (.type "str") (fun xs H Q=>∃ i,xs=[.int i]/\i.natAbs.log2 < 1920/\Q (.str (toString i)) H):=by intro pins s σ H xs us Q I r h;obtain ⟨i,rfl,hz,q⟩:=h;obtain ⟨u,rfl,t,rfl⟩:=vals1 r;exact PySem.P.str_of_int hz ⟨.str _,H,I.tok _,⟨_,rfl⟩,q⟩
theorem Zka:Qpi X (.builtin "ord") (fun xs H Q=>∃ x,xs=[.str x]/\x.length=1/\Q (.int (x.cps.getD 0 0:Nat)) H):=by intro pins s σ H xs us Q I r h;obtain ⟨x,rfl,hz,q⟩:=h;obtain ⟨u,rfl,t,rfl⟩:=vals1 r;exact ord_of_one hz ⟨.int _,H,I.tok _,⟨_,rfl⟩,q⟩
end
end L2
namespace L2
open PySem PySem.Spec PyProof.Rows
structure Znu (h:Heap) (x dx C:Addr) (mA:Str->Option Value):Prop where
 obj:h.get? x=some (PySem.W.instObj C dx)
 ns:h.Ns1 dx mA
 ne:dx ≠ x
theorem Ze5 {h:Heap} {dx:Addr} {mA:Str->Option Value} (n:h.Ns1 dx mA):∃ od,h.get? dx=some od/\∀ name,PySem.W.lookIn name od=some (mA name):=by
 obtain ⟨o,es,ep,ho,hd,hk,_,hm⟩:=n;refine ⟨o,ho,fun name=>?_⟩;have e:=hm name;unfold nsFind findBy at e;rw[<-Array.find?_toList]at e;unfold PySem.W.lookIn;rw[hd];dsimp only;split
 .rename_i y q;rw[q]at e;exact congrArg some e
 .rename_i q;rw[q]at e;have a:es.toList.any (·.refKey)=false:=by rw[List.any_eq_false];intro y hy;obtain ⟨z,t,hkey⟩:=hk y (Array.mem_toList_iff.mp hy);simp[DictEntry.refKey,hkey]
  have a':¬ es.toList.any (·.refKey)=true:=by rw[a];exact Bool.false_ne_true
  rw[if_neg a'];exact congrArg some e
theorem Znu.look {h:Heap} {x dx C:Addr} {mA:Str->Option Value} (I:Znu h x dx C mA):∃ od,PySem.W.InstAt h x (PySem.W.instObj C dx) C (some od)/\∀ name,PySem.W.lookIn name od=some (mA name):=
 let ⟨od,ho,hl⟩:=Ze5 I.ns
 ⟨od,⟨I.obj,rfl,rfl,ho⟩,hl⟩
section
variable {prog:Program} {w:World} {A:Around} {E:EPr} {s:Shared} {K:FG} {x dx C f:Addr} {mA:Str->Option Value} {name:Str} {v:Value}
theorem get_map {expr:Bool} {Q:EPr} (X:K.In s.heap) (I:Znu s.heap x dx C mA) (hg:PySem.W.plainGet K C name=true) (hh:PySem.W.hasDictIn K C=true)
  (ha:PySem.W.findIn K (.ref C) name=some none) (hv:mA name=some v) (hv':PySem.W.handedIn v=true) (h:Q v { s with toks:=s.toks+1 }) :
  wpAny (model prog w) A (getAttr (.ref x) name expr) Q E s:=by
 obtain ⟨od,J,hl⟩:=I.look;exact PySem.W.get_value X J (PySem.W.plainGet_of hg).1 (PySem.W.findObj_own hh ha rfl (by rw[hl,hv])) hv' h
theorem Zkb {pl:Sem Bool} {Q:Value × List Value->Shared->Prop} (X:K.In s.heap) (I:Znu s.heap x dx C mA) (hg:PySem.W.plainGet K C name=true)
  (hf:PySem.W.findIn K (.ref C) name=some (some (.ref f))) (ht:PySem.W.isFn K (.ref f)=true) (hv:mA name=none) (h:Q (.ref f,[.ref x]) s) :
  wpAny (model prog w) A (getMethod (.ref x) name pl) Q E s:=by
 obtain ⟨od,J,hl⟩:=I.look;exact PySem.W.method_fn X J (PySem.W.plainGet_of hg).1 (PySem.W.plainGet_of hg).2 hf (beq_iff_eq.mp ht) (by show (PySem.W.lookIn name od).map (·.isSome)=some false;rw[hl,hv];rfl) h
theorem Znv {ns:List Str} {Q:Unit->Shared->Prop} (X:K.In s.heap) (I:Znu s.heap x dx C mA)
  (hs:PySem.W.findIn K (.ref C) "__setattr__" = some (some (.builtin "object.__setattr__"))) (hp:PySem.W.plainOver K C=true) (ht:PySem.W.takerIn K C name=some none) (hh:PySem.W.hasDictIn K C=true)
  (hw:PySem.Within mA ns) (hsz:ns.length<=sizeLine)
  (h:∀ h',Znu h' x dx C (fun y=>if y=name then some v else mA y)->Heap.SameBut dx s.heap h' -> Q () { s with heap:=h',toks:=s.toks+2 }) :
  wpAny (model prog w) A (setAttr (.ref x) name v) Q E s:=by
 obtain ⟨od,J,hl⟩:=I.look;refine PySem.W.set_plain X J hs (PySem.W.osa_open (s:={ s with toks:=s.toks+1 }) (r:=none) X J hp ht fun b=>?_);obtain ⟨cd,hc,hd'⟩:=PySem.W.any_some hh;have hx:s.heap.get? x=some ⟨.ref C,some dx,.plain,#[]⟩:=I.obj;refine wpAny_bind (wpAny_pure (wpAny_bind (wpAny_bind (wpAny_loadPart hx (wpAny_bind (PySem.W.Looks.here (s:={ s with toks:=s.toks+1 }) (PySem.W.looks_clsIn X hc) ?_))))));rw[hd'];refine wpAny_pure (a:=some dx) (wpAny_bind (wpAny_pure (wpAny_bind ?_)));refine wpAny_nsSet1 (s:={ s with toks:=s.toks+1 }) I.ns fun h' hn2 hs2=>?_;obtain ⟨oD,esD,epD,hoD,hdD,hcD⟩:=hn2.count (PySem.Within.cons name v hw);refine wpAny_bind (wpAny_lookBehind hoD (by rw[hdD];exact pastItsLine_dict (Nat.le_trans hcD (by rw[List.length_cons];omega))) ?_);exact wpAny_pure (h _ ⟨(hs2.2 _ (Ne.symm I.ne)).trans I.obj,hn2,I.ne⟩ hs2)
theorem Zkc {R:Result->Shared->Prop} {vs:List Value} {kw:List (Str × Value)} (X:K.In s.heap) (hm:PySem.W.makesIn K C=true)
  (hi:PySem.W.findIn K (.ref C) "__init__" = some (some (.ref f))) (hf:PySem.W.typeIn K (.ref f)=some (.type "function"))
  (h:codeAny (model prog w) (A.under (.builtin "type.__call__" ⟨.ref C::vs,kw⟩)) (.call (.ref f) ⟨.ref (s.heap.objs.size+1)::vs,kw⟩) (PySem.W.InitBack (s.heap.objs.size+1) R)
   { s with heap:=(s.heap.push PySem.W.emptyDict).push (PySem.W.instObj C s.heap.objs.size) }) :
  codeAny (model prog w) A (.call (.ref C) ⟨vs,kw⟩) R s:=by
 obtain ⟨hh,g,d,t,os⟩:=s;exact PySem.W.make_core (PySem.W.makes_of X hm) (PySem.W.looks_findIn X hi) (fun self=>PySem.W.bind_fn X self hf) (.inl rfl) h
end
def Yt (f:Str) (v:V):List (Str × V)->List (Str × V)
 | []=>[(f,v)]
 | (g,x)::r=>if g=f then (g,v)::r else (g,x)::Yt f v r
theorem Qmw (f g:Str) (v:V):∀ fs:List (Str × V),(Yt f v fs).lookup g=if g=f then some v else fs.lookup g
 | []=>by
  show List.lookup g [(f,v)]=_;by_cases h:g=f
  .have hb:(g == f)=true:=beq_iff_eq.mpr h;simp only[List.lookup,hb,if_pos h]
  .have hb:(g == f)=false:=beq_eq_false_iff_ne.mpr h;simp only[List.lookup,hb,if_neg h]
 | (k,x)::r=>by
  have ih:=Qmw f g v r;rw[show Yt f v ((k,x)::r)=(if k=f then (k,v)::r else (k,x)::Yt f v r) from rfl];by_cases hk:k=f
  .rw[if_pos hk];by_cases h:g=k
   .have hb:(g == k)=true:=beq_iff_eq.mpr h;simp only[List.lookup,hb,if_pos (h.trans hk)]
   .have hb:(g == k)=false:=beq_eq_false_iff_ne.mpr h;simp only[List.lookup,hb,if_neg (fun e:g=f=>h (e.trans hk.symm))]
  .rw[if_neg hk];by_cases h:g=k
   .have hb:(g == k)=true:=beq_iff_eq.mpr h;simp only[List.lookup,hb,if_neg (fun e:g=f=>hk (h.symm.trans e))]
   .have hb:(g == k)=false:=beq_eq_false_iff_ne.mpr h;simp only[List.lookup,hb];exact ih
theorem Qmx (f:Str) (v:V):∀ fs:List (Str × V),f ∈ (Yt f v fs).map (·.1)/\∀ g,g ∈ fs.map (·.1)->g ∈ (Yt f v fs).map (·.1)
 | []=>⟨by simp[Yt],fun g h=>by simp at h⟩
 | (k,x)::r=>by
  obtain ⟨i1,i2⟩:=Qmx f v r;rw[show Yt f v ((k,x)::r)=(if k=f then (k,v)::r else (k,x)::Yt f v r) from rfl];by_cases hk:k=f
  .rw[if_pos hk];subst hk;exact ⟨by simp,fun g h=>by simpa using h⟩
  .rw[if_neg hk];refine ⟨?_,fun g h=>?_⟩
   .rw[List.map_cons];exact List.mem_cons_of_mem _ i1
   .rw[List.map_cons]at h ⊢;rcases List.mem_cons.mp h with e | e
    .exact List.mem_cons.mpr (.inl e)
    .exact List.mem_cons_of_mem _ (i2 g e)
theorem Qmy (f:Str) (v:V):∀ fs:List (Str × V),(Yt f v fs).length<=fs.length+1
 | []=>by simp[Yt]
 | (k,x)::r=>by
  have ih:=Qmy f v r;rw[show Yt f v ((k,x)::r)=(if k=f then (k,v)::r else (k,x)::Yt f v r) from rfl];by_cases hk:k=f
  .rw[if_pos hk,List.length_cons,List.length_cons];omega
  .rw[if_neg hk,List.length_cons,List.length_cons];omega
theorem Qtw.some_of {v:V} {o:Option Value} (r:Qtw (some v) o):∃ u,o=some u/\RelV v u:=by
 cases o with
 | none=>exact (show False from r).elim
 | some u=>exact ⟨u,rfl,r⟩
theorem Qtw.none_of {o:Option Value} (r:Qtw none o):o=none:=by
 cases o with
 | none=>rfl
 | some u=>exact (show False from r).elim
theorem Ze6 {v:V} {u:Value} (r:RelV v u):PySem.W.handedIn u=true:=by
 cases v with
 | non=>cases (show u=Value.none from r);rfl
 | bl b=>cases (show u=Value.bool b from r);rfl
 | int i=>obtain ⟨t,e⟩:=(show ∃ t,u=Value.int i t from r);cases e;rfl
 | str x=>obtain ⟨t,e⟩:=(show ∃ t,u=Value.str x t from r);cases e;rfl
 | byt b=>obtain ⟨t,e⟩:=(show ∃ t,u=Value.bytes b t from r);cases e;rfl
 | flt b=>obtain ⟨t,e⟩:=(show ∃ t,u=Value.float b t from r);cases e;rfl
 | ref a=>cases (show u=Value.ref a from r);rfl
 | ty n=>cases (show u=Value.type n from r);rfl
section
variable {P:Program} {w:World} {H H':Hp} {h h':Heap} {a C dx:Addr} {fs fs':List (Str × V)}
theorem Qx0 (hok:HOk P w H h) (e:H a=some (.ins C dx fs)):∃ mA,Znu h a dx C mA/\(∀ f,Qtw (fs.lookup f) (mA f))/\PySem.Within mA (fs.map (·.1))/\fs.length<=1000/\H dx=some (.own a):=by
 obtain ⟨d,z,ne,ob,mA,n,r,q⟩:=(show Qbj P w H h a (.ins C dx fs) from hok a _ e)
 exact ⟨mA,⟨ob,n,ne⟩,r,q,z,d⟩
end
structure Cls (K:FG) (C:Addr):Prop where
 pg:PySem.W.plainGet K C Str.empty=true
 hd:PySem.W.hasDictIn K C=true
 po:PySem.W.plainOver K C=true
 sa:PySem.W.findIn K (.ref C) "__setattr__" = some (some (.builtin "object.__setattr__"))
theorem Cls.get {K:FG} {C:Addr} (c:Cls K C) (f:Str):PySem.W.plainGet K C f=true:=c.pg
def Qb0 (K:FG) (C:Addr) (f:Str):Prop:=PySem.W.findIn K (.ref C) f=some none
theorem Qb0.Ztj {K:FG} {C:Addr} {f:Str} (n:Qb0 K C f):PySem.W.takerIn K C f=some none:=by unfold PySem.W.takerIn;rw[show PySem.W.findIn K (.ref C) f=some none from n];rfl
structure Meth (K:FG) (C:Addr) (m:Str) (f:Addr):Prop where
 at_:PySem.W.findIn K (.ref C) m=some (some (.ref f))
 fn:PySem.W.isFn K (.ref f)=true
 kp:PySem.W.keepIn K (.ref f)=true
section
variable {X:Cx} {pins:List (Addr × Obj)} {σ:St} {H:Hp} {s:Shared} {a C dx:Addr} {fs:List (Str × V)} {f:Str} {v:V} {A:Around} {E:EPr}
theorem Qqo {b:Bool} {Q:EPr} (I:Inv X pins σ H s) (e:H a=some (.ins C dx fs)) (c:Cls X.K C) (n:Qb0 X.K C f) (l:fs.lookup f=some v)
  (h:∀ u s',Inv X pins σ H s' -> RelV v u->Q u s'):wpAny (model X.prog X.w) A (getAttr (.ref a) f b) Q E s:=by
 obtain ⟨mA,O,r,_,_,_⟩:=Qx0 I.hok e;obtain ⟨u,hu,ru⟩:=Qtw.some_of (v:=v) (o:=mA f) (by rw[<-l];exact r f);exact get_map I.kIn O (c.get f) c.hd n hu (Ze6 ru) (h u _ (I.tok _) ru)
theorem Qqp {m:Str} {g:Addr} {pl:Sem Bool} {Q:Value × List Value->Shared->Prop} (I:Inv X pins σ H s) (e:H a=some (.ins C dx fs)) (c:Cls X.K C) (k:Meth X.K C m g) (l:fs.lookup m=none)
  (h:Q (.ref g,[.ref a]) s):wpAny (model X.prog X.w) A (getMethod (.ref a) m pl) Q E s:=by
 obtain ⟨mA,O,r,_,_,_⟩:=Qx0 I.hok e;have hn:mA m=none:=Qtw.none_of (by rw[<-l];exact r m);exact Zkb I.kIn O (c.get m) k.at_ k.fn hn h
theorem Qqq {y:V} {u:Value} {Q:Unit->Shared->Prop} (I:Inv X pins σ H s) (e:H a=some (.ins C dx fs)) (c:Cls X.K C) (n:Qb0 X.K C f) (hl:fs.length < 1000) (ry:RelV y u)
  (h:∀ s',Inv X pins σ (upd H a (.ins C dx (Yt f y fs))) s' -> Q () s'):wpAny (model X.prog X.w) A (setAttr (.ref a) f u) Q E s:=by
 obtain ⟨mA,O,r,wi,_,ho⟩:=Qx0 I.hok e;have hz:(fs.map (·.1)).length<=sizeLine:=by rw[List.length_map,sizeLine_eq];omega
 refine Znv I.kIn O c.sa c.po n.Ztj c.hd wi hz fun h' O' sb=>h _ ?_;have hd:∃ o,h'.get? dx=some o:=let ⟨o,_,_,e',_⟩:=O'.ns;⟨o,e'⟩
 refine I.write (x:=a) (e:=dx) (by rw[e];exact True.intro) (.inr ho) (fun b q hb z=>(sb.2 b hb).trans z) hd ?_;refine ⟨by rw[Ql O.ne];exact ho,?_,O.ne,O'.obj,_,O'.ns,fun g=>?_,fun g hg=>?_⟩
 .have:=Qmy f y fs;omega
 .show Qtw ((Yt f y fs).lookup g) (if g=f then some u else mA g);rw[Qmw];by_cases q:g=f
  .rw[if_pos q,if_pos q];exact ry
  .rw[if_neg q,if_neg q];exact r g
 .by_cases q:g=f
  .rw[q];exact (Qmx f y fs).1
  .refine (Qmx f y fs).2 g (wi g fun z=>hg ?_);show (if g=f then some u else mA g)=none;rw[if_neg q];exact z
theorem Inv.made (I:Inv X pins σ H s):Inv X pins σ (upd (upd H s.heap.objs.size (.own (s.heap.objs.size+1))) (s.heap.objs.size+1) (.ins C s.heap.objs.size []))
  { s with heap:=(s.heap.push PySem.W.emptyDict).push (PySem.W.instObj C s.heap.objs.size) }:=by
 have e1:(s.heap.push PySem.W.emptyDict).get? s.heap.objs.size=some PySem.W.emptyDict:=Heap.get?_push_size s.heap rfl;have e2:((s.heap.push PySem.W.emptyDict).push (PySem.W.instObj C s.heap.objs.size)).get? (s.heap.objs.size+1)=some (PySem.W.instObj C s.heap.objs.size):=by
  have:=Heap.get?_push_size (s.heap.push PySem.W.emptyDict) (o:=PySem.W.instObj C s.heap.objs.size) rfl
  rwa [Heap.size_push]at this
 have e3:(s.heap.push PySem.W.emptyDict).Ns s.heap.objs.size (fun _=>none):=⟨PySem.W.emptyDict,#[],_,e1,rfl,(fun e he=>absurd he (by simp)),fun _=>rfl⟩
 have I1:=I.laid (a:=s.heap.objs.size) (o:=.own (s.heap.objs.size+1)) (h':=s.heap.push PySem.W.emptyDict) (t':=s.toks) (fun b u q=>Heap.get?_push_of_some _ q) (Nat.le_refl _) ⟨_,e1⟩;refine I1.laid (a:=s.heap.objs.size+1) (o:=.ins C s.heap.objs.size []) (t':=s.toks) (fun b u q=>Heap.get?_push_of_some _ q) (Nat.le_of_eq (Heap.size_push _ _)) ?_;have ne:s.heap.objs.size ≠ s.heap.objs.size+1:=Nat.ne_of_lt (Nat.lt_succ_self _);refine ⟨by rw[Ql ne,Qk],Nat.zero_le _,ne,e2,fun _=>none,(Heap.Ns1.of_empty e3).at fun o q=>Heap.get?_push_of_some _ q,fun _=>True.intro,fun y hy=>absurd rfl hy⟩
theorem Znw {prog:Program} {w:World} {env:Env} {e:Expr} {f:Str} {pos:Pos} {s:Shared} {Q:EPr} (hb:attributeBase e f env (eval e env)=eval e env)
  (h:wpAny (model prog w) A (eval e env) (fun o s₁=>wpAny (model prog w) A (getAttr o f true) Q E s₁) E s):wpAny (model prog w) A (eval (.Attribute e f pos) env) Q E s:=
 Attribute_any_ h (by rw[arm_eval_Attribute,hb])
end
def Qxr (K:FG) (ta:TE) (f:Str):TE:=fun σ H Q=>ta σ H fun x H1=>∃ a C dx fs v,x = .ref a/\H1 a=some (.ins C dx fs)/\Cls K C/\Qb0 K C f/\fs.lookup f=some v/\Q v H1
def Znx (K:FG) (ta tv:TE) (f:Str):TS:=fun D σ H=>tv σ H fun y H1=>ta σ H1 fun x H2=>∃ a C dx fs,x = .ref a/\H2 a=some (.ins C dx fs)/\Cls K C/\Qb0 K C f/\fs.length < 1000 /\
 D.nx σ (upd H2 a (.ins C dx (Yt f y fs)))
def Zu0 (X:Cx) (op:Operator) (rd:V->V->Hp->VK->Prop):Prop:=
 ∀ (pins:List (Addr × Obj)) (s:Shared) (σ:St) (H:Hp) (x y:V) (u v:Value) (Q:VK),Inv X pins σ H s->RelV x u->RelV y v->rd x y H Q->wpAny (model X.prog X.w) X.A (inplaceOp op u v) (EP X pins σ Q) X.xe s
def Zny (K:FG) (ta tv:TE) (rd:V->V->Hp->VK->Prop) (f:Str):TS:=fun D σ H=>ta σ H fun x H1=>∃ a C dx fs v,x = .ref a/\H1 a=some (.ins C dx fs)/\Cls K C/\Qb0 K C f/\fs.lookup f=some v /\
 tv σ H1 fun y H2=>rd v y H2 fun z H3=>∃ dx' fs',H3 a=some (.ins C dx' fs')/\fs'.length < 1000/\D.nx σ (upd H3 a (.ins C dx' (Yt f z fs')))
section
variable {X:Cx} {o e value:Expr} {f:Str} {pos pos' tpos:Pos} {ta tv:TE}
theorem Qh (he:PE X e ta) (hb:attributeBase e f X.env (eval e X.env)=eval e X.env):PE X (.Attribute e f pos) (Qxr X.K ta f):=by intro pins s σ H Q I h;refine Znw hb (thn (he pins s σ H _ I h) fun u s1 ⟨x,H1,I1,rx,a,C,dx,fs,v,ex,ea,c,n,l,q⟩=>?_);subst ex;obtain rfl:u=Value.ref a:=rx;exact Qqo I1 ea c n l fun u' s2 I2 ru=>⟨v,H1,I2,ru,q⟩
theorem Qu (ha:PE X o ta) (hv:PE X value tv) (hs:swapsWith value (some (.Attribute o f pos')) pos.line X.env=pure false):PS X (.Assign [.Attribute o f pos'] value pos) (Znx X.K ta tv f):=by intro pins s σ H D I h;refine plainObj_wpAny_Assign_Attribute (thn (hv pins s σ H _ I h) fun u s1 ⟨y,H1,I1,ry,q⟩=>thn (ha pins s1 σ H1 _ I1 q) fun ov s2 ⟨x,H2,I2,rx,a,C,dx,fs,ex,ea,c,n,l,q2⟩=>?_) hs;subst ex;obtain rfl:ov=Value.ref a:=rx;exact Qqq I2 ea c n l ry fun s3 I3=>⟨σ,_,I3,q2⟩
theorem Qf4 {op:Operator} {rd:V->V->Hp->VK->Prop} (ha:PE X o ta) (hv:PE X value tv) (hop:Zu0 X op rd):PS X (.AugAssign (.Attribute o f tpos) op value pos) (Zny X.K ta tv rd f):=by intro pins s σ H D I h;refine wpAny_AugAssign_AttributeAny (thn (ha pins s σ H _ I h) fun ov s1 ⟨x,H1,I1,rx,a,C,dx,fs,v,ex,ea,c,n,l,q⟩=>?_);subst ex;obtain rfl:ov=Value.ref a:=rx;refine Qqo I1 ea c n l fun u s2 I2 ru=>thn (hv pins s2 σ H1 _ I2 q) fun w3 s3 ⟨y,H2,I3,ry,q3⟩=>thn (hop pins s3 σ H2 v y u w3 _ I3 ru ry q3) fun w4 s4 ⟨z,H3,I4,rz,dx',fs',ea',l',q4⟩=>?_;exact Qqq I4 ea' c n l' rz fun s5 I5=>⟨σ,_,I5,q4⟩
def Zu1:V->V->Hp->VK->Prop:=fun x y H Q=>∃ i j,x = .int i/\y = .int j/\Q (.int (i+j)) H
theorem Qt3:Zu0 X .Add Zu1:=by
 rintro pins s σ H x y u v Q I rx ry ⟨i,j,rfl,rfl,q⟩
 obtain ⟨t,rfl⟩:=(show ∃ t,u=Value.int i t from rx)
 obtain ⟨t',rfl⟩:=(show ∃ t',v=Value.int j t' from ry)
 exact PyProof.Rows.iadd_int ⟨.int (i+j),H,I.tok _,⟨_,rfl⟩,q⟩
theorem Znz {pl:Sem Bool} {m:Str} {apos:Pos} {args:List Expr} {pins:List (Addr × Obj)} {s:Shared} {σ:St} {H:Hp} {Q:EPr} {te:TE} (he:PE X e te) (I:Inv X pins σ H s)
  (h:te σ H fun x H1=>∃ a C dx fs g,x = .ref a/\H1 a=some (.ins C dx fs)/\Cls X.K C/\Meth X.K C m g/\fs.lookup m=none /\
   ∀ s1,Inv X pins σ H1 s1->wpAny (model X.prog X.w) X.A (callWith pos (.ref g) [.ref a] (backTo pos (starEach args X.env)) (backToKw pos (keywordEach [] X.env))) Q X.xe s1)
  (ht:eval (.Call (.Attribute e m apos) args [] pos) X.env=(do
   let ov <-eval e X.env
   standAt apos.atName
   let (f,first) <-holding [ov] (getMethod ov m pl)
   callWith pos f first (backTo pos (starEach args X.env)) (backToKw pos (keywordEach [] X.env)))) :
  wpAny (model X.prog X.w) X.A (eval (.Call (.Attribute e m apos) args [] pos) X.env) Q X.xe s:=by
 refine PySem.W.methodCall_KW (pl:=pl) (thn (he pins s σ H _ I h) fun u s1 ⟨x,H1,I1,rx,a,C,dx,fs,g,ex,ea,c,k,l,q⟩=>?_) ht;subst ex;obtain rfl:u=Value.ref a:=rx;exact Qqp I1 ea c k l (q s1 I1)
end
section
variable {X:Cx} {pins:List (Addr × Obj)} {σ:St} {H:Hp} {s:Shared} {A:Around} {E:EPr} {Q:EPr} {c:Value} {b:Bool}
end
end L2
namespace L2
open PySem PySem.Spec PyProof.Rows
structure Qeu (k:Nat) (A:Around):Prop where
 hd:A.handled=none
 dp:A.depth+3*k+5 < recursionLimit
 un:A.units+16*k+200 < cLine
theorem Qeu.mono {j k:Nat} {A:Around} (r:Qeu k A) (h:j<=k):Qeu j A:=⟨r.hd,by have:=r.dp;omega,by have:=r.un;omega⟩
theorem Qeu.deeper {k:Nat} {A:Around} (r:Qeu (k+1) A) (env:Env):Qeu k (A.deeper env):=
 ⟨r.hd,by have:=r.dp;show A.depth+1+3*k+5 < _;omega,by have:=r.un;show A.units+3+16*k+200 < _;omega⟩
theorem Qeu.in1 {k:Nat} {A:Around} (r:Qeu (k+1) A):Qeu k A.in1:=
 ⟨r.hd,by have:=r.dp;show A.depth+3*k+5 < _;omega,by have:=r.un;show A.units+1+16*k+200 < _;omega⟩
theorem Zck {A:Around} {C:Addr} {us:List Value} {kw:List (Str × Value)}:(A.under (.builtin "type.__call__" ⟨.ref C::us,kw⟩)).depth=A.depth+1:=by first | rfl | simp[Around.under,Code.weight,Code.isCreation,Code.isGuard,Code.isCaller,Code.frames,Code.isFrame,guardIds]
theorem Zcl {A:Around} {C:Addr} {us:List Value} {kw:List (Str × Value)}:(A.under (.builtin "type.__call__" ⟨.ref C::us,kw⟩)).units=A.units+1:=by first | rfl | simp[Around.under,Code.cUnits,Code.frames,Code.isFrame]
theorem Qeu.make {k:Nat} {A:Around} (r:Qeu (k+1) A) (C:Addr) (us:List Value) (kw:List (Str × Value)):Qeu k (A.under (.builtin "type.__call__" ⟨.ref C::us,kw⟩)):=
 ⟨r.hd,by have:=r.dp;rw[Zck];omega,by have:=r.un;rw[Zcl];omega⟩
theorem Qeu.depth {k:Nat} {A:Around} (r:Qeu k A):A.depth < recursionLimit:=by have:=r.dp;omega
theorem Qeu.units {k:Nat} {A:Around} (r:Qeu k A):A.units+64 < cLine:=by have:=r.un;omega
def Ze7:TA:=fun _ H Q=>Q [] H
def Qi8 (ta:TE) (tr:TA):TA:=fun σ H Q=>ta σ H fun x H1=>tr σ H1 fun xs H2=>Q (x::xs) H2
section
variable {X:Cx} {e:Expr} {es:List Expr} {te:TE} {t:TA} {pos:Pos}
theorem Qe:PA X [] Ze7:=fun _ _ _ _ H Q I h=>Calls.spliced_nil ⟨[],H,I,.nil,h⟩
theorem Qa (ha:PE X e te) (hr:PA X es t) (hs:starEach (e::es) X.env=(false,eval e X.env)::starEach es X.env:=by rfl):PA X (e::es) (Qi8 te t):=by intro pos pins s σ H Q I h;rw[hs];show wpAny _ _ (spliced ((false,eval e X.env)::backTo pos (starEach es X.env))) _ _ s;refine Calls.spliced_cons (thn (ha pins s σ H _ I h) fun u s1 ⟨x,H1,I1,r1,q1⟩=>?_);exact thn (hr pos pins s1 σ H1 _ I1 q1) fun us s2 ⟨xs,H2,I2,r2,q2⟩=>⟨x::xs,H2,I2,.cons r1 r2,q2⟩
def Zv1 (t:TA):TE:=fun σ H Q=>t σ H fun xs H1=>xs.length<=sizeLine/\∀ p,H1 p=none->Q (.ref p) (upd H1 p (.tup xs))
def Zu2 (t:TA):TE:=fun σ H Q=>t σ H fun xs H1=>xs.length<=sizeLine/\∀ p,H1 p=none->Q (.ref p) (upd H1 p (.lst xs))
theorem Qqr {x1} (h:PA X es t):PE X (.Tuple es x1 pos) (Zv1 t):=by intro pins s σ H Q I hq;refine wpAny_Tuple_spliced (thn (h pos pins s σ H _ I hq) fun us s1 ⟨xs,H1,I1,r,z,q⟩=>⟨by rw[<-r.length];exact z,?_⟩);have hf:H1 s1.heap.objs.size=none:=I1.hok.fresh (Nat.le_refl _);refine ⟨.ref s1.heap.objs.size,upd H1 s1.heap.objs.size (.tup xs),I1.laid (t':=s1.toks) (fun b u e=>Heap.get?_push_of_some _ e) (Nat.le_refl _) ?_,rfl,q _ hf⟩;exact ⟨z,us,r,⟨_,Heap.get?_push_size _ rfl,rfl,_,rfl⟩⟩
theorem Za (h:PA X es t):PE X (.List es pos) (Zu2 t):=by intro pins s σ H Q I hq;refine wpAny_List_spliced (thn (h pos pins s σ H _ I hq) fun us s1 ⟨xs,H1,I1,r,z,q⟩=>⟨by rw[<-r.length];exact z,?_⟩);have hf:H1 s1.heap.objs.size=none:=I1.hok.fresh (Nat.le_refl _);refine ⟨.ref s1.heap.objs.size,upd H1 s1.heap.objs.size (.lst xs),I1.laid (t':=s1.toks) (fun b u e=>Heap.get?_push_of_some _ e) (Nat.le_refl _) ?_,rfl,q _ hf⟩;exact ⟨z,us,0,r,Heap.get?_push_size _ rfl⟩
end
abbrev Sp:=List V->Hp->VK->XK->Prop
abbrev CXT:=List Env->Hp->Shared->XK->Value->Shared->Prop
structure Zj0 (P:Program) (w:World) (K:FG) (mg:Str->Option Value) (base:Heap) (A:Around) (outer:List Env) (s:Shared) (H:Hp):Prop where
 frames:A.frames=some outer
 mod:Mod K mg base
 bs:∀ b o,base.get? b=some o->s.heap.get? b=some o/\H b=none
 bsz:base.objs.size<=s.heap.objs.size
 Zci:s.heap.FunFrames base outer
 frf:∀ b ∈ frs outer,H b=none
 hok:HOk P w H s.heap
 bare:AllBare s.gens
def CE (outer:List Env) (P:Program) (w:World) (H:Hp) (s:Shared) (Q:VK) (u:Value) (s':Shared):Prop:=
 ∃ v H',s'.os=s.os/\AllBare s'.gens/\Un (frs outer) [] H H' s.heap s'.heap/\HOk P w H' s'.heap/\RelV v u/\Q v H'
def CR (CX:CXT) (outer:List Env) (P:Program) (w:World) (H:Hp) (s:Shared) (Q:VK) (E:XK) (r:Result) (s':Shared):Prop:=
 match r with
 | .ok (.ret u)=>CE outer P w H s Q u s'
 | .ok _=>False
 | .error e=>CX outer H s E e s'
structure Qmo (P:Program) (w:World) (K:FG) (mg:Str->Option Value) (base:Heap) (CX:CXT) (k:Nat) (f:Addr) (fd:FuncData) (ps:List Str) (sp:Sp):Prop where
 len:∀ vs H Q E,sp vs H Q E->vs.length=ps.length
 run:∀ (A:Around) (outer:List Env) (s:Shared) (H:Hp) (args:Args) (us:List Value) (vs:List V) (Q:VK) (E:XK),Qeu k A->Zj0 P w K mg base A outer s H->BindsTo s fd args (ps.zip us)->Vals vs us->sp vs H Q E ->
  codeAny (model P w) A (.call (.ref f) args) (CR CX outer P w H s Q E) s
theorem Qmo.mono {P:Program} {w:World} {K:FG} {mg:Str->Option Value} {base:Heap} {CX:CXT} {j k:Nat} {f:Addr} {fd:FuncData} {ps:List Str} {sp:Sp} (F:Qmo P w K mg base CX j f fd ps sp) (h:j<=k) :
  Qmo P w K mg base CX k f fd ps sp:=⟨F.len,fun A outer s H args us vs Q E hr=>F.run A outer s H args us vs Q E (hr.mono h)⟩
theorem Qmo.imp {P:Program} {w:World} {K:FG} {mg:Str->Option Value} {base:Heap} {CX:CXT} {k:Nat} {f:Addr} {fd:FuncData} {ps:List Str} {sp sp':Sp} (F:Qmo P w K mg base CX k f fd ps sp)
  (h:∀ vs H Q E,sp' vs H Q E->sp vs H Q E):Qmo P w K mg base CX k f fd ps sp':=
 ⟨fun vs H Q E q=>F.len vs H Q E (h _ _ _ _ q),fun A outer s H args us vs Q E hr he hb hv hs=>F.run A outer s H args us vs Q E hr he hb hv (h _ _ _ _ hs)⟩
theorem Zj0.make {P:Program} {w:World} {K:FG} {mg:Str->Option Value} {base:Heap} {A:Around} {outer:List Env} {s:Shared} {H:Hp} (e:Zj0 P w K mg base A outer s H) (C:Addr) (us:List Value) (kw:List (Str × Value)) :
  Zj0 P w K mg base (A.under (.builtin "type.__call__" ⟨.ref C::us,kw⟩)) outer s H:=⟨by first | exact e.frames | (simpa [Around.under,Code.envs,Code.isFrame,pushEnvs] using e.frames),e.mod,e.bs,e.bsz,e.Zci,e.frf,e.hok,e.bare⟩
theorem Zj0.in1 {P:Program} {w:World} {K:FG} {mg:Str->Option Value} {base:Heap} {A:Around} {outer:List Env} {s:Shared} {H:Hp} (e:Zj0 P w K mg base A outer s H) :
  Zj0 P w K mg base A.in1 outer s H:=⟨e.frames,e.mod,e.bs,e.bsz,e.Zci,e.frf,e.hok,e.bare⟩
section
variable {X:Cx} {pins:List (Addr × Obj)} {σ:St} {H:Hp} {s s':Shared}
theorem Inv.Zu3 (I:Inv X pins σ H s):Zj0 X.prog X.w X.K X.mg X.base X.A X.stack s H:=
 ⟨I.ok.frames,I.ok.mod,I.bs,Nat.le_trans I.ok.bsz I.sz,I.stack,I.Zeo,I.hok,I.bare⟩
theorem Inv.after {Q:VK} {u:Value} (I:Inv X pins σ H s) (h:CE X.stack X.prog X.w H s Q u s'):EP X pins σ Q u s':=by obtain ⟨v,H',os,bare,un,hok,r,q⟩:=h;obtain ⟨hh,g,d,t,os'⟩:=s';obtain rfl:os' = s.os:=os;exact ⟨v,H',I.call (h':=hh) (g':=g) (d':=d) (t':=t) (ch:=[]) un hok bare (fun b z=>absurd z (by simp)),r,q⟩
end
def Ze8 (sp:Sp) (dvs:List V) (E:XK) (t:TA):TE:=fun σ H Q=>t σ H fun vs H1=>sp (vs++dvs) H1 Q E
def Zq1 (C:Addr) (m:Str) (sp:Sp) (dvs:List V) (E:XK) (ta:TE) (t:TA):TE:=fun σ H Q=>ta σ H fun x H1=>∃ a dx fs,x = .ref a/\H1 a=some (.ins C dx fs)/\fs.lookup m=none /\
 t σ H1 fun vs H2=>sp (x::(vs++dvs)) H2 Q E
def Zkd (C:Addr) (sp:Sp) (dvs:List V) (E:XK) (t:TA):TE:=fun σ H Q=>t σ H fun vs H1=>∀ x dx,H1 x=none->H1 dx=none->dx ≠ x ->
 sp (.ref x::(vs++dvs)) (upd (upd H1 dx (.own x)) x (.ins C dx [])) (fun v H2=>v = .non/\Q (.ref x) H2) E
def Binds (K:FG) (fd:FuncData) (ps:List Str) (ds:List Value):Prop:=
 ∀ (s:Shared) (us:List Value),K.In s.heap->(us++ds).length=ps.length->BindsTo s fd ⟨us,[]⟩ (ps.zip (us++ds))
theorem Binds.all {K:FG} {fd:FuncData} {ps:List Str} (h:∀ us:List Value,us.length=ps.length->bindArgs fd ⟨us,[]⟩=pure (ps.zip us)):Binds K fd ps []:=fun s us _ hl=>by
 rw[List.append_nil]at hl ⊢;exact .of_eq (h us hl)
def Passes (CX:CXT) (X:Cx) (E:XK):Prop:=∀ (pins:List (Addr × Obj)) (σ:St) (H:Hp) (s:Shared) (e:Value) (s':Shared),Inv X pins σ H s->CX X.stack H s E e s' -> X.xe e s'
section
variable {X:Cx} {CX:CXT} {k:Nat} {f C:Addr} {fd:FuncData} {ps:List Str} {sp:Sp} {dvs:List V} {ds:List Value} {E:XK} {x m:Str} {p pos apos:Pos} {e o:Expr} {es:List Expr} {ta:TE} {t:TA}
theorem Ze9 {pins:List (Addr × Obj)} {σ:St} {H:Hp} {s:Shared} {Q:VK} {us:List Value} {vs:List V} (F:Qmo X.prog X.w X.K X.mg X.base CX k f fd ps sp) (hr:Qeu k X.A) (hb:Binds X.K fd ps ds) (hd:Vals dvs ds) (hx:Passes CX X E)
  (I:Inv X pins σ H s) (r:Vals vs us) (h:sp (vs++dvs) H Q E):wpAny (model X.prog X.w) X.A (call (.ref f) us) (EP X pins σ Q) X.xe s:=by
 have r2:Vals (vs++dvs) (us++ds):=r.append hd;have hl:(us++ds).length=ps.length:=by rw[<-r2.length];exact F.len _ _ _ _ h
 refine wpAny_call (codeAny_mono (F.run X.A X.stack s H ⟨us,[]⟩ (us++ds) (vs++dvs) Q E hr I.Zu3 (hb s us I.kIn hl) r2 h) fun r s' hq=>?_);cases r with
 | error e=>exact hx pins σ H s e s' I hq
 | ok fl =>
  cases fl with
  | ret u=>exact I.after hq
  | next=>exact False.elim hq
  | brk=>exact False.elim hq
  | cont=>exact False.elim hq
theorem Zn0 (F:Qmo X.prog X.w X.K X.mg X.base CX k f fd ps sp) (hr:Qeu k X.A) (hg:Gl X x) (hm:X.mg x=some (.ref f)) (hk:PySem.W.keepIn X.K (.ref f)=true) (hb:Binds X.K fd ps ds) (hd:Vals dvs ds) (hx:Passes CX X E)
  (ha:PA X (e::es) t) (hdb:(x == ("__debug__" : Str))=false:=by decide) (he:starEach (e::es) X.env=(false,eval e X.env)::starEach es X.env:=by rfl) (hpl:(backTo pos (starEach es X.env)).any (·.1)=false:=by rfl) :
  PE X (.Call (.Name x p) (e::es) [] pos) (Ze8 sp dvs E t):=by
 intro pins s σ H Q I h;refine wpAny_Call_Name_kw (Qrq I hg hm ?_ hdb);refine PySem.W.callWith_K (h₀:=X.base) I.ok.mod.kin hk (thn (ha pos pins s σ H _ I h) fun us s1 ⟨vs,H1,I1,r,q⟩=>⟨I1.kIn,?_⟩) he hpl;exact Ze9 F hr hb hd hx I1 r q
theorem Zn1 {pl:Sem Bool} (he:PE X o ta) (c:Cls X.K C) (hm:Meth X.K C m f) (F:Qmo X.prog X.w X.K X.mg X.base CX k f fd ps sp) (hr:Qeu k X.A) (hb:Binds X.K fd ps ds) (hd:Vals dvs ds) (hx:Passes CX X E) (ha:PA X (e::es) t)
  (hst:starEach (e::es) X.env=(false,eval e X.env)::starEach es X.env:=by rfl) (hpl:(backTo pos (starEach es X.env)).any (·.1)=false:=by rfl)
  (ht:eval (.Call (.Attribute o m apos) (e::es) [] pos) X.env=(do
   let ov <-eval o X.env
   standAt apos.atName
   let (f,first) <-holding [ov] (getMethod ov m pl)
   callWith pos f first (backTo pos (starEach (e::es) X.env)) (backToKw pos (keywordEach [] X.env))):=by rfl) :
  PE X (.Call (.Attribute o m apos) (e::es) [] pos) (Zq1 C m sp dvs E ta t):=by
 intro pins s σ H Q I h;refine PySem.W.methodCall_KW (pl:=pl) (thn (he pins s σ H _ I h) fun u s1 ⟨x,H1,I1,rx,a,dx,fs,ex,ea,l,q⟩=>?_) ht;subst ex;obtain rfl:u=Value.ref a:=rx;refine Qqp I1 ea c hm l ?_;refine PySem.W.callWith_K (first:=[.ref a]) (h₀:=X.base) I.ok.mod.kin hm.kp (thn (ha pos pins s1 σ H1 _ I1 q) fun us s2 ⟨vs,H2,I2,r,q2⟩=>⟨I2.kIn,?_⟩) hst hpl;exact Ze9 (us:=.ref a::us) (vs:=.ref a::vs) F hr hb hd hx I2 (.cons rfl r) q2
structure Mk (K:FG) (C f:Addr):Prop where
 makes:PySem.W.makesIn K C=true
 init:PySem.W.findIn K (.ref C) "__init__" = some (some (.ref f))
 fn:PySem.W.isFn K (.ref f)=true
 kp:PySem.W.keepIn K (.ref C)=true
theorem Za3 {pins:List (Addr × Obj)} {σ:St} {H:Hp} {s:Shared} {Q:VK} {us:List Value} {vs:List V} (M:Mk X.K C f) (F:Qmo X.prog X.w X.K X.mg X.base CX k f fd ps sp) (hr:Qeu (k+1) X.A) (hb:Binds X.K fd ps ds) (hd:Vals dvs ds)
  (hx:Passes CX X E) (I:Inv X pins σ H s) (r:Vals vs us)
  (h:∀ x dx,H x=none->H dx=none->dx ≠ x->sp (.ref x::(vs++dvs)) (upd (upd H dx (.own x)) x (.ins C dx [])) (fun v H2=>v = .non/\Q (.ref x) H2) E) :
  wpAny (model X.prog X.w) X.A (call (.ref C) us) (EP X pins σ Q) X.xe s:=by
 have hq:=h (s.heap.objs.size+1) s.heap.objs.size (I.hok.fresh (Nat.le_succ _)) (I.hok.fresh (Nat.le_refl _)) (Nat.ne_of_lt (Nat.lt_succ_self _));have I2:=Inv.made (C:=C) I;have r2:Vals (V.ref (s.heap.objs.size+1)::(vs++dvs)) (Value.ref (s.heap.objs.size+1)::(us++ds)):=.cons rfl (r.append hd);have hl:(Value.ref (s.heap.objs.size+1)::us++ds).length=ps.length:=by have e:=r2.length;rw[F.len _ _ _ _ hq]at e;exact e.symm
 refine wpAny_call (Zkc (f:=f) I.kIn M.makes M.init (beq_iff_eq.mp M.fn) (codeAny_mono (F.run _ X.stack _ _ ⟨Value.ref (s.heap.objs.size+1)::us,[]⟩ (Value.ref (s.heap.objs.size+1)::(us++ds)) _ _ E (hr.make C us [])
  (I2.Zu3.make C us []) (hb _ (Value.ref (s.heap.objs.size+1)::us) I2.kIn hl) r2 hq) fun r s' hq'=>?_))
 cases r with
 | error e=>exact hx pins σ _ _ e s' I2 hq'
 | ok fl =>
  cases fl with
  | ret u =>obtain ⟨v,H',I3,rv,ev,q3⟩:=I2.after hq';subst ev;exact ⟨rv,⟨V.ref (s.heap.objs.size+1),H',I3,rfl,q3⟩⟩
  | next=>exact False.elim hq'
  | brk=>exact False.elim hq'
  | cont=>exact False.elim hq'
theorem Zn2 (M:Mk X.K C f) (F:Qmo X.prog X.w X.K X.mg X.base CX k f fd ps sp) (hr:Qeu (k+1) X.A) (hg:Gl X x) (hm:X.mg x=some (.ref C)) (hb:Binds X.K fd ps ds) (hd:Vals dvs ds) (hx:Passes CX X E)
  (ha:PA X (e::es) t) (hdb:(x == ("__debug__" : Str))=false:=by decide) (he:starEach (e::es) X.env=(false,eval e X.env)::starEach es X.env:=by rfl) (hpl:(backTo pos (starEach es X.env)).any (·.1)=false:=by rfl) :
  PE X (.Call (.Name x p) (e::es) [] pos) (Zkd C sp dvs E t):=by
 intro pins s σ H Q I h;refine wpAny_Call_Name_kw (Qrq I hg hm ?_ hdb);refine PySem.W.callWith_K (h₀:=X.base) I.ok.mod.kin M.kp (thn (ha pos pins s σ H _ I h) fun us s1 ⟨vs,H1,I1,r,q⟩=>⟨I1.kIn,?_⟩) he hpl;exact Za3 M F hr hb hd hx I1 r q
theorem Zke (M:Mk X.K C f) (F:Qmo X.prog X.w X.K X.mg X.base CX k f fd ps sp) (hr:Qeu (k+1) X.A) (hg:Gl X x) (hm:X.mg x=some (.ref C)) (hb:Binds X.K fd ps ds) (hd:Vals dvs ds) (hx:Passes CX X E)
  (hdb:(x == ("__debug__" : Str))=false:=by decide):PE X (.Call (.Name x p) [] [] pos) (Zkd C sp dvs E Ze7):=by
 intro pins s σ H Q I h;refine wpAny_Call_Name_kw (Qrq I hg hm ?_ hdb);exact PySem.W.callWith_K0 I.kIn M.kp (Za3 (us:=[]) M F hr hb hd hx I .nil h)
end
section
variable {X:Cx} {CX:CXT} {k:Nat} {f C:Addr} {fd:FuncData} {ps ks:List Str} {sp:Sp} {E:XK} {x m:Str} {p pos apos kpos:Pos} {e o:Expr} {es:List Expr} {kws:List Keyword} {te ta:TE} {t tk:TA} {nm:Option Str}
variable {g:List Value->List Value->List Value} {gV:List V->List V->List V}
end
structure Qn (N P:List Str) (sc:Scope):Prop where
 kind:sc.kind = .function
 co:sc.isCoroutine=false
 gen:sc.isGenerator=false
 nd:N.Nodup
 pre:N.take P.length=P
 par:∀ x ∈ P,sc.names.lookup x=some .local\/sc.names.lookup x=some .cell
 Zq2:∀ y ∈ sc.names,y.2 ≠ .free
theorem Qt4 {kindOf:Str->Option NameKind} {x:Str}:∀ {binds:List (Str × Value)} {m:Str->Option Value},(∀ v,(x,v) ∉ binds)->bindL kindOf binds m x=m x
 | [],_,_=>rfl
 | (n,v)::r,m,h=>by
  unfold bindL;rw[Qt4 fun w hw=>h w (List.mem_cons_of_mem _ hw)];split
  .have:x ≠ n:=by rintro rfl;exact h v List.mem_cons_self
   simp[this]
  .rfl
theorem Qt5 {kindOf:Str->Option NameKind} {x:Str}:∀ {binds:List (Str × Value)} {m:Str->Option Value},(∀ v,(x,v) ∉ binds)->bindC kindOf binds m x=m x
 | [],_,_=>rfl
 | (n,v)::r,m,h=>by
  unfold bindC;rw[Qt5 fun w hw=>h w (List.mem_cons_of_mem _ hw)];split
  .rfl
  .have:x ≠ n:=by rintro rfl;exact h v List.mem_cons_self
   simp[this]
theorem Qt6 {kindOf:Str->Option NameKind} {x:Str} {v:Value}:∀ {P:List Str} {vs:List Value} {i:Nat} {m:Str->Option Value},P.Nodup->P[i]? = some x->vs[i]? = some v->kindOf x=some .local ->
  bindL kindOf (P.zip vs) m x=some v
 | [],_,_,_,_,h,_,_=>by simp at h
 | _::_,[],_,_,_,_,h,_=>by simp at h
 | p::P,w::vs,0,m,nd,h1,h2,hk=>by
  simp at h1 h2;subst h1;subst h2;show bindL kindOf ((p,w)::P.zip vs) m p=_;unfold bindL;rw[Qt4 fun v hv=>(List.nodup_cons.mp nd).1 (List.of_mem_zip hv).1,if_pos hk];simp
 | p::P,w::vs,i+1,m,nd,h1,h2,hk=>by
  show bindL kindOf ((p,w)::P.zip vs) m x=_;unfold bindL;exact Qt6 (i:=i) (List.nodup_cons.mp nd).2 (by simpa using h1) (by simpa using h2) hk
theorem Qt7 {kindOf:Str->Option NameKind} {x:Str} {v:Value}:∀ {P:List Str} {vs:List Value} {i:Nat} {m:Str->Option Value},P.Nodup->P[i]? = some x->vs[i]? = some v->kindOf x ≠ some .local ->
  bindC kindOf (P.zip vs) m x=some v
 | [],_,_,_,_,h,_,_=>by simp at h
 | _::_,[],_,_,_,_,h,_=>by simp at h
 | p::P,w::vs,0,m,nd,h1,h2,hk=>by
  simp at h1 h2;subst h1;subst h2;show bindC kindOf ((p,w)::P.zip vs) m p=_;unfold bindC;rw[Qt5 fun v hv=>(List.nodup_cons.mp nd).1 (List.of_mem_zip hv).1,if_neg hk];simp
 | p::P,w::vs,i+1,m,nd,h1,h2,hk=>by
  show bindC kindOf ((p,w)::P.zip vs) m x=_;unfold bindC;exact Qt7 (i:=i) (List.nodup_cons.mp nd).2 (by simpa using h1) (by simpa using h2) hk
def start (N:List Str) (vs:List V):St:=vs.map some++List.replicate (N.length - vs.length) none
def Zkf (CX:CXT) (P:Program) (w:World) (K:FG) (mg:Str->Option Value) (base:Heap) (N:List Str) (qual:Str) (scope:Scope) (f:Addr) (cd:Value) (A:Around) (outer:List Env) (s:Shared) (H:Hp) (E:XK):Cx where
 prog:=P
 w:=w
 K:=K
 mg:=mg
 base:=base
 A:=A.deeper (envOfC qual scope s.heap.objs.size f cd)
 N:=N
 s_0:=s
 H_0:=H
 env:=envOfC qual scope s.heap.objs.size f cd
 outer:=outer
 stack:=envOfC qual scope s.heap.objs.size f cd::outer
 ex:=[]
 calm:=true
 fn:=fun _=>true
 pn:=[]
 xe:=fun e s'=>wpAny (model P w) (A.deeper (envOfC qual scope s.heap.objs.size f cd)) (leaving (envOfC qual scope s.heap.objs.size f cd) e) (fun _ s''=>CX outer H s E e s'') (fun e' s''=>CX outer H s E e' s'') s'
theorem Za4 {sc:Scope} {n:Nat} {x:Str} (h:sc.names.lookup x=some .cell):∃ c,(cellsFrom n sc.names []).lookup x=some c:=by have q:=PySem.W.cellsFrom_some sc.names n [] (.inl h);exact Option.isSome_iff_exists.mp q
theorem Zfa {CX:CXT} {P:Program} {w:World} {K:FG} {mg:Str->Option Value} {base:Heap} {N ps:List Str} {qual:Str} {scope:Scope} {f:Addr} {cd:Value} {A:Around} {outer:List Env} {s s1:Shared} {H:Hp} {E:XK} {us:List Value} {vs:List V}
  (S:Qn N ps scope) (hd:A.handled=none) (e0:Zj0 P w K mg base A outer s H) (hl:vs.length=ps.length) (r:Vals vs us)
  (x:InCallC s s.heap.objs.size (bindL (envOfC qual scope s.heap.objs.size f cd).kindOf (ps.zip us) fun _=>none) (cellsFrom (s.heap.objs.size+1) scope.names []) (bindC (envOfC qual scope s.heap.objs.size f cd).kindOf (ps.zip us) fun _=>none) s1) :
  Inv (Zkf CX P w K mg base N qual scope f cd A outer s H E) [] (start N vs) H s1:=by
 have hpl:ps.length<=N.length:=by have:=congrArg List.length S.pre;rw[List.length_take]at this;omega
 obtain ⟨h1,tk,rfl,hk⟩:=x.done;have noA:∀ b:Addr,b ∉ (Zkf CX P w K mg base N qual scope f cd A outer s H E).ex:=fun b z=>absurd (show b ∈ ([]:List Addr) from z) (by simp)
 refine ⟨⟨e0.mod,S.kind,rfl,rfl,Nat.le_refl _,fun y z c h1 h2=>?_,fun y hy=>?_,fun y c _ h=>?_,fun _=>hd,Around.frames_deeper e0.frames,.inr ⟨rfl,rfl⟩,fun b z=>absurd z (noA b),e0.bs,e0.bsz,fun b _ _=>noA b,fun b z=>absurd z (noA b),e0.Zci,e0.frf⟩,
  rfl,e0.bare,Un.kept hk,⟨_,x.toInCall.ns,fun i y v h1 h2 h3=>?_⟩,fun y c h=>⟨_,x.cell y c h⟩,e0.hok.fresh (Nat.le_refl _),fun y c h=>?_,fun p hp=>absurd (show p ∈ ([]:List (Addr × Obj)) from hp) (by simp),e0.hok.kept hk,?_⟩
 .exact name_of_addr x.apart (PySem.mem_of_lookup h1) (PySem.mem_of_lookup h2)
 .have hy:scope.names.lookup y=some .cell\/scope.names.lookup y=some .free:=hy;rcases hy with hy | hy
  .exact Za4 hy
  .exact absurd rfl (S.Zq2 _ (PySem.mem_of_lookup hy))
 .exact Nat.le_of_lt (x.above y c (PySem.mem_of_lookup h))
 .have hi:i < vs.length:=by
   unfold start at h2;by_cases hi:i < vs.length
   .exact hi
   .rw[List.getElem?_append_right (by simpa using hi)]at h2;rw[List.getElem?_replicate]at h2;split at h2 <;> cases h2
  have ha:vs[i]? = some v:=by
   unfold start at h2;rw[List.getElem?_append_left (by simpa using hi),List.getElem?_map]at h2;cases e:vs[i]? with
   | none=>rw[e]at h2;cases h2
   | some a=>rw[e]at h2;cases h2;rfl
  obtain ⟨u,hu,rv⟩:=r.get ha;have hp:ps[i]? = some y:=by rw[<-S.pre,List.getElem?_take_of_lt (by omega)];exact h1
  have ndP:ps.Nodup:=by rw[<-S.pre];exact S.nd.sublist (List.take_sublist _ _)
  refine ⟨u,rv,?_⟩;rcases S.par y (List.mem_of_getElem? hp) with k | k
  .exact .inl ⟨k,Qt6 ndP hp hu k⟩
  .obtain ⟨c,e⟩:=Za4 (n:=s.heap.objs.size+1) k;refine .inr ⟨.inl k,c,e,?_⟩;have q:=x.cell y c e;rw[Qt7 ndP hp hu (by show scope.names.lookup y ≠ _;rw[k];decide)]at q;exact q
 .exact e0.hok.fresh (Nat.le_of_lt (x.above y c (PySem.mem_of_lookup h)))
 .unfold start;show _=N.length;rw[List.length_append,List.length_map,List.length_replicate];omega
theorem Ztk {CX:CXT} {P:Program} {w:World} {K:FG} {mg:Str->Option Value} {base:Heap} {k:Nat} {f:Addr} {name qual:Str} {params:Arguments} {body:List Stmt} {scope:Scope} {dV kV doc pm cdv ct oc:Value} {an od:Option Addr}
  {osl:Array (Option Value)} {N ps:List Str} {sp:Sp} (lk:K.lookup f=some ⟨oc,od,.func (PySem.W.fnOf name qual params body scope dV kV doc pm an cdv ct),osl⟩) (hcd:PySem.W.codeIn K cdv qual=true) (S:Qn N ps scope)
  (len:∀ vs H Q E,sp vs H Q E->vs.length=ps.length)
  (hbody:∀ (A:Around) (outer:List Env) (s:Shared) (H:Hp) (vs:List V) (Q:VK) (E:XK),Qeu k (A.deeper (envOfC qual scope s.heap.objs.size f cdv))->sp vs H Q E ->
   ∃ t,PSs (Zkf CX P w K mg base N qual scope f cdv A outer s H E) body t/\t { nx:=fun _ H'=>Q .non H',rt:=Q } (start N vs) H) :
  Qmo P w K mg base CX (k+1) f (PySem.W.fnOf name qual params body scope dV kV doc pm an cdv ct) ps sp:=by
 refine ⟨len,fun A outer s H args us vs Q E hr e0 hb r hsp=>?_⟩;have hl:=len _ _ _ _ hsp;have KX:K.In s.heap:=e0.mod.kin.keeps fun b o e=>(e0.bs b o e).1;have lim:s.heap.NoLimit:=e0.mod.nolimit.keeps fun b o e=>(e0.bs b o e).1
 have hkind:∀ y ∈ ps.zip us,scope.names.lookup y.1=some .local\/(scope.names.lookup y.1=some .cell/\((cellsFrom (s.heap.objs.size+1) scope.names []).lookup y.1).isSome=true):=fun ⟨n,v⟩ hy=>by
  rcases S.par n (List.of_mem_zip hy).1 with q | q
  .exact .inl q
  .exact .inr ⟨q,PySem.W.cellsFrom_some _ _ _ (.inl q)⟩
 refine codeAny_call_function hr.depth (KX _ _ lk) rfl S.co S.gen rfl (PySem.W.codeRec_of KX hcd) (hb _ _ _ _ ?_);refine wpAny_newFunctionEnv_cells S.kind hkind fun env he s1 x=>?_;subst he;refine ⟨lim.keeps x.toInCall.keep,codeAny_func ?_⟩;obtain ⟨t,ht,hq⟩:=hbody A outer s H vs Q E (hr.deeper _) hsp;have I:Inv (Zkf CX P w K mg base N qual scope f cdv A outer s H E) [] (start N vs) H s1:=Zfa S hr.hd e0 hl r x
 refine wpAny_mono (ht [] s1 (start N vs) H _ I hq) (fun fl s' hs=>?_) fun e s' hs=>hs;have fin:∀ {σ':St} {H':Hp} {v:V} {u:Value},Inv (Zkf CX P w K mg base N qual scope f cdv A outer s H E) [] σ' H' s' -> RelV v u->Q v H' -> CE outer P w H s Q u s':=
  fun {σ' H' v u} J rv q=>⟨v,H',J.os,J.bare,J.base,J.hok,rv,q⟩
 cases fl with
 | ret u =>obtain ⟨v,σ',H',J,rv,q⟩:=hs;exact fin J rv q
 | next =>obtain ⟨σ',H',J,q⟩:=hs;exact fin (v:=V.non) (u:=Value.none) J rfl q
 | brk =>obtain ⟨_,_,_,q⟩:=hs;exact False.elim q
 | cont =>obtain ⟨_,_,_,q⟩:=hs;exact False.elim q
end L2
namespace L2
open PySem PySem.Spec PyProof.Rows
section
variable {X:Cx} {x:Str} {p pos:Pos} {e:Expr} {es:List Expr} {t:TA} {id T:String} {r:List V->Hp->VK->Prop}
def tCB (r:List V->Hp->VK->Prop) (t:TA):TE:=fun σ H Q=>t σ H fun vs H1=>r vs H1 Q
theorem Zk (hc:Qpi X (.builtin id) r) (hg:Gl X x) (hm:X.mg x=none) (hv:bootBuiltins x=some (.builtin id)) (ha:PA X (e::es) t) (hn:x ≠ "__name__":=by decide) (hdb:(x == ("__debug__" : Str))=false:=by decide)
  (he:starEach (e::es) X.env=(false,eval e X.env)::starEach es X.env:=by rfl) (hpl:(backTo pos (starEach es X.env)).any (·.1)=false:=by rfl):PE X (.Call (.Name x p) (e::es) [] pos) (tCB r t):=by
 intro pins s σ H Q I h;refine wpAny_Call_Name_kw (Qmu I hg hm hv ?_ hn hdb);exact PyProof.Rows.callWith_builtin1 (thn (ha pos pins s σ H _ I h) fun us s1 ⟨vs,H1,I1,r1,q1⟩=>hc pins s1 σ H1 vs us Q I1 r1 q1) he hpl
theorem Qa2 (hc:Qpi X (.type T) r) (hg:Gl X x) (hm:X.mg x=none) (hv:bootBuiltins x=some (.type T)) (ha:PA X (e::es) t) (hn:x ≠ "__name__":=by decide) (hdb:(x == ("__debug__" : Str))=false:=by decide)
  (he:starEach (e::es) X.env=(false,eval e X.env)::starEach es X.env:=by rfl) (hpl:(backTo pos (starEach es X.env)).any (·.1)=false:=by rfl):PE X (.Call (.Name x p) (e::es) [] pos) (tCB r t):=by
 intro pins s σ H Q I h;refine wpAny_Call_Name_kw (Qmu I hg hm hv ?_ hn hdb);exact PyProof.Rows.callWith_type1 (thn (ha pos pins s σ H _ I h) fun us s1 ⟨vs,H1,I1,r1,q1⟩=>hc pins s1 σ H1 vs us Q I1 r1 q1) he hpl
end
end L2
namespace HT
open PySem PyProof.Rows
section
open PySem.SeqAt
open PySem.AutoSeq1 (wpAny_loadPart')
open PySem.MeetsSeq PySem.MeetsSeq2 PySem.MeetsSeq3
end
section
variable {prog:Program} {w:World} {A:Around} {E:EPr} {s:Shared}
def sIx (n d:Nat):Option Int->Nat
 | none=>d
 | some v=>if v < 0 then (v+(n:Int)).toNat else min v.toNat n
theorem Zfb (n d k:Nat):sIx n d (some (k:Int))=min k n:=by show (if (k:Int) < 0 then ((k:Int)+(n:Int)).toNat else min (k:Int).toNat n)=min k n;rw[if_neg (by omega),Int.toNat_natCast]
end
end HT
namespace L2
open PySem PySem.Spec PyProof.Rows
abbrev TO:=St->Hp->(Option Int->Hp->Prop)->Prop
def PO (X:Cx) (e:Option Expr) (t:TO):Prop:=
 ∀ (pins:List (Addr × Obj)) (s:Shared) (σ:St) (H:Hp) (Q:Option Int->Hp->Prop),Inv X pins σ H s->t σ H Q ->
  wpAny (model X.prog X.w) X.A (evalPart e X.env) (fun u s'=>∃ o H',Inv X pins σ H' s' /\ IsPart u o/\Q o H') X.xe s
def Ztl (t:TE):TO:=fun σ H Q=>t σ H fun x H1=>∃ i,x = .int i/\Q (some i) H1
section
variable {X:Cx} {e:Expr} {te:TE} {lo hi:Option Expr} {tl th:TO} {pos p2:Pos}
theorem Zfc (h:PE X e te):PO X (some e) (Ztl te):=by intro pins s σ H Q I hw;rw[evalPart_some];refine thn (h pins s σ H _ I hw) fun u s1 ⟨x,H1,I1,r1,q1⟩=>?_;obtain ⟨i,rfl,q⟩:=q1;obtain ⟨t,rfl⟩:=r1;exact ⟨some i,H1,I1,.int i t,q⟩
def SlR (X:Cx) (r:V->Option Int->Option Int->Hp->VK->Prop):Prop:=
 ∀ (pins:List (Addr × Obj)) (s:Shared) (σ:St) (H:Hp) (x:V) (v vl vu:Value) (lo hi:Option Int) (sl:Addr) (Q:VK),Inv X pins σ H s->RelV x v->s.heap.IsSliceOf sl vl vu .none->IsPart vl lo->IsPart vu hi->r x lo hi H Q ->
  ∃ T id,typeLookup (.type T) "__getitem__" = pure (some (.builtin id))/\s.TypeIs v T/\wpAny (model X.prog X.w) X.A (getItem v (.ref sl)) (EP X pins σ Q) X.xe s
def tSl (r:V->Option Int->Option Int->Hp->VK->Prop) (te:TE) (tl th:TO):TE:=fun σ H Q=>te σ H fun x H1=>tl σ H1 fun l H2=>th σ H2 fun u H3=>r x l u H3 Q
theorem Zkg {r:V->Option Int->Option Int->Hp->VK->Prop} (hr:SlR X r) (he:PE X e te) (hl:PO X lo tl) (hu:PO X hi th):PE X (.Subscript e (.Slice lo hi none p2) pos) (tSl r te tl th):=by
 intro pins s σ H Q I h;refine Subscript_ (thn (he pins s σ H _ I h) fun v s1 ⟨x,H1,I1,r1,q1⟩=>?_);refine wpAny_Slice (thn (hl pins s1 σ H1 _ I1 q1) fun vl s2 ⟨l,H2,I2,pl,q2⟩=>thn (hu pins s2 σ H2 _ I2 q2) fun vu s3 ⟨u,H3,I3,pu,q3⟩=>?_);rw[evalPart_none];refine wpAny_pure ?_;have I4:Inv X pins σ H3 { s3 with heap:=s3.heap.push { cls:=.type "slice",data:=.fields #[vl,vu,.none] } }:=I3.kept (t':=s3.toks) fun b ob q=>Heap.get?_push_of_some _ q;obtain ⟨T,id,hT,ht,hg⟩:=hr pins { s3 with heap:=s3.heap.push { cls:=.type "slice",data:=.fields #[vl,vu,.none] } } σ H3 x v vl vu l u s3.heap.objs.size Q I4 r1 (Heap.IsSliceOf.new ..) pl pu q3;show wpAny (model X.prog X.w) X.A (subscriptTail e (.Slice lo hi none p2) v (.ref s3.heap.objs.size)) (EP X pins σ Q) X.xe { s3 with heap:=s3.heap.push { cls:=.type "slice",data:=.fields #[vl,vu,.none] } }
 exact tail_any (ops:=[.ref s3.heap.objs.size,v]) ht hT hg (by with_unfolding_all rfl)
def Zmr (xs:List V) (lo hi:Option Int):List V:=(xs.drop (HT.sIx xs.length 0 lo)).take (HT.sIx xs.length xs.length hi - HT.sIx xs.length 0 lo)
theorem Qx1 (xs:List V) (lo hi:Option Int):(Zmr xs lo hi).length<=xs.length:=by unfold Zmr;rw[List.length_take,List.length_drop];omega
end
end L2
namespace L2
open PySem PySem.Spec PyProof.Rows
def ixN (n:Nat) (i:Int):Option Nat:=if 0<=i then (if i < n then some i.toNat else none) else if -(n:Int)<=i then some (i+n).toNat else none
def atI {α:Type} (xs:List α) (i:Int):Option α:=(ixN xs.length i).bind fun j=>xs[j]?
theorem Zfd {n:Nat} {i:Int} {j:Nat} (h:ixN n i=some j):seqIndex? i n=some j/\j < n /\ -(n:Int)<=i/\i < n:=by
 unfold ixN at h;by_cases h0:0<=i
 .rw[if_pos h0]at h;by_cases h1:i < n
  .rw[if_pos h1]at h;have e:i.toNat=j:=Option.some.inj h;exact ⟨by rw[seqIndex_of h0 h1,e],by omega,by omega,h1⟩
  .rw[if_neg h1]at h;cases h
 .rw[if_neg h0]at h;by_cases h1 : -(n:Int)<=i
  .rw[if_pos h1]at h;have e:(i+n).toNat=j:=Option.some.inj h;exact ⟨by rw[seqIndex_neg (by omega) h1,e],by omega,h1,by omega⟩
  .rw[if_neg h1]at h;cases h
theorem Zfe {α:Type} {xs:List α} {i:Int} {v:α} (h:atI xs i=some v):∃ j,seqIndex? i xs.length=some j/\xs[j]? = some v/\j < xs.length /\ -(xs.length:Int)<=i/\i < xs.length:=by
 unfold atI at h;cases e:ixN xs.length i with
 | none=>rw[e]at h;cases h
 | some j =>rw[e]at h;obtain ⟨h1,h2,h3,h4⟩:=Zfd e;exact ⟨j,h1,h,h2,h3,h4⟩
theorem Zn3 {α:Type} {xs:List α} {j:Nat} {v:α} (h:xs[j]? = some v):atI xs (j:Int)=some v:=by
 have hj:j < xs.length:=(List.getElem?_eq_some_iff.mp h).1;have e:ixN xs.length (j:Int)=some j:=by unfold ixN;rw[if_pos (by omega),if_pos (by omega)];simp
 unfold atI;rw[e];exact h
def Zn4 (b:Expr):Prop:=∀ o i,subscripted b false o i=operate [o,i] (getItem o i)
def IxR (X:Cx) (r:R2):Prop:=
 ∀ (value slice:Expr) (pins:List (Addr × Obj)) (s:Shared) (σ:St) (H:Hp) (x y:V) (v u:Value) (Q:VK),Inv X pins σ H s->RelV x v->RelV y u->r x y H Q ->
  subscripted slice false v u=operate [v,u] (getItem v u)->wpAny (model X.prog X.w) X.A (subscriptTail value slice v u) (EP X pins σ Q) X.xe s
def MtR (X:Cx) (id:String) (r:V->List V->Hp->VK->Prop):Prop:=
 ∀ (pins:List (Addr × Obj)) (s:Shared) (σ:St) (H:Hp) (x:V) (xs:List V) (v:Value) (us:List Value) (Q:VK),Inv X pins σ H s->RelV x v->Vals xs us->r x xs H Q ->
  wpAny (model X.prog X.w) X.A (call (.builtin id) (v::us)) (EP X pins σ Q) X.xe s
section
variable {X:Cx} {a b:Expr} {ta tb:TE} {pos:Pos}
theorem Zf {r:R2} (hr:IxR X r) (ha:PE X a ta) (hb:PE X b tb) (hs:Zn4 b):PE X (.Subscript a b pos) (tOp r ta tb):=by intro pins s σ H Q I h;exact Subscript_ (Zti ha hb I h fun v u s2 x y H2 I2 rx ry q=>hr a b pins s2 σ H2 x y v u Q I2 rx ry q (hs _ _))
def Zv2 (K:FG):R2:=fun x y H Q=>∃ p xs i v,x = .ref p/\y = .int i/\SqL K H p xs/\atI xs i=some v/\Q v H
def Zv3 (K:FG):R2:=fun x y H Q=>∃ p xs i v,x = .ref p/\y = .int i/\SqT K H p xs/\atI xs i=some v/\Q v H
theorem Qt:IxR X (Zv2 X.K):=by
 intro value slice pins s σ H x y v u Q I rx ry h hs;obtain ⟨p,xs,i,z,rfl,rfl,hq,he,q⟩:=h;cases rx;obtain ⟨t,rfl⟩:=ry;obtain ⟨its,r,pl,hz⟩:=I.list hq;obtain ⟨j,h1,h2,h3,h4,h5⟩:=Zfe he;obtain ⟨w,ew,rw'⟩:=r.get h2;have hl:=r.length;have hn:=Za2;have fin:EP X pins σ Q w s:=⟨z,H,I,rw',q⟩
 by_cases h0:0<=i
 .have hj:i.toNat=j:=by rw[seqIndex_of h0 h5]at h1;exact Option.some.inj h1
  exact item_listR pl.isList h0 (by omega) (by rw[hj];simpa using ew) fin hs
 .have hj:(i+(its.toArray.size:Int)).toNat=j:=by rw[seqIndex_neg (by omega) h4]at h1;rw[List.size_toArray,<-hl];exact Option.some.inj h1
  exact subscriptTail_builtinR (x:=w) pl.isList.typeIs slot_list_getitem.lookup
   (wpAny_getItem_list_neg (Q:=fun r s'=>r=w/\EP X pins σ Q r s') pl.isList (by omega) (by rw[List.size_toArray] <;> omega) (by omega) (by rw[hj];simpa using ew) ⟨rfl,fin⟩) hs
theorem Qbh:IxR X (Zv3 X.K):=by
 intro value slice pins s σ H x y v u Q I rx ry h hs;obtain ⟨p,xs,i,z,rfl,rfl,hq,he,q⟩:=h;cases rx;obtain ⟨t,rfl⟩:=ry;obtain ⟨its,r,pl,hz⟩:=I.tuple hq;obtain ⟨j,h1,h2,h3,h4,h5⟩:=Zfe he;obtain ⟨w,ew,rw'⟩:=r.get h2;have hl:=r.length;have hn:=Za2;have fin:EP X pins σ Q w s:=⟨z,H,I,rw',q⟩
 exact subscriptTail_builtinR (x:=w) pl.typeIs slot_tuple_getitem.lookup
  (getItem_tuple (j:=j) (Q:=fun r s'=>r=w/\EP X pins σ Q r s') pl (by omega) (by omega) (by rw[List.size_toArray,<-hl];exact h1) (by simpa using ew) ⟨rfl,fin⟩) hs
theorem Zcm (its:List Value) (n j:Nat) (u:Value):Obj.mapSeq (·.setIfInBounds j u) { cls:=.type "list",data:=.seq its.toArray n }={ cls:=.type "list",data:=.seq (its.set j u).toArray n }:=by simp[Obj.mapSeq]
theorem Inv.lst {pins:List (Addr × Obj)} {σ:St} {H:Hp} {s:Shared} {p:Addr} {xs:List V} (I:Inv X pins σ H s) (h:H p=some (.lst xs)) :
  ∃ (its:List Value) (n:Nat),Vals xs its/\s.heap.get? p=some { cls:=.type "list",data:=.seq its.toArray n }/\xs.length<=sizeLine:=by
 obtain ⟨z,its,n,r,e⟩:=I.hok p _ h;exact ⟨its,n,r,e,z⟩
theorem Inv.Zq3 {pins:List (Addr × Obj)} {σ:St} {H:Hp} {s:Shared} {p:Addr} {xs ys:List V} {its its':List Value} {n n':Nat} {f:Obj->Obj} (I:Inv X pins σ H s) (h:H p=some (.lst xs))
  (ho:s.heap.get? p=some { cls:=.type "list",data:=.seq its.toArray n }) (hf:f { cls:=.type "list",data:=.seq its.toArray n }={ cls:=.type "list",data:=.seq its'.toArray n' }) (r:Vals ys its') (hz:ys.length<=sizeLine) (t:Nat) :
  Inv X pins σ (upd H p (.lst ys)) { s with heap:=s.heap.update p f,toks:=t }:=by
 have e:(s.heap.update p f).get? p=some { cls:=.type "list",data:=.seq its'.toArray n' }:=by rw[Heap.get?_update_self f ho (by rw[hf] <;> rfl),hf]
 refine I.write (x:=p) (e:=p) (by rw[h];trivial) (.inl rfl) (fun b u hb q=>(Heap.get?_update_other _ _ (Ne.symm hb)).trans q) ⟨_,e⟩ ?_;exact ⟨hz,its',n',r,e⟩
def Ztm:V->V->V->Hp->(Hp->Prop)->Prop:=fun o i v H Q=>∃ p xs k j,o = .ref p/\i = .int k/\H p=some (.lst xs)/\ixN xs.length k=some j/\Q (upd H p (.lst (xs.set j v)))
theorem set_list:Zuu X Ztm:=by
 intro pins s σ H o i v ov iv u Q I ro ri rv h;obtain ⟨p,xs,k,j,rfl,rfl,hp,hj,q⟩:=h;cases ro;obtain ⟨t,rfl⟩:=ri;obtain ⟨its,n,r,ho,hz⟩:=I.lst hp;obtain ⟨h1,h2,h3,h4⟩:=Zfd hj;have hl:=r.length;have hn:=Za2;have I':Inv X pins σ (upd H p (.lst (xs.set j v))) { s with heap:=s.heap.update p (Obj.mapSeq (·.setIfInBounds j u)) }:=
  I.Zq3 hp ho (Zcm its n j u) (r.set rv j) (by rw[List.length_set];exact hz) s.toks
 by_cases h0:0<=k
 .have hk:k.toNat=j:=by rw[seqIndex_of h0 h4]at h1;exact Option.some.inj h1
  exact PySem.W.ki_setAt ho h0 (by omega) (by rw[List.size_toArray,<-hl];exact h4) (by rw[hk];exact ⟨_,I',q⟩)
 .have hk:(k+(its.toArray.size:Int)).toNat=j:=by rw[seqIndex_neg (by omega) h3]at h1;rw[List.size_toArray,<-hl];exact Option.some.inj h1
  exact PySem.W.ki_setBack ho (by omega) (by rw[List.size_toArray,<-hl];exact h3) (by omega) (by rw[hk];exact ⟨_,I',q⟩)
theorem Qt8 (lo hi:Option Int) (n:Nat):(sliceBounds lo hi none n).1=((HT.sIx n 0 lo:Nat):Int)/\(sliceBounds lo hi none n).2.1=((HT.sIx n n hi:Nat):Int)/\(sliceBounds lo hi none n).2.2=1:=by
 refine ⟨?_,?_,rfl⟩
 .cases lo with
  | none=>simp[sliceBounds,HT.sIx]
  | some i =>
   simp only[sliceBounds,HT.sIx,Option.getD_none,show (1:Int) > 0 by decide,if_true];by_cases h:i < 0
   .simp only[h,if_true] <;> omega
   .simp only[h,if_false] <;> omega
 .cases hi with
  | none=>simp[sliceBounds,HT.sIx]
  | some i =>
   simp only[sliceBounds,HT.sIx,Option.getD_none,show (1:Int) > 0 by decide,if_true];by_cases h:i < 0
   .simp only[h,if_true] <;> omega
   .simp only[h,if_false] <;> omega
theorem Qrs (its:List Value) (lo hi:Option Int):slicePick its.toArray lo hi none=((its.drop (HT.sIx its.length 0 lo)).take (HT.sIx its.length its.length hi - HT.sIx its.length 0 lo)).toArray:=by obtain ⟨h1,h2,h3⟩:=Qt8 lo hi its.toArray.size;unfold slicePick;rw[h1,h2,h3];simp only[sliceRange_one,pick_run,List.size_toArray] <;> rfl
def Zv4 (K:FG):V->Option Int->Option Int->Hp->VK->Prop:=fun x lo hi H Q=>∃ a xs,x = .ref a/\SqL K H a xs/\∀ p,H p=none->Q (.ref p) (upd H p (.lst (Zmr xs lo hi)))
theorem Zn5:SlR X (Zv4 X.K):=by intro pins s σ H x v vl vu lo hi sl Q I rx hs pl pu h;obtain ⟨a,xs,rfl,hx,q⟩:=h;cases rx;obtain ⟨its,r,ht,hz⟩:=I.list hx;have hlen:=r.length;refine ⟨"list",_,slot_list_getitem.lookup,ht.isList.typeIs,?_⟩;refine wpAny_getItem_list_slice ht.isList hs pl pu .none (by simp) ?_ (by rw[List.size_toArray] <;> omega);rw[Qrs,<-hlen];refine ⟨.ref s.heap.objs.size,_,I.laid (t':=s.toks) (o:=.lst (Zmr xs lo hi)) (fun b ob q=>Heap.get?_push_of_some _ q) (Nat.le_refl _) ?_,rfl,q _ (I.hok.fresh (Nat.le_refl _))⟩;exact ⟨Nat.le_trans (Qx1 xs lo hi) hz,_,0,(r.drop (HT.sIx xs.length 0 lo)).take (HT.sIx xs.length xs.length hi - HT.sIx xs.length 0 lo),Heap.get?_push_size _ rfl⟩
theorem Zc:Qpi X (.builtin "len") (fun xs H Q=>∃ p ys,xs=[.ref p]/\(SqL X.K H p ys\/SqT X.K H p ys)/\Q (.int ys.length) H):=by
 intro pins s σ H xs us Q I r h;obtain ⟨p,ys,rfl,hq,q⟩:=h;obtain ⟨u,rfl,rx⟩:=vals1 r;cases rx;have hn:=Za2;rcases hq with hq | hq
 .obtain ⟨its,r',pl,hz⟩:=I.list hq;have hlen:=r'.length;exact Calls.call_len_list pl.isList (by simp only[List.size_toArray] <;> omega) ⟨.int ys.length,H,I.tok _,⟨s.toks+1,by rw[List.size_toArray,hlen]⟩,q⟩
 .obtain ⟨its,r',pl,hz⟩:=I.tuple hq;have hlen:=r'.length;exact len_tuple pl (by simp only[List.size_toArray] <;> omega) ⟨.int ys.length,H,I.tok _,⟨s.toks+1,by rw[List.size_toArray,hlen]⟩,q⟩
def tyV (K:FG) (T:String) (x:V) (H:Hp):Prop:=match x with
 | .str _=>T = "str"
 | .int _=>T = "int"
 | .ref p=>(T = "list" /\ ∃ xs,SqL K H p xs)\/(T = "tuple" /\ ∃ o,K.lookup p=some o/\o.cls = .type "tuple" /\ o.dict=none) \/
   (T = "dict" /\ ((∃ kvs,H p=some (.dK kvs))\/∃ kvs,H p=some (.dT kvs)))\/(T = "set" /\ ∃ S n,H p=some (.set S n))
 | _=>False
theorem Zq4 {pins:List (Addr × Obj)} {σ:St} {H:Hp} {s:Shared} {T:String} {x:V} {v:Value} (I:Inv X pins σ H s) (r:RelV x v) (ty:tyV X.K T x H) :
  s.TypeIs v T/\∀ a,v = .ref a->∃ ob,s.heap.get? a=some ob/\ob.dict=none:=by
 cases x with
 | str z =>obtain ⟨t,rfl⟩:=r;cases (show T = "str" from ty);exact ⟨typeIs_str s z t,fun _ e=>nomatch e⟩
 | int i =>obtain ⟨t,rfl⟩:=r;cases (show T = "int" from ty);exact ⟨typeIs_int s i t,fun _ e=>nomatch e⟩
 | ref p =>
  cases r;rcases ty with ⟨rfl,xs,hq⟩ | ⟨rfl,o,hk,hc,hd⟩ | ⟨rfl,hk⟩ | ⟨rfl,S,n,hk⟩
  .obtain ⟨its,_,pl,_⟩:=I.list hq;refine ⟨pl.isList.typeIs,fun a e=>?_⟩;cases e;obtain ⟨o,n,e,c,hd,_⟩:=pl;exact ⟨o,e,hd⟩
  .refine ⟨⟨o,I.kIn p o hk,hc⟩,fun a e=>?_⟩;cases e;exact ⟨o,I.kIn _ o hk,hd⟩
  .have z:∃ o,s.heap.get? p=some o/\o.ExactDict:=by
    rcases hk with ⟨kvs,hk⟩ | ⟨kvs,hk⟩
    .obtain ⟨_,_,_,_,o,_,_,e,ex,_⟩:=I.hok p _ hk;exact ⟨o,e,ex⟩
    .obtain ⟨_,_,_,_,o,_,_,e,ex,_⟩:=I.hok p _ hk;exact ⟨o,e,ex⟩
   obtain ⟨o,e,ex⟩:=z;refine ⟨⟨o,e,ex.1⟩,fun a e2=>?_⟩;cases e2;exact ⟨o,e,ex.2.1⟩
  .obtain ⟨o,_,_,_,e,ex,_⟩:=I.hok p _ hk;refine ⟨⟨o,e,ex.1⟩,fun a e2=>?_⟩;cases e2;exact ⟨o,e,ex.2.1⟩
 | _=>exact False.elim ty
def tBM (K:FG) (T:String) (r:V->List V->Hp->VK->Prop) (to:TE) (t:TA):TE:=fun σ H Q=>to σ H fun x H1=>tyV K T x H1/\t σ H1 fun xs H2=>r x xs H2 Q
variable {o e:Expr} {es:List Expr} {to:TE} {t:TA} {name:Str} {apos cpos:Pos} {T id:String} {r:V->List V->Hp->VK->Prop}
theorem Qhn (pa:PlainAttrs T) (slot:Slot T name id) (hty:typeOf (.builtin id)=pure (.type "method_descriptor")) (hm:MtR X id r) (ho:PE X o to) (ha:PA X (e::es) t)
  (hbase:attributeBase o name X.env (eval o X.env)=eval o X.env:=by rfl)
  (hfew:((backTo cpos (starEach (e::es) X.env)).all (fun x=>!x.1)&&(backToKw cpos (keywordEach [] X.env)).all (fun x=>x.1.isSome)
   && decide ((e::es).length+([]:List Keyword).length+(if ([]:List Keyword).isEmpty then 0 else 1) < 30))=true:=by rfl)
  (hline:(apos.endLine == cpos.line)=true:=by rfl) (hs:starEach (e::es) X.env=(false,eval e X.env)::starEach es X.env:=by rfl) (hplain:(backTo cpos (starEach es X.env)).any (·.1)=false:=by rfl) :
  PE X (.Call (.Attribute o name apos) (e::es) [] cpos) (tBM X.K T r to t):=by
 intro pins s σ H Q I h;refine wpAny_Call_method_late hbase hfew hline rfl (thn (ho pins s σ H _ I h) fun v s1 ⟨x,H1,I1,r1,ty,q1⟩=>?_);obtain ⟨h1,h2⟩:=Zq4 I1 r1 ty;refine ⟨T,id,pa,slot,hty,h1,h2,?_⟩;have hA:=ha cpos pins s1 σ H1 _ I1 q1;rw[hs]at hA ⊢;refine Calls.callWith_builtin (by show (false||(backTo cpos (starEach es X.env)).any (·.1))=false;rw[hplain] <;> rfl) (Calls.evalArgs_plain ?_);exact thn hA fun us s2 ⟨vs,H2,I2,r2,q2⟩=>hm pins s2 σ H2 x vs v us Q I2 r1 r2 q2
end
end L2
namespace L2
open PySem PySem.Spec PyProof.Rows
def MtM (X:Cx) (id:String) (r:V->List V->Hp->VK->Prop):Prop:=
 ∀ (pins:List (Addr × Obj)) (s:Shared) (σ:St) (H:Hp) (x:V) (xs:List V) (v:Value) (us:List Value) (Q:VK),Inv X pins σ H s->RelV x v->Vals xs us->r x xs H Q ->
  wpAny (model X.prog X.w) X.A (call (.builtin id) (v::us)) (EP X pins σ Q) X.xe s
theorem Vals.one:∀ {x:V} {us:List Value},Vals [x] us->∃ u,us=[u]/\RelV x u
 | _,_,.cons r .nil=>⟨_,rfl,r⟩
theorem Vals.two:∀ {x y:V} {us:List Value},Vals [x,y] us->∃ u v,us=[u,v]/\RelV x u/\RelV y v
 | _,_,_,.cons r (.cons q .nil)=>⟨_,_,rfl,r,q⟩
theorem Vals.zero:∀ {us:List Value},Vals [] us->us=[]
 | _,.nil=>rfl
theorem Vals.dropLast {xs:List V} {us:List Value} (h:Vals xs us):Vals xs.dropLast us.dropLast:=by
 induction h with
 | nil=>exact .nil
 | cons r t ih =>
  cases t with
  | nil=>exact .nil
  | cons q t'=>exact .cons r ih
section
variable {X:Cx} {pins:List (Addr × Obj)} {σ:St} {H:Hp} {s:Shared} {l b:Addr} {xs ys zs:List V}
theorem Inv.Ztn {its its':List Value} {n:Nat} {f:Array Value->Array Value} {t':Nat} (I:Inv X pins σ H s) (hH:H l=some (.lst xs))
  (e:s.heap.get? l=some { cls:=.type "list",data:=.seq its.toArray n }) (hf:f its.toArray=its'.toArray) (hv:Vals ys its') (hz:ys.length<=sizeLine) :
  Inv X pins σ (upd H l (.lst ys)) { s with heap:=s.heap.update l (Obj.mapSeq f),toks:=t' }:=by
 have q:=PySem.IsL.update e f;rw[hf]at q;refine I.write (x:=l) (e:=l) (by rw[hH];exact trivial) (.inl rfl) (fun b' u hb hu=>(Heap.get?_update_other s.heap (Obj.mapSeq f) (Ne.symm hb)).trans hu) ⟨_,q⟩ ?_;exact ⟨hz,its',_,hv,q⟩
theorem Inv.Zv5 {its:List Value} {t':Nat} (I:Inv X pins σ H s) (hv:Vals ys its) (hz:ys.length<=sizeLine) :
  Inv X pins σ (upd H s.heap.objs.size (.lst ys)) { s with heap:=s.heap.push { cls:=.type "list",data:=.seq its.toArray },toks:=t' }:=
 I.laid (fun _ _ q=>Heap.get?_push_of_some _ q) (Nat.le_refl _) ⟨hz,its,0,hv,Heap.get?_push_size _ rfl⟩
theorem Inv.fresh (I:Inv X pins σ H s):H s.heap.objs.size=none:=I.hok.fresh (Nat.le_refl _)
theorem Inv.Zqi (I:Inv X pins σ H s) (hH:H l=some (.lst xs)):xs.length<=sizeLine/\∃ (its:List Value) (n:Nat),Vals xs its/\xs.length=its.length/\s.heap.get? l=some { cls:=.type "list",data:=.seq its.toArray n }:=by obtain ⟨z,its,n,r,e⟩:=I.hok l _ hH;exact ⟨z,its,n,r,r.length,e⟩
theorem Za5 {n:Nat} (h:n<=sizeLine):Builtin.List.listTooLong n=false:=by unfold Builtin.List.listTooLong;exact decide_eq_false (by omega)
end
section
variable {X:Cx}
def Qrt:V->List V->Hp->VK->Prop:=fun x vs H Q=>∃ l xs y,x = .ref l/\vs=[y]/\H l=some (.lst xs)/\xs.length < sizeLine/\Q .non (upd H l (.lst (xs++[y])))
theorem Yv:MtM X "list.append" Qrt:=by intro pins s σ H x vs v us Q I rx rv h;obtain ⟨l,xs,y,rfl,rfl,hH,hz,q⟩:=h;cases rx;obtain ⟨u,rfl,ru⟩:=rv.one;obtain ⟨z,its,n,r,hl,e⟩:=I.Zqi hH;refine call_meets F.slot_list_append ⟨_,e,rfl⟩ F.entry_list_append (F.args_list_append_2 _ _) (PySem.list_append l its.toArray n u (by rw[List.size_toArray];omega)) ⟨e,?_⟩;refine ⟨.non,_,I.Ztn (its':=its++[u]) hH e (by simp) (r.append (.cons ru .nil)) ?_,rfl,q⟩;rw[List.length_append,List.length_singleton];omega
def Zff:V->List V->Hp->VK->Prop:=fun x vs H Q=>∃ l b xs zs,x = .ref l/\vs=[.ref b]/\H l=some (.lst xs)/\H b=some (.lst zs)/\xs.length+zs.length<=sizeLine/\Q .non (upd H l (.lst (xs++zs)))
theorem Qmz:MtM X "list.extend" Zff:=by
 intro pins s σ H x vs v us Q I rx rv h;obtain ⟨l,b,xs,zs,rfl,rfl,hH,hB,hz,q⟩:=h;cases rx;obtain ⟨u,rfl,ru⟩:=rv.one;cases ru;obtain ⟨z,its,n,r,hl,e⟩:=I.Zqi hH;obtain ⟨z2,its2,n2,r2,hl2,e2⟩:=I.Zqi hB;have hsz:its.toArray.size+its2.toArray.size<=sizeLine:=by rw[List.size_toArray,List.size_toArray];omega
 have Zn6:¬ (!its.toArray.isEmpty&&Builtin.List.listTooLong (its.toArray.size+its2.toArray.size))=true:=by rw[Za5 hsz,Bool.and_false];exact Bool.false_ne_true
 refine call_meets F.slot_list_extend ⟨_,e,rfl⟩ F.entry_list_extend (F.args_list_extend_2 _ _)
  (AutoSeq1.list_extend_list_list_0 l its.toArray n b its2.toArray n2 Zn6 (by rw[List.size_toArray];omega) (by omega)) ⟨e,e2,?_⟩
 refine ⟨.non,_,I.Ztn (its':=its++its2) hH e (by simp) (r.append r2) ?_,rfl,q⟩;rw[List.length_append];omega
def Zv6:R2:=fun x y H Q=>∃ l b xs zs,x = .ref l/\y = .ref b/\H l=some (.lst xs)/\H b=some (.lst zs)/\xs.length+zs.length<=sizeLine/\∀ p,H p=none->Q (.ref p) (upd H p (.lst (xs++zs)))
theorem Zfg:OpR X (binaryOp .Add) Zv6:=by
 intro pins s σ H x y v u Q I rx ry h;obtain ⟨l,b,xs,zs,rfl,rfl,hH,hB,hz,q⟩:=h;cases rx;cases ry;obtain ⟨z,its,n,r,hl,e⟩:=I.Zqi hH;obtain ⟨z2,its2,n2,r2,hl2,e2⟩:=I.Zqi hB;refine PySem.P.add_list e e2 ?_ (by rw[List.size_toArray,List.size_toArray];omega);have ea:its.toArray++its2.toArray=(its++its2).toArray:=by simp
 rw[ea];exact ⟨.ref _,_,I.Zv5 (t':=s.toks) (r.append r2) (by rw[List.length_append];omega),rfl,q _ I.fresh⟩
end
section
variable {prog:Program} {w:World} {A:Around} {E:EPr} {s:Shared}
set_option maxRecDepth 100000 in
end
section
variable {X:Cx}
end
end L2
namespace L2
open PySem PySem.Spec PyProof.Rows
theorem Vals.ints:∀ {ns:List Int} {us:List Value},Vals (ns.map V.int) us->IntsAre us ns
 | [],us,h=>by
  rw[List.map_nil]at h;cases h;exact IntsAre.nil
 | n::ns,us,h=>by
  rw[List.map_cons]at h;cases h with
  | cons r t =>obtain ⟨k,rfl⟩:=r;exact IntsAre.cons n k (Vals.ints t)
theorem Qlc:∀ {us:List Value} {ns:List Int},IntsAre us ns->Vals (ns.map V.int) us
 | _,_,.nil=>by rw[List.map_nil];exact Paired.nil
 | _,_,.cons n t h=>by rw[List.map_cons];exact Paired.cons (show RelV (V.int n) (Value.int n t) from ⟨t,rfl⟩) (Qlc h)
theorem Vals.Zu4 {a:Addr} {us:List Value} (r:Vals [V.ref a] us):us=[Value.ref a]:=by
 cases r with
 | cons r t =>cases t;cases r;rfl
section
variable {prog:Program} {w:World} {A:Around} {E:EPr} {s:Shared} {l:Addr} {its:List Value} {ns:List Int} {Q:EPr}
end
section
variable {X:Cx}
end
section
variable {X:Cx}
end
section
variable {X:Cx}
end
section
variable {X:Cx}
end
mutual
inductive Dp (K:FG) (H:Hp):V->PyData->Prop
 | non:Dp K H .non .none
 | bl (b:Bool):Dp K H (.bl b) (.bool b)
 | int (i:Int):Dp K H (.int i) (.int i)
 | str (x:Str):Dp K H (.str x) (.str x)
 | lst {a:Addr} {xs:List V} {ds:List PyData}:SqL K H a xs->Qx2 K H xs ds->Dp K H (.ref a) (.list ds)
 | tup {a:Addr} {xs:List V} {ds:List PyData}:SqT K H a xs->Qx2 K H xs ds->Dp K H (.ref a) (.tuple ds)
inductive Qx2 (K:FG) (H:Hp):List V->List PyData->Prop
 | nil:Qx2 K H [] []
 | cons {v:V} {vs:List V} {d:PyData} {ds:List PyData}:Dp K H v d->Qx2 K H vs ds->Qx2 K H (v::vs) (d::ds)
end
section
variable {X:Cx} {pins:List (Addr × Obj)} {σ:St} {H:Hp} {s:Shared}
mutual
theorem Dp.reads (I:Inv X pins σ H s):∀ (d:PyData) (v:V) (u:Value),Dp X.K H v d->RelV v u->∃ as,Reads s.heap u d as
 | .none,_,_,h,r=>by
  cases h;cases r;exact ⟨_,Reads.none⟩
 | .bool b,_,_,h,r=>by
  cases h;cases r;exact ⟨_,Reads.bool b⟩
 | .int i,_,_,h,r=>by
  cases h;obtain ⟨t,rfl⟩:=r;exact ⟨_,Reads.int i t⟩
 | .str x,_,_,h,r=>by
  cases h;obtain ⟨t,rfl⟩:=r;exact ⟨_,Reads.str x t⟩
 | .list ds,_,_,h,r=>by
  cases h with
  | lst hs ha =>cases r;obtain ⟨its,rv,⟨o,n,ho,hc,_,hd⟩,_⟩:=I.list hs;obtain ⟨as,hr⟩:=Dp.readsAll I ds _ its ha rv;exact ⟨_,Reads.list ho hc hd hr⟩
 | .tuple ds,_,_,h,r=>by
  cases h with
  | tup hs ha =>cases r;obtain ⟨its,rv,⟨o,ho,hc,n,hd⟩,_⟩:=I.tuple hs;obtain ⟨as,hr⟩:=Dp.readsAll I ds _ its ha rv;exact ⟨_,Reads.tuple ho hc hd hr⟩
 | .dict _,_,_,h,_=>by cases h
theorem Dp.readsAll (I:Inv X pins σ H s):∀ (ds:List PyData) (vs:List V) (us:List Value),Qx2 X.K H vs ds->Vals vs us->∃ as,ReadsAll s.heap us ds as
 | [],_,_,h,r=>by
  cases h;cases r;exact ⟨_,ReadsAll.nil⟩
 | d::ds,_,_,h,r=>by
  cases h with
  | cons h1 h2 =>
   cases r with
   | cons r1 r2 =>obtain ⟨as,q1⟩:=Dp.reads I d _ _ h1 r1;obtain ⟨bs,q2⟩:=Dp.readsAll I ds _ _ h2 r2;exact ⟨_,ReadsAll.cons q1 q2⟩
end
end
section
variable {X:Cx}
def Zv7 (K:FG):R2:=fun x y H Q=>∃ d e,Dp K H x d/\Dp K H y e/\SeqAt.shaped d=true/\SeqAt.shaped e=true/\Q (.bl (!PyData.eqv d e)) H
theorem Zq5 (hu:X.A.units+64 < cLine):OpR X (compareOp .NotEq) (Zv7 X.K):=by intro pins s σ H x y v u Q I rx ry h;obtain ⟨d,e,hd,he,sd,se,q⟩:=h;obtain ⟨as,r1⟩:=Dp.reads I d x v hd rx;obtain ⟨bs,r2⟩:=Dp.reads I e y u he ry;exact SeqAt.compareNe_shaped r1 r2 sd se hu ⟨.bl _,H,I,rfl,q⟩
end
end L2
namespace L2
open PySem PySem.Spec PyProof.Rows
abbrev Zms (h:Heap) (c:Addr) (v:Option Value):Prop:=h.IsCell c v
def Zv8 (scope sc:Scope):Scope:=
 { scope with names:=scope.names.map fun (n,k)=>if (k == .free&&sc.kind == .function&&sc.names.lookup n == some .cell) then (n,.cell) else (n,k) }
def Yq (cells:List (Str × Addr)):List (Str × NameKind)->List (Str × Addr)->List (Str × Addr)
 | [],acc=>acc
 | (n,k)::r,acc=>if k == .free then Yq cells r ((n,(cells.lookup n).getD 0)::acc) else Yq cells r acc
theorem Qld (env:Env) (f:Str × NameKind->List (Str × Addr)->Sem (ForInStep (List (Str × Addr))))
  (hf:∀ n k c,f (n,k) c=if k == .free then (do let a <-cellOf env n;pure (.yield ((n,a)::c))) else pure (.yield c)) :
  ∀ (names:List (Str × NameKind)) (acc:List (Str × Addr)),(∀ y ∈ names,y.2 = .free->∃ c,env.cells.lookup y.1=some c)->forIn names acc f=pure (Yq env.cells names acc)
 | [],acc,_=>by rw[List.forIn_nil];rfl
 | (n,k)::r,acc,h=>by
  rw[List.forIn_cons,hf];have ih:=fun acc=>Qld env f hf r acc fun y hy=>h y (List.mem_cons_of_mem _ hy);unfold Yq;by_cases hk:(k == NameKind.free)=true
  .rw[if_pos hk,if_pos hk];obtain ⟨c,hc⟩:=h (n,k) List.mem_cons_self (by simpa using hk);have e:cellOf env n=pure c:=by unfold cellOf;rw[hc]
   rw[e];have e2:(env.cells.lookup n).getD 0=c:=by rw[hc];rfl
   rw[e2];exact ih _
  .rw[if_neg hk,if_neg hk];exact ih _
theorem Zcn {scope:Scope} {env:Env} (h:∀ y ∈ scope.names,y.2 = .free->∃ c,env.cells.lookup y.1=some c):closureFor scope env=pure (Yq env.cells scope.names []):=by simp only[closureFor];rw[Qld env _ (fun n k c=>rfl) scope.names [] h];rfl
theorem mem_lookup {α:Type}:∀ {l:List (Str × α)} {n:Str} {c:α},(n,c) ∈ l->∃ c',l.lookup n=some c'
 | (k,v)::r,n,c,h=>by
  rw[List.lookup_cons];cases hb:n == k with
  | true=>exact ⟨_,rfl⟩
  | false =>
   rcases List.mem_cons.mp h with e | h
   .cases e;simp at hb
   .exact mem_lookup h
theorem Qev {cells:List (Str × Addr)}:∀ {names:List (Str × NameKind)} {acc:List (Str × Addr)} {n:Str} {c:Addr},(n,c) ∈ Yq cells names acc->(n,c) ∈ acc\/((n,.free) ∈ names/\c=(cells.lookup n).getD 0)
 | [],_,_,_,h=>.inl h
 | (m,k)::r,acc,n,c,h=>by
  unfold Yq at h;split at h
  .rename_i hk;have hk:k = .free:=by simpa using hk
   rcases Qev h with h | ⟨h1,h2⟩
   .rcases List.mem_cons.mp h with e | h
    .cases e;exact .inr ⟨hk ▸ List.mem_cons_self,rfl⟩
    .exact .inl h
   .exact .inr ⟨List.mem_cons_of_mem _ h1,h2⟩
  .rcases Qev h with h | ⟨h1,h2⟩
   .exact .inl h
   .exact .inr ⟨List.mem_cons_of_mem _ h1,h2⟩
theorem Qh1 {cells:List (Str × Addr)}:∀ {names:List (Str × NameKind)} {acc:List (Str × Addr)} {p:Str × Addr},p ∈ acc->p ∈ Yq cells names acc
 | [],_,_,h=>h
 | (m,k)::r,acc,p,h=>by
  unfold Yq;split
  .exact Qh1 (List.mem_cons_of_mem _ h)
  .exact Qh1 h
theorem Qh2 {cells:List (Str × Addr)}:∀ {names:List (Str × NameKind)} {acc:List (Str × Addr)} {n:Str},(n,.free) ∈ names->(n,(cells.lookup n).getD 0) ∈ Yq cells names acc
 | (m,k)::r,acc,n,h=>by
  unfold Yq;rcases List.mem_cons.mp h with e | h
  .cases e;exact Qh1 List.mem_cons_self
  .split
   .exact Qh2 h
   .exact Qh2 h
theorem Qf5:∀ {names:List (Str × NameKind)} {h:Heap} {acc:List (Str × Addr)} {x:Str} {c:Addr},(x,c) ∈ cellsFrom h.objs.size names acc ->
  (x,c) ∈ acc\/((x,.cell) ∈ names/\h.objs.size<=c/\Zms (pushCells h names) c none)
 | [],_,_,_,_,h=>.inl h
 | (n,k)::r,h,acc,x,c,hm=>by
  unfold cellsFrom at hm;unfold pushCells;split at hm
  .rename_i hk;rw[if_pos hk];have hk:k = .cell:=by simpa using hk
   rw[<-Heap.size_push h { cls:=.type "cell",data:=.cell none }]at hm;rcases Qf5 hm with hm | ⟨h1,h2,h3⟩
   .rcases List.mem_cons.mp hm with e | hm
    .cases e;exact .inr ⟨hk ▸ List.mem_cons_self,Nat.le_refl _,_,pushCells_keeps r _ _ _ (Heap.get?_push_size _ rfl),rfl⟩
    .exact .inl hm
   .rw[Heap.size_push]at h2;exact .inr ⟨List.mem_cons_of_mem _ h1,Nat.le_of_succ_le h2,h3⟩
  .rename_i hk;rw[if_neg hk];rcases Qf5 hm with hm | ⟨h1,h2,h3⟩
   .exact .inl hm
   .exact .inr ⟨List.mem_cons_of_mem _ h1,h2,h3⟩
theorem Qi9:∀ {names:List (Str × NameKind)} {n:Nat} {acc:List (Str × Addr)} {p:Str × Addr},p ∈ acc->p ∈ cellsFrom n names acc
 | [],_,_,_,h=>h
 | (m,k)::r,n,acc,p,h=>by
  unfold cellsFrom;split
  .exact Qi9 (List.mem_cons_of_mem _ h)
  .exact Qi9 h
theorem Qm0:∀ {names:List (Str × NameKind)} {n:Nat} {acc:List (Str × Addr)} {x:Str},(x,.cell) ∈ names->∃ c,(x,c) ∈ cellsFrom n names acc
 | (m,k)::r,n,acc,x,h=>by
  unfold cellsFrom;rcases List.mem_cons.mp h with e | h
  .cases e;exact ⟨n,Qi9 List.mem_cons_self⟩
  .split
   .exact Qm0 h
   .exact Qm0 h
theorem Qm1:∀ {names:List (Str × NameKind)} {h:Heap} {acc:List (Str × Addr)} {x y:Str} {c:Addr},(∀ p ∈ acc,p.2 < h.objs.size)->(∀ x y c,(x,c) ∈ acc->(y,c) ∈ acc->x=y) ->
  (x,c) ∈ cellsFrom h.objs.size names acc->(y,c) ∈ cellsFrom h.objs.size names acc->x=y
 | [],_,_,_,_,_,_,hi,h1,h2=>hi _ _ _ h1 h2
 | (n,k)::r,h,acc,x,y,c,hl,hi,h1,h2=>by
  unfold cellsFrom at h1 h2;split at h1
  .rename_i hk;rw[if_pos hk]at h2;rw[<-Heap.size_push h { cls:=.type "cell",data:=.cell none }]at h1 h2;refine Qm1 (h:=h.push _) (fun p hp=>?_) (fun x y c a b=>?_) h1 h2
   .rw[Heap.size_push];rcases List.mem_cons.mp hp with rfl | hp
    .exact Nat.lt_succ_self _
    .exact Nat.lt_succ_of_lt (hl p hp)
   .rcases List.mem_cons.mp a with e | a <;> rcases List.mem_cons.mp b with e' | b
    .cases e;cases e';rfl
    .cases e;exact absurd (hl _ b) (Nat.lt_irrefl _)
    .cases e';exact absurd (hl _ a) (Nat.lt_irrefl _)
    .exact hi _ _ _ a b
  .rename_i hk;rw[if_neg hk]at h2;exact Qm1 hl hi h1 h2
theorem Qx3 {M:Model} {A:Around} {E:EPr} {s:Shared} {scope:Scope} {globals:Addr} {closure:List (Str × Addr)} {qual:Str} {func:Option Addr} {code:Value} {around:Env} {builtins:Addr} {Q:Env->Shared->Prop}
  (h:Q (newEnv scope s.heap.objs.size globals (cellsFrom (s.heap.objs.size+1) scope.names closure) qual func code (some around) builtins)
   { s with heap:=pushCells (s.heap.push { cls:=.type "dict",data:=.dict #[] }) scope.names }) :
  wpAny M A (newFunctionEnv scope globals closure [] qual func code (some around) builtins) Q E s:=by
 simp only[newFunctionEnv,Option.isSome_some,if_true];refine wpAny_bind (wpAny_alloc ?_);refine wpAny_bind (wpAny_layCells _ (fun n k c=>rfl) scope.names closure _ _ ?_);rw[show ({ s with heap:=s.heap.push { cls:=.type "dict",data:=.dict #[] } }:Shared).heap.objs.size=s.heap.objs.size+1 from Heap.size_push ..];rw[List.forIn_nil];exact wpAny_bind (wpAny_pure (wpAny_pure h))
theorem Qh3 {sc:Scope}:∀ {names:List (Str × NameKind)} {x:Str} {k:NameKind},
  (names.map fun (n,k)=>if (k == NameKind.free&&sc.kind == .function&&sc.names.lookup n == some .cell) then (n,NameKind.cell) else (n,k)).lookup x=some k ->
  ∃ k',names.lookup x=some k' /\ (k=k' \/ (k' = .free/\k = .cell))
 | [],_,_,h=>by simp at h
 | (n,k₀)::r,x,k,h=>by
  have ih:=@Qh3 sc r x k;have h':List.lookup x ((if (k₀ == NameKind.free&&sc.kind == .function&&sc.names.lookup n == some .cell)=true then (n,NameKind.cell) else (n,k₀))::(r.map _))=some k:=h;cases hx:x == n with
  | true =>
   simp only[List.lookup_cons,hx];by_cases hc:(k₀ == NameKind.free&&sc.kind == .function&&sc.names.lookup n == some .cell)=true
   .rw[if_pos hc]at h';simp only[List.lookup_cons,hx]at h';cases h';simp only[Bool.and_eq_true,beq_iff_eq]at hc;exact ⟨k₀,rfl,.inr ⟨hc.1.1,rfl⟩⟩
   .rw[if_neg hc]at h';simp only[List.lookup_cons,hx]at h';cases h';exact ⟨_,rfl,.inl rfl⟩
  | false =>
   simp only[List.lookup_cons,hx];by_cases hc:(k₀ == NameKind.free&&sc.kind == .function&&sc.names.lookup n == some .cell)=true
   .rw[if_pos hc]at h';simp only[List.lookup_cons,hx]at h';exact ih h'
   .rw[if_neg hc]at h';simp only[List.lookup_cons,hx]at h';exact ih h'
structure Zkh (N:List Str) (sc scope:Scope) (own:List (Str × Nat)):Prop where
 kind:scope.kind = .function
 uniq:∀ y ∈ scope.names,scope.names.lookup y.1=some y.2
 ix:∀ p ∈ own,N[p.2]? = some p.1
 free:∀ y ∈ scope.names,y.2 = .free->sc.names.lookup y.1=some .cell\/sc.names.lookup y.1=some .free
 own:∀ y ∈ scope.names,y.2 = .local\/y.2 = .cell->y.1 ∈ own.map (·.1)\/y.1 ∉ N
def wipe (σ:St):List Nat->St
 | []=>σ
 | v::vs=>(wipe σ vs).set v none
theorem Qh4 (σ:St):∀ vs:List Nat,(wipe σ vs).length=σ.length
 | []=>rfl
 | v::vs=>by unfold wipe;rw[List.length_set,Qh4 σ vs]
theorem Qm2 {σ:St} {i:Nat} {x:V}:∀ {vs:List Nat},(wipe σ vs)[i]? = some (some x)->σ[i]? = some (some x)/\i ∉ vs
 | [],h=>⟨h,by simp⟩
 | v::vs,h=>by
  unfold wipe at h;by_cases hi:v=i
  .subst hi;by_cases hv:v < (wipe σ vs).length
   .rw[List.getElem?_set_self hv]at h;cases h
   .rw[List.getElem?_eq_none (by simpa using hv)]at h;cases h
  .rw[List.getElem?_set_ne hi]at h;obtain ⟨h1,h2⟩:=Qm2 h;exact ⟨h1,by simp only[List.mem_cons,not_or];exact ⟨fun e=>hi e.symm,h2⟩⟩
abbrev Cx.blk (X:Cx) (s:Shared) (H:Hp) (scope:Scope) (cenv:Env) (fp:List Addr):Cx:={ X with s_0:=s,H_0:=H,env:=cenv,outer:=X.stack,ex:=fp,fn:=fun x=>scope.names.lookup x == some .cell,pn:=[],xe:=fun _ _=>False }
section
variable {X:Cx} {pins:List (Addr × Obj)} {σ:St} {H:Hp} {s:Shared}
theorem Qx4 {scope:Scope} {own:List (Str × Nat)} {fp:List Addr} (I:Inv X pins σ H s) (ok:Zkh X.N X.env.scope scope own) (hN:X.N.Nodup) (hfp:∀ b ∈ fp,Zei X pins H b/\b < s.heap.objs.size) :
  Inv (X.blk s H scope (compEnvC scope (cellsFrom (s.heap.objs.size+1) scope.names (Yq X.env.cells scope.names [])) s.heap.objs.size X.env) fp) [] (wipe σ (own.map (·.2))) H { s with heap:=pushCells (s.heap.push { cls:=.type "dict",data:=.dict #[] }) scope.names }:=by
 have hfree:∀ y ∈ scope.names,y.2 = .free->∃ c,X.env.cells.lookup y.1=some c:=fun y hy e=>by
  rcases ok.free y hy e with k | k
  .exact I.ok.has _ (.inl k)
  .exact I.ok.has _ (.inr k)
 generalize Zfh:compEnvC scope (cellsFrom (s.heap.objs.size+1) scope.names (Yq X.env.cells scope.names [])) s.heap.objs.size X.env=cenv;have kp:∀ b o,s.heap.get? b=some o->(pushCells (s.heap.push { cls:=.type "dict",data:=.dict #[] }) scope.names).get? b=some o:=fun b o e=>pushCells_keeps _ _ _ _ (Heap.get?_push_of_some _ e);have hL:cenv.locals=s.heap.objs.size:=by rw[<-Zfh];rfl
 have hcl:cenv.cells=cellsFrom (s.heap.objs.size+1) scope.names (Yq X.env.cells scope.names []):=by rw[<-Zfh];rfl
 have hsc:cenv.scope=Zv8 scope X.env.scope:=by rw[<-Zfh];rfl
 rw[<-Heap.size_push s.heap { cls:=.type "dict",data:=.dict #[] }]at hcl;have cm:∀ {y c},(y,c) ∈ Yq X.env.cells scope.names []->X.env.cells.lookup y=some c/\c < s.heap.objs.size:=fun {y c} hm=>by
  rcases Qev hm with hm | ⟨h1,rfl⟩
  .cases hm
  .obtain ⟨c,hc⟩:=hfree _ h1 rfl;rw[hc];obtain ⟨w,z⟩:=I.cell _ _ hc;exact ⟨rfl,z.lt⟩
 have mem:∀ {y c},cenv.cells.lookup y=some c->(X.env.cells.lookup y=some c/\c < s.heap.objs.size)\/(s.heap.objs.size+1<=c/\Zms (pushCells (s.heap.push { cls:=.type "dict",data:=.dict #[] }) scope.names) c none):=fun {y c} e=>by
  rw[hcl]at e;rcases Qf5 (PySem.mem_of_lookup e) with hm | ⟨_,h2,h3⟩
  .exact .inl (cm hm)
  .rw[Heap.size_push]at h2;exact .inr ⟨h2,h3⟩
 have look:∀ {y},scope.names.lookup y=some .free->∃ c,cenv.cells.lookup y=some c/\X.env.cells.lookup y=some c:=fun {y} hl=>by
  have hy:(y,NameKind.free) ∈ scope.names:=PySem.mem_of_lookup hl;obtain ⟨c',e'⟩:=mem_lookup (Qi9 (names:=scope.names) (n:=(s.heap.push { cls:=.type "dict",data:=.dict #[] }).objs.size) (Qh2 (cells:=X.env.cells) (acc:=[]) hy));rw[<-hcl]at e';refine ⟨c',e',?_⟩;rw[hcl]at e';rcases Qf5 (PySem.mem_of_lookup e') with hm | ⟨h1,_,_⟩
  .exact (cm hm).1
  .have:=ok.uniq _ h1
   rw[hl]at this;cases this
 have okB:(X.blk s H scope cenv fp).Ok:=by
  refine ⟨I.ok.mod,by show cenv.scope.kind=_;rw[hsc];exact ok.kind,by show cenv.globals=_;rw[<-Zfh];exact I.ok.glob,by show cenv.builtins=_;rw[<-Zfh];exact I.ok.blt,by show s.heap.objs.size<=cenv.locals;rw[hL];exact Nat.le_refl _,
   fun y z c e1 e2=>?_,fun y hy=>?_,fun y c z e=>?_,I.ok.hd,I.ok.frames,.inl rfl,fun b hb=>⟨?_,fun y c e z=>?_⟩,I.bs,Nat.le_trans I.ok.bsz I.sz,fun b o e hb=>?_,fun b hb z=>?_,I.stack,I.Zeo⟩
  .have e1:cenv.cells.lookup y=some c:=e1;have e2:cenv.cells.lookup z=some c:=e2;rw[hcl]at e1 e2;refine Qm1 (fun p hp=>?_) (fun y z c a b=>I.ok.inj y z c (cm a).1 (cm b).1) (PySem.mem_of_lookup e1) (PySem.mem_of_lookup e2);rw[Heap.size_push];exact Nat.lt_succ_of_lt (cm (y:=p.1) (c:=p.2) hp).2
  .show ∃ c,cenv.cells.lookup y=some c;have key:∀ k,cenv.kindOf y=some k->(k = .cell\/k = .free)->∃ c,cenv.cells.lookup y=some c:=fun k hk hk'=>by
    unfold Env.kindOf at hk;rw[hsc]at hk;obtain ⟨k',e,r⟩:=Qh3 hk
    have:k' = .cell\/k' = .free:=by
     rcases r with rfl | ⟨rfl,_⟩
     .exact hk'
     .exact .inr rfl
    rcases this with rfl | rfl
    .obtain ⟨c,hm⟩:=Qm0 (n:=(s.heap.push { cls:=.type "dict",data:=.dict #[] }).objs.size) (acc:=Yq X.env.cells scope.names []) (PySem.mem_of_lookup e);obtain ⟨c',e'⟩:=mem_lookup hm;exact ⟨c',by rw[hcl];exact e'⟩
    .obtain ⟨c,h1,_⟩:=look e;exact ⟨c,h1⟩
   rcases hy with hy | hy
   .exact key _ hy (.inl rfl)
   .exact key _ hy (.inr rfl)
  .have z:(scope.names.lookup y == some NameKind.cell)=true:=z;have z:scope.names.lookup y=some .cell:=by simpa using z
   have e:cenv.cells.lookup y=some c:=e;rw[hcl]at e;rcases Qf5 (PySem.mem_of_lookup e) with hm | ⟨_,h2,_⟩
   .rcases Qev hm with hm | ⟨h1,_⟩
    .cases hm
    .have q:=ok.uniq _ h1;rw[z]at q;cases q
   .rw[Heap.size_push]at h2;exact Nat.le_of_succ_le h2
  .show b ≠ cenv.locals;rw[hL];exact Nat.ne_of_lt (hfp b hb).2
  .have e:cenv.cells.lookup y=some c:=e;rcases mem e with ⟨h1,_⟩ | ⟨h1,_⟩
   .exact (hfp b hb).1.2.2.2.2.1 y c h1 z
   .have h2:s.heap.objs.size+1<=b:=by rw[<-z];exact h1
    exact absurd (Nat.lt_of_lt_of_le (hfp b hb).2 (Nat.le_of_succ_le h2)) (Nat.lt_irrefl _)
  .rcases (hfp b hb).1.2.2.2.1 with z | z
   .exact I.ok.Zqr b o e z
   .exact absurd (Nat.lt_of_lt_of_le (Heap.lt_size e) (Nat.le_trans I.ok.bsz z)) (Nat.lt_irrefl _)
  .rcases List.mem_cons.mp (I.Zen b z) with z | z
   .exact (hfp b hb).1.2.1 z
   .exact (hfp b hb).1.2.2.1 z
 refine ⟨okB,rfl,I.bare,Un.kept kp,⟨fun _=>none,?_,fun i y av e1 e2 e3=>?_⟩,fun y c e=>?_,?_,fun y c e=>?_,fun p hp=>?_,I.hok.kept kp,by rw[Qh4];exact I.len⟩
 .show Heap.Ns _ cenv.locals _;rw[hL];exact Heap.Ns.keeps (Heap.Ns.new ..) fun b o e=>pushCells_keeps _ _ _ _ e
 .obtain ⟨e2,hne⟩:=Qm2 e2;have hfr:scope.names.lookup y=some .free/\(cenv.kindOf y=some .cell\/cenv.kindOf y=some .free):=by
   have key:∀ k,cenv.scope.names.lookup y=some k->k = .local\/k = .cell\/k = .free->scope.names.lookup y=some .free/\(cenv.kindOf y=some .cell\/cenv.kindOf y=some .free):=fun k hk hk'=>by
    have hk0:=hk;rw[hsc]at hk;obtain ⟨k',e,r⟩:=Qh3 hk;have no:¬ (k' = .local\/k' = .cell):=fun hh=>by
     rcases ok.own _ (PySem.mem_of_lookup e) hh with e' | e'
     .obtain ⟨p,hp,hpy⟩:=List.mem_map.mp e';have e3:=ok.ix p hp
      have:p.1=y:=hpy
      rw[this]at e3;exact hne (List.mem_map.mpr ⟨p,hp,Qro hN e3 e1⟩)
     .exact e' (List.mem_of_getElem? e1)
    rcases r with rfl | ⟨rfl,rfl⟩
    .rcases hk' with rfl | rfl | rfl
     .exact absurd (.inl rfl) no
     .exact absurd (.inr rfl) no
     .exact ⟨e,.inr hk0⟩
    .exact ⟨e,.inl hk0⟩
   have e3:Vis cenv.scope y:=e3;rcases e3 with e3 | e3 | e3
   .exact key _ e3 (.inl rfl)
   .exact key _ e3 (.inr (.inl rfl))
   .exact key _ e3 (.inr (.inr rfl))
  obtain ⟨m,hn,hl⟩:=I.loc;have Zv9:Vis X.env.scope y:=(ok.free _ (PySem.mem_of_lookup hfr.1) rfl).elim (fun k=>.inr (.inl k)) (fun k=>.inr (.inr k));obtain ⟨w,r,q⟩:=hl i y av e1 e2 Zv9;refine ⟨w,r,.inr ⟨hfr.2,?_⟩⟩;obtain ⟨c,h1,h2⟩:=look hfr.1;rcases q with ⟨k,_⟩ | ⟨_,c',e',z⟩
  .have k:X.env.scope.names.lookup y=some .local:=k;rcases ok.free _ (PySem.mem_of_lookup hfr.1) rfl with k' | k' <;> rw[show X.env.scope.names.lookup y=_ from k']at k <;> cases k
  .rw[h2]at e';cases e';exact ⟨c,h1,z.keeps kp⟩
 .have e:cenv.cells.lookup y=some c:=e;rcases mem e with ⟨h1,_⟩ | ⟨_,z⟩
  .obtain ⟨w,z⟩:=I.cell y c h1;exact ⟨w,z.keeps kp⟩
  .exact ⟨_,z⟩
 .show H cenv.locals=none;rw[hL];exact I.hok.fresh (Nat.le_refl _)
 .have e:cenv.cells.lookup y=some c:=e;rcases mem e with ⟨h1,_⟩ | ⟨h1,_⟩
  .exact I.Qmt y c h1
  .exact I.hok.fresh (Nat.le_of_succ_le h1)
 .exact absurd (show p ∈ ([]:List (Addr × Obj))++[] from hp) (by simp)
theorem Zq6 {E:EPr} {D:Addr} {xs:List V} {y:V} {v:Value} {Q:EPr} (I:Inv X pins σ H s) (hD:H D=some (.lst xs)) (hz:xs.length < sizeLine) (r:RelV y v)
  (h:∀ s',Inv X pins σ (upd H D (.lst (xs++[y]))) s' -> Q .none s'):wpAny (model X.prog X.w) X.A (call (.builtin "list.append") [.ref D,v]) Q E s:=by
 obtain ⟨hz',its,n,ri,e⟩:=I.hok D _ hD;have hl:=ri.length;refine append_at (hsz:=by rw[List.size_toArray];omega) e fun h' sb ho'=>?_;refine h { s with heap:=h' } (I.write (t':=s.toks) (by rw[hD];trivial) (.inl rfl) (fun b u hb q=>(sb.2 b hb).trans q) ⟨_,ho'⟩ ⟨by rw[List.length_append];exact hz,its++[v],n+1,ri.append (.cons r .nil),?_⟩);rw[ho'];simp
def PTs (X:Cx) (ifs:List Expr) (t:TT):Prop:=
 ∀ (pins:List (Addr × Obj)) (s:Shared) (σ:St) (H:Hp) (Q:Bool->Hp->Prop),Inv X pins σ H s->t σ H Q ->
  wpAny (model X.prog X.w) X.A (forIn ifs true fun c r=>if r=true then do let ok <-isTrue c X.env (eval c X.env);pure (ForInStep.yield ok) else pure (ForInStep.yield r)) (TP X pins σ Q) X.xe s
def Zwa:TT:=fun _ H Q=>Q true H
theorem Qx5:PTs X [] Zwa:=fun _ _ _ H _ I h=>wpAny_tests_nil ⟨H,I,h⟩
theorem Zfi {c:Expr} {t:TT} (h:PT X c t):PTs X [c] t:=fun pins s σ H Q I hw=>wpAny_tests_one (h pins s σ H Q I hw)
end
theorem Zqj {α:Type} {t:Sem α} {Q Q':α->Shared->Prop} {M:Model} {A:Around} {E:EPr} {s:Shared} (h:wpAny M A t Q (fun _ _=>False) s) (hQ:∀ a s,Q a s->Q' a s):wpAny M A t Q' E s:=wpAny_mono h hQ fun _ _ z=>False.elim z
theorem Qt9 {prog:Program} {w:World} {A:Around} {R:Result->Shared->Prop} {s:Shared} {elt target iter:Expr} {ifs:List Expr} {scope:Scope} {pos:Pos} {it acc:Value} {env:Env} (I:Nat->Shared->Prop)
  (turn:∀ n s,I n s->wpAny (model prog w) A (pyNext it) (fun r s₁=>match r with
   | none=>R (.ok .next) s₁
   | some v=>wpAny (model prog w) A (letOwnedTupleGo target it v) (fun _ s₁'=>wpAny (model prog w) A (assign target env v) (fun _ s₂ =>
     wpAny (model prog w) A (forIn ifs true fun c r=>if r=true then do let ok <-isTrue c env (eval c env);pure (ForInStep.yield ok) else pure (ForInStep.yield r)) (fun ok s₃ =>
      if ok=true then wpAny (model prog w) A (eval elt env) (fun x s₄ =>
       wpAny (model prog w) A (call (.builtin "list.append") [acc,x]) (fun _ s₅=>∃ m,m < n/\I m s₅) (notedBy (model prog w) A env fun e s'=>R (.error e) s') s₄) (notedBy (model prog w) A env fun e s'=>R (.error e) s') s₃
      else ∃ m,m < n/\I m s₃) (notedBy (model prog w) A env fun e s'=>R (.error e) s') s₂) (notedBy (model prog w) A env fun e s'=>R (.error e) s') s₁') (notedBy (model prog w) A env fun e s'=>R (.error e) s') s₁) (notedBy (model prog w) A env fun e s'=>R (.error e) s') s)
  (n:Nat) (h:I n s) :
  codeAny (model prog w) A (.compLoop (.ListComp elt [⟨target,iter,ifs,0⟩] scope pos) 0 it acc env) R s:=by
 refine codeAny_loop rfl I (fun n s hI=>?_) n h;show wpAny _ A ((compTurn (.ListComp elt [⟨target,iter,ifs,0⟩] scope pos) 0 it acc env).onRaise (fun x=>do noteFrame x env;theTreesLotGoes x)) _ _ s;refine wpAny_noted ?_;rw[compTurn_list];refine wpAny_bind (wpAny_standAt (wpAny_bind (wpAny_mono (turn n s hI) (fun r s₁ h₁=>?_) fun _ _ h'=>h')));cases r with
 | none=>exact wpAny_pure h₁
 | some v =>
  refine wpAny_bind (wpAny_mono h₁ (fun _ s₁' h₁'=>?_) fun _ _ h'=>h');refine wpAny_bind (wpAny_mono h₁' (fun _ s₂ h₂=>wpAny_bind (wpAny_mono h₂ (fun ok s₃ h₃=>?_) fun _ _ h'=>h')) fun _ _ h'=>h');cases ok with
  | false=>exact wpAny_pure ⟨rfl,h₃⟩
  | true =>exact wpAny_bind (wpAny_bind (wpAny_mono h₃ (fun x s₄ h₄=>wpAny_bind (wpAny_mono h₄ (fun _ s₅ h₅=>wpAny_pure (wpAny_pure ⟨rfl,h₅⟩)) fun _ _ h'=>h')) fun _ _ h'=>h'))
section
variable {X:Cx}
def tLc (wi:TI) (g:TG) (tt:TT) (te:TE) (vs:List Nat):TE:=fun σ H Q=>wi σ H fun J H1=>∀ D,H1 D=none->∃ W:Nat->Nat->Hp->Prop,(∃ m,W 0 m (upd H1 D (.lst [])))/\∀ i m H,W i m H ->
 (J.stop i H/\Q (.ref D) H)\/(J.go i H/\∃ Nx:Hp->Prop,(∀ H',Nx H' -> ∃ m',m' < m/\W (i+1) m' H')/\∀ x H',J.yld i H x H' -> g x (wipe σ vs) H' fun σ2 H2=>wipe σ2 vs=wipe σ vs/\tt σ2 H2 fun b H3 =>
  if b=true then te σ2 H3 fun y H4=>∃ acc,H4 D=some (.lst acc)/\acc.length < sizeLine/\Nx (upd H4 D (.lst (acc++[y]))) else Nx H3)
theorem Zn7 {pins:List (Addr × Obj)} {s:Shared} {σ:St} {H:Hp} {Q:VK} {elt tg iter:Expr} {ifs:List Expr} {scope:Scope} {own:List (Str × Nat)} {pos pos':Pos} {wi:TI} {g:TG} {tt:TT} {te:TE} {use:Option (Value->Sem Unit)} {Qf:EPr}
  (hc:X.calm=true) (hN:X.N.Nodup) (I:Inv X pins σ H s) (hi:PI X tg iter wi) (ok:Zkh X.N X.env.scope scope own)
  (hg:∀ (s:Shared) (H:Hp) (C:Addr) (cl:List (Str × Addr)) (fp:List Addr),PG (X.blk s H scope (compEnvC scope cl C X.env) fp) tg g) (ht:∀ (s:Shared) (H:Hp) (C:Addr) (cl:List (Str × Addr)) (fp:List Addr),PTs (X.blk s H scope (compEnvC scope cl C X.env) fp) ifs tt)
  (he:∀ (s:Shared) (H:Hp) (C:Addr) (cl:List (Str × Addr)) (fp:List Addr),PE (X.blk s H scope (compEnvC scope cl C X.env) fp) elt te) (hs:∀ x,foldedSetIterable iter X.env x=pure x)
  (h:tLc wi g tt te (own.map (·.2)) σ H Q)
  (hRR:∀ D C s' m H',Inv X pins σ H' s' -> Q (.ref D) H' -> s'.heap.Ns C m->Zei X pins H' C->compPost (model X.prog X.w) X.A X.xe use Qf (.ref D) C (.ok .next) s') :
  wpAny (model X.prog X.w) X.A (comprehension (.ListComp elt [⟨tg,iter,ifs,0⟩] scope pos) scope X.env pos' (newList []) false (eval iter X.env) use) Qf X.xe s:=by
 have hfree:∀ y ∈ scope.names,y.2 = .free->∃ c,X.env.cells.lookup y.1=some c:=fun y hy e=>by
  rcases ok.free y hy e with k | k
  .exact I.ok.has _ (.inl k)
  .exact I.ok.has _ (.inr k)
 refine wpAny_comprehension_free (use:=use) rfl hs (Zcn hfree) ok.kind (fun y hy e=>by rw[ok.uniq y hy,e])
  (thn (hi pins s σ H _ I h) fun xv s1 hx=>thn hx fun itv s2 h2=>?_)
 obtain ⟨it,fp,tn,J,H2,e,I2,T,st2,f2,q⟩:=h2;subst e;refine wpAny_newObj_type (Qx3 ?_) (by show 0<=sizeLine;decide);generalize hD:s2.heap.objs.size=D;have hDn:H2 D=none:=I2.hok.fresh (Nat.le_of_eq hD);obtain ⟨W,⟨m0,w0⟩,turn⟩:=q D hDn;generalize hs3:({ s2 with heap:=s2.heap.push { cls:=.type "list",data:=.seq ([]:List Value).toArray } }:Shared)=s3;have I3:Inv X pins σ (upd H2 D (.lst [])) s3:=by rw[<-hs3];refine I2.laid (t':=s2.toks) (fun b o e=>Heap.get?_push_of_some _ e) (Nat.le_of_eq hD) ⟨Nat.zero_le _,[],0,.nil,?_⟩;rw[<-hD];exact Heap.get?_push_size _ rfl
 have h3:s3.heap=s2.heap.push { cls:=.type "list",data:=.seq ([]:List Value).toArray }:=by rw[<-hs3]
 have sz:∀ b ∈ fp,b < s2.heap.objs.size:=fun b hb=>by
  obtain ⟨o,e,_⟩:=T.obj _ _ st2 b hb;exact Heap.lt_size e
 have f3:∀ b ∈ fp,Zei X pins (upd H2 D (.lst [])) b/\b < s3.heap.objs.size:=fun b hb=>by
  have hlt:=sz b hb;refine ⟨⟨?_,(f2 b hb).2⟩,by rw[h3,Heap.size_push];exact Nat.lt_succ_of_lt hlt⟩;rw[Ql (by rw[<-hD];exact Nat.ne_of_lt hlt)];exact (f2 b hb).1
 have st3:tn 0 s3.heap:=T.keep _ _ _ st2 fun b _ o e=>by rw[h3];exact Heap.get?_push_of_some _ e
 have I4:=Qx4 I3 ok hN f3;have pg:=hg s3 (upd H2 D (.lst [])) s3.heap.objs.size (cellsFrom (s3.heap.objs.size+1) scope.names (Yq X.env.cells scope.names [])) fp;have pt:=ht s3 (upd H2 D (.lst [])) s3.heap.objs.size (cellsFrom (s3.heap.objs.size+1) scope.names (Yq X.env.cells scope.names [])) fp;have pe:=he s3 (upd H2 D (.lst [])) s3.heap.objs.size (cellsFrom (s3.heap.objs.size+1) scope.names (Yq X.env.cells scope.names [])) fp;show codeAny _ _ (.compStart (.ListComp elt [⟨tg,iter,ifs,0⟩] scope pos) 0 (.ref it) (.ref D) (compEnvC scope (cellsFrom (s3.heap.objs.size+1) scope.names (Yq X.env.cells scope.names [])) s3.heap.objs.size X.env)) (compPost (model X.prog X.w) X.A X.xe use Qf (.ref D) s3.heap.objs.size) { s3 with heap:=pushCells (s3.heap.push { cls:=.type "dict",data:=.dict #[] }) scope.names };have nfp:∀ b ∈ fp,(upd H2 D (.lst [])) b=none:=fun b hb=>(f3 b hb).1.1;generalize hce:compEnvC scope (cellsFrom (s3.heap.objs.size+1) scope.names (Yq X.env.cells scope.names [])) s3.heap.objs.size X.env=ce at I4 pg pt pe ⊢;have cL:ce.locals=s3.heap.objs.size:=by subst hce;rfl
 generalize hH3:upd H2 D (.lst [])=H3 at I3 I4 pg pt pe w0 nfp f3;generalize hs4:({ s3 with heap:=pushCells (s3.heap.push { cls:=.type "dict",data:=.dict #[] }) scope.names }:Shared)=s4 at I4 ⊢;have st4:tn 0 s4.heap:=T.keep _ _ _ st3 fun b _ o e=>by rw[<-hs4];exact pushCells_keeps _ _ _ _ (Heap.get?_push_of_some _ e)
 have Zns:∀ {σ':St} {H':Hp} {s':Shared},Inv (X.blk s3 H3 scope ce fp) [] σ' H' s' -> (∀ b ∈ fp,H' b=none)->∀ b ∈ fp,Zei (X.blk s3 H3 scope ce fp) [] H' b:=fun {σ' H' s'} I' hn b hb =>
  ⟨hn b hb,(I'.ok.exf b hb).1,I'.ok.Zqs b hb,.inl hb,fun x c e=>(I'.ok.exf b hb).2 x c e,fun p hp=>absurd (show p ∈ ([]:List (Addr × Obj))++[] from hp) (by simp)⟩
 have loop:codeAny (model X.prog X.w) X.A (.compLoop (.ListComp elt [⟨tg,iter,ifs,0⟩] scope pos) 0 (.ref it) (.ref D) ce) (compPost (model X.prog X.w) X.A X.xe use Qf (.ref D) s3.heap.objs.size) s4:=by
  refine Qt9 (fun n s'=>∃ i H',Inv (X.blk s3 H3 scope ce fp) [] (wipe σ (own.map (·.2))) H' s' /\ tn i s'.heap/\(∀ b ∈ fp,H' b=none)/\W i n H') ?_ m0 ⟨0,H3,I4,st4,nfp,w0⟩
  rintro n s5 ⟨i,H5,I5,st5,n5,w5⟩
  rcases turn i n H5 w5 with ⟨stop,qq⟩ | ⟨go,Nx,hNx,step⟩
  .have td:=T.done (X.blk s3 H3 scope ce fp) rfl rfl rfl hc i [] s5 _ H5 (fun _ _=>False) I5 (Zns I5 n5) st5 stop;refine Zqj td fun r s6 ⟨hr,I6⟩=>?_;subst hr;have I7:Inv X pins σ H5 s6:=I3.Ztb (ch:=fp) I6.os I6.base I6.hok I6.bare fun b hb=>⟨(f3 b hb).1.2.2.2.1,(f3 b hb).1.2.1,(f3 b hb).1.2.2.2.2.1,(f3 b hb).1.2.2.2.2.2⟩
   have nC:H5 s3.heap.objs.size=none:=by have z:H5 ce.locals=none:=I6.free;rw[cL]at z;exact z
   obtain ⟨m,hn,_⟩:=I6.loc;have hn:s6.heap.Ns ce.locals m:=hn;rw[cL]at hn;exact hRR D s3.heap.objs.size s6 m H5 I7 qq hn (I3.Zmn (Nat.le_refl _) nC)
  .have ti:=T.item (X.blk s3 H3 scope ce fp) rfl rfl rfl hc i [] s5 _ H5 (fun _ _=>False) I5 (Zns I5 n5) st5 go;refine Zqj ti fun r s6 ⟨u,hr,h6⟩=>?_;subst hr;refine Zqj h6 fun _ s7 ⟨x,H7,I7,r7,y7,st7,n7⟩=>?_;have I7':=I7.pinned (Zns I7 n7) (T.obj _ _ st7)
   refine Zqj (pg _ s7 _ H7 x u _ I7' r7 (step x H7 y7)) fun _ s8 ⟨σ8,H8,I8,hw8,q8⟩=>?_;refine Zqj (pt _ s8 σ8 H8 _ I8 q8) fun b s9 ⟨H9,I9,q9⟩=>?_;have fin:∀ {s':Shared} {H':Hp},Inv (X.blk s3 H3 scope ce fp) ([]++Qt2 fp s7.heap) σ8 H' s' -> Nx H' -> ∃ m,m < n/\∃ i H',Inv (X.blk s3 H3 scope ce fp) [] (wipe σ (own.map (·.2))) H' s' /\ tn i s'.heap/\(∀ b ∈ fp,H' b=none)/\W i m H':=fun {s' H'} I' nx=>by
    obtain ⟨m',hm,w'⟩:=hNx H' nx;have Zu5:∀ b ∈ fp,∀ o,s7.heap.get? b=some o->s'.heap.get? b=some o/\H' b=none:=fun b hb o e =>
     let z:=I'.pin (b,o) (List.mem_append_right _ (List.mem_append_right _ (Qkj hb e)))
     ⟨z.1,z.2.1⟩
    have hl:(wipe σ (own.map (·.2))).length=σ8.length:=by rw[<-hw8,Qh4]
    refine ⟨m',hm,i+1,H',(I'.Qmn (pins:=[])).weak hl (fun j v e=>?_),T.keep _ _ _ st7 fun b hb o e=>(Zu5 b hb o e).1,fun b hb=>?_,w'⟩
    .rw[<-hw8]at e;exact (Qm2 e).1
    .obtain ⟨o,e,_⟩:=T.obj _ _ st7 b hb;exact (Zu5 b hb o e).2
   cases b with
   | false =>simp only[Bool.false_eq_true,if_false]at q9 ⊢;exact fin I9 q9
   | true =>simp only[if_true]at q9 ⊢;refine Zqj (pe _ s9 σ8 H9 _ I9 q9) fun z s10 ⟨yv,H10,I10,r10,acc,Zwb,Zwc,nx⟩=>?_;exact Zq6 (X:=X.blk s3 H3 scope ce fp) I10 Zwb Zwc r10 fun s11 I11=>fin I11 nx
 exact codeAny_compStart_list loop (T.self X.A 0 _ _ _ st4 loop)
theorem Zfj {elt tg iter:Expr} {ifs:List Expr} {scope:Scope} {own:List (Str × Nat)} {pos:Pos} {wi:TI} {g:TG} {tt:TT} {te:TE} (hc:X.calm=true) (hN:X.N.Nodup) (hi:PI X tg iter wi) (ok:Zkh X.N X.env.scope scope own)
  (hg:∀ (s:Shared) (H:Hp) (C:Addr) (cl:List (Str × Addr)) (fp:List Addr),PG (X.blk s H scope (compEnvC scope cl C X.env) fp) tg g) (ht:∀ (s:Shared) (H:Hp) (C:Addr) (cl:List (Str × Addr)) (fp:List Addr),PTs (X.blk s H scope (compEnvC scope cl C X.env) fp) ifs tt)
  (he:∀ (s:Shared) (H:Hp) (C:Addr) (cl:List (Str × Addr)) (fp:List Addr),PE (X.blk s H scope (compEnvC scope cl C X.env) fp) elt te) (hs:∀ x,foldedSetIterable iter X.env x=pure x:=by intro _;rfl) :
  PE X (.ListComp elt [⟨tg,iter,ifs,0⟩] scope pos) (tLc wi g tt te (own.map (·.2))):=by
 intro pins s σ H Q I h;rw[eval_ListComp];refine Zn7 hc hN I hi ok hg ht he hs h fun D C s' m H' I' q hn f=>⟨m,hn,fun h'' sb=>?_⟩
 obtain ⟨f0,f1,f2,f3,f4,f5⟩:=f;exact ⟨.ref D,H',I'.turned (t':=s'.toks) (fun b o hb e=>(sb.2 b hb).trans e) f0 f1 f3 f4 f5,rfl,q⟩
end
theorem Qx6 {K:FG} {a:Addr} {xs:List V} {g:TG} {tt:TT} {te:TE} {vs:List Nat} {σ:St} {H1:Hp} {D:Addr} {Qd:Hp->Prop} (Pv:Nat->Hp->Prop) (h0:Pv 0 (upd H1 D (.lst []))) (hl:∀ i H,i<=xs.length->Pv i H->SqL K H a xs)
  (hs:∀ i x H,xs[i]? = some x->Pv i H->g x (wipe σ vs) H fun σ2 H2=>wipe σ2 vs=wipe σ vs/\tt σ2 H2 fun b H3 =>
   if b=true then te σ2 H3 fun y H4=>∃ acc,H4 D=some (.lst acc)/\acc.length < sizeLine/\Pv (i+1) (upd H4 D (.lst (acc++[y]))) else Pv (i+1) H3) (hd:∀ H,Pv xs.length H->Qd H) :
  ∃ W:Nat->Nat->Hp->Prop,(∃ m,W 0 m (upd H1 D (.lst [])))/\∀ i m H,W i m H ->
   ((Itl K a).stop i H/\Qd H)\/((Itl K a).go i H/\∃ Nx:Hp->Prop,(∀ H',Nx H' -> ∃ m',m' < m/\W (i+1) m' H')/\∀ x H',(Itl K a).yld i H x H' -> g x (wipe σ vs) H' fun σ2 H2=>wipe σ2 vs=wipe σ vs/\tt σ2 H2 fun b H3 =>
    if b=true then te σ2 H3 fun y H4=>∃ acc,H4 D=some (.lst acc)/\acc.length < sizeLine/\Nx (upd H4 D (.lst (acc++[y]))) else Nx H3):=by
 refine ⟨fun i m H=>m=xs.length - i/\i<=xs.length/\Pv i H,⟨xs.length,by simp,Nat.zero_le _,h0⟩,?_⟩
 rintro i m H ⟨rfl,hi,p⟩
 have q:=hl i H hi p;by_cases hlt:i < xs.length
 .refine .inr ⟨⟨xs,xs[i],q,by simp[hlt]⟩,Pv (i+1),fun H' p'=>⟨xs.length - (i+1),by omega,rfl,hlt,p'⟩,fun x H' y=>?_⟩;obtain ⟨e,y⟩:=y;subst e;exact hs i x _ (y xs q) p
 .have e:i=xs.length:=by omega
  subst e;exact .inl ⟨⟨xs,q,Nat.le_refl _⟩,hd H p⟩
def Zn8 (N:List Str) (sc scope:Scope) (own:List (Str × Nat)):Bool:=
 (match scope.kind with | .function=>true | _=>false)&&(scope.names.all fun y=>decide (scope.names.lookup y.1=some y.2))&&(own.all fun p=>decide (N[p.2]? = some p.1)) &&
  (scope.names.all fun y=>match y.2 with
   | .free=>(match sc.names.lookup y.1 with | some .cell=>true | some .free=>true | _=>false)
   | .local=>decide (y.1 ∈ own.map (·.1))||decide (y.1 ∉ N)
   | .cell=>decide (y.1 ∈ own.map (·.1))||decide (y.1 ∉ N)
   | _=>true)
theorem Qja {N:List Str} {sc scope:Scope} {own:List (Str × Nat)} (h:Zn8 N sc scope own=true):Zkh N sc scope own:=by
 unfold Zn8 at h;simp only[Bool.and_eq_true,List.all_eq_true,decide_eq_true_eq]at h;obtain ⟨⟨⟨h1,h2⟩,h3⟩,h4⟩:=h;refine ⟨?_,h2,h3,fun y hy e=>?_,fun y hy e=>?_⟩
 .split at h1
  .assumption
  .cases h1
 .have q:=h4 y hy;simp only[e]at q;split at q <;> first | exact .inl (by assumption) | exact .inr (by assumption) | cases q
 .have q:=h4 y hy;rcases e with e | e <;> (simp only[e,Bool.or_eq_true,decide_eq_true_eq]at q;exact q)
end L2
namespace L2
open PySem PySem.Spec PyProof.Rows
section
variable {prog:Program} {w:World} {A:Around} {R:Result->Shared->Prop} {s:Shared} {elt t0 i0 t1 i1:Expr} {Zw3 Zw4:List Expr} {scope:Scope} {pos:Pos} {it acc:Value} {env:Env}
end
section
variable {X:Cx}
end
end L2
namespace L2
open PySem PySem.Spec PyProof.Rows
section
variable {κ:Type} [DecidableEq κ]
def Qxs (kvs:List (κ × V)) (k:κ):Option V:=(kvs.find? fun kv=>decide (kv.1=k)).map (·.2)
def putK (kvs:List (κ × V)) (k:κ) (v:V):List (κ × V):=
 if (kvs.any fun kv=>decide (kv.1=k))=true then kvs.map (fun kv=>if kv.1=k then (kv.1,v) else kv) else kvs++[(k,v)]
def Zq7 (kvs:List (κ × V)) (k:κ):List (κ × V):=kvs.filter fun kv=>decide (kv.1 ≠ k)
theorem Qru {p:κ × V} {r:List (κ × V)} {k:κ} (e:p.1=k):Qxs (p::r) k=some p.2:=by simp[Qxs,List.find?_cons,e]
theorem Qrv {p:κ × V} {r:List (κ × V)} {k:κ} (e:¬ p.1=k):Qxs (p::r) k=Qxs r k:=by simp[Qxs,List.find?_cons,e]
theorem Za6 (k:κ):∀ kvs:List (κ × V),(kvs.any fun kv=>decide (kv.1=k))=(Qxs kvs k).isSome
 | []=>rfl
 | p::r=>by
  rw[List.any_cons];by_cases e:p.1=k
  .simp only[Qru e,decide_eq_true e,Bool.true_or,Option.isSome_some]
  .rw[Qrv e,decide_eq_false e,Bool.false_or];exact Za6 k r
theorem Qm3 (kvs:List (κ × V)) (k:κ) (v:V):(putK kvs k v).length<=kvs.length+1:=by
 unfold putK;split
 .rw[List.length_map];omega
 .rw[List.length_append,List.length_cons,List.length_nil];omega
theorem Qtw.Zfk {o:Option V} {u:Option Value} (r:Qtw o u):o.isSome=u.isSome:=by
 cases o with
 | none=>cases u with
  | none=>rfl
  | some _=>exact (show False from r).elim
 | some _=>cases u with
  | none=>exact (show False from r).elim
  | some _=>rfl
theorem Qtw.getD {o:Option V} {u:Option Value} {d:V} {d':Value} (r:Qtw o u) (rd:RelV d d'):RelV (o.getD d) (u.getD d'):=by
 cases o with
 | none=>cases u with
  | none=>exact rd
  | some _=>exact (show False from r).elim
 | some _=>cases u with
  | none=>exact (show False from r).elim
  | some _=>exact r
theorem KV.val {kvs:List (κ × V)} {vs:List (κ × Value)} (r:KV kvs vs) (k:κ):Qtw (Qxs kvs k) (valueAt vs k):=by
 unfold KV at r
 induction r with
 | nil=>exact True.intro
 | @cons p q ps qs h t ih =>
  obtain ⟨h1,h2⟩:=h;by_cases e:p.1=k
  .have e':q.1=k:=h1.symm.trans e;have b:valueAt (q::qs) k=some q.2:=by simp[valueAt,List.find?_cons,e']
   rw[Qru e,b];exact h2
  .have e':¬ q.1=k:=fun z=>e (h1.trans z);have b:valueAt (q::qs) k=valueAt qs k:=by simp[valueAt,List.find?_cons,e']
   rw[Qrv e,b];exact ih
theorem KV.any {kvs:List (κ × V)} {vs:List (κ × Value)} (r:KV kvs vs) (k:κ):(kvs.any fun kv=>decide (kv.1=k))=vs.any fun kv=>decide (kv.1=k):=by
 unfold KV at r
 induction r with
 | nil=>rfl
 | cons h t ih=>rw[List.any_cons,List.any_cons,ih,h.1]
theorem KV.repl {kvs:List (κ × V)} {vs:List (κ × Value)} (r:KV kvs vs) (k:κ) {y:V} {u:Value} (ry:RelV y u) :
  KV (kvs.map fun kv=>if kv.1=k then (kv.1,y) else kv) (vs.map fun kv=>if kv.1=k then (kv.1,u) else kv):=by
 unfold KV at r ⊢
 induction r with
 | nil=>exact .nil
 | @cons p q ps qs h t ih =>
  rw[List.map_cons,List.map_cons];refine .cons ?_ ih;obtain ⟨h1,h2⟩:=h;by_cases e:p.1=k
  .rw[if_pos e,if_pos (h1.symm.trans e)];exact ⟨h1,ry⟩
  .rw[if_neg e,if_neg (fun z=>e (h1.trans z))];exact ⟨h1,h2⟩
theorem KV.put {kvs:List (κ × V)} {vs:List (κ × Value)} (r:KV kvs vs) (k:κ) {y:V} {u:Value} (ry:RelV y u):KV (putK kvs k y) (stored vs k u):=by
 unfold putK stored;rw[r.any k];by_cases e:(vs.any fun kv=>decide (kv.1=k))=true
 .rw[if_pos e,if_pos e];exact r.repl k ry
 .rw[if_neg e,if_neg e];exact Paired.snoc r ⟨rfl,ry⟩
theorem KV.drop {kvs:List (κ × V)} {vs:List (κ × Value)} (r:KV kvs vs) (k:κ):KV (Zq7 kvs k) (without vs k):=by
 unfold KV at r ⊢;unfold Zq7 without
 induction r with
 | nil=>exact .nil
 | @cons p q ps qs h t ih =>
  obtain ⟨h1,h2⟩:=h;rw[List.filter_cons,List.filter_cons];by_cases e:p.1=k
  .have a:¬ decide (p.1 ≠ k)=true:=by simp[e]
   have b:¬ decide (q.1 ≠ k)=true:=by simp[h1.symm.trans e]
   rw[if_neg a,if_neg b];exact ih
  .have e':¬ q.1=k:=fun z=>e (h1.trans z);have a:decide (p.1 ≠ k)=true:=by simp[e]
   have b:decide (q.1 ≠ k)=true:=by simp[e']
   rw[if_pos a,if_pos b];exact .cons ⟨h1,h2⟩ ih
theorem KV.length {kvs:List (κ × V)} {vs:List (κ × Value)} (r:KV kvs vs):kvs.length=vs.length:=Paired.length r
end
theorem Zki {P:Program} {w:World} {k:Key} {u:Value} (r:RelV (kV k) u):(Jp P w).is k u=true:=by
 cases k with
 | inl i=>obtain ⟨t,e⟩:=(show ∃ t,u=Value.int i t from r);subst e;exact Qxw P w i t
 | inr x=>obtain ⟨t,e⟩:=(show ∃ t,u=Value.str x t from r);subst e;exact Qxx P w x t
theorem Qua {P:Program} {w:World}:∀ {ks:List Key} {us:List Value},Vals (ks.map kV) us->ItemsAre (Jp P w) ks us
 | [],_,r=>by rw[List.map_nil]at r;cases r;exact .nil
 | k::ks,_,r=>by
  rw[List.map_cons]at r;cases r with
  | cons h t=>exact .cons (Zki h) (Qua t)
abbrev KT (H:Hp):List (List Key × V)->List (List Key × Addr × Value)->Prop:=Paired fun p q=>p.1=q.1/\H q.2.1=some (.tup (p.1.map kV))/\RelV p.2 q.2.2
theorem KT.val {H:Hp} {kvs:List (List Key × V)} {xs:List (List Key × Addr × Value)} (r:KT H kvs xs) (k:List Key):Qtw (Qxs kvs k) ((atKey xs k).map (·.2)):=by
 induction r with
 | nil=>exact True.intro
 | @cons p q ps qs h t ih =>
  obtain ⟨h1,_,h2⟩:=h;by_cases e:p.1=k
  .have e':q.1=k:=h1.symm.trans e;have b:atKey (q::qs) k=some q.2:=by simp[atKey,List.find?_cons,e']
   rw[Qru e,b];exact h2
  .have e':¬ q.1=k:=fun z=>e (h1.trans z);have b:atKey (q::qs) k=atKey qs k:=by simp[atKey,List.find?_cons,e']
   rw[Qrv e,b];exact ih
theorem KT.repl {H:Hp} {kvs:List (List Key × V)} {xs:List (List Key × Addr × Value)} (r:KT H kvs xs) (k:List Key) {y:V} {u:Value} (ry:RelV y u) :
  KT H (kvs.map fun kv=>if kv.1=k then (kv.1,y) else kv) (xs.map (putAt k u)):=by
 induction r with
 | nil=>exact .nil
 | @cons p q ps qs h t ih =>
  rw[List.map_cons,List.map_cons];refine .cons ?_ ih;obtain ⟨h1,h2,h3⟩:=h;unfold putAt;by_cases e:p.1=k
  .rw[if_pos e,if_pos (h1.symm.trans e)];exact ⟨h1,h2,ry⟩
  .rw[if_neg e,if_neg (fun z=>e (h1.trans z))];exact ⟨h1,h2,h3⟩
theorem KT.put {H:Hp} {kvs:List (List Key × V)} {xs:List (List Key × Addr × Value)} (r:KT H kvs xs) (k:List Key) {b:Addr} {y:V} {u:Value} (hb:H b=some (.tup (k.map kV))) (ry:RelV y u) :
  KT H (putK kvs k y) (storedH xs k b u):=by
 have e:(kvs.any fun kv=>decide (kv.1=k))=(atKey xs k).isSome:=by rw[Za6,(r.val k).Zfk,Option.isSome_map]
 unfold putK storedH;rw[e];by_cases q:(atKey xs k).isSome=true
 .rw[if_pos q,if_pos q];exact r.repl k ry
 .rw[if_neg q,if_neg q];exact Paired.snoc r ⟨rfl,hb,ry⟩
theorem KT.keeps {H H':Hp} {kvs:List (List Key × V)} {xs:List (List Key × Addr × Value)} (r:KT H kvs xs) (ht:∀ b ys,H b=some (.tup ys)->H' b=some (.tup ys)):KT H' kvs xs:=
 Paired.Zta r fun _ _ z=>⟨z.1,ht _ _ z.2.1,z.2.2⟩
section
variable {P:Program} {w:World} {H:Hp} {h:Heap} {a:Addr}
theorem Zq8 {u:HO} (ok:HOk P w H h) (e:Rd H a u):Qbj P w H h a u:=e.ok ok
theorem Zfl {kvs:List (Key × V)} (ok:HOk P w H h) (e:Rd H a (.dK kvs)):kvs.length<=sizeLine/\(a == sysModules)=false/\∃ vs,KV kvs vs/\h.DictOf (Jp P w) a vs:=
 show Qbj P w H h a (.dK kvs) from Zq8 ok e
theorem Zq9 {kvs:List (Key × V)} (ok:HOk P w H h) (e:H a=some (.dK kvs)):kvs.length<=sizeLine/\(a == sysModules)=false/\∃ vs,KV kvs vs/\h.DictOf (Jp P w) a vs:=Zfl ok (.inl e)
theorem Za7 {ks:List Key} (ok:HOk P w H h) (e:H a=some (.tup (ks.map kV))):(tupleKind (Jp P w)).is h ks a:=by
 obtain ⟨_,its,r,o,h1,h2,n,h3⟩:=(show Qbj P w H h a (.tup (ks.map kV)) from ok a _ e)
 exact ⟨o,its.toArray,n,h1,h2,h3,by simpa using Qua r⟩
theorem Zfm {kvs:List (List Key × V)} (ok:HOk P w H h) (e:Rd H a (.dT kvs)):kvs.length<=sizeLine/\(a == sysModules)=false /\
  ∃ xs,KT H kvs xs/\h.DictOfH (tupleKind (Jp P w)) a xs:=by
 obtain ⟨z,y,xs,r,o,es,ep,h1,h2,h3,h4,h5⟩:=(show Qbj P w H h a (.dT kvs) from Zq8 ok e)
 refine ⟨z,y,xs,r,o,es,ep,h1,h2,h3,h4,fun x hx=>?_,h5⟩;have all:∀ {l:List (List Key × V)} {m:List (List Key × Addr × Value)},KT H l m->∀ x ∈ m,(tupleKind (Jp P w)).is h x.1 x.2.1:=by
  intro l m q
  induction q with
  | nil=>intro x hx;exact nomatch hx
  | @cons p q ps qs hq t ih =>
   intro x hx;rcases List.mem_cons.mp hx with e | hx
   .subst e;exact Za7 ok (by rw[<-hq.1];exact hq.2.1)
   .exact ih x hx
 exact all r x hx
theorem Zto {kvs:List (List Key × V)} (ok:HOk P w H h) (e:H a=some (.dT kvs)):kvs.length<=sizeLine/\(a == sysModules)=false /\
  ∃ xs,KT H kvs xs/\h.DictOfH (tupleKind (Jp P w)) a xs:=Zfm ok (.inl e)
end
def Zco (H:Hp) (a:Addr) (y:V) (r:Option V):Prop:=
 (∃ kvs k,Rd H a (.dK kvs)/\y=kV k/\r=Qxs kvs k)\/∃ kvs k b,Rd H a (.dT kvs)/\y = .ref b/\H b=some (.tup (k.map kV))/\r=Qxs kvs k
def Zmt (H:Hp) (a:Addr) (y v:V) (H':Hp):Prop:=
 (∃ kvs k,H a=some (.dK kvs)/\y=kV k/\kvs.length < sizeLine/\H' = upd H a (.dK (putK kvs k v))) \/
 ∃ kvs k b,H a=some (.dT kvs)/\y = .ref b/\H b=some (.tup (k.map kV))/\kvs.length < sizeLine/\H' = upd H a (.dT (putK kvs k v))
theorem Zco.k {H:Hp} {a:Addr} {kvs:List (Key × V)} {k:Key} (e:H a=some (.dK kvs)):Zco H a (kV k) (Qxs kvs k):=.inl ⟨kvs,k,.inl e,rfl,rfl⟩
theorem Zco.t {H:Hp} {a b:Addr} {kvs:List (List Key × V)} {k:List Key} (e:H a=some (.dT kvs)) (eb:H b=some (.tup (k.map kV))):Zco H a (.ref b) (Qxs kvs k):=.inr ⟨kvs,k,b,.inl e,rfl,eb,rfl⟩
theorem Zmt.k {H:Hp} {a:Addr} {kvs:List (Key × V)} {k:Key} {v:V} (e:H a=some (.dK kvs)) (hl:kvs.length < sizeLine):Zmt H a (kV k) v (upd H a (.dK (putK kvs k v))):=.inl ⟨kvs,k,e,rfl,hl,rfl⟩
theorem Zmt.t {H:Hp} {a b:Addr} {kvs:List (List Key × V)} {k:List Key} {v:V} (e:H a=some (.dT kvs)) (eb:H b=some (.tup (k.map kV))) (hl:kvs.length < sizeLine) :
  Zmt H a (.ref b) v (upd H a (.dT (putK kvs k v))):=.inr ⟨kvs,k,b,e,rfl,eb,hl,rfl⟩
section
variable {X:Cx} {pins:List (Addr × Obj)} {σ:St} {H:Hp} {s:Shared} {a:Addr} {y v:V} {u r:Value} {o:Option V} {A:Around} {E:EPr}
theorem Inv.big (I:Inv X pins σ H s):sysModules < s.heap.objs.size:=by have h:mainGlobals < s.heap.objs.size:=(I.mod.glob.keeps I.bk).lt;exact Nat.lt_trans (by decide) h
theorem Zfn {Q:EPr} (hu:A.units+1 < cLine) (I:Inv X pins σ H s) (g:Zco H a y (some v)) (ry:RelV y u) (h:∀ w' s',Inv X pins σ H s' -> RelV v w' -> Q w' s') :
  wpAny (model X.prog X.w) A (getItem (.ref a) u) Q E s:=by
 rcases g with ⟨kvs,k,e,ey,l⟩ | ⟨kvs,k,b,e,ey,eb,l⟩
 .subst ey;obtain ⟨z,hd,vs,rel,dd⟩:=Zfl I.hok e;obtain ⟨w',hw,rw'⟩:=Qtw.some_of (v:=v) (o:=valueAt vs k) (by rw[l];exact rel.val k);exact wpAny_getItem_of (Zki ry) dd.mapOf hw (h w' _ (I.tok _) rw')
 .subst ey;cases (show u=Value.ref b from ry);obtain ⟨z,hd,xs,rel,dd⟩:=Zfm I.hok e;obtain ⟨w',hw,rw'⟩:=Qtw.some_of (v:=v) (o:=(atKey xs k).map (·.2)) (by rw[l];exact rel.val k);obtain ⟨p,hp,hp2⟩:=Option.map_eq_some_iff.mp hw;refine wpAny_getItem_heap (tupleKind_room_in1 hu) (Za7 I.hok eb) dd hp ?_;rw[hp2];exact h w' _ (I.tok _) rw'
theorem Zfo {h':Heap} {t':Nat} {ob:HO} (I:Inv X pins σ H s) (mu:Mut (H a)) (hs:Heap.SameBut a s.heap h') (he:∃ q,h'.get? a=some q) (new:Qbj X.prog X.w (upd H a ob) h' a ob) :
  Inv X pins σ (upd H a ob) { s with heap:=h',toks:=t' }:=
 I.write (x:=a) (e:=a) mu (.inl rfl) (fun b q hb z=>(hs.2 b hb).trans z) he new
theorem Zra {P:Program} {w:World} {H':Hp} {h':Heap} {kvs:List (Key × V)} {vs:List (Key × Value)} (z:kvs.length<=sizeLine) (hd:(a == sysModules)=false) (rel:KV kvs vs) (dd:h'.DictOf (Jp P w) a vs) :
  Qbj P w H' h' a (.dK kvs):=⟨z,hd,vs,rel,dd⟩
theorem Zfp {H':Hp} {Q:Unit->Shared->Prop} (hu:A.units+1 < cLine) (I:Inv X pins σ H s) (g:Zmt H a y v H') (ry:RelV y u) (rv:RelV v r) (h:∀ s',Inv X pins σ H' s' -> Q () s') :
  wpAny (model X.prog X.w) A (setItem (.ref a) u r) Q E s:=by
 rcases g with ⟨kvs,k,e,ey,l,eH⟩ | ⟨kvs,k,b,e,ey,eb,l,eH⟩
 .subst ey eH;obtain ⟨z,hd,vs,rel,dd⟩:=Zq9 I.hok e;have hz:vs.length<=sizeLine:=by rw[<-rel.length];exact z
  have hl:(putK kvs k v).length<=sizeLine:=by have:=Qm3 kvs k v;omega
  refine wpAny_setItem_pairs (hsz:=hz) (Zki ry) dd fun h' dd' hs=>h _ ?_;have he:∃ q,h'.get? a=some q:=let ⟨q,_,_,hq,_⟩:=dd';⟨q,hq⟩
  exact Zfo I (by rw[e];exact True.intro) hs he (Zra hl hd (rel.put k rv) dd')
 .subst ey eH;cases (show u=Value.ref b from ry);obtain ⟨z,hd,xs,rel,dd⟩:=Zto I.hok e;have hz:xs.length<=sizeLine:=by rw[<-Paired.length rel];exact z
  have hl:(putK kvs k v).length<=sizeLine:=by have:=Qm3 kvs k v;omega
  refine wpAny_setItem_heap (hsz:=hz) (tupleKind_room_in1 hu) (Za7 I.hok eb) dd fun h' dd' hs=>h _ ?_;obtain ⟨q,es,ep,hq,h2,h3,h4,_,h5⟩:=dd';refine Zfo I (by rw[e];exact True.intro) hs ⟨q,hq⟩ ⟨hl,hd,_,(rel.put k eb rv).keeps fun c ys ec=>?_,q,es,ep,hq,h2,h3,h4,h5⟩;rw[Ql (Yu ec e (fun z=>nomatch z))];exact ec
end
section
variable {X:Cx} {pins:List (Addr × Obj)} {σ:St} {H:Hp} {s:Shared} {a:Addr} {kvs:List (Key × V)} {k:Key} {u:Value} {A:Around} {E:EPr}
end
def Zu6 (i:Expr):Prop:=∀ ov iv,subscripted i false ov iv=operate [ov,iv] (getItem ov iv)
theorem Zn9 {prog:Program} {w:World} {A:Around} {E:EPr} {s:Shared} {env:Env} {value slice:Expr} {pos:Pos} {T id:String} {Q:EPr}
  (hl:typeLookup (.type T) "__getitem__" = pure (some (.builtin id))) (hs:Zu6 slice)
  (h:wpAny (model prog w) A (eval value env) (fun o s₁=>wpAny (model prog w) A (eval slice env) (fun i s₂=>s₂.TypeIs o T/\wpAny (model prog w) A (getItem o i) Q E s₂) E s₁) E s) :
  wpAny (model prog w) A (eval (.Subscript value slice pos) env) Q E s:=by
 refine Subscript_ (wpAny_mono h (fun o s₁ h₁=>wpAny_mono h₁ (fun i s₂ h₂=>?_) fun _ _ x=>x) fun _ _ x=>x);obtain ⟨hT,h₂⟩:=h₂;unfold subscriptTail;refine wpAny_bind ?_;rw[getitemInPython_of_ne hT.not_modules];refine wpAny_bind (wpAny_specialOf hT hl ?_);have fin:wpAny (model prog w) A (subscripted slice false o i) (fun r s₃=>wpAny (model prog w) A (letTemporaryGo value o r >>= fun _=>pure r) Q E s₃) E s₂:=by rw[hs o i];exact wpAny_operating (wpAny_mono h₂ (fun r s₃ h₃=>wpAny_bind (wpAny_letTemporaryGo (wpAny_pure h₃))) fun _ _ x=>x)
 first
  | exact wpAny_pure (wpAny_bind fin)
  | exact wpAny_bind (wpAny_pure (wpAny_bind fin))
  | exact wpAny_bind fin
theorem Qx7 {X:Cx} {pins:List (Addr × Obj)} {σ:St} {H:Hp} {s:Shared} {a:Addr} {y:V} {o:Option V} (I:Inv X pins σ H s) (g:Zco H a y o):s.TypeIs (.ref a) "dict":=by
 rcases g with ⟨kvs,k,e,_,_⟩ | ⟨kvs,k,b,e,_,_,_⟩
 .obtain ⟨_,_,vs,_,dd⟩:=Zfl I.hok e;exact dd.typeIs
 .obtain ⟨_,_,xs,_,dd⟩:=Zfm I.hok e;exact dd.typeIs
def Ztp (td ty:TE):TE:=fun σ H Q=>td σ H fun x H1=>ty σ H1 fun y H2=>∃ a v,x = .ref a/\Zco H2 a y (some v)/\Q v H2
def Ztq (td ty tv:TE):TS:=fun D σ H=>tv σ H fun v H1=>td σ H1 fun x H2=>ty σ H2 fun y H3=>∃ a H4,x = .ref a/\Zmt H3 a y v H4/\D.nx σ H4
section
variable {X:Cx} {o i e value:Expr} {pos pos' tpos:Pos} {td ty tv:TE}
theorem Zoa (hu:X.A.units+1 < cLine) (ho:PE X o td) (hi:PE X i ty) (hs:Zu6 i):PE X (.Subscript o i pos) (Ztp td ty):=by intro pins s σ H Q I h;refine Zn9 PySem.F.slot_dict_getitem.lookup hs (thn (ho pins s σ H _ I h) fun u s1 ⟨x,H1,I1,rx,q1⟩=>thn (hi pins s1 σ H1 _ I1 q1) fun iv s2 ⟨y,H2,I2,ry,a,v,ex,g,q2⟩=>?_);subst ex;obtain rfl:u=Value.ref a:=rx;exact ⟨Qx7 I2 g,Zfn hu I2 g ry fun w' s3 I3 rw'=>⟨v,H2,I3,rw',q2⟩⟩
theorem Zfq (hu:X.A.units+1 < cLine) (ho:PE X o td) (hi:PE X i ty) (hv:PE X value tv) (hs:swapsWith value (some (.Subscript o i pos')) pos.line X.env=pure false) :
  PS X (.Assign [.Subscript o i pos'] value pos) (Ztq td ty tv):=by
 intro pins s σ H D I h;refine wpAny_Assign_Subscript (thn (hv pins s σ H _ I h) fun r s1 ⟨v,H1,I1,rv,q1⟩=>thn (ho pins s1 σ H1 _ I1 q1) fun u s2 ⟨x,H2,I2,rx,q2⟩=>thn (hi pins s2 σ H2 _ I2 q2) fun iv s3 ⟨y,H3,I3,ry,a,H4,ex,g,q3⟩=>?_) hs;subst ex;obtain rfl:u=Value.ref a:=rx;exact Zfp hu I3 g ry rv fun s4 I4=>⟨σ,H4,I4,q3⟩
end
theorem Zkj {P:Program} {w:World} {H:Hp} (h:Heap) (hb:sysModules < h.objs.size):Qbj P w H (h.push { cls:=.type "dict",data:=.dict #[] }) h.objs.size (.dK []):=
 ⟨Nat.zero_le _,beq_eq_false_iff_ne.mpr (Ne.symm (Nat.ne_of_lt hb)),[],.nil,Heap.DictOf.new h⟩
def Zrb:TE:=fun _ H Q=>∀ p,H p=none->Q (.ref p) (upd H p (.dK []))
section
variable {X:Cx} {pos:Pos}
theorem Zkk:PE X (.Dict [] [] pos) Zrb:=fun pins s σ H Q I h =>
 wpAny_Dict_empty ⟨.ref s.heap.objs.size,_,I.laid (a:=s.heap.objs.size) (o:=.dK []) (t':=s.toks) (fun _ _ q=>Heap.get?_push_of_some _ q) (Nat.le_refl _) (Zkj s.heap I.big),rfl,h _ (I.hok.fresh (Nat.le_refl _))⟩
end
structure M2 (X:Cx) (o:Expr) (m:Str) (apos:Pos) (e f:Expr) (cpos:Pos):Prop where
 base:attributeBase o m X.env (eval o X.env)=eval o X.env
 few:((backTo cpos (starEach [e,f] X.env)).all (fun x=>!x.1)&&(backToKw cpos (keywordEach [] X.env)).all (fun x=>x.1.isSome)
  && decide (([e,f]:List Expr).length+([]:List Keyword).length+(if ([]:List Keyword).isEmpty then 0 else 1) < 30))=true
 line:(apos.endLine == cpos.line)=true
 trees:backTo cpos (starEach [e,f] X.env)=[(false,eval e X.env),(false,eval f X.env)]
def IsD (H:Hp) (a:Addr):Prop:=(∃ kvs,Rd H a (.dK kvs))\/∃ kvs,Rd H a (.dT kvs)
theorem Zrc {X:Cx} {pins:List (Addr × Obj)} {σ:St} {H:Hp} {s:Shared} {a:Addr} (I:Inv X pins σ H s) (d:IsD H a) :
  s.TypeIs (.ref a) "dict" /\ (∀ b,Value.ref a = .ref b->∃ ob,s.heap.get? b=some ob/\ob.dict=none)/\(a == sysModules)=false:=by
 rcases d with ⟨kvs,e⟩ | ⟨kvs,e⟩
 .obtain ⟨_,hd,vs,_,dd⟩:=Zfl I.hok e;refine ⟨dd.typeIs,fun b q=>?_,hd⟩;cases q;obtain ⟨ob,_,_,h1,h2,_⟩:=dd;exact ⟨ob,h1,h2.2.1⟩
 .obtain ⟨_,hd,xs,_,dd⟩:=Zfm I.hok e;refine ⟨dd.typeIs,fun b q=>?_,hd⟩;cases q;obtain ⟨ob,_,_,h1,h2,_⟩:=dd;exact ⟨ob,h1,h2.2.1⟩
section
variable {X:Cx} {pins:List (Addr × Obj)} {σ:St} {H:Hp} {s:Shared} {a:Addr} {y d:V} {u r:Value} {o:Option V} {A:Around} {E:EPr}
theorem Zrd {Q:EPr} (hu:A.units+1 < cLine) (I:Inv X pins σ H s) (g:Zco H a y o) (ry:RelV y u) (rd:RelV d r) (h:∀ w' s',Inv X pins σ H s' -> RelV (o.getD d) w' -> Q w' s') :
  wpAny (model X.prog X.w) A (call (.builtin "dict.get") [.ref a,u,r]) Q E s:=by
 rcases g with ⟨kvs,k,e,ey,l⟩ | ⟨kvs,k,b,e,ey,eb,l⟩
 .subst ey;obtain ⟨z,hd,vs,rel,dd⟩:=Zfl I.hok e;refine call_meetsIn PySem.F.slot_dict_get dd.typeIs PySem.F.entry_dict_get (PySem.F.args_dict_get_3 _ _ _) (meets_dict_get_default (Jp X.prog X.w) a (Zki ry) hd r) ⟨_,dd.mapOf,h _ _ (I.tok _) ?_⟩;rw[l];exact (rel.val k).getD rd
 .subst ey;cases (show u=Value.ref b from ry);obtain ⟨z,hd,xs,rel,dd⟩:=Zfm I.hok e;refine call_meetsIn PySem.F.slot_dict_get dd.typeIs PySem.F.entry_dict_get (PySem.F.args_dict_get_3 _ _ _) (meetsH_dict_get_default (tupleKind (Jp X.prog X.w)) a b hd r) ⟨tupleKind_room_in1 hu,k,xs,Za7 I.hok eb,dd,h _ _ (I.tok _) ?_⟩;rw[l];exact (rel.val k).getD rd
end
def Zre (td ty tx:TE):TE:=fun σ H Q=>td σ H fun x H1=>∃ a,x = .ref a/\IsD H1 a/\ty σ H1 fun y H2=>tx σ H2 fun z H3=>∃ o,Zco H3 a y o/\Q (o.getD z) H3
section
variable {X:Cx} {o e f:Expr} {apos cpos:Pos} {td ty tx:TE}
theorem Za8 (hu:X.A.units+1 < cLine) (ho:PE X o td) (he:PE X e ty) (hf:PE X f tx) (m:M2 X o "get" apos e f cpos):PE X (.Call (.Attribute o "get" apos) [e,f] [] cpos) (Zre td ty tx):=by
 intro pins s σ H Q I h;refine wpAny_Call_method m.base m.few m.line PySem.F.plainAttrs_dict PySem.F.slot_dict_get PySem.F.type_dict_get (thn (ho pins s σ H _ I h) fun u s1 ⟨x,H1,I1,rx,a,ex,d,q1⟩=>?_);subst ex;obtain rfl:u=Value.ref a:=rx;obtain ⟨t1,t2,_⟩:=Zrc I1 d;refine ⟨t1,t2,?_⟩;rw[m.trees]
 refine Calls.callWith_builtin rfl (Calls.evalArgs_plain (Calls.spliced_cons (thn (he pins s1 σ H1 _ I1 q1) fun iv s2 ⟨y,H2,I2,ry,q2⟩ =>
  Calls.spliced_cons (thn (hf pins s2 σ H2 _ I2 q2) fun fv s3 ⟨z,H3,I3,rz,ov,g,q3⟩=>Calls.spliced_nil ?_))))
 exact Zrd hu I3 g ry rz fun w' s4 I4 rw'=>⟨_,H3,I4,rw',q3⟩
end
section
variable {X:Cx} {pins:List (Addr × Obj)} {σ:St} {H:Hp} {s:Shared} {a:Addr} {kvs:List (Key × V)} {A:Around} {E:EPr}
end
section
variable {X:Cx} {pins:List (Addr × Obj)} {σ:St} {H:Hp} {s:Shared} {a:Addr} {y:V} {u:Value} {A:Around} {E:EPr}
end
end L2
namespace L2
open PySem PySem.Spec PyProof.Rows
section
variable {prog:Program} {w:World} {A:Around} {E:EPr}
end
section
variable {X:Cx}
end
end L2
namespace L2
open PySem PySem.Spec PyProof.Rows
section
variable {X:Cx} {pins:List (Addr × Obj)} {σ:St} {H:Hp} {s:Shared} {h':Heap}
theorem Inv.Zob {t':Nat} {ch:List Addr} (I:Inv X pins σ H s) (k:∀ b o,b ∉ ch->s.heap.get? b=some o->h'.get? b=some o) (hf:∀ b ∈ ch,Zei X pins H b):Inv X pins σ H { s with heap:=h',toks:=t' }:=by
 have nit:∀ b u,H b=some u->b ∉ ch:=fun b u e z=>by
  have q:=(hf b z).1;rw[q]at e;cases e
 refine I.step (g':=s.gens) (d':=s.drawn) (ch:=ch) (fun b hb=>⟨(hf b hb).2.2.2.1,(hf b hb).2.1,(hf b hb).2.2.2.2.1,(hf b hb).2.2.2.2.2⟩) (fun b o _ _ hc e _=>k b o hc e) (fun b o _ _ hc e _=>⟨o.slots,k b o hc e⟩)
  (fun _ _ _ _ n=>n) (fun b o hc e=>⟨o,k b o hc e⟩) (fun _ _ e=>e) (fun _ _ _ e=>e) (fun b ps e=>⟨#[],by rw[e];simp⟩) (fun m hm=>?_) (fun b u e=>?_) I.bare
 .obtain ⟨o,es,ep,ho,r⟩:=hm;exact ⟨o,es,ep,k _ o (fun z=>(hf _ z).2.1 rfl) ho,r⟩
 .refine (I.hok b u e).stay (fun c v hc q=>k c v ?_ q) (fun _ q=>q) fun _ _ q=>q;rcases hc with z | z
  .rw[z];exact nit b u e
  .exact nit c _ z
theorem Inv.Qm4 {t':Nat} {ch:List Addr} {T:Addr} {ob:HO} (I:Inv X pins σ H s) (k:∀ b o,b ∉ ch->s.heap.get? b=some o->h'.get? b=some o) (hf:∀ b ∈ ch,Zei X pins H b) (hT:s.heap.objs.size<=T)
  (new:Qbj X.prog X.w (upd H T ob) h' T ob):Inv X pins σ (upd H T ob) { s with heap:=h',toks:=t' }:=by
 have hn:H T=none:=I.hok.fresh hT;have nit:∀ b u,H b=some u->b ∉ ch:=fun b u e z=>by
  have q:=(hf b z).1;rw[q]at e;cases e
 refine I.step (g':=s.gens) (d':=s.drawn) (ch:=ch) (fun b hb=>⟨(hf b hb).2.2.2.1,(hf b hb).2.1,(hf b hb).2.2.2.2.1,(hf b hb).2.2.2.2.2⟩) (fun b o _ _ hc e _=>k b o hc e) (fun b o _ _ hc e _=>⟨o.slots,k b o hc e⟩)
  (fun b o _ e n=>?_) (fun b o hc e=>⟨o,k b o hc e⟩) (fun b xs e=>?_) (fun b o u e=>?_) (fun b ps e=>⟨#[],?_⟩) (fun m hm=>?_) (fun b u e=>?_) I.bare
 .rw[Ql (Nat.ne_of_lt (Nat.lt_of_lt_of_le (Heap.lt_size e) hT))];exact n
 .rw[Ql (Qg e hn)];exact e
 .rw[Ql (Qg e hn)];exact e
 .rw[Ql (Qg e hn),e];simp
 .obtain ⟨o,es,ep,ho,r⟩:=hm;exact ⟨o,es,ep,k _ o (fun z=>(hf _ z).2.1 rfl) ho,r⟩
 .by_cases hb:b=T
  .subst hb;rw[Qk]at e;cases e;exact new
  .rw[Ql hb]at e;refine (I.hok b u e).stay (fun c v hc q=>k c v ?_ q) (fun c q=>by rw[Ql (Qg q hn)];exact q) fun c xs q=>by rw[Ql (Qg q hn)];exact q
   rcases hc with z | z
   .rw[z];exact nit b u e
   .exact nit c _ z
end
section
variable {X:Cx}
theorem Zmu {tg:Expr} {pins:List (Addr × Obj)} {σ:St} {H:Hp} {s:Shared} {R:It->Hp->Prop} {J:It} {tn:Nat->Heap->Prop} {tk:Nat} (I:Inv X pins σ H s) (o:Obj)
  (T:Turn X.prog X.w X.K tg J [s.heap.objs.size] s.heap.objs.size tn) (st:tn 0 (s.heap.push o)) (q:R J H):PIE X pins σ tg R (.ref s.heap.objs.size) { s with heap:=s.heap.push o,toks:=tk }:=by
 refine ⟨s.heap.objs.size,[s.heap.objs.size],tn,J,H,rfl,I.kept fun b ob e=>Heap.get?_push_of_some _ e,T,st,fun b hb=>?_,q⟩;have e:b=s.heap.objs.size:=by simpa using hb
 subst e;exact I.Zmn (Nat.le_refl _) (I.hok.fresh (Nat.le_refl _))
end
section
variable {X:Cx} {tg:Expr}
end
section
variable {X:Cx} {tg:Expr}
end
def Its (x:Str):It:=⟨fun i _=>i < x.cps.size,fun i H v H'=>H' = H/\∃ c,x.cps[i]? = some c/\v = .str ⟨#[c]⟩,fun i _=>x.cps.size<=i⟩
theorem Za9 {P:Program} {w:World} {K:FG} {tg:Expr} (it:Addr) (x:Str) (t:Tok) (ty:String) (hty:ty = "str_ascii_iterator" \/ ty = "str_iterator") :
  Turn P w K tg (Its x) [it] it (fun i h=>h.IsStrIter it ty x t i) where
 mem:=by simp
 obj:=fun i h st b hb=>by
  have e:b=it:=by simpa using hb
  subst e;obtain ⟨o,e,c,d⟩:=st;exact ⟨o,e,fun v z=>by rw[d]at z;cases z⟩
 keep:=fun i h h' st k=>let ⟨o,ho,r⟩:=st;⟨o,k it (by simp) o ho,r⟩
 item:=by
  intro X hP hw hK hc i pins s σ H E I hf st hg;subst hP hw hK;obtain ⟨f0,f1,f2,f3,f4,f5⟩:=hf it (by simp);have W:Walks X.prog X.w X.A it [it] [it] x.cps.size (SignAt x) (fun i h=>h.IsStrIter it ty x t i):=by
   rcases hty with e | e
   .rw[e];exact Walks.strAscii (I.ok.hd hc) it x t
   .rw[e];exact Walks.strWide (I.ok.hd hc) it x t
  have hno:["enumerate","zip","dict_itemiterator","dict_reverseitemiterator","odict_iterator","itertools.zip_longest","itertools.pairwise"].contains ty=false:=by
   rcases hty with e | e
   .rw[e];decide
   .rw[e];decide
  refine W.item i s _ _ hg st fun v h' tk hv st' kk=>?_;obtain ⟨c,u,hcx,rfl⟩:=hv;have I1:Inv X pins σ H { s with heap:=h',toks:=tk }:=I.turned (fun b o hb e=>kk b o (by simpa using hb) e) f0 f1 f3 f4 f5
  obtain ⟨oi,e,cc,dd⟩:=id st';exact ⟨_,rfl,Znr (s:={ s with heap:=h',toks:=tk }) e cc dd hno ⟨.str ⟨#[c]⟩,H,I1,⟨u,rfl⟩,⟨rfl,c,hcx,rfl⟩,st',fun b hb=>(hf b hb).1⟩⟩
 done:=by
  intro X hP hw hK hc i pins s σ H E I hf st hg;subst hP hw hK;obtain ⟨f0,f1,f2,f3,f4,f5⟩:=hf it (by simp);have hx:x.cps[i]? = none:=Array.getElem?_eq_none hg;rcases hty with e | e
  .rw[e]at st;exact wpAny_pyNext_ascii_end (I.ok.hd hc) st hx fun h' eb=>⟨rfl,I.turned (t':=s.toks) (fun b o hb e=>eb b o hb e) f0 f1 f3 f4 f5⟩
  .rw[e]at st;exact wpAny_pyNext_wide_end (I.ok.hd hc) st hx fun h' eb=>⟨rfl,I.turned (t':=s.toks) (fun b o hb e=>eb b o hb e) f0 f1 f3 f4 f5⟩
 self:=fun A i s Q E st h=>by
  rcases hty with e | e
  .rw[e]at st;exact wpAny_pyIter_striter_ascii st h
  .rw[e]at st;exact wpAny_pyIter_striter_wide st h
def Zwd (te:TE):TI:=fun σ H R=>te σ H fun v H1=>∃ x,v = .str x/\R (Its x) H1
theorem Zrf {X:Cx} {tg e:Expr} {te:TE} (he:PE X e te):PI X tg e (Zwd te):=by
 intro pins s σ H R I h;refine thn (he pins s σ H _ I h) fun v s1 ⟨y,H1,I1,r1,x,ex,q⟩=>?_;subst ex;obtain ⟨t,rfl⟩:=r1;cases ha:x.cps.all (· < 128)
 .exact wpAny_pyIter_wide ha (Zmu (tk:=s1.toks) I1 _ (Za9 _ x t "str_iterator" (.inr rfl)) ⟨_,Heap.get?_push_size _ rfl,rfl,rfl⟩ q)
 .exact wpAny_pyIter_ascii ha (Zmu (tk:=s1.toks) I1 _ (Za9 _ x t "str_ascii_iterator" (.inl rfl)) ⟨_,Heap.get?_push_size _ rfl,rfl,rfl⟩ q)
section
variable {prog:Program} {w:World} {A:Around} {E:EPr} {s:Shared}
end
section
variable {X:Cx} {pins:List (Addr × Obj)} {σ:St} {H:Hp} {s:Shared} {d:Addr} {o:Obj}
end
section
variable {P:Program} {w:World} {K:FG} {tg:Expr} {d:Addr} {o:Obj} {es:Array DictEntry} {ep:Nat}
end
section
variable {X:Cx} {tg e:Expr} {td:TE} {apos cpos:Pos}
end
def Ite (K:FG) (a:Addr):It:=
 ⟨fun i H=>∃ (xs:List V) (x:V),SqL K H a xs/\xs[i]? = some x,fun i H v H'=>∃ T x,v = .ref T/\H T=none/\H' = upd H T (.tup [.int (i:Nat),x])/\∀ xs,SqL K H a xs->xs[i]? = some x,fun i H=>∃ xs:List V,SqL K H a xs/\xs.length<=i⟩
theorem Zfr {P:Program} {w:World} {K:FG} {elts:List Expr} {kk:Nat} {tpos:Pos} (a e it:Addr) :
  Turn P w K (.Tuple elts kk tpos) (Ite K a) [e,it] e (fun i h=>(∃ old,IsEnum h e it ((i:Nat):Int) old)/\h.IsListIter it a i/\e ≠ it) where
 mem:=by simp
 obj:=fun i h st b hb=>by
  obtain ⟨⟨old,he⟩,⟨o,ho,hc,hd⟩,_⟩:=st;have e':b=e\/b=it:=by simpa using hb
  rcases e' with z | z
  .rw[z];exact ⟨_,he,fun v q=>nomatch q⟩
  .rw[z];exact ⟨o,ho,fun v q=>by rw[hd]at q;cases q⟩
 keep:=fun i h h' st k=>let ⟨⟨old,he⟩,hi,hne⟩:=st;⟨⟨old,k e (by simp) _ he⟩,hi.at fun o q=>k it (by simp) o q,hne⟩
 item:=by
  intro X hP hw hK hc i pins s σ H E I hf st hg;subst hP hw hK;obtain ⟨⟨old,he⟩,hit,hne⟩:=st;obtain ⟨xs,x,hq,hx⟩:=hg;obtain ⟨its,rv,p,hz⟩:=I.list hq;obtain ⟨u,hu,ru⟩:=rv.get hx;have hel:e < s.heap.objs.size:=Heap.lt_size he;have hil:it < s.heap.objs.size:=by obtain ⟨_,q,_⟩:=hit;exact Heap.lt_size q
  refine wpAny_pyNext_enum_item he hit p.isList (x:=u) (by simpa using hu) hne fun h' ho Ztr hT hsz hk=>?_;refine ⟨_,rfl,wpAny_letOwnedTupleGo_enum (s:={ s with heap:=h',toks:=s.toks+1 }) ho fun h'' he' sb=>?_⟩;have hT2:h''.get? s.heap.objs.size=some { cls:=.type "tuple",data:=.seq #[.int i s.toks,u] }:=(sb.2 _ (Nat.ne_of_gt hel)).trans hT
  have new:Qbj X.prog X.w (upd H s.heap.objs.size (.tup [.int (i:Nat),x])) h'' s.heap.objs.size (.tup [.int (i:Nat),x]):=
   ⟨by show 2<=sizeLine;decide,[.int i s.toks,u],.cons ⟨_,rfl⟩ (.cons ru .nil),⟨_,hT2,rfl,_,rfl⟩⟩
  have I1:Inv X pins σ (upd H s.heap.objs.size (.tup [.int (i:Nat),x])) { s with heap:=h'',toks:=s.toks+1 }:=
   I.Qm4 (ch:=[e,it]) (fun b ob hb q=>(sb.2 b (fun z=>hb (by simp[z]))).trans (hk b ob (fun z=>hb (by simp[z])) (fun z=>hb (by simp[z])) q)) hf (Nat.le_refl _) new
  refine ⟨.ref s.heap.objs.size,_,I1,rfl,⟨_,x,rfl,I.hok.fresh (Nat.le_refl _),rfl,fun ys hy=>by rw[I.Qmm hy hq];exact hx⟩,⟨⟨u,?_⟩,Ztr.at fun o q=>(sb.2 it (Ne.symm hne)).trans q,hne⟩,fun b hb=>?_⟩
  .have e1:((i+1:Nat):Int)=(i:Int)+1:=by omega
   rw[e1];exact he'
  .have hb':b < s.heap.objs.size:=by
    have e':b=e\/b=it:=by simpa using hb
    rcases e' with z | z
    .rw[z];exact hel
    .rw[z];exact hil
   rw[Ql (Nat.ne_of_lt hb')];exact (hf b hb).1
 done:=by intro X hP hw hK hc i pins s σ H E I hf st hg;subst hP hw hK;obtain ⟨⟨old,he⟩,hit,hne⟩:=st;obtain ⟨xs,hq,hx⟩:=hg;obtain ⟨its,rv,p,hz⟩:=I.list hq;obtain ⟨f0,f1,f2,f3,f4,f5⟩:=hf it (by simp);have hl:=rv.length;exact wpAny_pyNext_enum_end (I.ok.hd hc) he hit p.isList (by simp;omega) fun h' eb=>⟨rfl,I.turned (t':=s.toks) (fun b o hb q=>eb b o hb q) f0 f1 f3 f4 f5⟩
 self:=fun A i s Q E st h=>let ⟨⟨_,he⟩,_⟩:=st;wpAny_pyIter_enum he h
def Zts (K:FG) (ta:TA):TI:=fun σ H R=>ta σ H fun vs H1=>∃ a xs,vs=[.ref a]/\SqL K H1 a xs/\R (Ite K a) H1
theorem Zoc {X:Cx} {e:Expr} {ta:TA} {p pos tpos:Pos} {elts:List Expr} {kk:Nat} (hg:Gl X "enumerate") (hm:X.mg "enumerate" = none) (ha:PA X [e] ta) (hs:starEach [e] X.env=[(false,eval e X.env)]:=by rfl) :
  PI X (.Tuple elts kk tpos) (.Call (.Name "enumerate" p) [e] [] pos) (Zts X.K ta):=by
 intro pins s σ H R I h;refine Call_ (Qmu I hg hm boot_enumerate (PyProof.Rows.callWith_type1 (thn (ha pos pins s σ H _ I h) fun us s1 ⟨vs,H1,I1,r1,q1⟩=>?_) hs rfl));obtain ⟨a,xs,ex,hq,q⟩:=q1;subst ex;cases r1 with
 | cons r rr =>
  cases rr;cases r;obtain ⟨its,rv,p',hz⟩:=I1.list hq;refine call_enumerate_list p'.isList fun h' he hit hsz hk=>wpAny_pyIter_enum he ?_;have I2:Inv X pins σ H1 { s1 with heap:=h' }:=I1.kept (t':=s1.toks) hk
  refine ⟨s1.heap.objs.size+1,[s1.heap.objs.size+1,s1.heap.objs.size],_,_,H1,rfl,I2,Zfr a (s1.heap.objs.size+1) s1.heap.objs.size,⟨⟨.none,he⟩,hit,Nat.succ_ne_self _⟩,fun b hb=>?_,q⟩;have e':b=s1.heap.objs.size+1\/b=s1.heap.objs.size:=by simpa using hb
  have hle:s1.heap.objs.size<=b:=by
   rcases e' with z | z
   .rw[z];exact Nat.le_add_right _ _
   .rw[z];exact Nat.le_refl _
  exact I1.Zmn hle (I1.hok.fresh hle)
theorem Zfs:bootBuiltins "zip" = some (.type "zip"):=by decide +kernel
end L2
section
namespace Bits
open PySem PyProof.Rows
end Bits
end
section
namespace TL
open PySem PySem.Builtin PySem.Builtin.Str PySem.StrLaws
abbrev tl (x:Str):List Nat:=x.cps.toList
theorem Jd (x y:Str):tl (x++y)=tl x++tl y:=by show (x++y).cps.toList=_;rw[Str.cps_append,Array.toList_append]
theorem Qx8 (s:String):tl (Str.ofString s)=s.toList.map Char.toNat:=PyProof.Rows.signs_ofString s
def pre (S l:List Nat):Bool:=l.take S.length == S
def Qm5 (S:List Nat):List (List Nat)->List Nat
 | []=>[]
 | [p]=>p
 | p::q::r=>p++(S++Qm5 S (q::r))
theorem Qx9 (y:Str):∀ parts:List Str,tl (Str.join y parts)=Qm5 (tl y) (parts.map tl)
 | []=>rfl
 | [_]=>rfl
 | x::z::r=>by
  show tl (x++y++Str.join y (z::r))=tl x++(tl y++Qm5 (tl y) ((z::r).map tl))
  rw[Jd,Jd,Qx9 y (z::r),List.append_assoc]
theorem join_eq (y:Str) (parts:List Str):Txt.join y parts=Str.join y parts:=glued_eq_join y parts
def Qxt (n:Nat):List Nat:=(Nat.toDigits 10 n).map Char.toNat
end TL
end
namespace L2
open PySem PySem.Spec PyProof.Rows
theorem Qf6:∀ {ys:List Str} {us:List Value},Vals (ys.map V.str) us->StrsAre us ys
 | [],_,.nil=>.nil
 | y::ys,_,.cons r t=>by
  obtain ⟨k,rfl⟩:=r;exact .cons y k (Qf6 t)
section
variable {X:Cx} {pins:List (Addr × Obj)} {σ:St} {H:Hp} {s:Shared} {Q:VK}
end
section
variable {X:Cx}
theorem Zod:MtR X "str.join" (fun x xs H Q=>∃ a p,∃ ys:List Str,x = .str a/\xs=[.ref p]/\(SqL X.K H p (ys.map V.str)\/SqT X.K H p (ys.map V.str)) /\
  (ys.map (·.length)).sum+ys.length*a.length<=16777216/\Q (.str (Txt.join a ys)) H):=by
 intro pins s σ H x xs v us Q I rx rs h;obtain ⟨a,p,ys,rfl,rfl,hp,hz,h⟩:=h;obtain ⟨t,rfl⟩:=rx;cases rs with
 | cons r1 rs =>
  cases rs;cases r1;rcases hp with hp | hp
  .obtain ⟨its,r,⟨o,n,ho,hc,_,hd⟩,_⟩:=I.list hp;exact PyProof.Rows.join_list (items:=its.toArray) ⟨o,ho,hc,n,hd⟩ (by rw[List.toList_toArray];exact Qf6 r) hz fun t' k=>⟨.str _,H,I.tok k,⟨t',rfl⟩,h⟩
  .obtain ⟨its,r,ht,_⟩:=I.tuple hp;exact PyProof.Rows.join_tuple (items:=its.toArray) ht (by rw[List.toList_toArray];exact Qf6 r) hz fun t' k=>⟨.str _,H,I.tok k,⟨t',rfl⟩,h⟩
end
section
variable {X:Cx} {o e:Expr} {to te:TE}
def tM1 (r:V->List V->Hp->VK->Prop) (to te:TE):TE:=fun σ H Q=>to σ H fun x H1=>(∃ a,x = .str a)/\te σ H1 fun y H2=>r x [y] H2 Q
theorem Ztt {id:String} {name:Str} {apos pos:Pos} {r:V->List V->Hp->VK->Prop} (slot:Slot "str" name id) (ty:typeOf (.builtin id)=pure (.type "method_descriptor")) (rule:MtR X id r) (ho:PE X o to) (he:PE X e te)
  (hs:starEach [e] X.env=[(false,eval e X.env)]:=by rfl) (hbase:attributeBase o name X.env (eval o X.env)=eval o X.env:=by rfl) (hline:(apos.endLine == pos.line)=true:=by rfl) :
  PE X (.Call (.Attribute o name apos) [e] [] pos) (tM1 r to te):=by
 intro pins s σ H Q I h;refine PySem.Call_method1 hbase hs hline (thn (ho pins s σ H _ I h) fun v s1 ⟨x,H1,I1,r1,q1⟩=>?_);obtain ⟨⟨a,rfl⟩,q1⟩:=q1;obtain ⟨t,rfl⟩:=_root_.id r1;refine ⟨"str",_,F.plainAttrs_str,slot,ty,typeIs_str _ _ _,(fun _ e=>nomatch e),Calls.callWith_builtin rfl (Calls.evalArgs_plain (Calls.spliced_cons ?_))⟩;exact thn (he pins s1 σ H1 _ I1 q1) fun u s2 ⟨y,H2,I2,r2,q2⟩=>Calls.spliced_nil (rule pins s2 σ H2 _ [y] _ [u] Q I2 r1 (.cons r2 .nil) q2)
theorem Zoe {apos pos:Pos} (ho:PE X o to) (he:PE X e te) (hs:starEach [e] X.env=[(false,eval e X.env)]:=by rfl) (hbase:attributeBase o "join" X.env (eval o X.env)=eval o X.env:=by rfl) (hline:(apos.endLine == pos.line)=true:=by rfl) :
  PE X (.Call (.Attribute o "join" apos) [e] [] pos) (tM1 (fun x xs H Q=>∃ a p,∃ ys:List Str,x = .str a/\xs=[.ref p]/\(SqL X.K H p (ys.map V.str)\/SqT X.K H p (ys.map V.str)) /\
   (ys.map (·.length)).sum+ys.length*a.length<=16777216/\Q (.str (Txt.join a ys)) H) to te):=
 Ztt F.slot_str_join F.type_str_join Zod ho he hs hbase hline
end
end L2
namespace L2
open PySem PySem.Spec PyProof.Rows
section
variable {X:Cx}
end
end L2
namespace Att
open PySem PySem.W PySem.Calls PyProof.Rows
section
variable {prog:Program} {w:World} {A:Around} {E:EPr} {s:Shared} {K:Frag}
end
end Att
namespace L2
open PySem PySem.Spec PyProof.Rows
end L2
namespace L2
open PySem PySem.Spec PyProof.Rows
end L2
namespace L2
open PySem PySem.Spec PyProof.Rows
def inClass (s:Stmt) (j:Nat):Stmt:=match s with
 | .ClassDef _ _ _ body _ _ _ _ _ _ _=>body.getD j (.Pass ⟨0,0,0,0⟩)
 | _=>.Pass ⟨0,0,0,0⟩
def Zft (s:Stmt):Arguments:=match s with
 | .FunctionDef _ a _ _ _ _ _ _ _ _=>a
 | _=>{ posonlyargs:=[],args:=[],vararg:=none,kwonlyargs:=[],kw_defaults:=[],kwarg:=none,defaults:=[] }
def Qkl (s:Stmt):List Stmt:=match s with
 | .FunctionDef _ _ b _ _ _ _ _ _ _=>b
 | _=>[]
def Qi (s:Stmt):Scope:=match s with
 | .FunctionDef _ _ _ _ _ _ sc _ _ _=>sc
 | _=>{ kind:=.function,names:=[],isGenerator:=false,isCoroutine:=false }
abbrev CX0:CXT:=fun _ _ _ _ _ _=>False
abbrev E0:XK:=fun _ _ _=>False
theorem Zfu {X:Cx}:Passes CX0 X E0:=fun _ _ _ _ _ _ _ h=>h.elim
structure Fun (K:FG) (x qual:Str) (st:Stmt) (f:Addr) (fd:FuncData):Prop where
 ex:∃ (oc:Value) (od:Option Addr) (kV doc pm:Value) (an:Option Addr) (cdv ct:Value) (osl:Array (Option Value)),
  fd=PySem.W.fnOf x qual (Zft st) (Qkl st) (Qi st) .none kV doc pm an cdv ct/\K.lookup f=some ⟨oc,od,.func fd,osl⟩/\PySem.W.codeIn K cdv qual=true
 kp:PySem.W.keepIn K (.ref f)=true
section
variable {P:Program} {w:World} {K:FG} {mg:Str->Option Value} {base:Heap}
theorem Fun.ok {x qual:Str} {st:Stmt} {f:Addr} {fd:FuncData} {N ps:List Str} {k:Nat} {sp:Sp} (F:Fun K x qual st f fd) (S:Qn N ps (Qi st)) (len:∀ vs H Q E,sp vs H Q E->vs.length=ps.length)
  (hbody:∀ (cdv:Value) (A:Around) (outer:List Env) (s:Shared) (H:Hp) (vs:List V) (Q:VK) (E:XK),Qeu k (A.deeper (envOfC qual (Qi st) s.heap.objs.size f cdv))->sp vs H Q E ->
   ∃ t,PSs (Zkf CX0 P w K mg base N qual (Qi st) f cdv A outer s H E).nox (Qkl st) t/\t { nx:=fun _ H'=>Q .non H',rt:=Q } (start N vs) H):Qmo P w K mg base CX0 (k+1) f fd ps sp:=by
 obtain ⟨oc,od,kV,doc,pm,an,cdv,ct,osl,rfl,lk,hcd⟩:=F.ex;refine Ztk lk hcd S len fun A outer s H vs Q E hr hsp=>?_;obtain ⟨t,h,q⟩:=hbody cdv A outer s H vs Q E hr hsp;exact ⟨t,h.nox,q⟩
end
theorem Zfv {A:Around} {k:Nat} (hr:Qeu k A):A.units+1 < cLine:=Nat.lt_of_le_of_lt (Nat.add_le_add_left (by decide:1<=64) _) hr.units
section
variable {X:Cx}
theorem pv (i:Nat) {x:Str} {pos:Pos} (hN:X.N[i]? = some x:=by rfl) (hv:Vis X.env.scope x:=by first | exact Or.inl rfl | exact Or.inr (Or.inl rfl) | exact Or.inr (Or.inr rfl)) (hd:(x == ("__debug__" : Str))=false:=by decide)
  (hcd:(x == ("__classdict__" : Str))=false:=by decide):PE X (.Name x pos) (Qdt i):=Zqu hN hv hd hcd
end
theorem Qf7 {A B:Prop} (h:B):if false=true then A else B:=by rw[if_neg Bool.false_ne_true];exact h
theorem Qfs {A B:Prop} (h:A):if true=true then A else B:=by rw[if_pos rfl];exact h
def Jw (H H':Hp):Prop:=∀ b o,H b=some o->H' b=some o
theorem Jw.refl (H:Hp):Jw H H:=fun _ _ h=>h
theorem Jw.trans {H H1 H2:Hp} (a:Jw H H1) (b:Jw H1 H2):Jw H H2:=fun c o h=>b c o (a c o h)
theorem Jw.free {H H':Hp} (e:Jw H H') {l:Addr} (h:H' l=Option.none):H l=Option.none:=by
 cases q:H l with
 | none=>rfl
 | some o =>rw[e l o q]at h;cases h
theorem Jw.seq {K:FG} {H H':Hp} {a:Addr} {xs:List V} (e:Jw H H') (h:SqL K H a xs):SqL K H' a xs:=by
 rcases h with (h | ⟨o,h⟩) | h
 .exact .inl (.inl (e _ _ h))
 .exact .inl (.inr ⟨o,e _ _ h⟩)
 .exact .inr h
section
variable {κ:Type} [DecidableEq κ]
theorem Zfw:∀ {l:List κ} {k:κ},l.Nodup->¬ k ∈ l->(l++[k]).Nodup
 | [],k,_,_=>by simp
 | a::r,k,h,hk=>by
  obtain ⟨h1,h2⟩:=List.nodup_cons.mp h;show (a::(r++[k])).Nodup;refine List.nodup_cons.mpr ⟨fun m=>?_,Zfw h2 fun m=>hk (List.mem_cons.mpr (Or.inr m))⟩;rcases List.mem_append.mp m with q | q
  .exact h1 q
  .exact hk (List.mem_cons.mpr (Or.inl (List.mem_singleton.mp q).symm))
end
theorem at_of {xs:List V} {z:Int} {j:Nat} {v:V} (e:z=(j:Int)) (h:xs[j]? = some v):atI xs z=some v:=by rw[e];exact Zn3 h
theorem Ztu {α:Type} {l:List α} (hN:l.Nodup) {i j:Nat} {x:α} (a:l[i]? = some x) (b:l[j]? = some x):i=j:=by obtain ⟨h1,e1⟩:=List.getElem?_eq_some_iff.mp a;obtain ⟨h2,e2⟩:=List.getElem?_eq_some_iff.mp b;exact (List.getElem_inj hN).mp (e1.trans e2.symm)
theorem Jw.made {H H1:Hp} {x dx C:Addr} (nx:H x=Option.none) (nd:H dx=Option.none) (k:∀ b o,(upd (upd H dx (.own x)) x (.ins C dx [])) b=some o->b ≠ x->H1 b=some o):Jw H H1:=fun b o e =>
 k b o (by rw[Ql (Qg e nx),Ql (Qg e nd)];exact e) (Qg e nx)
end L2
end
section
section
namespace L2
open PySem PySem.Spec PyProof.Rows
open PySem.W (WData Codec OpenSpec Well WellAll ReadsW ReadsAllW)
mutual
inductive Dw (K:FG) (H:Hp):V->WData->Prop
 | non:Dw K H .non .none
 | bl (b:Bool):Dw K H (.bl b) (.bool b)
 | int (i:Int):Dw K H (.int i) (.int i)
 | str (x:Str):Dw K H (.str x) (.str x)
 | byt (b:Array UInt8):Dw K H (.byt b) (.bytes b.toList)
 | lst {a:Addr} {xs:List V} {ds:List WData}:SqL K H a xs->Qjb K H xs ds->Dw K H (.ref a) (.list ds)
 | tup {a:Addr} {xs:List V} {ds:List WData}:SqT K H a xs->Qjb K H xs ds->Dw K H (.ref a) (.tuple ds)
inductive Qjb (K:FG) (H:Hp):List V->List WData->Prop
 | nil:Qjb K H [] []
 | cons {v:V} {vs:List V} {d:WData} {ds:List WData}:Dw K H v d->Qjb K H vs ds->Qjb K H (v::vs) (d::ds)
end
theorem Zfx {K:FG} {H:Hp}:∀ ns:List Int,Qjb K H (ns.map V.int) (ns.map WData.int)
 | []=>.nil
 | n::r=>.cons (.int n) (Zfx r)
theorem Zfy {K:FG} {H:Hp}:∀ (ns:List Int) (xs:List V),Qjb K H xs (ns.map WData.int)->xs=ns.map V.int
 | [],xs,h=>by
  cases h;rfl
 | n::r,xs,h=>by
  cases h with
  | cons h1 h2 =>cases h1;rw[Zfy r _ h2] <;> rfl
section
variable {P:Program} {w:World} {K:FG} {H:Hp} {h:Heap} {R:PySem.W.WRecords} {cl:Str->Option Addr}
theorem Zrg {a:Addr} {xs:List V} (hok:HOk P w H h) (KX:K.In h) (q:SqL K H a xs):∃ (its:List Value) (o:Obj) (n:Nat),Vals xs its/\h.get? a=some o/\o.cls = .type "list" /\ o.data = .seq its.toArray n:=by
 rcases q with q | ⟨o,its,n,e,hc,_,hd,_,hv⟩
 .obtain ⟨_,its,n,hv,e⟩:=(show Qbj P w H h a (.lst xs) from q.ok hok)
  exact ⟨its,_,n,hv,e,rfl,rfl⟩
 .exact ⟨its.toList,o,n,hv,KX _ _ e,hc,by simp[hd]⟩
theorem Zrh {a:Addr} {xs:List V} (hok:HOk P w H h) (KX:K.In h) (q:SqT K H a xs):∃ (its:List Value) (o:Obj) (n:Nat),Vals xs its/\h.get? a=some o/\o.cls = .type "tuple" /\ o.data = .seq its.toArray n:=by
 rcases q with q | ⟨o,its,n,e,hc,hd,_,hv⟩
 .obtain ⟨_,its,hv,o,e,hc,n,hd⟩:=(show Qbj P w H h a (.tup xs) from q.ok hok)
  exact ⟨its,o,n,hv,e,hc,hd⟩
 .exact ⟨its.toList,o,n,hv,KX _ _ e,hc,by simp[hd]⟩
mutual
theorem Dw.reads (hok:HOk P w H h) (KX:K.In h):∀ (d:WData) (v:V) (u:Value),Dw K H v d->RelV v u->∃ as,ReadsW R cl h u d as
 | .none,_,_,x,r=>by
  cases x;cases r;exact ⟨_,ReadsW.none⟩
 | .bool b,_,_,x,r=>by
  cases x;cases r;exact ⟨_,ReadsW.bool b⟩
 | .int i,_,_,x,r=>by
  cases x;obtain ⟨t,rfl⟩:=r;exact ⟨_,ReadsW.int i t⟩
 | .str s,_,_,x,r=>by
  cases x;obtain ⟨t,rfl⟩:=r;exact ⟨_,ReadsW.str s t⟩
 | .bytes b,_,_,x,r=>by
  cases x;obtain ⟨t,rfl⟩:=r;exact ⟨_,ReadsW.bytes _ t⟩
 | .list ds,_,_,x,r=>by
  cases x with
  | lst hs ha =>cases r;obtain ⟨its,o,n,rv,ho,hc,hd⟩:=Zrg hok KX hs;obtain ⟨as,hr⟩:=Dw.readsAll hok KX ds _ its ha rv;exact ⟨_,ReadsW.list ho hc hd hr⟩
 | .tuple ds,_,_,x,r=>by
  cases x with
  | tup hs ha =>cases r;obtain ⟨its,o,n,rv,ho,hc,hd⟩:=Zrh hok KX hs;obtain ⟨as,hr⟩:=Dw.readsAll hok KX ds _ its ha rv;exact ⟨_,ReadsW.tuple ho hc hd hr⟩
 | .float _,_,_,x,_=>by cases x
 | .dict _,_,_,x,_=>by cases x
 | .bytearray _,_,_,x,_=>by cases x
 | .set _,_,_,x,_=>by cases x
 | .frozenset _,_,_,x,_=>by cases x
 | .obj _ _,_,_,x,_=>by cases x
theorem Dw.readsAll (hok:HOk P w H h) (KX:K.In h):∀ (ds:List WData) (vs:List V) (us:List Value),Qjb K H vs ds->Vals vs us->∃ as,ReadsAllW R cl h us ds as
 | [],_,_,x,r=>by
  cases x;cases r;exact ⟨_,ReadsAllW.nil⟩
 | d::ds,_,_,x,r=>by
  cases x with
  | cons h1 h2 =>
   cases r with
   | cons r1 r2 =>obtain ⟨as,q1⟩:=Dw.reads hok KX d _ _ h1 r1;obtain ⟨bs,q2⟩:=Dw.readsAll hok KX ds _ _ h2 r2;exact ⟨_,ReadsAllW.cons q1 q2⟩
end
end
mutual
def plW:WData->Bool
 | .none=>true
 | .bool _=>true
 | .int _=>true
 | .str _=>true
 | .bytes _=>true
 | .list xs=>Zej xs
 | .tuple xs=>Zej xs
 | _=>false
def Zej:List WData->Bool
 | []=>true
 | x::r=>plW x&&Zej r
end
theorem Zba {α:Type} {f:α->WData} (h:∀ a,plW (f a)=true):∀ l:List α,Zej (l.map f)=true
 | []=>rfl
 | x::r=>by
  show (plW (f x)&&Zej (r.map f))=true;rw[h x,Zba h r] <;> rfl
theorem Qle:∀ (c:Codec) (a:c.denote),plW (c.enc a)=true
 | .unit,_=>rfl
 | .bool,_=>rfl
 | .int _ _,_=>rfl
 | .nat _ _,_=>rfl
 | .u8,_=>rfl
 | .bytes _ _,_=>rfl
 | .text _ _ _ _,_=>rfl
 | .list _ _ c,a=>Zba (fun x=>Qle c x) a
 | .pair c d,a=>by
  show (plW (c.enc a.1)&&(plW (d.enc a.2)&&true))=true;rw[Qle c a.1,Qle d a.2] <;> rfl
 | .triple c d e,a=>by
  show (plW (c.enc a.1)&&(plW (d.enc a.2.1)&&(plW (e.enc a.2.2)&&true)))=true;rw[Qle c a.1,Qle d a.2.1,Qle e a.2.2] <;> rfl
 | .option c,none=>rfl
 | .option c,some x=>Qle c x
theorem Qub:∀ (cs:List Codec) (a:Codec.denoteAll cs),Zej (Codec.encAll cs a)=true
 | [],_=>rfl
 | c::cs,a=>by
  show (plW (c.enc a.1)&&Zej (Codec.encAll cs a.2))=true;rw[Qle c a.1,Qub cs a.2] <;> rfl
theorem Qkm:∀ {xs:List WData} {d:WData},d ∈ xs->d.weight<=WData.weightAll xs
 | [],d,h=>absurd h (by simp)
 | x::r,d,h=>by
  show d.weight<=x.weight+1+WData.weightAll r;rcases List.mem_cons.mp h with e | m
  .rw[e];omega
  .have z:=Qkm m;omega
def toV:Value->V
 | .none=>.non
 | .bool b=>.bl b
 | .int i _=>.int i
 | .str x _=>.str x
 | .bytes b _=>.byt b
 | .ref a=>.ref a
 | _=>.non
def OkU (A:List Addr):Value->Prop
 | .none=>True
 | .bool _=>True
 | .int _ _=>True
 | .str _ _=>True
 | .bytes _ _=>True
 | .ref a=>a ∈ A
 | _=>False
theorem OkU.mono {A B:List Addr} (h:∀ a ∈ A,a ∈ B):∀ {u:Value},OkU A u->OkU B u:=fun {u} x=>by
 cases u with
 | ref a=>exact h a x
 | none=>trivial
 | bool b=>trivial
 | int i t=>trivial
 | str s t=>trivial
 | bytes b t=>trivial
 | _=>exact False.elim x
theorem Zkl {A:List Addr} {u:Value} (x:OkU A u):RelV (toV u) u:=by
 cases u with
 | ref a=>rfl
 | none=>rfl
 | bool b=>rfl
 | int i t=>exact ⟨t,rfl⟩
 | str s t=>exact ⟨t,rfl⟩
 | bytes b t=>exact ⟨t,rfl⟩
 | _=>exact False.elim x
theorem Qhe {A:List Addr}:∀ {vs:List Value},(∀ u ∈ vs,OkU A u)->Vals (vs.map toV) vs
 | [],_=>.nil
 | u::r,h=>.cons (Zkl (h u (List.mem_cons_self ..))) (Qhe fun x hx=>h x (List.mem_cons_of_mem _ hx))
def Ql7 (h:Heap) (A:List Addr) (a:Addr):Prop:=∃ vs:List Value,vs.length<=sizeLine/\(∀ u ∈ vs,OkU A u) /\
 (h.get? a=some { cls:=.type "list",data:=.seq vs.toArray }\/h.get? a=some { cls:=.type "tuple",data:=.seq vs.toArray })
theorem Ql7.mono {h:Heap} {A B:List Addr} {a:Addr} (k:∀ a ∈ A,a ∈ B) (x:Ql7 h A a):Ql7 h B a:=by obtain ⟨vs,h1,h2,h3⟩:=x;exact ⟨vs,h1,fun u hu=>(h2 u hu).mono k,h3⟩
theorem Qew {P:Params} {h:Heap}:∀ {vs:List Value} {ds:List WData},WellAll P h vs ds->vs.length=ds.length
 | _,_,.nil=>rfl
 | _,_,.cons _ b=>by
  show _+1=_+1;rw[Qew b]
theorem Quc {P:Params} {h:Heap} {v:Value} {ds:List WData} (x:Well P h v (.list ds)):∃ (a:Addr) (vs:List Value),v = .ref a/\h.get? a=some { cls:=.type "list",data:=.seq vs.toArray }/\WellAll P h vs ds:=by
 cases x with
 | list ho hall=>exact ⟨_,_,rfl,ho,hall⟩
theorem Qqs {P:Params} {h:Heap} {v:Value} {ds:List WData} (x:Well P h v (.tuple ds)):∃ (a:Addr) (vs:List Value),v = .ref a/\h.get? a=some { cls:=.type "tuple",data:=.seq vs.toArray }/\WellAll P h vs ds:=by
 cases x with
 | tuple ho hall=>exact ⟨_,_,rfl,ho,hall⟩
theorem Qud {P:Params} {h:Heap} {us:List Value} {d:WData} {ds:List WData} (x:WellAll P h us (d::ds)):∃ (v:Value) (vs:List Value),us=v::vs/\Well P h v d/\WellAll P h vs ds:=by
 cases x with
 | cons a b=>exact ⟨_,_,rfl,a,b⟩
theorem Zfz {n:Nat} (h:n<=1048576):n<=sizeLine:=Nat.le_trans h (by decide)
section
variable {P:Params} {h:Heap}
mutual
theorem Zkm:∀ (d:WData) (v:Value),Well P h v d->plW d=true->d.weight<=1048576->∃ A:List Addr,OkU A v/\∀ a ∈ A,Ql7 h A a
 | .none,_,x,_,_=>by
  cases x;exact ⟨[],trivial,fun a m=>absurd m (by simp)⟩
 | .bool b,_,x,_,_=>by
  cases x;exact ⟨[],trivial,fun a m=>absurd m (by simp)⟩
 | .int i,_,x,_,_=>by
  cases x;exact ⟨[],trivial,fun a m=>absurd m (by simp)⟩
 | .str s,_,x,_,_=>by
  cases x;exact ⟨[],trivial,fun a m=>absurd m (by simp)⟩
 | .bytes b,_,x,_,_=>by
  cases x;exact ⟨[],trivial,fun a m=>absurd m (by simp)⟩
 | .list ds,_,x,p,z=>by
  obtain ⟨a,vs,rfl,ho,hall⟩:=Quc x;have z2:WData.weightAll ds<=1048576:=z;obtain ⟨A,h1,h2⟩:=Qmp ds _ hall p fun d hd=>Nat.le_trans (Qkm hd) z2;have k:∀ b ∈ A,b ∈ a::A:=fun b hb=>List.mem_cons_of_mem _ hb
  refine ⟨a::A,List.mem_cons_self ..,fun b hb=>?_⟩;rcases List.mem_cons.mp hb with e | m
  .rw[e];exact ⟨vs,Zfz (by rw[Qew hall];exact Nat.le_trans (PySem.W.length_le_weightAllW ds) z2),fun u hu=>(h1 u hu).mono k,.inl ho⟩
  .exact (h2 b m).mono k
 | .tuple ds,_,x,p,z=>by
  obtain ⟨a,vs,rfl,ho,hall⟩:=Qqs x;have z2:WData.weightAll ds<=1048576:=z;obtain ⟨A,h1,h2⟩:=Qmp ds _ hall p fun d hd=>Nat.le_trans (Qkm hd) z2;have k:∀ b ∈ A,b ∈ a::A:=fun b hb=>List.mem_cons_of_mem _ hb
  refine ⟨a::A,List.mem_cons_self ..,fun b hb=>?_⟩;rcases List.mem_cons.mp hb with e | m
  .rw[e];exact ⟨vs,Zfz (by rw[Qew hall];exact Nat.le_trans (PySem.W.length_le_weightAllW ds) z2),fun u hu=>(h1 u hu).mono k,.inr ho⟩
  .exact (h2 b m).mono k
 | .float _,_,_,p,_=>Bool.noConfusion (show false=true from p)
 | .dict _,_,_,p,_=>Bool.noConfusion (show false=true from p)
 | .bytearray _,_,_,p,_=>Bool.noConfusion (show false=true from p)
 | .set _,_,_,p,_=>Bool.noConfusion (show false=true from p)
 | .frozenset _,_,_,p,_=>Bool.noConfusion (show false=true from p)
 | .obj _ _,_,_,p,_=>Bool.noConfusion (show false=true from p)
theorem Qmp:∀ (ds:List WData) (vs:List Value),WellAll P h vs ds->Zej ds=true->(∀ d ∈ ds,d.weight<=1048576)->∃ A:List Addr,(∀ u ∈ vs,OkU A u)/\∀ a ∈ A,Ql7 h A a
 | [],_,x,_,_=>by
  cases x;exact ⟨[],fun u m=>absurd m (by simp),fun a m=>absurd m (by simp)⟩
 | d::ds,_,x,p,z=>by
  obtain ⟨v,vs,rfl,x1,x2⟩:=Qud x;have q:plW d=true/\Zej ds=true:=Bool.and_eq_true_iff.mp p;obtain ⟨A,a1,a2⟩:=Zkm d v x1 q.1 (z d (List.mem_cons_self ..));obtain ⟨B,b1,b2⟩:=Qmp ds vs x2 q.2 fun e he=>z e (List.mem_cons_of_mem _ he);have kA:∀ b ∈ A,b ∈ A++B:=fun b hb=>List.mem_append.mpr (.inl hb)
  have kB:∀ b ∈ B,b ∈ A++B:=fun b hb=>List.mem_append.mpr (.inr hb);refine ⟨A++B,fun u hu=>?_,fun b hb=>?_⟩
  .rcases List.mem_cons.mp hu with e | m
   .rw[e];exact a1.mono kA
   .exact (b1 u m).mono kB
  .rcases List.mem_append.mp hb with m | m
   .exact (a2 b m).mono kA
   .exact (b2 b m).mono kB
end
end
def Zs4 (o:Obj):Option HO:=match o.data with
 | .seq vs _=>if (o.cls == Value.type "list")=true then some (.frz o (.lst (vs.toList.map toV))) else some (.frz o (.tup (vs.toList.map toV)))
 | _=>none
def Qrw (K:FG) (h:Heap) (A:List Addr):Hp:=fun b=>if b ∈ A then (if (K.lookup b).isNone=true then (h.get? b).bind Zs4 else none) else none
def Zcp (H:Hp):Prop:=∀ b,H b=none\/∃ o u,H b=some (.frz o u)
theorem Zbb (vs:List Value):Zs4 { cls:=.type "list",data:=.seq vs.toArray }=some (.frz { cls:=.type "list",data:=.seq vs.toArray } (.lst (vs.map toV))):=by show (if (Value.type "list" == Value.type "list")=true then some (HO.frz { cls:=.type "list",data:=.seq vs.toArray } (.lst (vs.toArray.toList.map toV))) else some (HO.frz { cls:=.type "list",data:=.seq vs.toArray } (.tup (vs.toArray.toList.map toV))))=_;rw[if_pos (beq_self_eq_true _)]
theorem Zbc (vs:List Value):Zs4 { cls:=.type "tuple",data:=.seq vs.toArray }=some (.frz { cls:=.type "tuple",data:=.seq vs.toArray } (.tup (vs.map toV))):=by show (if (Value.type "tuple" == Value.type "list")=true then some (HO.frz { cls:=.type "tuple",data:=.seq vs.toArray } (.lst (vs.toArray.toList.map toV))) else some (HO.frz { cls:=.type "tuple",data:=.seq vs.toArray } (.tup (vs.toArray.toList.map toV))))=_;rw[if_neg (by decide)]
section
variable {P:Program} {w:World} {K:FG} {h:Heap} {A:List Addr}
theorem Qrx {b:Addr} {o:Obj} (hb:b ∈ A) (hk:K.lookup b=none) (e:h.get? b=some o):Qrw K h A b=Zs4 o:=by unfold Qrw;rw[if_pos hb,hk,if_pos (show (none:Option Obj).isNone=true from rfl),e] <;> rfl
theorem Zof {b:Addr} {u:HO} (q:Qrw K h A b=some u):b ∈ A/\K.lookup b=none:=by
 unfold Qrw at q;by_cases hb:b ∈ A
 .rw[if_pos hb]at q;cases hk:K.lookup b with
  | none=>exact ⟨hb,rfl⟩
  | some o =>rw[hk,if_neg (by simp)]at q;cases q
 .rw[if_neg hb]at q;cases q
theorem Qry (ar:∀ a ∈ A,Ql7 h A a) {b:Addr} {u:HO} (q:Qrw K h A b=some u):K.lookup b=none/\∃ vs:List Value,vs.length<=sizeLine/\(∀ u ∈ vs,OkU A u) /\
  ((h.get? b=some { cls:=.type "list",data:=.seq vs.toArray }/\u = .frz { cls:=.type "list",data:=.seq vs.toArray } (.lst (vs.map toV))) \/
   (h.get? b=some { cls:=.type "tuple",data:=.seq vs.toArray }/\u = .frz { cls:=.type "tuple",data:=.seq vs.toArray } (.tup (vs.map toV)))):=by
 obtain ⟨hb,hk⟩:=Zof q;obtain ⟨vs,h1,h2,h3⟩:=ar b hb;refine ⟨hk,vs,h1,h2,?_⟩;rcases h3 with e | e
 .rw[Qrx hb hk e,Zbb]at q;exact .inl ⟨e,(Option.some.inj q).symm⟩
 .rw[Qrx hb hk e,Zbc]at q;exact .inr ⟨e,(Option.some.inj q).symm⟩
theorem Zf0 (ar:∀ a ∈ A,Ql7 h A a):Zcp (Qrw K h A):=fun b=>by
 cases q:Qrw K h A b with
 | none=>exact .inl rfl
 | some u =>
  obtain ⟨_,vs,_,_,⟨_,e⟩ | ⟨_,e⟩⟩:=Qry ar q
  .exact .inr ⟨_,_,by rw[e]⟩
  .exact .inr ⟨_,_,by rw[e]⟩
theorem Zog (ar:∀ a ∈ A,Ql7 h A a):HOk P w (Qrw K h A) h:=fun b u q=>by
 obtain ⟨_,vs,h1,h2,⟨e,rfl⟩ | ⟨e,rfl⟩⟩:=Qry ar q
 .exact ⟨e,by rw[List.length_map];exact h1,vs,_,Qhe h2,e⟩
 .exact ⟨e,by rw[List.length_map];exact h1,vs,Qhe h2,_,e,rfl,_,rfl⟩
theorem Qrz {c c':Value} {vs us:List Value} (e:(some { cls:=c,data:=.seq vs.toArray }:Option Obj)=some { cls:=c',data:=.seq us.toArray }):c=c' /\ vs=us:=by
 have e1:=Option.some.inj e;have e2:c=c':=congrArg Obj.cls e1;have e3:Data.seq vs.toArray=Data.seq us.toArray:=congrArg Obj.data e1;injection e3 with e4
 refine ⟨e2,?_⟩;have e5:=congrArg Array.toList e4;simpa using e5
theorem Zwe (KX:K.In h) (ar:∀ a ∈ A,Ql7 h A a) {a:Addr} {vs:List Value} (ha:a ∈ A) (e:h.get? a=some { cls:=.type "list",data:=.seq vs.toArray }):(∀ u ∈ vs,OkU A u)/\SqL K (Qrw K h A) a (vs.map toV):=by
 obtain ⟨us,h1,h2,h3⟩:=ar a ha;have hu:us=vs:=by
  rcases h3 with q | q
  .rw[e]at q;exact (Qrz q).2.symm
  .rw[e]at q;exact absurd (Value.type.inj (Qrz q).1) (by decide)
 subst hu;refine ⟨h2,?_⟩;cases hk:K.lookup a with
 | none=>exact .inl (.inr ⟨_,by rw[Qrx ha hk e,Zbb]⟩)
 | some o =>have e2:=KX a o hk;rw[e]at e2;obtain rfl:=Option.some.inj e2;exact .inr ⟨_,us.toArray,_,hk,rfl,rfl,rfl,by rw[List.size_toArray];exact h1,by simpa using Qhe h2⟩
theorem Zwf (KX:K.In h) (ar:∀ a ∈ A,Ql7 h A a) {a:Addr} {vs:List Value} (ha:a ∈ A) (e:h.get? a=some { cls:=.type "tuple",data:=.seq vs.toArray }):(∀ u ∈ vs,OkU A u)/\SqT K (Qrw K h A) a (vs.map toV):=by
 obtain ⟨us,h1,h2,h3⟩:=ar a ha;have hu:us=vs:=by
  rcases h3 with q | q
  .rw[e]at q;exact absurd (Value.type.inj (Qrz q).1) (by decide)
  .rw[e]at q;exact (Qrz q).2.symm
 subst hu;refine ⟨h2,?_⟩;cases hk:K.lookup a with
 | none=>exact .inl (.inr ⟨_,by rw[Qrx ha hk e,Zbc]⟩)
 | some o =>have e2:=KX a o hk;rw[e]at e2;obtain rfl:=Option.some.inj e2;exact .inr ⟨_,us.toArray,_,hk,rfl,rfl,by rw[List.size_toArray];exact h1,by simpa using Qhe h2⟩
mutual
theorem Zri {Pm:Params} (KX:K.In h) (ar:∀ a ∈ A,Ql7 h A a):∀ (d:WData) (v:Value),Well Pm h v d->plW d=true->OkU A v->Dw K (Qrw K h A) (toV v) d
 | .none,_,x,_,_=>by
  cases x;exact .non
 | .bool b,_,x,_,_=>by
  cases x;exact .bl b
 | .int i,_,x,_,_=>by
  cases x;exact .int i
 | .str s,_,x,_,_=>by
  cases x;exact .str s
 | .bytes b,_,x,_,_=>by
  cases x;have z:=Dw.byt (K:=K) (H:=Qrw K h A) b.toArray;exact z
 | .list ds,_,x,p,hu=>by
  obtain ⟨a,vs,rfl,ho,hall⟩:=Quc x;obtain ⟨h2,hs⟩:=Zwe KX ar hu ho;exact .lst hs (Zbd KX ar ds _ hall p h2)
 | .tuple ds,_,x,p,hu=>by
  obtain ⟨a,vs,rfl,ho,hall⟩:=Qqs x;obtain ⟨h2,hs⟩:=Zwf KX ar hu ho;exact .tup hs (Zbd KX ar ds _ hall p h2)
 | .float _,_,_,p,_=>Bool.noConfusion (show false=true from p)
 | .dict _,_,_,p,_=>Bool.noConfusion (show false=true from p)
 | .bytearray _,_,_,p,_=>Bool.noConfusion (show false=true from p)
 | .set _,_,_,p,_=>Bool.noConfusion (show false=true from p)
 | .frozenset _,_,_,p,_=>Bool.noConfusion (show false=true from p)
 | .obj _ _,_,_,p,_=>Bool.noConfusion (show false=true from p)
theorem Zbd {Pm:Params} (KX:K.In h) (ar:∀ a ∈ A,Ql7 h A a):∀ (ds:List WData) (vs:List Value),WellAll Pm h vs ds->Zej ds=true->(∀ u ∈ vs,OkU A u)->Qjb K (Qrw K h A) (vs.map toV) ds
 | [],_,x,_,_=>by
  cases x;exact .nil
 | d::ds,_,x,p,hu=>by
  obtain ⟨v,vs,rfl,x1,x2⟩:=Qud x;have q:plW d=true/\Zej ds=true:=Bool.and_eq_true_iff.mp p;exact .cons (Zri KX ar d v x1 q.1 (hu _ (List.mem_cons_self ..))) (Zbd KX ar ds vs x2 q.2 fun u m=>hu u (List.mem_cons_of_mem _ m))
end
end
theorem Zf1 {P:Program} {w:World} {K:FG} {mg mb:Str->Option Value} {CX:CXT} {k:Nat} {fa:Addr} {fd:FuncData} {ps:List Str} {sp:Sp} {s₁:Shared} {vals:List Value} {ds:List WData} {R:PySem.W.WRecords} {cl:Str->Option Addr} {d0:WData}
  (KX:K.In s₁.heap) (hns:s₁.heap.Ns mainGlobals mg) (hb:s₁.heap.Ns builtinsNs mb) (hbb:∀ x:Str,x ≠ "__name__" -> mb x=bootBuiltins x) (hlim:s₁.heap.NoLimit) (hg:s₁.gens = #[])
  (hwl:WellAll w.params s₁.heap vals ds) (hpl:Zej ds=true) (hwt:∀ d ∈ ds,d.weight<=1048576) (hr:Qeu k callerA)
  (F:∀ base:Heap,K.In base->base.Ns mainGlobals mg->Qmo P w K mg base CX k fa fd ps sp) (hbind:∀ (s:Shared) (us:List Value),us.length=ps.length->BindsTo s fd ⟨us,[]⟩ (ps.zip us)) (hlen:ds.length=ps.length)
  (hsp:∀ (H:Hp) (xs:List V),Zcp H->Qjb K H xs ds->sp xs H (fun v H'=>Dw K H' v d0) fun _ _ _=>False)
  (hCX:∀ H e s',CX [] H s₁ (fun _ _ _=>False) e s' -> False) :
  codeAny (model P w) callerA (.call (.ref fa) ⟨vals,[]⟩) (fun r s'=>∃ u as,r = .ok (.ret u)/\ReadsW R cl s'.heap u d0 as/\OldK s₁.heap s'.heap/\s'.os=s₁.os/\AllBare s'.gens) s₁:=by
 obtain ⟨A,ho,ar⟩:=Qmp ds vals hwl hpl hwt;have hO:Zcp (Qrw K s₁.heap A):=Zf0 ar;have hok:HOk P w (Qrw K s₁.heap A) s₁.heap:=Zog ar;have hS:=Zbd KX ar ds vals hwl hpl ho;have hV:=Qhe ho;have hK:∀ b u,Qrw K s₁.heap A b=some u->K.lookup b=none:=fun b u q=>(Qry ar q).1;have noA:∀ {b:Addr} {o:Obj} {es:Array DictEntry} {ep:Nat},s₁.heap.get? b=some o->o.data = .dict es ep->Qrw K s₁.heap A b=none:=fun {b o es ep} e d=>by
  cases q:Qrw K s₁.heap A b with
  | none=>rfl
  | some u =>
   obtain ⟨_,vs,_,_,⟨e2,_⟩ | ⟨e2,_⟩⟩:=Qry ar q
   .rw[e2]at e;cases e;have d':Data.seq vs.toArray _=Data.dict es ep:=d;cases d'
   .rw[e2]at e;cases e;have d':Data.seq vs.toArray _=Data.dict es ep:=d;cases d'
 generalize Qrw K s₁.heap A=H at hO hok hS hK noA;have Zf2:∀ {b:Addr} {o:Obj},s₁.heap.get? b=some o->H b=none->(Zj4 s₁.heap H).get? b=some o:=fun e n=>Zj5 e n;have nsK:∀ {b:Addr} {m:Str->Option Value},s₁.heap.Ns b m->(Zj4 s₁.heap H).Ns b m:=fun {b m} ⟨o,es,ep,e,d,r⟩=>⟨o,es,ep,Zf2 e (noA e d),d,r⟩
 have nK:∀ b o,K.lookup b=some o->H b=none:=fun b o e=>by
  cases q:H b with
  | none=>rfl
  | some u =>rw[hK b u q]at e;cases e
 have hKb:K.In (Zj4 s₁.heap H):=fun b o e=>Zf2 (KX b o e) (nK b o e);have hM:Mod K mg (Zj4 s₁.heap H):=⟨hKb,nsK hns,⟨mb,nsK hb,hbb⟩,let ⟨mc,h1,h2⟩:=hlim;⟨mc,nsK h1,h2⟩⟩
 have e0:Zj0 P w K mg (Zj4 s₁.heap H) callerA [] s₁ H:=⟨rfl,hM,fun b o e=>Znm e,Nat.le_of_eq (Zem _ _),trivial,fun b hb=>absurd (show b ∈ ([]:List Addr) from hb) (by simp),hok,.of_eq hg⟩
 have hl:vals.length=ps.length:=by rw[Qew hwl];exact hlen
 refine codeAny_mono ((F _ hKb (nsK hns)).run callerA [] s₁ H ⟨vals,[]⟩ vals (vals.map toV) _ _ hr e0 (hbind s₁ vals hl) hV (hsp H _ hO hS)) fun r s' x=>?_;cases r with
 | error e=>exact (hCX H e s' x).elim
 | ok fl =>
  cases fl with
  | next=>exact False.elim x
  | brk=>exact False.elim x
  | cont=>exact False.elim x
  | ret u =>
   obtain ⟨v,H',os,bare,un,Zu7,r',q⟩:=x;have kept:∀ b o,s₁.heap.get? b=some o->s'.heap.get? b=some o:=fun b o e=>by
    cases q2:H b with
    | none=>exact un.keep b o e q2 (by intro z;exact absurd (show b ∈ ([]:List Addr) from z) (by simp)) (by simp)
    | some u2 =>
     rcases hO b with z | ⟨ob,u3,z⟩
     .rw[q2]at z;cases z
     .have z2:=un.Zch b ob _ z;obtain ⟨e1,_⟩:=hok b _ z;obtain ⟨e2,_⟩:=Zu7 b _ z2;rw[e]at e1;cases e1;exact e2
   have KX':K.In s'.heap:=fun b o e=>kept b o (KX b o e);obtain ⟨as,hrd⟩:=Dw.reads (R:=R) (cl:=cl) Zu7 KX' d0 v u q r';exact ⟨u,as,rfl,hrd,OldK.of_keep kept,os,bare⟩
theorem Qpk {ds:List WData} (h:WData.layableAll ds=true):∀ d ∈ ds,d.weight<=1048576:=fun d hd =>
 (PySem.W.layableW_iff.mp (List.all_eq_true.mp h d hd)).2.2
theorem Qqt:∀ (cs:List Codec) (a:Codec.denoteAll cs),(Codec.encAll cs a).length=cs.length
 | [],_=>rfl
 | c::cs,a=>by
  show (Codec.encAll cs a.2).length+1=cs.length+1;rw[Qqt cs a.2]
theorem Zf3 {r:OpenSpec} {k:Nat} {q:Program} {loose:List Str} {XP:(Str->Option Value)->Heap->Prop} {YP:World->Heap->Prop} {d:DefRec} {K:Params->FG} {CX:World->CXT} {ps:List Str} {sp:World->Sp}
  (Zoh:r.wellSaid=true) (hdf:d.params.defaults=[]) (hlen:r.args.length=ps.length) (hr:Qeu k callerA)
  (hY:∀ (w:World) (h:Heap),YP w h->(K w.params).In h)
  (F:∀ (w:World) (mg:Str->Option Value) (fa:Addr) (h:Heap),YP w h->(K w.params).In h->h.Ns mainGlobals mg->mg d.name=some (.ref fa) ->
   ∃ fd:FuncData,(∀ (s:Shared) (us:List Value),us.length=ps.length->BindsTo s fd ⟨us,[]⟩ (ps.zip us)) /\
    ∀ base:Heap,(K w.params).In base->base.Ns mainGlobals mg->Qmo r.prog w (K w.params) mg base (CX w) k fa fd ps (sp w))
  (hsp:∀ (w:World) (H:Hp) (xs:List V) (a:Codec.denoteAll r.args),Zcp H->Codec.withinAll r.args a=true->Codec.app r.args r.asked a=true->Qjb (K w.params) H xs (Codec.encAll r.args a) ->
   sp w xs H (fun v H'=>Dw (K w.params) H' v (r.ret.enc (Codec.app r.args r.f a))) fun _ _ _=>False)
  (hCX:∀ (w:World) (H:Hp) (s:Shared) (e:Value) (s':Shared),CX w [] H s (fun _ _ _=>False) e s' -> False) :
  PySem.W.WalkOS q loose XP YP r d [] (fun f vs=>PySem.call f vs):=by
 intro w s_0 s₁ mg mb G Y fa o pm cd doc dV kV ho hd hcd hD hmg hg args vals as hpre hlay hrd hwl hlo;obtain ⟨a,e1,e2⟩:=PySem.W.os_pre_some hpre;obtain ⟨e3,hwi⟩:=Codec.encAll_of_decAll r.args args a e1;subst e3;have KX:=hY w _ Y;obtain ⟨fd,hb,hF⟩:=F w mg fa _ Y KX G.T.g hmg
 refine PySem.W.enter_call (codeAny_mono (Zf1 (R:=[]) (cl:=classAt s_0.heap) (d0:=r.ret.enc (Codec.app r.args r.f a)) KX G.T.g G.T.b G.T.builtins G.T.nolimit hg hwl (Qub _ _) (Qpk hlay) hr hF hb (by rw[Qqt];exact hlen)
  (fun H xs hO hS=>hsp w H xs a hO hwi e2 hS) fun H e s'=>hCX w H s₁ e s') fun r' s' hq=>?_)
 obtain ⟨u,as',rfl,h1,h2,h3,h4⟩:=hq;exact ⟨.inl ⟨u,_,as',rfl,fun _=>rfl,h1,(OpenSpec.post_iff Zoh hwi _ _).mpr rfl,fun z=>Bool.noConfusion (show false=true from z)⟩,h2,h3,h4⟩
theorem Zcq {r:OpenSpec} {k:Nat} {q:Program} {loose:List Str} {XP:(Str->Option Value)->Heap->Prop} {YP:World->Heap->Prop} {d:DefRec} {K:Params->FG} {CX:CXT} {ps:List Str} {sp:FG->Sp}
  (Zoh:r.wellSaid=true) (hdf:d.params.defaults=[]) (hlen:r.args.length=ps.length) (hr:Qeu k callerA)
  (hY:∀ (w:World) (h:Heap),YP w h->(K w.params).In h)
  (F:∀ (w:World) (mg:Str->Option Value) (fa:Addr) (h:Heap),YP w h->(K w.params).In h->h.Ns mainGlobals mg->mg d.name=some (.ref fa) ->
   ∃ fd:FuncData,(∀ (s:Shared) (us:List Value),us.length=ps.length->BindsTo s fd ⟨us,[]⟩ (ps.zip us)) /\
    ∀ base:Heap,(K w.params).In base->base.Ns mainGlobals mg->Qmo r.prog w (K w.params) mg base CX k fa fd ps (sp (K w.params)))
  (hsp:∀ (K:FG) (H:Hp) (xs:List V) (a:Codec.denoteAll r.args),Zcp H->Codec.withinAll r.args a=true->Codec.app r.args r.asked a=true->Qjb K H xs (Codec.encAll r.args a) ->
   sp K xs H (fun v H'=>Dw K H' v (r.ret.enc (Codec.app r.args r.f a))) fun _ _ _=>False)
  (hCX:∀ (H:Hp) (s:Shared) (e:Value) (s':Shared),CX [] H s (fun _ _ _=>False) e s' -> False) :
  PySem.W.WalkOS q loose XP YP r d [] (fun f vs=>PySem.call f vs):=
 Zf3 (K:=K) (CX:=fun _=>CX) (sp:=fun w=>sp (K w.params)) Zoh hdf hlen hr hY F (fun w H xs a h1 h2 h3 h4=>hsp (K w.params) H xs a h1 h2 h3 h4) fun _ H s e s'=>hCX H s e s'
end L2
end
end
namespace L2
open PySem PySem.Spec PyProof.Rows
theorem Qeu.M {j k:Nat} {A:Around} (r:Qeu k A) (h:j<=k:=by decide):Qeu j A:=r.mono h
theorem sz1:1<=sizeLine:=by decide
section
variable {X:Cx} {i:Nat} {x:Str} {e:Expr} {te:TE} {pos pos':Pos} (hN:X.N.Nodup)
include hN
theorem psL (he:PE X e te) (hi:X.N[i]? = some x:=by exact rfl) (hx:Loc X.env.scope x:=by exact Or.inl rfl) (hs:swapsWith e (some (.Name x pos')) pos.line X.env=pure false:=by rfl) (hf:X.fn x=true\/X.env.scope.names.lookup x=some .local:=by first | exact .inl rfl | exact .inr rfl | assumption) :
  PS X (.Assign [.Name x pos'] e pos) (Zqv te (Qxz i)):=Zqw hN hi hx he hs hf
theorem paL {op:Operator} {ti:TIp} (he:PE X e te) (ho:PIp X op ti) (hi:X.N[i]? = some x:=by exact rfl) (hx:Loc X.env.scope x:=by exact Or.inl rfl) (hf:X.fn x=true\/X.env.scope.names.lookup x=some .local:=by first | exact .inl rfl | exact .inr rfl | assumption) :
  PS X (.AugAssign (.Name x pos') op e pos) (Zuw i te ti):=Zqx hN hi hx he ho hf
theorem pgL (hi:X.N[i]? = some x:=by exact rfl) (hx:Loc X.env.scope x:=by exact Or.inl rfl) (hf:X.fn x=true\/X.env.scope.names.lookup x=some .local:=by first | exact .inl rfl | exact .inr rfl | assumption):PG X (.Name x pos) (Qxz i):=Znq hN hi hx hf
end
end L2
noncomputable section
namespace B2
section
open PySem PySem.Spec PyProof.Rows L2
section
theorem lookup_at:∀ {fs:List (Str × V)} {ns:List Str} {i:Nat} {f:Str} {v:V},ns.Nodup->fs.map (·.1)=ns->ns[i]? = some f->(fs[i]?).map (·.2)=some v->fs.lookup f=some v
 | [],ns,i,f,v,_,_,_,h=>by simp at h
 | (g,w)::r,[],i,f,v,_,e,_,_=>by simp at e
 | (g,w)::r,n::ns,0,f,v,nd,e,hi,h=>by
  simp at hi h;have e1:g=n:=(List.cons.inj e).1;subst hi;subst h;subst e1;simp[List.lookup]
 | (g,w)::r,n::ns,i+1,f,v,nd,e,hi,h=>by
  have e1:g=n:=(List.cons.inj e).1;have hne:f ≠ g:=by
   rintro rfl
   subst e1;exact (List.nodup_cons.mp nd).1 (List.mem_of_getElem? (by simpa using hi))
  have hb:(f == g)=false:=beq_eq_false_iff_ne.mpr hne;simp only[List.lookup,hb];exact lookup_at (i:=i) (List.nodup_cons.mp nd).2 (List.cons.inj e).2 (by simpa using hi) (by simpa using h)
theorem Zu:∀ {fs:List (Str × V)} {ns:List Str} {i:Nat} {f:Str} {v:V},ns.Nodup->fs.map (·.1)=ns->ns[i]? = some f->Yt f v fs=fs.set i (f,v)
 | [],ns,i,f,v,_,e,hi=>by
  have e':ns=[]:=e.symm;subst e';simp at hi
 | (g,w)::r,[],i,f,v,_,e,_=>by simp at e
 | (g,w)::r,n::ns,0,f,v,nd,e,hi=>by
  simp at hi;have e1:g=n:=(List.cons.inj e).1;subst hi;subst e1;unfold Yt;rw[if_pos rfl];rfl
 | (g,w)::r,n::ns,i+1,f,v,nd,e,hi=>by
  have e1:g=n:=(List.cons.inj e).1;have hne:¬ g=f:=by
   rintro rfl
   subst e1;exact (List.nodup_cons.mp nd).1 (List.mem_of_getElem? (by simpa using hi))
  unfold Yt;rw[if_neg hne,Zu (i:=i) (List.nodup_cons.mp nd).2 (List.cons.inj e).2 (by simpa using hi)];rfl
theorem Ze:∀ {fs:List (Str × V)} {ns:List Str} {f:Str} {v:V},fs.map (·.1)=ns->f ∉ ns->Yt f v fs=fs++[(f,v)]
 | [],_,_,_,_,_=>rfl
 | (g,u)::r,ns,f,v,e,hn=>by
  subst e;have hne:¬ g=f:=fun q=>hn (by rw[<-q];exact List.mem_cons_self);unfold Yt;rw[if_neg hne,Ze (ns:=r.map (·.1)) rfl (fun m=>hn (List.mem_cons_of_mem _ m))];rfl
structure Mc where
 reel:Int
 place:Int
 motor:Bool
 lamp:Bool
 phase:Int
 count:Int
 glow:Int
 told:Bool
 Qbi:Bool
 seized:Bool
 Qjc:Bool
 dead:Bool
abbrev mN:List Str:=["reel","place","motor","lamp","phase","count","glow","told","douser","seized","torn","dead"]
def mF (x:Mc):List (Str × V):=[("reel",.int x.reel),("place",.int x.place),("motor",.bl x.motor),("lamp",.bl x.lamp),("phase",.int x.phase),("count",.int x.count),("glow",.int x.glow),("told",.bl x.told),("douser",.bl x.Qbi),("seized",.bl x.seized),("torn",.bl x.Qjc),("dead",.bl x.dead)]
theorem Qcm:mN.Nodup:=by decide +kernel
theorem mL (x:Mc):(mF x).length < 1000:=by show 12 < 1000;decide
theorem Zoi (x:Mc):(mF x).lookup ("reel" : Str)=some (.int x.reel):=lookup_at (i:=0) Qcm rfl rfl rfl
theorem Zoj (x:Mc) (v:Int):Yt "reel" (.int v) (mF x)=mF { x with reel:=v }:=Zu (i:=0) Qcm rfl rfl
theorem Zkn (x:Mc):(mF x).lookup ("place" : Str)=some (.int x.place):=lookup_at (i:=1) Qcm rfl rfl rfl
theorem Zko (x:Mc) (v:Int):Yt "place" (.int v) (mF x)=mF { x with place:=v }:=Zu (i:=1) Qcm rfl rfl
theorem Zkp (x:Mc):(mF x).lookup ("motor" : Str)=some (.bl x.motor):=lookup_at (i:=2) Qcm rfl rfl rfl
theorem Zkq (x:Mc) (v:Bool):Yt "motor" (.bl v) (mF x)=mF { x with motor:=v }:=Zu (i:=2) Qcm rfl rfl
theorem Zok (x:Mc):(mF x).lookup ("lamp" : Str)=some (.bl x.lamp):=lookup_at (i:=3) Qcm rfl rfl rfl
theorem Zol (x:Mc) (v:Bool):Yt "lamp" (.bl v) (mF x)=mF { x with lamp:=v }:=Zu (i:=3) Qcm rfl rfl
theorem Zkr (x:Mc):(mF x).lookup ("phase" : Str)=some (.int x.phase):=lookup_at (i:=4) Qcm rfl rfl rfl
theorem Zks (x:Mc) (v:Int):Yt "phase" (.int v) (mF x)=mF { x with phase:=v }:=Zu (i:=4) Qcm rfl rfl
theorem Zkt (x:Mc):(mF x).lookup ("count" : Str)=some (.int x.count):=lookup_at (i:=5) Qcm rfl rfl rfl
theorem Zku (x:Mc) (v:Int):Yt "count" (.int v) (mF x)=mF { x with count:=v }:=Zu (i:=5) Qcm rfl rfl
theorem Zom (x:Mc):(mF x).lookup ("glow" : Str)=some (.int x.glow):=lookup_at (i:=6) Qcm rfl rfl rfl
theorem Zon (x:Mc) (v:Int):Yt "glow" (.int v) (mF x)=mF { x with glow:=v }:=Zu (i:=6) Qcm rfl rfl
theorem Zoo (x:Mc):(mF x).lookup ("told" : Str)=some (.bl x.told):=lookup_at (i:=7) Qcm rfl rfl rfl
theorem Zop (x:Mc) (v:Bool):Yt "told" (.bl v) (mF x)=mF { x with told:=v }:=Zu (i:=7) Qcm rfl rfl
theorem Zf4 (x:Mc):(mF x).lookup ("douser" : Str)=some (.bl x.Qbi):=lookup_at (i:=8) Qcm rfl rfl rfl
theorem Zf5 (x:Mc) (v:Bool):Yt "douser" (.bl v) (mF x)=mF { x with Qbi:=v }:=Zu (i:=8) Qcm rfl rfl
theorem Zf6 (x:Mc):(mF x).lookup ("seized" : Str)=some (.bl x.seized):=lookup_at (i:=9) Qcm rfl rfl rfl
theorem Zf7 (x:Mc) (v:Bool):Yt "seized" (.bl v) (mF x)=mF { x with seized:=v }:=Zu (i:=9) Qcm rfl rfl
theorem Zoq (x:Mc):(mF x).lookup ("torn" : Str)=some (.bl x.Qjc):=lookup_at (i:=10) Qcm rfl rfl rfl
theorem Zor (x:Mc) (v:Bool):Yt "torn" (.bl v) (mF x)=mF { x with Qjc:=v }:=Zu (i:=10) Qcm rfl rfl
theorem Zos (x:Mc):(mF x).lookup ("dead" : Str)=some (.bl x.dead):=lookup_at (i:=11) Qcm rfl rfl rfl
theorem Zot (x:Mc) (v:Bool):Yt "dead" (.bl v) (mF x)=mF { x with dead:=v }:=Zu (i:=11) Qcm rfl rfl
structure Rl where
 name:Int
 frames:Int
 motor:Int
 change:Int
 ends:Bool
abbrev rN:List Str:=["name","frames","motor","change","ends"]
def rF (x:Rl):List (Str × V):=[("name",.int x.name),("frames",.int x.frames),("motor",.int x.motor),("change",.int x.change),("ends",.bl x.ends)]
theorem Zf8:rN.Nodup:=by decide +kernel
theorem Zou (x:Rl):(rF x).lookup ("name" : Str)=some (.int x.name):=lookup_at (i:=0) Zf8 rfl rfl rfl
theorem Zf9 (x:Rl):(rF x).lookup ("frames" : Str)=some (.int x.frames):=lookup_at (i:=1) Zf8 rfl rfl rfl
theorem Zkv (x:Rl):(rF x).lookup ("motor" : Str)=some (.int x.motor):=lookup_at (i:=2) Zf8 rfl rfl rfl
theorem Zga (x:Rl):(rF x).lookup ("change" : Str)=some (.int x.change):=lookup_at (i:=3) Zf8 rfl rfl rfl
theorem Zov (x:Rl):(rF x).lookup ("ends" : Str)=some (.bl x.ends):=lookup_at (i:=4) Zf8 rfl rfl rfl
abbrev sN:List Str:=["settings","up","strike","down","leader","reels"]
def sF (v0 v1 v2 v3 v4 v5:V):List (Str × V):=[("settings",v0),("up",v1),("strike",v2),("down",v3),("leader",v4),("reels",v5)]
theorem Qm6:sN.Nodup:=by decide +kernel
theorem sL (v0 v1 v2 v3 v4 v5:V):(sF v0 v1 v2 v3 v4 v5).length < 1000:=by show 6 < 1000;decide
theorem Qya (v0 v1 v2 v3 v4 v5:V):(sF v0 v1 v2 v3 v4 v5).lookup ("settings" : Str)=some v0:=lookup_at (i:=0) Qm6 rfl rfl rfl
theorem Qyb (v0 v1 v2 v3 v4 v5 w:V):Yt "settings" w (sF v0 v1 v2 v3 v4 v5)=sF w v1 v2 v3 v4 v5:=Zu (i:=0) Qm6 rfl rfl
theorem Ztv (v0 v1 v2 v3 v4 v5:V):(sF v0 v1 v2 v3 v4 v5).lookup ("up" : Str)=some v1:=lookup_at (i:=1) Qm6 rfl rfl rfl
theorem Ztw (v0 v1 v2 v3 v4 v5 w:V):Yt "up" w (sF v0 v1 v2 v3 v4 v5)=sF v0 w v2 v3 v4 v5:=Zu (i:=1) Qm6 rfl rfl
theorem Zgb (v0 v1 v2 v3 v4 v5:V):(sF v0 v1 v2 v3 v4 v5).lookup ("strike" : Str)=some v2:=lookup_at (i:=2) Qm6 rfl rfl rfl
theorem Zgc (v0 v1 v2 v3 v4 v5 w:V):Yt "strike" w (sF v0 v1 v2 v3 v4 v5)=sF v0 v1 w v3 v4 v5:=Zu (i:=2) Qm6 rfl rfl
theorem Zow (v0 v1 v2 v3 v4 v5:V):(sF v0 v1 v2 v3 v4 v5).lookup ("down" : Str)=some v3:=lookup_at (i:=3) Qm6 rfl rfl rfl
theorem Zox (v0 v1 v2 v3 v4 v5 w:V):Yt "down" w (sF v0 v1 v2 v3 v4 v5)=sF v0 v1 v2 w v4 v5:=Zu (i:=3) Qm6 rfl rfl
theorem Zgd (v0 v1 v2 v3 v4 v5:V):(sF v0 v1 v2 v3 v4 v5).lookup ("leader" : Str)=some v4:=lookup_at (i:=4) Qm6 rfl rfl rfl
theorem Zge (v0 v1 v2 v3 v4 v5 w:V):Yt "leader" w (sF v0 v1 v2 v3 v4 v5)=sF v0 v1 v2 v3 w v5:=Zu (i:=4) Qm6 rfl rfl
theorem Zkw (v0 v1 v2 v3 v4 v5:V):(sF v0 v1 v2 v3 v4 v5).lookup ("reels" : Str)=some v5:=lookup_at (i:=5) Qm6 rfl rfl rfl
abbrev hN:List Str:=["sheet","machines","ticks","mode","active","target","reason","log","runs","dark_ticks"]
def hF (v0 v1 v2 v3 v4 v5 v6 v7 v8 v9:V):List (Str × V):=[("sheet",v0),("machines",v1),("ticks",v2),("mode",v3),("active",v4),("target",v5),("reason",v6),("log",v7),("runs",v8),("dark_ticks",v9)]
theorem Qen:hN.Nodup:=by decide +kernel
theorem hL (v0 v1 v2 v3 v4 v5 v6 v7 v8 v9:V):(hF v0 v1 v2 v3 v4 v5 v6 v7 v8 v9).length < 1000:=by show 10 < 1000;decide
theorem Zkx (v0 v1 v2 v3 v4 v5 v6 v7 v8 v9:V):(hF v0 v1 v2 v3 v4 v5 v6 v7 v8 v9).lookup ("sheet" : Str)=some v0:=lookup_at (i:=0) Qen rfl rfl rfl
theorem Zky (v0 v1 v2 v3 v4 v5 v6 v7 v8 v9 w:V):Yt "sheet" w (hF v0 v1 v2 v3 v4 v5 v6 v7 v8 v9)=hF w v1 v2 v3 v4 v5 v6 v7 v8 v9:=Zu (i:=0) Qen rfl rfl
theorem Qyc (v0 v1 v2 v3 v4 v5 v6 v7 v8 v9:V):(hF v0 v1 v2 v3 v4 v5 v6 v7 v8 v9).lookup ("machines" : Str)=some v1:=lookup_at (i:=1) Qen rfl rfl rfl
theorem Qyd (v0 v1 v2 v3 v4 v5 v6 v7 v8 v9 w:V):Yt "machines" w (hF v0 v1 v2 v3 v4 v5 v6 v7 v8 v9)=hF v0 w v2 v3 v4 v5 v6 v7 v8 v9:=Zu (i:=1) Qen rfl rfl
theorem Zkz (v0 v1 v2 v3 v4 v5 v6 v7 v8 v9:V):(hF v0 v1 v2 v3 v4 v5 v6 v7 v8 v9).lookup ("ticks" : Str)=some v2:=lookup_at (i:=2) Qen rfl rfl rfl
theorem Zk0 (v0 v1 v2 v3 v4 v5 v6 v7 v8 v9 w:V):Yt "ticks" w (hF v0 v1 v2 v3 v4 v5 v6 v7 v8 v9)=hF v0 v1 w v3 v4 v5 v6 v7 v8 v9:=Zu (i:=2) Qen rfl rfl
theorem Zoy (v0 v1 v2 v3 v4 v5 v6 v7 v8 v9:V):(hF v0 v1 v2 v3 v4 v5 v6 v7 v8 v9).lookup ("mode" : Str)=some v3:=lookup_at (i:=3) Qen rfl rfl rfl
theorem Zoz (v0 v1 v2 v3 v4 v5 v6 v7 v8 v9 w:V):Yt "mode" w (hF v0 v1 v2 v3 v4 v5 v6 v7 v8 v9)=hF v0 v1 v2 w v4 v5 v6 v7 v8 v9:=Zu (i:=3) Qen rfl rfl
theorem Zgf (v0 v1 v2 v3 v4 v5 v6 v7 v8 v9:V):(hF v0 v1 v2 v3 v4 v5 v6 v7 v8 v9).lookup ("active" : Str)=some v4:=lookup_at (i:=4) Qen rfl rfl rfl
theorem Zgg (v0 v1 v2 v3 v4 v5 v6 v7 v8 v9 w:V):Yt "active" w (hF v0 v1 v2 v3 v4 v5 v6 v7 v8 v9)=hF v0 v1 v2 v3 w v5 v6 v7 v8 v9:=Zu (i:=4) Qen rfl rfl
theorem Zgh (v0 v1 v2 v3 v4 v5 v6 v7 v8 v9:V):(hF v0 v1 v2 v3 v4 v5 v6 v7 v8 v9).lookup ("target" : Str)=some v5:=lookup_at (i:=5) Qen rfl rfl rfl
theorem Zgi (v0 v1 v2 v3 v4 v5 v6 v7 v8 v9 w:V):Yt "target" w (hF v0 v1 v2 v3 v4 v5 v6 v7 v8 v9)=hF v0 v1 v2 v3 v4 w v6 v7 v8 v9:=Zu (i:=5) Qen rfl rfl
theorem Zgj (v0 v1 v2 v3 v4 v5 v6 v7 v8 v9:V):(hF v0 v1 v2 v3 v4 v5 v6 v7 v8 v9).lookup ("reason" : Str)=some v6:=lookup_at (i:=6) Qen rfl rfl rfl
theorem Zgk (v0 v1 v2 v3 v4 v5 v6 v7 v8 v9 w:V):Yt "reason" w (hF v0 v1 v2 v3 v4 v5 v6 v7 v8 v9)=hF v0 v1 v2 v3 v4 v5 w v7 v8 v9:=Zu (i:=6) Qen rfl rfl
theorem Zrj (v0 v1 v2 v3 v4 v5 v6 v7 v8 v9:V):(hF v0 v1 v2 v3 v4 v5 v6 v7 v8 v9).lookup ("log" : Str)=some v7:=lookup_at (i:=7) Qen rfl rfl rfl
theorem Zrk (v0 v1 v2 v3 v4 v5 v6 v7 v8 v9 w:V):Yt "log" w (hF v0 v1 v2 v3 v4 v5 v6 v7 v8 v9)=hF v0 v1 v2 v3 v4 v5 v6 w v8 v9:=Zu (i:=7) Qen rfl rfl
theorem Zo0 (v0 v1 v2 v3 v4 v5 v6 v7 v8 v9:V):(hF v0 v1 v2 v3 v4 v5 v6 v7 v8 v9).lookup ("runs" : Str)=some v8:=lookup_at (i:=8) Qen rfl rfl rfl
theorem Zo1 (v0 v1 v2 v3 v4 v5 v6 v7 v8 v9 w:V):Yt "runs" w (hF v0 v1 v2 v3 v4 v5 v6 v7 v8 v9)=hF v0 v1 v2 v3 v4 v5 v6 v7 w v9:=Zu (i:=8) Qen rfl rfl
theorem Qr0 (v0 v1 v2 v3 v4 v5 v6 v7 v8 v9:V):(hF v0 v1 v2 v3 v4 v5 v6 v7 v8 v9).lookup ("dark_ticks" : Str)=some v9:=lookup_at (i:=9) Qen rfl rfl rfl
theorem Qr1 (v0 v1 v2 v3 v4 v5 v6 v7 v8 v9 w:V):Yt "dark_ticks" w (hF v0 v1 v2 v3 v4 v5 v6 v7 v8 v9)=hF v0 v1 v2 v3 v4 v5 v6 v7 v8 w:=Zu (i:=9) Qen rfl rfl
theorem Zo2 (v0:V):Yt "reel" v0 []=([("reel",v0)]:List (Str × V)):=Ze (ns:=[]) rfl (by decide +kernel)
theorem Zk1 (v0 v1:V):Yt "place" v1 [("reel",v0)]=([("reel",v0),("place",v1)]:List (Str × V)):=Ze (ns:=["reel"]) rfl (by decide +kernel)
theorem Zk2 (v0 v1 v2:V):Yt "motor" v2 [("reel",v0),("place",v1)]=([("reel",v0),("place",v1),("motor",v2)]:List (Str × V)):=Ze (ns:=["reel","place"]) rfl (by decide +kernel)
theorem Zo3 (v0 v1 v2 v3:V):Yt "lamp" v3 [("reel",v0),("place",v1),("motor",v2)]=([("reel",v0),("place",v1),("motor",v2),("lamp",v3)]:List (Str × V)):=Ze (ns:=["reel","place","motor"]) rfl (by decide +kernel)
theorem Zk3 (v0 v1 v2 v3 v4:V):Yt "phase" v4 [("reel",v0),("place",v1),("motor",v2),("lamp",v3)]=([("reel",v0),("place",v1),("motor",v2),("lamp",v3),("phase",v4)]:List (Str × V)):=Ze (ns:=["reel","place","motor","lamp"]) rfl (by decide +kernel)
theorem Zk4 (v0 v1 v2 v3 v4 v5:V):Yt "count" v5 [("reel",v0),("place",v1),("motor",v2),("lamp",v3),("phase",v4)]=([("reel",v0),("place",v1),("motor",v2),("lamp",v3),("phase",v4),("count",v5)]:List (Str × V)):=Ze (ns:=["reel","place","motor","lamp","phase"]) rfl (by decide +kernel)
theorem Zo4 (v0 v1 v2 v3 v4 v5 v6:V):Yt "glow" v6 [("reel",v0),("place",v1),("motor",v2),("lamp",v3),("phase",v4),("count",v5)]=([("reel",v0),("place",v1),("motor",v2),("lamp",v3),("phase",v4),("count",v5),("glow",v6)]:List (Str × V)):=Ze (ns:=["reel","place","motor","lamp","phase","count"]) rfl (by decide +kernel)
theorem Zo5 (v0 v1 v2 v3 v4 v5 v6 v7:V):Yt "told" v7 [("reel",v0),("place",v1),("motor",v2),("lamp",v3),("phase",v4),("count",v5),("glow",v6)]=([("reel",v0),("place",v1),("motor",v2),("lamp",v3),("phase",v4),("count",v5),("glow",v6),("told",v7)]:List (Str × V)):=Ze (ns:=["reel","place","motor","lamp","phase","count","glow"]) rfl (by decide +kernel)
theorem Zgl (v0 v1 v2 v3 v4 v5 v6 v7 v8:V):Yt "douser" v8 [("reel",v0),("place",v1),("motor",v2),("lamp",v3),("phase",v4),("count",v5),("glow",v6),("told",v7)]=([("reel",v0),("place",v1),("motor",v2),("lamp",v3),("phase",v4),("count",v5),("glow",v6),("told",v7),("douser",v8)]:List (Str × V)):=Ze (ns:=["reel","place","motor","lamp","phase","count","glow","told"]) rfl (by decide +kernel)
theorem Zgm (v0 v1 v2 v3 v4 v5 v6 v7 v8 v9:V):Yt "seized" v9 [("reel",v0),("place",v1),("motor",v2),("lamp",v3),("phase",v4),("count",v5),("glow",v6),("told",v7),("douser",v8)]=([("reel",v0),("place",v1),("motor",v2),("lamp",v3),("phase",v4),("count",v5),("glow",v6),("told",v7),("douser",v8),("seized",v9)]:List (Str × V)):=Ze (ns:=["reel","place","motor","lamp","phase","count","glow","told","douser"]) rfl (by decide +kernel)
theorem Zo6 (v0 v1 v2 v3 v4 v5 v6 v7 v8 v9 v10:V):Yt "torn" v10 [("reel",v0),("place",v1),("motor",v2),("lamp",v3),("phase",v4),("count",v5),("glow",v6),("told",v7),("douser",v8),("seized",v9)]=([("reel",v0),("place",v1),("motor",v2),("lamp",v3),("phase",v4),("count",v5),("glow",v6),("told",v7),("douser",v8),("seized",v9),("torn",v10)]:List (Str × V)):=Ze (ns:=["reel","place","motor","lamp","phase","count","glow","told","douser","seized"]) rfl (by decide +kernel)
theorem Zo7 (v0 v1 v2 v3 v4 v5 v6 v7 v8 v9 v10 v11:V):Yt "dead" v11 [("reel",v0),("place",v1),("motor",v2),("lamp",v3),("phase",v4),("count",v5),("glow",v6),("told",v7),("douser",v8),("seized",v9),("torn",v10)]=([("reel",v0),("place",v1),("motor",v2),("lamp",v3),("phase",v4),("count",v5),("glow",v6),("told",v7),("douser",v8),("seized",v9),("torn",v10),("dead",v11)]:List (Str × V)):=Ze (ns:=["reel","place","motor","lamp","phase","count","glow","told","douser","seized","torn"]) rfl (by decide +kernel)
theorem Zo8 (v0:V):Yt "name" v0 []=([("name",v0)]:List (Str × V)):=Ze (ns:=[]) rfl (by decide +kernel)
theorem Zgn (v0 v1:V):Yt "frames" v1 [("name",v0)]=([("name",v0),("frames",v1)]:List (Str × V)):=Ze (ns:=["name"]) rfl (by decide +kernel)
theorem Zk5 (v0 v1 v2:V):Yt "motor" v2 [("name",v0),("frames",v1)]=([("name",v0),("frames",v1),("motor",v2)]:List (Str × V)):=Ze (ns:=["name","frames"]) rfl (by decide +kernel)
theorem Zgo (v0 v1 v2 v3:V):Yt "change" v3 [("name",v0),("frames",v1),("motor",v2)]=([("name",v0),("frames",v1),("motor",v2),("change",v3)]:List (Str × V)):=Ze (ns:=["name","frames","motor"]) rfl (by decide +kernel)
theorem Zo9 (v0 v1 v2 v3 v4:V):Yt "ends" v4 [("name",v0),("frames",v1),("motor",v2),("change",v3)]=([("name",v0),("frames",v1),("motor",v2),("change",v3),("ends",v4)]:List (Str × V)):=Ze (ns:=["name","frames","motor","change"]) rfl (by decide +kernel)
theorem Qye (v0:V):Yt "settings" v0 []=([("settings",v0)]:List (Str × V)):=Ze (ns:=[]) rfl (by decide +kernel)
theorem Ztx (v0 v1:V):Yt "up" v1 [("settings",v0)]=([("settings",v0),("up",v1)]:List (Str × V)):=Ze (ns:=["settings"]) rfl (by decide +kernel)
theorem Zgp (v0 v1 v2:V):Yt "strike" v2 [("settings",v0),("up",v1)]=([("settings",v0),("up",v1),("strike",v2)]:List (Str × V)):=Ze (ns:=["settings","up"]) rfl (by decide +kernel)
theorem Zpa (v0 v1 v2 v3:V):Yt "down" v3 [("settings",v0),("up",v1),("strike",v2)]=([("settings",v0),("up",v1),("strike",v2),("down",v3)]:List (Str × V)):=Ze (ns:=["settings","up","strike"]) rfl (by decide +kernel)
theorem Zgq (v0 v1 v2 v3 v4:V):Yt "leader" v4 [("settings",v0),("up",v1),("strike",v2),("down",v3)]=([("settings",v0),("up",v1),("strike",v2),("down",v3),("leader",v4)]:List (Str × V)):=Ze (ns:=["settings","up","strike","down"]) rfl (by decide +kernel)
theorem Zk6 (v0 v1 v2 v3 v4 v5:V):Yt "reels" v5 [("settings",v0),("up",v1),("strike",v2),("down",v3),("leader",v4)]=([("settings",v0),("up",v1),("strike",v2),("down",v3),("leader",v4),("reels",v5)]:List (Str × V)):=Ze (ns:=["settings","up","strike","down","leader"]) rfl (by decide +kernel)
theorem Zk7 (v0:V):Yt "sheet" v0 []=([("sheet",v0)]:List (Str × V)):=Ze (ns:=[]) rfl (by decide +kernel)
theorem Qyf (v0 v1:V):Yt "machines" v1 [("sheet",v0)]=([("sheet",v0),("machines",v1)]:List (Str × V)):=Ze (ns:=["sheet"]) rfl (by decide +kernel)
theorem Zk8 (v0 v1 v2:V):Yt "ticks" v2 [("sheet",v0),("machines",v1)]=([("sheet",v0),("machines",v1),("ticks",v2)]:List (Str × V)):=Ze (ns:=["sheet","machines"]) rfl (by decide +kernel)
theorem Zpb (v0 v1 v2 v3:V):Yt "mode" v3 [("sheet",v0),("machines",v1),("ticks",v2)]=([("sheet",v0),("machines",v1),("ticks",v2),("mode",v3)]:List (Str × V)):=Ze (ns:=["sheet","machines","ticks"]) rfl (by decide +kernel)
theorem Zgr (v0 v1 v2 v3 v4:V):Yt "active" v4 [("sheet",v0),("machines",v1),("ticks",v2),("mode",v3)]=([("sheet",v0),("machines",v1),("ticks",v2),("mode",v3),("active",v4)]:List (Str × V)):=Ze (ns:=["sheet","machines","ticks","mode"]) rfl (by decide +kernel)
theorem Zgs (v0 v1 v2 v3 v4 v5:V):Yt "target" v5 [("sheet",v0),("machines",v1),("ticks",v2),("mode",v3),("active",v4)]=([("sheet",v0),("machines",v1),("ticks",v2),("mode",v3),("active",v4),("target",v5)]:List (Str × V)):=Ze (ns:=["sheet","machines","ticks","mode","active"]) rfl (by decide +kernel)
theorem Zgt (v0 v1 v2 v3 v4 v5 v6:V):Yt "reason" v6 [("sheet",v0),("machines",v1),("ticks",v2),("mode",v3),("active",v4),("target",v5)]=([("sheet",v0),("machines",v1),("ticks",v2),("mode",v3),("active",v4),("target",v5),("reason",v6)]:List (Str × V)):=Ze (ns:=["sheet","machines","ticks","mode","active","target"]) rfl (by decide +kernel)
theorem Zrl (v0 v1 v2 v3 v4 v5 v6 v7:V):Yt "log" v7 [("sheet",v0),("machines",v1),("ticks",v2),("mode",v3),("active",v4),("target",v5),("reason",v6)]=([("sheet",v0),("machines",v1),("ticks",v2),("mode",v3),("active",v4),("target",v5),("reason",v6),("log",v7)]:List (Str × V)):=Ze (ns:=["sheet","machines","ticks","mode","active","target","reason"]) rfl (by decide +kernel)
theorem Zpc (v0 v1 v2 v3 v4 v5 v6 v7 v8:V):Yt "runs" v8 [("sheet",v0),("machines",v1),("ticks",v2),("mode",v3),("active",v4),("target",v5),("reason",v6),("log",v7)]=([("sheet",v0),("machines",v1),("ticks",v2),("mode",v3),("active",v4),("target",v5),("reason",v6),("log",v7),("runs",v8)]:List (Str × V)):=Ze (ns:=["sheet","machines","ticks","mode","active","target","reason","log"]) rfl (by decide +kernel)
theorem Qr2 (v0 v1 v2 v3 v4 v5 v6 v7 v8 v9:V):Yt "dark_ticks" v9 [("sheet",v0),("machines",v1),("ticks",v2),("mode",v3),("active",v4),("target",v5),("reason",v6),("log",v7),("runs",v8)]=([("sheet",v0),("machines",v1),("ticks",v2),("mode",v3),("active",v4),("target",v5),("reason",v6),("log",v7),("runs",v8),("dark_ticks",v9)]:List (Str × V)):=Ze (ns:=["sheet","machines","ticks","mode","active","target","reason","log","runs"]) rfl (by decide +kernel)
def CI (mg:Str->Option Value) (x:Str) (i:Int):Prop:=∃ t,mg x=some (.int i t)
structure Zk9 (K:FG) (C:Addr) (fs:List Str):Prop where
 cl:Cls K C
 na:∀ f ∈ fs,Qb0 K C f
def Df (K:FG) (mg:Str->Option Value) (x:Str) (st:Stmt) (ps:List Str):Prop:=∃ f fd,mg x=some (.ref f)/\Fun K x x st f fd/\Binds K fd ps []
def Ok (P:Program) (w:World) (K:FG) (mg:Str->Option Value) (base:Heap) (x:Str) (k:Nat) (ps:List Str) (sp:Sp):Prop:=
 ∃ f fd,mg x=some (.ref f)/\PySem.W.keepIn K (.ref f)=true/\Binds K fd ps []/\Qmo P w K mg base CX0 k f fd ps sp
section
variable {P:Program} {w:World} {K:FG} {mg:Str->Option Value} {base:Heap}
theorem Df.ok {x:Str} {st:Stmt} {N ps:List Str} {k:Nat} {sp:Sp} (D:Df K mg x st ps) (S:Qn N ps (Qi st)) (len:∀ vs H Q E,sp vs H Q E->vs.length=ps.length)
  (hbody:∀ (f:Addr) (cdv:Value) (A:Around) (outer:List Env) (s:Shared) (H:Hp) (vs:List V) (Q:VK) (E:XK),Qeu k (A.deeper (envOfC x (Qi st) s.heap.objs.size f cdv))->sp vs H Q E ->
   ∃ t,PSs (Zkf CX0 P w K mg base N x (Qi st) f cdv A outer s H E).nox (Qkl st) t/\t { nx:=fun _ H'=>Q .non H',rt:=Q } (start N vs) H):Ok P w K mg base x (k+1) ps sp:=by
 obtain ⟨f,fd,e,F,b⟩:=D;exact ⟨f,fd,e,F.kp,b,F.ok S len (hbody f)⟩
end
def DfI (K:FG) (mg:Str->Option Value) (x qual:Str) (C:Addr) (st:Stmt) (ps:List Str):Prop:=∃ f fd,mg x=some (.ref C)/\Mk K C f/\Fun K "__init__" qual st f fd/\Binds K fd ps []
def DfM (K:FG) (m qual:Str) (C:Addr) (st:Stmt) (ps:List Str):Prop:=∃ f fd,Meth K C m f/\Fun K m qual st f fd/\Binds K fd ps []
def OkI (P:Program) (w:World) (K:FG) (mg:Str->Option Value) (base:Heap) (x:Str) (C:Addr) (k:Nat) (ps:List Str) (sp:Sp):Prop:=
 ∃ f fd,mg x=some (.ref C)/\Mk K C f/\Binds K fd ps []/\Qmo P w K mg base CX0 k f fd ps sp
def OkM (P:Program) (w:World) (K:FG) (mg:Str->Option Value) (base:Heap) (m:Str) (C:Addr) (k:Nat) (ps:List Str) (sp:Sp):Prop:=
 ∃ f fd,Meth K C m f/\Binds K fd ps []/\Qmo P w K mg base CX0 k f fd ps sp
section
variable {P:Program} {w:World} {K:FG} {mg:Str->Option Value} {base:Heap}
theorem DfI.ok {x qual:Str} {C:Addr} {st:Stmt} {N ps:List Str} {k:Nat} {sp:Sp} (D:DfI K mg x qual C st ps) (S:Qn N ps (Qi st)) (len:∀ vs H Q E,sp vs H Q E->vs.length=ps.length)
  (hbody:∀ (f:Addr) (cdv:Value) (A:Around) (outer:List Env) (s:Shared) (H:Hp) (vs:List V) (Q:VK) (E:XK),Qeu k (A.deeper (envOfC qual (Qi st) s.heap.objs.size f cdv))->sp vs H Q E ->
   ∃ t,PSs (Zkf CX0 P w K mg base N qual (Qi st) f cdv A outer s H E).nox (Qkl st) t/\t { nx:=fun _ H'=>Q .non H',rt:=Q } (start N vs) H):OkI P w K mg base x C (k+1) ps sp:=by
 obtain ⟨f,fd,e,m,F,b⟩:=D;exact ⟨f,fd,e,m,b,F.ok S len (hbody f)⟩
theorem DfM.ok {m qual:Str} {C:Addr} {st:Stmt} {N ps:List Str} {k:Nat} {sp:Sp} (D:DfM K m qual C st ps) (S:Qn N ps (Qi st)) (len:∀ vs H Q E,sp vs H Q E->vs.length=ps.length)
  (hbody:∀ (f:Addr) (cdv:Value) (A:Around) (outer:List Env) (s:Shared) (H:Hp) (vs:List V) (Q:VK) (E:XK),Qeu k (A.deeper (envOfC qual (Qi st) s.heap.objs.size f cdv))->sp vs H Q E ->
   ∃ t,PSs (Zkf CX0 P w K mg base N qual (Qi st) f cdv A outer s H E).nox (Qkl st) t/\t { nx:=fun _ H'=>Q .non H',rt:=Q } (start N vs) H):OkM P w K mg base m C (k+1) ps sp:=by
 obtain ⟨f,fd,e,F,b⟩:=D;exact ⟨f,fd,e,b,F.ok S len (hbody f)⟩
end
section
variable {X:Cx} {x:Str} {p pos:Pos} {e:Expr} {es:List Expr} {t:TA}
theorem pgi {i:Int} (h:CI X.mg x i) (hg:Gl X x:=by rfl) (hd:(x == ("__debug__" : Str))=false:=by decide):PE X (.Name x pos) (tC (.int i)):=by obtain ⟨t,h⟩:=h;exact Zer hg h ⟨t,rfl⟩ hd
theorem pgr {a:Addr} (h:X.mg x=some (.ref a)) (hg:Gl X x:=by rfl) (hd:(x == ("__debug__" : Str))=false:=by decide):PE X (.Name x pos) (tC (.ref a)):=Zer hg h rfl hd
theorem pcl {k:Nat} {ps:List Str} {sp:Sp} (h:Ok X.prog X.w X.K X.mg X.base x k ps sp) (hr:Qeu k X.A) (ha:PA X (e::es) t) (hg:Gl X x:=by rfl)
  (hdb:(x == ("__debug__" : Str))=false:=by decide) (he:starEach (e::es) X.env=(false,eval e X.env)::starEach es X.env:=by rfl) (hpl:(backTo pos (starEach es X.env)).any (·.1)=false:=by rfl) :
  PE X (.Call (.Name x p) (e::es) [] pos) (Ze8 sp [] E0 t):=by
 obtain ⟨f,fd,hm,hk,hb,F⟩:=h;exact Zn0 F hr hg hm hk hb .nil Zfu ha hdb he hpl
theorem pmk {k:Nat} {C:Addr} {ps:List Str} {sp:Sp} (h:OkI X.prog X.w X.K X.mg X.base x C k ps sp) (hr:Qeu (k+1) X.A) (ha:PA X (e::es) t) (hg:Gl X x:=by rfl)
  (hdb:(x == ("__debug__" : Str))=false:=by decide) (he:starEach (e::es) X.env=(false,eval e X.env)::starEach es X.env:=by rfl) (hpl:(backTo pos (starEach es X.env)).any (·.1)=false:=by rfl) :
  PE X (.Call (.Name x p) (e::es) [] pos) (Zkd C sp [] E0 t):=by
 obtain ⟨f,fd,hm,M,hb,F⟩:=h;exact Zn2 M F hr hg hm hb .nil Zfu ha hdb he hpl
theorem Zs5 {k:Nat} {C:Addr} {ps:List Str} {sp:Sp} (h:OkI X.prog X.w X.K X.mg X.base x C k ps sp) (hr:Qeu (k+1) X.A) (hg:Gl X x:=by rfl) (hdb:(x == ("__debug__" : Str))=false:=by decide) :
  PE X (.Call (.Name x p) [] [] pos) (Zkd C sp [] E0 Ze7):=by
 obtain ⟨f,fd,hm,M,hb,F⟩:=h;exact Zke M F hr hg hm hb .nil Zfu hdb
theorem pmt {k:Nat} {C:Addr} {m:Str} {apos:Pos} {o:Expr} {ta:TE} {ps:List Str} {sp:Sp} {pl:Sem Bool} (he:PE X o ta) (c:Cls X.K C) (h:OkM X.prog X.w X.K X.mg X.base m C k ps sp) (hr:Qeu k X.A) (ha:PA X (e::es) t)
  (hst:starEach (e::es) X.env=(false,eval e X.env)::starEach es X.env:=by rfl) (hpl:(backTo pos (starEach es X.env)).any (·.1)=false:=by rfl)
  (ht:eval (.Call (.Attribute o m apos) (e::es) [] pos) X.env=(do
   let ov <-eval o X.env
   standAt apos.atName
   let (f,first) <-holding [ov] (getMethod ov m pl)
   callWith pos f first (backTo pos (starEach (e::es) X.env)) (backToKw pos (keywordEach [] X.env))):=by rfl) :
  PE X (.Call (.Attribute o m apos) (e::es) [] pos) (Zq1 C m sp [] E0 ta t):=by
 obtain ⟨f,fd,M,hb,F⟩:=h;exact Zn1 he c M F hr hb .nil Zfu ha hst hpl ht
end
def top (i:Nat):Stmt:=PySem.Challenge.pw_twoprojectors_s01_answers.main.body.getD i (.Pass ⟨0,0,0,0⟩)
structure Txt (K:FG) (mg:Str->Option Value) (CM CR CS CH:Addr):Prop where
 cM:Zk9 K CM mN
 cR:Zk9 K CR rN
 cS:Zk9 K CS sN
 cH:Zk9 K CH hN
 Qai:CI mg "NO_REEL" (-1)
 Qex:CI mg "STANDS" (0)
 Qm7:CI mg "RUNS_UP" (1)
 Qcv:CI mg "AT_SPEED" (2)
 Qh5:CI mg "RUNS_DOWN" (3)
 Qf8:CI mg "NOTHING_BEGUN" (0)
 Qm8:CI mg "WAITS" (1)
 Zbe:CI mg "RUNS" (2)
 Que:CI mg "STOPPED" (3)
 Zgu:CI mg "OVER" (4)
 Qjd:CI mg "LOG_STARTED" (1)
 Qje:CI mg "LOG_CHANGED" (2)
 Qjf:CI mg "LOG_SHOWING" (3)
 Qjg:CI mg "LOG_STOPPED" (4)
 Qqu:CI mg "LOG_OVER" (5)
 Qjh:CI mg "LOG_MISSING" (6)
 Zd:CI mg "OUT_OF_RANGE" (-1)
 Qqv:CI mg "NO_SHEET" (-2)
 Qm9:CI mg "GOING" (-3)
 Qd4:CI mg "NOT_STANDING" (-4)
 Qft:CI mg "REEL_ELSEWHERE" (-5)
 Qaj:CI mg "WITHOUT_REEL" (-6)
 Quf:CI mg "OUTSIDE" (-7)
 Qqw:CI mg "LINE_END" (10)
 Zgv:CI mg "BLANK" (32)
 Qji:CI mg "DIGIT_0" (48)
 Qug:CI mg "DIGIT_9" (57)
 Qjj:CI mg "MOST_DIGITS" (4)
 Qlf:CI mg "MOST_REELS" (6)
 Qlg:CI mg "MOST_BYTES" (1000)
 Qna:CI mg "MOST_BYTE" (255)
 Quh:CI mg "NO_FORM" (1)
 Qlh:CI mg "BAD_NUMBER" (2)
 Qd5:CI mg "OUT_OF_PLACE" (3)
 Qqx:CI mg "TOO_MANY" (4)
 Qkn:CI mg "BAD_CUES" (5)
 Qhf:CI mg "SETTINGS" (4)
 Qfu:CI mg "REEL_WITH_CUES" (4)
 Qjk:CI mg "NEVER_READY" (1)
 Qjl:CI mg "NOT_RUNNING" (2)
 Qhq:CI mg "NO_NEXT_REEL" (3)
 Qui:CI mg "NOT_LIT" (4)
 Qli:CI mg "POWER_LOST" (5)
 Zbf:CI mg "HALTED" (6)
 Qlj:CI mg "MOST_FRAME" (2000)
 Qlk:CI mg "MOST_TICKS" (500)
 Qh6:CI mg "MOST_INCH" (96)
 Zgw:CI mg "NEVER" (0)
 Qyg:CI mg "TWICE" (2)
 Qc3:CI mg "FIRST_TELLING" (13)
 Qyh:CI mg "SHEET" (0)
 Qey:mg "enumerate" = none
 Qdp:mg "len" = none
 Zmv:mg "list" = none
 Zla:mg "max" = none
 Zrm:mg "min" = none
 Zrn:mg "ord" = none
 Zgx:mg "range" = none
 Qr3:mg "str" = none
 Zty:mg "sum" = none
 Zlb:mg "zip" = none
section
variable {K:FG} {mg:Str->Option Value} {CM CR CS CH:Addr}
theorem Txt.clM (T:Txt K mg CM CR CS CH):Cls K CM:=T.cM.cl
theorem Txt.clR (T:Txt K mg CM CR CS CH):Cls K CR:=T.cR.cl
theorem Txt.clS (T:Txt K mg CM CR CS CH):Cls K CS:=T.cS.cl
theorem Txt.clH (T:Txt K mg CM CR CS CH):Cls K CH:=T.cH.cl
theorem Txt.naM {f:Str} (T:Txt K mg CM CR CS CH) (h:f ∈ mN):Qb0 K CM f:=T.cM.na f h
theorem Txt.naR {f:Str} (T:Txt K mg CM CR CS CH) (h:f ∈ rN):Qb0 K CR f:=T.cR.na f h
theorem Txt.naS {f:Str} (T:Txt K mg CM CR CS CH) (h:f ∈ sN):Qb0 K CS f:=T.cS.na f h
theorem Txt.naH {f:Str} (T:Txt K mg CM CR CS CH) (h:f ∈ hN):Qb0 K CH f:=T.cH.na f h
end
section
variable {K:FG} {H:Hp} {p C dx:Addr} {fs fs':List (Str × V)} {f:Str} {v y:V}
theorem Zro {R:Hp->Prop} (hH:H p=some (.ins C dx fs)) (c:Cls K C) (n:Qb0 K C f) (hl:fs.length < 1000) (e:Yt f y fs=fs') (q:R (upd H p (.ins C dx fs'))) :
  ∃ a C dx fs,V.ref p = .ref a/\H a=some (.ins C dx fs)/\Cls K C/\Qb0 K C f/\fs.length < 1000/\R (upd H a (.ins C dx (Yt f y fs))):=⟨p,C,dx,fs,rfl,hH,c,n,hl,by rw[e];exact q⟩
theorem Zrp {i j:Int} {R:Hp->Prop} (hH:H p=some (.ins C dx fs)) (c:Cls K C) (n:Qb0 K C f) (l:fs.lookup f=some (.int i)) (hl:fs.length < 1000) (e:Yt f (.int (i+j)) fs=fs') (q:R (upd H p (.ins C dx fs'))) :
  ∃ a C dx fs v,V.ref p = .ref a/\H a=some (.ins C dx fs)/\Cls K C/\Qb0 K C f/\fs.lookup f=some v /\
   Zu1 v (.int j) H fun z H3=>∃ dx' fs',H3 a=some (.ins C dx' fs')/\fs'.length < 1000/\R (upd H3 a (.ins C dx' (Yt f z fs'))):=
 ⟨p,C,dx,fs,_,rfl,hH,c,n,l,i,j,rfl,rfl,dx,fs,hH,hl,by rw[e];exact q⟩
end
theorem ifB {b:Bool} {A B:Prop} (h1:b=true->A) (h2:b=false->B):if b=true then A else B:=by
 cases b with
 | true=>rw[if_pos rfl];exact h1 rfl
 | false=>rw[if_neg Bool.false_ne_true];exact h2 rfl
theorem Yz {Q:VK} {H:Hp} {b c:Bool} (k:Q (.bl b) H) (e:b=c):Q (.bl c) H:=by rw[<-e];exact k
theorem Qfz {Q:VK} {H:Hp} {b c:Int} (k:Q (.int b) H) (e:b=c):Q (.int c) H:=by rw[<-e];exact k
theorem Qbk {Q:VK} {H H':Hp} {v v':V} (k:Q v H) (e:v=v') (e2:H=H'):Q v' H':=by rw[<-e,<-e2];exact k
theorem Qjm {H:Hp} {a:Addr} {o:HO} (h:H a=some o):upd H a o=H:=by
 funext b;unfold upd;split
 .rename_i e;rw[e,h]
 .rfl
theorem Zlc {H:Hp} {a b:Addr} {o u:HO} (h:a ≠ b):upd (upd H a o) b u=upd (upd H b u) a o:=by
 funext c;unfold upd;by_cases h1:c=b
 .rw[if_pos h1,if_neg (by rw[h1];exact Ne.symm h),if_pos h1]
 .rw[if_neg h1];by_cases h2:c=a
  .rw[if_pos h2,if_pos h2]
  .rw[if_neg h2,if_neg h2,if_neg h1]
end
end
local macro_rules | `(tactic| walk_at "ln")=>`(tactic| first | with_reducible exact mL _ | with_reducible exact hL _ _ _ _ _ _ _ _ _ _ | with_reducible exact sL _ _ _ _ _ _ | with_reducible exact rL _ | (simp;done))
local macro_rules | `(tactic| walk_at "hp")=>`(tactic| first | assumption | exact L2.Qk | (refine Eq.trans (L2.Ql (by assumption)) ?_;walk_at "hp"))
local macro_rules | `(tactic| walk_at "cl")=>`(tactic| first | exact Txt.clM (by assumption) | exact Txt.clR (by assumption) | exact Txt.clS (by assumption) | exact Txt.clH (by assumption))
local macro_rules | `(tactic| walk_at "na")=>`(tactic| first | exact Txt.naM (by assumption) (by decide +kernel) | exact Txt.naR (by assumption) (by decide +kernel) | exact Txt.naS (by assumption) (by decide +kernel) | exact Txt.naH (by assumption) (by decide +kernel))
local macro_rules | `(tactic| walk_at "lk")=>`(tactic| with_reducible first | exact Zoi _ | exact Zkn _ | exact Zkp _ | exact Zok _ | exact Zkr _ | exact Zkt _ | exact Zom _ | exact Zoo _ | exact Zf4 _ | exact Zf6 _ | exact Zoq _ | exact Zos _ | exact Zou _ | exact Zf9 _ | exact Zkv _ | exact Zga _ | exact Zov _ | exact Qya _ _ _ _ _ _ | exact Ztv _ _ _ _ _ _ | exact Zgb _ _ _ _ _ _ | exact Zow _ _ _ _ _ _ | exact Zgd _ _ _ _ _ _ | exact Zkw _ _ _ _ _ _ | exact Zkx _ _ _ _ _ _ _ _ _ _ | exact Qyc _ _ _ _ _ _ _ _ _ _ | exact Zkz _ _ _ _ _ _ _ _ _ _ | exact Zoy _ _ _ _ _ _ _ _ _ _ | exact Zgf _ _ _ _ _ _ _ _ _ _ | exact Zgh _ _ _ _ _ _ _ _ _ _ | exact Zgj _ _ _ _ _ _ _ _ _ _ | exact Zrj _ _ _ _ _ _ _ _ _ _ | exact Zo0 _ _ _ _ _ _ _ _ _ _ | exact Qr0 _ _ _ _ _ _ _ _ _ _)
local macro_rules | `(tactic| walk_at "pk")=>`(tactic| with_reducible first | exact Zoj _ _ | exact Zko _ _ | exact Zkq _ _ | exact Zol _ _ | exact Zks _ _ | exact Zku _ _ | exact Zon _ _ | exact Zop _ _ | exact Zf5 _ _ | exact Zf7 _ _ | exact Zor _ _ | exact Zot _ _ | exact Qyb _ _ _ _ _ _ _ | exact Ztw _ _ _ _ _ _ _ | exact Zgc _ _ _ _ _ _ _ | exact Zox _ _ _ _ _ _ _ | exact Zge _ _ _ _ _ _ _ | exact Zky _ _ _ _ _ _ _ _ _ _ _ | exact Qyd _ _ _ _ _ _ _ _ _ _ _ | exact Zk0 _ _ _ _ _ _ _ _ _ _ _ | exact Zoz _ _ _ _ _ _ _ _ _ _ _ | exact Zgg _ _ _ _ _ _ _ _ _ _ _ | exact Zgi _ _ _ _ _ _ _ _ _ _ _ | exact Zgk _ _ _ _ _ _ _ _ _ _ _ | exact Zrk _ _ _ _ _ _ _ _ _ _ _ | exact Zo1 _ _ _ _ _ _ _ _ _ _ _ | exact Qr1 _ _ _ _ _ _ _ _ _ _ _ | exact Zo2 _ | exact Zk1 _ _ | exact Zk2 _ _ _ | exact Zo3 _ _ _ _ | exact Zk3 _ _ _ _ _ | exact Zk4 _ _ _ _ _ _ | exact Zo4 _ _ _ _ _ _ _ | exact Zo5 _ _ _ _ _ _ _ _ | exact Zgl _ _ _ _ _ _ _ _ _ | exact Zgm _ _ _ _ _ _ _ _ _ _ | exact Zo6 _ _ _ _ _ _ _ _ _ _ _ | exact Zo7 _ _ _ _ _ _ _ _ _ _ _ _ | exact Zo8 _ | exact Zgn _ _ | exact Zk5 _ _ _ | exact Zgo _ _ _ _ | exact Zo9 _ _ _ _ _ | exact Qye _ | exact Ztx _ _ | exact Zgp _ _ _ | exact Zpa _ _ _ _ | exact Zgq _ _ _ _ _ | exact Zk6 _ _ _ _ _ _ | exact Zk7 _ | exact Qyf _ _ | exact Zk8 _ _ _ | exact Zpb _ _ _ _ | exact Zgr _ _ _ _ _ | exact Zgs _ _ _ _ _ _ | exact Zgt _ _ _ _ _ _ _ | exact Zrl _ _ _ _ _ _ _ _ | exact Zpc _ _ _ _ _ _ _ _ _ | exact Qr2 _ _ _ _ _ _ _ _ _ _)
local macro_rules | `(tactic| walk_at "fl")=>`(tactic| refine ⟨_,_,_,_,_,rfl,(by walk_at "hp"),(by walk_at "cl"),(by walk_at "na"),(by walk_at "lk"),?_⟩)
local macro_rules | `(tactic| walk_at "st")=>`(tactic| refine Zro (by walk_at "hp") (by walk_at "cl") (by walk_at "na") (by walk_at "ln") (by walk_at "pk") ?_)
local macro_rules | `(tactic| walk_at "ic")=>`(tactic| refine Zrp (by walk_at "hp") (by walk_at "cl") (by walk_at "na") (by walk_at "lk") (by walk_at "ln") (by walk_at "pk") ?_)
local macro_rules | `(tactic| walk_at "r1")=>`(tactic| first | refine ⟨_,rfl,?_⟩ | refine ⟨rfl,?_⟩ | refine ⟨⟨by decide,by decide⟩,?_⟩ | refine ⟨(by show (0:Int) < 2;decide),?_⟩ | refine ⟨_,_,rfl,?_⟩ | refine ⟨_,_,rfl,rfl,?_⟩ | walk_at "st" | walk_at "ic" | walk_at "fl" | refine ⟨_,_,rfl,.inl (L2.SqL.of (by walk_at "hp")),?_⟩ | refine ⟨_,_,_,_,rfl,rfl,L2.SqL.of (by walk_at "hp"),(by rfl),?_⟩)
local macro_rules | `(tactic| walk_at "go")=>`(tactic| ((repeat walk_at "r1");try (refine ifB (fun hif=>?_) (fun hif=>?_) <;> walk_at "go")))
local macro_rules | `(tactic| walk_at "R")=>`(tactic| repeat walk_at "r1")
local macro_rules | `(tactic| walk_at "sc")=>`(tactic| exact ⟨rfl,rfl,rfl,by decide +kernel,rfl,by decide +kernel,by decide +kernel⟩)
section
open PySem PySem.Spec PyProof.Rows L2
variable {P:Program} {w:World} {K:FG} {mg:Str->Option Value} {base:Heap} {CM CR CS CH:Addr}
noncomputable abbrev Qr4:Stmt:=top 7
noncomputable abbrev Zld:List Str:=["machine"]
noncomputable abbrev Qez:List Str:=["machine"]
theorem Zgy:Qn Zld Qez (Qi Qr4):=by walk_at "sc"
noncomputable abbrev Qnb:Stmt:=top 8
noncomputable abbrev Zgz:List Str:=["machine"]
noncomputable abbrev Qb1:List Str:=["machine"]
theorem Zcr:Qn Zgz Qb1 (Qi Qnb):=by walk_at "sc"
noncomputable abbrev Qf9:Stmt:=top 9
noncomputable abbrev Quj:List Str:=["machine"]
noncomputable abbrev Jb:List Str:=["machine"]
theorem Qr5:Qn Quj Jb (Qi Qf9):=by walk_at "sc"
noncomputable abbrev Qr6:Stmt:=top 10
noncomputable abbrev Zle:List Str:=["machine","sheet"]
noncomputable abbrev Qdv:List Str:=["machine","sheet"]
theorem Zg0:Qn Zle Qdv (Qi Qr6):=by walk_at "sc"
noncomputable abbrev Qh7:Stmt:=top 11
noncomputable abbrev Qyi:List Str:=["machine"]
noncomputable abbrev Qbl:List Str:=["machine"]
theorem Quk:Qn Qyi Qbl (Qi Qh7):=by walk_at "sc"
noncomputable abbrev Qko:Stmt:=top 12
noncomputable abbrev Zcs:List Str:=["machine","sheet","frame"]
noncomputable abbrev Qcw:List Str:=["machine","sheet","frame"]
theorem Qyj:Qn Zcs Qcw (Qi Qko):=by walk_at "sc"
noncomputable abbrev Qyk:Stmt:=top 13
noncomputable abbrev Zpd:List Str:=["machine","up","moves"]
noncomputable abbrev Qnc:List Str:=["machine","up"]
theorem Zlf:Qn Zpd Qnc (Qi Qyk):=by walk_at "sc"
noncomputable abbrev Qyl:Stmt:=top 14
noncomputable abbrev Zpe:List Str:=["machine","down","moves"]
noncomputable abbrev Qnd:List Str:=["machine","down"]
theorem Zlg:Qn Zpe Qnd (Qi Qyl):=by walk_at "sc"
noncomputable abbrev Qh8:Stmt:=top 15
noncomputable abbrev Qym:List Str:=["machine","sheet"]
noncomputable abbrev Qc4:List Str:=["machine","sheet"]
theorem Qul:Qn Qym Qc4 (Qi Qh8):=by walk_at "sc"
noncomputable abbrev Qh9:Stmt:=top 16
noncomputable abbrev Qyn:List Str:=["machine","sheet"]
noncomputable abbrev Qc5:List Str:=["machine","sheet"]
theorem Qum:Qn Qyn Qc5 (Qi Qh9):=by walk_at "sc"
noncomputable abbrev Qia:Stmt:=top 17
noncomputable abbrev Qyo:List Str:=["machine","sheet","at_full_speed","moved"]
noncomputable abbrev Qc6:List Str:=["machine","sheet"]
theorem Qun:Qn Qyo Qc6 (Qi Qia):=by walk_at "sc"
def Qjn (CM:Addr) (g:Mc->Mc):Sp:=fun vs H Q _=>∃ a dx m,vs=[.ref a]/\H a=some (.ins CM dx (mF m))/\Q .non (upd H a (.ins CM dx (mF (g m))))
def Mc.on (m:Mc):Mc:={ m with motor:=true,lamp:=true }
def Mc.off (m:Mc):Mc:={ m with motor:=false,lamp:=false,glow:=0,told:=false }
def Mc.rest (m:Mc):Mc:={ m with phase:=0,count:=0 }
theorem Zg1 (D:Df K mg "put_on" Qr4 Qez) (T:Txt K mg CM CR CS CH):Ok P w K mg base "put_on" 1 Qez (Qjn CM Mc.on):=by
 have SC:=Zgy;refine D.ok SC (fun vs H Q E h=>?_) (fun f _ A _ s H vs Q E hr h=>?_)
 .obtain ⟨a,dx,m,rfl,_⟩:=h;rfl
 .obtain ⟨a,dx,m,rfl,hp,k⟩:=h;refine ⟨_,(Qb (Qu (pv 0) Yb rfl) (Qc (Qu (pv 0) Yb rfl))),?_⟩;walk_at "R";exact Qbk k rfl (by simp only[Zb];rfl)
theorem Zct (D:Df K mg "put_off" Qnb Qb1) (T:Txt K mg CM CR CS CH):Ok P w K mg base "put_off" 1 Qb1 (Qjn CM Mc.off):=by
 have SC:=Zcr;refine D.ok SC (fun vs H Q E h=>?_) (fun f _ A _ s H vs Q E hr h=>?_)
 .obtain ⟨a,dx,m,rfl,_⟩:=h;rfl
 .obtain ⟨a,dx,m,rfl,hp,k⟩:=h;refine ⟨_,(Qb (Qu (pv 0) Yb rfl) (Qb (Qu (pv 0) Yb rfl) (Qb (Qu (pv 0) Qj rfl) (Qc (Qu (pv 0) Yb rfl))))),?_⟩;walk_at "R";exact Qbk k rfl (by simp only[Zb];rfl)
theorem Qr7 (D:Df K mg "halt_motor" Qf9 Jb) (T:Txt K mg CM CR CS CH):Ok P w K mg base "halt_motor" 1 Jb (Qjn CM Mc.rest):=by
 have SC:=Qr5;refine D.ok SC (fun vs H Q E h=>?_) (fun f _ A _ s H vs Q E hr h=>?_)
 .obtain ⟨a,dx,m,rfl,_⟩:=h;rfl
 .obtain ⟨a,dx,m,rfl,hp,k⟩:=h;refine ⟨_,(Qb (Qu (pv 0) (pgi T.Qex) rfl) (Qc (Qu (pv 0) Qj rfl))),?_⟩;walk_at "R";exact Qbk k rfl (by simp only[Zb];rfl)
def Mc.lit (strike:Int) (m:Mc):Bool:=m.lamp&&(!m.dead&&decide (strike<=m.glow))
def Mc.well (m:Mc):Bool:=decide (m.phase=2)&&(!m.seized && !m.Qjc)
def Mc.ready (strike k:Int) (m:Mc):Bool:=m.well&&(m.lit strike&&decide (m.place=k - 1))
def Zg2 (CM CS:Addr):Sp:=fun vs H Q _=>∃ a dx m b dy v0 v1,∃ strike:Int,∃ v3 v4 v5,vs=[.ref a,.ref b]/\H a=some (.ins CM dx (mF m))/\H b=some (.ins CS dy (sF v0 v1 (.int strike) v3 v4 v5))/\Q (.bl (m.lit strike)) H
theorem Zg3 (D:Df K mg "is_lit" Qr6 Qdv) (T:Txt K mg CM CR CS CH):Ok P w K mg base "is_lit" 1 Qdv (Zg2 CM CS):=by
 have SC:=Zg0;refine D.ok SC (fun vs H Q E h=>?_) (fun f _ A _ s H vs Q E hr h=>?_)
 .obtain ⟨a,dx,m,b,dy,v0,v1,strike,v3,v4,v5,rfl,_⟩:=h;rfl
 .obtain ⟨a,dx,m,b,dy,v0,v1,strike,v3,v4,v5,rfl,hp,hs,k⟩:=h;refine ⟨_,(Qc (Qm (Qbz (Qh (pv 0) rfl) (Qbz (Qt0 (Qh (pv 0) rfl)) (Qdu (Yg Qrr (Qh (pv 0) rfl) (Qh (pv 1) rfl) (Qq _))))))),?_⟩;walk_at "R";refine ifB (fun h1=>?_) (fun h1=>?_)
  .walk_at "R";refine ifB (fun h2=>?_) (fun h2=>?_)
   .walk_at "R";exact Yz k (by simp[Mc.lit,h1] <;> simp_all)
   .exact Yz k (by simp[Mc.lit,h1] <;> simp_all)
  .exact Yz k (by simp[Mc.lit,h1] <;> simp_all)
def Zg4 (CM:Addr):Sp:=fun vs H Q _=>∃ a dx m,vs=[.ref a]/\H a=some (.ins CM dx (mF m))/\Q (.bl m.well) H
theorem Quo (D:Df K mg "runs_well" Qh7 Qbl) (T:Txt K mg CM CR CS CH):Ok P w K mg base "runs_well" 1 Qbl (Zg4 CM):=by
 have SC:=Quk;refine D.ok SC (fun vs H Q E h=>?_) (fun f _ A _ s H vs Q E hr h=>?_)
 .obtain ⟨a,dx,m,rfl,_⟩:=h;rfl
 .obtain ⟨a,dx,m,rfl,hp,k⟩:=h;refine ⟨_,(Qc (Qm (Qbz (Yg Yc (Qh (pv 0) rfl) (pgi T.Qcv) (Qq _)) (Qbz (Qt0 (Qh (pv 0) rfl)) (Qdu (Qt0 (Qh (pv 0) rfl))))))),?_⟩;walk_at "R";refine ifB (fun h1=>?_) (fun h1=>?_)
  .walk_at "R";refine ifB (fun h2=>?_) (fun h2=>?_)
   .walk_at "R";exact Yz k (by simp_all [Mc.well])
   .exact Yz k (by simp_all [Mc.well])
  .exact Yz k (by simp_all [Mc.well])
def Qyp (CM CS:Addr):Sp:=fun vs H Q _=>∃ a dx m b dy v0 v1,∃ strike:Int,∃ v3 v4 v5,∃ k:Int,vs=[.ref a,.ref b,.int k]/\H a=some (.ins CM dx (mF m))/\H b=some (.ins CS dy (sF v0 v1 (.int strike) v3 v4 v5))/\Q (.bl (m.ready strike k)) H
theorem Qyq (D:Df K mg "is_ready" Qko Qcw) (T:Txt K mg CM CR CS CH) (Qas:Ok P w K mg base "runs_well" 1 Qbl (Zg4 CM)) (Jy:Ok P w K mg base "is_lit" 1 Qdv (Zg2 CM CS)) :
  Ok P w K mg base "is_ready" 2 Qcw (Qyp CM CS):=by
 have SC:=Qyj;refine D.ok SC (fun vs H Q E h=>?_) (fun f _ A _ s H vs Q E hr h=>?_)
 .obtain ⟨a,dx,m,b,dy,v0,v1,strike,v3,v4,v5,k0,rfl,_⟩:=h;rfl
 .obtain ⟨a,dx,m,b,dy,v0,v1,strike,v3,v4,v5,k0,rfl,hp,hs,k⟩:=h;refine ⟨_,(Qc (Qm (Qbz (pcl Qas (hr.M) (Qa (pv 0) Qe)) (Qbz (pcl Jy (hr.M) (Qa (pv 0) (Qa (pv 1) Qe))) (Qdu (Yg Yc (Qh (pv 0) rfl) (Zq Qaw (pv 2) Qj) (Qq _))))))),?_⟩;walk_at "R";refine ⟨a,dx,m,rfl,hp,_,rfl,ifB (fun h1=>?_) (fun h1=>?_)⟩
  .walk_at "R";refine ⟨a,dx,m,b,dy,v0,v1,strike,v3,v4,v5,rfl,hp,hs,_,rfl,ifB (fun h2=>?_) (fun h2=>?_)⟩
   .walk_at "R";exact Yz k (by simp[Mc.ready,h1,h2])
   .exact Yz k (by simp[Mc.ready,h1,h2])
  .exact Yz k (by simp[Mc.ready,h1])
def Mc.drive (up:Int) (m:Mc):Bool × Mc:=
 if m.phase=2 then (true,m)
 else if m.phase=1 then (decide ((m.count+1) % 2=0),if up<=m.count+1 then { m with phase:=2,count:=0 } else { m with count:=m.count+1 })
 else (false,{ m with phase:=1,count:=1 })
def Mc.Qib (down:Int) (m:Mc):Bool × Mc:=
 if m.phase=0 then (false,m)
 else if m.phase=3 then (decide ((m.count+1) % 2=0),if down<=m.count+1 then m.rest else { m with count:=m.count+1 })
 else (false,if down<=1 then m.rest else { m with phase:=3,count:=1 })
def Mc.run (up down:Int) (m:Mc):Bool × Mc:=if m.seized=true then (false,m.rest) else if m.motor=true then m.drive up else m.Qib down
def Zpf (CM CS:Addr):Sp:=fun vs H Q _=>∃ a dx m b dy v0,∃ up:Int,∃ v2,∃ down:Int,∃ v4 v5,vs=[.ref a,.ref b]/\H a=some (.ins CM dx (mF m))/\H b=some (.ins CS dy (sF v0 (.int up) v2 (.int down) v4 v5)) /\
 Q (.bl (m.run up down).1) (upd H a (.ins CM dx (mF (m.run up down).2)))
def Zs6 (CM:Addr) (g:Int->Mc->Bool × Mc):Sp:=fun vs H Q _=>∃ a dx m,∃ n:Int,vs=[.ref a,.int n]/\H a=some (.ins CM dx (mF m))/\Q (.bl (g n m).1) (upd H a (.ins CM dx (mF (g n m).2)))
theorem Zlh (D:Df K mg "drive" Qyk Qnc) (T:Txt K mg CM CR CS CH):Ok P w K mg base "drive" 1 Qnc (Zs6 CM Mc.drive):=by
 have SC:=Zlf;refine D.ok SC (fun vs H Q E h=>?_) (fun f _ A _ s H vs Q E hr h=>?_)
 .obtain ⟨a,dx,m,n,rfl,_⟩:=h;rfl
 .obtain ⟨a,dx,m,n,rfl,hp,k⟩:=h;refine ⟨_,(Qb (Qz (Qo Yc (Qh (pv 0) rfl) (pgi T.Qcv) (Qq _)) (Qc (Qm Yb)) Qp) (Qb (Qz (Qo Qpj (Qh (pv 0) rfl) (pgi T.Qm7) (Qq _)) (Qb (Qu (pv 0) (pgi T.Qm7) rfl) (Qb (Qu (pv 0) Qj rfl) (Qc (Qm Yb)))) Qp) (Qb (Qf4 (pv 0) Qj Qt3) (Qb (psL (i:=2) SC.nd (Yg Yc (Zq Zmo (Qh (pv 0) rfl) Qj) Qj (Qq _))) (Qb (Qz (Qo Qrr (Qh (pv 0) rfl) (pv 1) (Qq _)) (Qb (Qu (pv 0) (pgi T.Qcv) rfl) (Qc (Qu (pv 0) Qj rfl))) Qp) (Qc (Qm (pv 2)))))))),?_⟩;walk_at "R";refine ifB (fun h1=>?_) (fun h1=>?_)
  .have h1:m.phase=2:=by simpa using h1
   exact Qbk k (by simp[Mc.drive,h1]) (by simp only[Mc.drive,if_pos h1];exact Qjm hp)
  .have h1:¬ m.phase=2:=by simpa using h1
   walk_at "R";refine ifB (fun h2=>?_) (fun h2=>?_)
   .have h2:¬ m.phase=1:=by simpa using h2
    walk_at "R";exact Qbk k (by simp only[Mc.drive,if_neg h1,if_neg h2]) (by simp only[Mc.drive,if_neg h1,if_neg h2,Zb])
   .have h2:m.phase=1:=by simpa using h2
    walk_at "R";walk_at "R";refine ifB (fun h3=>?_) (fun h3=>?_)
    .have h3:n<=m.count+1:=by simpa using h3
     walk_at "R";exact Qbk k (by simp only[Mc.drive,if_neg h1,if_pos h2,V.int.injEq]) (by simp only[Mc.drive,if_neg h1,if_pos h2,if_pos h3,Zb])
    .have h3:¬ n<=m.count+1:=by simpa using h3
     walk_at "R";exact Qbk k (by simp only[Mc.drive,if_neg h1,if_pos h2,V.int.injEq]) (by simp only[Mc.drive,if_neg h1,if_pos h2,if_neg h3,Zb])
theorem Zli (D:Df K mg "coast" Qyl Qnd) (T:Txt K mg CM CR CS CH) (Zt:Ok P w K mg base "halt_motor" 1 Jb (Qjn CM Mc.rest)):Ok P w K mg base "coast" 2 Qnd (Zs6 CM Mc.Qib):=by
 have SC:=Zlg;refine D.ok SC (fun vs H Q E h=>?_) (fun f _ A _ s H vs Q E hr h=>?_)
 .obtain ⟨a,dx,m,n,rfl,_⟩:=h;rfl
 .obtain ⟨a,dx,m,n,rfl,hp,k⟩:=h;refine ⟨_,(Qb (Qz (Qo Yc (Qh (pv 0) rfl) (pgi T.Qex) (Qq _)) (Qc (Qm Yb)) Qp) (Qb (psL (i:=2) SC.nd Yb) (Qb (Qz (Qo Yc (Qh (pv 0) rfl) (pgi T.Qh5) (Qq _)) (Qb (Qf4 (pv 0) Qj Qt3) (Qc (psL (i:=2) SC.nd (Yg Yc (Zq Zmo (Qh (pv 0) rfl) Qj) Qj (Qq _))))) (Qb (Qu (pv 0) (pgi T.Qh5) rfl) (Qc (Qu (pv 0) Qj rfl)))) (Qb (Qz (Qo Qrr (Qh (pv 0) rfl) (pv 1) (Qq _)) (Qc (Qx (pcl Zt (hr.M) (Qa (pv 0) Qe)))) Qp) (Qc (Qm (pv 2))))))),?_⟩;walk_at "R";refine ifB (fun h1=>?_) (fun h1=>?_)
  .have h1:m.phase=0:=by simpa using h1
   exact Qbk k (by simp[Mc.Qib,h1]) (by simp only[Mc.Qib,if_pos h1];exact Qjm hp)
  .have h1:¬ m.phase=0:=by simpa using h1
   walk_at "R";refine ifB (fun h2=>?_) (fun h2=>?_)
   .have h2:m.phase=3:=by simpa using h2
    walk_at "R";walk_at "R";refine ifB (fun h3=>?_) (fun h3=>?_)
    .have h3:n<=m.count+1:=by simpa using h3
     walk_at "R";refine ⟨a,dx,_,rfl,Qk,?_⟩;walk_at "R";exact Qbk k (by simp only[Mc.Qib,if_neg h1,if_pos h2,V.int.injEq]) (by simp only[Mc.Qib,if_neg h1,if_pos h2,if_pos h3,Zb];rfl)
    .have h3:¬ n<=m.count+1:=by simpa using h3
     walk_at "R";exact Qbk k (by simp only[Mc.Qib,if_neg h1,if_pos h2,V.int.injEq]) (by simp only[Mc.Qib,if_neg h1,if_pos h2,if_neg h3,Zb])
   .have h2:¬ m.phase=3:=by simpa using h2
    walk_at "R";refine ifB (fun h3=>?_) (fun h3=>?_)
    .have h3:n<=1:=by simpa using h3
     walk_at "R";refine ⟨a,dx,_,rfl,Qk,?_⟩;walk_at "R";exact Qbk k (by simp only[Mc.Qib,if_neg h1,if_neg h2]) (by simp only[Mc.Qib,if_neg h1,if_neg h2,if_pos h3,Zb];rfl)
    .have h3:¬ n<=1:=by simpa using h3
     walk_at "R";exact Qbk k (by simp only[Mc.Qib,if_neg h1,if_neg h2]) (by simp only[Mc.Qib,if_neg h1,if_neg h2,if_neg h3,Zb])
theorem Qup (D:Df K mg "run_motor" Qh8 Qc4) (T:Txt K mg CM CR CS CH) (Zt:Ok P w K mg base "halt_motor" 1 Jb (Qjn CM Mc.rest))
  (Qyr:Ok P w K mg base "drive" 1 Qnc (Zs6 CM Mc.drive)) (Qys:Ok P w K mg base "coast" 2 Qnd (Zs6 CM Mc.Qib)):Ok P w K mg base "run_motor" 3 Qc4 (Zpf CM CS):=by
 have SC:=Qul;refine D.ok SC (fun vs H Q E h=>?_) (fun f _ A _ s H vs Q E hr h=>?_)
 .obtain ⟨a,dx,m,b,dy,v0,up,v2,down,v4,v5,rfl,_⟩:=h;rfl
 .obtain ⟨a,dx,m,b,dy,v0,up,v2,down,v4,v5,rfl,hp,hs,k⟩:=h;refine ⟨_,(Qb (Qz (Zm (Qh (pv 0) rfl)) (Qb (Qx (pcl Zt (hr.M) (Qa (pv 0) Qe))) (Qc (Qm Yb))) Qp) (Qb (Qz (Zm (Qh (pv 0) rfl)) (Qc (Qm (pcl Qyr (hr.M) (Qa (pv 0) (Qa (Qh (pv 1) rfl) Qe))))) Qp) (Qc (Qm (pcl Qys (hr.M) (Qa (pv 0) (Qa (Qh (pv 1) rfl) Qe))))))),?_⟩;walk_at "R";refine ifB (fun h1=>?_) (fun h1=>?_)
  .walk_at "R";refine ⟨a,dx,m,rfl,hp,?_⟩;exact Qbk k (by simp only[Mc.run,if_pos h1]) (by simp only[Mc.run,if_pos h1])
  .have h1:¬ m.seized=true:=by simp[h1]
   walk_at "R";refine ifB (fun h2=>?_) (fun h2=>?_)
   .walk_at "R";refine ⟨a,dx,m,up,rfl,hp,?_⟩;exact Qbk k (by simp only[Mc.run,if_neg h1,if_pos h2]) (by simp only[Mc.run,if_neg h1,if_pos h2])
   .have h2:¬ m.motor=true:=by simp[h2]
    walk_at "R";refine ⟨a,dx,m,down,rfl,hp,?_⟩;exact Qbk k (by simp only[Mc.run,if_neg h1,if_neg h2]) (by simp only[Mc.run,if_neg h1,if_neg h2])
structure Sh where
 Qar:Int
 up:Int
 strike:Int
 down:Int
 leader:Int
 reels:List Rl
def Qyt (CR:Addr) (H:Hp) (ras:List Addr) (rs:List Rl):Prop:=ras.length=rs.length/\∀ (i:Nat) (c:Addr) (r:Rl),ras[i]? = some c->rs[i]? = some r->∃ dr,H c=some (.ins CR dr (rF r))
structure Qga (CS CR:Addr) (H:Hp) (b dy rl:Addr) (ras:List Addr) (sh:Sh):Prop where
 obj:H b=some (.ins CS dy (sF (.int sh.Qar) (.int sh.up) (.int sh.strike) (.int sh.down) (.int sh.leader) (.ref rl)))
 lst:H rl=some (.lst (ras.map V.ref))
 rls:Qyt CR H ras sh.reels
theorem Ztz {m:Mc} {v0 v1 v2 v3 v4 v5:V}:mF m ≠ sF v0 v1 v2 v3 v4 v5:=fun h=>by
 have e:=congrArg List.length h;exact absurd (show (12:Nat)=6 from e) (by decide)
theorem Zt0 {m:Mc} {r:Rl}:mF m ≠ rF r:=fun h=>by
 have e:=congrArg List.length h;exact absurd (show (12:Nat)=5 from e) (by decide)
theorem Zg5 {C C' d d':Addr} {f f':List (Str × V)} (h:f ≠ f'):HO.ins C d f ≠ HO.ins C' d' f':=fun e=>by
 injection e with _ _ e
 exact h e
theorem Qyt.Zt1 {H:Hp} {a dx:Addr} {m:Mc} {o:HO} {ras:List Addr} {rs:List Rl} (h:Qyt CR H ras rs) (hm:H a=some (.ins CM dx (mF m))):Qyt CR (upd H a o) ras rs:=
 ⟨h.1,fun i c r h1 h2=>by
  obtain ⟨dr,e⟩:=h.2 i c r h1 h2
  exact ⟨dr,by rw[Ql (Yu e hm (Zg5 (Ne.symm Zt0)))];exact e⟩⟩
theorem Qga.Zt1 {H:Hp} {a dx b dy rl:Addr} {m:Mc} {o:HO} {ras:List Addr} {sh:Sh} (h:Qga CS CR H b dy rl ras sh) (hm:H a=some (.ins CM dx (mF m))):Qga CS CR (upd H a o) b dy rl ras sh:=
 ⟨by rw[Ql (Yu h.obj hm (Zg5 (Ne.symm Ztz)))];exact h.obj,by rw[Ql (Yu h.lst hm (by intro z;cases z))];exact h.lst,h.rls.Zt1 hm⟩
def Sh.has (sh:Sh) (n:Int):Prop:=n = -1\/(0<=n/\n < sh.reels.length)
def Zu8:Rl:=⟨0,0,0,0,true⟩
def Sh.rl (sh:Sh) (n:Int):Rl:=sh.reels.getD n.toNat Zu8
theorem Qga.reel {H:Hp} {b dy rl:Addr} {ras:List Addr} {sh:Sh} {n:Int} (h:Qga CS CR H b dy rl ras sh) (h0:0<=n) (h1:n < sh.reels.length) :
  ∃ c dr,atI (ras.map V.ref) n=some (.ref c)/\H c=some (.ins CR dr (rF (sh.rl n))):=by
 obtain ⟨j,rfl⟩:∃ j:Nat,n=j:=⟨n.toNat,by omega⟩
 have hj:j < ras.length:=by rw[h.rls.1];omega
 have hj2:j < sh.reels.length:=by omega
 have e1:ras[j]? = some ras[j]:=List.getElem?_eq_getElem hj;have e2:sh.reels[j]? = some sh.reels[j]:=List.getElem?_eq_getElem hj2;obtain ⟨dr,e⟩:=h.rls.2 j _ _ e1 e2;refine ⟨ras[j],dr,at_of rfl (by rw[List.getElem?_map,e1];rfl),?_⟩;have e3:sh.rl (j:Int)=sh.reels[j]:=by unfold Sh.rl;rw[Int.toNat_natCast,List.getD_eq_getElem?_getD,e2];rfl
 rw[e3];exact e
def Mc.move (sh:Sh) (m:Mc):Bool × Mc:=
 if m.reel = -1\/m.Qjc=true then (false,m) else if (sh.rl m.reel).frames<=m.place then (false,m) else (true,{ m with place:=m.place+1 })
def Zg6 (CM CS CR:Addr) (g:Sh->Mc->Bool × Mc):Sp:=fun vs H Q _=>∃ a dx m b dy rl ras sh,vs=[.ref a,.ref b]/\H a=some (.ins CM dx (mF m))/\Qga CS CR H b dy rl ras sh/\sh.has m.reel /\
 Q (.bl (g sh m).1) (upd H a (.ins CM dx (mF (g sh m).2)))
theorem Quq (D:Df K mg "move_film" Qh9 Qc5) (T:Txt K mg CM CR CS CH):Ok P w K mg base "move_film" 1 Qc5 (Zg6 CM CS CR Mc.move):=by
 have SC:=Qum;refine D.ok SC (fun vs H Q E h=>?_) (fun f _ A _ s H vs Q E hr h=>?_)
 .obtain ⟨a,dx,m,b,dy,rl,ras,sh,rfl,_⟩:=h;rfl
 .obtain ⟨a,dx,m,b,dy,rl,ras,sh,rfl,hp,hs,hn,k⟩:=h;have ho:=hs.obj;refine ⟨_,(Qb (Qz (PW.pt (Qi7 (Qo Yc (Qh (pv 0) rfl) (pgi T.Qai) (Qq _)) (Qfr (Zm (Qh (pv 0) rfl))))) (Qc (Qm Yb)) Qp) (Qb (Qz (Qo Qrr (Qh (pv 0) rfl) (Qh (Zf Qt (Qh (pv 1) rfl) (Qh (pv 0) rfl) (fun _ _=>rfl)) rfl) (Qq _)) (Qc (Qm Yb)) Qp) (Qb (Qf4 (pv 0) Qj Qt3) (Qc (Qm Yb))))),?_⟩;walk_at "R";refine ifB (fun h1=>?_) (fun h1=>?_)
  .refine Qfs ?_;have h1:m.reel = -1:=by simpa using h1
   have e:m.reel = -1\/m.Qjc=true:=.inl h1;exact Qbk k (by simp only[Mc.move,if_pos e]) (by simp only[Mc.move,if_pos e];exact Qjm hp)
  .have h1:¬ m.reel = -1:=by simpa using h1
   walk_at "R";refine ifB (fun h2=>?_) (fun h2=>?_)
   .have e:m.reel = -1\/m.Qjc=true:=.inr h2;exact Qbk k (by simp only[Mc.move,if_pos e]) (by simp only[Mc.move,if_pos e];exact Qjm hp)
   .have e:¬ (m.reel = -1\/m.Qjc=true):=fun z=>z.elim h1 (by simp[h2]);obtain ⟨c,dr,hc,hr2⟩:=hs.reel (n:=m.reel) (by rcases hn with z | z <;> omega) (by rcases hn with z | z <;> omega);walk_at "R";refine ⟨rl,_,_,_,rfl,rfl,SqL.of hs.lst,hc,?_⟩;walk_at "R";refine ifB (fun h3=>?_) (fun h3=>?_)
    .have h3:(sh.rl m.reel).frames<=m.place:=by simpa using h3
     exact Qbk k (by simp only[Mc.move,if_neg e,if_pos h3]) (by simp only[Mc.move,if_neg e,if_pos h3];exact Qjm hp)
    .have h3:¬ (sh.rl m.reel).frames<=m.place:=by simpa using h3
     walk_at "R";exact Qbk k (by simp only[Mc.move,if_neg e,if_neg h3]) (by simp only[Mc.move,if_neg e,if_neg h3])
def Mc.tick (sh:Sh) (m:Mc):Mc:=
 let x:=m.run sh.up sh.down
 let y:=if x.1=true then x.2.move sh else (false,x.2)
 { y.2 with glow:=if y.2.lamp=true then y.2.glow+1 else 0,Qbi:=y.2.told&&(y.1&&(decide (m.phase=2)&&(m.motor && !m.seized))) }
theorem Mc.Zbg (m:Mc) (u d:Int):(m.run u d).2.reel=m.reel:=by
 unfold Mc.run Mc.drive Mc.Qib Mc.rest
 repeat' split
 all_goals rfl
def Zmw (CM CS CR:Addr):Sp:=fun vs H Q _=>∃ a dx m b dy rl ras sh,vs=[.ref a,.ref b]/\H a=some (.ins CM dx (mF m))/\Qga CS CR H b dy rl ras sh/\sh.has m.reel/\Q .non (upd H a (.ins CM dx (mF (m.tick sh))))
theorem Qur (D:Df K mg "pass_tick" Qia Qc6) (T:Txt K mg CM CR CS CH) (Qic:Ok P w K mg base "run_motor" 3 Qc4 (Zpf CM CS)) (Qid:Ok P w K mg base "move_film" 1 Qc5 (Zg6 CM CS CR Mc.move)) :
  Ok P w K mg base "pass_tick" 4 Qc6 (Zmw CM CS CR):=by
 have SC:=Qun;refine D.ok SC (fun vs H Q E h=>?_) (fun f _ A _ s H vs Q E hr h=>?_)
 .obtain ⟨a,dx,m,b,dy,rl,ras,sh,rfl,_⟩:=h;rfl
 .obtain ⟨a,dx,m,b,dy,rl,ras,sh,rfl,hp,hs,hn,k⟩:=h;have back:∀ (fl mv:Bool) (m2:Mc) (H2:Hp),H2 a=some (.ins CM dx (mF m2))->H2=upd H a (.ins CM dx (mF m2)) ->
    m.tick sh={ m2 with glow:=if m2.lamp=true then m2.glow+1 else 0,Qbi:=m2.told&&(mv&&fl) } ->
    Zet (Znx K (Qdt 0) (tIf (tB (Qxr K (Qdt 0) "lamp")) (tOp (rI0 fun i j=>.int (i+j)) (Qxr K (Qdt 0) "glow") (tC (.int 1))) (tC (.int 0))) "glow")
     (Znx K (Qdt 0) (Qxy (Qxr K (Qdt 0) "told") (Qxy (Qdt 3) (Qdt 2))) "douser") { nx:=fun _ H'=>Q .non H',rt:=Q } [some (.ref a),some (.ref b),some (.bl fl),some (.bl mv)] H2:=by
   intro fl mv m2 H2 h2 e2 e3;have fin:∀ c,c=(m2.told&&(mv&&fl))->∀ g,g=(if m2.lamp=true then m2.glow+1 else 0)->Q .non (upd (upd H2 a (.ins CM dx (mF { m2 with glow:=g }))) a (.ins CM dx (mF { m2 with glow:=g,Qbi:=c }))):=by
    rintro c rfl g rfl
    refine Qbk k rfl ?_;rw[e3,e2,Zb,Zb]
   walk_at "go"
   all_goals refine fin _ ?_ _ ?_
   all_goals simp_all
  have mid:∀ fl:Bool,fl=(decide (m.phase=2)&&(m.motor && !m.seized))->Zpf CM CS [.ref a,.ref b] H (fun x H1=>∃ c,x = .bl c/\if c=true then
    Ze8 (Zg6 CM CS CR Mc.move) [] E0 (Qi8 (Qdt 0) (Qi8 (Qdt 1) Ze7)) [some (.ref a),some (.ref b),some (.bl fl),none] H1 (fun x H2=>Zet (Znx K (Qdt 0) (tIf (tB (Qxr K (Qdt 0) "lamp")) (tOp (rI0 fun i j=>.int (i+j)) (Qxr K (Qdt 0) "glow") (tC (.int 1))) (tC (.int 0))) "glow")
     (Znx K (Qdt 0) (Qxy (Qxr K (Qdt 0) "told") (Qxy (Qdt 3) (Qdt 2))) "douser") { nx:=fun _ H'=>Q .non H',rt:=Q } [some (.ref a),some (.ref b),some (.bl fl),some x] H2) else
    Zet (Znx K (Qdt 0) (tIf (tB (Qxr K (Qdt 0) "lamp")) (tOp (rI0 fun i j=>.int (i+j)) (Qxr K (Qdt 0) "glow") (tC (.int 1))) (tC (.int 0))) "glow")
     (Znx K (Qdt 0) (Qxy (Qxr K (Qdt 0) "told") (Qxy (Qdt 3) (Qdt 2))) "douser") { nx:=fun _ H'=>Q .non H',rt:=Q } [some (.ref a),some (.ref b),some (.bl fl),some (.bl false)] H1) E0:=by
   intro fl efl;refine ⟨a,dx,m,b,dy,_,sh.up,_,sh.down,_,_,rfl,hp,hs.obj,_,rfl,ifB (fun h1=>?_) (fun h1=>?_)⟩
   .walk_at "R";refine ⟨a,dx,_,b,dy,rl,ras,sh,rfl,Qk,hs.Zt1 hp,(by rw[Mc.Zbg];exact hn),?_⟩;refine back fl _ _ _ Qk (by rw[Zb]) ?_;unfold Mc.tick;simp only[h1,if_true,efl]
   .refine back fl false _ _ Qk rfl ?_;unfold Mc.tick;simp only[h1,if_neg Bool.false_ne_true,efl]
  have hs0:=hs.obj;refine ⟨_,(Qb (psL (i:=2) SC.nd (Qbz (Yg Yc (Qh (pv 0) rfl) (pgi T.Qcv) (Qq _)) (Qbz (Qh (pv 0) rfl) (Qdu (Qt0 (Qh (pv 0) rfl)))))) (Qb (psL (i:=3) SC.nd (Qbz (pcl Qic (hr.M) (Qa (pv 0) (Qa (pv 1) Qe))) (Qdu (pcl Qid (hr.M) (Qa (pv 0) (Qa (pv 1) Qe)))))) (Qb (Qu (pv 0) (Za0 (Zm (Qh (pv 0) rfl)) (Zq Qa1 (Qh (pv 0) rfl) Qj) Qj) rfl) (Qc (Qu (pv 0) (Qbz (Qh (pv 0) rfl) (Qbz (pv 3) (Qdu (pv 2)))) rfl))))),?_⟩;walk_at "go"
  all_goals refine mid _ ?_
  all_goals simp_all
end
section
open PySem PySem.Spec PyProof.Rows L2
section
structure Hs where
 sheet:Option Sh
 m0:Mc
 m1:Mc
 ticks:Int
 mode:Int
 active:Int
 target:Int
 reason:Int
 log:List (Int × Int × Int)
 runs:List (Int × Int × Int × Int)
 dark:Int
structure Ad where
 h:Addr
 dh:Addr
 ml:Addr
 a0:Addr
 d0:Addr
 a1:Addr
 d1:Addr
 ll:Addr
 rl:Addr
 lts:List Addr
 rns:List Addr
 sv:V
 sb:Addr
 sdy:Addr
 srl:Addr
 Qqy:List Addr
def Qtx (e:Int × Int × Int):HO:=.tup [.int e.1,.int e.2.1,.int e.2.2]
def Qyu (e:Int × Int × Int × Int):HO:=.lst [.int e.1,.int e.2.1,.int e.2.2.1,.int e.2.2.2]
def Zw {α:Type} (f:α->HO) (H:Hp) (as:List Addr) (xs:List α):Prop:=as.length=xs.length/\∀ (i:Nat) (c:Addr) (x:α),as[i]? = some c->xs[i]? = some x->H c=some (f x)
theorem Zw.mem {α:Type} {f:α->HO} {H:Hp} {as:List Addr} {xs:List α} {c:Addr} (h:Zw f H as xs) (m:c ∈ as):∃ x,H c=some (f x):=by
 obtain ⟨i,hi,e⟩:=List.getElem_of_mem m;have h2:i < xs.length:=by rw[<-h.1];exact hi
 exact ⟨_,h.2 i c xs[i] (by rw[List.getElem?_eq_getElem hi,e]) (List.getElem?_eq_getElem h2)⟩
theorem Zw.keep {α:Type} {f:α->HO} {H H':Hp} {as:List Addr} {xs:List α} (h:Zw f H as xs) (k:∀ c ∈ as,∀ o,H c=some o->H' c=some o):Zw f H' as xs:=
 ⟨h.1,fun i c x h1 h2=>k c (List.mem_of_getElem? h1) _ (h.2 i c x h1 h2)⟩
theorem Zw.snoc {α:Type} {f:α->HO} {H:Hp} {as:List Addr} {xs:List α} {p:Addr} {x:α} (h:Zw f H as xs) (hp:H p=some (f x)):Zw f H (as++[p]) (xs++[x]):=by
 refine ⟨by rw[List.length_append,List.length_append,h.1];rfl,fun i c y h1 h2=>?_⟩;by_cases hi:i < as.length
 .rw[List.getElem?_append_left hi]at h1;rw[List.getElem?_append_left (by rw[<-h.1];exact hi)]at h2;exact h.2 i c y h1 h2
 .rw[List.getElem?_append_right (Nat.le_of_not_lt hi)]at h1;rw[List.getElem?_append_right (by rw[<-h.1];exact Nat.le_of_not_lt hi),<-h.1]at h2;cases hj:i - as.length with
  | zero =>rw[hj]at h1 h2;cases h1;cases h2;exact hp
  | succ j =>rw[hj]at h1;simp at h1
theorem Zw.set {α:Type} {f:α->HO} {H:Hp} {as:List Addr} {xs:List α} {c:Addr} {x:α} {i:Nat} (h:Zw f H as xs) (nd:as.Nodup) (hi:as[i]? = some c):Zw f (upd H c (f x)) as (xs.set i x):=by
 refine ⟨by rw[List.length_set];exact h.1,fun j d y h1 h2=>?_⟩;have hl:i < xs.length:=by rw[<-h.1];exact (List.getElem?_eq_some_iff.mp hi).1
 by_cases hj:j=i
 .subst hj;rw[List.getElem?_set_self hl]at h2;cases h2;have e:d=c:=Option.some.inj (h1.symm.trans hi);subst e;exact Qk
 .rw[List.getElem?_set_ne (fun q=>hj q.symm)]at h2;have hne:d ≠ c:=fun q=>hj (Ztu nd h1 (by rw[q];exact hi));rw[Ql hne];exact h.2 j d y h1 h2
theorem Qr8 {C C' d d':Addr} {f f':List (Str × V)} (h:f.length ≠ f'.length):HO.ins C d f ≠ HO.ins C' d' f':=Zg5 fun e=>h (congrArg List.length e)
theorem Qne {e:Int × Int × Int × Int} {as:List Addr}:Qyu e ≠ .lst (as.map V.ref):=fun h=>by
 unfold Qyu at h;injection h with h
 cases as with
 | nil=>cases h
 | cons a r=>injection h with h1 _;cases h1
def Zs7 (CS CR:Addr) (H:Hp) (A:Ad):Option Sh->Prop
 | none=>A.sv = .non
 | some sh=>A.sv = .ref A.sb/\Qga CS CR H A.sb A.sdy A.srl A.Qqy sh/\A.srl ≠ A.ll/\A.srl ≠ A.rl
structure Jx (CM CR CS CH:Addr) (H:Hp) (A:Ad) (x:Hs):Prop where
 obj:H A.h=some (.ins CH A.dh (hF A.sv (.ref A.ml) (.int x.ticks) (.int x.mode) (.int x.active) (.int x.target) (.int x.reason) (.ref A.ll) (.ref A.rl) (.int x.dark)))
 ml:H A.ml=some (.lst [.ref A.a0,.ref A.a1])
 m0:H A.a0=some (.ins CM A.d0 (mF x.m0))
 m1:H A.a1=some (.ins CM A.d1 (mF x.m1))
 n01:A.a0 ≠ A.a1
 log:H A.ll=some (.lst (A.lts.map V.ref))
 lts:Zw Qtx H A.lts x.log
 runs:H A.rl=some (.lst (A.rns.map V.ref))
 rns:Zw Qyu H A.rns x.runs
 nml:A.ml ≠ A.ll
 nmr:A.ml ≠ A.rl
 nlr:A.ll ≠ A.rl
 rnd:A.rns.Nodup
 sh:Zs7 CS CR H A x.sheet
section
variable {CM CR CS CH:Addr} {H H':Hp} {A:Ad} {x:Hs}
theorem Qyt.keep {ras:List Addr} {rs:List Rl} (h:Qyt CR H ras rs) (k:∀ c dr r,H c=some (.ins CR dr (rF r))->H' c=some (.ins CR dr (rF r))):Qyt CR H' ras rs:=
 ⟨h.1,fun i c r h1 h2=>by
  obtain ⟨dr,e⟩:=h.2 i c r h1 h2
  exact ⟨dr,k c dr r e⟩⟩
theorem Qga.keep {b dy rl:Addr} {ras:List Addr} {sh:Sh} (h:Qga CS CR H b dy rl ras sh) (k1:∀ fs,H b=some (.ins CS dy fs)->fs.length=6->H' b=some (.ins CS dy fs)) (k2:H rl=some (.lst (ras.map V.ref))->H' rl=some (.lst (ras.map V.ref)))
  (k3:∀ c dr r,H c=some (.ins CR dr (rF r))->H' c=some (.ins CR dr (rF r))):Qga CS CR H' b dy rl ras sh:=⟨k1 _ h.obj rfl,k2 h.lst,h.rls.keep k3⟩
theorem Zs7.keep {o:Option Sh} (h:Zs7 CS CR H A o) (k1:∀ b dy fs,H b=some (.ins CS dy fs)->fs.length=6->H' b=some (.ins CS dy fs)) (k2:A.srl ≠ A.ll->A.srl ≠ A.rl->H A.srl=some (.lst (A.Qqy.map V.ref))->H' A.srl=some (.lst (A.Qqy.map V.ref)))
  (k3:∀ c dr r,H c=some (.ins CR dr (rF r))->H' c=some (.ins CR dr (rF r))):Zs7 CS CR H' A o:=by
 cases o with
 | none=>exact h
 | some sh=>exact ⟨h.1,h.2.1.keep (fun fs=>k1 _ _ fs) (k2 h.2.2.1 h.2.2.2) k3,h.2.2⟩
theorem Jx.same (h:Jx CM CR CS CH H A x) (s:Jw H H'):Jx CM CR CS CH H' A x:=
 ⟨s _ _ h.obj,s _ _ h.ml,s _ _ h.m0,s _ _ h.m1,h.n01,s _ _ h.log,h.lts.keep fun c _ o e=>s c o e,s _ _ h.runs,h.rns.keep fun c _ o e=>s c o e,h.nml,h.nmr,h.nlr,h.rnd,h.sh.keep (fun b dy fs e _=>s _ _ e) (fun _ _ e=>s _ _ e) fun c dr r e=>s _ _ e⟩
theorem Zg7 {a C d:Addr} {fs:List (Str × V)} {u:HO} (ha:H a=some (.ins C d fs)):(∀ c xs,H c=some (.lst xs)->upd H a u c=some (.lst xs))/\(∀ c xs,H c=some (.tup xs)->upd H a u c=some (.tup xs)) /\
  (∀ c C' d' fs',fs'.length ≠ fs.length->H c=some (.ins C' d' fs')->upd H a u c=some (.ins C' d' fs')):=
 ⟨fun c xs e=>by rw[Ql (Yu e ha (by intro z;cases z))];exact e,fun c xs e=>by rw[Ql (Yu e ha (by intro z;cases z))];exact e,
  fun c C' d' fs' hl e=>by rw[Ql (Yu e ha (Qr8 hl))];exact e⟩
theorem Jx.Zmx (h:Jx CM CR CS CH H A x) (ticks mode active target reason dark:Int) :
  Jx CM CR CS CH (upd H A.h (.ins CH A.dh (hF A.sv (.ref A.ml) (.int ticks) (.int mode) (.int active) (.int target) (.int reason) (.ref A.ll) (.ref A.rl) (.int dark)))) A
   { x with ticks:=ticks,mode:=mode,active:=active,target:=target,reason:=reason,dark:=dark }:=by
 obtain ⟨kl,kt,ki⟩:=Zg7 (u:=.ins CH A.dh (hF A.sv (.ref A.ml) (.int ticks) (.int mode) (.int active) (.int target) (.int reason) (.ref A.ll) (.ref A.rl) (.int dark))) h.obj
 refine ⟨Qk,kl _ _ h.ml,ki _ _ _ _ (by show (12:Nat) ≠ 10;decide) h.m0,ki _ _ _ _ (by show (12:Nat) ≠ 10;decide) h.m1,h.n01,kl _ _ h.log,⟨h.lts.1,fun i c y h1 h2=>kt _ _ (h.lts.2 i c y h1 h2)⟩,kl _ _ h.runs,⟨h.rns.1,fun i c y h1 h2=>kl _ _ (h.rns.2 i c y h1 h2)⟩,h.nml,h.nmr,h.nlr,h.rnd,
  h.sh.keep (fun b dy fs e hl=>ki _ _ _ _ (by rw[hl];show (6:Nat) ≠ 10;decide) e) (fun _ _ e=>kl _ _ e) fun c dr r e=>ki _ _ _ _ (by show (5:Nat) ≠ 10;decide) e⟩
def Hs.setM (x:Hs) (i:Int) (m:Mc):Hs:={ x with m0:=if i=0 then m else x.m0,m1:=if i=0 then x.m1 else m }
def Hs.mc (x:Hs) (i:Int):Mc:=if i=0 then x.m0 else x.m1
def Ad.am (A:Ad) (i:Int):Addr:=if i=0 then A.a0 else A.a1
def Ad.dm (A:Ad) (i:Int):Addr:=if i=0 then A.d0 else A.d1
theorem Jx.mc (h:Jx CM CR CS CH H A x) (i:Int):H (A.am i)=some (.ins CM (A.dm i) (mF (x.mc i))):=by
 unfold Ad.am Ad.dm Hs.mc;split
 .exact h.m0
 .exact h.m1
theorem Jx.setM (h:Jx CM CR CS CH H A x) (i:Int) (m:Mc):Jx CM CR CS CH (upd H (A.am i) (.ins CM (A.dm i) (mF m))) A (x.setM i m):=by
 obtain ⟨kl,kt,ki⟩:=Zg7 (u:=.ins CM (A.dm i) (mF m)) (h.mc i);have key:∀ (x':Hs),x'.ticks=x.ticks->x'.mode=x.mode->x'.active=x.active->x'.target=x.target->x'.reason=x.reason->x'.dark=x.dark->x'.log=x.log->x'.runs=x.runs->x'.sheet=x.sheet ->
   upd H (A.am i) (.ins CM (A.dm i) (mF m)) A.a0=some (.ins CM A.d0 (mF x'.m0))->upd H (A.am i) (.ins CM (A.dm i) (mF m)) A.a1=some (.ins CM A.d1 (mF x'.m1))->Jx CM CR CS CH (upd H (A.am i) (.ins CM (A.dm i) (mF m))) A x':=by
  intro x' e1 e2 e3 e4 e5 e6 e7 e8 e9 h0 h1;refine ⟨?_,kl _ _ h.ml,h0,h1,h.n01,kl _ _ h.log,?_,kl _ _ h.runs,?_,h.nml,h.nmr,h.nlr,h.rnd,?_⟩
  .rw[e1,e2,e3,e4,e5,e6];exact ki _ _ _ _ (by show (10:Nat) ≠ 12;decide) h.obj
  .rw[e7];exact ⟨h.lts.1,fun i c y h1 h2=>kt _ _ (h.lts.2 i c y h1 h2)⟩
  .rw[e8];exact ⟨h.rns.1,fun i c y h1 h2=>kl _ _ (h.rns.2 i c y h1 h2)⟩
  .rw[e9];exact h.sh.keep (fun b dy fs e hl=>ki _ _ _ _ (by rw[hl];show (6:Nat) ≠ 12;decide) e) (fun _ _ e=>kl _ _ e) fun c dr r e=>ki _ _ _ _ (by show (5:Nat) ≠ 12;decide) e
 refine key (x.setM i m) rfl rfl rfl rfl rfl rfl rfl rfl rfl ?_ ?_
 .show upd H (A.am i) (.ins CM (A.dm i) (mF m)) A.a0=some (.ins CM A.d0 (mF (if i=0 then m else x.m0)));by_cases hi:i=0
  .rw[show A.am i=A.a0 from if_pos hi,show A.dm i=A.d0 from if_pos hi,if_pos hi];exact Qk
  .rw[show A.am i=A.a1 from if_neg hi,Ql h.n01,if_neg hi];exact h.m0
 .show upd H (A.am i) (.ins CM (A.dm i) (mF m)) A.a1=some (.ins CM A.d1 (mF (if i=0 then x.m1 else m)));by_cases hi:i=0
  .rw[show A.am i=A.a0 from if_pos hi,Ql (Ne.symm h.n01),if_pos hi];exact h.m1
  .rw[show A.am i=A.a1 from if_neg hi,show A.dm i=A.d1 from if_neg hi,if_neg hi];exact Qk
theorem Jx.Zpg (h:Jx CM CR CS CH H A x) (e:Int × Int × Int) {p:Addr} (hp:H p=none) :
  Jx CM CR CS CH (upd (upd H p (Qtx e)) A.ll (.lst (A.lts.map V.ref++[.ref p]))) { A with lts:=A.lts++[p] } { x with log:=x.log++[e] }:=by
 have s:Jw H (upd H p (Qtx e)):=fun b o q=>by rw[Ql (Qg q hp)];exact q
 have h1:=h.same s;have out:∀ c o,upd H p (Qtx e) c=some o->c ≠ A.ll->upd (upd H p (Qtx e)) A.ll (.lst (A.lts.map V.ref++[.ref p])) c=some o:=fun c o q n=>by rw[Ql n];exact q
 have hll:=h1.log;have hpl:p ≠ A.ll:=fun q=>by rw[q,h.log]at hp;cases hp
 refine ⟨out _ _ h1.obj (Yu h1.obj hll (by intro z;cases z)),out _ _ h1.ml h.nml,out _ _ h1.m0 (Yu h1.m0 hll (by intro z;cases z)),out _ _ h1.m1 (Yu h1.m1 hll (by intro z;cases z)),h.n01,?_,?_,out _ _ h1.runs (Ne.symm h.nlr),?_,h.nml,h.nmr,h.nlr,h.rnd,?_⟩
 .show upd _ A.ll _ A.ll=some (.lst ((A.lts++[p]).map V.ref));rw[Qk,List.map_append];rfl
 .refine Zw.snoc (Zw.keep h1.lts fun c m o q=>out c o q ?_) ?_
  .obtain ⟨y,q'⟩:=h1.lts.mem m;exact Yu q' hll (by intro z;cases z)
  .exact out _ _ Qk hpl
 .refine Zw.keep h1.rns fun c m o q=>out c o q ?_;obtain ⟨y,q'⟩:=h1.rns.mem m;exact Yu q' hll Qne
 .have hs:=h1.sh;cases e9:x.sheet with
  | none =>rw[e9]at hs;exact hs
  | some sh =>rw[e9]at hs;exact ⟨hs.1,hs.2.1.keep (fun fs q _=>out _ _ q (Yu q hll (by intro z;cases z))) (fun q=>out _ _ q hs.2.2.1) (fun c dr r q=>out _ _ q (Yu q hll (by intro z;cases z))),hs.2.2⟩
def Ad.foot (A:Ad):List Addr:=[A.h,A.a0,A.a1,A.ll,A.rl]++A.rns
structure Step (H H':Hp) (A A':Ad):Prop where
 keep:∀ b o,H b=some o->b ∉ A.foot->H' b=some o
 grow:∀ b ∈ A'.foot,b ∈ A.foot\/H b=none
 hh:A'.h=A.h
theorem Step.refl (H:Hp) (A:Ad):Step H H A A:=⟨fun _ _ e _=>e,fun _ e=>.inl e,rfl⟩
theorem Step.trans {H1 H2:Hp} {A1 A2:Ad} (s1:Step H H1 A A1) (s2:Step H1 H2 A1 A2):Step H H2 A A2:=by
 refine ⟨fun b o e n=>s2.keep b o (s1.keep b o e n) fun m=>?_,fun b m=>?_,s2.hh.trans s1.hh⟩
 .rcases s1.grow b m with q | q
  .exact n q
  .rw[e]at q;cases q
 .rcases s2.grow b m with q | q
  .exact s1.grow b q
  .by_cases hb:b ∈ A.foot
   .exact .inl hb
   .cases e:H b with
    | none=>exact .inr rfl
    | some o=>rw[s1.keep b o e hb]at q;cases q
theorem Step.same (s:Jw H H'):Step H H' A A:=⟨fun b o e _=>s b o e,fun _ m=>.inl m,rfl⟩
theorem Step.Qi5 {b:Addr} {u:HO} (m:b ∈ A.foot):Step H (upd H b u) A A:=⟨fun c o e n=>by rw[Ql (fun q=>n (by rw[q];exact m))];exact e,fun _ m=>.inl m,rfl⟩
theorem Ad.Qfv (A:Ad):A.h ∈ A.foot:=by simp[Ad.foot]
theorem Ad.Yn (A:Ad) (i:Int):A.am i ∈ A.foot:=by unfold Ad.am Ad.foot;split <;> simp
theorem Ad.Zg8 (A:Ad):A.ll ∈ A.foot:=by simp[Ad.foot]
theorem Ad.Zg9 (A:Ad):A.rl ∈ A.foot:=by simp[Ad.foot]
theorem Step.log {p:Addr} {e:Int × Int × Int} {ys:List V} (hp:H p=none):Step H (upd (upd H p (Qtx e)) A.ll (.lst ys)) A { A with lts:=A.lts++[p] }:=
 ⟨fun b o q n=>by rw[Ql (fun z=>n (by rw[z];exact A.Zg8)),Ql (Qg q hp)];exact q,fun b m=>.inl m,rfl⟩
end
end
end
section
open PySem PySem.Spec PyProof.Rows L2
variable {P:Program} {w:World} {K:FG} {mg:Str->Option Value} {base:Heap} {CM CR CS CH:Addr}
noncomputable abbrev Qkp:Stmt:=top 32
noncomputable abbrev Zcu:List Str:=["house"]
noncomputable abbrev Jz:List Str:=["house"]
theorem Qyv:Qn Zcu Jz (Qi Qkp):=by walk_at "sc"
noncomputable abbrev Qcf:Stmt:=top 33
noncomputable abbrev Ql8:List Str:=["house"]
noncomputable abbrev Zn:List Str:=["house"]
theorem Qkq:Qn Ql8 Zn (Qi Qcf):=by walk_at "sc"
noncomputable abbrev Qc7:Stmt:=top 34
noncomputable abbrev Qnf:List Str:=["house"]
noncomputable abbrev Yk:List Str:=["house"]
theorem Ql9:Qn Qnf Yk (Qi Qc7):=by walk_at "sc"
noncomputable abbrev Qie:Stmt:=top 35
noncomputable abbrev Qyw:List Str:=["house","what","which"]
noncomputable abbrev Qat:List Str:=["house","what","which"]
theorem Qus:Qn Qyw Qat (Qi Qie):=by walk_at "sc"
noncomputable abbrev Zha:Stmt:=top 36
noncomputable abbrev Zrq:List Str:=["house","reason","machine"]
noncomputable abbrev Qjo:List Str:=["house","reason"]
theorem Zph:Qn Zrq Qjo (Qi Zha):=by walk_at "sc"
def Hs.going (x:Hs):Bool:=decide (x.mode=1)||decide (x.mode=2)
def Qf0 (CM CR CS CH:Addr) (pre:Hs->Prop) (r:Ad->Hs->V):Sp:=fun vs H Q _=>∃ A x,vs=[.ref A.h]/\Jx CM CR CS CH H A x/\pre x/\Q (r A x) H
theorem Qyx (D:Df K mg "is_going" Qkp Jz) (T:Txt K mg CM CR CS CH):Ok P w K mg base "is_going" 1 Jz (Qf0 CM CR CS CH (fun _=>True) fun _ x=>.bl x.going):=by
 have SC:=Qyv;refine D.ok SC (fun vs H Q E h=>?_) (fun f _ A _ s H vs Q E hr h=>?_)
 .obtain ⟨A,x,rfl,_⟩:=h;rfl
 .obtain ⟨B,x,rfl,hh,_,k⟩:=h;have ho:=hh.obj;refine ⟨_,(Qc (Qm (Zes (Yg Yc (Qh (pv 0) rfl) (pgi T.Qm8) (Qq _)) (Qdu (Yg Yc (Qh (pv 0) rfl) (pgi T.Zbe) (Qq _)))))),?_⟩;walk_at "go"
  all_goals exact Yz k (by simp_all [Hs.going])
def Qdo (i:Int):Prop:=i=0\/i=1
theorem Zbh {A:Ad} {i:Int} (h:Qdo i):atI [V.ref A.a0,V.ref A.a1] i=some (.ref (A.am i)):=by rcases h with rfl | rfl <;> rfl
theorem Qkr (D:Df K mg "active_machine" Qcf Zn) (T:Txt K mg CM CR CS CH):Ok P w K mg base "active_machine" 1 Zn (Qf0 CM CR CS CH (fun x=>Qdo x.active) fun A x=>.ref (A.am x.active)):=by
 have SC:=Qkq;refine D.ok SC (fun vs H Q E h=>?_) (fun f _ A _ s H vs Q E hr h=>?_)
 .obtain ⟨A,x,rfl,_⟩:=h;rfl
 .obtain ⟨B,x,rfl,hh,h01,k⟩:=h;have ho:=hh.obj;refine ⟨_,(Qc (Qm (Zf Qt (Qh (pv 0) rfl) (Qh (pv 0) rfl) (fun _ _=>rfl)))),?_⟩;walk_at "go";exact ⟨_,_,_,_,rfl,rfl,SqL.of hh.ml,Zbh h01,k⟩
theorem Qma (D:Df K mg "other_machine" Qc7 Yk) (T:Txt K mg CM CR CS CH):Ok P w K mg base "other_machine" 1 Yk (Qf0 CM CR CS CH (fun x=>Qdo x.active) fun A x=>.ref (A.am (1 - x.active))):=by
 have SC:=Ql9;refine D.ok SC (fun vs H Q E h=>?_) (fun f _ A _ s H vs Q E hr h=>?_)
 .obtain ⟨A,x,rfl,_⟩:=h;rfl
 .obtain ⟨B,x,rfl,hh,h01,k⟩:=h;have ho:=hh.obj;refine ⟨_,(Qc (Qm (Zf Qt (Qh (pv 0) rfl) (Zq Qaw Qj (Qh (pv 0) rfl)) (fun _ _=>rfl)))),?_⟩;walk_at "go";exact ⟨_,_,_,_,rfl,rfl,SqL.of hh.ml,Zbh (by rcases h01 with z | z <;> rw[z] <;> simp[Qdo]),k⟩
def Qf1 (CM CR CS CH:Addr) (pre:Hs->Prop) (more:List V) (g:Hs->Hs):Sp:=fun vs H Q _=>∃ A x,vs = .ref A.h::more/\Jx CM CR CS CH H A x/\pre x/\∀ A' H',Jx CM CR CS CH H' A' (g x)->Step H H' A A' -> Q .non H'
def Hs.note (a b:Int) (x:Hs):Hs:={ x with log:=x.log++[(x.ticks,a,b)] }
def Qyy (x:Hs):Prop:=x.log.length < sizeLine
def Zbi (CM CR CS CH:Addr):Sp:=fun vs H Q _=>∃ A x,∃ a b:Int,vs=[.ref A.h,.int a,.int b]/\Jx CM CR CS CH H A x/\Qyy x/\∀ A' H',Jx CM CR CS CH H' A' (x.note a b)->Step H H' A A' -> Q .non H'
theorem Qut (D:Df K mg "write_log" Qie Qat) (T:Txt K mg CM CR CS CH):Ok P w K mg base "write_log" 1 Qat (Zbi CM CR CS CH):=by
 have SC:=Qus;refine D.ok SC (fun vs H Q E h=>?_) (fun f _ A _ s H vs Q E hr h=>?_)
 .obtain ⟨A,x,a,b,rfl,_⟩:=h;rfl
 .obtain ⟨B,x,a,b,rfl,hh,hroom,k⟩:=h;have ho:=hh.obj;refine ⟨_,(Qc (Qx (Qhn PySem.F.plainAttrs_list PySem.F.slot_list_append PySem.F.type_list_append Yv (Qh (pv 0) rfl) (Qa (Qqr (Qa (Qh (pv 0) rfl) (Qa (pv 1) (Qa (pv 2) Qe)))) Qe)))),?_⟩;walk_at "go";refine ⟨.inl ⟨rfl,_,SqL.of hh.log⟩,?_⟩;walk_at "go";refine ⟨(by show 3<=sizeLine;decide),fun p hp=>?_⟩;refine ⟨B.ll,_,_,rfl,rfl,by rw[Ql (Qg hh.log hp)];exact hh.log,by rw[List.length_map,hh.lts.1];exact hroom,?_⟩;exact k _ _ (hh.Zpg (x.ticks,a,b) hp) (Step.log (e:=(x.ticks,a,b)) hp)
def Hs.stop (r:Int) (x:Hs):Hs:=({ x with m0:=x.m0.off,m1:=x.m1.off,mode:=3,reason:=r }:Hs).note 4 r
def Qng (CM CR CS CH:Addr):Sp:=fun vs H Q _=>∃ A x,∃ r:Int,vs=[.ref A.h,.int r]/\Jx CM CR CS CH H A x/\Qyy x/\∀ A' H',Jx CM CR CS CH H' A' (x.stop r)->Step H H' A A' -> Q .non H'
theorem Zpi (D:Df K mg "stop" Zha Qjo) (T:Txt K mg CM CR CS CH) (Yd:Ok P w K mg base "put_off" 1 Qb1 (Qjn CM Mc.off)) (Zl:Ok P w K mg base "write_log" 1 Qat (Zbi CM CR CS CH)) :
  Ok P w K mg base "stop" 2 Qjo (Qng CM CR CS CH):=by
 have SC:=Zph;refine D.ok SC (fun vs H Q E h=>?_) (fun f _ A _ s H vs Q E hr h=>?_)
 .obtain ⟨A,x,r,rfl,_⟩:=h;rfl
 .obtain ⟨B,x,r,rfl,hh,hroom,k⟩:=h;have ho:=hh.obj;refine ⟨_,(Qb (Qav PassesOwn.never rfl (Jq (Qh (pv 0) rfl)) (pgL (i:=2) SC.nd) (Qc (Qx (pcl Yd (hr.M) (Qa (pv 2) Qe))))) (Qb (Qu (pv 0) (pgi T.Que) rfl) (Qb (Qu (pv 0) (pv 1) rfl) (Qc (Qx (pcl Zl (hr.M) (Qa (pv 0) (Qa (pgi T.Qjg) (Qa (pv 1) Qe))))))))),?_⟩;walk_at "go"
  refine ⟨⟨_,SqL.of hh.ml⟩,Jm (K:=K) (a:=B.ml) (xs:=[.ref B.a0,.ref B.a1]) (fun i σ H'=>∃ v:Option V,σ=[some (.ref B.h),some (.int r),v]/\Step H H' B B /\
   Jx CM CR CS CH H' B (if i=0 then x else if i=1 then { x with m0:=x.m0.off } else { x with m0:=x.m0.off,m1:=x.m1.off })) ⟨none,rfl,Step.refl _ _,hh⟩ (fun i σ H' _ ⟨_,_,_,hh'⟩=>SqL.of hh'.ml) ?_ ?_⟩
  .rintro i y σ H' hi ⟨v,rfl,st,hh'⟩
   match i,hi with
   | 0,hi =>have e:V.ref B.a0=y:=Option.some.inj hi;subst e;have hh':Jx CM CR CS CH H' B x:=hh';walk_at "go";refine ⟨B.a0,B.d0,x.m0,rfl,hh'.m0,?_⟩;exact ⟨_,rfl,st.trans (Step.Qi5 (B.Yn 0)),hh'.setM 0 x.m0.off⟩
   | 1,hi =>have e:V.ref B.a1=y:=Option.some.inj hi;subst e;have hh':Jx CM CR CS CH H' B { x with m0:=x.m0.off }:=hh';walk_at "go";refine ⟨B.a1,B.d1,x.m1,rfl,hh'.m1,?_⟩;exact ⟨_,rfl,st.trans (Step.Qi5 (B.Yn 1)),hh'.setM 1 x.m1.off⟩
   | i+2,hi=>simp at hi
  .rintro σ H1 ⟨v,rfl,st,hh1⟩
   have hh1:Jx CM CR CS CH H1 B { x with m0:=x.m0.off,m1:=x.m1.off }:=hh1;have ho1:=hh1.obj;have hh2:=hh1.Zmx x.ticks 3 x.active x.target r x.dark;walk_at "go";refine ⟨B,{ x with m0:=x.m0.off,m1:=x.m1.off,mode:=3,reason:=r },4,r,rfl,by rw[Zb];exact hh2,hroom,fun A' H' hh3 st3=>k A' H' hh3 ((st.trans (Step.Qi5 B.Qfv)).trans (by rw[Zb]at st3;exact st3))⟩
section
noncomputable abbrev Qgb:Stmt:=top 64
noncomputable abbrev Quu:List Str:=["reel"]
noncomputable abbrev Yo:List Str:=["reel"]
theorem Qr9:Qn Quu Yo (Qi Qgb):=by walk_at "sc"
noncomputable abbrev Qc8:Stmt:=top 95
noncomputable abbrev Qnh:List Str:=["house"]
noncomputable abbrev Jr:List Str:=["house"]
theorem Qmb:Qn Qnh Jr (Qi Qc8):=by walk_at "sc"
noncomputable abbrev Qe0:Stmt:=top 96
noncomputable abbrev Qsa:List Str:=["machine","target"]
noncomputable abbrev Qa3:List Str:=["machine","target"]
theorem Qpl:Qn Qsa Qa3 (Qi Qe0):=by walk_at "sc"
noncomputable abbrev Qbm:Stmt:=top 97
noncomputable abbrev Qks:List Str:=["house","machine"]
noncomputable abbrev Yw:List Str:=["house"]
theorem Qjp:Qn Qks Yw (Qi Qbm):=by walk_at "sc"
noncomputable abbrev Qkt:Stmt:=top 98
noncomputable abbrev Zcv:List Str:=["house"]
noncomputable abbrev Qeo:List Str:=["house"]
theorem Qyz:Qn Zcv Qeo (Qi Qkt):=by walk_at "sc"
noncomputable abbrev Qe1:Stmt:=top 99
noncomputable abbrev Qsb:List Str:=["house"]
noncomputable abbrev Qa4:List Str:=["house"]
theorem Qpm:Qn Qsb Qa4 (Qi Qe1):=by walk_at "sc"
noncomputable abbrev Qe2:Stmt:=top 100
noncomputable abbrev Qsc:List Str:=["house","machine"]
noncomputable abbrev Qa5:List Str:=["house"]
theorem Qpn:Qn Qsc Qa5 (Qi Qe2):=by walk_at "sc"
noncomputable abbrev Qe3:Stmt:=top 101
noncomputable abbrev Qsd:List Str:=["house","machine","reel"]
noncomputable abbrev Qa6:List Str:=["house"]
theorem Qpo:Qn Qsd Qa6 (Qi Qe3):=by walk_at "sc"
noncomputable abbrev Qgc:Stmt:=top 102
noncomputable abbrev Quv:List Str:=["house","machine"]
noncomputable abbrev Qb2:List Str:=["house"]
theorem Qse:Qn Quv Qb2 (Qi Qgc):=by walk_at "sc"
noncomputable abbrev Qgd:Stmt:=top 103
noncomputable abbrev Quw:List Str:=["house"]
noncomputable abbrev Qb3:List Str:=["house"]
theorem Qsf:Qn Quw Qb3 (Qi Qgd):=by walk_at "sc"
def Rl.last (r:Rl):Int:=if r.ends=true then r.frames - 1 else r.change
def Qqz (CR:Addr):Sp:=fun vs H Q _=>∃ a dx r,vs=[.ref a]/\H a=some (.ins CR dx (rF r))/\Q (.int r.last) H
theorem Qsg (D:Df K mg "last_frame" Qgb Yo) (T:Txt K mg CM CR CS CH):Ok P w K mg base "last_frame" 1 Yo (Qqz CR):=by
 have SC:=Qr9;refine D.ok SC (fun vs H Q E h=>?_) (fun f _ A _ s H vs Q E hr h=>?_)
 .obtain ⟨a,dx,r,rfl,_⟩:=h;rfl
 .obtain ⟨a,dx,r,rfl,hp,k⟩:=h;refine ⟨_,(Qb (Qz (Zm (Qh (pv 0) rfl)) (Qc (Qm (Zq Qaw (Qh (pv 0) rfl) Qj))) Qp) (Qc (Qm (Qh (pv 0) rfl)))),?_⟩;walk_at "go"
  all_goals exact Qfz k (by simp_all [Rl.last])
def Hs.Qll (x:Hs):Bool:=decide ((x.mc (1 - x.active)).reel=(x.mc x.active).reel+1)
theorem Qmc (D:Df K mg "has_next_reel" Qc8 Jr) (T:Txt K mg CM CR CS CH)
  (Qs:Ok P w K mg base "active_machine" 1 Zn (Qf0 CM CR CS CH (fun x=>Qdo x.active) fun A x=>.ref (A.am x.active)))
  (Zg:Ok P w K mg base "other_machine" 1 Yk (Qf0 CM CR CS CH (fun x=>Qdo x.active) fun A x=>.ref (A.am (1 - x.active)))) :
  Ok P w K mg base "has_next_reel" 2 Jr (Qf0 CM CR CS CH (fun x=>Qdo x.active) fun A x=>.bl x.Qll):=by
 have SC:=Qmb;refine D.ok SC (fun vs H Q E h=>?_) (fun f _ A _ s H vs Q E hr h=>?_)
 .obtain ⟨A,x,rfl,_⟩:=h;rfl
 .obtain ⟨B,x,rfl,hh,h01,k⟩:=h;have ho:=hh.obj;have ha:=hh.mc x.active;have hb:=hh.mc (1 - x.active);refine ⟨_,(Qc (Qm (Yg Yc (Qh (pcl Zg (hr.M) (Qa (pv 0) Qe)) rfl) (Zq Qa1 (Qh (pcl Qs (hr.M) (Qa (pv 0) Qe)) rfl) Qj) (Qq _)))),?_⟩;walk_at "go";refine ⟨B,x,rfl,hh,h01,?_⟩;walk_at "go";refine ⟨B,x,rfl,hh,h01,?_⟩;walk_at "go";exact Yz k (by simp[Hs.Qll])
def Mc.late (k:Int) (m:Mc):Bool:=(decide (m.phase=2)&&decide (k - 1<=m.place))||(m.seized||(m.Qjc||(m.dead||decide (m.reel = -1))))
def Zmy (CM:Addr):Sp:=fun vs H Q _=>∃ a dx m,∃ k:Int,vs=[.ref a,.int k]/\H a=some (.ins CM dx (mF m))/\Q (.bl (m.late k)) H
theorem Qpp (D:Df K mg "is_too_late" Qe0 Qa3) (T:Txt K mg CM CR CS CH):Ok P w K mg base "is_too_late" 1 Qa3 (Zmy CM):=by
 have SC:=Qpl;refine D.ok SC (fun vs H Q E h=>?_) (fun f _ A _ s H vs Q E hr h=>?_)
 .obtain ⟨a,dx,m,k0,rfl,_⟩:=h;rfl
 .obtain ⟨a,dx,m,k0,rfl,hp,k⟩:=h;refine ⟨_,(Qb (Qz (PW.pt (Qho (Qo Yc (Qh (pv 0) rfl) (pgi T.Qcv) (Qq _)) (Qd2 (Qo Qrr (Qh (pv 0) rfl) (Zq Qaw (pv 1) Qj) (Qq _))))) (Qc (Qm Yb)) Qp) (Qc (Qm (Zes (Qh (pv 0) rfl) (Zes (Qh (pv 0) rfl) (Zes (Qh (pv 0) rfl) (Qdu (Yg Yc (Qh (pv 0) rfl) (pgi T.Qai) (Qq _))))))))),?_⟩;walk_at "go"
  all_goals exact Yz k (by first | (simp_all [Mc.late];done) | (simp_all [Mc.late];omega))
def Zwg:Sh:=⟨0,0,0,0,0,[]⟩
def Hs.sh (x:Hs):Sh:=x.sheet.getD Zwg
structure Qd6 (x:Hs):Prop where
 sh:x.sheet=some x.sh
 r0:x.sh.has x.m0.reel
 r1:x.sh.has x.m1.reel
 a01:Qdo x.active
 room:Qyy x
def Hs.wait (x:Hs):Hs:=
 if (x.mc x.active).ready x.sh.strike x.target=true then ({ x.setM x.active { x.mc x.active with told:=true } with mode:=2 }:Hs).note 3 x.active
 else if (x.mc x.active).late x.target=true then x.stop 1 else x
theorem Jx.Qty {H:Hp} {A:Ad} {x:Hs} (h:Jx CM CR CS CH H A x) (g:x.sheet=some x.sh):A.sv = .ref A.sb/\Qga CS CR H A.sb A.sdy A.srl A.Qqy x.sh:=by have q:=h.sh;rw[g]at q;exact ⟨q.1,q.2.1⟩
theorem Jx.nh {H:Hp} {A:Ad} {x:Hs} (h:Jx CM CR CS CH H A x) (i:Int):A.h ≠ A.am i:=Yu h.obj (h.mc i) (Qr8 (by show (10:Nat) ≠ 12;decide))
section
variable (Qs:Ok P w K mg base "active_machine" 1 Zn (Qf0 CM CR CS CH (fun x=>Qdo x.active) fun A x=>.ref (A.am x.active)))
 (Zg:Ok P w K mg base "other_machine" 1 Yk (Qf0 CM CR CS CH (fun x=>Qdo x.active) fun A x=>.ref (A.am (1 - x.active))))
 (Zl:Ok P w K mg base "write_log" 1 Qat (Zbi CM CR CS CH)) (Qak:Ok P w K mg base "stop" 2 Qjo (Qng CM CR CS CH)) (Jh:Ok P w K mg base "is_ready" 2 Qcw (Qyp CM CS))
 (Qcn:Ok P w K mg base "is_too_late" 1 Qa3 (Zmy CM)) (Qaa:Ok P w K mg base "put_on" 1 Qez (Qjn CM Mc.on)) (Yd:Ok P w K mg base "put_off" 1 Qb1 (Qjn CM Mc.off))
include Qs Zg Zl Qak Jh Qcn Qaa Yd
theorem Qjq (D:Df K mg "wait_for_target" Qbm Yw) (T:Txt K mg CM CR CS CH):Ok P w K mg base "wait_for_target" 3 Yw (Qf1 CM CR CS CH Qd6 [] Hs.wait):=by
 have SC:=Qjp;refine D.ok SC (fun vs H Q E h=>?_) (fun f _ A _ s H vs Q E hr h=>?_)
 .obtain ⟨A,x,rfl,_⟩:=h;rfl
 .obtain ⟨B,x,rfl,hh,g,k⟩:=h;have ho:=hh.obj;obtain ⟨hsv,hsh⟩:=hh.Qty g.sh;have ha:=hh.mc x.active;have n1:=hh.nh x.active;refine ⟨_,(Qb (psL (i:=1) SC.nd (pcl Qs (hr.M) (Qa (pv 0) Qe))) (Qc (Qz (Zm (pcl Jh (hr.M) (Qa (pv 1) (Qa (Qh (pv 0) rfl) (Qa (Qh (pv 0) rfl) Qe))))) (Qb (Qu (pv 1) Yb rfl) (Qb (Qu (pv 0) (pgi T.Zbe) rfl) (Qc (Qx (pcl Zl (hr.M) (Qa (pv 0) (Qa (pgi T.Qjf) (Qa (Qh (pv 0) rfl) Qe)))))))) (Qc (Qz (Zm (pcl Qcn (hr.M) (Qa (pv 1) (Qa (Qh (pv 0) rfl) Qe)))) (Qc (Qx (pcl Qak (hr.M) (Qa (pv 0) (Qa (pgi T.Qjk) Qe))))) Qp))))),?_⟩;walk_at "go";refine ⟨B,x,rfl,hh,g.a01,?_⟩;walk_at "go";refine ⟨B.am x.active,B.dm x.active,x.mc x.active,B.sb,B.sdy,_,_,x.sh.strike,_,_,_,x.target,by rw[hsv];rfl,ha,hsh.obj,?_⟩;refine ⟨_,rfl,ifB (fun h1=>?_) (fun h1=>?_)⟩
  .walk_at "go";refine ⟨B,_,3,x.active,rfl,(hh.setM x.active { x.mc x.active with told:=true }).Zmx x.ticks 2 x.active x.target x.reason x.dark,g.room,fun A' H' hh3 st3=>k A' H' ?_ (((Step.Qi5 (B.Yn _)).trans (Step.Qi5 B.Qfv)).trans st3)⟩;unfold Hs.wait;rw[if_pos h1];exact hh3
  .have h1:¬ (x.mc x.active).ready x.sh.strike x.target=true:=by simp[h1]
   walk_at "go";refine ⟨B.am x.active,B.dm x.active,x.mc x.active,x.target,rfl,ha,?_⟩;refine ⟨_,rfl,ifB (fun h2=>?_) (fun h2=>?_)⟩
   .walk_at "go";refine ⟨B,x,1,rfl,hh,g.room,fun A' H' hh3 st3=>k A' H' ?_ st3⟩;unfold Hs.wait;rw[if_neg h1,if_pos h2];exact hh3
   .have h2:¬ (x.mc x.active).late x.target=true:=by simp[h2]
    refine k B H ?_ (Step.refl _ _);unfold Hs.wait;rw[if_neg h1,if_neg h2];exact hh
end
end
section
def Hs.end_ (x:Hs):Hs:=({ x.setM x.active (x.mc x.active).off with mode:=4 }:Hs).note 5 x.active
def Hs.Qge (x:Hs):Hs:=if x.Qll=true then (x.setM (1 - x.active) (x.mc (1 - x.active)).on).note 1 (1 - x.active) else x.note 6 (1 - x.active)
def Hs.flip (x:Hs):Hs:={ x.setM x.active (x.mc x.active).off with active:=1 - x.active }
def Hs.change (x:Hs):Hs:=if x.Qll=true then
  (if (x.flip.mc (1 - x.active)).ready x.sh.strike 0=true then (x.flip.setM (1 - x.active) { x.flip.mc (1 - x.active) with told:=true }).note 2 (1 - x.active)
   else { x.flip.setM (1 - x.active) (x.flip.mc (1 - x.active)).on with mode:=1,target:=0 })
 else x.stop 3
def Hs.follow (x:Hs):Hs:=
 if (x.sh.rl (x.mc x.active).reel).ends=true then (if (x.mc x.active).place=(x.sh.rl (x.mc x.active).reel).last then x.end_ else x)
 else if (x.mc x.active).place=(x.sh.rl (x.mc x.active).reel).motor then x.Qge
 else if (x.mc x.active).place=(x.sh.rl (x.mc x.active).reel).change then x.change else x
def Hs.watch (x:Hs):Hs:=
 if (x.mc x.active).reel = -1\/(x.mc x.active).well=false then x.stop 2
 else if (x.mc x.active).lit x.sh.strike=false then x.stop 4 else x.follow
def Hs.begin (x:Hs):Hs:=if x.mode=1 then x.wait else if x.mode=2 then x.watch else x
theorem Qdo.other {i:Int} (h:Qdo i):Qdo (1 - i):=by rcases h with z | z <;> rw[z] <;> simp[Qdo]
section
variable (Qs:Ok P w K mg base "active_machine" 1 Zn (Qf0 CM CR CS CH (fun x=>Qdo x.active) fun A x=>.ref (A.am x.active)))
 (Zg:Ok P w K mg base "other_machine" 1 Yk (Qf0 CM CR CS CH (fun x=>Qdo x.active) fun A x=>.ref (A.am (1 - x.active))))
 (Zl:Ok P w K mg base "write_log" 1 Qat (Zbi CM CR CS CH)) (Qak:Ok P w K mg base "stop" 2 Qjo (Qng CM CR CS CH)) (Jh:Ok P w K mg base "is_ready" 2 Qcw (Qyp CM CS))
 (Qaa:Ok P w K mg base "put_on" 1 Qez (Qjn CM Mc.on)) (Yd:Ok P w K mg base "put_off" 1 Qb1 (Qjn CM Mc.off))
 (Yl:Ok P w K mg base "has_next_reel" 2 Jr (Qf0 CM CR CS CH (fun x=>Qdo x.active) fun A x=>.bl x.Qll))
include Qs Zg Zl Qak Jh Qaa Yd Yl
theorem Qy0 (D:Df K mg "end_show" Qkt Qeo) (T:Txt K mg CM CR CS CH):Ok P w K mg base "end_show" 3 Qeo (Qf1 CM CR CS CH Qd6 [] Hs.end_):=by
 have SC:=Qyz;refine D.ok SC (fun vs H Q E h=>?_) (fun f _ A _ s H vs Q E hr h=>?_)
 .obtain ⟨A,x,rfl,_⟩:=h;rfl
 .obtain ⟨B,x,rfl,hh,g,k⟩:=h;have ho:=hh.obj;have ha:=hh.mc x.active;have n1:=hh.nh x.active;refine ⟨_,(Qb (Qx (pcl Yd (hr.M) (Qa (pcl Qs (hr.M) (Qa (pv 0) Qe)) Qe))) (Qb (Qu (pv 0) (pgi T.Zgu) rfl) (Qc (Qx (pcl Zl (hr.M) (Qa (pv 0) (Qa (pgi T.Qqu) (Qa (Qh (pv 0) rfl) Qe)))))))),?_⟩;walk_at "go";refine ⟨B,x,rfl,hh,g.a01,?_⟩;refine ⟨B.am x.active,B.dm x.active,x.mc x.active,rfl,ha,?_⟩;walk_at "go";refine ⟨B,_,5,x.active,rfl,(hh.setM x.active (x.mc x.active).off).Zmx x.ticks 4 x.active x.target x.reason x.dark,g.room,fun A' H' hh3 st3=>k A' H' hh3 (((Step.Qi5 (B.Yn _)).trans (Step.Qi5 B.Qfv)).trans st3)⟩
theorem Qpq (D:Df K mg "start_other" Qe1 Qa4) (T:Txt K mg CM CR CS CH):Ok P w K mg base "start_other" 3 Qa4 (Qf1 CM CR CS CH Qd6 [] Hs.Qge):=by
 have SC:=Qpm;refine D.ok SC (fun vs H Q E h=>?_) (fun f _ A _ s H vs Q E hr h=>?_)
 .obtain ⟨A,x,rfl,_⟩:=h;rfl
 .obtain ⟨B,x,rfl,hh,g,k⟩:=h;have ho:=hh.obj;have ha:=hh.mc (1 - x.active);have n1:=hh.nh (1 - x.active);refine ⟨_,(Qc (Qz (Zm (pcl Yl (hr.M) (Qa (pv 0) Qe))) (Qb (Qx (pcl Qaa (hr.M) (Qa (pcl Zg (hr.M) (Qa (pv 0) Qe)) Qe))) (Qc (Qx (pcl Zl (hr.M) (Qa (pv 0) (Qa (pgi T.Qjd) (Qa (Zq Qaw Qj (Qh (pv 0) rfl)) Qe))))))) (Qc (Qx (pcl Zl (hr.M) (Qa (pv 0) (Qa (pgi T.Qjh) (Qa (Zq Qaw Qj (Qh (pv 0) rfl)) Qe)))))))),?_⟩;walk_at "go";refine ⟨B,x,rfl,hh,g.a01,_,rfl,ifB (fun h1=>?_) (fun h1=>?_)⟩
  .walk_at "go";refine ⟨B,x,rfl,hh,g.a01,?_⟩;refine ⟨B.am (1 - x.active),B.dm (1 - x.active),x.mc (1 - x.active),rfl,ha,?_⟩;walk_at "go";refine ⟨B,_,1,1 - x.active,rfl,hh.setM (1 - x.active) (x.mc (1 - x.active)).on,g.room,fun A' H' hh3 st3=>k A' H' ?_ ((Step.Qi5 (B.Yn _)).trans st3)⟩;unfold Hs.Qge;rw[if_pos h1];exact hh3
  .walk_at "go";refine ⟨B,x,6,1 - x.active,rfl,hh,g.room,fun A' H' hh3 st3=>k A' H' ?_ st3⟩;unfold Hs.Qge;rw[if_neg (by simp[h1])];exact hh3
theorem Qpr (D:Df K mg "change_over" Qe2 Qa5) (T:Txt K mg CM CR CS CH):Ok P w K mg base "change_over" 3 Qa5 (Qf1 CM CR CS CH Qd6 [] Hs.change):=by
 have SC:=Qpn;refine D.ok SC (fun vs H Q E h=>?_) (fun f _ A _ s H vs Q E hr h=>?_)
 .obtain ⟨A,x,rfl,_⟩:=h;rfl
 .obtain ⟨B,x,rfl,hh,g,k⟩:=h;have ho:=hh.obj;have ha:=hh.mc x.active;have n1:=hh.nh x.active;have n2:=hh.nh (1 - x.active);refine ⟨_,(Qb (Qz (Qae (Zm (pcl Yl (hr.M) (Qa (pv 0) Qe)))) (Qb (Qx (pcl Qak (hr.M) (Qa (pv 0) (Qa (pgi T.Qhq) Qe)))) (Qc Znp)) Qp) (Qb (Qx (pcl Yd (hr.M) (Qa (pcl Qs (hr.M) (Qa (pv 0) Qe)) Qe))) (Qb (Qu (pv 0) (Zq Qaw Qj (Qh (pv 0) rfl)) rfl) (Qb (psL (i:=1) SC.nd (pcl Qs (hr.M) (Qa (pv 0) Qe))) (Qc (Qz (Zm (pcl Jh (hr.M) (Qa (pv 1) (Qa (Qh (pv 0) rfl) (Qa Qj Qe))))) (Qb (Qu (pv 1) Yb rfl) (Qc (Qx (pcl Zl (hr.M) (Qa (pv 0) (Qa (pgi T.Qje) (Qa (Qh (pv 0) rfl) Qe))))))) (Qb (Qx (pcl Qaa (hr.M) (Qa (pv 1) Qe))) (Qb (Qu (pv 0) (pgi T.Qm8) rfl) (Qc (Qu (pv 0) Qj rfl)))))))))),?_⟩;walk_at "go";refine ⟨B,x,rfl,hh,g.a01,_,rfl,?_⟩;cases h1:x.Qll with
  | false =>refine Qfs ?_;walk_at "go";refine ⟨B,x,3,rfl,hh,g.room,fun A' H' hh3 st3=>k A' H' ?_ st3⟩;unfold Hs.change;rw[if_neg (by simp[h1])];exact hh3
  | true =>
   refine Qf7 ?_;walk_at "go";refine ⟨B,x,rfl,hh,g.a01,?_⟩;refine ⟨B.am x.active,B.dm x.active,x.mc x.active,rfl,ha,?_⟩;walk_at "go";have hf:Jx CM CR CS CH _ B x.flip:=(hh.setM x.active (x.mc x.active).off).Zmx x.ticks x.mode (1 - x.active) x.target x.reason x.dark;have gf:x.flip.sheet=some x.flip.sh:=g.sh;obtain ⟨hsv,hsh⟩:=hf.Qty gf;have hof:=hf.obj;have hb:=hf.mc (1 - x.active);have st1:Step H _ B B:=(Step.Qi5 (u:=.ins CM (B.dm x.active) (mF (x.mc x.active).off)) (B.Yn x.active)).trans (Step.Qi5 (u:=.ins CH B.dh (hF B.sv (.ref B.ml) (.int x.ticks) (.int x.mode) (.int (1 - x.active)) (.int x.target) (.int x.reason) (.ref B.ll) (.ref B.rl) (.int x.dark))) B.Qfv);refine ⟨B,x.flip,rfl,hf,g.a01.other,?_⟩;walk_at "go";refine ⟨B.am (1 - x.active),B.dm (1 - x.active),x.flip.mc (1 - x.active),B.sb,B.sdy,_,_,x.sh.strike,_,_,_,0,by rw[hsv];rfl,hb,hsh.obj,?_⟩;refine ⟨_,rfl,ifB (fun h2=>?_) (fun h2=>?_)⟩
   .walk_at "go";refine ⟨B,_,2,1 - x.active,rfl,hf.setM (1 - x.active) { x.flip.mc (1 - x.active) with told:=true },g.room,fun A' H' hh3 st3=>k A' H' ?_ ((st1.trans (Step.Qi5 (B.Yn _))).trans st3)⟩;unfold Hs.change;rw[if_pos h1,if_pos h2];exact hh3
   .walk_at "go";refine ⟨B.am (1 - x.active),B.dm (1 - x.active),x.flip.mc (1 - x.active),rfl,hb,?_⟩;walk_at "go";refine k B _ ?_ (((st1.trans (Step.Qi5 (B.Yn (1 - x.active)))).trans (Step.Qi5 B.Qfv)).trans (Step.Qi5 B.Qfv));unfold Hs.change;rw[if_pos h1,if_neg (by simp[h2]),Zb];exact (hf.setM (1 - x.active) (x.flip.mc (1 - x.active)).on).Zmx x.ticks 1 (1 - x.active) 0 x.reason x.dark
end
end
section
theorem Qd6.rA {x:Hs} (g:Qd6 x):x.sh.has (x.mc x.active).reel:=by
 unfold Hs.mc;split
 .exact g.r0
 .exact g.r1
section
variable (Qs:Ok P w K mg base "active_machine" 1 Zn (Qf0 CM CR CS CH (fun x=>Qdo x.active) fun A x=>.ref (A.am x.active)))
 (Zh:Ok P w K mg base "last_frame" 1 Yo (Qqz CR))
 (Qhg:Ok P w K mg base "end_show" 3 Qeo (Qf1 CM CR CS CH Qd6 [] Hs.end_)) (Qco:Ok P w K mg base "start_other" 3 Qa4 (Qf1 CM CR CS CH Qd6 [] Hs.Qge))
 (Qcp:Ok P w K mg base "change_over" 3 Qa5 (Qf1 CM CR CS CH Qd6 [] Hs.change))
include Qs Zh Qhg Qco Qcp
theorem Qps (D:Df K mg "follow_cues" Qe3 Qa6) (T:Txt K mg CM CR CS CH):Ok P w K mg base "follow_cues" 4 Qa6 (Qf1 CM CR CS CH (fun x=>Qd6 x/\(x.mc x.active).reel ≠ -1) [] Hs.follow):=by
 have SC:=Qpo;refine D.ok SC (fun vs H Q E h=>?_) (fun f _ A _ s H vs Q E hr h=>?_)
 .obtain ⟨A,x,rfl,_⟩:=h;rfl
 .obtain ⟨B,x,rfl,hh,⟨g,gr⟩,k⟩:=h;have ho:=hh.obj;have ha:=hh.mc x.active;obtain ⟨hsv,hsh⟩:=hh.Qty g.sh;have hso:=hsh.obj;have hn:=g.rA;rw[hsv]at ho;obtain ⟨c,dr,hc,hr2⟩:=hsh.reel (n:=(x.mc x.active).reel) (by rcases hn with z | z <;> omega) (by rcases hn with z | z <;> omega);refine ⟨_,(Qb (psL (i:=1) SC.nd (pcl Qs (hr.M) (Qa (pv 0) Qe))) (Qb (psL (i:=2) SC.nd (Zf Qt (Qh (Qh (pv 0) rfl) rfl) (Qh (pv 1) rfl) (fun _ _=>rfl))) (Qc (Qz (Zm (Qh (pv 2) rfl)) (Qc (Qz (Qo Yc (Qh (pv 1) rfl) (pcl Zh (hr.M) (Qa (pv 2) Qe)) (Qq _)) (Qc (Qx (pcl Qhg (hr.M) (Qa (pv 0) Qe)))) Qp)) (Qc (Qz (Qo Yc (Qh (pv 1) rfl) (Qh (pv 2) rfl) (Qq _)) (Qc (Qx (pcl Qco (hr.M) (Qa (pv 0) Qe)))) (Qc (Qz (Qo Yc (Qh (pv 1) rfl) (Qh (pv 2) rfl) (Qq _)) (Qc (Qx (pcl Qcp (hr.M) (Qa (pv 0) Qe)))) Qp)))))))),?_⟩;walk_at "go";refine ⟨B,x,rfl,hh,g.a01,?_⟩;walk_at "go";refine ⟨B.srl,_,_,_,rfl,rfl,SqL.of hsh.lst,hc,?_⟩;walk_at "R";refine ifB (fun h1=>?_) (fun h1=>?_)
  .walk_at "go";refine ⟨c,dr,_,rfl,hr2,rfl,_,rfl,ifB (fun h2=>?_) (fun h2=>?_)⟩
   .walk_at "go";refine ⟨B,x,rfl,hh,g,fun A' H' hh3 st3=>k A' H' ?_ st3⟩;unfold Hs.follow;rw[if_pos h1,if_pos (by simpa using h2)];exact hh3
   .refine k B H ?_ (Step.refl _ _);unfold Hs.follow;rw[if_pos h1,if_neg (by simpa using h2)];exact hh
  .walk_at "R";refine ifB (fun h2=>?_) (fun h2=>?_)
   .walk_at "go";refine ⟨B,x,rfl,hh,g,fun A' H' hh3 st3=>k A' H' ?_ st3⟩;unfold Hs.follow;rw[if_neg (by simp[h1]),if_pos (by simpa using h2)];exact hh3
   .walk_at "R";refine ifB (fun h3=>?_) (fun h3=>?_)
    .walk_at "go";refine ⟨B,x,rfl,hh,g,fun A' H' hh3 st3=>k A' H' ?_ st3⟩;unfold Hs.follow;rw[if_neg (by simp[h1]),if_neg (by simpa using h2),if_pos (by simpa using h3)];exact hh3
    .refine k B H ?_ (Step.refl _ _);unfold Hs.follow;rw[if_neg (by simp[h1]),if_neg (by simpa using h2),if_neg (by simpa using h3)];exact hh
end
section
variable (Qs:Ok P w K mg base "active_machine" 1 Zn (Qf0 CM CR CS CH (fun x=>Qdo x.active) fun A x=>.ref (A.am x.active)))
 (Qak:Ok P w K mg base "stop" 2 Qjo (Qng CM CR CS CH)) (Qas:Ok P w K mg base "runs_well" 1 Qbl (Zg4 CM)) (Jy:Ok P w K mg base "is_lit" 1 Qdv (Zg2 CM CS))
 (Qcq:Ok P w K mg base "follow_cues" 4 Qa6 (Qf1 CM CR CS CH (fun x=>Qd6 x/\(x.mc x.active).reel ≠ -1) [] Hs.follow))
include Qs Qak Qas Jy Qcq
theorem Qsh (D:Df K mg "watch_show" Qgc Qb2) (T:Txt K mg CM CR CS CH):Ok P w K mg base "watch_show" 5 Qb2 (Qf1 CM CR CS CH Qd6 [] Hs.watch):=by
 have SC:=Qse;refine D.ok SC (fun vs H Q E h=>?_) (fun f _ A _ s H vs Q E hr h=>?_)
 .obtain ⟨A,x,rfl,_⟩:=h;rfl
 .obtain ⟨B,x,rfl,hh,g,k⟩:=h;have ho:=hh.obj;have ha:=hh.mc x.active;obtain ⟨hsv,hsh⟩:=hh.Qty g.sh;refine ⟨_,(Qb (psL (i:=1) SC.nd (pcl Qs (hr.M) (Qa (pv 0) Qe))) (Qc (Qz (PW.pt (Qi7 (Qo Yc (Qh (pv 1) rfl) (pgi T.Qai) (Qq _)) (Qfr (Qae (Zm (pcl Qas (hr.M) (Qa (pv 1) Qe))))))) (Qc (Qx (pcl Qak (hr.M) (Qa (pv 0) (Qa (pgi T.Qjl) Qe))))) (Qc (Qz (Qae (Zm (pcl Jy (hr.M) (Qa (pv 1) (Qa (Qh (pv 0) rfl) Qe))))) (Qc (Qx (pcl Qak (hr.M) (Qa (pv 0) (Qa (pgi T.Qui) Qe))))) (Qc (Qx (pcl Qcq (hr.M) (Qa (pv 0) Qe))))))))),?_⟩;walk_at "go";refine ⟨B,x,rfl,hh,g.a01,?_⟩;walk_at "R";have s2:((x.mc x.active).reel = -1\/(x.mc x.active).well=false)->Zeu (Ze8 (Qng CM CR CS CH) [] E0 (Qi8 (Qdt 0) (Qi8 (tC (.int 2)) Ze7))) { nx:=fun _ H'=>Q .non H',rt:=Q } [some (.ref B.h),some (.ref (B.am x.active))] H:=by intro e;walk_at "go";refine ⟨B,x,2,rfl,hh,g.room,fun A' H' hh3 st3=>k A' H' ?_ st3⟩;unfold Hs.watch;rw[if_pos e];exact hh3
  refine ifB (fun h1=>?_) (fun h1=>?_)
  .exact Qfs (s2 (.inl (by simpa using h1)))
  .walk_at "go";refine ⟨B.am x.active,B.dm x.active,_,rfl,ha,_,rfl,?_⟩;cases h2:(x.mc x.active).well with
   | false=>exact Qfs (s2 (.inr h2))
   | true =>
    have e:¬ ((x.mc x.active).reel = -1\/(x.mc x.active).well=false):=by
     have h1:¬ (x.mc x.active).reel = -1:=by simpa using h1
     simp[h1,h2]
    refine Qf7 ?_;walk_at "go";refine ⟨B.am x.active,B.dm x.active,x.mc x.active,B.sb,B.sdy,_,_,x.sh.strike,_,_,_,by rw[hsv];rfl,ha,hsh.obj,_,rfl,?_⟩;cases h3:(x.mc x.active).lit x.sh.strike with
    | false =>refine Qfs ?_;walk_at "go";refine ⟨B,x,4,rfl,hh,g.room,fun A' H' hh3 st3=>k A' H' ?_ st3⟩;unfold Hs.watch;rw[if_neg e,if_pos h3];exact hh3
    | true =>refine Qf7 ?_;walk_at "go";refine ⟨B,x,rfl,hh,⟨g,fun z=>e (.inl z)⟩,fun A' H' hh3 st3=>k A' H' ?_ st3⟩;unfold Hs.watch;rw[if_neg e,if_neg (by simp[h3])];exact hh3
end
theorem Qsi (D:Df K mg "begin_tick" Qgd Qb3) (T:Txt K mg CM CR CS CH) (Qbn:Ok P w K mg base "wait_for_target" 3 Yw (Qf1 CM CR CS CH Qd6 [] Hs.wait))
  (Qgf:Ok P w K mg base "watch_show" 5 Qb2 (Qf1 CM CR CS CH Qd6 [] Hs.watch)):Ok P w K mg base "begin_tick" 6 Qb3 (Qf1 CM CR CS CH Qd6 [] Hs.begin):=by
 have SC:=Qsf;refine D.ok SC (fun vs H Q E h=>?_) (fun f _ A _ s H vs Q E hr h=>?_)
 .obtain ⟨A,x,rfl,_⟩:=h;rfl
 .obtain ⟨B,x,rfl,hh,g,k⟩:=h;have ho:=hh.obj;refine ⟨_,(Qc (Qz (Qo Yc (Qh (pv 0) rfl) (pgi T.Qm8) (Qq _)) (Qc (Qx (pcl Qbn (hr.M) (Qa (pv 0) Qe)))) (Qc (Qz (Qo Yc (Qh (pv 0) rfl) (pgi T.Zbe) (Qq _)) (Qc (Qx (pcl Qgf (hr.M) (Qa (pv 0) Qe)))) Qp)))),?_⟩;walk_at "R";refine ifB (fun h1=>?_) (fun h1=>?_)
  .walk_at "go";refine ⟨B,x,rfl,hh,g,fun A' H' hh3 st3=>k A' H' ?_ st3⟩;unfold Hs.begin;rw[if_pos (by simpa using h1)];exact hh3
  .walk_at "R";refine ifB (fun h2=>?_) (fun h2=>?_)
   .walk_at "go";refine ⟨B,x,rfl,hh,g,fun A' H' hh3 st3=>k A' H' ?_ st3⟩;unfold Hs.begin;rw[if_neg (by simpa using h1),if_pos (by simpa using h2)];exact hh3
   .refine k B H ?_ (Step.refl _ _);unfold Hs.begin;rw[if_neg (by simpa using h1),if_neg (by simpa using h2)];exact hh
end
noncomputable abbrev Qif:Stmt:=top 105
noncomputable abbrev Qy1:List Str:=["house","machine"]
noncomputable abbrev Qbo:List Str:=["house"]
theorem Qux:Qn Qy1 Qbo (Qi Qif):=by walk_at "sc"
noncomputable abbrev Qni:Stmt:=top 106
noncomputable abbrev Zhb:List Str:=["run","tick","reel","frame","last_tick"]
noncomputable abbrev Qgg:List Str:=["run","tick","reel","frame"]
theorem Zcw:Qn Zhb Qgg (Qi Qni):=by walk_at "sc"
noncomputable abbrev Qd7:Stmt:=top 107
noncomputable abbrev Qpt:List Str:=["house","reel","frame","runs"]
noncomputable abbrev Qal:List Str:=["house","reel","frame"]
theorem Qnj:Qn Qpt Qal (Qi Qd7):=by walk_at "sc"
noncomputable abbrev Qc9:Stmt:=top 108
noncomputable abbrev Qnk:List Str:=["house","seen"]
noncomputable abbrev Js:List Str:=["house"]
theorem Qmd:Qn Qnk Js (Qi Qc9):=by walk_at "sc"
noncomputable abbrev Qgh:Stmt:=top 109
noncomputable abbrev Quy:List Str:=["house","machine"]
noncomputable abbrev Qb4:List Str:=["house"]
theorem Qsj:Qn Quy Qb4 (Qi Qgh):=by walk_at "sc"
def Mc.shows (strike:Int) (m:Mc):Bool:=m.Qbi&&m.lit strike
def Hs.seen (x:Hs):Option (Int × Int):=if x.m0.shows x.sh.strike=true then some (x.m0.reel,x.m0.place) else if x.m1.shows x.sh.strike=true then some (x.m1.reel,x.m1.place) else none
def Zhc (CM CR CS CH:Addr):Sp:=fun vs H Q _=>∃ A x,vs=[.ref A.h]/\Jx CM CR CS CH H A x/\x.sheet=some x.sh/\(x.seen=none->Q .non H)/\∀ r,x.seen=some r->∀ p,H p=none->Q (.ref p) (upd H p (.tup [.int r.1,.int r.2]))
theorem Quz (D:Df K mg "on_screen" Qif Qbo) (T:Txt K mg CM CR CS CH) (Jy:Ok P w K mg base "is_lit" 1 Qdv (Zg2 CM CS)):Ok P w K mg base "on_screen" 2 Qbo (Zhc CM CR CS CH):=by
 have SC:=Qux;refine D.ok SC (fun vs H Q E h=>?_) (fun f _ A _ s H vs Q E hr h=>?_)
 .obtain ⟨A,x,rfl,_⟩:=h;rfl
 .obtain ⟨B,x,rfl,hh,g,k1,k2⟩:=h;have ho:=hh.obj;have h0:=hh.m0;have h1:=hh.m1;obtain ⟨hsv,hsh⟩:=hh.Qty g;refine ⟨_,(Qb (Qav PassesOwn.never rfl (Jq (Qh (pv 0) rfl)) (pgL (i:=1) SC.nd) (Qc (Qz (PW.pt (Qho (Zm (Qh (pv 1) rfl)) (Qd2 (Zm (pcl Jy (hr.M) (Qa (pv 1) (Qa (Qh (pv 0) rfl) Qe))))))) (Qc (Qm (Qqr (Qa (Qh (pv 1) rfl) (Qa (Qh (pv 1) rfl) Qe))))) Qp))) (Qc (Qm Qtz))),?_⟩;walk_at "go";refine ⟨⟨_,SqL.of hh.ml⟩,Jm (K:=K) (a:=B.ml) (xs:=[.ref B.a0,.ref B.a1]) (fun i σ H'=>H' = H/\∃ v:Option V,σ=[some (.ref B.h),v]/\(0 < i->x.m0.shows x.sh.strike=false)/\(1 < i->x.m1.shows x.sh.strike=false)) ⟨rfl,none,rfl,fun z=>absurd z (by simp),fun z=>absurd z (by simp)⟩ (fun i σ H' _ ⟨e,_⟩=>by rw[e];exact SqL.of hh.ml) ?_ ?_⟩
  .rintro i y σ H' hi ⟨rfl,v,rfl,c0,c1⟩
   match i,hi with
   | 0,hi =>
    have e:V.ref B.a0=y:=Option.some.inj hi;subst e;walk_at "R";refine ifB (fun h2=>?_) (fun h2=>?_)
    .walk_at "R";refine ⟨B.a0,B.d0,x.m0,B.sb,B.sdy,_,_,x.sh.strike,_,_,_,by rw[hsv];rfl,h0,hsh.obj,_,rfl,ifB (fun h3=>?_) (fun h3=>?_)⟩
     .walk_at "R";exact ⟨(by show 2<=sizeLine;decide),fun p hp=>k2 (x.m0.reel,x.m0.place) (by unfold Hs.seen;rw[if_pos (by simp[Mc.shows,h2,h3])]) p hp⟩
     .exact ⟨rfl,_,rfl,fun _=>by simp[Mc.shows,h3],fun z=>absurd z (by simp)⟩
    .refine Qf7 ?_;exact ⟨rfl,_,rfl,fun _=>by simp[Mc.shows,h2],fun z=>absurd z (by simp)⟩
   | 1,hi =>
    have e:V.ref B.a1=y:=Option.some.inj hi;subst e;have c0:=c0 (by decide);walk_at "R";refine ifB (fun h2=>?_) (fun h2=>?_)
    .walk_at "R";refine ⟨B.a1,B.d1,x.m1,B.sb,B.sdy,_,_,x.sh.strike,_,_,_,by rw[hsv];rfl,h1,hsh.obj,_,rfl,ifB (fun h3=>?_) (fun h3=>?_)⟩
     .walk_at "R";exact ⟨(by show 2<=sizeLine;decide),fun p hp=>k2 (x.m1.reel,x.m1.place) (by unfold Hs.seen;rw[if_neg (by simp[c0]),if_pos (by simp[Mc.shows,h2,h3])]) p hp⟩
     .exact ⟨rfl,_,rfl,fun _=>c0,fun _=>by simp[Mc.shows,h3]⟩
    .refine Qf7 ?_;exact ⟨rfl,_,rfl,fun _=>c0,fun _=>by simp[Mc.shows,h2]⟩
   | i+2,hi=>simp at hi
  .rintro σ H1 ⟨rfl,v,rfl,c0,c1⟩
   have c0:=c0 (by simp);have c1:=c1 (by simp);exact k1 (by unfold Hs.seen;rw[if_neg (by simp[c0]),if_neg (by simp[c1])])
def goes (r:Int × Int × Int × Int) (tick reel frame:Int):Bool:=decide (r.2.1=reel)&&(decide (frame=r.2.2.2+1)&&decide (tick=r.1+r.2.2.2 - r.2.2.1+1))
def Zmz:Sp:=fun vs H Q _=>∃ a r,∃ tick reel frame:Int,vs=[.ref a,.int tick,.int reel,.int frame]/\H a=some (Qyu r)/\Q (.bl (goes r tick reel frame)) H
theorem Zcx (D:Df K mg "goes_on" Qni Qgg) (T:Txt K mg CM CR CS CH):Ok P w K mg base "goes_on" 1 Qgg Zmz:=by
 have SC:=Zcw;refine D.ok SC (fun vs H Q E h=>?_) (fun f _ A _ s H vs Q E hr h=>?_)
 .obtain ⟨a,r,tick,reel,frame,rfl,_⟩:=h;rfl
 .obtain ⟨a,r,tick,reel,frame,rfl,hp,k⟩:=h;have hp:H a=some (.lst [.int r.1,.int r.2.1,.int r.2.2.1,.int r.2.2.2]):=hp;refine ⟨_,(Qb (psL (i:=4) SC.nd (Zq Qaw (Zq Qa1 (Zf Qt (pv 0) Qj (fun _ _=>rfl)) (Zf Qt (pv 0) Qj (fun _ _=>rfl))) (Zf Qt (pv 0) Qj (fun _ _=>rfl)))) (Qc (Qm (Qbz (Yg Yc (Zf Qt (pv 0) Qj (fun _ _=>rfl)) (pv 2) (Qq _)) (Qbz (Yg Yc (pv 3) (Zq Qa1 (Zf Qt (pv 0) Qj (fun _ _=>rfl)) Qj) (Qq _)) (Qdu (Yg Yc (pv 1) (Zq Qa1 (pv 4) Qj) (Qq _)))))))),?_⟩;walk_at "go"
  all_goals exact Yz k (by simp_all [goes])
section
section
variable {H H':Hp} {A:Ad} {x:Hs}
theorem Jx.Zpj (h:Jx CM CR CS CH H A x) (e:Int × Int × Int × Int) {p:Addr} (hp:H p=none) :
  Jx CM CR CS CH (upd (upd H p (Qyu e)) A.rl (.lst (A.rns.map V.ref++[.ref p]))) { A with rns:=A.rns++[p] } { x with runs:=x.runs++[e] }:=by
 have s:Jw H (upd H p (Qyu e)):=fun b o q=>by rw[Ql (Qg q hp)];exact q
 have h1:=h.same s;have out:∀ c o,upd H p (Qyu e) c=some o->c ≠ A.rl->upd (upd H p (Qyu e)) A.rl (.lst (A.rns.map V.ref++[.ref p])) c=some o:=fun c o q n=>by rw[Ql n];exact q
 have hll:=h1.runs;have hpl:p ≠ A.rl:=fun q=>by rw[q,h.runs]at hp;cases hp
 refine ⟨out _ _ h1.obj (Yu h1.obj hll (by intro z;cases z)),out _ _ h1.ml h.nmr,out _ _ h1.m0 (Yu h1.m0 hll (by intro z;cases z)),out _ _ h1.m1 (Yu h1.m1 hll (by intro z;cases z)),h.n01,out _ _ h1.log h.nlr,?_,?_,?_,h.nml,h.nmr,h.nlr,?_,?_⟩
 .refine Zw.keep h1.lts fun c m o q=>out c o q ?_;obtain ⟨y,q'⟩:=h1.lts.mem m;exact Yu q' hll (by intro z;cases z)
 .show upd _ A.rl _ A.rl=some (.lst ((A.rns++[p]).map V.ref));rw[Qk,List.map_append];rfl
 .refine Zw.snoc (Zw.keep h1.rns fun c m o q=>out c o q ?_) ?_
  .obtain ⟨y,q'⟩:=h1.rns.mem m;exact Yu q' hll Qne
  .exact out _ _ Qk hpl
 .refine Zfw h.rnd fun m=>?_;obtain ⟨y,q'⟩:=h.rns.mem m;rw[q']at hp;cases hp
 .have hs:=h1.sh;cases e9:x.sheet with
  | none =>rw[e9]at hs;exact hs
  | some sh =>rw[e9]at hs;exact ⟨hs.1,hs.2.1.keep (fun fs q _=>out _ _ q (Yu q hll (by intro z;cases z))) (fun q=>out _ _ q hs.2.2.2) (fun c dr r q=>out _ _ q (Yu q hll (by intro z;cases z))),hs.2.2⟩
theorem Jx.Zrr (h:Jx CM CR CS CH H A x) (e:Int × Int × Int × Int) {c:Addr} {i:Nat} (hi:A.rns[i]? = some c) :
  Jx CM CR CS CH (upd H c (Qyu e)) A { x with runs:=x.runs.set i e }:=by
 obtain ⟨y,hc⟩:=h.rns.mem (List.mem_of_getElem? hi);have out:∀ d o,H d=some o->d ≠ c->upd H c (Qyu e) d=some o:=fun d o q n=>by rw[Ql n];exact q
 have refs:∀ as:List Addr,HO.lst (as.map V.ref) ≠ Qyu y:=fun as z=>Qne z.symm;refine ⟨out _ _ h.obj (Yu h.obj hc (by intro z;cases z)),out _ _ h.ml (Yu h.ml hc (refs [A.a0,A.a1])),out _ _ h.m0 (Yu h.m0 hc (by intro z;cases z)),out _ _ h.m1 (Yu h.m1 hc (by intro z;cases z)),h.n01,out _ _ h.log (Yu h.log hc (refs _)),?_,out _ _ h.runs (Yu h.runs hc (refs _)),h.rns.set h.rnd hi,h.nml,h.nmr,h.nlr,h.rnd,?_⟩
 .refine Zw.keep h.lts fun d m o q=>out d o q ?_;obtain ⟨y',q'⟩:=h.lts.mem m;exact Yu q' hc (by intro z;cases z)
 .exact h.sh.keep (fun b dy fs q _=>out _ _ q (Yu q hc (by intro z;cases z))) (fun _ _ q=>out _ _ q (Yu q hc (refs _))) fun c' dr r q=>out _ _ q (Yu q hc (by intro z;cases z))
theorem Step.run {p:Addr} {e:Int × Int × Int × Int} {ys:List V} (hp:H p=none):Step H (upd (upd H p (Qyu e)) A.rl (.lst ys)) A { A with rns:=A.rns++[p] }:=
 ⟨fun b o q n=>by rw[Ql (fun z=>n (by rw[z];exact A.Zg9)),Ql (Qg q hp)];exact q,fun b m=>by
  unfold Ad.foot at m ⊢;rcases List.mem_append.mp m with z | z
  .exact .inl (List.mem_append.mpr (.inl z))
  .rcases List.mem_append.mp z with z | z
   .exact .inl (List.mem_append.mpr (.inr z))
   .rw[List.mem_singleton.mp z];exact .inr hp,rfl⟩
theorem Ad.Zhd {c:Addr} (A:Ad) (h:c ∈ A.rns):c ∈ A.foot:=List.mem_append.mpr (.inr h)
end
def Hs.Qnl (reel frame:Int) (x:Hs):Hs:=match x.runs.getLast? with
 | some r=>if goes r x.ticks reel frame=true then { x with runs:=x.runs.set (x.runs.length - 1) (r.1,r.2.1,r.2.2.1,frame) } else { x with runs:=x.runs++[(x.ticks,reel,frame,frame)] }
 | none=>{ x with runs:=x.runs++[(x.ticks,reel,frame,frame)] }
def Zm0 (CM CR CS CH:Addr):Sp:=fun vs H Q _=>∃ A x,∃ reel frame:Int,vs=[.ref A.h,.int reel,.int frame]/\Jx CM CR CS CH H A x/\x.runs.length < sizeLine/\∀ A' H',Jx CM CR CS CH H' A' (x.Qnl reel frame)->Step H H' A A' -> Q .non H'
theorem Qsk {α:Type} {xs:List α} {v:α} (h:xs[xs.length - 1]? = some v):atI xs (-1)=some v:=by
 have hl:0 < xs.length:=by
  cases xs with
  | nil=>simp at h
  | cons a r=>simp
 unfold atI ixN;rw[if_neg (by decide),if_pos (by omega),show ((-1:Int)+(xs.length:Int)).toNat=xs.length - 1 by omega];exact h
theorem Qnm (D:Df K mg "record_frame" Qd7 Qal) (T:Txt K mg CM CR CS CH) (Qnn:Ok P w K mg base "goes_on" 1 Qgg Zmz):Ok P w K mg base "record_frame" 2 Qal (Zm0 CM CR CS CH):=by
 have SC:=Qnj;refine D.ok SC (fun vs H Q E h=>?_) (fun f _ A _ s H vs Q E hr h=>?_)
 .obtain ⟨A,x,reel,frame,rfl,_⟩:=h;rfl
 .obtain ⟨B,x,reel,frame,rfl,hh,hz,k⟩:=h;have ho:=hh.obj;have hrl:=hh.runs;refine ⟨_,(Qb (psL (i:=3) SC.nd (Qh (pv 0) rfl)) (Qc (Qz (PW.pt (Qho (Qo Qd3 (Zk Zc rfl T.Qdp PySem.boot_len (Qa (pv 3) Qe)) Qj (Qq _)) (Qd2 (Zm (pcl Qnn (hr.M) (Qa (Zf Qt (pv 3) (Qkk Qem Qj) (fun _ _=>rfl)) (Qa (Qh (pv 0) rfl) (Qa (pv 1) (Qa (pv 2) Qe))))))))) (Qc (Zml (pv 2) (Zmk (Zf Qt (pv 3) (Qkk Qem Qj) (fun _ _=>rfl)) Qj set_list))) (Qc (Qx (Qhn PySem.F.plainAttrs_list PySem.F.slot_list_append PySem.F.type_list_append Yv (pv 3) (Qa (Za (Qa (Qh (pv 0) rfl) (Qa (pv 1) (Qa (pv 2) (Qa (pv 2) Qe))))) Qe))))))),?_⟩;have app:(x.Qnl reel frame={ x with runs:=x.runs++[(x.ticks,reel,frame,frame)] })->Zeu (tBM K "list" Qrt (Qdt 3) (Qi8 (Zu2 (Qi8 (Qxr K (Qdt 0) "ticks") (Qi8 (Qdt 1) (Qi8 (Qdt 2) (Qi8 (Qdt 2) Ze7))))) Ze7))
    { nx:=fun _ H'=>Q .non H',rt:=Q } [some (.ref B.h),some (.int reel),some (.int frame),some (.ref B.rl)] H:=by
   intro e;walk_at "R";refine ⟨.inl ⟨rfl,_,SqL.of hh.runs⟩,?_⟩;walk_at "R";refine ⟨(by show 4<=sizeLine;decide),fun p hp=>?_⟩;refine ⟨B.rl,_,_,rfl,rfl,by rw[Ql (Qg hh.runs hp)];exact hh.runs,by rw[List.length_map,hh.rns.1];exact hz,?_⟩;exact k _ _ (by rw[e];exact hh.Zpj (x.ticks,reel,frame,frame) hp) (Step.run (e:=(x.ticks,reel,frame,frame)) hp)
  walk_at "R";refine ifB (fun h1=>?_) (fun h1=>?_)
  .have hlen:0 < B.rns.length:=by
    have:=of_decide_eq_true h1
    simp at this;exact this
   have hlen2:0 < x.runs.length:=by rw[<-hh.rns.1];exact hlen
   have e1:B.rns[B.rns.length - 1]? = some B.rns[B.rns.length - 1]:=List.getElem?_eq_getElem (by omega);have e2:x.runs[B.rns.length - 1]? = some x.runs[x.runs.length - 1]:=by rw[hh.rns.1];exact List.getElem?_eq_getElem (by omega)
   have e3:x.runs.getLast? = some x.runs[x.runs.length - 1]:=by rw[List.getLast?_eq_getElem?];exact List.getElem?_eq_getElem (by omega)
   have hc:=hh.rns.2 _ _ _ e1 e2;have hat:atI (B.rns.map V.ref) (-1)=some (.ref B.rns[B.rns.length - 1]):=Qsk (by rw[List.length_map,List.getElem?_map,e1];rfl);walk_at "R";refine ⟨B.rl,_,_,_,rfl,rfl,SqL.of hh.runs,hat,?_⟩;walk_at "R";refine ⟨_,_,x.ticks,reel,frame,rfl,hc,_,rfl,ifB (fun h2=>?_) (fun h2=>?_)⟩
   .walk_at "R";refine ⟨B.rl,_,_,_,rfl,rfl,SqL.of hh.runs,hat,?_⟩;refine ⟨_,_,3,3,rfl,rfl,hc,rfl,?_⟩;refine k B _ ?_ (Step.Qi5 (B.Zhd (List.mem_of_getElem? e1)));have e4:x.Qnl reel frame={ x with runs:=x.runs.set (B.rns.length - 1) (x.runs[x.runs.length - 1].1,x.runs[x.runs.length - 1].2.1,x.runs[x.runs.length - 1].2.2.1,frame) }:=by unfold Hs.Qnl;rw[e3,hh.rns.1];exact if_pos h2
    rw[e4];exact hh.Zrr (x.runs[x.runs.length - 1].1,x.runs[x.runs.length - 1].2.1,x.runs[x.runs.length - 1].2.2.1,frame) e1
   .refine app ?_;unfold Hs.Qnl;rw[e3];exact if_neg (by simp[h2])
  .have Zrs:x.runs=[]:=by
    have:=of_decide_eq_false h1
    have h2:B.rns.length=0:=by simpa using this
    rw[hh.rns.1]at h2;exact List.length_eq_zero_iff.mp h2
   refine Qf7 (app ?_);unfold Hs.Qnl;rw[Zrs];rfl
end
structure Zo (x y:Hs):Prop where
 sheet:y.sheet=x.sheet
 r0:y.m0.reel=x.m0.reel
 r1:y.m1.reel=x.m1.reel
 runs:y.runs=x.runs
 ticks:y.ticks=x.ticks
 dark:y.dark=x.dark
 a01:Qdo x.active->Qdo y.active
theorem Zo.refl (x:Hs):Zo x x:=⟨rfl,rfl,rfl,rfl,rfl,rfl,id⟩
theorem Zo.trans {x y z:Hs} (a:Zo x y) (b:Zo y z):Zo x z:=⟨b.sheet.trans a.sheet,b.r0.trans a.r0,b.r1.trans a.r1,b.runs.trans a.runs,b.ticks.trans a.ticks,b.dark.trans a.dark,fun h=>b.a01 (a.a01 h)⟩
theorem Zo.note (x:Hs) (a b:Int):Zo x (x.note a b):=⟨rfl,rfl,rfl,rfl,rfl,rfl,id⟩
theorem Zo.stop (x:Hs) (r:Int):Zo x (x.stop r):=⟨rfl,rfl,rfl,rfl,rfl,rfl,id⟩
theorem Zo.setM (x:Hs) {i:Int} {m:Mc} (h:m.reel=(x.mc i).reel):Zo x (x.setM i m):=by
 refine ⟨rfl,?_,?_,rfl,rfl,rfl,id⟩
 .show (if i=0 then m else x.m0).reel=x.m0.reel;by_cases hi:i=0
  .rw[if_pos hi,h];unfold Hs.mc;rw[if_pos hi]
  .rw[if_neg hi]
 .show (if i=0 then x.m1 else m).reel=x.m1.reel;by_cases hi:i=0
  .rw[if_pos hi]
  .rw[if_neg hi,h];unfold Hs.mc;rw[if_neg hi]
theorem Zo.mode (x:Hs) (mode target:Int):Zo x { x with mode:=mode,target:=target }:=⟨rfl,rfl,rfl,rfl,rfl,rfl,id⟩
theorem Zo.wait (x:Hs):Zo x x.wait:=by
 unfold Hs.wait;split
 .exact ((Zo.setM x (i:=x.active) (m:={ x.mc x.active with told:=true }) rfl).trans (Zo.mode _ 2 _)).trans (Zo.note _ _ _)
 .split
  .exact Zo.stop _ _
  .exact Zo.refl _
theorem Zo.flip (x:Hs):Zo x x.flip:=(Zo.setM x (i:=x.active) (m:=(x.mc x.active).off) rfl).trans ⟨rfl,rfl,rfl,rfl,rfl,rfl,fun h=>Qdo.other h⟩
theorem Zo.change (x:Hs):Zo x x.change:=by
 unfold Hs.change;split
 .split
  .exact ((Zo.flip x).trans (Zo.setM x.flip (i:=1 - x.active) (m:={ x.flip.mc (1 - x.active) with told:=true }) rfl)).trans (Zo.note _ _ _)
  .exact ((Zo.flip x).trans (Zo.setM x.flip (i:=1 - x.active) (m:=(x.flip.mc (1 - x.active)).on) rfl)).trans (Zo.mode _ 1 0)
 .exact Zo.stop _ _
theorem Zo.Qge (x:Hs):Zo x x.Qge:=by
 unfold Hs.Qge;split
 .exact (Zo.setM x (i:=1 - x.active) (m:=(x.mc (1 - x.active)).on) rfl).trans (Zo.note _ _ _)
 .exact Zo.note _ _ _
theorem Zo.end_ (x:Hs):Zo x x.end_:=((Zo.setM x (i:=x.active) (m:=(x.mc x.active).off) rfl).trans (Zo.mode _ 4 _)).trans (Zo.note _ _ _)
theorem Zo.follow (x:Hs):Zo x x.follow:=by
 unfold Hs.follow
 repeat' split
 .exact Zo.end_ x
 .exact Zo.refl x
 .exact Zo.Qge x
 .exact Zo.change x
 .exact Zo.refl x
theorem Zo.watch (x:Hs):Zo x x.watch:=by
 unfold Hs.watch
 repeat' split
 .exact Zo.stop _ _
 .exact Zo.stop _ _
 .exact Zo.follow x
theorem Zo.begin (x:Hs):Zo x x.begin:=by
 unfold Hs.begin
 repeat' split
 .exact Zo.wait x
 .exact Zo.watch x
 .exact Zo.refl x
theorem Zo.sh {x y:Hs} (h:Zo x y):y.sh=x.sh:=by unfold Hs.sh;rw[h.sheet]
def Hs.Qph (x:Hs):Hs:=match x.seen with
 | some r=>x.Qnl r.1 r.2
 | none=>if 0 < x.runs.length/\¬ x.mode=4 then { x with dark:=x.dark+1 } else x
def Zhe (x:Hs):Prop:=x.sheet=some x.sh/\x.runs.length < sizeLine
theorem Qme (D:Df K mg "record_screen" Qc9 Js) (T:Txt K mg CM CR CS CH) (Qbp:Ok P w K mg base "on_screen" 2 Qbo (Zhc CM CR CS CH)) (Qd8:Ok P w K mg base "record_frame" 2 Qal (Zm0 CM CR CS CH)) :
  Ok P w K mg base "record_screen" 3 Js (Qf1 CM CR CS CH Zhe [] Hs.Qph):=by
 have SC:=Qmd;refine D.ok SC (fun vs H Q E h=>?_) (fun f _ A _ s H vs Q E hr h=>?_)
 .obtain ⟨A,x,rfl,_⟩:=h;rfl
 .obtain ⟨B,x,rfl,hh,g,k⟩:=h;have ho:=hh.obj;have hrl:=hh.runs;refine ⟨_,(Qb (psL (i:=1) SC.nd (pcl Qbp (hr.M) (Qa (pv 0) Qe))) (Qc (Qz (Qo Znt (pv 1) Qtz (Qq _)) (Qc (Qx (pcl Qd8 (hr.M) (Qa (pv 0) (Qa (Zf Qbh (pv 1) Qj (fun _ _=>rfl)) (Qa (Zf Qbh (pv 1) Qj (fun _ _=>rfl)) Qe)))))) (Qc (Qz (PW.pt (Qho (Qo Qd3 (Zk Zc rfl T.Qdp PySem.boot_len (Qa (Qh (pv 0) rfl) Qe)) Qj (Qq _)) (Qd2 (Qo Qpj (Qh (pv 0) rfl) (pgi T.Zgu) (Qq _))))) (Qc (Qf4 (pv 0) Qj Qt3)) Qp))))),?_⟩;walk_at "R";refine ⟨B,x,rfl,hh,g.1,fun e0=>?_,fun r e0 p hp=>?_⟩
  .refine ⟨_,rfl,rfl,_,rfl,Qf7 ?_⟩;walk_at "R";have e5:x.Qph=if 0 < x.runs.length/\¬ x.mode=4 then { x with dark:=x.dark+1 } else x:=by unfold Hs.Qph;rw[e0]
   refine ifB (fun h1=>?_) (fun h1=>?_)
   .have hlen:0 < x.runs.length:=by
     rw[<-hh.rns.1]
     have:=of_decide_eq_true h1
     simp at this;exact this
    walk_at "R";refine ifB (fun h2=>?_) (fun h2=>?_)
    .have h2:¬ x.mode=4:=by simpa using h2
     walk_at "R";refine k B _ ?_ (Step.Qi5 B.Qfv);rw[e5,if_pos ⟨hlen,h2⟩];exact hh.Zmx x.ticks x.mode x.active x.target x.reason (x.dark+1)
    .have h2:x.mode=4:=by simpa using h2
     refine k B H ?_ (Step.refl _ _);rw[e5,if_neg (fun z=>z.2 h2)];exact hh
   .have hlen:¬ 0 < x.runs.length:=by
     rw[<-hh.rns.1]
     have:=of_decide_eq_false h1
     simp at this;simp[this]
    refine Qf7 (k B H ?_ (Step.refl _ _));rw[e5,if_neg (fun z=>hlen z.1)];exact hh
  .have s1:Jw H (upd H p (.tup [.int r.1,.int r.2])):=fun b o q=>by rw[Ql (Qg q hp)];exact q
   have hp2:upd H p (.tup [.int r.1,.int r.2]) p=some (.tup [.int r.1,.int r.2]):=Qk;refine ⟨_,rfl,rfl,_,rfl,Qfs ?_⟩;walk_at "R";refine ⟨p,_,_,_,rfl,rfl,SqT.of hp2,rfl,?_⟩;walk_at "R";refine ⟨p,_,_,_,rfl,rfl,SqT.of hp2,rfl,?_⟩;refine ⟨B,x,r.1,r.2,rfl,hh.same s1,g.2,fun A' H' hh3 st3=>k A' H' ?_ ((Step.same s1).trans st3)⟩;have e5:x.Qph=x.Qnl r.1 r.2:=by unfold Hs.Qph;rw[e0]
   rw[e5];exact hh3
def Hs.Qy2 (x:Hs):Hs:={ x with m0:=x.m0.tick x.sh,m1:=x.m1.tick x.sh }
def Hs.tick (x:Hs):Hs:=({ x with ticks:=x.ticks+1 }:Hs).begin.Qy2.Qph
theorem Qsl (D:Df K mg "tick_house" Qgh Qb4) (T:Txt K mg CM CR CS CH) (Qgi:Ok P w K mg base "begin_tick" 6 Qb3 (Qf1 CM CR CS CH Qd6 [] Hs.begin))
  (Qig:Ok P w K mg base "pass_tick" 4 Qc6 (Zmw CM CS CR)) (Qda:Ok P w K mg base "record_screen" 3 Js (Qf1 CM CR CS CH Zhe [] Hs.Qph)) :
  Ok P w K mg base "tick_house" 7 Qb4 (Qf1 CM CR CS CH (fun x=>Qd6 x/\x.runs.length < sizeLine) [] Hs.tick):=by
 have SC:=Qsj;refine D.ok SC (fun vs H Q E h=>?_) (fun f _ A _ s H vs Q E hr h=>?_)
 .obtain ⟨A,x,rfl,_⟩:=h;rfl
 .obtain ⟨B,x,rfl,hh,⟨g,gz⟩,k⟩:=h;have ho:=hh.obj;have hx1:=hh.Zmx (x.ticks+1) x.mode x.active x.target x.reason x.dark;have g1:Qd6 { x with ticks:=x.ticks+1 }:=⟨g.sh,g.r0,g.r1,g.a01,g.room⟩
  have sr:=Zo.begin { x with ticks:=x.ticks+1 };refine ⟨_,(Qb (Qf4 (pv 0) Qj Qt3) (Qb (Qx (pcl Qgi (hr.M) (Qa (pv 0) Qe))) (Qb (Qav PassesOwn.never rfl (Jq (Qh (pv 0) rfl)) (pgL (i:=1) SC.nd) (Qc (Qx (pcl Qig (hr.M) (Qa (pv 1) (Qa (Qh (pv 0) rfl) Qe)))))) (Qc (Qx (pcl Qda (hr.M) (Qa (pv 0) Qe))))))),?_⟩;walk_at "R";refine ⟨B,_,rfl,hx1,g1,fun A1 H1 hh1 st1=>?_⟩;have st1:Step H H1 B A1:=(Step.Qi5 B.Qfv).trans st1;have e1:A1.h=B.h:=st1.hh;rw[<-e1]at *
  generalize hy:({ x with ticks:=x.ticks+1 }:Hs).begin=y at *
  have ho1:=hh1.obj;have gsh:y.sheet=some y.sh:=by rw[sr.sh,sr.sheet];exact g1.sh
  have gr0:y.sh.has y.m0.reel:=by rw[sr.sh,sr.r0];exact g1.r0
  have gr1:y.sh.has y.m1.reel:=by rw[sr.sh,sr.r1];exact g1.r1
  walk_at "R"
  refine ⟨⟨_,SqL.of hh1.ml⟩,Jm (K:=K) (a:=A1.ml) (xs:=[.ref A1.a0,.ref A1.a1]) (fun i σ H'=>∃ v:Option V,σ=[some (.ref A1.h),v]/\Step H1 H' A1 A1 /\
   Jx CM CR CS CH H' A1 (if i=0 then y else if i=1 then { y with m0:=y.m0.tick y.sh } else y.Qy2)) ⟨none,rfl,Step.refl _ _,hh1⟩ (fun i σ H' _ ⟨_,_,_,hh'⟩=>SqL.of hh'.ml) ?_ ?_⟩
  .rintro i y' σ H' hi ⟨v,rfl,st,hh'⟩
   match i,hi with
   | 0,hi =>have e:V.ref A1.a0=y':=Option.some.inj hi;subst e;have hh':Jx CM CR CS CH H' A1 y:=hh';have ho':=hh'.obj;obtain ⟨hsv,hsh⟩:=hh'.Qty gsh;walk_at "R";refine ⟨A1.a0,A1.d0,y.m0,A1.sb,A1.sdy,A1.srl,A1.Qqy,y.sh,by rw[hsv];rfl,hh'.m0,hsh,gr0,?_⟩;exact ⟨_,rfl,st.trans (Step.Qi5 (A1.Yn 0)),hh'.setM 0 (y.m0.tick y.sh)⟩
   | 1,hi =>have e:V.ref A1.a1=y':=Option.some.inj hi;subst e;have hh':Jx CM CR CS CH H' A1 { y with m0:=y.m0.tick y.sh }:=hh';have ho':=hh'.obj;obtain ⟨hsv,hsh⟩:=hh'.Qty gsh;walk_at "R";refine ⟨A1.a1,A1.d1,y.m1,A1.sb,A1.sdy,A1.srl,A1.Qqy,y.sh,by rw[hsv];rfl,hh'.m1,hsh,gr1,?_⟩;exact ⟨_,rfl,st.trans (Step.Qi5 (A1.Yn 1)),hh'.setM 1 (y.m1.tick y.sh)⟩
   | i+2,hi=>simp at hi
  .rintro σ H2 ⟨v,rfl,st2,hh2⟩
   have hh2:Jx CM CR CS CH H2 A1 y.Qy2:=hh2;walk_at "R";refine ⟨A1,y.Qy2,rfl,hh2,⟨gsh,by show y.runs.length < sizeLine;rw[sr.runs];exact gz⟩,fun A3 H3 hh3 st3=>k A3 H3 ?_ ((st1.trans st2).trans st3)⟩;unfold Hs.tick;rw[hy];exact hh3
noncomputable abbrev Qdb:Stmt:=inClass (top 62) 0
noncomputable abbrev Qy3:List Str:=["self","name","frames","motor","change","ends"]
noncomputable abbrev Qbq:List Str:=["self","name","frames","motor","change","ends"]
theorem Qu0:Qn Qy3 Qbq (Qi Qdb):=by walk_at "sc"
noncomputable abbrev Qb5:Stmt:=inClass (top 63) 0
noncomputable abbrev Qu1:List Str:=["self"]
noncomputable abbrev Qax:List Str:=["self"]
theorem Qsm:Qn Qu1 Qax (Qi Qb5):=by walk_at "sc"
noncomputable abbrev Qgj:Stmt:=top 65
noncomputable abbrev Qu2:List Str:=["sheet"]
noncomputable abbrev Qay:List Str:=["sheet"]
theorem Qsn:Qn Qu2 Qay (Qi Qgj):=by walk_at "sc"
noncomputable abbrev Qe4:Stmt:=top 66
noncomputable abbrev Qso:List Str:=["sheet","reel"]
noncomputable abbrev Qab:List Str:=["sheet","reel"]
theorem Qpu:Qn Qso Qab (Qi Qe4):=by walk_at "sc"
noncomputable abbrev Qku:Stmt:=top 78
noncomputable abbrev Zcy:List Str:=["sheet"]
noncomputable abbrev Qcx:List Str:=["sheet"]
theorem Qy4:Qn Zcy Qcx (Qi Qku):=by walk_at "sc"
noncomputable abbrev Qih:Stmt:=top 79
noncomputable abbrev Qy5:List Str:=["sheet","form"]
noncomputable abbrev Qdc:List Str:=["sheet","form"]
theorem Qu3:Qn Qy5 Qdc (Qi Qih):=by walk_at "sc"
noncomputable abbrev Qd9:Stmt:=top 80
noncomputable abbrev Qpv:List Str:=["sheet","form","number"]
noncomputable abbrev Qam:List Str:=["sheet","form","number"]
theorem Qno:Qn Qpv Qam (Qi Qd9):=by walk_at "sc"
noncomputable abbrev Qkv:Stmt:=top 82
noncomputable abbrev Zcz:List Str:=["sheet","name","reel"]
noncomputable abbrev Qep:List Str:=["sheet","name"]
theorem Qy6:Qn Zcz Qep (Qi Qkv):=by walk_at "sc"
noncomputable abbrev Qea:Stmt:=top 83
noncomputable abbrev Qpw:List Str:=["sheet","reel"]
noncomputable abbrev Qan:List Str:=["sheet","reel"]
theorem Qnp:Qn Qpw Qan (Qi Qea):=by walk_at "sc"
noncomputable abbrev Qii:Stmt:=top 84
noncomputable abbrev Qy7:List Str:=["sheet","reel"]
noncomputable abbrev Qdd:List Str:=["sheet","reel"]
theorem Qu4:Qn Qy7 Qdd (Qi Qii):=by walk_at "sc"
noncomputable abbrev Qnq:Stmt:=top 81
noncomputable abbrev Zhf:List Str:=["form","numbers"]
noncomputable abbrev Qgk:List Str:=["form","numbers"]
theorem Zc0:Qn Zhf Qgk (Qi Qnq):=by walk_at "sc"
def Zm1 (CR:Addr):Sp:=fun vs H Q _=>∃ p dx,∃ a b c d:Int,∃ e:Bool,vs=[.ref p,.int a,.int b,.int c,.int d,.bl e]/\H p=some (.ins CR dx [])/\Q .non (upd H p (.ins CR dx (rF ⟨a,b,c,d,e⟩)))
theorem Zpk (D:DfI K mg "Reel" "Reel.__init__" CR Qdb Qbq) (T:Txt K mg CM CR CS CH):OkI P w K mg base "Reel" CR 1 Qbq (Zm1 CR):=by
 have SC:=Qu0;refine D.ok SC (fun vs H Q E h=>?_) (fun f _ A _ s H vs Q E hr h=>?_)
 .obtain ⟨p,dx,a,b,c,d,e,rfl,_⟩:=h;rfl
 .obtain ⟨p,dx,a,b,c,d,e,rfl,hp,k⟩:=h;refine ⟨_,(Qb (Qu (pv 0) (pv 1) rfl) (Qb (Qu (pv 0) (pv 2) rfl) (Qb (Qu (pv 0) (pv 3) rfl) (Qb (Qu (pv 0) (pv 4) rfl) (Qc (Qu (pv 0) (pv 5) rfl)))))),?_⟩;walk_at "R";exact Qbk k rfl (by simp only[Zb];rfl)
def Zhg (CS:Addr):Sp:=fun vs H Q _=>∃ p dx,vs=[.ref p]/\H p=some (.ins CS dx [])/\∀ l,H l=none->Q .non (upd (upd H l (.lst [])) p (.ins CS dx (sF (.int 0) (.int 0) (.int 0) (.int 0) (.int 0) (.ref l))))
theorem Zlj (D:DfI K mg "Sheet" "Sheet.__init__" CS Qb5 Qax) (T:Txt K mg CM CR CS CH):OkI P w K mg base "Sheet" CS 1 Qax (Zhg CS):=by
 have SC:=Qsm;refine D.ok SC (fun vs H Q E h=>?_) (fun f _ A _ s H vs Q E hr h=>?_)
 .obtain ⟨p,dx,rfl,_⟩:=h;rfl
 .obtain ⟨p,dx,rfl,hp,k⟩:=h;refine ⟨_,(Qb (Qu (pv 0) Qj rfl) (Qb (Qu (pv 0) Qj rfl) (Qb (Qu (pv 0) Qj rfl) (Qb (Qu (pv 0) Qj rfl) (Qb (Qu (pv 0) Qj rfl) (Qc (Qu (pv 0) (Za Qe) rfl))))))),?_⟩;walk_at "R";simp only[Zb];refine ⟨Nat.zero_le _,fun l hl=>?_⟩;have hne:p ≠ l:=fun q=>by rw[<-q,Qk]at hl;cases hl
  have hl':H l=none:=by rw[Ql (Ne.symm hne)]at hl;exact hl
  walk_at "R";exact Qbk (k l hl') rfl (by rw[Zlc (a:=p) (b:=l) hne,Zb];rfl)
def Sh.Qjr (s:Sh):Int:=1+s.up / 2+(if s.strike - s.up > 0 then s.strike - s.up else 0)
def Sh.Qy8 (s:Sh) (r:Rl):Int:=1+s.up / 2+(r.change - r.motor - s.up)
def Zpl (CS CR:Addr) (r:Sh->V):Sp:=fun vs H Q _=>∃ b dy rl ras sh,vs=[.ref b]/\Qga CS CR H b dy rl ras sh/\Q (r sh) H
theorem Qsp (D:Df K mg "first_lead" Qgj Qay) (T:Txt K mg CM CR CS CH):Ok P w K mg base "first_lead" 1 Qay (Zpl CS CR fun s=>.int s.Qjr):=by
 have SC:=Qsn;refine D.ok SC (fun vs H Q E h=>?_) (fun f _ A _ s H vs Q E hr h=>?_)
 .obtain ⟨b,dy,rl,ras,sh,rfl,_⟩:=h;rfl
 .obtain ⟨b,dy,rl,ras,sh,rfl,hs,k⟩:=h;have ho:=hs.obj;refine ⟨_,(Qc (Qm (Zq Qa1 (Zq Qa1 Qj (Zq Zez (Qh (pv 0) rfl) Qj)) (Zk (Qmv rfl) rfl T.Zla (by decide +kernel) (Qa Qj (Qa (Zq Qaw (Qh (pv 0) rfl) (Qh (pv 0) rfl)) Qe)))))),?_⟩;walk_at "R";exact k
def Zhh (CS CR:Addr) (r:Sh->Rl->V):Sp:=fun vs H Q _=>∃ b dy rl ras sh c dr q,vs=[.ref b,.ref c]/\Qga CS CR H b dy rl ras sh/\H c=some (.ins CR dr (rF q))/\Q (r sh q) H
theorem Qpx (D:Df K mg "lead_behind" Qe4 Qab) (T:Txt K mg CM CR CS CH):Ok P w K mg base "lead_behind" 1 Qab (Zhh CS CR fun s r=>.int (s.Qy8 r)):=by
 have SC:=Qpu;refine D.ok SC (fun vs H Q E h=>?_) (fun f _ A _ s H vs Q E hr h=>?_)
 .obtain ⟨b,dy,rl,ras,sh,c,dr,q,rfl,_⟩:=h;rfl
 .obtain ⟨b,dy,rl,ras,sh,c,dr,q,rfl,hs,hc,k⟩:=h;have ho:=hs.obj;refine ⟨_,(Qc (Qm (Zq Qa1 (Zq Qa1 Qj (Zq Zez (Qh (pv 0) rfl) Qj)) (Zq Qaw (Zq Qaw (Qh (pv 1) rfl) (Qh (pv 1) rfl)) (Qh (pv 0) rfl))))),?_⟩;walk_at "R";exact k
def Sh.ended (s:Sh):Bool:=match s.reels.getLast? with
 | some r=>r.ends
 | none=>false
theorem Qy9 (D:Df K mg "is_ended" Qku Qcx) (T:Txt K mg CM CR CS CH):Ok P w K mg base "is_ended" 1 Qcx (Zpl CS CR fun s=>.bl s.ended):=by
 have SC:=Qy4;refine D.ok SC (fun vs H Q E h=>?_) (fun f _ A _ s H vs Q E hr h=>?_)
 .obtain ⟨b,dy,rl,ras,sh,rfl,_⟩:=h;rfl
 .obtain ⟨b,dy,rl,ras,sh,rfl,hs,k⟩:=h;have ho:=hs.obj;have hl:=hs.lst;refine ⟨_,(Qc (Qm (Qbz (Yg Qd3 (Zk Zc rfl T.Qdp PySem.boot_len (Qa (Qh (pv 0) rfl) Qe)) Qj (Qq _)) (Qdu (Qh (Zf Qt (Qh (pv 0) rfl) (Qkk Qem Qj) (fun _ _=>rfl)) rfl))))),?_⟩;walk_at "R";refine ifB (fun h1=>?_) (fun h1=>?_)
  .have hlen:0 < ras.length:=by
    have:=of_decide_eq_true h1
    simp at this;exact this
   have hlen2:0 < sh.reels.length:=by rw[<-hs.rls.1];exact hlen
   have e1:ras[ras.length - 1]? = some ras[ras.length - 1]:=List.getElem?_eq_getElem (by omega);have e2:sh.reels[ras.length - 1]? = some sh.reels[sh.reels.length - 1]:=by rw[hs.rls.1];exact List.getElem?_eq_getElem (by omega)
   have e3:sh.reels.getLast? = some sh.reels[sh.reels.length - 1]:=by rw[List.getLast?_eq_getElem?];exact List.getElem?_eq_getElem (by omega)
   obtain ⟨dr,hc⟩:=hs.rls.2 _ _ _ e1 e2;have hat:atI (ras.map V.ref) (-1)=some (.ref ras[ras.length - 1]):=Qsk (by rw[List.length_map,List.getElem?_map,e1];rfl);walk_at "R";refine ⟨rl,_,_,_,rfl,rfl,SqL.of hs.lst,hat,?_⟩;walk_at "R";exact Yz k (by unfold Sh.ended;rw[e3])
  .have Zrs:sh.reels=[]:=by
    have:=of_decide_eq_false h1
    have h2:ras.length=0:=by simpa using this
    rw[hs.rls.1]at h2;exact List.length_eq_zero_iff.mp h2
   exact Yz k (by unfold Sh.ended;rw[Zrs];rfl)
def Sh.may (s:Sh) (Ji:Int):Bool:=if Ji < 4 then decide (s.Qar=Ji) else decide (s.Qar=4) && !s.ended
def Zrt (CS CR:Addr):Sp:=fun vs H Q _=>∃ b dy rl ras sh,∃ Ji:Int,vs=[.ref b,.int Ji]/\Qga CS CR H b dy rl ras sh/\Q (.bl (sh.may Ji)) H
theorem Qu5 (D:Df K mg "may_stand" Qih Qdc) (T:Txt K mg CM CR CS CH) (Qcy:Ok P w K mg base "is_ended" 1 Qcx (Zpl CS CR fun s=>.bl s.ended)):Ok P w K mg base "may_stand" 2 Qdc (Zrt CS CR):=by
 have SC:=Qu3;refine D.ok SC (fun vs H Q E h=>?_) (fun f _ A _ s H vs Q E hr h=>?_)
 .obtain ⟨b,dy,rl,ras,sh,Ji,rfl,_⟩:=h;rfl
 .obtain ⟨b,dy,rl,ras,sh,Ji,rfl,hs,k⟩:=h;have ho:=hs.obj;refine ⟨_,(Qb (Qz (Qo Qh0 (pv 1) (pgi T.Qhf) (Qq _)) (Qc (Qm (Yg Yc (Qh (pv 0) rfl) (pv 1) (Qq _)))) Qp) (Qc (Qm (Qbz (Yg Yc (Qh (pv 0) rfl) (pgi T.Qhf) (Qq _)) (Qdu (Qt0 (pcl Qcy (hr.M) (Qa (pv 0) Qe)))))))),?_⟩;walk_at "R";refine ifB (fun h1=>?_) (fun h1=>?_)
  .have h1:Ji < 4:=by simpa using h1
   walk_at "R";exact Yz k (by unfold Sh.may;rw[if_pos h1];simp)
  .have h1:¬ Ji < 4:=by simpa using h1
   walk_at "R";refine ifB (fun h2=>?_) (fun h2=>?_)
   .have h2:sh.Qar=4:=by simpa using h2
    walk_at "R";refine ⟨b,dy,rl,ras,sh,rfl,hs,?_⟩;walk_at "R";exact Yz k (by unfold Sh.may;rw[if_neg h1];simp[h2])
   .have h2:¬ sh.Qar=4:=by simpa using h2
    exact Yz k (by unfold Sh.may;rw[if_neg h1];simp[h2])
def Sh.setting (s:Sh) (Ji n:Int):Sh:=
 if Ji=0 then { s with Qar:=Ji+1,up:=n } else if Ji=1 then { s with Qar:=Ji+1,strike:=n } else if Ji=2 then { s with Qar:=Ji+1,down:=n } else { s with Qar:=Ji+1,leader:=n }
def shF (s:Sh) (rl:Addr):List (Str × V):=sF (.int s.Qar) (.int s.up) (.int s.strike) (.int s.down) (.int s.leader) (.ref rl)
def Qu6 (CS:Addr):Sp:=fun vs H Q _=>∃ b dy rl sh,∃ Ji n:Int,vs=[.ref b,.int Ji,.int n]/\H b=some (.ins CS dy (shF sh rl))/\Q .non (upd H b (.ins CS dy (shF (sh.setting Ji n) rl)))
theorem Qnr (D:Df K mg "take_setting" Qd9 Qam) (T:Txt K mg CM CR CS CH):Ok P w K mg base "take_setting" 1 Qam (Qu6 CS):=by
 have SC:=Qno;refine D.ok SC (fun vs H Q E h=>?_) (fun f _ A _ s H vs Q E hr h=>?_)
 .obtain ⟨b,dy,rl,sh,Ji,n,rfl,_⟩:=h;rfl
 .obtain ⟨b,dy,rl,sh,Ji,n,rfl,ho,k⟩:=h;have ho:H b=some (.ins CS dy (sF (.int sh.Qar) (.int sh.up) (.int sh.strike) (.int sh.down) (.int sh.leader) (.ref rl))):=ho;refine ⟨_,(Qb (Qu (pv 0) (Zq Qa1 (pv 1) Qj) rfl) (Qc (Qz (Qo Yc (pv 1) Qj (Qq _)) (Qc (Qu (pv 0) (pv 2) rfl)) (Qc (Qz (Qo Yc (pv 1) Qj (Qq _)) (Qc (Qu (pv 0) (pv 2) rfl)) (Qc (Qz (Qo Yc (pv 1) Qj (Qq _)) (Qc (Qu (pv 0) (pv 2) rfl)) (Qc (Qu (pv 0) (pv 2) rfl))))))))),?_⟩;walk_at "R";refine ifB (fun h1=>?_) (fun h1=>?_)
  .have h1:Ji=0:=by simpa using h1
   walk_at "R";refine Qbk k rfl ?_;simp only[Zb,Sh.setting,if_pos h1];rfl
  .have h1:¬ Ji=0:=by simpa using h1
   walk_at "R";refine ifB (fun h2=>?_) (fun h2=>?_)
   .have h2:Ji=1:=by simpa using h2
    walk_at "R";refine Qbk k rfl ?_;simp only[Zb,Sh.setting,if_neg h1,if_pos h2];rfl
   .have h2:¬ Ji=1:=by simpa using h2
    walk_at "R";refine ifB (fun h3=>?_) (fun h3=>?_)
    .have h3:Ji=2:=by simpa using h3
     walk_at "R";refine Qbk k rfl ?_;simp only[Zb,Sh.setting,if_neg h1,if_neg h2,if_pos h3];rfl
    .have h3:¬ Ji=2:=by simpa using h3
     walk_at "R";refine Qbk k rfl ?_;simp only[Zb,Sh.setting,if_neg h1,if_neg h2,if_neg h3];rfl
def Sh.named (s:Sh) (n:Int):Bool:=s.reels.any fun r=>decide (r.name=n)
def Zhi (CS CR:Addr):Sp:=fun vs H Q _=>∃ b dy rl ras sh,∃ n:Int,vs=[.ref b,.int n]/\Qga CS CR H b dy rl ras sh/\Q (.bl (sh.named n)) H
theorem Qza (D:Df K mg "has_name" Qkv Qep) (T:Txt K mg CM CR CS CH):Ok P w K mg base "has_name" 1 Qep (Zhi CS CR):=by
 have SC:=Qy6;refine D.ok SC (fun vs H Q E h=>?_) (fun f _ A _ s H vs Q E hr h=>?_)
 .obtain ⟨b,dy,rl,ras,sh,n,rfl,_⟩:=h;rfl
 .obtain ⟨b,dy,rl,ras,sh,n,rfl,hs,k⟩:=h;have ho:=hs.obj;refine ⟨_,(Qb (Qav PassesOwn.never rfl (Jq (Qh (pv 0) rfl)) (pgL (i:=2) SC.nd) (Qc (Qz (Qo Yc (Qh (pv 2) rfl) (pv 1) (Qq _)) (Qc (Qm Yb)) Qp))) (Qc (Qm Yb))),?_⟩;walk_at "R";refine ⟨⟨_,SqL.of hs.lst⟩,Jm (K:=K) (a:=rl) (xs:=ras.map V.ref) (fun i σ H'=>H' = H/\∃ v:Option V,σ=[some (.ref b),some (.int n),v]/\∀ r ∈ sh.reels.take i,¬ r.name=n) ⟨rfl,none,rfl,by simp⟩ (fun i σ H' _ ⟨e,_⟩=>by rw[e];exact SqL.of hs.lst) ?_ ?_⟩
  .rintro i y σ H' hi ⟨rfl,v,rfl,hno⟩
   rw[List.getElem?_map]at hi;obtain ⟨c,hc,rfl⟩:=Option.map_eq_some_iff.mp hi;have hlt:i < sh.reels.length:=by rw[<-hs.rls.1];exact (List.getElem?_eq_some_iff.mp hc).1
   have e2:sh.reels[i]? = some sh.reels[i]:=List.getElem?_eq_getElem hlt;obtain ⟨dr,hcc⟩:=hs.rls.2 _ _ _ hc e2;walk_at "R";refine ifB (fun h1=>?_) (fun h1=>?_)
   .have h1:sh.reels[i].name=n:=by simpa using h1
    exact Yz k (by unfold Sh.named;exact List.any_eq_true.mpr ⟨_,List.getElem_mem hlt,decide_eq_true h1⟩)
   .have h1:¬ sh.reels[i].name=n:=by simpa using h1
    refine ⟨rfl,_,rfl,fun r hr=>?_⟩;rw[List.take_succ,e2]at hr;rcases List.mem_append.mp hr with z | z
    .exact hno r z
    .simp at z;rw[z];exact h1
  .rintro σ H' ⟨rfl,v,rfl,hno⟩
   refine Yz k ?_;unfold Sh.named;rw[List.any_eq_false];intro r hr
   have:=hno r (by rw[List.length_map,hs.rls.1,List.take_length];exact hr)
   simp[this]
def Sh.bad (s:Sh) (r:Rl):Bool:=(decide (r.change<=r.motor)||decide (r.frames<=r.change))||(decide (r.change - r.motor < (if s.strike > s.up then s.strike else s.up))||decide (s.leader < s.Qy8 r))
theorem Qns (D:Df K mg "has_bad_cues" Qea Qan) (T:Txt K mg CM CR CS CH) (Qac:Ok P w K mg base "lead_behind" 1 Qab (Zhh CS CR fun s r=>.int (s.Qy8 r))) :
  Ok P w K mg base "has_bad_cues" 2 Qan (Zhh CS CR fun s r=>.bl (s.bad r)):=by
 have SC:=Qnp;refine D.ok SC (fun vs H Q E h=>?_) (fun f _ A _ s H vs Q E hr h=>?_)
 .obtain ⟨b,dy,rl,ras,sh,c,dr,q,rfl,_⟩:=h;rfl
 .obtain ⟨b,dy,rl,ras,sh,c,dr,q,rfl,hs,hc,k⟩:=h;have ho:=hs.obj;refine ⟨_,(Qb (Qz (PW.pt (Qi7 (Qo Qrr (Qh (pv 1) rfl) (Qh (pv 1) rfl) (Qq _)) (Qfr (Qo Qrr (Qh (pv 1) rfl) (Qh (pv 1) rfl) (Qq _))))) (Qc (Qm Yb)) Qp) (Qb (Qz (Qo Qh0 (Zq Qaw (Qh (pv 1) rfl) (Qh (pv 1) rfl)) (Zk (Qmv rfl) rfl T.Zla (by decide +kernel) (Qa (Qh (pv 0) rfl) (Qa (Qh (pv 0) rfl) Qe))) (Qq _)) (Qc (Qm Yb)) Qp) (Qc (Qm (Yg Qd3 (pcl Qac (hr.M) (Qa (pv 0) (Qa (pv 1) Qe))) (Qh (pv 0) rfl) (Qq _)))))),?_⟩;walk_at "R";refine ifB (fun h1=>?_) (fun h1=>?_)
  .exact Qfs (Yz k (by unfold Sh.bad;simp only[h1];rfl))
  .walk_at "R";refine ifB (fun h2=>?_) (fun h2=>?_)
   .exact Yz k (by unfold Sh.bad;simp only[h1,h2];rfl)
   .walk_at "R";refine ifB (fun h3=>?_) (fun h3=>?_)
    .exact Yz k (by unfold Sh.bad;simp only[h1,h2,h3];rfl)
    .walk_at "R";refine ⟨b,dy,rl,ras,sh,c,dr,q,rfl,hs,hc,?_⟩;walk_at "R";exact Yz k (by unfold Sh.bad;simp only[h1,h2,h3];rfl)
def Sh.Qf2 (s:Sh) (r:Rl):Int:=
 if s.named r.name=true\/s.reels.length=6 then 4 else if r.ends=false/\s.bad r=true then 5 else if s.reels.length=0/\s.leader < s.Qjr then 5 else 0
def Sh.Qpy (s:Sh) (r:Rl):Sh:=if s.Qf2 r=0 then { s with reels:=s.reels++[r] } else s
def Zhj (CS CR:Addr):Sp:=fun vs H Q _=>∃ b dy rl ras sh c dr r,vs=[.ref b,.ref c]/\Qga CS CR H b dy rl ras sh/\sh.reels.length<=6/\H c=some (.ins CR dr (rF r)) /\
 ∀ H' Qxu,Qga CS CR H' b dy rl Qxu (sh.Qpy r)->(∀ d o,H d=some o->d ≠ rl->H' d=some o)->Q (.int (sh.Qf2 r)) H'
theorem Qu7 (D:Df K mg "take_reel" Qii Qdd) (T:Txt K mg CM CR CS CH) (Qkw:Ok P w K mg base "has_name" 1 Qep (Zhi CS CR))
  (Qeb:Ok P w K mg base "has_bad_cues" 2 Qan (Zhh CS CR fun s r=>.bl (s.bad r))) (Qaz:Ok P w K mg base "first_lead" 1 Qay (Zpl CS CR fun s=>.int s.Qjr)) :
  Ok P w K mg base "take_reel" 3 Qdd (Zhj CS CR):=by
 have SC:=Qu4;refine D.ok SC (fun vs H Q E h=>?_) (fun f _ A _ s H vs Q E hr h=>?_)
 .obtain ⟨b,dy,rl,ras,sh,c,dr,r,rfl,_⟩:=h;rfl
 .obtain ⟨b,dy,rl,ras,sh,c,dr,r,rfl,hs,hlen,hc,k⟩:=h;have ho:=hs.obj;have hl:=hs.lst;have out:∀ z:Int,sh.Qf2 r=z->¬ z=0->Q (.int z) H:=by
   rintro z rfl hz
   exact k H ras (by unfold Sh.Qpy;rw[if_neg hz];exact hs) fun _ _ e _=>e
  have nb:b ≠ rl:=Yu ho hl (by intro z;cases z);have nc:c ≠ rl:=Yu hc hl (by intro z;cases z);refine ⟨_,(Qb (Qz (PW.pt (Qi7 (Zm (pcl Qkw (hr.M) (Qa (pv 0) (Qa (Qh (pv 1) rfl) Qe)))) (Qfr (Qo Yc (Zk Zc rfl T.Qdp PySem.boot_len (Qa (Qh (pv 0) rfl) Qe)) (pgi T.Qlf) (Qq _))))) (Qc (Qm (pgi T.Qqx))) Qp) (Qb (Qz (PW.pt (Qho (Qae (Zm (Qh (pv 1) rfl))) (Qd2 (Zm (pcl Qeb (hr.M) (Qa (pv 0) (Qa (pv 1) Qe))))))) (Qc (Qm (pgi T.Qkn))) Qp) (Qb (Qz (PW.pt (Qho (Qo Yc (Zk Zc rfl T.Qdp PySem.boot_len (Qa (Qh (pv 0) rfl) Qe)) Qj (Qq _)) (Qd2 (Qo Qd3 (pcl Qaz (hr.M) (Qa (pv 0) Qe)) (Qh (pv 0) rfl) (Qq _))))) (Qc (Qm (pgi T.Qkn))) Qp) (Qb (Qx (Qhn PySem.F.plainAttrs_list PySem.F.slot_list_append PySem.F.type_list_append Yv (Qh (pv 0) rfl) (Qa (pv 1) Qe))) (Qc (Qm Qj)))))),?_⟩;walk_at "R";refine ⟨b,dy,rl,ras,sh,r.name,rfl,hs,_,rfl,ifB (fun h1=>?_) (fun h1=>?_)⟩
  .refine Qfs (out _ ?_ (by decide));unfold Sh.Qf2;rw[if_pos (.inl h1)]
  .walk_at "R";refine ifB (fun h2=>?_) (fun h2=>?_)
   .have h2:sh.reels.length=6:=by
     rw[<-hs.rls.1]
     have:=of_decide_eq_true h2
     simp at this;omega
    refine out _ ?_ (by decide);unfold Sh.Qf2;rw[if_pos (.inr h2)]
   .have h2:¬ sh.reels.length=6:=by
     rw[<-hs.rls.1]
     have:=of_decide_eq_false h2
     simp at this;omega
    have n1:¬ (sh.named r.name=true\/sh.reels.length=6):=fun z=>z.elim (by simp[h1]) h2;walk_at "R"
    have rest:¬ (r.ends=false/\sh.bad r=true)->Zet (Zte (Zut (Ze3 (tOp rEq (tCB (fun xs H Q=>∃ p ys,xs=[V.ref p]/\(SqL K H p ys\/SqT K H p ys)/\Q (.int ys.length) H) (Qi8 (Qxr K (Qdt 0) "reels") Ze7)) (tC (.int 0))))
       (Ze3 (tOp (rI0 fun i j=>.bl (decide (j < i))) (Ze8 (Zpl CS CR fun s=>.int s.Qjr) [] E0 (Qi8 (Qdt 0) Ze7)) (Qxr K (Qdt 0) "leader")))) (Zqh (tC (.int 5))) Zno)
      (Zet (Zeu (tBM K "list" Qrt (Qxr K (Qdt 0) "reels") (Qi8 (Qdt 1) Ze7))) (Zqh (tC (.int 0)))) { nx:=fun _ H'=>Q .non H',rt:=Q } [some (.ref b),some (.ref c)] H:=by
     intro n2;have fin:¬ (sh.reels.length=0/\sh.leader < sh.Qjr)->Zet (Zeu (tBM K "list" Qrt (Qxr K (Qdt 0) "reels") (Qi8 (Qdt 1) Ze7))) (Zqh (tC (.int 0))) { nx:=fun _ H'=>Q .non H',rt:=Q } [some (.ref b),some (.ref c)] H:=by
      intro n3;have e0:sh.Qf2 r=0:=by unfold Sh.Qf2;rw[if_neg n1,if_neg n2,if_neg n3]
      walk_at "R";refine ⟨.inl ⟨rfl,_,SqL.of hl⟩,?_⟩;walk_at "R";refine ⟨rl,_,_,rfl,rfl,hl,by rw[List.length_map,hs.rls.1];exact Nat.lt_of_le_of_lt hlen (by decide),?_⟩;have q:=k (upd H rl (.lst (ras.map V.ref++[.ref c]))) (ras++[c]) ?_ (fun d o e n=>by rw[Ql n];exact e)
      .rw[e0]at q;exact q
      .have e5:sh.Qpy r={ sh with reels:=sh.reels++[r] }:=by unfold Sh.Qpy;rw[if_pos e0]
       rw[e5];refine ⟨by rw[Ql nb];exact ho,by rw[Qk,List.map_append];rfl,by show (ras++[c]).length=(sh.reels++[r]).length;rw[List.length_append,List.length_append,hs.rls.1];rfl,fun i d r' h5 h6=>?_⟩;have h6:(sh.reels++[r])[i]? = some r':=h6;by_cases hi:i < ras.length
       .rw[List.getElem?_append_left hi]at h5;rw[List.getElem?_append_left (by rw[<-hs.rls.1];exact hi)]at h6;obtain ⟨dr',e'⟩:=hs.rls.2 i d r' h5 h6;exact ⟨dr',by rw[Ql (Yu e' hl (by intro z;cases z))];exact e'⟩
       .rw[List.getElem?_append_right (Nat.le_of_not_lt hi)]at h5;rw[List.getElem?_append_right (by rw[<-hs.rls.1];exact Nat.le_of_not_lt hi),<-hs.rls.1]at h6;cases hj:i - ras.length with
        | zero =>rw[hj]at h5 h6;cases h5;cases h6;exact ⟨dr,by rw[Ql nc];exact hc⟩
        | succ j =>rw[hj]at h5;simp at h5
     walk_at "R";refine ifB (fun h3=>?_) (fun h3=>?_)
     .have h3:sh.reels.length=0:=by
       rw[<-hs.rls.1]
       have:=of_decide_eq_true h3
       simp at this;simp[this]
      walk_at "R";refine ⟨b,dy,rl,ras,sh,rfl,hs,?_⟩;walk_at "R";refine ifB (fun h4=>?_) (fun h4=>?_)
      .have h4:sh.leader < sh.Qjr:=by simpa using h4
       refine out _ ?_ (by decide);unfold Sh.Qf2;rw[if_neg n1,if_neg n2,if_pos ⟨h3,h4⟩]
      .have h4:¬ sh.leader < sh.Qjr:=by simpa using h4
       exact fin fun z=>h4 z.2
     .have h3:¬ sh.reels.length=0:=by
       rw[<-hs.rls.1]
       have:=of_decide_eq_false h3
       simp at this;simp[this]
      exact Qf7 (fin fun z=>h3 z.1)
    cases h3:r.ends with
    | true=>exact Qf7 (Qf7 (rest fun z=>by rw[h3]at z;exact absurd z.1 (by decide)))
    | false =>
     refine Qfs ?_;walk_at "R";refine ⟨b,dy,rl,ras,sh,c,dr,r,rfl,hs,hc,_,rfl,ifB (fun h4=>?_) (fun h4=>?_)⟩
     .refine out _ ?_ (by decide);unfold Sh.Qf2;rw[if_neg n1,if_pos ⟨h3,h4⟩]
     .exact rest fun z=>by rw[h4]at z;exact absurd z.2 (by decide)
noncomputable abbrev Qkx:Stmt:=top 71
noncomputable abbrev Zc1:List Str:=["codes","mark","parts","part","code"]
noncomputable abbrev Qcz:List Str:=["codes","mark"]
theorem Qzb:Qn Zc1 Qcz (Qi Qkx):=by walk_at "sc"
noncomputable abbrev Qij:Stmt:=top 73
noncomputable abbrev Qzc:List Str:=["word","number","code"]
noncomputable abbrev Qbr:List Str:=["word"]
theorem Qu8:Qn Qzc Qbr (Qi Qij):=by walk_at "sc"
noncomputable abbrev Qnt:Stmt:=top 87
noncomputable abbrev Zhk:List Str:=["codes","code"]
noncomputable abbrev Qgl:List Str:=["codes"]
theorem Zc2:Qn Zhk Qgl (Qi Qnt):=by walk_at "sc"
def Qah (l:List Int):HO:=.lst (l.map V.int)
def Qag (m:Int):List Int->List (List Int)->List Int->List (List Int)
 | [],done,cur=>done++[cur]
 | c::r,done,cur=>if c=m then Qag m r (done++[cur]) [] else Qag m r done (cur++[c])
def Zr (m:Int) (ns:List Int):List (List Int):=Qag m ns [] []
def Qzd (K:FG):Sp:=fun vs H Q _=>∃ a ns,∃ mark:Int,vs=[.ref a,.int mark]/\SqL K H a (ns.map V.int)/\ns.length < 100000 /\
 ∀ H' p as,Jw H H' -> H p=none->H' p=some (.lst (as.map V.ref))->Zw Qah H' as (Zr mark ns)->(∀ c ∈ as,H c=none)->p ∉ as->Q (.ref p) H'
structure Zhl (H H':Hp) (a p q:Addr) (as:List Addr) (done:List (List Int)) (cur:List Int) (i:Nat):Prop where
 same:Jw H H'
 hp:H p=none
 hq:H q=none
 fresh:∀ c ∈ as,H c=none
 pl:H' p=some (.lst (as.map V.ref))
 ql:H' q=some (Qah cur)
 row:Zw Qah H' as done
 pq:p ≠ q
 pa:p ∉ as
 qa:q ∉ as
 l1:as.length<=i
 l2:cur.length<=i
theorem Zhl.push {H H':Hp} {a p q:Addr} {as:List Addr} {done:List (List Int)} {cur:List Int} {i:Nat} (I:Zhl H H' a p q as done cur i) :
  Jw H (upd H' p (.lst (as.map V.ref++[.ref q])))/\upd H' p (.lst (as.map V.ref++[.ref q])) p=some (.lst ((as++[q]).map V.ref))/\Zw Qah (upd H' p (.lst (as.map V.ref++[.ref q]))) (as++[q]) (done++[cur])/\(∀ c ∈ as++[q],H c=none)/\p ∉ as++[q]:=by
 have np:p ∉ as++[q]:=fun m=>(List.mem_append.mp m).elim I.pa fun z=>I.pq (List.mem_singleton.mp z);refine ⟨fun b o e=>by rw[Ql (Qg e I.hp)];exact I.same b o e,by rw[Qk,List.map_append];rfl,?_,fun c m=>?_,np⟩
 .refine Zw.snoc (Zw.keep I.row fun c m o e=>?_) ?_
  .rw[Ql (fun z=>I.pa (by rw[<-z];exact m))];exact e
  .rw[Ql (Ne.symm I.pq)];exact I.ql
 .rcases List.mem_append.mp m with z | z
  .exact I.fresh c z
  .rw[List.mem_singleton.mp z];exact I.hq
theorem Qze (D:Df K mg "split_at" Qkx Qcz) (T:Txt K mg CM CR CS CH):Ok P w K mg base "split_at" 1 Qcz (Qzd K):=by
 have SC:=Qzb;refine D.ok SC (fun vs H Q E h=>?_) (fun f _ A _ s H vs Q E hr h=>?_)
 .obtain ⟨a,ns,mark,rfl,_⟩:=h;rfl
 .obtain ⟨a,ns,mark,rfl,hs,hlen,k⟩:=h;refine ⟨_,(Qb (psL (i:=2) SC.nd (Za Qe)) (Qb (psL (i:=3) SC.nd (Za Qe)) (Qb (Qav PassesOwn.never rfl (Jq (pv 0)) (pgL (i:=4) SC.nd) (Qc (Qz (Qo Yc (pv 4) (pv 1) (Qq _)) (Qb (Qx (Qhn PySem.F.plainAttrs_list PySem.F.slot_list_append PySem.F.type_list_append Yv (pv 2) (Qa (pv 3) Qe))) (Qc (psL (i:=3) SC.nd (Za Qe)))) (Qc (Qx (Qhn PySem.F.plainAttrs_list PySem.F.slot_list_append PySem.F.type_list_append Yv (pv 3) (Qa (pv 4) Qe))))))) (Qb (Qx (Qhn PySem.F.plainAttrs_list PySem.F.slot_list_append PySem.F.type_list_append Yv (pv 2) (Qa (pv 3) Qe))) (Qc (Qm (pv 2))))))),?_⟩;refine ⟨Nat.zero_le _,fun p hp=>⟨Nat.zero_le _,fun q hq=>?_⟩⟩;have npq:p ≠ q:=fun z=>by rw[<-z,Qk]at hq;cases hq
  have hq':H q=none:=by rw[Ql (Ne.symm npq)]at hq;exact hq
  have s1:Jw H (upd H p (.lst [])):=fun b o e=>by rw[Ql (Qg e hp)];exact e
  have s2:Jw (upd H p (.lst [])) (upd (upd H p (.lst [])) q (.lst [])):=fun b o e=>by rw[Ql (Qg e hq)];exact e
  refine ⟨_,rfl,a,rfl,⟨_,(s1.trans s2).seq hs⟩,Jm (K:=K) (a:=a) (xs:=ns.map V.int)
   (fun i σ H'=>∃ q as done cur,∃ v:Option V,σ=[some (.ref a),some (.int mark),some (.ref p),some (.ref q),v]/\Zhl H H' a p q as done cur i/\Qag mark (ns.drop i) done cur=Zr mark ns)
   ⟨q,[],[],[],none,rfl,⟨s1.trans s2,hp,hq',by simp,by rw[Ql npq];exact Qk,Qk,⟨rfl,by simp⟩,npq,by simp,by simp,Nat.zero_le _,Nat.zero_le _⟩,rfl⟩ (fun i σ H' _ ⟨_,_,_,_,_,_,I,_⟩=>I.same.seq hs) ?_ ?_⟩
  .rintro i y σ H' hi ⟨q,as,done,cur,v,rfl,I,e⟩
   rw[List.getElem?_map]at hi;obtain ⟨c,hc,rfl⟩:=Option.map_eq_some_iff.mp hi;have hil:i < ns.length:=(List.getElem?_eq_some_iff.mp hc).1;have Qzf:ns.drop i=c::ns.drop (i+1):=by rw[List.drop_eq_getElem_cons hil,(List.getElem?_eq_some_iff.mp hc).2]
   rw[Qzf]at e;have hpl:=I.pl;have hql:=I.ql;have hz:sizeLine=16777216:=rfl;walk_at "R";refine ifB (fun h1=>?_) (fun h1=>?_)
   .have h1:c=mark:=by simpa using h1
    walk_at "R";refine ⟨.inl ⟨rfl,_,SqL.of hpl⟩,?_⟩;walk_at "R";refine ⟨p,_,_,rfl,rfl,hpl,by have:=I.l1;rw[List.length_map,hz];omega,?_⟩;obtain ⟨b1,b2,b3,b4,b5⟩:=I.push;refine ⟨Nat.zero_le _,fun q2 hq2=>?_⟩;have n2:p ≠ q2:=fun z=>by rw[<-z,Qk]at hq2;cases hq2
    have s3:Jw (upd H' p (.lst (as.map V.ref++[.ref q]))) (upd (upd H' p (.lst (as.map V.ref++[.ref q]))) q2 (.lst [])):=fun b o e=>by rw[Ql (Qg e hq2)];exact e
    refine ⟨q2,as++[q],done++[cur],[],_,rfl,⟨b1.trans s3,hp,b1.free hq2,b4,s3 _ _ b2,Qk,b3.keep fun d _ o e=>s3 d o e,n2,b5,fun m=>?_,by have:=I.l1;simp;omega,Nat.zero_le _⟩,?_⟩
    .obtain ⟨l,el⟩:=b3.mem m;rw[el]at hq2;cases hq2
    .rw[Qag,if_pos h1]at e;exact e
   .have h1:¬ c=mark:=by simpa using h1
    walk_at "R";refine ⟨.inl ⟨rfl,_,SqL.of hql⟩,?_⟩;walk_at "R";refine ⟨q,_,_,rfl,rfl,hql,by have:=I.l2;rw[List.length_map,hz];omega,?_⟩;refine ⟨q,as,done,cur++[c],_,rfl,⟨fun b o e=>by rw[Ql (Qg e I.hq)];exact I.same b o e,hp,I.hq,I.fresh,by rw[Ql I.pq];exact I.pl,by rw[Qk];simp[Qah],Zw.keep I.row fun d m o e=>by rw[Ql (fun z=>I.qa (by rw[<-z];exact m))];exact e,I.pq,I.pa,I.qa,by have:=I.l1;omega,by have:=I.l2;simp;omega⟩,?_⟩;rw[Qag,if_neg h1]at e;exact e
  .rintro σ H' ⟨q,as,done,cur,v,rfl,I,e⟩
   rw[List.length_map,List.drop_length]at e;have hpl:=I.pl;have hz:sizeLine=16777216:=rfl;have hl1:=I.l1;rw[List.length_map]at hl1;walk_at "R";refine ⟨.inl ⟨rfl,_,SqL.of hpl⟩,?_⟩;walk_at "R";refine ⟨p,_,_,rfl,rfl,hpl,by rw[List.length_map,hz];omega,?_⟩;obtain ⟨b1,b2,b3,b4,b5⟩:=I.push;walk_at "R";exact k _ p (as++[q]) b1 hp b2 (by rw[<-e];exact b3) b4 b5
def Qsq:List Int->Int->Int
 | [],n=>n
 | c::r,n=>if c < 48\/57 < c then -1 else Qsq r (n*10+c - 48)
def Qxt (w:List Int):Int:=if 4 < w.length then -1 else if 1 < w.length/\w.head? = some 48 then -1 else Qsq w 0
def Zpm (K:FG):Sp:=fun vs H Q _=>∃ a ns,vs=[.ref a]/\SqL K H a (ns.map V.int)/\Q (.int (Qxt ns)) H
theorem Qu9 (D:Df K mg "number_of" Qij Qbr) (T:Txt K mg CM CR CS CH):Ok P w K mg base "number_of" 1 Qbr (Zpm K):=by
 have SC:=Qu8;refine D.ok SC (fun vs H Q E h=>?_) (fun f _ A _ s H vs Q E hr h=>?_)
 .obtain ⟨a,ns,rfl,_⟩:=h;rfl
 .obtain ⟨a,ns,rfl,hs,k⟩:=h;refine ⟨_,(Qb (Qz (Qo Qd3 (Zk Zc rfl T.Qdp PySem.boot_len (Qa (pv 0) Qe)) (pgi T.Qjj) (Qq _)) (Qc (Qm (Qkk Qem Qj))) Qp) (Qb (Qz (PW.pt (Qho (Qo Qd3 (Zk Zc rfl T.Qdp PySem.boot_len (Qa (pv 0) Qe)) Qj (Qq _)) (Qd2 (Qo Yc (Zf Qt (pv 0) Qj (fun _ _=>rfl)) (pgi T.Qji) (Qq _))))) (Qc (Qm (Qkk Qem Qj))) Qp) (Qb (psL (i:=1) SC.nd Qj) (Qb (Qav PassesOwn.never rfl (Jq (pv 0)) (pgL (i:=2) SC.nd) (Qb (Qz (PW.pt (Qi7 (Qo Qh0 (pv 2) (pgi T.Qji) (Qq _)) (Qfr (Qo Qd3 (pv 2) (pgi T.Qug) (Qq _))))) (Qc (Qm (Qkk Qem Qj))) Qp) (Qc (psL (i:=1) SC.nd (Zq Qaw (Zq Qa1 (Zq Zqz (pv 1) Qj) (pv 2)) (pgi T.Qji)))))) (Qc (Qm (pv 1))))))),?_⟩;walk_at "R";refine ⟨a,_,rfl,.inl hs,?_⟩;walk_at "R";refine ifB (fun h1=>?_) (fun h1=>?_)
  .have h1:4 < ns.length:=by
    have:=of_decide_eq_true h1
    simp at this;omega
   walk_at "R";exact Qfz k (by unfold Qxt;rw[if_pos h1])
  .have h1:¬ 4 < ns.length:=by
    have:=of_decide_eq_false h1
    simp at this;omega
   walk_at "R";refine ⟨a,_,rfl,.inl hs,?_⟩;walk_at "R"
   have loop:¬ (1 < ns.length/\ns.head? = some 48)->Zet (Zqv (tC (.int 0)) (Qxz 1)) (Zet (Zux (Zqy K (Qdt 0)) (Qxz 2)
     (Zet (Zte (tOr (Ze3 (tOp (rI0 fun i j=>.bl (decide (i < j))) (Qdt 2) (tC (.int 48)))) (Ze3 (tOp (rI0 fun i j=>.bl (decide (j < i))) (Qdt 2) (tC (.int 57))))) (Zqh (tUn (rU fun i=>.int (-i)) (tC (.int 1)))) Zno)
      (Zqv (tOp (rI0 fun i j=>.int (i - j)) (tOp (rI0 fun i j=>.int (i+j)) (tOp (rI Zs3 fun i j=>.int (i*j)) (Qdt 1) (tC (.int 10))) (Qdt 2)) (tC (.int 48))) (Qxz 1)))) (Zqh (Qdt 1)))
     { nx:=fun _ H'=>Q .non H',rt:=Q } [some (.ref a),none,none] H:=by
    intro n2;have e0:Qxt ns=Qsq ns 0:=by unfold Qxt;rw[if_neg h1,if_neg n2]
    refine ⟨_,rfl,a,rfl,⟨_,hs⟩,Jm (K:=K) (a:=a) (xs:=ns.map V.int) (fun i σ H'=>H' = H/\∃ n:Int,∃ v:Option V,σ=[some (.ref a),some (.int n),v]/\Qsq (ns.drop i) n=Qxt ns)
     ⟨rfl,0,none,rfl,e0.symm⟩ (fun i σ H' _ ⟨e,_⟩=>by rw[e];exact hs) ?_ ?_⟩
    .rintro i y σ H' hi ⟨rfl,n,v,rfl,e⟩
     rw[List.getElem?_map]at hi;obtain ⟨c,hc,rfl⟩:=Option.map_eq_some_iff.mp hi;have hil:i < ns.length:=(List.getElem?_eq_some_iff.mp hc).1;have Qzf:ns.drop i=c::ns.drop (i+1):=by rw[List.drop_eq_getElem_cons hil,(List.getElem?_eq_some_iff.mp hc).2]
     rw[Qzf,Qsq]at e;walk_at "R";refine ifB (fun h3=>?_) (fun h3=>?_)
     .have h3:c < 48:=by simpa using h3
      refine Qfs ?_;walk_at "R";exact Qfz k (by rw[<-e,if_pos (.inl h3)])
     .have h3:¬ c < 48:=by simpa using h3
      walk_at "R";refine ifB (fun h4=>?_) (fun h4=>?_)
      .have h4:57 < c:=by simpa using h4
       walk_at "R";exact Qfz k (by rw[<-e,if_pos (.inr h4)])
      .have h4:¬ 57 < c:=by simpa using h4
       walk_at "R";refine ⟨.inr ⟨by decide,by decide⟩,?_⟩;walk_at "R";rw[<-e,if_neg (fun z=>z.elim h3 h4)]
    .rintro σ H' ⟨rfl,n,v,rfl,e⟩
     rw[List.length_map,List.drop_length]at e;walk_at "R";exact Qfz k e.symm
   refine ifB (fun h2=>?_) (fun h2=>?_)
   .have h2:1 < ns.length:=by
     have:=of_decide_eq_true h2
     simp at this;omega
    obtain ⟨c,r,rfl⟩:∃ c r,ns=c::r:=by
     cases ns with
     | nil=>simp at h2
     | cons c r=>exact ⟨c,r,rfl⟩
    walk_at "R";refine ⟨a,_,_,.int c,rfl,rfl,hs,at_of (j:=0) rfl rfl,?_⟩;walk_at "R";refine ifB (fun h3=>?_) (fun h3=>?_)
    .have h3:c=48:=by simpa using h3
     walk_at "R";exact Qfz k (by unfold Qxt;rw[if_neg h1,if_pos ⟨h2,by simp[h3]⟩])
    .have h3:¬ c=48:=by simpa using h3
     exact loop fun z=>h3 (by simpa using z.2)
   .have h2:¬ 1 < ns.length:=by
     have:=of_decide_eq_false h2
     simp at this;omega
    exact Qf7 (loop fun z=>h2 z.1)
def Qva (ns:List Int):Bool:=decide (ns.length<=1000)&&ns.all fun c=>decide (0<=c)&&decide (c<=255)
def Zm2 (K:FG):Sp:=fun vs H Q _=>∃ a ns,vs=[.ref a]/\SqL K H a (ns.map V.int)/\Q (.bl (Qva ns)) H
theorem Zc3 (D:Df K mg "is_text" Qnt Qgl) (T:Txt K mg CM CR CS CH):Ok P w K mg base "is_text" 1 Qgl (Zm2 K):=by
 have SC:=Zc2;refine D.ok SC (fun vs H Q E h=>?_) (fun f _ A _ s H vs Q E hr h=>?_)
 .obtain ⟨a,ns,rfl,_⟩:=h;rfl
 .obtain ⟨a,ns,rfl,hs,k⟩:=h;refine ⟨_,(Qb (Qz (Qo Qd3 (Zk Zc rfl T.Qdp PySem.boot_len (Qa (pv 0) Qe)) (pgi T.Qlg) (Qq _)) (Qc (Qm Yb)) Qp) (Qb (Qav PassesOwn.never rfl (Jq (pv 0)) (pgL (i:=1) SC.nd) (Qc (Qz (PW.pt (Qi7 (Qo Qh0 (pv 1) Qj (Qq _)) (Qfr (Qo Qd3 (pv 1) (pgi T.Qna) (Qq _))))) (Qc (Qm Yb)) Qp))) (Qc (Qm Yb)))),?_⟩;walk_at "R";refine ⟨a,_,rfl,.inl hs,?_⟩;walk_at "R";refine ifB (fun h1=>?_) (fun h1=>?_)
  .have h1:¬ ns.length<=1000:=by
    have:=of_decide_eq_true h1
    simp at this;omega
   exact Yz k (by unfold Qva;simp[h1])
  .have h1:ns.length<=1000:=by
    have:=of_decide_eq_false h1
    simp at this;omega
   refine ⟨_,rfl,a,rfl,⟨_,hs⟩,Jm (K:=K) (a:=a) (xs:=ns.map V.int) (fun i σ H'=>H' = H/\∃ v:Option V,σ=[some (.ref a),v]/\∀ c ∈ ns.take i,0<=c/\c<=255)
    ⟨rfl,none,rfl,by simp⟩ (fun i σ H' _ ⟨e,_⟩=>by rw[e];exact hs) ?_ ?_⟩
   .rintro i y σ H' hi ⟨rfl,v,rfl,hno⟩
    rw[List.getElem?_map]at hi;obtain ⟨c,hc,rfl⟩:=Option.map_eq_some_iff.mp hi;have hm:=List.mem_of_getElem? hc;have bad:¬ (0<=c/\c<=255)->Qva ns=false:=fun z=>by
     unfold Qva;rw[Bool.and_eq_false_iff];refine .inr (List.all_eq_false.mpr ⟨c,hm,?_⟩);simp only[Bool.and_eq_true,decide_eq_true_eq];exact z
    walk_at "R";refine ifB (fun h3=>?_) (fun h3=>?_)
    .have h3:c < 0:=by simpa using h3
     exact Qfs (Yz k (bad (by omega)))
    .have h3:¬ c < 0:=by simpa using h3
     walk_at "R";refine ifB (fun h4=>?_) (fun h4=>?_)
     .have h4:255 < c:=by simpa using h4
      exact Yz k (bad (by omega))
     .have h4:¬ 255 < c:=by simpa using h4
      refine ⟨rfl,_,rfl,fun d hd=>?_⟩;rw[List.take_succ,hc]at hd;rcases List.mem_append.mp hd with z | z
      .exact hno d z
      .simp at z;rw[z];omega
   .rintro σ H' ⟨rfl,v,rfl,hno⟩
    rw[List.length_map,List.take_length]at hno;refine Yz k ?_;unfold Qva;simp only[h1,decide_true,Bool.true_and,List.all_eq_true,Bool.and_eq_true,decide_eq_true_eq];exact hno
noncomputable abbrev Qhh:Stmt:=top 72
noncomputable abbrev Qq0:List Str:=["line","word"]
noncomputable abbrev Qeq:List Str:=["line"]
theorem Qzg:Qn Qq0 Qeq (Qi Qhh):=by walk_at "sc"
noncomputable abbrev Qhi:Stmt:=top 70
noncomputable abbrev Qq1:List Str:=["text","sign"]
noncomputable abbrev Qc0:List Str:=["text"]
theorem Qzh:Qn Qq1 Qc0 (Qi Qhi):=by walk_at "sc"
def Zwh (K:FG):List V->Hp->VK->Prop:=fun xs H Q=>∃ p ys,xs=[.ref p]/\(SqL K H p ys\/SqT K H p ys)/\Q (.int ys.length) H
theorem Zhm {X:Cx} (K:FG) (e:X.K=K:=by rfl):Qpi X (.builtin "len") (Zwh K):=by subst e;exact Zc
def Qcj (ns:List Int):List (List Int):=(Zr 32 ns).filter fun l=>decide (0 < l.length)
def Zhn (K:FG):Sp:=fun vs H Q _=>∃ a ns,vs=[.ref a]/\SqL K H a (ns.map V.int)/\ns.length < 100000 /\
 ∀ H' p as,Jw H H' -> H p=none->H' p=some (.lst (as.map V.ref))->Zw Qah H' as (Qcj ns)->(∀ c ∈ as,H c=none)->Q (.ref p) H'
theorem Qik (m:Int):∀ (l:List Int) (done:List (List Int)) (cur:List Int),(Qag m l done cur).length<=done.length+l.length+1
 | [],done,cur=>by simp[Qag]
 | c::r,done,cur=>by
  rw[Qag];split
  .have:=Qik m r (done++[cur]) []
   simp at this ⊢;omega
  .have:=Qik m r done (cur++[c])
   simp at this ⊢;omega
theorem Zc4 (m:Int) (l:List Int):(Zr m l).length<=l.length+1:=by
 have:=Qik m l [] []
 simpa [Zr] using this
theorem Qzi (D:Df K mg "words_of" Qhh Qeq) (T:Txt K mg CM CR CS CH) (Qc1:Ok P w K mg base "split_at" 1 Qcz (Qzd K)):Ok P w K mg base "words_of" 2 Qeq (Zhn K):=by
 have SC:=Qzg;refine D.ok SC (fun vs H Q E h=>?_) (fun f _ A _ s H vs Q E hr h=>?_)
 .obtain ⟨a,ns,rfl,_⟩:=h;rfl
 .obtain ⟨a,ns,rfl,hs,hlen,k⟩:=h;refine ⟨_,(Qc (Qm (Zfj rfl SC.nd (Jq (pcl Qc1 (hr.M) (Qa (pv 0) (Qa (pgi T.Zgv) Qe)))) (Qja (own:=[("word",1)]) (by show Zn8 Qq0 (Qi Qhh) _ _=true;decide +kernel)) (fun _ _ _ _ _=>(pgL (i:=1) SC.nd)) (fun _ _ _ _ _=>(Zfi (Qo Qd3 (Zk (Zhm K) rfl T.Qdp PySem.boot_len (Qa (pv 1) Qe)) Qj (Qq _)))) (fun _ _ _ _ _=>(pv 1))))),?_⟩;walk_at "R";refine ⟨a,ns,32,rfl,hs,hlen,fun H1 p as s1 hp hpl row fr npa=>?_⟩;refine ⟨p,rfl,⟨_,SqL.of hpl⟩,fun B hB=>?_⟩;have hBH:H B=none:=s1.free hB;have hz:sizeLine=16777216:=rfl;have hal:as.length < 1000000:=by have:=Zc4 32 ns;rw[row.1];omega
  refine Qx6 (K:=K) (a:=p) (xs:=as.map V.ref) (fun i H2=>∃ bs,H2=upd H1 B (.lst (bs.map V.ref))/\Zw Qah H1 bs (((Zr 32 ns).take i).filter fun l=>decide (0 < l.length))/\(∀ c ∈ bs,c ∈ as)/\bs.length<=i/\i<=as.length)
   ⟨[],rfl,⟨by simp,by simp⟩,by simp,Nat.le_refl _,Nat.zero_le _⟩ (fun i H2 _ ⟨bs,e,_⟩=>by rw[e];exact SqL.of (by rw[Ql (Qg hpl hB)];exact hpl)) ?_ ?_
  .rintro i y H2 hi ⟨bs,rfl,hb,hsub,hl,hla⟩
   rw[List.getElem?_map]at hi;obtain ⟨c,hc,rfl⟩:=Option.map_eq_some_iff.mp hi;have hil:i < as.length:=(List.getElem?_eq_some_iff.mp hc).1;have Zwi:i < (Zr 32 ns).length:=by rw[<-row.1];exact hil
   have e2:(Zr 32 ns)[i]? = some (Zr 32 ns)[i]:=List.getElem?_eq_getElem Zwi;have hcc:H1 c=some (Qah (Zr 32 ns)[i]):=row.2 i c _ hc e2;have Zw5:upd H1 B (.lst (bs.map V.ref)) c=some (.lst ((Zr 32 ns)[i].map V.int)):=by rw[Ql (Qg hcc hB)];exact hcc
   refine ⟨rfl,?_⟩;walk_at "R";refine ifB (fun h1=>?_) (fun h1=>?_)
   .have h1:0 < (Zr 32 ns)[i].length:=by
     have:=of_decide_eq_true h1
     simp at this;simpa using this
    walk_at "R";refine ⟨_,Qk,by rw[List.length_map,hz];omega,bs++[c],by rw[Zb,List.map_append];rfl,?_,?_,by simp;omega,hil⟩
    .rw[List.take_succ,e2,List.filter_append];have e3:(List.filter (fun l=>decide (0 < l.length)) (some (Zr 32 ns)[i]).toList)=[(Zr 32 ns)[i]]:=by show List.filter _ [(Zr 32 ns)[i]]=_;rw[List.filter_cons,if_pos (by simpa using h1)];rfl
     rw[e3];exact hb.snoc hcc
    .intro d hd;rcases List.mem_append.mp hd with z | z
     .exact hsub d z
     .rw[List.mem_singleton.mp z];exact List.mem_of_getElem? hc
   .have h1:¬ 0 < (Zr 32 ns)[i].length:=by
     have:=of_decide_eq_false h1
     simp at this;simp[this]
    refine ⟨bs,rfl,?_,hsub,by omega,hil⟩;rw[List.take_succ,e2,List.filter_append];have e3:(List.filter (fun l=>decide (0 < l.length)) (some (Zr 32 ns)[i]).toList)=[]:=by show List.filter _ [(Zr 32 ns)[i]]=_;rw[List.filter_cons,if_neg (by simpa using h1)];rfl
    rw[e3,List.append_nil];exact hb
  .rintro H2 ⟨bs,rfl,hb,hsub,hl,hla⟩
   rw[List.length_map,row.1,List.take_length]at hb;refine k _ B bs (fun b o e=>by rw[Ql (Qg (s1 _ _ e) hB)];exact s1 b o e) hBH Qk ?_ fun c m=>fr c (hsub c m);refine Zw.keep hb fun c m o e=>?_;rw[Ql (Qg e hB)];exact e
theorem Zru {x:Str} {g:TG} {tt:TT} {te:TE} {vs:List Nat} {σ:L2.St} {H1:Hp} {B:Addr} {Qd:Hp->Prop} (Pv:Nat->Hp->Prop) (h0:Pv 0 (upd H1 B (.lst [])))
  (hs:∀ i c H,x.cps[i]? = some c->Pv i H->g (.str ⟨#[c]⟩) (wipe σ vs) H fun σ2 H2=>wipe σ2 vs=wipe σ vs/\tt σ2 H2 fun b H3 =>
   if b=true then te σ2 H3 fun y H4=>∃ acc,H4 B=some (.lst acc)/\acc.length < sizeLine/\Pv (i+1) (upd H4 B (.lst (acc++[y]))) else Pv (i+1) H3) (hd:∀ H,Pv x.cps.size H->Qd H) :
  ∃ W:Nat->Nat->Hp->Prop,(∃ m,W 0 m (upd H1 B (.lst [])))/\∀ i m H,W i m H ->
   ((Its x).stop i H/\Qd H)\/((Its x).go i H/\∃ Nx:Hp->Prop,(∀ H',Nx H' -> ∃ m',m' < m/\W (i+1) m' H')/\∀ y H',(Its x).yld i H y H' -> g y (wipe σ vs) H' fun σ2 H2=>wipe σ2 vs=wipe σ vs/\tt σ2 H2 fun b H3 =>
    if b=true then te σ2 H3 fun y H4=>∃ acc,H4 B=some (.lst acc)/\acc.length < sizeLine/\Nx (upd H4 B (.lst (acc++[y]))) else Nx H3):=by
 refine ⟨fun i m H=>m=x.cps.size - i/\i<=x.cps.size/\Pv i H,⟨x.cps.size,by simp,Nat.zero_le _,h0⟩,?_⟩
 rintro i m H ⟨rfl,hi,p⟩
 by_cases hlt:i < x.cps.size
 .refine .inr ⟨hlt,Pv (i+1),fun H' p'=>⟨x.cps.size - (i+1),by omega,rfl,hlt,p'⟩,fun y H' q=>?_⟩;obtain ⟨e,c,hc,rfl⟩:=q;subst e;exact hs i c _ hc p
 .have e:i=x.cps.size:=by omega
  subst e;exact .inl ⟨Nat.le_refl _,hd H p⟩
def Zv (x:Str):List Int:=x.cps.toList.map fun (n:Nat)=>(n:Int)
def Qzj:Sp:=fun vs H Q _=>∃ x,vs=[.str x]/\x.cps.size < sizeLine/\∀ p,H p=none->Q (.ref p) (upd H p (Qah (Zv x)))
theorem Qzk (D:Df K mg "codes_of" Qhi Qc0) (T:Txt K mg CM CR CS CH):Ok P w K mg base "codes_of" 1 Qc0 Qzj:=by
 have SC:=Qzh;refine D.ok SC (fun vs H Q E h=>?_) (fun f _ A _ s H vs Q E hr h=>?_)
 .obtain ⟨x,rfl,_⟩:=h;rfl
 .obtain ⟨x,rfl,hlen,k⟩:=h;refine ⟨_,(Qc (Qm (Zfj rfl SC.nd (Zrf (pv 0)) (Qja (own:=[("sign",1)]) (by show Zn8 Qq1 (Qi Qhi) _ _=true;decide +kernel)) (fun _ _ _ _ _=>(pgL (i:=1) SC.nd)) (fun _ _ _ _ _=>Qx5) (fun _ _ _ _ _=>(Zk Zka rfl T.Zrn (by decide +kernel) (Qa (pv 1) Qe)))))),?_⟩;walk_at "R";refine fun B hB=>?_;refine Zru (x:=x) (fun i H2=>H2=upd H B (Qah ((Zv x).take i))/\i<=x.cps.size) ⟨by simp[Qah],Nat.zero_le _⟩ ?_ ?_
  .rintro i c H2 hc ⟨rfl,hi⟩
   have hil:i < x.cps.size:=by
    rcases Nat.lt_or_ge i x.cps.size with z | z
    .exact z
    .rw[Array.getElem?_eq_none z]at hc;cases hc
   refine ⟨rfl,?_⟩;walk_at "R";refine ⟨_,Qk,?_,?_,hil⟩
   .rw[List.length_map,List.length_take];omega
   .rw[Zb];have e2:(Zv x)[i]? = some (c:Int):=by unfold Zv;rw[List.getElem?_map,Array.getElem?_toList,hc];rfl
    rw[List.take_succ,e2];unfold Qah;rw[List.map_append];rfl
  .rintro H2 ⟨rfl,hi⟩
   have e:x.cps.size=(Zv x).length:=by simp[Zv]
   rw[e,List.take_length];exact k B hB
end
section
open PySem PySem.Spec PyProof.Rows L2
section
section
variable {prog:Program} {w:World} {A:Around} {E:EPr} {s:Shared}
theorem Qq2 {it t:Addr} {i:Nat} {vs:Array Value} {x:Value} {Q:EPr} (hit:s.heap.IsTupleIter it t i) (ht:s.heap.IsTuple t vs) (hx:vs[i]? = some x)
  (hQ:∀ h',h'.IsTupleIter it t (i+1)->Heap.SameBut it s.heap h' -> Q x { s with heap:=h' }):wpAny (model prog w) A (Builtin.SmallTypes.nextOf (.ref it)) Q E s:=by
 obtain ⟨ob,go,co,fo⟩:=id hit;obtain ⟨ot,gt,_,nt,dt⟩:=ht;unfold Builtin.SmallTypes.nextOf;refine wpAny_bind (wpAny_callSpecial?_slot (name:=Str.ofString "__next__") hit.typeIs F.slot_tuple_iterator_next (wpAny_call_entry F.slot_tuple_iterator_next hit.typeIs F.entry_tuple_iterator_next ?_ (F.args_tuple_iterator_next_1 _)));show wpAny _ _ (field (.ref it) 0 >>= _) _ _ s;refine wpAny_bind (wpAny_field go fo (x:=.ref t) rfl ?_);show wpAny _ _ (if (Value.ref t == Value.none)=true then _ else _) _ _ s;rw[if_neg (show ¬ ((Value.ref t == Value.none)=true) from Bool.false_ne_true)];show wpAny _ _ (field (.ref it) 1 >>= _) _ _ s;refine wpAny_bind (wpAny_field go fo (x:=.int i 0) rfl ?_);show wpAny _ _ (seqItems? (.ref t) >>= _) _ _ s;refine wpAny_bind (wpAny_seqItems gt dt ?_);simp only[Int.toNat_natCast,hx];refine wpAny_bind (wpAny_setField go fo (by simp) (wpAny_pure ⟨x,rfl,wpAny_pure (hQ _ ?_ (Heap.SameBut.update ..))⟩));exact ⟨_,Heap.get?_update_self _ go (Obj.isFreed_of_fields (Obj.data_mapFields fo _)),(Obj.cls_mapFields ..).trans co,by rw[Obj.data_mapFields fo];simp[rawInt]⟩
theorem Qvb {it t:Addr} {i:Nat} {vs:Array Value} {Q:EPr} (hh:A.handled=none) (hit:s.heap.IsTupleIter it t i) (ht:s.heap.IsTuple t vs) (hx:vs[i]? = none)
  (hE:∀ h' e,Heap.ExtBut it s.heap h' -> (∃ o,h'.get? e=some o/\o.cls = .type "StopIteration")->E (.ref e) { s with heap:=h' }):wpAny (model prog w) A (Builtin.SmallTypes.nextOf (.ref it)) Q E s:=by
 obtain ⟨ob,go,co,fo⟩:=id hit;obtain ⟨ot,gt,_,nt,dt⟩:=ht;unfold Builtin.SmallTypes.nextOf;refine wpAny_bind (wpAny_callSpecial?_slot (name:=Str.ofString "__next__") hit.typeIs F.slot_tuple_iterator_next (wpAny_call_entry F.slot_tuple_iterator_next hit.typeIs F.entry_tuple_iterator_next ?_ (F.args_tuple_iterator_next_1 _)));show wpAny _ _ (field (.ref it) 0 >>= _) _ _ s;refine wpAny_bind (wpAny_field go fo (x:=.ref t) rfl ?_);show wpAny _ _ (if (Value.ref t == Value.none)=true then _ else _) _ _ s;rw[if_neg (show ¬ ((Value.ref t == Value.none)=true) from Bool.false_ne_true)];show wpAny _ _ (field (.ref it) 1 >>= _) _ _ s;refine wpAny_bind (wpAny_field go fo (x:=.int i 0) rfl ?_);show wpAny _ _ (seqItems? (.ref t) >>= _) _ _ s;refine wpAny_bind (wpAny_seqItems gt dt ?_);simp only[Int.toNat_natCast,hx];refine wpAny_bind (wpAny_rule (wpAny_bind (wpAny_setField go fo (by simp) ?_)));show wpAny _ _ (newExc (.type "StopIteration") [] >>= _) _ _ _;refine wpAny_bind ?_;simp only[newExc,newTuple];refine wpAny_bind (wpAny_newObj_type ?_ (by size_fits));refine wpAny_bind (m:=firstArgMember _ _) (wpAny_of_eq (a:=Value.none) (by first | rfl | (simp only[firstArgMember];rfl)) ?_);refine wpAny_newObj_type ?_ (by size_fits);simp only[raiseNew];refine wpAny_bind (wpAny_handled ?_)
 first | rw[show A.in1.handled=none from hh] | rw[hh]
 refine wpAny_bind (wpAny_pure (wpAny_throw ?_));exact hE _ _ (((Heap.SameBut.update ..).extBut.push _).push _) ⟨_,Heap.get?_push_size _ rfl,rfl⟩
theorem Zrv (hh:A.handled=none) (it t:Addr) (hne:t ≠ it) (vs:Array Value):Draws prog w A it [it,t] vs.size (fun i v=>vs[i]? = some v) (fun i h=>h.IsTupleIter it t i/\h.IsTuple t vs) where
 live:=fun _ _ st=>let ⟨o,ho,_⟩:=st.1;⟨o,ho⟩
 frame:=fun _ _ _ ⟨⟨o,ho,r⟩,⟨o2,ho2,r2⟩⟩ hk=>⟨⟨o,hk it (by simp) o ho,r⟩,⟨o2,hk t (by simp) o2 ho2,r2⟩⟩
 item:=fun i s Q E hi st hQ=>Qq2 st.1 st.2 (x:=vs[i]) (by simp[hi]) fun h' Ztr hs'=>hQ _ h' s.toks (by simp[hi]) ⟨Ztr,st.2.extBut hs'.extBut hne⟩ hs'
 done:=fun s Q E st hE=>Qvb hh st.1 st.2 (by simp) hE
theorem Zc5 {e it:Addr} {fp:List Addr} {n i:Nat} {c:Int} {P:Nat->Value->Prop} {St:Nat->Heap->Prop} {old:Value} {Q:EPr} (D:Draws prog w A it fp n P St) (he:IsEnum s.heap e it c old) (hst:St i s.heap) (hlt:i < n) (hne:e ≠ it) (hef:e ∉ fp)
  (hQ:∀ x h' tk,P i x->IsEnumOut h' e it (c+1) x s.heap.objs.size->St (i+1) h' -> h'.get? s.heap.objs.size=some { cls:=.type "tuple",data:=.seq #[.int c tk,x] }->h'.objs.size=s.heap.objs.size+1 ->
   (∀ b o,b ≠ e->b ≠ it->s.heap.get? b=some o->h'.get? b=some o)->Q (.ref s.heap.objs.size) { s with heap:=h',toks:=tk+1 }) :
  wpAny (model prog w) A (Builtin.«enumerate.__next__» ⟨[.ref e],[]⟩) (fun fin s'=>∃ v,fin = .done (.ret v)/\Q v s') E s:=by
 obtain ⟨p0,g,d,k0,os⟩:=s;show wpAny _ _ (field (.ref e) 2 >>= _) _ _ _;refine wpAny_bind (wpAny_field he rfl (x:=.ref it) rfl ?_);refine wpAny_bind (D.item i _ _ _ hlt hst fun x p1 tk px t1 u1=>?_);replace u1:Heap.SameBut it p0 p1:=u1;have e1:IsEnum p1 e it c old:=(u1.2 e hne).trans he;show wpAny _ _ (field (.ref e) 3 >>= _) _ _ ⟨p1,g,d,tk,os⟩;refine wpAny_bind (wpAny_field e1 rfl (x:=rawInt c) rfl ?_);show wpAny _ _ (field (.ref e) 4 >>= _) _ _ ⟨p1,g,d,tk,os⟩;refine wpAny_bind (wpAny_field e1 rfl (x:=.none) rfl ?_);show wpAny _ _ (mkInt c >>= _) _ _ ⟨p1,g,d,tk,os⟩;refine wpAny_bind (wpAny_mkInt ?_);show wpAny _ _ (setField (.ref e) 3 (rawInt (c+1)) >>= _) _ _ ⟨p1,g,d,tk+1,os⟩;refine wpAny_bind (wpAny_setField_rec e1 (by simp) fun p2 e2 u2=>?_)
 replace u2:Heap.SameBut e p1 p2:=u2;replace e2:IsEnum p2 e it (c+1) old:=e2
 show wpAny _ _ (setField (.ref e) 4 .none >>= _) _ _ ⟨p2,g,d,tk+1,os⟩;refine wpAny_bind (wpAny_setField_rec e2 (by simp) fun p3 e3 u3=>?_)
 replace u3:Heap.SameBut e p2 p3:=u3;replace e3:IsEnum p3 e it (c+1) old:=e3
 show wpAny _ _ (newTuple [.int c tk,x] >>= _) _ _ ⟨p3,g,d,tk+1,os⟩;refine wpAny_bind (wpAny_newTuple ?_);have e4:IsEnum (p3.push { cls:=.type "tuple",data:=.seq #[.int c tk,x] }) e it (c+1) old:=Heap.get?_push_of_some _ e3;generalize y4:p3.push { cls:=.type "tuple",data:=.seq #[.int c tk,x] }=p4 at e4;have z3:p3.objs.size=p0.objs.size:=by rw[u3.1,u2.1,u1.1]
 have le:e < p0.objs.size:=Heap.lt_size he;have t4:p4.get? p0.objs.size=some { cls:=.type "tuple",data:=.seq #[.int c tk,x] }:=by rw[<-y4,<-z3];exact Heap.get?_push_size _ rfl
 have z4:p4.objs.size=p0.objs.size+1:=by rw[<-y4,Heap.size_push,z3]
 have k4:∀ b o,b ≠ e->b ≠ it->p0.get? b=some o->p4.get? b=some o:=fun b o n1 n2 q=>by rw[<-y4];exact Heap.get?_push_of_some _ (u3.extBut b o n1 (u2.extBut b o n1 (u1.extBut b o n2 q)))
 have i4:St (i+1) p4:=D.frame _ _ _ t1 fun b hb o q=>by
  have n1:b ≠ e:=fun z=>hef (z ▸ hb);rw[<-y4];exact Heap.get?_push_of_some _ (u3.extBut b o n1 (u2.extBut b o n1 q))
 show wpAny _ _ (Builtin.SmallTypes.ownedTupleIsFree (.ref e) >>= _) _ _ ⟨p4,g,d,tk+1,os⟩;rw[z3];clear y4 e3 u3 e2 u2 e1 u1 t1 z3 p3 p2 p1;refine wpAny_bind ?_;unfold Builtin.SmallTypes.ownedTupleIsFree;refine wpAny_bind (wpAny_field e4 rfl (x:=.none) rfl (wpAny_pure ?_));simp only[if_true];refine wpAny_bind (wpAny_rule ?_);refine wpAny_bind (wpAny_field e4 rfl (x:=old) rfl ?_);refine wpAny_bind (wpAny_setField_rec e4 (by simp) fun p5 e5 u5=>?_);replace u5:Heap.SameBut e p4 p5:=u5;replace e5:IsEnum p5 e it (c+1) x:=e5;show wpAny _ _ (Builtin.SmallTypes.ownedTupleHandOut (.ref e) (.ref p0.objs.size) >>= _) _ _ ⟨p5,g,d,tk+1,os⟩;refine wpAny_bind ?_;unfold Builtin.SmallTypes.ownedTupleHandOut;refine wpAny_bind (wpAny_setField_rec e5 (by simp) fun p6 e6 u6=>?_)
 replace u6:Heap.SameBut e p5 p6:=u6;replace e6:IsEnumOut p6 e it (c+1) x p0.objs.size:=e6
 refine wpAny_setField_rec e6 (by simp) fun p7 e7 u7=>?_;replace u7:Heap.SameBut e p6 p7:=u7;replace e7:IsEnumOut p7 e it (c+1) x p0.objs.size:=e7;have up:∀ b o,b ≠ e->p4.get? b=some o->p7.get? b=some o:=fun b o n1 q=>u7.extBut b o n1 (u6.extBut b o n1 (u5.extBut b o n1 q))
 refine wpAny_bind (wpAny_letGo (wpAny_pure ⟨_,rfl,hQ x p7 tk px e7 (D.frame _ _ _ i4 fun b hb o q=>up b o (fun z=>hef (z ▸ hb)) q) (up _ _ (Nat.ne_of_gt le) t4) ?_ fun b o n1 n2 q=>up b o n1 (k4 b o n1 n2 q)⟩));rw[u7.1,u6.1,u5.1,z4]
theorem Zc6 {e it:Addr} {fp:List Addr} {n i:Nat} {c:Int} {P:Nat->Value->Prop} {St:Nat->Heap->Prop} {old:Value} {Q:Option Value->Shared->Prop} (D:Draws prog w A.in1 it fp n P St) (he:IsEnum s.heap e it c old) (hst:St i s.heap) (hlt:i < n) (hne:e ≠ it) (hef:e ∉ fp)
  (hQ:∀ x h' tk,P i x->IsEnumOut h' e it (c+1) x s.heap.objs.size->St (i+1) h' -> h'.get? s.heap.objs.size=some { cls:=.type "tuple",data:=.seq #[.int c tk,x] }->h'.objs.size=s.heap.objs.size+1 ->
   (∀ b o,b ≠ e->b ≠ it->s.heap.get? b=some o->h'.get? b=some o)->Q (some (.ref s.heap.objs.size)) { s with heap:=h',toks:=tk+1 }):wpAny (model prog w) A (pyNext (.ref e)) Q E s:=by
 have hT:s.TypeIs (.ref e) "enumerate":=⟨_,he,rfl⟩
 unfold pyNext;exact wpAny_bind (wpAny_attempt (wpAny_callSpecial?_slot (name:=Str.ofString "__next__") hT F.slot_enumerate_next (wpAny_call_entry F.slot_enumerate_next hT F.entry_enumerate_next (Zc5 D he hst hlt hne hef fun x h' tk a b c d k q=>wpAny_pure (hQ x h' tk a b c d k q)) (F.args_enumerate_next_1 _))))
end
end
section
open AutoSeq1 (wpAny_loadPart')
def Zqk (Sq:Hp->List V->Prop) (c0:Int):It:=
 ⟨fun i H=>∃ (xs:List V) (x:V),Sq H xs/\xs[i]? = some x,fun i H v H'=>∃ B x,v = .ref B/\H B=none/\H' = upd H B (.tup [.int (c0+(i:Nat)),x])/\∀ xs,Sq H xs->xs[i]? = some x,fun i H=>∃ xs:List V,Sq H xs/\xs.length=i⟩
structure Zt2 (P:Program) (w:World) (K:FG) (Sq:Hp->List V->Prop) (it:Addr) (st:Nat->Heap->Prop):Prop where
 obj:∀ i h,st i h->∃ o,h.get? it=some o/\∀ v,o.data ≠ .cell v
 keep:∀ i h h',st i h->(∀ o,h.get? it=some o->h'.get? it=some o)->st i h'
 inj:∀ {X:Cx} {pins:List (Addr × Obj)} {σ:L2.St} {H:Hp} {s:Shared} {xs ys:List V},X.K=K->Inv X pins σ H s->Sq H xs->Sq H ys->xs=ys
 draw:∀ (X:Cx) (pins:List (Addr × Obj)) (σ:L2.St) (H:Hp) (s:Shared) (xs:List V),X.prog=P->X.w=w->X.K=K->X.A.handled=none->Inv X pins σ H s->Sq H xs->∀ i,st i s.heap ->
  ∃ (fp:List Addr) (vs:List Value) (St:Nat->Heap->Prop),Draws P w X.A.in1 it fp xs.length (fun i v=>vs[i]? = some v) St/\Vals xs vs/\St i s.heap/\(∀ j h,St j h->st j h)/\(∀ e o,s.heap.get? e=some o->o.cls = .type "enumerate" -> e ∉ fp)
theorem Qq3 {P:Program} {w:World} {K:FG} {Sq:Hp->List V->Prop} {st:Nat->Heap->Prop} {elts:List Expr} {kk:Nat} {tpos:Pos} (c0:Int) (e it:Addr) (II:Zt2 P w K Sq it st) :
  Turn P w K (.Tuple elts kk tpos) (Zqk Sq c0) [e,it] e (fun i h=>(∃ old,IsEnum h e it (c0+(i:Nat)) old)/\st i h/\e ≠ it) where
 mem:=by simp
 obj:=fun i h q b hb=>by
  obtain ⟨⟨old,he⟩,hi,_⟩:=q;have z:b=e\/b=it:=by simpa using hb
  rcases z with z | z
  .rw[z];exact ⟨_,he,fun v q=>nomatch q⟩
  .rw[z];exact II.obj i h hi
 keep:=fun i h h' q k=>let ⟨⟨old,he⟩,hi,hne⟩:=q;⟨⟨old,k e (by simp) _ he⟩,II.keep i h h' hi fun o q=>k it (by simp) o q,hne⟩
 item:=by
  intro X hP hw hK hc i pins s σ H E I hf q hg;obtain ⟨⟨old,he⟩,hit,hne⟩:=q;obtain ⟨xs,x,hq,hx⟩:=hg;obtain ⟨fp,vs,St,D,rv,hS,hSt,hfp⟩:=II.draw X pins σ H s xs hP hw hK (I.ok.hd hc) I hq i hit;subst hP hw;have hi:i < xs.length:=(List.getElem?_eq_some_iff.mp hx).1;have hel:e < s.heap.objs.size:=Heap.lt_size he;have hil:it < s.heap.objs.size:=by obtain ⟨o,z,_⟩:=II.obj i _ hit;exact Heap.lt_size z
  refine Zc6 D he hS hi hne (hfp e _ he rfl) fun u h' tk hu ho hS' hT hsz hk=>?_;obtain ⟨u',hu',ru⟩:=rv.get hx;have eu:u' = u:=Option.some.inj (hu'.symm.trans hu)
  subst eu;refine ⟨_,rfl,wpAny_letOwnedTupleGo_enum (s:={ s with heap:=h',toks:=tk+1 }) ho fun h2 he' sb=>?_⟩;have hT2:h2.get? s.heap.objs.size=some { cls:=.type "tuple",data:=.seq #[.int (c0+(i:Nat)) tk,u'] }:=(sb.2 _ (Nat.ne_of_gt hel)).trans hT;have new:Qbj X.prog X.w (upd H s.heap.objs.size (.tup [.int (c0+(i:Nat)),x])) h2 s.heap.objs.size (.tup [.int (c0+(i:Nat)),x]):=
   ⟨by show 2<=sizeLine;decide,[.int (c0+(i:Nat)) tk,u'],.cons ⟨_,rfl⟩ (.cons ru .nil),⟨_,hT2,rfl,_,rfl⟩⟩
  have I1:Inv X pins σ (upd H s.heap.objs.size (.tup [.int (c0+(i:Nat)),x])) { s with heap:=h2,toks:=tk+1 }:=
   I.Qm4 (ch:=[e,it]) (fun b ob hb z=>(sb.2 b (fun y=>hb (by simp[y]))).trans (hk b ob (fun y=>hb (by simp[y])) (fun y=>hb (by simp[y])) z)) hf (Nat.le_refl _) new
  refine ⟨.ref s.heap.objs.size,_,I1,rfl,⟨_,x,rfl,I.hok.fresh (Nat.le_refl _),rfl,fun ys hy=>by rw[II.inj hK I hy hq];exact hx⟩,⟨⟨u',?_⟩,II.keep _ _ _ (hSt _ _ hS') (fun o z=>(sb.2 it (Ne.symm hne)).trans z),hne⟩,fun b hb=>?_⟩
  .have e1:c0+((i+1:Nat):Int)=c0+(i:Nat)+1:=by omega
   rw[e1];exact he'
  .have hb':b < s.heap.objs.size:=by
    have z:b=e\/b=it:=by simpa using hb
    rcases z with z | z
    .rw[z];exact hel
    .rw[z];exact hil
   rw[Ql (Nat.ne_of_lt hb')];exact (hf b hb).1
 done:=by intro X hP hw hK hc i pins s σ H E I hf q hg;obtain ⟨⟨old,he⟩,hit,hne⟩:=q;obtain ⟨xs,hq,hx⟩:=hg;obtain ⟨fp,vs,St,D,rv,hS,hSt,hfp⟩:=II.draw X pins σ H s xs hP hw hK (I.ok.hd hc) I hq i hit;subst hP hw hx;obtain ⟨f0,f1,f2,f3,f4,f5⟩:=hf it (by simp);exact wpAny_pyNext_enum_endD D he hS fun h' eb=>⟨rfl,I.turned (t':=s.toks) (fun b o hb q=>eb b o hb q) f0 f1 f3 f4 f5⟩
 self:=fun A i s Q E q h=>let ⟨⟨_,he⟩,_⟩:=q;wpAny_pyIter_enum he h
theorem inT {P:Program} {w:World} {K:FG} (a it:Addr):Zt2 P w K (fun H xs=>SqT K H a xs) it (fun i h=>h.IsTupleIter it a i) where
 obj:=fun i h ⟨o,ho,_,hd⟩=>⟨o,ho,fun v z=>by rw[hd]at z;cases z⟩
 keep:=fun i h h' ⟨o,ho,r⟩ k=>⟨o,k o ho,r⟩
 inj:=fun hK I h1 h2=>I.Qt1 (by rw[hK];exact h1) (by rw[hK];exact h2)
 draw:=by
  intro X pins σ H s xs hP hw hK hh I hq i hit;subst hP hw hK;obtain ⟨its,rv,p,hz⟩:=I.tuple hq;have p:s.heap.IsTuple a its.toArray:=p;have hne:a ≠ it:=fun z=>by
   obtain ⟨o,ho,hc,_⟩:=hit;obtain ⟨o2,ho2,hc2,_⟩:=p;rw[z,ho]at ho2;cases ho2;rw[hc]at hc2;simp at hc2
  have D:=Zrv (prog:=X.prog) (w:=X.w) (A:=X.A.in1) hh it a hne its.toArray;have el:its.toArray.size=xs.length:=by rw[List.size_toArray,rv.length]
  rw[el]at D;refine ⟨[it,a],its,fun i h=>h.IsTupleIter it a i/\h.IsTuple a its.toArray,?_,rv,⟨hit,p⟩,fun j h q=>q.1,fun e o he hc z=>?_⟩
  .have eP:(fun (i:Nat) (v:Value)=>its.toArray[i]? = some v)=fun i v=>its[i]? = some v:=by funext i v;simp
   rw[eP]at D;exact D
  .have z:e=it\/e=a:=by simpa using z
   rcases z with z | z
   .obtain ⟨o1,h1,c1,_⟩:=hit;rw[z,h1]at he;cases he;rw[c1]at hc;simp at hc
   .obtain ⟨o1,h1,c1,_⟩:=p;rw[z,h1]at he;cases he;rw[c1]at hc;simp at hc
theorem inL {P:Program} {w:World} {K:FG} (a it:Addr):Zt2 P w K (fun H xs=>SqL K H a xs) it (fun i h=>h.IsListIter it a i) where
 obj:=fun i h ⟨o,ho,_,hd⟩=>⟨o,ho,fun v z=>by rw[hd]at z;cases z⟩
 keep:=fun i h h' q k=>q.at k
 inj:=fun hK I h1 h2=>I.Qmm (by rw[hK];exact h1) (by rw[hK];exact h2)
 draw:=by
  intro X pins σ H s xs hP hw hK hh I hq i hit;subst hP hw hK;obtain ⟨its,rv,p,hz⟩:=I.list hq;have p:=p.isList;have hne:a ≠ it:=fun z=>by
   obtain ⟨o,ho,hc,_⟩:=hit;obtain ⟨o2,ho2,hc2,_⟩:=p;rw[z,ho]at ho2;cases ho2;rw[hc]at hc2;simp at hc2
  have D:=Draws.list (prog:=X.prog) (w:=X.w) (A:=X.A.in1) hh it a hne its.toArray;have el:its.toArray.size=xs.length:=by rw[List.size_toArray,rv.length]
  rw[el]at D;refine ⟨[it,a],its,fun i h=>h.IsListIter it a i/\h.IsList a its.toArray,?_,rv,⟨hit,p⟩,fun j h q=>q.1,fun e o he hc z=>?_⟩
  .have eP:(fun (i:Nat) (v:Value)=>its.toArray[i]? = some v)=fun i v=>its[i]? = some v:=by funext i v;simp
   rw[eP]at D;exact D
  .have z:e=it\/e=a:=by simpa using z
   rcases z with z | z
   .obtain ⟨o1,h1,c1,_⟩:=hit;rw[z,h1]at he;cases he;rw[c1]at hc;simp at hc
   .obtain ⟨o1,h1,c1,_⟩:=p;rw[z,h1]at he;cases he;rw[c1]at hc;simp at hc
theorem Qzl (t:Addr) (vs:Array Value) (n:Nat) (dct:Option Addr) (sl:Array (Option Value)) :
  Meets (Builtin.«enumerate.__new__» ⟨[.type "enumerate",.ref t],[]⟩) (fun _ R s=>s.heap.get? t=some { cls:=.type "tuple",dict:=dct,data:=.seq vs n,slots:=sl } /\
   R (.ok (.ret (.ref (s.heap.push { cls:=.type "tuple_iterator",data:=.fields #[.ref t,.int 0 0] }).objs.size)))
    { s with heap:=(s.heap.push { cls:=.type "tuple_iterator",data:=.fields #[.ref t,.int 0 0] }).push { cls:=.type "enumerate",data:=.fields #[.none,.bool false,.ref s.heap.objs.size,rawInt 0,.none,.none] } }):=
 .of_wp fun prog w A R s h=>by
  obtain ⟨hp,g,d,tk,os⟩:=s;obtain ⟨hl,h⟩:=h;have hsub:=sub_enumerate;have hL:Heap.IsTuple (Shared.heap ⟨hp,g,d,tk,os⟩) t vs:=⟨_,hl,rfl,n,rfl⟩
  wp_walk using wpAny_loadPart' hl
  refine wpAny_stack_any fun st=>wpAny_pure ?_;split
  .rename_i c _ _ _ _ _;cases (c == Value.type "enumerate")
   .wp_walk using wpAny_loadPart' hl,wpAny_pyIter_tuple hL;exact ⟨_,rfl,h⟩
   .wp_walk using wpAny_loadPart' hl,wpAny_pyIter_tuple hL;exact ⟨_,rfl,h⟩
  .wp_walk using wpAny_loadPart' hl,wpAny_pyIter_tuple hL;exact ⟨_,rfl,h⟩
theorem Zc7 {prog:Program} {w:World} {A:Around} {E:EPr} {s:Shared} {t:Addr} {vs:Array Value} {Q:EPr} (hL:s.heap.IsTuple t vs)
  (h:∀ h',IsEnum h' (s.heap.objs.size+1) s.heap.objs.size 0 .none->h'.IsTupleIter s.heap.objs.size t 0->(∀ b o,s.heap.get? b=some o->h'.get? b=some o)->Q (.ref (s.heap.objs.size+1)) { s with heap:=h' }) :
  wpAny (model prog w) A (call (.type "enumerate") [.ref t]) Q E s:=by
 obtain ⟨⟨c,dct,dt,sl⟩,hl,hc,n,hd⟩:=hL
 replace hc:c = .type "tuple":=hc;replace hd:dt = .seq vs n:=hd;subst hc hd
 refine callType_new F.called_enumerate (by decide) (F.typeCall_enumerate_1 _) (F.newCall_enumerate_1 _) (fun obj=>F.args_object_init_2 obj _) F.entry_enumerate_new (Qzl t vs n dct sl) ⟨hl,?_⟩;have hz:(s.heap.push { cls:=.type "tuple_iterator",data:=.fields #[.ref t,.int 0 0] }).objs.size=s.heap.objs.size+1:=Heap.size_push ..;show _/\_;rw[hz];have he:IsEnum ((s.heap.push { cls:=.type "tuple_iterator",data:=.fields #[.ref t,.int 0 0] }).push { cls:=.type "enumerate",data:=.fields #[.none,.bool false,.ref s.heap.objs.size,rawInt 0,.none,.none] }) (s.heap.objs.size+1) s.heap.objs.size 0 .none:=by have q:=Heap.get?_push_size (s.heap.push { cls:=.type "tuple_iterator",data:=.fields #[.ref t,.int 0 0] }) (o:={ cls:=.type "enumerate",data:=.fields #[.none,.bool false,.ref s.heap.objs.size,rawInt 0,.none,.none] }) rfl;rw[hz]at q;exact q
 exact ⟨⟨_,he,rfl⟩,h _ he ⟨_,Heap.get?_push_of_some _ (Heap.get?_push_size _ rfl),rfl,rfl⟩ fun b o x=>Heap.get?_push_of_some _ (Heap.get?_push_of_some _ x)⟩
def Zrw (K:FG) (ta:TA):TI:=fun σ H R=>ta σ H fun vs H1=>∃ a xs,vs=[.ref a]/\SqT K H1 a xs/\R (Zqk (fun H xs=>SqT K H a xs) 0) H1
theorem Zlk {X:Cx} {e:Expr} {ta:TA} {p pos tpos:Pos} {elts:List Expr} {kk:Nat} (hg:Gl X "enumerate") (hm:X.mg "enumerate" = none) (ha:PA X [e] ta) (hs:starEach [e] X.env=[(false,eval e X.env)]:=by rfl) :
  PI X (.Tuple elts kk tpos) (.Call (.Name "enumerate" p) [e] [] pos) (Zrw X.K ta):=by
 intro pins s σ H R I h;refine Call_ (Qmu I hg hm boot_enumerate (PyProof.Rows.callWith_type1 (thn (ha pos pins s σ H _ I h) fun us s1 ⟨vs,H1,I1,r1,q1⟩=>?_) hs rfl));obtain ⟨a,xs,ex,hq,q⟩:=q1;subst ex;cases r1 with
 | cons r rr =>
  cases rr;cases r;obtain ⟨its,rv,p',hz⟩:=I1.tuple hq;refine Zc7 (show s1.heap.IsTuple a its.toArray from p') fun h' he hit hk=>wpAny_pyIter_enum he ?_;have I2:Inv X pins σ H1 { s1 with heap:=h' }:=I1.kept (t':=s1.toks) hk
  refine ⟨s1.heap.objs.size+1,[s1.heap.objs.size+1,s1.heap.objs.size],_,_,H1,rfl,I2,Qq3 0 (s1.heap.objs.size+1) s1.heap.objs.size (inT a s1.heap.objs.size),⟨⟨.none,he⟩,hit,Nat.succ_ne_self _⟩,fun b hb=>?_,q⟩;have z:b=s1.heap.objs.size+1\/b=s1.heap.objs.size:=by simpa using hb
  have hle:s1.heap.objs.size<=b:=by
   rcases z with z | z
   .rw[z];exact Nat.le_add_right _ _
   .rw[z];exact Nat.le_refl _
  exact I1.Zmn hle (I1.hok.fresh hle)
end
section
section
variable {prog:Program} {w:World} {A:Around} {E:EPr} {s:Shared}
theorem Zho {z TI TO i1 i2 l1 l2:Addr} {k1 k2:Nat} {xs ys:Array Value} {x y a b:Value} {Q:EPr} (D:ZipApart z TI TO i1 i2 l1 l2)
  (yz:IsZip s.heap z TI TO .none) (yI:IsPair s.heap TI (.ref i1) (.ref i2)) (yO:IsPair s.heap TO a b) (a1:s.heap.IsListIter i1 l1 k1) (a2:s.heap.IsTupleIter i2 l2 k2) (b1:s.heap.IsList l1 xs) (b2:s.heap.IsTuple l2 ys) (gx:xs[k1]? = some x) (gy:ys[k2]? = some y)
  (hQ:∀ h',IsZip h' z TI TO (rawInt s.heap.objs.size)->IsPair h' TO x y->h'.IsListIter i1 l1 (k1+1)->h'.IsTupleIter i2 l2 (k2+1)->IsPair h' s.heap.objs.size x y->h'.objs.size=s.heap.objs.size+1 ->
   (∀ c o,c ≠ z->c ≠ TO->c ≠ i1->c ≠ i2->s.heap.get? c=some o->h'.get? c=some o)->Q (.ref s.heap.objs.size) { s with heap:=h' }) :
  wpAny (model prog w) A (Builtin.«zip.__next__» ⟨[.ref z],[]⟩) (fun fin s'=>∃ v,fin = .done (.ret v)/\Q v s') E s:=by
 show wpAny _ _ (field (.ref z) 2 >>= _) _ _ _;refine wpAny_bind (wpAny_field yz rfl (x:=.bool false) rfl ?_);show wpAny _ _ (field (.ref z) 3 >>= _) _ _ _;refine wpAny_bind (wpAny_field yz rfl (x:=.ref TI) rfl ?_);refine wpAny_bind (wpAny_seqItems yI rfl ?_);show wpAny _ _ (Builtin.SmallTypes.ownedTupleIsFree (.ref z) >>= _) _ _ _;refine wpAny_bind ?_;unfold Builtin.SmallTypes.ownedTupleIsFree;refine wpAny_bind (wpAny_field yz rfl (x:=.none) rfl (wpAny_pure ?_));simp only[if_true];refine wpAny_bind (wpAny_rule ?_);refine wpAny_bind (wpAny_field yz rfl (x:=.ref TO) rfl ?_);refine wpAny_bind (wpAny_setField_rec yz (by simp) fun p1 c1 u1=>?_);replace c1:IsZip p1 z TI TO .ellipsis:=c1;refine wpAny_bind ?_;simp only[List.zipIdx_cons,List.zipIdx_nil,List.forIn_cons,List.forIn_nil];refine wpAny_bind (wpAny_bind (wpAny_onRaise ?_));show wpAny _ _ (Builtin.SmallTypes.nextOf (.ref i1) >>= _) _ _ _;refine wpAny_bind (wpAny_nextOf_list_item (a1.extBut u1.extBut D.i1z) (b1.extBut u1.extBut D.l1z) gx fun p2 d2 u2=>wpAny_pure ?_);have o2:IsPair p2 TO a b:=u2.extBut _ _ D.TOi1 (u1.extBut _ _ D.TOz yO);refine wpAny_bind (wpAny_seqItems o2 rfl ?_);refine wpAny_bind (wpAny_updateSeq_pair o2 fun p3 o3 u3=>?_)
 replace o3:IsPair p3 TO x b:=o3;refine wpAny_bind (wpAny_letGo (wpAny_pure ?_))
 refine wpAny_bind (wpAny_bind (wpAny_onRaise ?_));show wpAny _ _ (Builtin.SmallTypes.nextOf (.ref i2) >>= _) _ _ _;refine wpAny_bind (Qq2 (((a2.extBut u1.extBut D.i2z).extBut u2.extBut D.i12.symm).extBut u3.extBut D.TOi2.symm) (((b2.extBut u1.extBut D.l2z).extBut u2.extBut D.l2i1).extBut u3.extBut D.l2TO) gy fun p4 d4 u4=>wpAny_pure ?_);have o4:IsPair p4 TO x b:=u4.extBut _ _ D.TOi2 o3;refine wpAny_bind (wpAny_seqItems o4 rfl ?_);refine wpAny_bind (wpAny_updateSeq_pair o4 fun p5 o5 u5=>?_)
 replace o5:IsPair p5 TO x y:=o5;refine wpAny_bind (wpAny_letGo (wpAny_pure (wpAny_pure ?_)))
 refine wpAny_bind (wpAny_seqItems o5 rfl ?_);refine wpAny_bind (wpAny_newTuple ?_);have ns:p5.objs.size=s.heap.objs.size:=by rw[u5.1,u4.1,u3.1,u2.1,u1.1]
 have c5:IsZip p5 z TI TO .ellipsis:=u5.extBut _ _ D.TOz.symm (u4.extBut _ _ D.i2z.symm (u3.extBut _ _ D.TOz.symm (u2.extBut _ _ D.i1z.symm c1)));have k5:∀ c o,c ≠ z->c ≠ TO->c ≠ i1->c ≠ i2->s.heap.get? c=some o->p5.get? c=some o:=fun c o n1 n2 n3 n4 e=>u5.extBut _ _ n2 (u4.extBut _ _ n4 (u3.extBut _ _ n2 (u2.extBut _ _ n3 (u1.extBut _ _ n1 e))));have d5:p5.IsListIter i1 l1 (k1+1):=((d2.extBut u3.extBut D.TOi1.symm).extBut u4.extBut D.i12).extBut u5.extBut D.TOi1.symm
 have f5:p5.IsTupleIter i2 l2 (k2+1):=d4.extBut u5.extBut D.TOi2.symm;have lz:z < p5.objs.size:=Heap.lt_size c5;show wpAny _ _ (Builtin.SmallTypes.ownedTupleHandOut (.ref z) (.ref p5.objs.size) >>= _) _ _ _;refine wpAny_bind ?_;unfold Builtin.SmallTypes.ownedTupleHandOut;have c6:IsZip (p5.push { cls:=.type "tuple",data:=.seq #[x,y] }) z TI TO .ellipsis:=Heap.get?_push_of_some _ c5;refine wpAny_bind (wpAny_setField_rec c6 (by simp) fun p7 c7 u7=>?_);replace c7:IsZip p7 z TI TO (rawInt p5.objs.size):=c7;refine wpAny_setField_rec c7 (by simp) fun p8 c8 u8=>?_;replace c8:IsZip p8 z TI TO (rawInt p5.objs.size):=c8;have up:∀ c o,c ≠ z->p5.get? c=some o->p8.get? c=some o:=fun c o n1 e=>u8.extBut _ _ n1 (u7.extBut _ _ n1 (Heap.get?_push_of_some _ e))
 have t8:IsPair p8 p5.objs.size x y:=u8.extBut _ _ (Nat.ne_of_gt lz) (u7.extBut _ _ (Nat.ne_of_gt lz) (Heap.get?_push_size _ rfl));have z8:p8.objs.size=p5.objs.size+1:=by rw[u8.1,u7.1,Heap.size_push]
 rw[ns]at c8 t8 z8;refine wpAny_pure ⟨_,rfl,?_⟩;show Q (.ref p5.objs.size) _;rw[ns];have f8:p8.IsTupleIter i2 l2 (k2+1):=let ⟨o,e,r⟩:=f5;⟨o,up _ o D.i2z e,r⟩
 exact hQ p8 c8 (up _ _ D.TOz o5) (d5.at fun o e=>up _ o D.i1z e) f8 t8 z8 fun c o n1 n2 n3 n4 e=>up c o n1 (k5 c o n1 n2 n3 n4 e)
theorem Zhp {z TI TO i1 i2 l1 l2:Addr} {k1 k2:Nat} {xs ys:Array Value} {a b:Value} {Q:Fin->Shared->Prop} (hh:A.handled=none) (D:ZipApart z TI TO i1 i2 l1 l2)
  (yz:IsZip s.heap z TI TO .none) (yI:IsPair s.heap TI (.ref i1) (.ref i2)) (yO:IsPair s.heap TO a b) (a1:s.heap.IsListIter i1 l1 k1) (a2:s.heap.IsTupleIter i2 l2 k2) (b1:s.heap.IsList l1 xs) (b2:s.heap.IsTuple l2 ys) (Zt3:xs[k1]? = none\/ys[k2]? = none)
  (hE:∀ h' e,(∀ c o,c ≠ z->c ≠ TO->c ≠ i1->c ≠ i2->s.heap.get? c=some o->h'.get? c=some o)->(∃ o,h'.get? e=some o/\o.cls = .type "StopIteration")->E (.ref e) { s with heap:=h' }) :
  wpAny (model prog w) A (Builtin.«zip.__next__» ⟨[.ref z],[]⟩) Q E s:=by
 show wpAny _ _ (field (.ref z) 2 >>= _) _ _ _;refine wpAny_bind (wpAny_field yz rfl (x:=.bool false) rfl ?_);show wpAny _ _ (field (.ref z) 3 >>= _) _ _ _;refine wpAny_bind (wpAny_field yz rfl (x:=.ref TI) rfl ?_);refine wpAny_bind (wpAny_seqItems yI rfl ?_);show wpAny _ _ (Builtin.SmallTypes.ownedTupleIsFree (.ref z) >>= _) _ _ _;refine wpAny_bind ?_;unfold Builtin.SmallTypes.ownedTupleIsFree;refine wpAny_bind (wpAny_field yz rfl (x:=.none) rfl (wpAny_pure ?_));simp only[if_true];refine wpAny_bind (wpAny_rule ?_);refine wpAny_bind (wpAny_field yz rfl (x:=.ref TO) rfl ?_);refine wpAny_bind (wpAny_setField_rec yz (by simp) fun p1 c1 u1=>?_);replace c1:IsZip p1 z TI TO .ellipsis:=c1;refine wpAny_bind ?_;simp only[List.zipIdx_cons,List.zipIdx_nil,List.forIn_cons,List.forIn_nil];refine wpAny_bind (wpAny_bind (wpAny_onRaise ?_));show wpAny _ _ (Builtin.SmallTypes.nextOf (.ref i1) >>= _) _ _ _;cases gx:xs[k1]? with
 | none =>
  refine wpAny_bind (wpAny_nextOf_list_end hh (a1.extBut u1.extBut D.i1z) (b1.extBut u1.extBut D.l1z) gx fun p2 e u2 he=>?_);obtain ⟨oe,ge,ce⟩:=he;have c2:IsZip p2 z TI TO .ellipsis:=u2 _ _ D.i1z.symm c1;have ez:e ≠ z:=fun q=>by subst q;rw[c2]at ge;cases ge;simp at ce
  exact wpAny_setField_rec c2 (by simp) fun p3 _ u3=>hE p3 e (fun c o n1 _ n3 _ q=>u3.extBut _ _ n1 (u2 _ _ n3 (u1.extBut _ _ n1 q))) ⟨oe,u3.extBut _ _ ez ge,ce⟩
 | some x =>
  have gy:ys[k2]? = none:=Zt3.elim (fun h=>by rw[gx]at h;cases h) id;refine wpAny_bind (wpAny_nextOf_list_item (a1.extBut u1.extBut D.i1z) (b1.extBut u1.extBut D.l1z) gx fun p2 d2 u2=>wpAny_pure ?_);have o2:IsPair p2 TO a b:=u2.extBut _ _ D.TOi1 (u1.extBut _ _ D.TOz yO);refine wpAny_bind (wpAny_seqItems o2 rfl ?_);refine wpAny_bind (wpAny_updateSeq_pair o2 fun p3 o3 u3=>?_);refine wpAny_bind (wpAny_letGo (wpAny_pure ?_));refine wpAny_bind (wpAny_bind (wpAny_onRaise ?_));show wpAny _ _ (Builtin.SmallTypes.nextOf (.ref i2) >>= _) _ _ _;refine wpAny_bind (Qvb hh (((a2.extBut u1.extBut D.i2z).extBut u2.extBut D.i12.symm).extBut u3.extBut D.TOi2.symm) (((b2.extBut u1.extBut D.l2z).extBut u2.extBut D.l2i1).extBut u3.extBut D.l2TO) gy fun p4 e u4 he=>?_);obtain ⟨oe,ge,ce⟩:=he;have c4:IsZip p4 z TI TO .ellipsis:=u4 _ _ D.i2z.symm (u3.extBut _ _ D.TOz.symm (u2.extBut _ _ D.i1z.symm c1));have ez:e ≠ z:=fun q=>by subst q;rw[c4]at ge;cases ge;simp at ce
  exact wpAny_setField_rec c4 (by simp) fun p5 _ u5=>hE p5 e (fun c o n1 n2 n3 n4 q=>u5.extBut _ _ n1 (u4 _ _ n4 (u3.extBut _ _ n2 (u2.extBut _ _ n3 (u1.extBut _ _ n1 q))))) ⟨oe,u5.extBut _ _ ez ge,ce⟩
theorem Zhq {z TI TO i1 i2 l1 l2:Addr} {k1 k2:Nat} {xs ys:Array Value} {x y a b:Value} {Q:Option Value->Shared->Prop} (D:ZipApart z TI TO i1 i2 l1 l2)
  (yz:IsZip s.heap z TI TO .none) (yI:IsPair s.heap TI (.ref i1) (.ref i2)) (yO:IsPair s.heap TO a b) (a1:s.heap.IsListIter i1 l1 k1) (a2:s.heap.IsTupleIter i2 l2 k2) (b1:s.heap.IsList l1 xs) (b2:s.heap.IsTuple l2 ys) (gx:xs[k1]? = some x) (gy:ys[k2]? = some y)
  (hQ:∀ h',IsZip h' z TI TO (rawInt s.heap.objs.size)->IsPair h' TO x y->h'.IsListIter i1 l1 (k1+1)->h'.IsTupleIter i2 l2 (k2+1)->IsPair h' s.heap.objs.size x y->h'.objs.size=s.heap.objs.size+1 ->
   (∀ c o,c ≠ z->c ≠ TO->c ≠ i1->c ≠ i2->s.heap.get? c=some o->h'.get? c=some o)->Q (some (.ref s.heap.objs.size)) { s with heap:=h' }):wpAny (model prog w) A (pyNext (.ref z)) Q E s:=by
 have hT:s.TypeIs (.ref z) "zip":=⟨_,yz,rfl⟩
 unfold pyNext;exact wpAny_bind (wpAny_attempt (wpAny_callSpecial?_slot (name:=Str.ofString "__next__") hT F.slot_zip_next (wpAny_call_entry F.slot_zip_next hT F.entry_zip_next (Zho D yz yI yO a1 a2 b1 b2 gx gy fun h' q1 q2 q3 q4 q5 q6 q7=>wpAny_pure (hQ h' q1 q2 q3 q4 q5 q6 q7)) (F.args_zip_next_1 _))))
theorem Zll {z TI TO i1 i2 l1 l2:Addr} {k1 k2:Nat} {xs ys:Array Value} {a b:Value} {Q:Option Value->Shared->Prop} (hh:A.handled=none) (D:ZipApart z TI TO i1 i2 l1 l2)
  (yz:IsZip s.heap z TI TO .none) (yI:IsPair s.heap TI (.ref i1) (.ref i2)) (yO:IsPair s.heap TO a b) (a1:s.heap.IsListIter i1 l1 k1) (a2:s.heap.IsTupleIter i2 l2 k2) (b1:s.heap.IsList l1 xs) (b2:s.heap.IsTuple l2 ys) (Zt3:xs[k1]? = none\/ys[k2]? = none)
  (hQ:∀ h',(∀ c o,c ≠ z->c ≠ TO->c ≠ i1->c ≠ i2->s.heap.get? c=some o->h'.get? c=some o)->Q none { s with heap:=h' }):wpAny (model prog w) A (pyNext (.ref z)) Q E s:=by
 have hT:s.TypeIs (.ref z) "zip":=⟨_,yz,rfl⟩
 unfold pyNext;refine wpAny_bind (wpAny_attempt (wpAny_callSpecial?_slot (name:=Str.ofString "__next__") hT F.slot_zip_next (wpAny_call_entry F.slot_zip_next hT F.entry_zip_next (Zhp hh D yz yI yO a1 a2 b1 b2 Zt3 fun h' e hk he=>?_) (F.args_zip_next_1 _))));obtain ⟨o,ho,hc⟩:=he;refine wpAny_bind (wpAny_isInstance (T := "StopIteration") (b:=true) ⟨o,ho,hc⟩ isSubtype_stop ?_);exact wpAny_pure (hQ _ hk)
end
end
def Zm3 (K:FG) (a b:Addr):It:=
 ⟨fun i H=>∃ (xs ys:List V) (x y:V),SqL K H a xs/\SqT K H b ys/\xs[i]? = some x/\ys[i]? = some y,
  fun i H v H'=>∃ B x y,v = .ref B/\H B=none/\H' = upd H B (.tup [x,y])/\(∀ xs,SqL K H a xs->xs[i]? = some x)/\∀ ys,SqT K H b ys->ys[i]? = some y,
  fun i H=>∃ xs ys:List V,SqL K H a xs/\SqT K H b ys/\(xs.length<=i\/ys.length<=i)⟩
theorem Zhr {P:Program} {w:World} {K:FG} {elts:List Expr} {kk:Nat} {tpos:Pos} {a b z TI TO i1 i2:Addr} (D:ZipApart z TI TO i1 i2 a b) :
  Turn P w K (.Tuple elts kk tpos) (Zm3 K a b) [z,TI,TO,i1,i2] z (fun i h=>IsZip h z TI TO .none/\IsPair h TI (.ref i1) (.ref i2)/\(∃ x y,IsPair h TO x y)/\h.IsListIter i1 a i/\h.IsTupleIter i2 b i) where
 mem:=by simp
 obj:=fun i h st c hc=>by
  obtain ⟨hz,hTI,⟨x,y,hTO⟩,⟨o1,e1,_,d1⟩,⟨o2,e2,_,d2⟩⟩:=st;have e':c=z\/c=TI\/c=TO\/c=i1\/c=i2:=by simpa using hc
  rcases e' with q | q | q | q | q
  .rw[q];exact ⟨_,hz,fun v q=>nomatch q⟩
  .rw[q];exact ⟨_,hTI,fun v q=>nomatch q⟩
  .rw[q];exact ⟨_,hTO,fun v q=>nomatch q⟩
  .rw[q];exact ⟨o1,e1,fun v q=>by rw[d1]at q;cases q⟩
  .rw[q];exact ⟨o2,e2,fun v q=>by rw[d2]at q;cases q⟩
 keep:=fun i h h' st k=>by
  obtain ⟨hz,hTI,⟨x,y,hTO⟩,h1,⟨o2,e2,r2⟩⟩:=st;exact ⟨k z (by simp) _ hz,k TI (by simp) _ hTI,⟨x,y,k TO (by simp) _ hTO⟩,h1.at fun o q=>k i1 (by simp) o q,⟨o2,k i2 (by simp) o2 e2,r2⟩⟩
 item:=by
  intro X hP hw hK hc i pins s σ H E I hf st hg;subst hP hw hK;obtain ⟨hz,hTI,⟨x0,y0,hTO⟩,h1,h2⟩:=st;obtain ⟨xs,ys,x,y,hqx,hqy,hx,hy⟩:=hg;obtain ⟨its,rv,p,_⟩:=I.list hqx;obtain ⟨its2,rv2,p2,_⟩:=I.tuple hqy;have p2:s.heap.IsTuple b its2.toArray:=p2;obtain ⟨u,hu,ru⟩:=rv.get hx;obtain ⟨u2,hu2,ru2⟩:=rv2.get hy;have hzl:z < s.heap.objs.size:=Heap.lt_size hz;refine Zhq D hz hTI hTO h1 h2 p.isList p2 (x:=u) (y:=u2) (by simpa using hu) (by simpa using hu2) fun h' z' TO' h1' h2' hT hsz hk=>?_;refine ⟨_,rfl,wpAny_letOwnedTupleGo_zip (s:={ s with heap:=h' }) z' fun h'' z'' sb=>?_⟩;have hT2:h''.get? s.heap.objs.size=some { cls:=.type "tuple",data:=.seq #[u,u2] }:=(sb.2 _ (Nat.ne_of_gt hzl)).trans hT
  have new:Qbj X.prog X.w (upd H s.heap.objs.size (.tup [x,y])) h'' s.heap.objs.size (.tup [x,y]):=
   ⟨by show 2<=sizeLine;decide,[u,u2],.cons ru (.cons ru2 .nil),⟨_,hT2,rfl,_,rfl⟩⟩
  have I1:Inv X pins σ (upd H s.heap.objs.size (.tup [x,y])) { s with heap:=h'' }:=
   I.Qm4 (t':=s.toks) (ch:=[z,TI,TO,i1,i2]) (fun c o hb q=>(sb.2 c (fun q'=>hb (by simp[q']))).trans (hk c o (fun q'=>hb (by simp[q'])) (fun q'=>hb (by simp[q'])) (fun q'=>hb (by simp[q'])) (fun q'=>hb (by simp[q'])) q)) hf (Nat.le_refl _) new
  refine ⟨.ref s.heap.objs.size,_,I1,rfl,⟨_,x,y,rfl,I.hok.fresh (Nat.le_refl _),rfl,fun l hl=>by rw[I.Qmm hl hqx];exact hx,fun l hl=>by rw[I.Qt1 hl hqy];exact hy⟩,⟨z'',?_,⟨u,u2,?_⟩,?_,?_⟩,fun c hcm=>?_⟩
  .exact (sb.2 _ D.TIz).trans (hk _ _ D.TIz D.TITO D.TIi1 D.TIi2 hTI)
  .exact (sb.2 _ D.TOz).trans TO'
  .exact h1'.at fun o q=>(sb.2 _ D.i1z).trans q
  .obtain ⟨o2,e2,r2⟩:=h2';exact ⟨o2,(sb.2 _ D.i2z).trans e2,r2⟩
  .have hlt:c < s.heap.objs.size:=by
    have e':c=z\/c=TI\/c=TO\/c=i1\/c=i2:=by simpa using hcm
    rcases e' with q | q | q | q | q
    .rw[q];exact hzl
    .rw[q];exact Heap.lt_size hTI
    .rw[q];exact Heap.lt_size hTO
    .rw[q];obtain ⟨_,e1,_⟩:=h1;exact Heap.lt_size e1
    .rw[q];obtain ⟨_,e2,_⟩:=h2;exact Heap.lt_size e2
   rw[Ql (Nat.ne_of_lt hlt)];exact (hf c hcm).1
 done:=by
  intro X hP hw hK hc i pins s σ H E I hf st hg;subst hP hw hK;obtain ⟨hz,hTI,⟨x0,y0,hTO⟩,h1,h2⟩:=st;obtain ⟨xs,ys,hqx,hqy,hend⟩:=hg;obtain ⟨its,rv,p,_⟩:=I.list hqx;obtain ⟨its2,rv2,p2,_⟩:=I.tuple hqy;have p2:s.heap.IsTuple b its2.toArray:=p2;have l1:=rv.length;have l2:=rv2.length;have he:its.toArray[i]? = none\/its2.toArray[i]? = none:=by
   rcases hend with q | q
   .exact .inl (by simp;omega)
   .exact .inr (by simp;omega)
  exact Zll (I.ok.hd hc) D hz hTI hTO h1 h2 p.isList p2 he fun h' hk=>⟨rfl,I.Zob (t':=s.toks) (ch:=[z,TI,TO,i1,i2]) (fun c o hb q =>
   hk c o (fun q'=>hb (by simp[q'])) (fun q'=>hb (by simp[q'])) (fun q'=>hb (by simp[q'])) (fun q'=>hb (by simp[q'])) q) hf⟩
 self:=fun A i s Q E st h=>wpAny_pyIter_zip st.1 h
abbrev zt1 (h:Heap) (a:Addr):Heap:=h.push { cls:=.type "list_iterator",data:=.fields #[.ref a,.int 0 0] }
abbrev zt2 (h:Heap) (a b:Addr):Heap:=(zt1 h a).push { cls:=.type "tuple_iterator",data:=.fields #[.ref b,.int 0 0] }
abbrev zt3 (h:Heap) (a b:Addr):Heap:=(zt2 h a b).push { cls:=.type "tuple",data:=.seq #[.ref h.objs.size,.ref (zt1 h a).objs.size] }
abbrev zt4 (h:Heap) (a b:Addr):Heap:=(zt3 h a b).push { cls:=.type "tuple",data:=.seq #[.none,.none] }
abbrev zt5 (h:Heap) (a b:Addr):Heap:=(zt4 h a b).push { cls:=.type "zip",data:=.fields #[.none,.bool false,.bool false,.ref (zt2 h a b).objs.size,.ref (zt3 h a b).objs.size] }
theorem Zc8 (a b:Addr) (xs ys:Array Value) :
  Meets (Builtin.«zip.__new__» ⟨[.type "zip",.ref a,.ref b],[]⟩) (fun _ R s=>s.heap.IsList a xs/\s.heap.IsTuple b ys/\R (.ok (.ret (.ref (zt4 s.heap a b).objs.size))) { s with heap:=zt5 s.heap a b }):=
 .of_wp fun prog w A R s h=>by
  obtain ⟨hp,g,d,tk,os⟩:=s;obtain ⟨la,lb,h⟩:=h;have hsub:=sub_zip;have ha:Heap.IsList (Shared.heap ⟨hp,g,d,tk,os⟩) a xs:=la;have hb:Heap.IsTuple (Shared.heap ⟨hp.push { cls:=.type "list_iterator",data:=.fields #[.ref a,.int 0 0] },g,d,tk,os⟩) b ys:=Heap.IsTuple.push lb _
  wp_walk using wpAny_pyIter_list ha,wpAny_pyIter_tuple hb
  exact ⟨_,rfl,h⟩
theorem Zhs {prog:Program} {w:World} {A:Around} {E:EPr} {s:Shared} {a b:Addr} {xs ys:Array Value} {Q:EPr} (la:s.heap.IsList a xs) (lb:s.heap.IsTuple b ys)
  (h:∀ h',IsZip h' (s.heap.objs.size+4) (s.heap.objs.size+2) (s.heap.objs.size+3) .none->IsPair h' (s.heap.objs.size+2) (.ref s.heap.objs.size) (.ref (s.heap.objs.size+1)) ->
   IsPair h' (s.heap.objs.size+3) .none .none->h'.IsListIter s.heap.objs.size a 0->h'.IsTupleIter (s.heap.objs.size+1) b 0->h'.objs.size=s.heap.objs.size+5 ->
   (∀ c o,s.heap.get? c=some o->h'.get? c=some o)->Q (.ref (s.heap.objs.size+4)) { s with heap:=h' }):wpAny (model prog w) A (call (.type "zip") [.ref a,.ref b]) Q E s:=by
 refine callType_new F.called_zip (by decide) (F.typeCall_zip_2 _ _) (F.newCall_zip_2 _ _) (fun obj=>F.args_object_init_3 obj _ _) F.entry_zip_new (Zc8 a b xs ys) ⟨la,lb,?_⟩;have z1:(zt1 s.heap a).objs.size=s.heap.objs.size+1:=Heap.size_push ..;have z2:(zt2 s.heap a b).objs.size=s.heap.objs.size+2:=by rw[Heap.size_push,z1]
 have z3:(zt3 s.heap a b).objs.size=s.heap.objs.size+3:=by rw[Heap.size_push,z2]
 have z4:(zt4 s.heap a b).objs.size=s.heap.objs.size+4:=by rw[Heap.size_push,z3]
 have z5:(zt5 s.heap a b).objs.size=s.heap.objs.size+5:=by rw[Heap.size_push,z4]
 have g5:(zt5 s.heap a b).get? (zt4 s.heap a b).objs.size=some _:=Heap.get?_push_size _ rfl;have g4:(zt5 s.heap a b).get? (zt3 s.heap a b).objs.size=some _:=Heap.get?_push_of_some _ (Heap.get?_push_size _ rfl);have g3:(zt5 s.heap a b).get? (zt2 s.heap a b).objs.size=some _:=Heap.get?_push_of_some _ (Heap.get?_push_of_some _ (Heap.get?_push_size _ rfl));have g2:(zt5 s.heap a b).get? (zt1 s.heap a).objs.size=some _:=Heap.get?_push_of_some _ (Heap.get?_push_of_some _ (Heap.get?_push_of_some _ (Heap.get?_push_size _ rfl)));have g1:(zt5 s.heap a b).get? s.heap.objs.size=some _:=Heap.get?_push_of_some _ (Heap.get?_push_of_some _ (Heap.get?_push_of_some _ (Heap.get?_push_of_some _ (Heap.get?_push_size _ rfl))));show _/\_;rw[z2,z3,z4]at g5;rw[z1,z2]at g3;rw[z3]at g4;rw[z1]at g2;rw[z4];exact ⟨⟨_,g5,rfl⟩,h _ g5 g3 g4 ⟨_,g1,rfl,rfl⟩ ⟨_,g2,rfl,rfl⟩ z5 fun c o x=>Heap.get?_push_of_some _ (Heap.get?_push_of_some _ (Heap.get?_push_of_some _ (Heap.get?_push_of_some _ (Heap.get?_push_of_some _ x))))⟩
def Zt4 (K:FG) (ta:TA):TI:=fun σ H R=>ta σ H fun vs H1=>∃ a b xs ys,vs=[.ref a,.ref b]/\SqL K H1 a xs/\SqT K H1 b ys/\R (Zm3 K a b) H1
theorem Qzm {X:Cx} {e e2:Expr} {ta:TA} {p pos tpos:Pos} {elts:List Expr} {kk:Nat} (hg:Gl X "zip") (hm:X.mg "zip" = none) (ha:PA X [e,e2] ta)
  (hs:starEach [e,e2] X.env=(false,eval e X.env)::starEach [e2] X.env:=by rfl) (hpl:(backTo pos (starEach [e2] X.env)).any (·.1)=false:=by rfl) :
  PI X (.Tuple elts kk tpos) (.Call (.Name "zip" p) [e,e2] [] pos) (Zt4 X.K ta):=by
 intro pins s σ H R I h;refine Call_ (Qmu I hg hm Zfs (PyProof.Rows.callWith_type1 (thn (ha pos pins s σ H _ I h) fun us s1 ⟨vs,H1,I1,r1,q1⟩=>?_) hs hpl));obtain ⟨a,b,xs,ys,ex,hqx,hqy,q⟩:=q1;subst ex;cases r1 with
 | cons r rr =>
  cases rr with
  | cons r' rr =>
   cases rr;cases r;cases r';obtain ⟨its,rv,p',_⟩:=I1.list hqx;obtain ⟨its2,rv2,p2',_⟩:=I1.tuple hqy;have p2':s1.heap.IsTuple b its2.toArray:=p2';have la:a < s1.heap.objs.size:=by obtain ⟨o,e,_⟩:=p'.isList;exact Heap.lt_size e
   have lb:b < s1.heap.objs.size:=by obtain ⟨o,e,_⟩:=p2';exact Heap.lt_size e
   refine Zhs p'.isList p2' fun h' hz hTI hTO h1 h2 hsz hk=>wpAny_pyIter_zip hz ?_;have I2:Inv X pins σ H1 { s1 with heap:=h' }:=I1.kept (t':=s1.toks) hk
   refine ⟨s1.heap.objs.size+4,[s1.heap.objs.size+4,s1.heap.objs.size+2,s1.heap.objs.size+3,s1.heap.objs.size,s1.heap.objs.size+1],_,_,H1,rfl,I2,Zhr (zipApart_new la lb),⟨hz,hTI,⟨_,_,hTO⟩,h1,h2⟩,fun c hc=>?_,q⟩;have hle:s1.heap.objs.size<=c:=by
    have z:c=s1.heap.objs.size+4\/c=s1.heap.objs.size+2\/c=s1.heap.objs.size+3\/c=s1.heap.objs.size\/c=s1.heap.objs.size+1:=by simpa using hc
    rcases z with z | z | z | z | z <;> (rw[z];omega)
   exact I1.Zmn hle (I1.hok.fresh hle)
section
open AutoSeq1 (wpAny_loadPart')
section
variable {prog:Program} {w:World} {A:Around} {E:EPr} {s:Shared}
theorem Qpz (a v:Value):checkTypeCall "enumerate" ⟨[a],[("start",v)]⟩=pure ():=by kernel_rfl
theorem Qsr (a v:Value):checkBuiltinCall "enumerate.__new__" ⟨[.type "enumerate",a],[("start",v)]⟩=pure ():=by kernel_rfl
theorem Qzn (l:Addr) (items:Array Value) (n:Nat) (dct:Option Addr) (sl:Array (Option Value)) (tk1:Tok) :
  Meets (Builtin.«enumerate.__new__» ⟨[.type "enumerate",.ref l],[("start",.int 1 tk1)]⟩) (fun _ R s=>s.heap.get? l=some { cls:=.type "list",dict:=dct,data:=.seq items n,slots:=sl } /\
   R (.ok (.ret (.ref (s.heap.push { cls:=.type "list_iterator",data:=.fields #[.ref l,.int 0 0] }).objs.size)))
    { s with heap:=(s.heap.push { cls:=.type "list_iterator",data:=.fields #[.ref l,.int 0 0] }).push { cls:=.type "enumerate",data:=.fields #[.none,.bool false,.ref s.heap.objs.size,rawInt 1,.none,.none] } }):=
 .of_wp fun prog w A R s h=>by
  obtain ⟨hp,g,d,tk,os⟩:=s;obtain ⟨hl,h⟩:=h;have hsub:=sub_enumerate;have hL:Heap.IsList (Shared.heap ⟨hp,g,d,tk,os⟩) l items:=⟨_,hl,rfl,n,rfl⟩
  wp_walk using wpAny_loadPart' hl
  refine wpAny_stack_any fun st=>wpAny_pure ?_;split
  .rename_i c _ _ _ _ _;cases (c == Value.type "enumerate")
   .wp_walk using wpAny_loadPart' hl,wpAny_pyIter_list hL;exact ⟨_,rfl,h⟩
   .wp_walk using wpAny_loadPart' hl,wpAny_pyIter_list hL;exact ⟨_,rfl,h⟩
  .wp_walk using wpAny_loadPart' hl,wpAny_pyIter_list hL;exact ⟨_,rfl,h⟩
theorem Zlm (a b v:Value):argsOk "object.__init__" ⟨[a,b],[("start",v)]⟩:=by unfold argsOk;rw[signature?_of (id := "object.__init__") (n:=['_','_','t','i','n','i','_','_']) (o:=['t','c','e','j','b','o']) (by kernel_rfl) F.owner_object];kernel_rfl
theorem Zht {self a v:Value}:Meets (Builtin.«object.__init__» ⟨[self,a],[("start",v)]⟩) (fun _ R s=>s.TypeIs self "enumerate" /\ R (.ok (.ret .none)) s):=by
 have hl:=F.called_enumerate.init.lookup;have hm:=F.called_enumerate.made;have hne:(some "enumerate.__new__" != some "object.__new__")=true:=by decide
 refine Meets.of_wp fun prog w A R s hs=>?_;obtain ⟨hT,hq⟩:=hs
 repeat (any_goals (first | assumption | wp_step))
 exact ⟨_,rfl,hq⟩
theorem Zc9 {l:Addr} {items:Array Value} {tk1:Tok} {Q:EPr} (hL:s.heap.IsList l items)
  (h:∀ h',IsEnum h' (s.heap.objs.size+1) s.heap.objs.size 1 .none->h'.IsListIter s.heap.objs.size l 0->(∀ b o,s.heap.get? b=some o->h'.get? b=some o)->Q (.ref (s.heap.objs.size+1)) { s with heap:=h' }) :
  wpAny (model prog w) A (call (.type "enumerate") [.ref l] [("start",.int 1 tk1)]) Q E s:=by
 obtain ⟨⟨c,dct,dt,sl⟩,hl,hc,n,hd⟩:=hL
 replace hc:c = .type "list":=hc;replace hd:dt = .seq items n:=hd;subst hc hd
 have ft:=F.called_enumerate;obtain ⟨c,tl,Zw6⟩:=ft.mro;have hmade:=ft.made;have hsub:=ft.sub;have hct:=Qpz (.ref l) (.int 1 tk1);refine wpAny_call (codeAny_of_tree ?_);show wpAny _ _ (callAny (.type "enumerate") _) _ _ _;refine wpAny_pure ⟨Code.quiet_builtin _ (by decide +kernel),codeAny_builtin F.entry_type_call ?_⟩;rw[Around.under_plain (weight_type_call_type "enumerate" _ _) (units_type_call_type "enumerate" _ _)];have h1:=ft.notType;have h2:=ft.canCreate
 repeat (any_goals (first | assumption | wp_step))
 have hz:(s.heap.push { cls:=.type "list_iterator",data:=.fields #[.ref l,.int 0 0] }).objs.size=s.heap.objs.size+1:=Heap.size_push ..;have he:IsEnum ((s.heap.push { cls:=.type "list_iterator",data:=.fields #[.ref l,.int 0 0] }).push { cls:=.type "enumerate",data:=.fields #[.none,.bool false,.ref s.heap.objs.size,rawInt 1,.none,.none] }) (s.heap.objs.size+1) s.heap.objs.size 1 .none:=by have q:=Heap.get?_push_size (s.heap.push { cls:=.type "list_iterator",data:=.fields #[.ref l,.int 0 0] }) (o:={ cls:=.type "enumerate",data:=.fields #[.none,.bool false,.ref s.heap.objs.size,rawInt 1,.none,.none] }) rfl;rw[hz]at q;exact q
 refine codeAny_mono (codeAny_call_builtin ft.plain F.entry_enumerate_new (wpAny_of_eq (Qsr (.ref l) (.int 1 tk1)) (Qzn l items n dct sl tk1 prog w A.in1 (wants (fun obj s₁=>obj = .ref (s.heap.objs.size+1)/\s₁.TypeIs obj "enumerate" /\ Q obj s₁) E) s ⟨hl,?_⟩))) fun r s1 hr=>?_
 .show _/\_;rw[hz];exact ⟨rfl,⟨_,he,rfl⟩,h _ he ⟨_,Heap.get?_push_of_some _ (Heap.get?_push_size _ rfl),rfl,rfl⟩ fun b o x=>Heap.get?_push_of_some _ (Heap.get?_push_of_some _ x)⟩
 .cases r with
  | error e=>exact hr
  | ok fl =>
   cases fl with
   | ret obj =>
    obtain ⟨eo,hT,hq⟩:=hr;have hli:=ft.init.lookup;have hbi:=ft.init.bind obj
    repeat (any_goals (first | assumption | wp_step))
    refine codeAny_mono (codeAny_call_builtin ft.init.plain F.entry_object_init (ft.init.check _ _ _ _ _ _ _ _ hT (Zlm obj (.ref l) (.int 1 tk1)) (Zht prog w A.in1 (wants (fun r s₂=>r = .none/\Q obj s₂) E) s1 ⟨hT,rfl,hq⟩))) fun r2 s2 hr2=>?_;cases r2 with
    | error e=>exact hr2
    | ok fl2 =>
     cases fl2 with
     | ret r =>
      obtain ⟨rfl,hq⟩:=hr2
      repeat (any_goals (first | assumption | wp_step))
     | _=>exact hr2.elim
   | _=>exact hr.elim
end
section
variable {M:Model} {A:Around} {E:EPr} {s:Shared}
theorem Qvc {pos:Pos} {T:String} {first:List Value} {args:List (Bool × Sem Value)} {keywords:List (Option Str × Sem Value)} {Q:EPr} (hplain:(args.any (·.1)||keywords.any (·.1.isNone))=false)
  (h:wpAny M A (evalArgs (.type T) true args keywords) (fun a s₁=>wpAny M A (call (.type T) (first++a.pos) a.kw) Q E s₁) E s):wpAny M A (callWith pos (.type T) first args keywords) Q E s:=by
 unfold callWith;refine wpAny_bind (wpAny_holding (wpAny_mono h (fun a s₁ h₁=>wpAny_bind (wpAny_standAt ?_)) fun _ _ x=>x));simp only[hplain];refine wpAny_bind (wpAny_pure ?_);exact wpAny_bind (wpAny_mono h₁ (fun r s₂ hr=>wpAny_bind (wpAny_holding (wpAny_point (wpAny_pure hr)))) fun _ _ x=>x)
end
end
def Zrx (K:FG) (ta:TA):TI:=fun σ H R=>ta σ H fun vs H1=>∃ a xs,vs=[.ref a]/\SqL K H1 a xs/\R (Zqk (fun H xs=>SqL K H a xs) 1) H1
theorem Zln {X:Cx} {e:Expr} {ta:TA} {p pos tpos kp cp:Pos} {ck:Nat} {elts:List Expr} {kk:Nat} (hg:Gl X "enumerate") (hm:X.mg "enumerate" = none) (ha:PA X [e] ta) (hs:starEach [e] X.env=(false,eval e X.env)::starEach [] X.env:=by rfl) :
  PI X (.Tuple elts kk tpos) (.Call (.Name "enumerate" p) [e] [⟨some "start",.Constant (.int 1) ck cp,kp⟩] pos) (Zrx X.K ta):=by
 intro pins s σ H R I h;refine wpAny_Call_Name_kw (Qmu I hg hm boot_enumerate (Qvc ?_ ?_))
 .rw[hs];rfl
 .have q:=ha pos pins s σ H _ I h;rw[hs]at q ⊢;refine evalArgs_kwB rfl (thn q fun us s1 ⟨vs,H1,I1,r1,q1⟩=>?_);refine kws_cons (wpAny_Constant_int (kws_nil ?_));obtain ⟨a,xs,ex,hq,q⟩:=q1;subst ex;cases r1 with
  | cons r rr =>
   cases rr;cases r;have I1':=I1.tok 1;obtain ⟨its,rv,p',hz⟩:=I1'.list hq;refine wpAny_mono (Zc9 p'.isList fun h' he hit hk=>?_) (fun v s2 z=>z) (fun _ _ z=>z);refine wpAny_pyIter_enum he ?_;have I2:Inv X pins σ H1 _:=I1'.kept (h':=h') (t':=s1.toks+1) hk;refine ⟨s1.heap.objs.size+1,[s1.heap.objs.size+1,s1.heap.objs.size],_,_,H1,rfl,I2,Qq3 1 (s1.heap.objs.size+1) s1.heap.objs.size (inL a s1.heap.objs.size),⟨⟨.none,he⟩,hit,Nat.succ_ne_self _⟩,fun b hb=>?_,q⟩;have z:b=s1.heap.objs.size+1\/b=s1.heap.objs.size:=by simpa using hb
   have hle:s1.heap.objs.size<=b:=by
    rcases z with z | z
    .rw[z];exact Nat.le_add_right _ _
    .rw[z];exact Nat.le_refl _
   exact I1.Zmn hle (I1.hok.fresh hle)
end
section
open PySem PySem.Spec PyProof.Rows L2
variable {P:Program} {w:World} {K:FG} {mg:Str->Option Value} {base:Heap} {CM CR CS CH:Addr}
section
noncomputable abbrev Zhu:Stmt:=top 74
noncomputable abbrev Zry:List Str:=["words","form","word","part"]
noncomputable abbrev Qvd:List Str:=["words","form"]
theorem Zpn:Qn Zry Qvd (Qi Zhu):=by walk_at "sc"
noncomputable abbrev Qnu:Stmt:=top 75
noncomputable abbrev Zhv:List Str:=["words","number","form"]
noncomputable abbrev Qgm:List Str:=["words"]
theorem Zda:Qn Zhv Qgm (Qi Qnu):=by walk_at "sc"
noncomputable abbrev Qdw:Stmt:=top 76
noncomputable abbrev Qlm:List Str:=["words","form","word","part"]
noncomputable abbrev Qb6:List Str:=["words","form"]
theorem Qss:Qn Qlm Qb6 (Qi Qdw):=by walk_at "sc"
noncomputable abbrev Qil:Stmt:=top 77
noncomputable abbrev Qzo:List Str:=["numbers","ranges","number","bounds"]
noncomputable abbrev Qde:List Str:=["numbers","ranges"]
theorem Qve:Qn Qzo Qde (Qi Qil):=by walk_at "sc"
section
variable {K:FG} {a b:Addr} {xs ys:List V} {g:TG} {tb:TS} {D:Ends} {σ:L2.St} {H:Hp}
theorem Zbj (Pv:Nat->L2.St->Hp->Prop) (h0:Pv 0 σ H) (hl:∀ i σ H,Pv i σ H->SqL K H a xs/\SqT K H b ys)
  (hs:∀ i x y σ H B,xs[i]? = some x->ys[i]? = some y->H B=none->Pv i σ H->g (.ref B) σ (upd H B (.tup [x,y])) fun σ2 H2=>tb { D with nx:=Pv (i+1),ct:=Pv (i+1),bk:=D.nx } σ2 H2)
  (hd:∀ σ H,Pv (min xs.length ys.length) σ H->D.nx σ H) :
  ∃ W:Nat->Nat->L2.St->Hp->Prop,(∃ m,W 0 m σ H)/\∀ i m σ H,W i m σ H ->
   ((Zm3 K a b).stop i H/\D.nx σ H)\/((Zm3 K a b).go i H/\∃ N:L2.St->Hp->Prop,(∀ σ' H',N σ' H' -> ∃ m',m' < m/\W (i+1) m' σ' H')/\∀ x H',(Zm3 K a b).yld i H x H' -> g x σ H' fun σ2 H2=>tb { D with nx:=N,ct:=N,bk:=D.nx } σ2 H2):=by
 refine ⟨fun i m σ H=>m=min xs.length ys.length - i/\i<=min xs.length ys.length/\Pv i σ H,⟨min xs.length ys.length,by simp,Nat.zero_le _,h0⟩,?_⟩
 rintro i m σ H ⟨rfl,hi,p⟩
 obtain ⟨q1,q2⟩:=hl i σ H p;by_cases hlt:i < min xs.length ys.length
 .refine .inr ⟨⟨xs,ys,xs[i],ys[i],q1,q2,by simp,by simp⟩,Pv (i+1),fun σ' H' p'=>⟨min xs.length ys.length - (i+1),by omega,rfl,hlt,p'⟩,fun v H' y=>?_⟩;obtain ⟨B,x,y',rfl,hB,rfl,e1,e2⟩:=y;exact hs i x y' σ H B (e1 xs q1) (e2 ys q2) hB p
 .have e:i=min xs.length ys.length:=by omega
  subst e;exact .inl ⟨⟨xs,ys,q1,q2,by omega⟩,hd σ H p⟩
theorem Qvf {Sq:Hp->List V->Prop} {c0:Int} (Pv:Nat->L2.St->Hp->Prop) (h0:Pv 0 σ H) (hl:∀ i σ H,Pv i σ H->Sq H xs)
  (hs:∀ i x σ H B,xs[i]? = some x->H B=none->Pv i σ H->g (.ref B) σ (upd H B (.tup [.int (c0+(i:Nat)),x])) fun σ2 H2=>tb { D with nx:=Pv (i+1),ct:=Pv (i+1),bk:=D.nx } σ2 H2)
  (hd:∀ σ H,Pv xs.length σ H->D.nx σ H) :
  ∃ W:Nat->Nat->L2.St->Hp->Prop,(∃ m,W 0 m σ H)/\∀ i m σ H,W i m σ H ->
   ((Zqk Sq c0).stop i H/\D.nx σ H)\/((Zqk Sq c0).go i H/\∃ N:L2.St->Hp->Prop,(∀ σ' H',N σ' H' -> ∃ m',m' < m/\W (i+1) m' σ' H')/\∀ x H',(Zqk Sq c0).yld i H x H' -> g x σ H' fun σ2 H2=>tb { D with nx:=N,ct:=N,bk:=D.nx } σ2 H2):=by
 refine ⟨fun i m σ H=>m=xs.length - i/\i<=xs.length/\Pv i σ H,⟨xs.length,by simp,Nat.zero_le _,h0⟩,?_⟩
 rintro i m σ H ⟨rfl,hi,p⟩
 have q:=hl i σ H p;by_cases hlt:i < xs.length
 .refine .inr ⟨⟨xs,xs[i],q,by simp[hlt]⟩,Pv (i+1),fun σ' H' p'=>⟨xs.length - (i+1),by omega,rfl,hlt,p'⟩,fun v H' y=>?_⟩;obtain ⟨B,x,rfl,hB,rfl,e1⟩:=y;exact hs i x σ H B (e1 xs q) hB p
 .have e:i=xs.length:=by omega
  subst e;exact .inl ⟨⟨xs,q,rfl⟩,hd σ H p⟩
theorem Zpo {tt:TT} {te:TE} {vs:List Nat} {H1:Hp} {B0:Addr} {Qd:Hp->Prop} (Pv:Nat->Hp->Prop) (h0:Pv 0 (upd H1 B0 (.lst []))) (hl:∀ i H,Pv i H->SqL K H a xs/\SqT K H b ys)
  (hs:∀ i x y H B,xs[i]? = some x->ys[i]? = some y->H B=none->Pv i H->g (.ref B) (wipe σ vs) (upd H B (.tup [x,y])) fun σ2 H2=>wipe σ2 vs=wipe σ vs/\tt σ2 H2 fun c H3 =>
   if c=true then te σ2 H3 fun y H4=>∃ acc,H4 B0=some (.lst acc)/\acc.length < sizeLine/\Pv (i+1) (upd H4 B0 (.lst (acc++[y]))) else Pv (i+1) H3) (hd:∀ H,Pv (min xs.length ys.length) H->Qd H) :
  ∃ W:Nat->Nat->Hp->Prop,(∃ m,W 0 m (upd H1 B0 (.lst [])))/\∀ i m H,W i m H ->
   ((Zm3 K a b).stop i H/\Qd H)\/((Zm3 K a b).go i H/\∃ Nx:Hp->Prop,(∀ H',Nx H' -> ∃ m',m' < m/\W (i+1) m' H')/\∀ x H',(Zm3 K a b).yld i H x H' -> g x (wipe σ vs) H' fun σ2 H2=>wipe σ2 vs=wipe σ vs/\tt σ2 H2 fun c H3 =>
    if c=true then te σ2 H3 fun y H4=>∃ acc,H4 B0=some (.lst acc)/\acc.length < sizeLine/\Nx (upd H4 B0 (.lst (acc++[y]))) else Nx H3):=by
 refine ⟨fun i m H=>m=min xs.length ys.length - i/\i<=min xs.length ys.length/\Pv i H,⟨min xs.length ys.length,by simp,Nat.zero_le _,h0⟩,?_⟩
 rintro i m H ⟨rfl,hi,p⟩
 obtain ⟨q1,q2⟩:=hl i H p;by_cases hlt:i < min xs.length ys.length
 .refine .inr ⟨⟨xs,ys,xs[i],ys[i],q1,q2,by simp,by simp⟩,Pv (i+1),fun H' p'=>⟨min xs.length ys.length - (i+1),by omega,rfl,hlt,p'⟩,fun v H' y=>?_⟩;obtain ⟨B,x,y',rfl,hB,rfl,e1,e2⟩:=y;exact hs i x y' H B (e1 xs q1) (e2 ys q2) hB p
 .have e:i=min xs.length ys.length:=by omega
  subst e;exact .inl ⟨⟨xs,ys,q1,q2,by omega⟩,hd H p⟩
end
theorem Zbk:∀ ns ms:List Int,PyData.eqvAll (ns.map PyData.int) (ms.map PyData.int)=decide (ns=ms)
 | [],[]=>by simp[PyData.eqvAll]
 | [],_::_=>by simp[PyData.eqvAll]
 | _::_,[]=>by simp[PyData.eqvAll]
 | n::ns,m::ms=>by
  simp only[List.map_cons,PyData.eqvAll,PyData.eqv,Zbk ns ms,List.cons.injEq];by_cases h:n=m <;> simp[h]
theorem shaped_ints (ns:List Int):SeqAt.shaped (.list (ns.map PyData.int))=true:=by
 have h1:∀ l:List Int,PyData.canLayAll0 (l.map PyData.int)=true:=fun l=>by
  induction l with
  | nil=>simp[PyData.canLayAll0]
  | cons a r ih=>simp[PyData.canLayAll0,PyData.canLay0,ih]
 have h2:∀ l:List Int,PyData.depthAll (l.map PyData.int)=0:=fun l=>by
  induction l with
  | nil=>simp[PyData.depthAll]
  | cons a r ih=>simp[PyData.depthAll,PyData.depth,ih]
 simp[SeqAt.shaped,PyData.canLay0,PyData.depth,h1,h2]
theorem Qzp {K:FG} {H:Hp}:∀ ns:List Int,Qx2 K H (ns.map V.int) (ns.map PyData.int)
 | []=>.nil
 | n::ns=>.cons (.int n) (Qzp ns)
def Qq4 (K:FG) (a:Addr) (xs:List V):Prop:=∀ H,SqT K H a xs
def Qim (K:FG) (a:Addr) (rows:List (List V)):Prop:=∃ as:List Addr,Qq4 K a (as.map V.ref)/\as.length=rows.length/\∀ (i:Nat) (c:Addr) (r:List V),as[i]? = some c->rows[i]? = some r->Qq4 K c r
def Qjs (w:List Int) (p:Str):Bool:=if p = "N" then decide (0<=Qxt w) else decide (w=Zv p)
def Qf3 (ws:List (List Int)) (Ji:List Str):Bool:=decide (ws.length=Ji.length)&&(ws.zip Ji).all fun x=>Qjs x.1 x.2
def Zm4 (K:FG):Sp:=fun vs H Q _=>∃ p as ws c,∃ Ji:List Str,vs=[.ref p,.ref c]/\H p=some (.lst (as.map V.ref))/\Zw Qah H as ws/\Qq4 K c (Ji.map V.str)/\(∀ x ∈ Ji,x.cps.size < 100) /\
 ∀ H',Jw H H' -> Q (.bl (Qf3 ws Ji)) H'
theorem Zpp (D:Df K mg "fits" Zhu Qvd) (T:Txt K mg CM CR CS CH) (Qbs:Ok P w K mg base "number_of" 1 Qbr (Zpm K)) (Qc2:Ok P w K mg base "codes_of" 1 Qc0 Qzj):Ok P w K mg base "fits" 2 Qvd (Zm4 K):=by
 have SC:=Zpn;refine D.ok SC (fun vs H Q E h=>?_) (fun f _ A _ s H vs Q E hr h=>?_)
 .obtain ⟨p,as,ws,c,Ji,rfl,_⟩:=h;rfl
 .obtain ⟨p,as,ws,c,Ji,rfl,hp,row,hc,hsz,k⟩:=h;refine ⟨_,(Qb (Qz (Qo Qpj (Zk Zc rfl T.Qdp PySem.boot_len (Qa (pv 0) Qe)) (Zk Zc rfl T.Qdp PySem.boot_len (Qa (pv 1) Qe)) (Qq _)) (Qc (Qm Yb)) Qp) (Qb (Qav PassesOwn.never rfl (Qzm rfl T.Zlb (Qa (pv 0) (Qa (pv 1) Qe))) (Qqn rfl (Qaq (pgL (i:=2) SC.nd) (Qaq (pgL (i:=3) SC.nd) Qki))) (Qc (Qz (Qo Yc (pv 3) Qel (Qq _)) (Qc (Qz (Qo Qh0 (pcl Qbs (hr.M) (Qa (pv 2) Qe)) Qj (Qq _)) (Qc (Qm Yb)) Qp)) (Qc (Qz (Qo (Zq5 hr.units) (pv 2) (pcl Qc2 (hr.M) (Qa (pv 3) Qe)) (Qq _)) (Qc (Qm Yb)) Qp))))) (Qc (Qm Yb)))),?_⟩;walk_at "R";refine ⟨c,_,rfl,.inr (hc _),?_⟩;walk_at "R";refine ifB (fun h1=>?_) (fun h1=>?_)
  .have h1:¬ ws.length=Ji.length:=by
    rw[<-row.1];intro z
    have:=z
    simp[z]at h1
   exact Yz (k H (Jw.refl _)) (by unfold Qf3;simp[h1])
  .have h1:ws.length=Ji.length:=by rw[<-row.1];simp at h1;omega
   have fin:∀ z:Bool,((ws.zip Ji).all fun x=>Qjs x.1 x.2)=z->Qf3 ws Ji=z:=fun z e=>by unfold Qf3;simp[h1,e]
   walk_at "R"
   refine ⟨p,c,_,_,rfl,SqL.of hp,hc _,Zbj (K:=K) (a:=p) (b:=c) (xs:=as.map V.ref) (ys:=Ji.map V.str)
    (fun i σ H'=>∃ v1 v2:Option V,σ=[some (.ref p),some (.ref c),v1,v2]/\Jw H H' /\ ∀ (j:Nat) (w:List Int) (q:Str),j < i->ws[j]? = some w->Ji[j]? = some q->Qjs w q=true)
    ⟨none,none,rfl,Jw.refl _,fun j w q hj=>absurd hj (by simp)⟩ (fun i σ H' ⟨_,_,_,s1,_⟩=>⟨SqL.of (s1 _ _ hp),hc _⟩) ?_ ?_⟩
   .rintro i x y σ H' B hx hy hB ⟨v1,v2,rfl,s1,hok⟩
    rw[List.getElem?_map]at hx hy;obtain ⟨d,hd,rfl⟩:=Option.map_eq_some_iff.mp hx;obtain ⟨q,hq,rfl⟩:=Option.map_eq_some_iff.mp hy;have hil:i < ws.length:=by rw[<-row.1];exact (List.getElem?_eq_some_iff.mp hd).1
    have e2:ws[i]? = some ws[i]:=List.getElem?_eq_getElem hil;have hdd:H d=some (Qah ws[i]):=row.2 i d _ hd e2;have s2:Jw H' (upd H' B (.tup [.ref d,.str q])):=fun b o e=>by rw[Ql (Qg e hB)];exact e
    have hd2:upd H' B (.tup [.ref d,.str q]) d=some (Qah ws[i]):=s2 _ _ (s1 _ _ hdd);have bad:Qjs ws[i] q=false->Qf3 ws Ji=false:=fun e=>by
     refine fin false (List.all_eq_false.mpr ⟨(ws[i],q),?_,by simp[e]⟩);refine List.mem_of_getElem? (i:=i) ?_;rw[List.getElem?_zip_eq_some];exact ⟨e2,hq⟩
    have good:Qjs ws[i] q=true->∀ (j:Nat) (w:List Int) (q':Str),j < i+1->ws[j]? = some w->Ji[j]? = some q' -> Qjs w q' = true:=fun e j w q' hj h3 h4=>by
     by_cases hji:j=i
     .subst hji;rw[e2]at h3;rw[hq]at h4;cases h3;cases h4;exact e
     .exact hok j w q' (by omega) h3 h4
    refine ⟨B,_,rfl,SqT.of Qk,rfl,_,_,rfl,_,_,rfl,rfl,?_⟩;walk_at "R";refine ifB (fun h3=>?_) (fun h3=>?_)
    .have h3:q = "N":=by simpa using h3
     walk_at "R";refine ⟨d,_,rfl,SqL.of hd2,?_⟩;walk_at "R";refine ifB (fun h4=>?_) (fun h4=>?_)
     .have h4:Qxt ws[i] < 0:=by simpa using h4
      exact Yz (k _ (s1.trans s2)) (bad (by unfold Qjs;rw[if_pos h3];simp;omega))
     .have h4:¬ Qxt ws[i] < 0:=by simpa using h4
      exact ⟨_,_,rfl,s1.trans s2,good (by unfold Qjs;rw[if_pos h3];simp;omega)⟩
    .have h3:¬ q = "N":=by simpa using h3
     walk_at "R";refine ⟨Nat.lt_of_lt_of_le (hsz q (List.mem_of_getElem? hq)) (by decide),fun m hm=>?_⟩;have s3:Jw (upd H' B (.tup [.ref d,.str q])) (upd (upd H' B (.tup [.ref d,.str q])) m (Qah (Zv q))):=fun b o e=>by rw[Ql (Qg e hm)];exact e
     refine ⟨_,_,.lst (SqL.of (s3 _ _ hd2)) (Qzp _),.lst (SqL.of Qk) (Qzp _),shaped_ints _,shaped_ints _,_,rfl,?_⟩;have e5:PyData.eqv (.list (ws[i].map PyData.int)) (.list ((Zv q).map PyData.int))=decide (ws[i]=Zv q):=by simp only[PyData.eqv,Zbk]
     rw[e5];by_cases h4:ws[i]=Zv q
     .simp only[h4,decide_true,Bool.not_true];refine Qf7 ?_;exact ⟨_,_,rfl,(s1.trans s2).trans s3,good (by unfold Qjs;rw[if_neg h3];simpa using h4)⟩
     .simp only[h4,decide_false,Bool.not_false];exact Yz (k _ ((s1.trans s2).trans s3)) (bad (by unfold Qjs;rw[if_neg h3];simpa using h4))
   .rintro σ H' ⟨v1,v2,rfl,s1,hok⟩
    refine Yz (k H' s1) (fin true (List.all_eq_true.mpr fun x hx=>?_));obtain ⟨j,hj,e⟩:=List.getElem_of_mem hx;have hj2:(ws.zip Ji)[j]? = some x:=by rw[List.getElem?_eq_getElem hj,e]
    rw[List.getElem?_zip_eq_some]at hj2;have hjl:j < ws.length:=(List.getElem?_eq_some_iff.mp hj2.1).1;exact hok j x.1 x.2 (by rw[List.length_map,List.length_map,row.1,<-h1];omega) hj2.1 hj2.2
end
def Ye:List (List Str):=[["up","N"],["strike","N"],["down","N"],["leader","N"],["reel","N","frames","N","motor","N","change","N"],["reel","N","frames","N","end"]]
theorem Qvg:∀ f ∈ Ye,∀ x ∈ f,x.cps.size < 100:=by decide +kernel
def Qfw (ws:List (List Int)):List (List Str)->Int->Int
 | [],_=>-1
 | f::r,i=>if Qf3 ws f=true then i else Qfw ws r (i+1)
def Zj (ws:List (List Int)):Int:=Qfw ws Ye 0
def Zm5:Sp:=fun vs H Q _=>∃ p as ws,vs=[.ref p]/\H p=some (.lst (as.map V.ref))/\Zw Qah H as ws/\∀ H',Jw H H' -> Q (.int (Zj ws)) H'
theorem Zdb {aF:Addr} (D:Df K mg "form_of" Qnu Qgm) (T:Txt K mg CM CR CS CH) (gF:mg "FORMS" = some (.ref aF)) (tF:Qim K aF (Ye.map fun f=>f.map V.str)) (Zhw:Ok P w K mg base "fits" 2 Qvd (Zm4 K)):Ok P w K mg base "form_of" 3 Qgm Zm5:=by
 have SC:=Zda;refine D.ok SC (fun vs H Q E h=>?_) (fun f _ A _ s H vs Q E hr h=>?_)
 .obtain ⟨p,as,ws,rfl,_⟩:=h;rfl
 .obtain ⟨p,as,ws,rfl,hp,row,k⟩:=h;obtain ⟨fs,tf,tl,tr⟩:=tF;refine ⟨_,(Qb (Qav PassesOwn.never rfl (Zlk rfl T.Qey (Qa (pgr gF) Qe)) (Qqn rfl (Qaq (pgL (i:=1) SC.nd) (Qaq (pgL (i:=2) SC.nd) Qki))) (Qc (Qz (Zm (pcl Zhw (hr.M) (Qa (pv 0) (Qa (pv 2) Qe)))) (Qc (Qm (pv 1))) Qp))) (Qc (Qm (Qkk Qem Qj)))),?_⟩;walk_at "R"
  refine ⟨aF,_,rfl,tf _,Qvf (Sq:=fun H xs=>SqT K H aF xs) (c0:=0) (xs:=fs.map V.ref) (fun i σ H'=>∃ v1 v2:Option V,σ=[some (.ref p),v1,v2]/\Jw H H' /\ Qfw ws (Ye.drop i) (i:Nat)=Zj ws)
   ⟨none,none,rfl,Jw.refl _,rfl⟩ (fun i σ H' _=>tf _) ?_ ?_⟩
  .rintro i x σ H' B hx hB ⟨v1,v2,rfl,s1,e⟩
   rw[List.getElem?_map]at hx;obtain ⟨d,hd,rfl⟩:=Option.map_eq_some_iff.mp hx;have hil:i < Ye.length:=by
    have:=(List.getElem?_eq_some_iff.mp hd).1
    rw[tl,List.length_map]at this;exact this
   have e2:Ye[i]? = some Ye[i]:=List.getElem?_eq_getElem hil;have td:Qq4 K d (Ye[i].map V.str):=tr i d _ hd (by rw[List.getElem?_map,e2];rfl);have Qzf:Ye.drop i=Ye[i]::Ye.drop (i+1):=List.drop_eq_getElem_cons hil;rw[Qzf,Qfw]at e;have s2:Jw H' (upd H' B (.tup [.int (0+(i:Nat)),.ref d])):=fun b o e=>by rw[Ql (Qg e hB)];exact e
   refine ⟨B,_,rfl,SqT.of Qk,rfl,_,_,rfl,_,_,rfl,rfl,?_⟩;walk_at "R";refine ⟨p,as,ws,d,Ye[i],rfl,s2 _ _ (s1 _ _ hp),Zw.keep row fun c _ o e=>s2 c o (s1 c o e),td,Qvg _ (List.getElem_mem hil),fun H3 s3=>?_⟩;refine ⟨_,rfl,ifB (fun h1=>?_) (fun h1=>?_)⟩
   .walk_at "R";refine Qfz (k _ ((s1.trans s2).trans s3)) ?_;rw[<-e,if_pos h1];omega
   .refine ⟨_,_,rfl,(s1.trans s2).trans s3,?_⟩;rw[if_neg (by simp[h1])]at e;rw[<-e]
    congr 1
  .rintro σ H' ⟨v1,v2,rfl,s1,e⟩
   have e0:Ye.drop (fs.map V.ref).length=[]:=by rw[List.length_map,tl,List.length_map,List.drop_length]
   rw[e0,Qfw]at e;walk_at "R";exact Qfz (k _ s1) (by rw[<-e])
theorem Zpq {X:Cx} {es:List Expr} {k:Nat} {t:TGs} {n:Nat} {pos:Pos} (K:FG) (hc:X.calm=true) (h:PGs X es t) (e:X.K=K:=by rfl)
  (hn:(assignEach es X.env).length=n:=by rfl) (hst:(assignEach es X.env).findIdx? (·.1)=none:=by rfl):PG X (.Tuple es k pos) (Zuv K n t):=by
 subst e;exact Qqn hc h hn hst
def Qjt (ws:List (List Int)) (Ji:List Str):List Int:=((ws.zip Ji).filter fun (x:List Int × Str)=>decide (x.2 = "N")).map fun x=>Qxt x.1
def Zm6 (K:FG):Sp:=fun vs H Q _=>∃ p as ws c,∃ Ji:List Str,vs=[.ref p,.ref c]/\H p=some (.lst (as.map V.ref))/\Zw Qah H as ws/\Qq4 K c (Ji.map V.str)/\Ji.length < 100 /\
 ∀ H' q,Jw H H' -> H q=none->H' q=some (Qah (Qjt ws Ji))->Q (.ref q) H'
theorem Qst (D:Df K mg "numbers_in" Qdw Qb6) (T:Txt K mg CM CR CS CH) (Qbs:Ok P w K mg base "number_of" 1 Qbr (Zpm K)):Ok P w K mg base "numbers_in" 2 Qb6 (Zm6 K):=by
 have SC:=Qss;refine D.ok SC (fun vs H Q E h=>?_) (fun f _ A _ s H vs Q E hr h=>?_)
 .obtain ⟨p,as,ws,c,Ji,rfl,_⟩:=h;rfl
 .obtain ⟨p,as,ws,c,Ji,rfl,hp,row,hc,hsz,k⟩:=h;refine ⟨_,(Qc (Qm (Zfj rfl SC.nd (Qzm rfl T.Zlb (Qa (pv 0) (Qa (pv 1) Qe))) (Qja (own:=[("word",2),("part",3)]) (by show Zn8 Qlm (Qi Qdw) _ _=true;decide +kernel)) (fun _ _ _ _ _=>(Zpq (n:=2) K rfl (Qaq (pgL (i:=2) SC.nd) (Qaq (pgL (i:=3) SC.nd) Qki)))) (fun _ _ _ _ _=>(Zfi (Qo Yc (pv 3) Qel (Qq _)))) (fun _ _ _ _ _=>(pcl Qbs (hr.M) (Qa (pv 2) Qe)))))),?_⟩;walk_at "R";refine ⟨p,c,_,_,rfl,SqL.of hp,hc _,fun B0 hB0=>?_⟩;have hz:sizeLine=16777216:=rfl;refine Zpo (K:=K) (a:=p) (b:=c) (xs:=as.map V.ref) (ys:=Ji.map V.str) (fun i H2=>Jw H H2/\H2 B0=some (Qah ((((ws.zip Ji).take i).filter fun (x:List Int × Str)=>decide (x.2 = "N")).map fun x=>Qxt x.1))/\i<=Ji.length)
   ⟨fun b o e=>by rw[Ql (Qg e hB0)];exact e,Qk,Nat.zero_le _⟩ (fun i H2 ⟨s1,_⟩=>⟨SqL.of (s1 _ _ hp),hc _⟩) ?_ ?_
  .rintro i x y H2 B hx hy hB ⟨s1,hb,hi⟩
   rw[List.getElem?_map]at hx hy;obtain ⟨d,hd,rfl⟩:=Option.map_eq_some_iff.mp hx;obtain ⟨q,hq,rfl⟩:=Option.map_eq_some_iff.mp hy;have hil:i < ws.length:=by rw[<-row.1];exact (List.getElem?_eq_some_iff.mp hd).1
   have hif:i < Ji.length:=(List.getElem?_eq_some_iff.mp hq).1;have e2:ws[i]? = some ws[i]:=List.getElem?_eq_getElem hil;have hdd:H d=some (Qah ws[i]):=row.2 i d _ hd e2;have s2:Jw H2 (upd H2 B (.tup [.ref d,.str q])):=fun b o e=>by rw[Ql (Qg e hB)];exact e
   have hd2:upd H2 B (.tup [.ref d,.str q]) d=some (Qah ws[i]):=s2 _ _ (s1 _ _ hdd);have hb2:upd H2 B (.tup [.ref d,.str q]) B0=some (Qah ((((ws.zip Ji).take i).filter fun (x:List Int × Str)=>decide (x.2 = "N")).map fun x=>Qxt x.1)):=s2 _ _ hb;have ez:(ws.zip Ji)[i]? = some (ws[i],q):=by rw[List.getElem?_zip_eq_some];exact ⟨e2,hq⟩
   refine ⟨B,_,rfl,SqT.of Qk,rfl,_,_,rfl,_,_,rfl,rfl,rfl,?_⟩;walk_at "R";refine ifB (fun h3=>?_) (fun h3=>?_)
   .have h3:q = "N":=by simpa using h3
    walk_at "R";refine ⟨d,_,rfl,SqL.of hd2,?_⟩;refine ⟨_,hb2,?_,?_,?_,hif⟩
    .rw[List.length_map,List.length_map,hz];have l1:=List.length_filter_le (fun (x:List Int × Str)=>decide (x.2 = "N")) ((ws.zip Ji).take i);have l2:((ws.zip Ji).take i).length<=i:=by rw[List.length_take];omega
     omega
    .exact fun b o e=>by rw[Ql (Qg e hB0)];exact s2 b o (s1 b o e)
    .rw[Qk,List.take_succ,ez,List.filter_append,List.map_append];have e3:((some (ws[i],q)).toList.filter fun (x:List Int × Str)=>decide (x.2 = "N"))=[(ws[i],q)]:=by show List.filter _ [(ws[i],q)]=_;rw[List.filter_cons,if_pos (by simpa using h3)];rfl
     rw[e3];unfold Qah;rw[List.map_append];rfl
   .have h3:¬ q = "N":=by simpa using h3
    refine ⟨s1.trans s2,?_,hif⟩;rw[hb2,List.take_succ,ez,List.filter_append];have e3:((some (ws[i],q)).toList.filter fun (x:List Int × Str)=>decide (x.2 = "N"))=[]:=by show List.filter _ [(ws[i],q)]=_;rw[List.filter_cons,if_neg (by simpa using h3)];rfl
    rw[e3,List.append_nil]
  .rintro H2 ⟨s1,hb,hi⟩
   refine k H2 B0 s1 hB0 ?_;rw[hb];have e:min (as.map V.ref).length (Ji.map V.str).length=(ws.zip Ji).length:=by rw[List.length_map,List.length_map,List.length_zip,row.1]
   rw[e,List.take_length];rfl
def Qa7 (ns:List Int) (rs:List (Int × Int)):Bool:=(ns.zip rs).all fun x=>decide (x.2.1<=x.1)&&decide (x.1<=x.2.2)
def Qln (rs:List (Int × Int)):List (List V):=rs.map fun r=>[.int r.1,.int r.2]
def Zbl (K:FG):Sp:=fun vs H Q _=>∃ p c ns rs,vs=[.ref p,.ref c]/\H p=some (Qah ns)/\Qim K c (Qln rs)/\∀ H',Jw H H' -> Q (.bl (Qa7 ns rs)) H'
theorem Qvh (D:Df K mg "in_ranges" Qil Qde) (T:Txt K mg CM CR CS CH):Ok P w K mg base "in_ranges" 1 Qde (Zbl K):=by
 have SC:=Qve;refine D.ok SC (fun vs H Q E h=>?_) (fun f _ A _ s H vs Q E hr h=>?_)
 .obtain ⟨p,c,ns,rs,rfl,_⟩:=h;rfl
 .obtain ⟨p,c,ns,rs,rfl,hp,⟨cs,tc,tl,tr⟩,k⟩:=h;refine ⟨_,(Qb (Qav PassesOwn.never rfl (Qzm rfl T.Zlb (Qa (pv 0) (Qa (pv 1) Qe))) (Qqn rfl (Qaq (pgL (i:=2) SC.nd) (Qaq (pgL (i:=3) SC.nd) Qki))) (Qc (Qz (PW.pt (Qi7 (Qo Qh0 (pv 2) (Zf Qbh (pv 3) Qj (fun _ _=>rfl)) (Qq _)) (Qfr (Qo Qd3 (pv 2) (Zf Qbh (pv 3) Qj (fun _ _=>rfl)) (Qq _))))) (Qc (Qm Yb)) Qp))) (Qc (Qm Yb))),?_⟩;walk_at "R"
  refine ⟨p,c,_,_,rfl,SqL.of hp,tc _,Zbj (K:=K) (a:=p) (b:=c) (xs:=ns.map V.int) (ys:=cs.map V.ref)
   (fun i σ H'=>∃ v1 v2:Option V,σ=[some (.ref p),some (.ref c),v1,v2]/\Jw H H' /\ ∀ x ∈ (ns.zip rs).take i,x.2.1<=x.1/\x.1<=x.2.2) ⟨none,none,rfl,Jw.refl _,by simp⟩ (fun i σ H' ⟨_,_,_,s1,_⟩=>⟨SqL.of (s1 _ _ hp),tc _⟩) ?_ ?_⟩
  .rintro i x y σ H' B hx hy hB ⟨v1,v2,rfl,s1,hok⟩
   rw[List.getElem?_map]at hx hy;obtain ⟨n,hn,rfl⟩:=Option.map_eq_some_iff.mp hx;obtain ⟨d,hd,rfl⟩:=Option.map_eq_some_iff.mp hy;have hil:i < rs.length:=by
    have:=(List.getElem?_eq_some_iff.mp hd).1
    rw[tl]at this;simpa [Qln] using this
   have e2:rs[i]? = some rs[i]:=List.getElem?_eq_getElem hil;have td:Qq4 K d [.int rs[i].1,.int rs[i].2]:=tr i d _ hd (by unfold Qln;rw[List.getElem?_map,e2];rfl);have ez:(ns.zip rs)[i]? = some (n,rs[i]):=by rw[List.getElem?_zip_eq_some];exact ⟨hn,e2⟩
   have s2:Jw H' (upd H' B (.tup [.int n,.ref d])):=fun b o e=>by rw[Ql (Qg e hB)];exact e
   have bad:¬ (rs[i].1<=n/\n<=rs[i].2)->Qa7 ns rs=false:=fun e=>by
    refine List.all_eq_false.mpr ⟨(n,rs[i]),List.mem_of_getElem? ez,?_⟩;simp only[Bool.and_eq_true,decide_eq_true_eq];exact e
   refine ⟨B,_,rfl,SqT.of Qk,rfl,_,_,rfl,_,_,rfl,rfl,?_⟩;walk_at "R";refine ⟨d,_,_,_,rfl,rfl,td _,rfl,?_⟩;walk_at "R";refine ifB (fun h3=>?_) (fun h3=>?_)
   .have h3:n < rs[i].1:=by simpa using h3
    exact Qfs (Yz (k _ (s1.trans s2)) (bad (by omega)))
   .have h3:¬ n < rs[i].1:=by simpa using h3
    walk_at "R";refine ⟨d,_,_,_,rfl,rfl,td _,rfl,?_⟩;walk_at "R";refine ifB (fun h4=>?_) (fun h4=>?_)
    .have h4:rs[i].2 < n:=by simpa using h4
     exact Yz (k _ (s1.trans s2)) (bad (by omega))
    .have h4:¬ rs[i].2 < n:=by simpa using h4
     refine ⟨_,_,rfl,s1.trans s2,fun x hx=>?_⟩;rw[List.take_succ,ez]at hx;rcases List.mem_append.mp hx with z | z
     .exact hok x z
     .simp at z;rw[z];exact ⟨by show rs[i].1<=n;omega,by show n<=rs[i].2;omega⟩
  .rintro σ H' ⟨v1,v2,rfl,s1,hok⟩
   have e:min (ns.map V.int).length (cs.map V.ref).length=(ns.zip rs).length:=by rw[List.length_map,List.length_map,List.length_zip,tl];simp[Qln]
   rw[e,List.take_length]at hok;refine Yz (k H' s1) (List.all_eq_true.mpr fun x hx=>?_);simp only[Bool.and_eq_true,decide_eq_true_eq];exact hok x hx
noncomputable abbrev Qin:Stmt:=top 85
noncomputable abbrev Qzq:List Str:=["sheet","words","form","numbers"]
noncomputable abbrev Qdf:List Str:=["sheet","words"]
theorem Qvi:Qn Qzq Qdf (Qi Qin):=by walk_at "sc"
noncomputable abbrev Qgn:Stmt:=top 86
noncomputable abbrev Qvj:List Str:=["sheet","text","lines","number","line","words","wrong"]
noncomputable abbrev Qb7:List Str:=["sheet","text"]
theorem Qsu:Qn Qvj Qb7 (Qi Qgn):=by walk_at "sc"
def Zj1 (Ji:Int) (ns:List Int):Rl:=if Ji=4 then ⟨ns.getD 0 0,ns.getD 1 0,ns.getD 2 0,ns.getD 3 0,false⟩ else ⟨ns.getD 0 0,ns.getD 1 0,0,0,true⟩
def Zbm (CR:Addr):Sp:=fun vs H Q _=>∃ a ns,∃ Ji:Int,vs=[.int Ji,.ref a]/\H a=some (Qah ns)/\(Ji=4->ns.length=4)/\(¬ Ji=4->ns.length=2) /\
 ∀ H' c dr,Jw H H' -> H c=none->H' c=some (.ins CR dr (rF (Zj1 Ji ns)))->Q (.ref c) H'
theorem Zdc (D:Df K mg "reel_of" Qnq Qgk) (T:Txt K mg CM CR CS CH) (Zbn:OkI P w K mg base "Reel" CR 1 Qbq (Zm1 CR)):Ok P w K mg base "reel_of" 3 Qgk (Zbm CR):=by
 have SC:=Zc0;refine D.ok SC (fun vs H Q E h=>?_) (fun f _ A _ s H vs Q E hr h=>?_)
 .obtain ⟨a,ns,Ji,rfl,_⟩:=h;rfl
 .obtain ⟨a,ns,Ji,rfl,ha,l4,l2,k⟩:=h;have fin:∀ (r:Rl) (x dx:Addr),Zj1 Ji ns=r->H x=none->H dx=none->dx ≠ x->Q (.ref x) (upd (upd (upd H dx (.own x)) x (.ins CR dx [])) x (.ins CR dx (rF r))):=by
   rintro r x dx rfl hx hd hn
   refine k _ x dx (fun b o e=>?_) hx Qk;rw[Ql (Qg e hx),Ql (Qg e hx),Ql (Qg e hd)];exact e
  refine ⟨_,(Qb (Qz (Qo Yc (pv 0) (pgi T.Qfu) (Qq _)) (Qc (Qm (pmk Zbn (hr.M) (Qa (Zf Qt (pv 1) Qj (fun _ _=>rfl)) (Qa (Zf Qt (pv 1) Qj (fun _ _=>rfl)) (Qa (Zf Qt (pv 1) Qj (fun _ _=>rfl)) (Qa (Zf Qt (pv 1) Qj (fun _ _=>rfl)) (Qa Yb Qe)))))))) Qp) (Qc (Qm (pmk Zbn (hr.M) (Qa (Zf Qt (pv 1) Qj (fun _ _=>rfl)) (Qa (Zf Qt (pv 1) Qj (fun _ _=>rfl)) (Qa Qj (Qa Qj (Qa Yb Qe))))))))),?_⟩;walk_at "R";refine ifB (fun h1=>?_) (fun h1=>?_)
  .have h1:Ji=4:=by simpa using h1
   obtain ⟨n0,n1,n2,n3,rfl⟩:∃ n0 n1 n2 n3,ns=[n0,n1,n2,n3]:=by
    match ns,l4 h1 with
    | [n0,n1,n2,n3],_=>exact ⟨n0,n1,n2,n3,rfl⟩
   have ha:H a=some (.lst [.int n0,.int n1,.int n2,.int n3]):=ha;walk_at "R";intro x dx hx hd hn;refine ⟨x,dx,n0,n1,n2,n3,false,rfl,Qk,rfl,?_⟩;exact fin _ x dx (by unfold Zj1;rw[if_pos h1];rfl) hx hd hn
  .have h1:¬ Ji=4:=by simpa using h1
   obtain ⟨n0,n1,rfl⟩:∃ n0 n1,ns=[n0,n1]:=by
    match ns,l2 h1 with
    | [n0,n1],_=>exact ⟨n0,n1,rfl⟩
   have ha:H a=some (.lst [.int n0,.int n1]):=ha;walk_at "R";intro x dx hx hd hn;refine ⟨x,dx,n0,n1,0,0,true,rfl,Qk,rfl,?_⟩;exact fin _ x dx (by unfold Zj1;rw[if_neg h1];rfl) hx hd hn
def Yr:List (List (Int × Int)):=[[(2,48)],[(0,48)],[(0,48)],[(1,96)],[(1,99),(1,2000),(0,2000),(0,2000)],[(1,99),(1,2000)]]
def Zbo (K:FG) (a:Addr) (rows:List (List (List V))):Prop:=∃ as:List Addr,Qq4 K a (as.map V.ref)/\as.length=rows.length/\∀ (i:Nat) (c:Addr) (r:List (List V)),as[i]? = some c->rows[i]? = some r->Qim K c r
def Jo (ws:List (List Int)):List Int:=Qjt ws (Ye.getD (Zj ws).toNat [])
def Yx (sh:Sh) (ws:List (List Int)):Int:=
 if Zj ws < 0 then 1 else if Qa7 (Jo ws) (Yr.getD (Zj ws).toNat [])=false then 2 else if sh.may (Zj ws)=false then 3
 else if Zj ws < 4 then 0 else sh.Qf2 (Zj1 (Zj ws) (Jo ws))
def Qdq (sh:Sh) (ws:List (List Int)):Sh:=
 if Zj ws < 0 then sh else if Qa7 (Jo ws) (Yr.getD (Zj ws).toNat [])=false then sh else if sh.may (Zj ws)=false then sh
 else if Zj ws < 4 then sh.setting (Zj ws) ((Jo ws).getD 0 0) else sh.Qpy (Zj1 (Zj ws) (Jo ws))
theorem Qvk (ws:List (List Int)):∀ (fs:List (List Str)) (i:Int),Qfw ws fs i = -1\/∃ j:Nat,Qfw ws fs i=i+j/\∃ f,fs[j]? = some f/\Qf3 ws f=true
 | [],i=>.inl rfl
 | f::r,i=>by
  rw[Qfw];split
  .rename_i h;exact .inr ⟨0,by simp,f,rfl,h⟩
  .rcases Qvk ws r (i+1) with h | ⟨j,h,g,hg,hf⟩
   .exact .inl h
   .exact .inr ⟨j+1,by rw[h];omega,g,by simpa using hg,hf⟩
theorem Zbp (ws:List (List Int)):Zj ws = -1\/∃ j:Nat,Zj ws=j/\j < 6/\∃ f,Ye[j]? = some f/\ws.length=f.length:=by
 rcases Qvk ws Ye 0 with h | ⟨j,h,f,hf,hfit⟩
 .exact .inl h
 .refine .inr ⟨j,by unfold Zj;rw[h];omega,(List.getElem?_eq_some_iff.mp hf).1,f,hf,?_⟩;unfold Qf3 at hfit;rw[Bool.and_eq_true]at hfit;exact of_decide_eq_true hfit.1
theorem Zs (w:List Int) (ws:List (List Int)) (p:Str) (ps:List Str):Qjt (w::ws) (p::ps)=if p = "N" then Qxt w::Qjt ws ps else Qjt ws ps:=by
 unfold Qjt;rw[List.zip_cons_cons,List.filter_cons];by_cases h:p = "N"
 .rw[if_pos (by simpa using h),if_pos h];rfl
 .rw[if_neg (by simpa using h),if_neg h]
theorem Qvl:∀ (ws:List (List Int)) (ps:List Str),ws.length=ps.length->(Qjt ws ps).length=(ps.filter fun (p:Str)=>decide (p = "N")).length
 | [],[],_=>rfl
 | w::ws,p::ps,h=>by
  rw[Zs,List.filter_cons];have ih:=Qvl ws ps (by simpa using h);by_cases hp:p = "N"
  .rw[if_pos hp,if_pos (by simpa using hp),List.length_cons,List.length_cons,ih]
  .rw[if_neg hp,if_neg (by simpa using hp),ih]
theorem Zhx (ws:List (List Int)) (j:Nat) (h:Zj ws=j):(j < 4->(Jo ws).length=1)/\(j=4->(Jo ws).length=4)/\(j=5->(Jo ws).length=2):=by
 rcases Zbp ws with z | ⟨j',e,hj,f,hf,hl⟩
 .rw[h]at z;omega
 .have ej:j' = j:=by omega
  subst ej;have e1:Jo ws=Qjt ws f:=by unfold Jo;rw[h,Int.toNat_natCast,List.getD_eq_getElem?_getD,hf];rfl
  rw[e1,Qvl ws f hl];have key:∀ j < 6,∀ f,Ye[j]? = some f->(j < 4->(f.filter fun (p:Str)=>decide (p = "N")).length=1)/\(j=4->(f.filter fun (p:Str)=>decide (p = "N")).length=4)/\(j=5->(f.filter fun (p:Str)=>decide (p = "N")).length=2):=by
   intro j hj f hf;have ef:f=Ye.getD j []:=by rw[List.getD_eq_getElem?_getD,hf];rfl
   rw[ef];revert j hj;intro j hj _ _
   have:∀ j:Fin 6,(j.val < 4->((Ye.getD j.val []).filter fun (p:Str)=>decide (p = "N")).length=1)/\(j.val=4->((Ye.getD j.val []).filter fun (p:Str)=>decide (p = "N")).length=4)/\(j.val=5->((Ye.getD j.val []).filter fun (p:Str)=>decide (p = "N")).length=2):=by decide +kernel
   exact this ⟨j,hj⟩
  exact key j' hj f hf
def Zm7 (CS CR:Addr):Sp:=fun vs H Q _=>∃ b dy rl ras sh p as ws,vs=[.ref b,.ref p]/\Qga CS CR H b dy rl ras sh/\sh.reels.length<=6/\H p=some (.lst (as.map V.ref))/\Zw Qah H as ws /\
 ∀ H' Qxu,Qga CS CR H' b dy rl Qxu (Qdq sh ws)->(∀ d o,H d=some o->d ≠ b->d ≠ rl->H' d=some o)->Q (.int (Yx sh ws)) H'
theorem Qvm {aF aR:Addr} (D:Df K mg "take_line" Qin Qdf) (T:Txt K mg CM CR CS CH) (gF:mg "FORMS" = some (.ref aF)) (tF:Qim K aF (Ye.map fun f=>f.map V.str)) (gR:mg "RANGES" = some (.ref aR)) (tR:Zbo K aR (Yr.map Qln))
  (Qnv:Ok P w K mg base "form_of" 3 Qgm Zm5) (Qgo:Ok P w K mg base "numbers_in" 2 Qb6 (Zm6 K)) (Qio:Ok P w K mg base "in_ranges" 1 Qde (Zbl K)) (Qip:Ok P w K mg base "may_stand" 2 Qdc (Zrt CS CR))
  (Qec:Ok P w K mg base "take_setting" 1 Qam (Qu6 CS)) (Qnw:Ok P w K mg base "reel_of" 3 Qgk (Zbm CR)) (Qiq:Ok P w K mg base "take_reel" 3 Qdd (Zhj CS CR)) :
  Ok P w K mg base "take_line" 4 Qdf (Zm7 CS CR):=by
 have SC:=Qvi;refine D.ok SC (fun vs H Q E h=>?_) (fun f _ A _ s H vs Q E hr h=>?_)
 .obtain ⟨b,dy,rl,ras,sh,p,as,ws,rfl,_⟩:=h;rfl
 .obtain ⟨b,dy,rl,ras,sh,p,as,ws,rfl,hs,hlen,hp,row,k⟩:=h;obtain ⟨fs,tf,tfl,tfr⟩:=tF;obtain ⟨rs,tr,trl,trr⟩:=tR;have out:∀ (z:Int) (H':Hp),Jw H H' -> Yx sh ws=z->Qdq sh ws=sh->Q (.int z) H':=by
   rintro z H' s1 rfl e
   have hs':Qga CS CR H' b dy rl ras sh:=⟨s1 _ _ hs.obj,s1 _ _ hs.lst,hs.rls.1,fun i c r h1 h2=>by obtain ⟨dr,e⟩:=hs.rls.2 i c r h1 h2;exact ⟨dr,s1 _ _ e⟩⟩
   exact k H' ras (by rw[e];exact hs') fun d o e _ _=>s1 d o e
  refine ⟨_,(Qb (psL (i:=2) SC.nd (pcl Qnv (hr.M) (Qa (pv 1) Qe))) (Qb (Qz (Qo Qh0 (pv 2) Qj (Qq _)) (Qc (Qm (pgi T.Quh))) Qp) (Qb (psL (i:=3) SC.nd (pcl Qgo (hr.M) (Qa (pv 1) (Qa (Zf Qbh (pgr gF) (pv 2) (fun _ _=>rfl)) Qe)))) (Qb (Qz (Qae (Zm (pcl Qio (hr.M) (Qa (pv 3) (Qa (Zf Qbh (pgr gR) (pv 2) (fun _ _=>rfl)) Qe))))) (Qc (Qm (pgi T.Qlh))) Qp) (Qb (Qz (Qae (Zm (pcl Qip (hr.M) (Qa (pv 0) (Qa (pv 2) Qe))))) (Qc (Qm (pgi T.Qd5))) Qp) (Qb (Qz (Qo Qh0 (pv 2) (pgi T.Qhf) (Qq _)) (Qb (Qx (pcl Qec (hr.M) (Qa (pv 0) (Qa (pv 2) (Qa (Zf Qt (pv 3) Qj (fun _ _=>rfl)) Qe))))) (Qc (Qm Qj))) Qp) (Qc (Qm (pcl Qiq (hr.M) (Qa (pv 0) (Qa (pcl Qnw (hr.M) (Qa (pv 2) (Qa (pv 3) Qe))) Qe))))))))))),?_⟩;walk_at "R";refine ⟨p,as,ws,rfl,hp,row,fun H1 s1=>?_⟩;walk_at "R";refine ifB (fun h1=>?_) (fun h1=>?_)
  .have h1:Zj ws < 0:=by simpa using h1
   exact out _ H1 s1 (by unfold Yx;rw[if_pos h1]) (by unfold Qdq;rw[if_pos h1])
  .have h1:¬ Zj ws < 0:=by simpa using h1
   obtain ⟨j,ej,hj,f0,hf,hwl⟩:∃ j:Nat,Zj ws=j/\j < 6/\∃ f,Ye[j]? = some f/\ws.length=f.length:=by
    rcases Zbp ws with z | z
    .rw[z]at h1;exact absurd h1 (by decide)
    .exact z
   have hjf:j < fs.length:=by rw[tfl,List.length_map];exact hj
   have hjr:j < rs.length:=by rw[trl,List.length_map];exact hj
   have ef:Ye.getD (Zj ws).toNat []=f0:=by rw[ej,Int.toNat_natCast,List.getD_eq_getElem?_getD,hf];rfl
   have er0:Yr[j]? = some (Yr.getD (Zj ws).toNat []):=by rw[ej,Int.toNat_natCast,List.getD_eq_getElem?_getD];have hj':j < Yr.length:=hj;rw[List.getElem?_eq_getElem hj'];rfl
   have tfj:Qq4 K fs[j] (f0.map V.str):=tfr j _ _ (List.getElem?_eq_getElem hjf) (by rw[List.getElem?_map,hf];rfl);have trj:Qim K rs[j] (Qln (Yr.getD (Zj ws).toNat [])):=trr j _ _ (List.getElem?_eq_getElem hjr) (by rw[List.getElem?_map,er0];rfl);walk_at "R";refine ⟨aF,_,_,.ref fs[j],rfl,rfl,tf _,at_of ej (by rw[List.getElem?_map,List.getElem?_eq_getElem hjf];rfl),?_⟩;refine ⟨p,as,ws,fs[j],f0,rfl,s1 _ _ hp,Zw.keep row fun c _ o e=>s1 c o e,tfj,?_,fun H2 q s2 hq hq2=>?_⟩
   .have z:∀ j:Fin 6,(Ye.getD j.val []).length < 100:=by decide +kernel
    have z1:=z ⟨j,hj⟩;have e:Ye.getD j []=f0:=by rw[List.getD_eq_getElem?_getD,hf];rfl
    simp only[e]at z1;exact z1
   have en:Qjt ws f0=Jo ws:=by unfold Jo;rw[ef]
   rw[en]at hq2;have s12:=s1.trans s2;walk_at "R";refine ⟨aR,_,_,.ref rs[j],rfl,rfl,tr _,at_of ej (by rw[List.getElem?_map,List.getElem?_eq_getElem hjr];rfl),?_⟩;refine ⟨q,rs[j],Jo ws,_,rfl,hq2,trj,fun H3 s3=>?_⟩;have s13:=s12.trans s3;refine ⟨_,rfl,?_⟩;cases h2:Qa7 (Jo ws) (Yr.getD (Zj ws).toNat []) with
   | false =>refine Qfs ?_;exact out _ H3 s13 (by unfold Yx;rw[if_neg h1,if_pos h2]) (by unfold Qdq;rw[if_neg h1,if_pos h2])
   | true =>
    refine Qf7 ?_;have h2:¬ Qa7 (Jo ws) (Yr.getD (Zj ws).toNat [])=false:=by rw[h2];decide
    have hs3:Qga CS CR H3 b dy rl ras sh:=⟨s13 _ _ hs.obj,s13 _ _ hs.lst,hs.rls.1,fun i c r h1 h2=>by obtain ⟨dr,e⟩:=hs.rls.2 i c r h1 h2;exact ⟨dr,s13 _ _ e⟩⟩
    have hq3:H3 q=some (Qah (Jo ws)):=s3 _ _ hq2;walk_at "R";refine ⟨b,dy,rl,ras,sh,Zj ws,rfl,hs3,_,rfl,?_⟩;cases h3:sh.may (Zj ws) with
    | false =>refine Qfs ?_;exact out _ H3 s13 (by unfold Yx;rw[if_neg h1,if_neg h2,if_pos h3]) (by unfold Qdq;rw[if_neg h1,if_neg h2,if_pos h3])
    | true =>
     refine Qf7 ?_;have h3:¬ sh.may (Zj ws)=false:=by rw[h3];decide
     obtain ⟨n1,n4,n5⟩:=Zhx ws j ej;walk_at "R";refine ifB (fun h4=>?_) (fun h4=>?_)
     .have h4:Zj ws < 4:=by simpa using h4
      obtain ⟨n,en⟩:∃ n,Jo ws=[n]:=by
       match h5:Jo ws,n1 (by omega) with
       | [n],_=>exact ⟨n,rfl⟩
      have eS:Qdq sh ws=sh.setting (Zj ws) n:=by unfold Qdq;rw[if_neg h1,if_neg h2,if_neg h3,if_pos h4,en];rfl
      have eC:Yx sh ws=0:=by unfold Yx;rw[if_neg h1,if_neg h2,if_neg h3,if_pos h4]
      have hq4:H3 q=some (.lst [.int n]):=by rw[hq3,en];rfl
      have ho3:H3 b=some (.ins CS dy (shF sh rl)):=hs3.obj;walk_at "R";refine ⟨b,dy,rl,sh,Zj ws,n,rfl,ho3,?_⟩;refine Qfz (k _ ras ?_ fun d o e h5 h6=>?_) eC
      .rw[eS];have e9:(sh.setting (Zj ws) n).reels=sh.reels:=by
        unfold Sh.setting
        (repeat' split) <;> rfl
       refine ⟨Qk,by rw[Ql (Yu hs3.lst ho3 (by intro z;cases z))];exact hs3.lst,by rw[e9];exact hs.rls.1,fun i c r h7 h8=>?_⟩;rw[e9]at h8;obtain ⟨dr,e⟩:=hs3.rls.2 i c r h7 h8;exact ⟨dr,by rw[Ql (Yu e ho3 (Qr8 (by show (5:Nat) ≠ 6;decide)))];exact e⟩
      .rw[Ql h5];exact s13 d o e
     .have h4:¬ Zj ws < 4:=by simpa using h4
      have eS:Qdq sh ws=sh.Qpy (Zj1 (Zj ws) (Jo ws)):=by unfold Qdq;rw[if_neg h1,if_neg h2,if_neg h3,if_neg h4]
      have eC:Yx sh ws=sh.Qf2 (Zj1 (Zj ws) (Jo ws)):=by unfold Yx;rw[if_neg h1,if_neg h2,if_neg h3,if_neg h4]
      walk_at "R";refine ⟨q,Jo ws,Zj ws,rfl,hq3,fun z=>n4 (by omega),fun z=>n5 (by omega),fun H4 c dr s4 hc hc4=>?_⟩;have hs4:Qga CS CR H4 b dy rl ras sh:=⟨s4 _ _ hs3.obj,s4 _ _ hs3.lst,hs3.rls.1,fun i c r h1 h2=>by obtain ⟨dr,e⟩:=hs3.rls.2 i c r h1 h2;exact ⟨dr,s4 _ _ e⟩⟩
      refine ⟨b,dy,rl,ras,sh,c,dr,_,rfl,hs4,hlen,hc4,fun H5 Qxu hs5 k5=>?_⟩;refine Qfz (k H5 Qxu (by rw[eS];exact hs5) fun d o e h5 h6=>k5 d o (s4 d o (s13 d o e)) h6) eC
def Qck:List (List Int)->Int->Sh->List Int × Sh
 | [],n,sh=>(if sh.ended=true then [] else [n,3],sh)
 | l::r,n,sh=>if (Qcj l).length=0 then Qck r (n+1) sh else if Yx sh (Qcj l)=0 then Qck r (n+1) (Qdq sh (Qcj l)) else ([n,Yx sh (Qcj l)],Qdq sh (Qcj l))
def Qa8 (sh:Sh) (ns:List Int):List Int × Sh:=Qck (Zr 10 ns) 1 sh
def Zm8 (K:FG) (CS CR:Addr):Sp:=fun vs H Q _=>∃ b dy rl ras sh a ns,vs=[.ref b,.ref a]/\Qga CS CR H b dy rl ras sh/\sh.reels.length<=6/\SqL K H a (ns.map V.int)/\ns.length < 100000 /\
 ∀ H' Qxu q,Qga CS CR H' b dy rl Qxu (Qa8 sh ns).2->(∀ d o,H d=some o->d ≠ b->d ≠ rl->H' d=some o)->H q=none->H' q=some (Qah (Qa8 sh ns).1)->Q (.ref q) H'
theorem Zhy {sh:Sh} {ws:List (List Int)} (h:sh.reels.length<=6):(Qdq sh ws).reels.length<=6:=by
 unfold Qdq
 repeat' split
 .exact h
 .exact h
 .exact h
 .have e9:∀ f n,(sh.setting f n).reels=sh.reels:=fun f n=>by
   unfold Sh.setting
   (repeat' split) <;> rfl
  rw[e9];exact h
 .unfold Sh.Qpy;split
  .rename_i hc;unfold Sh.Qf2 at hc;split at hc
   .cases hc
   .rename_i hn;have h6:¬ sh.reels.length=6:=fun z=>hn (.inr z);show (sh.reels++[_]).length<=6
    rw[List.length_append];simp;omega
  .exact h
theorem Qe5 (m:Int):∀ (l:List Int) (done:List (List Int)) (cur:List Int) (x:List Int),x ∈ Qag m l done cur->x ∈ done\/x.length<=cur.length+l.length
 | [],done,cur,x,h=>by
  rw[Qag]at h;rcases List.mem_append.mp h with z | z
  .exact .inl z
  .rw[List.mem_singleton.mp z];exact .inr (by simp)
 | c::r,done,cur,x,h=>by
  rw[Qag]at h;split at h
  .rcases Qe5 m r _ _ x h with z | z
   .rcases List.mem_append.mp z with y | y
    .exact .inl y
    .rw[List.mem_singleton.mp y];exact .inr (by simp)
   .exact .inr (by simp at z ⊢;omega)
  .rcases Qe5 m r _ _ x h with z | z
   .exact .inl z
   .exact .inr (by simp at z ⊢;omega)
theorem Qsv (D:Df K mg "fill_sheet" Qgn Qb7) (T:Txt K mg CM CR CS CH) (Qc1:Ok P w K mg base "split_at" 1 Qcz (Qzd K)) (Qky:Ok P w K mg base "words_of" 2 Qeq (Zhn K))
  (Qir:Ok P w K mg base "take_line" 4 Qdf (Zm7 CS CR)) (Qcy:Ok P w K mg base "is_ended" 1 Qcx (Zpl CS CR fun s=>.bl s.ended)):Ok P w K mg base "fill_sheet" 5 Qb7 (Zm8 K CS CR):=by
 have SC:=Qsu;refine D.ok SC (fun vs H Q E h=>?_) (fun f _ A _ s H vs Q E hr h=>?_)
 .obtain ⟨b,dy,rl,ras,sh,a,ns,rfl,_⟩:=h;rfl
 .obtain ⟨b,dy,rl,ras,sh,a,ns,rfl,hs,hlen,ha,hnl,k⟩:=h;refine ⟨_,(Qb (psL (i:=2) SC.nd (pcl Qc1 (hr.M) (Qa (pv 1) (Qa (pgi T.Qqw) Qe)))) (Qb (Qav PassesOwn.never rfl (Zln rfl T.Qey (Qa (pv 2) Qe)) (Qqn rfl (Qaq (pgL (i:=3) SC.nd) (Qaq (pgL (i:=4) SC.nd) Qki))) (Qb (psL (i:=5) SC.nd (pcl Qky (hr.M) (Qa (pv 4) Qe))) (Qc (Qz (Qo Qd3 (Zk Zc rfl T.Qdp PySem.boot_len (Qa (pv 5) Qe)) Qj (Qq _)) (Qb (psL (i:=6) SC.nd (pcl Qir (hr.M) (Qa (pv 0) (Qa (pv 5) Qe)))) (Qc (Qz (Qo Qpj (pv 6) Qj (Qq _)) (Qc (Qm (Za (Qa (pv 3) (Qa (pv 6) Qe))))) Qp))) Qp)))) (Qb (Qz (Qae (Zm (pcl Qcy (hr.M) (Qa (pv 0) Qe)))) (Qc (Qm (Za (Qa (Zq Qa1 (Zk Zc rfl T.Qdp PySem.boot_len (Qa (pv 2) Qe)) Qj) (Qa (pgi T.Qd5) Qe))))) Qp) (Qc (Qm (Za Qe)))))),?_⟩;walk_at "R";refine ⟨a,ns,10,rfl,ha,hnl,fun H1 p as s1 hp hpl row fr npa=>?_⟩;walk_at "R";have nbr:∀ c,H c=none->c ≠ b/\c ≠ rl:=fun c hc=>⟨fun z=>(by rw[z,hs.obj]at hc;cases hc),fun z=>(by rw[z,hs.lst]at hc;cases hc)⟩
  have hs1:Qga CS CR H1 b dy rl ras sh:=⟨s1 _ _ hs.obj,s1 _ _ hs.lst,hs.rls.1,fun i c r h1 h2=>by obtain ⟨dr,e⟩:=hs.rls.2 i c r h1 h2;exact ⟨dr,s1 _ _ e⟩⟩
  refine ⟨p,_,rfl,SqL.of hpl,Qvf (Sq:=fun H xs=>SqL K H p xs) (c0:=1) (xs:=as.map V.ref)
   (fun i σ H'=>∃ v1 v2 v3 v4:Option V,∃ Qxu sh',σ=[some (.ref b),some (.ref a),some (.ref p),v1,v2,v3,v4]/\Qga CS CR H' b dy rl Qxu sh' /\ sh'.reels.length<=6/\(∀ d o,H1 d=some o->d ≠ b->d ≠ rl->H' d=some o) /\
    Qck ((Zr 10 ns).drop i) (1+(i:Nat)) sh' = Qa8 sh ns)
   ⟨none,none,none,none,ras,sh,rfl,hs1,hlen,fun _ _ e _ _=>e,rfl⟩ (fun i σ H' ⟨_,_,_,_,_,_,_,_,_,kp,_⟩=>SqL.of (kp _ _ hpl (nbr p hp).1 (nbr p hp).2)) ?_ ?_⟩
  .rintro i x σ H' B hx hB ⟨v1,v2,v3,v4,Qxu,sh',rfl,hs',hlen',kp,e⟩
   rw[List.getElem?_map]at hx;obtain ⟨c,hc,rfl⟩:=Option.map_eq_some_iff.mp hx;have hil:i < (Zr 10 ns).length:=by rw[<-row.1];exact (List.getElem?_eq_some_iff.mp hc).1
   have e2:(Zr 10 ns)[i]? = some (Zr 10 ns)[i]:=List.getElem?_eq_getElem hil;have hcm:=List.mem_of_getElem? hc;have hcc:H' c=some (Qah (Zr 10 ns)[i]):=kp _ _ (row.2 i c _ hc e2) (nbr c (fr c hcm)).1 (nbr c (fr c hcm)).2;have Qzf:(Zr 10 ns).drop i=(Zr 10 ns)[i]::(Zr 10 ns).drop (i+1):=List.drop_eq_getElem_cons hil;rw[Qzf,Qck]at e;have hll:(Zr 10 ns)[i].length < 100000:=by
    have z:=Qe5 10 ns [] [] (Zr 10 ns)[i] (List.getElem_mem hil);rcases z with z | z
    .simp at z
    .simp at z;omega
   have s2:Jw H' (upd H' B (.tup [.int (1+(i:Nat)),.ref c])):=fun b o e=>by rw[Ql (Qg e hB)];exact e
   have en:(1:Int)+(i:Nat)+1=1+((i+1:Nat):Int):=by omega
   refine ⟨B,_,rfl,SqT.of Qk,rfl,_,_,rfl,_,_,rfl,rfl,?_⟩;walk_at "R";refine ⟨c,_,rfl,SqL.of (s2 _ _ hcc),hll,fun H3 pw ws s3 hpw Zwj Zt5 frw=>?_⟩;have s23:=s2.trans s3;have hs3:Qga CS CR H3 b dy rl Qxu sh':=⟨s23 _ _ hs'.obj,s23 _ _ hs'.lst,hs'.rls.1,fun i c r h1 h2=>by obtain ⟨dr,e⟩:=hs'.rls.2 i c r h1 h2;exact ⟨dr,s23 _ _ e⟩⟩
   walk_at "R";refine ifB (fun h1=>?_) (fun h1=>?_)
   .have h1:¬ (Qcj (Zr 10 ns)[i]).length=0:=by
     rw[<-Zt5.1]
     have:=of_decide_eq_true h1
     simp at this;omega
    rw[if_neg h1]at e;walk_at "R";refine ⟨b,dy,rl,Qxu,sh',pw,ws,_,rfl,hs3,hlen',Zwj,Zt5,fun H4 Zu9 hs4 kp4=>?_⟩;walk_at "R";refine ifB (fun h2=>?_) (fun h2=>?_)
    .have h2:¬ Yx sh' (Qcj (Zr 10 ns)[i])=0:=by simpa using h2
     rw[if_neg h2]at e;have e4:(Qa8 sh ns).2=Qdq sh' (Qcj (Zr 10 ns)[i]):=by rw[<-e]
     have e5:(Qa8 sh ns).1=[(1:Int)+(i:Nat),Yx sh' (Qcj (Zr 10 ns)[i])]:=by rw[<-e]
     walk_at "R";refine ⟨(by show 2<=sizeLine;decide),fun q hq=>?_⟩;have s5:Jw H4 (upd H4 q (.lst [.int (1+(i:Nat)),.int (Yx sh' (Qcj (Zr 10 ns)[i]))])):=fun b o e=>by rw[Ql (Qg e hq)];exact e
     have Zrz:∀ d o,H d=some o->d ≠ b->d ≠ rl->H4 d=some o:=fun d o e h5 h6=>kp4 d o (s23 d o (kp d o (s1 d o e) h5 h6)) h5 h6;refine k _ Zu9 q ⟨s5 _ _ (by rw[e4];exact hs4.obj),s5 _ _ hs4.lst,by rw[e4];exact hs4.rls.1,fun i c r h1 h2=>?_⟩ (fun d o e h5 h6=>s5 d o (Zrz d o e h5 h6)) ?_ (by rw[Qk,e5];rfl)
     .rw[e4]at h2;obtain ⟨dr,e⟩:=hs4.rls.2 i c r h1 h2;exact ⟨dr,s5 _ _ e⟩
     .cases hH:H q with
      | none=>rfl
      | some o =>
       by_cases hqb:q=b
       .rw[hqb,hs4.obj]at hq;cases hq
       .by_cases hqr:q=rl
        .rw[hqr,hs4.lst]at hq;cases hq
        .rw[Zrz q o hH hqb hqr]at hq;cases hq
    .have h2:Yx sh' (Qcj (Zr 10 ns)[i])=0:=by simpa using h2
     rw[if_pos h2,en]at e;exact ⟨_,_,_,_,Zu9,_,rfl,hs4,Zhy hlen',fun d o e h5 h6=>kp4 d o (s23 d o (kp d o e h5 h6)) h5 h6,e⟩
   .have h1:(Qcj (Zr 10 ns)[i]).length=0:=by
     rw[<-Zt5.1]
     have:=of_decide_eq_false h1
     simp at this;simp[this]
    rw[if_pos h1,en]at e;exact ⟨_,_,_,_,Qxu,sh',rfl,hs3,hlen',fun d o e h5 h6=>s23 d o (kp d o e h5 h6),e⟩
  .rintro σ H' ⟨v1,v2,v3,v4,Qxu,sh',rfl,hs',hlen',kp,e⟩
   have e0:(Zr 10 ns).drop (as.map V.ref).length=[]:=by rw[List.length_map,row.1,List.drop_length]
   rw[e0,Qck]at e;have e4:(Qa8 sh ns).2=sh':=by rw[<-e]
   have Zva:H' p=some (.lst (as.map V.ref)):=kp _ _ hpl (nbr p hp).1 (nbr p hp).2;have Zrz:∀ d o,H d=some o->d ≠ b->d ≠ rl->H' d=some o:=fun d o e h5 h6=>kp d o (s1 d o e) h5 h6;have fin:∀ (q:Addr) (l:List Int),H' q=none->(Qa8 sh ns).1=l->Q (.ref q) (upd H' q (Qah l)):=by
    rintro q l hq rfl
    have s5:Jw H' (upd H' q (Qah (Qa8 sh ns).1)):=fun b o e=>by rw[Ql (Qg e hq)];exact e
    refine k _ Qxu q ⟨s5 _ _ (by rw[e4];exact hs'.obj),s5 _ _ hs'.lst,by rw[e4];exact hs'.rls.1,fun i c r h1 h2=>?_⟩ (fun d o e h5 h6=>s5 d o (Zrz d o e h5 h6)) ?_ Qk
    .rw[e4]at h2;obtain ⟨dr,e⟩:=hs'.rls.2 i c r h1 h2;exact ⟨dr,s5 _ _ e⟩
    .cases hH:H q with
     | none=>rfl
     | some o =>
      by_cases hqb:q=b
      .rw[hqb,hs'.obj]at hq;cases hq
      .by_cases hqr:q=rl
       .rw[hqr,hs'.lst]at hq;cases hq
       .rw[Zrz q o hH hqb hqr]at hq;cases hq
   walk_at "R";refine ⟨b,dy,rl,Qxu,sh',rfl,hs',_,rfl,?_⟩;cases h1:sh'.ended with
   | false =>
    refine Qfs ?_;rw[if_neg (by rw[h1];decide)]at e;walk_at "R";refine ⟨(by show 2<=sizeLine;decide),fun q hq=>?_⟩;refine fin q [((as.map V.ref).length:Int)+1,3] hq ?_;rw[<-e];show [_,_]=[_,_]
    congr 1
    omega
   | true =>refine Qf7 ?_;rw[if_pos h1]at e;refine ⟨Nat.zero_le _,fun q hq=>?_⟩;exact fin q [] hq (by rw[<-e])
noncomputable abbrev Qao:Stmt:=inClass (top 6) 0
noncomputable abbrev Qp0:List Str:=["self"]
noncomputable abbrev Jj:List Str:=["self"]
theorem Qnx:Qn Qp0 Jj (Qi Qao):=by walk_at "sc"
noncomputable abbrev Qb8:Stmt:=inClass (top 30) 0
noncomputable abbrev Qvn:List Str:=["self"]
noncomputable abbrev Qa0:List Str:=["self"]
theorem Qsw:Qn Qvn Qa0 (Qi Qb8):=by walk_at "sc"
noncomputable abbrev Qa9:Stmt:=inClass (top 30) 1
noncomputable abbrev Qsx:List Str:=["self","sheet"]
noncomputable abbrev Jc:List Str:=["self","sheet"]
theorem Qp1:Qn Qsx Jc (Qi Qa9):=by walk_at "sc"
theorem Qju {H:Hp} {a b:Addr} {o:HO}:upd H a o b=none ↔ b ≠ a/\H b=none:=by
 constructor
 .intro h;by_cases e:b=a
  .rw[e,Qk]at h;cases h
  .exact ⟨e,by rw[Ql e]at h;exact h⟩
 .rintro ⟨h1,h2⟩
  rw[Ql h1];exact h2
def mc0:Mc:=⟨-1,0,false,false,0,0,0,false,false,false,false,false⟩
def Qvo (CM:Addr):Sp:=fun vs H Q _=>∃ p dx,vs=[.ref p]/\H p=some (.ins CM dx [])/\Q .non (upd H p (.ins CM dx (mF mc0)))
theorem Zdd (D:DfI K mg "Machine" "Machine.__init__" CM Qao Jj) (T:Txt K mg CM CR CS CH):OkI P w K mg base "Machine" CM 1 Jj (Qvo CM):=by
 have SC:=Qnx;refine D.ok SC (fun vs H Q E h=>?_) (fun f _ A _ s H vs Q E hr h=>?_)
 .obtain ⟨p,dx,rfl,_⟩:=h;rfl
 .obtain ⟨p,dx,rfl,hp,k⟩:=h;refine ⟨_,(Qb (Qu (pv 0) (pgi T.Qai) rfl) (Qb (Qu (pv 0) Qj rfl) (Qb (Qu (pv 0) Yb rfl) (Qb (Qu (pv 0) Yb rfl) (Qb (Qu (pv 0) (pgi T.Qex) rfl) (Qb (Qu (pv 0) Qj rfl) (Qb (Qu (pv 0) Qj rfl) (Qb (Qu (pv 0) Yb rfl) (Qb (Qu (pv 0) Yb rfl) (Qb (Qu (pv 0) Yb rfl) (Qb (Qu (pv 0) Yb rfl) (Qc (Qu (pv 0) Yb rfl))))))))))))),?_⟩;walk_at "R";exact Qbk k rfl (by simp only[Zb];rfl)
def hs0 (so:Option Sh):Hs:=⟨so,mc0,mc0,0,0,0,0,0,[],[],0⟩
def Zwk (CS CR:Addr) (H:Hp) (sv:V) (sb sdy srl:Addr) (Qqy:List Addr):Option Sh->Prop
 | none=>sv = .non
 | some sh=>sv = .ref sb/\Qga CS CR H sb sdy srl Qqy sh
def HFs (fs:List (Str × V)):Prop:=fs=[]\/∃ v0 v1 v2 v3 v4 v5 v6 v7 v8 v9,fs=hF v0 v1 v2 v3 v4 v5 v6 v7 v8 v9
def Qzr (CM CR CS CH:Addr):Sp:=fun vs H Q _=>∃ h dh fs sv sb sdy srl Qqy so,vs=[.ref h,sv]/\H h=some (.ins CH dh fs)/\HFs fs/\Zwk CS CR H sv sb sdy srl Qqy so /\
 ∀ A H',Jx CM CR CS CH H' A (hs0 so)->A.h=h->(∀ b o,H b=some o->b ≠ h->H' b=some o)->(∀ b ∈ A.foot,b=h\/H b=none)->Q .non H'
theorem Zlo (D:DfM K "begin" "House.begin" CH Qa9 Jc) (T:Txt K mg CM CR CS CH) (Qjv:OkI P w K mg base "Machine" CM 1 Jj (Qvo CM)):OkM P w K mg base "begin" CH 3 Jc (Qzr CM CR CS CH):=by
 have SC:=Qp1;refine D.ok SC (fun vs H Q E h=>?_) (fun f _ A _ s H vs Q E hr h=>?_)
 .obtain ⟨h,dh,fs,sv,sb,sdy,srl,Qqy,so,rfl,_⟩:=h;rfl
 .obtain ⟨h,dh,fs,sv,sb,sdy,srl,Qqy,so,rfl,hh,hf,hso,k⟩:=h;have fin:∀ (o1:HO) (x0 d0 x1 d1 ml ll rl:Addr),H x0=none->H d0=none->d0 ≠ x0->H x1=none->H d1=none->d1 ≠ x1->x0 ≠ x1->x0 ≠ d1->d0 ≠ x1->d0 ≠ d1->H ml=none->H ll=none->H rl=none->h ≠ x0->h ≠ d0->h ≠ x1->h ≠ d1 ->
    h ≠ ml->h ≠ ll->h ≠ rl->ml ≠ ll->ml ≠ rl->ll ≠ rl->x0 ≠ ml->x0 ≠ ll->x0 ≠ rl->x1 ≠ ml->x1 ≠ ll->x1 ≠ rl->∀ H',H' h=some (.ins CH dh (hF sv (.ref ml) (.int 0) (.int 0) (.int 0) (.int 0) (.int 0) (.ref ll) (.ref rl) (.int 0)))->H' x0=some (.ins CM d0 (mF mc0))->H' x1=some (.ins CM d1 (mF mc0)) ->
    H' ml=some (.lst [.ref x0,.ref x1])->H' ll=some (.lst [])->H' rl=some (.lst [])->(∀ b o,H b=some o->b ≠ h->H' b=some o)->Q .non H':=by
   intro o1 x0 d0 x1 d1 ml ll rl a1 a2 a3 a4 a5 a6 a7 a8 a9 a10 a11 a12 a13 a14 a15 a16 a17 a18 a19 a20 a21 a22 a23 a24 a25 a26 a27 a28 a29 H' e1 e2 e3 e4 e5 e6 kp;refine k ⟨h,dh,ml,x0,d0,x1,d1,ll,rl,[],[],sv,sb,sdy,srl,Qqy⟩ H' ⟨e1,e4,e2,e3,a7,e5,⟨rfl,by simp⟩,e6,⟨rfl,by simp⟩,a21,a22,a23,by simp,?_⟩ rfl kp ?_
   .cases so with
    | none=>exact hso
    | some sh =>
     have hs:=hso.2;have nh:∀ c o,H c=some o->o ≠ .ins CH dh fs->H' c=some o:=fun c o e n=>kp c o e (Yu e hh n);have ln:∀ C' d' fs',fs'.length=6\/fs'.length=5->HO.ins C' d' fs' ≠ .ins CH dh fs:=fun C' d' fs' hl=>by
      refine Qr8 ?_;rcases hf with z | ⟨v0,v1,v2,v3,v4,v5,v6,v7,v8,v9,z⟩
      .rw[z];show fs'.length ≠ 0;omega
      .rw[z];show fs'.length ≠ 10;omega
     refine ⟨hso.1,⟨nh _ _ hs.obj (ln _ _ _ (.inl rfl)),nh _ _ hs.lst (by intro z;cases z),hs.rls.1,fun i c r h1 h2=>?_⟩,fun z=>?_,fun z=>?_⟩
     .obtain ⟨dr,e⟩:=hs.rls.2 i c r h1 h2;exact ⟨dr,nh _ _ e (ln _ _ _ (.inr rfl))⟩
     .have z:srl=ll:=z;rw[<-z,hs.lst]at a12;cases a12
     .have z:srl=rl:=z;rw[<-z,hs.lst]at a13;cases a13
   .intro b hb;unfold Ad.foot at hb;simp at hb;rcases hb with z | z | z | z | z
    .exact .inl z
    .rw[z];exact .inr a1
    .rw[z];exact .inr a4
    .rw[z];exact .inr a12
    .rw[z];exact .inr a13
  refine ⟨_,(Qb (Qu (pv 0) (pv 1) rfl) (Qb (Qu (pv 0) (Za (Qa (Zs5 Qjv (hr.M)) (Qa (Zs5 Qjv (hr.M)) Qe))) rfl) (Qb (Qu (pv 0) Qj rfl) (Qb (Qu (pv 0) (pgi T.Qf8) rfl) (Qb (Qu (pv 0) Qj rfl) (Qb (Qu (pv 0) Qj rfl) (Qb (Qu (pv 0) Qj rfl) (Qb (Qu (pv 0) (Za Qe) rfl) (Qb (Qu (pv 0) (Za Qe) rfl) (Qc (Qu (pv 0) Qj rfl))))))))))),?_⟩;rcases hf with rfl | ⟨v0,v1,v2,v3,v4,v5,v6,v7,v8,v9,rfl⟩
  all_goals
   walk_at "R";intro x0 d0 hx0 hd0 n0;refine ⟨x0,d0,rfl,Qk,rfl,?_⟩;intro x1 d1 hx1 hd1 n1;refine ⟨x1,d1,rfl,Qk,rfl,?_⟩;refine ⟨(by show 2<=sizeLine;decide),fun ml hml=>?_⟩;simp only[Qju]at hx0 hd0 hx1 hd1 hml;have m1:x0 ≠ h:=hx0.1;have m2:d0 ≠ h:=hd0.1;have m3:x1 ≠ h:=by simp[hx1]
   have m4:d1 ≠ h:=by simp[hd1]
   have m5:ml ≠ h:=by simp[hml]
   have m6:=Ne.symm m1;have m7:=Ne.symm m2;have m8:=Ne.symm m3;have m9:=Ne.symm m4;have m10:=Ne.symm m5;walk_at "R";simp only[Zb];refine ⟨Nat.zero_le _,fun ll hll=>?_⟩;simp only[Qju]at hll;have m11:ll ≠ h:=hll.1;have m12:=Ne.symm m11;walk_at "R";refine ⟨Nat.zero_le _,fun rl hrl=>?_⟩;simp only[Qju]at hrl;have m13:rl ≠ h:=hrl.1;have m14:=Ne.symm m13;walk_at "R";simp only[Zb];obtain ⟨p1,p2⟩:=hx0;obtain ⟨p3,p4⟩:=hd0;have q1:x1 ≠ x0:=by simp[hx1]
   have q2:x1 ≠ d0:=by simp[hx1]
   have q3:H x1=none:=by simp[hx1]
   have q4:d1 ≠ x0:=by simp[hd1]
   have q5:d1 ≠ d0:=by simp[hd1]
   have q6:H d1=none:=by simp[hd1]
   have q7:ml ≠ x1:=by simp[hml]
   have q8:ml ≠ d1:=by simp[hml]
   have q9:ml ≠ x0:=by simp[hml]
   have q10:ml ≠ d0:=by simp[hml]
   have q11:H ml=none:=by simp[hml]
   have q12:ll ≠ ml:=by simp[hll]
   have q13:ll ≠ x1:=by simp[hll]
   have q14:ll ≠ d1:=by simp[hll]
   have q15:ll ≠ x0:=by simp[hll]
   have q16:ll ≠ d0:=by simp[hll]
   have q17:H ll=none:=by simp[hll]
   have q18:rl ≠ ll:=by simp[hrl]
   have q19:rl ≠ ml:=by simp[hrl]
   have q20:rl ≠ x1:=by simp[hrl]
   have q21:rl ≠ d1:=by simp[hrl]
   have q22:rl ≠ x0:=by simp[hrl]
   have q23:rl ≠ d0:=by simp[hrl]
   have q24:H rl=none:=by simp[hrl]
   refine fin (.lst []) x0 d0 x1 d1 ml ll rl p2 p4 n0 q3 q6 n1 (Ne.symm q1) (Ne.symm q4) (Ne.symm q2) (Ne.symm q5) q11 q17 q24 m6 m7 m8 m9 m10 m12 m14 (Ne.symm q12) (Ne.symm q19) (Ne.symm q18) (Ne.symm q9) (Ne.symm q15) (Ne.symm q22) (Ne.symm q7) (Ne.symm q13) (Ne.symm q20) _ Qk ?_ ?_ ?_ ?_ ?_ ?_
   .simp only[upd,if_neg m1,if_neg m2,if_neg m3,if_neg m4,if_neg m5,if_neg (Ne.symm q1),if_neg (Ne.symm q4),if_neg (Ne.symm q9),if_neg (Ne.symm q15),if_neg (Ne.symm q22),if_true]
   .simp only[upd,if_neg m3,if_neg (Ne.symm q7),if_neg (Ne.symm q13),if_neg (Ne.symm q20),if_true]
   .simp only[upd,if_neg m5,if_neg (Ne.symm q12),if_neg (Ne.symm q19),if_true]
   .simp only[upd,if_neg m11,if_neg (Ne.symm q18),if_true]
   .simp only[upd,if_neg m13,if_true]
   .intro b o e hb;have r1:=Qg e p2;have r2:=Qg e p4;have r3:=Qg e q3;have r4:=Qg e q6;have r5:=Qg e q11;have r6:=Qg e q17;have r7:=Qg e q24;simp only[upd,if_neg hb,if_neg r1,if_neg r2,if_neg r3,if_neg r4,if_neg r5,if_neg r6,if_neg r7];exact e
def Zhz (CM CR CS CH:Addr):Sp:=fun vs H Q _=>∃ h dh,vs=[.ref h]/\H h=some (.ins CH dh []) /\
 ∀ A H',Jx CM CR CS CH H' A (hs0 none)->A.h=h->(∀ b o,H b=some o->b ≠ h->H' b=some o)->(∀ b ∈ A.foot,b=h\/H b=none)->Q .non H'
theorem Zlp (D:DfI K mg "House" "House.__init__" CH Qb8 Qa0) (T:Txt K mg CM CR CS CH) (Qkz:OkM P w K mg base "begin" CH 3 Jc (Qzr CM CR CS CH)):OkI P w K mg base "House" CH 4 Qa0 (Zhz CM CR CS CH):=by
 have SC:=Qsw;refine D.ok SC (fun vs H Q E h=>?_) (fun f _ A _ s H vs Q E hr h=>?_)
 .obtain ⟨h,dh,rfl,_⟩:=h;rfl
 .obtain ⟨h,dh,rfl,hh,k⟩:=h;refine ⟨_,(Qc (Qx (pmt (pv 0) T.clH Qkz (hr.M) (Qa Qtz Qe)))),?_⟩;walk_at "R";refine ⟨h,dh,[],rfl,hh,rfl,?_⟩;refine ⟨h,dh,[],.non,0,0,0,[],none,rfl,hh,.inl rfl,rfl,fun A' H' hA e kp fr=>k A' H' hA e kp fr⟩
noncomputable abbrev Qgp:Stmt:=top 31
noncomputable abbrev Qvp:List Str:=["number"]
noncomputable abbrev Zp:List Str:=["number"]
theorem Qsy:Qn Qvp Zp (Qi Qgp):=by walk_at "sc"
noncomputable abbrev Qed:Stmt:=top 116
noncomputable abbrev Qp2:List Str:=["house","number"]
noncomputable abbrev Ys:List Str:=["house","number"]
theorem Qny:Qn Qp2 Ys (Qi Qed):=by walk_at "sc"
noncomputable abbrev Qnz:Stmt:=top 67
noncomputable abbrev Zh0:List Str:=["sheet","number"]
noncomputable abbrev Qdg:List Str:=["sheet","number"]
theorem Zde:Qn Zh0 Qdg (Qi Qnz):=by walk_at "sc"
noncomputable abbrev Qee:Stmt:=top 119
noncomputable abbrev Qp3:List Str:=["sheet","reel","lead"]
noncomputable abbrev Qap:List Str:=["sheet","reel","lead"]
theorem Qn0:Qn Qp3 Qap (Qi Qee):=by walk_at "sc"
noncomputable abbrev Qe6:Stmt:=top 120
noncomputable abbrev Qsz:List Str:=["house","numbers","number","reel","lead","refusal","machine"]
noncomputable abbrev Qcr:List Str:=["house","numbers"]
theorem Qp4:Qn Qsz Qcr (Qi Qe6):=by walk_at "sc"
noncomputable abbrev Qdh:Stmt:=top 121
noncomputable abbrev Qn1:List Str:=["house","numbers","number","refusal","machine"]
noncomputable abbrev Qba:List Str:=["house","numbers"]
theorem Qmf:Qn Qn1 Qba (Qi Qdh):=by walk_at "sc"
noncomputable abbrev Qn2:Stmt:=top 122
noncomputable abbrev Zh1:List Str:=["house","numbers","number","frame","machine"]
noncomputable abbrev Qjw:List Str:=["house","numbers"]
theorem Zdf:Qn Zh1 Qjw (Qi Qn2):=by walk_at "sc"
noncomputable abbrev Qis:Stmt:=top 123
noncomputable abbrev Qzs:List Str:=["house","numbers"]
noncomputable abbrev Qe7:List Str:=["house","numbers"]
theorem Qvq:Qn Qzs Qe7 (Qi Qis):=by walk_at "sc"
noncomputable abbrev Qgq:Stmt:=top 125
noncomputable abbrev Qvr:List Str:=["house","numbers","machine"]
noncomputable abbrev Qdx:List Str:=["house","numbers"]
theorem Qs0:Qn Qvr Qdx (Qi Qgq):=by walk_at "sc"
noncomputable abbrev Qit:Stmt:=top 126
noncomputable abbrev Qzt:List Str:=["house","numbers","machine"]
noncomputable abbrev Qe8:List Str:=["house","numbers"]
theorem Qvs:Qn Qzt Qe8 (Qi Qit):=by walk_at "sc"
noncomputable abbrev Qef:Stmt:=top 127
noncomputable abbrev Qp5:List Str:=["house","numbers","machine"]
noncomputable abbrev Qbv:List Str:=["house","numbers"]
theorem Qn3:Qn Qp5 Qbv (Qi Qef):=by walk_at "sc"
noncomputable abbrev Qiu:Stmt:=top 128
noncomputable abbrev Qzu:List Str:=["house","numbers","machine"]
noncomputable abbrev Qe9:List Str:=["house","numbers"]
theorem Qvt:Qn Qzu Qe9 (Qi Qiu):=by walk_at "sc"
def isM (m:Int):Bool:=decide (m=0)||decide (m=1)
theorem isM.Qdo {m:Int} (h:isM m=true):Qdo m:=by unfold isM at h;simp at h;exact h
def Qp6:Sp:=fun vs H Q _=>∃ m:Int,vs=[.int m]/\Q (.bl (isM m)) H
theorem Qs1 (D:Df K mg "is_machine" Qgp Zp) (T:Txt K mg CM CR CS CH):Ok P w K mg base "is_machine" 1 Zp Qp6:=by
 have SC:=Qsy;refine D.ok SC (fun vs H Q E h=>?_) (fun f _ A _ s H vs Q E hr h=>?_)
 .obtain ⟨m,rfl,_⟩:=h;rfl
 .obtain ⟨m,rfl,k⟩:=h;refine ⟨_,(Qc (Qm (Zes (Yg Yc (pv 0) Qj (Qq _)) (Qdu (Yg Yc (pv 0) Qj (Qq _)))))),?_⟩;walk_at "go"
  all_goals exact Yz k (by simp_all [isM])
def Hs.busy (x:Hs) (m:Int):Bool:=x.going&&decide (x.active=m)
def Hs.Qq5 (x:Hs) (m:Int):Int:=if x.busy m=true then -3 else if ¬ (x.mc m).phase=0 then -4 else 0
theorem Qk0 {x:Hs} {m:Int} {r:Hs × List Int} (h:¬ x.Qq5 m=0):(if x.busy m=true then (x,[-3]) else if ¬ (x.mc m).phase=0 then (x,[-4]) else r)=(x,[x.Qq5 m]):=by
 unfold Hs.Qq5 at h ⊢;by_cases h1:x.busy m=true
 .simp only[if_pos h1]
 .by_cases h2:¬ (x.mc m).phase=0
  .simp only[if_neg h1,if_pos h2]
  .exact absurd (by rw[if_neg h1,if_neg h2]) h
theorem Qzv {x:Hs} {m:Int} {r:Hs × List Int} (h:x.Qq5 m=0):(if x.busy m=true then (x,[-3]) else if ¬ (x.mc m).phase=0 then (x,[-4]) else r)=r:=by
 unfold Hs.Qq5 at h;by_cases h1:x.busy m=true
 .rw[if_pos h1]at h;exact absurd h (by decide)
 .by_cases h2:¬ (x.mc m).phase=0
  .rw[if_neg h1,if_pos h2]at h;exact absurd h (by decide)
  .rw[if_neg h1,if_neg h2]
def Zbq (CM CR CS CH:Addr):Sp:=fun vs H Q _=>∃ A x,∃ m:Int,vs=[.ref A.h,.int m]/\Jx CM CR CS CH H A x/\Qdo m/\Q (.int (x.Qq5 m)) H
theorem Qn4 (D:Df K mg "film_refusal" Qed Ys) (T:Txt K mg CM CR CS CH) (Zx:Ok P w K mg base "is_going" 1 Jz (Qf0 CM CR CS CH (fun _=>True) fun _ x=>.bl x.going)):Ok P w K mg base "film_refusal" 2 Ys (Zbq CM CR CS CH):=by
 have SC:=Qny;refine D.ok SC (fun vs H Q E h=>?_) (fun f _ A _ s H vs Q E hr h=>?_)
 .obtain ⟨A,x,m,rfl,_⟩:=h;rfl
 .obtain ⟨B,x,m,rfl,hh,h01,k⟩:=h;have ho:=hh.obj;have ha:=hh.mc m;refine ⟨_,(Qb (Qz (PW.pt (Qho (Zm (pcl Zx (hr.M) (Qa (pv 0) Qe))) (Qd2 (Qo Yc (Qh (pv 0) rfl) (pv 1) (Qq _))))) (Qc (Qm (pgi T.Qm9))) Qp) (Qb (Qz (Qo Qpj (Qh (Zf Qt (Qh (pv 0) rfl) (pv 1) (fun _ _=>rfl)) rfl) (pgi T.Qex) (Qq _)) (Qc (Qm (pgi T.Qd4))) Qp) (Qc (Qm Qj)))),?_⟩;walk_at "R";refine ⟨B,x,rfl,hh,trivial,_,rfl,ifB (fun h1=>?_) (fun h1=>?_)⟩
  .walk_at "R";refine ifB (fun h2=>?_) (fun h2=>?_)
   .have hb:x.busy m=true:=by unfold Hs.busy;rw[h1];simpa using h2
    walk_at "R";exact Qfz k (by unfold Hs.Qq5;rw[if_pos hb])
   .have hb:¬ x.busy m=true:=by
     have h2:¬ x.active=m:=by simpa using h2
     unfold Hs.busy;simp[h2]
    walk_at "R";refine ⟨B.ml,_,_,_,rfl,rfl,SqL.of hh.ml,Zbh h01,?_⟩;walk_at "R";refine ifB (fun h3=>?_) (fun h3=>?_)
    .have h3:¬ (x.mc m).phase=0:=by simpa using h3
     walk_at "R";exact Qfz k (by unfold Hs.Qq5;rw[if_neg hb,if_pos h3])
    .have h3:¬ ¬ (x.mc m).phase=0:=by simpa using h3
     walk_at "R";exact Qfz k (by unfold Hs.Qq5;rw[if_neg hb,if_neg h3])
  .have hb:¬ x.busy m=true:=by unfold Hs.busy;simp[h1]
   refine Qf7 ?_;walk_at "R";refine ⟨B.ml,_,_,_,rfl,rfl,SqL.of hh.ml,Zbh h01,?_⟩;walk_at "R";refine ifB (fun h3=>?_) (fun h3=>?_)
   .have h3:¬ (x.mc m).phase=0:=by simpa using h3
    walk_at "R";exact Qfz k (by unfold Hs.Qq5;rw[if_neg hb,if_pos h3])
   .have h3:¬ ¬ (x.mc m).phase=0:=by simpa using h3
    walk_at "R";exact Qfz k (by unfold Hs.Qq5;rw[if_neg hb,if_neg h3])
def Sh.isR (s:Sh) (n:Int):Bool:=decide (0<=n)&&decide (n < s.reels.length)
def Zlq (CS CR:Addr):Sp:=fun vs H Q _=>∃ b dy rl ras sh,∃ n:Int,vs=[.ref b,.int n]/\Qga CS CR H b dy rl ras sh/\Q (.bl (sh.isR n)) H
theorem Zdg (D:Df K mg "is_reel" Qnz Qdg) (T:Txt K mg CM CR CS CH):Ok P w K mg base "is_reel" 1 Qdg (Zlq CS CR):=by
 have SC:=Zde;refine D.ok SC (fun vs H Q E h=>?_) (fun f _ A _ s H vs Q E hr h=>?_)
 .obtain ⟨b,dy,rl,ras,sh,n,rfl,_⟩:=h;rfl
 .obtain ⟨b,dy,rl,ras,sh,n,rfl,hs,k⟩:=h;have ho:=hs.obj;have hl:=hs.lst;have el:((ras.map V.ref).length:Int)=sh.reels.length:=by rw[List.length_map,hs.rls.1]
  refine ⟨_,(Qc (Qm (Qbz (Yg Qrr (pv 1) Qj (Qq _)) (Qdu (Yg Qh0 (pv 1) (Zk Zc rfl T.Qdp PySem.boot_len (Qa (Qh (pv 0) rfl) Qe)) (Qq _)))))),?_⟩;walk_at "R";refine ifB (fun h1=>?_) (fun h1=>?_)
  .walk_at "R";rw[el]
   exact Yz k (by have h1:0<=n:=by simpa using h1
                  unfold Sh.isR;simp[h1])
  .exact Yz k (by have h1:¬ 0<=n:=by simpa using h1
                  unfold Sh.isR;simp[h1])
def Sh.thr (s:Sh) (reel lead:Int):Bool:=(decide (0<=reel)&&decide (reel < s.reels.length))&&(decide (1 - (s.rl reel).frames<=lead)&&decide (lead<=s.leader))
def Zr0 (CS CR:Addr):Sp:=fun vs H Q _=>∃ b dy rl ras sh,∃ reel lead:Int,vs=[.ref b,.int reel,.int lead]/\Qga CS CR H b dy rl ras sh/\Q (.bl (sh.thr reel lead)) H
theorem Qn5 (D:Df K mg "is_threading" Qee Qap) (T:Txt K mg CM CR CS CH) (Qbb:Ok P w K mg base "is_reel" 1 Qdg (Zlq CS CR)):Ok P w K mg base "is_threading" 2 Qap (Zr0 CS CR):=by
 have SC:=Qn0;refine D.ok SC (fun vs H Q E h=>?_) (fun f _ A _ s H vs Q E hr h=>?_)
 .obtain ⟨b,dy,rl,ras,sh,reel,lead,rfl,_⟩:=h;rfl
 .obtain ⟨b,dy,rl,ras,sh,reel,lead,rfl,hs,k⟩:=h;have ho:=hs.obj;have hl:=hs.lst;refine ⟨_,(Qb (Qz (Qae (Zm (pcl Qbb (hr.M) (Qa (pv 0) (Qa (pv 1) Qe))))) (Qc (Qm Yb)) Qp) (Qc (Qm (Qbz (Yg Qrr (pv 2) (Zq Qaw Qj (Qh (Zf Qt (Qh (pv 0) rfl) (pv 1) (fun _ _=>rfl)) rfl)) (Qq _)) (Qdu (Yg Zq0 (pv 2) (Qh (pv 0) rfl) (Qq _))))))),?_⟩;walk_at "R";refine ⟨b,dy,rl,ras,sh,reel,rfl,hs,_,rfl,?_⟩;cases e0:sh.isR reel with
  | false =>refine Qfs ?_;exact Yz k (by unfold Sh.thr;unfold Sh.isR at e0;rw[e0];rfl)
  | true =>
   refine Qf7 ?_;unfold Sh.isR at e0;have e1:0<=reel/\reel < sh.reels.length:=by simpa using e0
   obtain ⟨c,dr,hc,hr2⟩:=hs.reel (n:=reel) e1.1 e1.2;walk_at "R";refine ⟨rl,_,_,_,rfl,rfl,SqL.of hs.lst,hc,?_⟩;walk_at "go"
   all_goals exact Yz k (by unfold Sh.thr;rw[e0];first | (simp_all;done) | (simp_all;omega))
theorem Jx.Qjx {H:Hp} {A:Ad} {x:Hs} {b:Addr} (h:Jx CM CR CS CH H A x) (m:b ∈ A.foot):∃ o,H b=some o:=by
 unfold Ad.foot at m;rcases List.mem_append.mp m with z | z
 .simp at z;rcases z with z | z | z | z | z
  .rw[z];exact ⟨_,h.obj⟩
  .rw[z];exact ⟨_,h.m0⟩
  .rw[z];exact ⟨_,h.m1⟩
  .rw[z];exact ⟨_,h.log⟩
  .rw[z];exact ⟨_,h.runs⟩
 .obtain ⟨y,e⟩:=h.rns.mem z;exact ⟨_,e⟩
def Jn (K:FG) (CM CR CS CH:Addr) (n:Nat) (pre:Hs->Prop) (g:Hs->List Int->Hs × List Int):Sp:=fun vs H Q _=>∃ A x np ns,vs=[.ref A.h,.ref np]/\Jx CM CR CS CH H A x/\SqL K H np (ns.map V.int)/\ns.length=n/\pre x /\
 ∀ A' H' q,Jx CM CR CS CH H' A' (g x ns).1->Step H H' A A' -> (∀ b o,H b=some o->b ∉ A.foot->b ≠ q)->H' q=some (Qah (g x ns).2)->q ∉ A'.foot->Q (.ref q) H'
theorem Qw {H H1:Hp} {A A1:Ad} {x1:Hs} {r:Hs × List Int} {l:List Int} {Q:VK} (hh:Jx CM CR CS CH H1 A1 x1) (st:Step H H1 A A1) (e1:r.1=x1) (e2:r.2=l)
  (k:∀ A' H' q,Jx CM CR CS CH H' A' r.1->Step H H' A A' -> (∀ b o,H b=some o->b ∉ A.foot->b ≠ q)->H' q=some (Qah r.2)->q ∉ A'.foot->Q (.ref q) H'):∀ q,H1 q=none->Q (.ref q) (upd H1 q (.lst (l.map V.int))):=by
 intro q hq;subst e1 e2;have s1:Jw H1 (upd H1 q (.lst (r.2.map V.int))):=fun b o e=>by rw[Ql (Qg e hq)];exact e
 refine k A1 _ q (hh.same s1) (st.trans (Step.same s1)) (fun b o e hb z=>?_) Qk fun m=>?_
 .rw[<-z,st.keep b o e hb]at hq;cases hq
 .obtain ⟨o,e⟩:=hh.Qjx m;rw[hq]at e;cases e
structure Qbf (x:Hs):Prop where
 sh:x.sheet=some x.sh
 r0:x.sh.has x.m0.reel
 r1:x.sh.has x.m1.reel
 a01:Qdo x.active
 room:x.log.length < 1000000
 Zpr:x.runs.length < 300000
theorem Qbf.x {x:Hs} (g:Qbf x):Qd6 x:=⟨g.sh,g.r0,g.r1,g.a01,Nat.lt_trans g.room (by decide)⟩
def Qgr (x:Hs) (ns:List Int):Hs × List Int:=if isM (ns.getD 0 0)=true then (x.setM (ns.getD 0 0) { x.mc (ns.getD 0 0) with seized:=true,Qbi:=false,phase:=0,count:=0 },[0]) else (x,[-1])
theorem Qjy {ns:List Int} (h:ns.length=1):∃ m,ns=[m]:=by
 match ns,h with
 | [m],_=>exact ⟨m,rfl⟩
theorem Qs2 (D:Df K mg "call_seize" Qgq Qdx) (T:Txt K mg CM CR CS CH) (Qv:Ok P w K mg base "is_machine" 1 Zp Qp6) (Zt:Ok P w K mg base "halt_motor" 1 Jb (Qjn CM Mc.rest)) :
  Ok P w K mg base "call_seize" 2 Qdx (Jn K CM CR CS CH 1 Qbf Qgr):=by
 have SC:=Qs0;refine D.ok SC (fun vs H Q E h=>?_) (fun f _ A _ s H vs Q E hr h=>?_)
 .obtain ⟨A,x,np,ns,rfl,_⟩:=h;rfl
 .obtain ⟨B,x,np,ns,rfl,hh,hn,hl,g,k⟩:=h;obtain ⟨m,rfl⟩:=Qjy hl;have ho:=hh.obj;refine ⟨_,(Qb (Qz (Qae (Zm (pcl Qv (hr.M) (Qa (Zf Qt (pv 1) Qj (fun _ _=>rfl)) Qe)))) (Qc (Qm (Za (Qa (pgi T.Zd) Qe)))) Qp) (Qb (psL (i:=2) SC.nd (Zf Qt (Qh (pv 0) rfl) (Zf Qt (pv 1) Qj (fun _ _=>rfl)) (fun _ _=>rfl))) (Qb (Qu (pv 2) Yb rfl) (Qb (Qu (pv 2) Yb rfl) (Qb (Qx (pcl Zt (hr.M) (Qa (pv 2) Qe))) (Qc (Qm (Za (Qa Qj Qe))))))))),?_⟩;walk_at "R";refine ⟨np,_,_,.int m,rfl,rfl,hn,at_of (j:=0) rfl rfl,?_⟩;refine ⟨m,rfl,_,rfl,?_⟩;cases h1:isM m with
  | false =>
   refine Qfs ?_;refine ⟨sz1,Qw (l:=[-1]) hh (Step.refl _ _) ?_ ?_ k⟩
   .unfold Qgr;rw[if_neg (by simp[h1])]
   .unfold Qgr;rw[if_neg (by simp[h1])]
  | true =>
   refine Qf7 ?_;have ha:=hh.mc m;walk_at "R";refine ⟨np,_,_,.int m,rfl,rfl,hn,at_of (j:=0) rfl rfl,?_⟩;refine ⟨B.ml,_,_,_,rfl,rfl,SqL.of hh.ml,Zbh (isM.Qdo h1),?_⟩;walk_at "R";refine ⟨B.am m,B.dm m,_,rfl,Qk,?_⟩;simp only[Zb];refine ⟨sz1,Qw (l:=[0]) (hh.setM m { x.mc m with seized:=true,Qbi:=false,phase:=0,count:=0 }) (Step.Qi5 (B.Yn m)) ?_ ?_ k⟩
   .unfold Qgr;rw[if_pos (by simpa using h1)];rfl
   .unfold Qgr;rw[if_pos (by simpa using h1)]
def Qn6 (x:Hs) (ns:List Int):Hs × List Int:=if isM (ns.getD 0 0)=true then (x.setM (ns.getD 0 0) { x.mc (ns.getD 0 0) with dead:=true },[0]) else (x,[-1])
theorem Qn7 (D:Df K mg "call_lampout" Qef Qbv) (T:Txt K mg CM CR CS CH) (Qv:Ok P w K mg base "is_machine" 1 Zp Qp6):Ok P w K mg base "call_lampout" 2 Qbv (Jn K CM CR CS CH 1 Qbf Qn6):=by
 have SC:=Qn3;refine D.ok SC (fun vs H Q E h=>?_) (fun f _ A _ s H vs Q E hr h=>?_)
 .obtain ⟨A,x,np,ns,rfl,_⟩:=h;rfl
 .obtain ⟨B,x,np,ns,rfl,hh,hn,hl,g,k⟩:=h;obtain ⟨m,rfl⟩:=Qjy hl;have ho:=hh.obj;refine ⟨_,(Qb (Qz (Qae (Zm (pcl Qv (hr.M) (Qa (Zf Qt (pv 1) Qj (fun _ _=>rfl)) Qe)))) (Qc (Qm (Za (Qa (pgi T.Zd) Qe)))) Qp) (Qb (psL (i:=2) SC.nd (Zf Qt (Qh (pv 0) rfl) (Zf Qt (pv 1) Qj (fun _ _=>rfl)) (fun _ _=>rfl))) (Qb (Qu (pv 2) Yb rfl) (Qc (Qm (Za (Qa Qj Qe))))))),?_⟩;walk_at "R";refine ⟨np,_,_,.int m,rfl,rfl,hn,at_of (j:=0) rfl rfl,?_⟩;refine ⟨m,rfl,_,rfl,?_⟩;cases h1:isM m with
  | false =>
   refine Qfs ?_;refine ⟨sz1,Qw (l:=[-1]) hh (Step.refl _ _) ?_ ?_ k⟩
   .unfold Qn6;rw[if_neg (by simp[h1])]
   .unfold Qn6;rw[if_neg (by simp[h1])]
  | true =>
   refine Qf7 ?_;have ha:=hh.mc m;walk_at "R";refine ⟨np,_,_,.int m,rfl,rfl,hn,at_of (j:=0) rfl rfl,?_⟩;refine ⟨B.ml,_,_,_,rfl,rfl,SqL.of hh.ml,Zbh (isM.Qdo h1),?_⟩;walk_at "R";refine ⟨sz1,Qw (l:=[0]) (hh.setM m { x.mc m with dead:=true }) (Step.Qi5 (B.Yn m)) ?_ ?_ k⟩
   .unfold Qn6;rw[if_pos (by simpa using h1)];rfl
   .unfold Qn6;rw[if_pos (by simpa using h1)]
def Qk1 (x:Hs) (ns:List Int):Hs × List Int:=if isM (ns.getD 0 0)=true then (if (x.mc (ns.getD 0 0)).phase=0 then (x.setM (ns.getD 0 0) { x.mc (ns.getD 0 0) with seized:=false,Qjc:=false,dead:=false,glow:=0 },[0]) else (x,[-4])) else (x,[-1])
theorem Qvu (D:Df K mg "call_mend" Qiu Qe9) (T:Txt K mg CM CR CS CH) (Qv:Ok P w K mg base "is_machine" 1 Zp Qp6):Ok P w K mg base "call_mend" 2 Qe9 (Jn K CM CR CS CH 1 Qbf Qk1):=by
 have SC:=Qvt;refine D.ok SC (fun vs H Q E h=>?_) (fun f _ A _ s H vs Q E hr h=>?_)
 .obtain ⟨A,x,np,ns,rfl,_⟩:=h;rfl
 .obtain ⟨B,x,np,ns,rfl,hh,hn,hl,g,k⟩:=h;obtain ⟨m,rfl⟩:=Qjy hl;have ho:=hh.obj;refine ⟨_,(Qb (Qz (Qae (Zm (pcl Qv (hr.M) (Qa (Zf Qt (pv 1) Qj (fun _ _=>rfl)) Qe)))) (Qc (Qm (Za (Qa (pgi T.Zd) Qe)))) Qp) (Qb (psL (i:=2) SC.nd (Zf Qt (Qh (pv 0) rfl) (Zf Qt (pv 1) Qj (fun _ _=>rfl)) (fun _ _=>rfl))) (Qb (Qz (Qo Qpj (Qh (pv 2) rfl) (pgi T.Qex) (Qq _)) (Qc (Qm (Za (Qa (pgi T.Qd4) Qe)))) Qp) (Qb (Qu (pv 2) Yb rfl) (Qb (Qu (pv 2) Yb rfl) (Qb (Qu (pv 2) Yb rfl) (Qb (Qu (pv 2) Qj rfl) (Qc (Qm (Za (Qa Qj Qe))))))))))),?_⟩;walk_at "R";refine ⟨np,_,_,.int m,rfl,rfl,hn,at_of (j:=0) rfl rfl,?_⟩;refine ⟨m,rfl,_,rfl,?_⟩;cases h1:isM m with
  | false =>
   refine Qfs ?_;refine ⟨sz1,Qw (l:=[-1]) hh (Step.refl _ _) ?_ ?_ k⟩
   .unfold Qk1;rw[if_neg (by simp[h1])]
   .unfold Qk1;rw[if_neg (by simp[h1])]
  | true =>
   refine Qf7 ?_;have ha:=hh.mc m;have h1':isM ([m].getD 0 0)=true:=h1;walk_at "R";refine ⟨np,_,_,.int m,rfl,rfl,hn,at_of (j:=0) rfl rfl,?_⟩;refine ⟨B.ml,_,_,_,rfl,rfl,SqL.of hh.ml,Zbh (isM.Qdo h1),?_⟩;walk_at "R";refine ifB (fun h2=>?_) (fun h2=>?_)
   .have h2:¬ (x.mc ([m].getD 0 0)).phase=0:=by simpa using h2
    refine ⟨sz1,Qw (l:=[-4]) hh (Step.refl _ _) ?_ ?_ k⟩
    .unfold Qk1;rw[if_pos h1',if_neg h2]
    .unfold Qk1;rw[if_pos h1',if_neg h2]
   .have h2:(x.mc ([m].getD 0 0)).phase=0:=by simpa using h2
    walk_at "R";simp only[Zb];refine ⟨sz1,Qw (l:=[0]) (hh.setM m { x.mc m with seized:=false,Qjc:=false,dead:=false,glow:=0 }) (Step.Qi5 (B.Yn m)) ?_ ?_ k⟩
    .unfold Qk1;rw[if_pos h1',if_pos h2];rfl
    .unfold Qk1;rw[if_pos h1',if_pos h2]
def Qk2 (x:Hs) (ns:List Int):Hs × List Int:=if isM (ns.getD 0 0)=true then (if (x.mc (ns.getD 0 0)).reel = -1 then (x,[-6]) else (x.setM (ns.getD 0 0) { x.mc (ns.getD 0 0) with Qjc:=true,Qbi:=false },[0])) else (x,[-1])
theorem Qvv (D:Df K mg "call_tear" Qit Qe8) (T:Txt K mg CM CR CS CH) (Qv:Ok P w K mg base "is_machine" 1 Zp Qp6):Ok P w K mg base "call_tear" 2 Qe8 (Jn K CM CR CS CH 1 Qbf Qk2):=by
 have SC:=Qvs;refine D.ok SC (fun vs H Q E h=>?_) (fun f _ A _ s H vs Q E hr h=>?_)
 .obtain ⟨A,x,np,ns,rfl,_⟩:=h;rfl
 .obtain ⟨B,x,np,ns,rfl,hh,hn,hl,g,k⟩:=h;obtain ⟨m,rfl⟩:=Qjy hl;have ho:=hh.obj;refine ⟨_,(Qb (Qz (Qae (Zm (pcl Qv (hr.M) (Qa (Zf Qt (pv 1) Qj (fun _ _=>rfl)) Qe)))) (Qc (Qm (Za (Qa (pgi T.Zd) Qe)))) Qp) (Qb (psL (i:=2) SC.nd (Zf Qt (Qh (pv 0) rfl) (Zf Qt (pv 1) Qj (fun _ _=>rfl)) (fun _ _=>rfl))) (Qb (Qz (Qo Yc (Qh (pv 2) rfl) (pgi T.Qai) (Qq _)) (Qc (Qm (Za (Qa (pgi T.Qaj) Qe)))) Qp) (Qb (Qu (pv 2) Yb rfl) (Qb (Qu (pv 2) Yb rfl) (Qc (Qm (Za (Qa Qj Qe))))))))),?_⟩;walk_at "R";refine ⟨np,_,_,.int m,rfl,rfl,hn,at_of (j:=0) rfl rfl,?_⟩;refine ⟨m,rfl,_,rfl,?_⟩;cases h1:isM m with
  | false =>
   refine Qfs ?_;refine ⟨sz1,Qw (l:=[-1]) hh (Step.refl _ _) ?_ ?_ k⟩
   .unfold Qk2;rw[if_neg (by simp[h1])]
   .unfold Qk2;rw[if_neg (by simp[h1])]
  | true =>
   refine Qf7 ?_;have ha:=hh.mc m;have h1':isM ([m].getD 0 0)=true:=h1;walk_at "R";refine ⟨np,_,_,.int m,rfl,rfl,hn,at_of (j:=0) rfl rfl,?_⟩;refine ⟨B.ml,_,_,_,rfl,rfl,SqL.of hh.ml,Zbh (isM.Qdo h1),?_⟩;walk_at "R";refine ifB (fun h2=>?_) (fun h2=>?_)
   .have h2:(x.mc ([m].getD 0 0)).reel = -1:=by simpa using h2
    refine ⟨sz1,Qw (l:=[-6]) hh (Step.refl _ _) ?_ ?_ k⟩
    .unfold Qk2;rw[if_pos h1',if_pos h2]
    .unfold Qk2;rw[if_pos h1',if_pos h2]
   .have h2:¬ (x.mc ([m].getD 0 0)).reel = -1:=by simpa using h2
    walk_at "R";simp only[Zb];refine ⟨sz1,Qw (l:=[0]) (hh.setM m { x.mc m with Qjc:=true,Qbi:=false }) (Step.Qi5 (B.Yn m)) ?_ ?_ k⟩
    .unfold Qk2;rw[if_pos h1',if_neg h2];rfl
    .unfold Qk2;rw[if_pos h1',if_neg h2]
def Qn8 (x:Hs) (_:List Int):Hs × List Int:=if x.going=true then (x.stop 6,[0]) else (x,[-3])
theorem Qvw (D:Df K mg "call_halt" Qis Qe7) (T:Txt K mg CM CR CS CH) (Zx:Ok P w K mg base "is_going" 1 Jz (Qf0 CM CR CS CH (fun _=>True) fun _ x=>.bl x.going))
  (Qak:Ok P w K mg base "stop" 2 Qjo (Qng CM CR CS CH)):Ok P w K mg base "call_halt" 3 Qe7 (Jn K CM CR CS CH 0 Qbf Qn8):=by
 have SC:=Qvq;refine D.ok SC (fun vs H Q E h=>?_) (fun f _ A _ s H vs Q E hr h=>?_)
 .obtain ⟨A,x,np,ns,rfl,_⟩:=h;rfl
 .obtain ⟨B,x,np,ns,rfl,hh,hn,hl,g,k⟩:=h;refine ⟨_,(Qb (Qz (Qae (Zm (pcl Zx (hr.M) (Qa (pv 0) Qe)))) (Qc (Qm (Za (Qa (pgi T.Qm9) Qe)))) Qp) (Qb (Qx (pcl Qak (hr.M) (Qa (pv 0) (Qa (pgi T.Zbf) Qe)))) (Qc (Qm (Za (Qa Qj Qe)))))),?_⟩;walk_at "R";refine ⟨B,x,rfl,hh,trivial,_,rfl,?_⟩;cases h1:x.going with
  | false =>
   refine Qfs ?_;refine ⟨sz1,Qw (l:=[-3]) hh (Step.refl _ _) ?_ ?_ k⟩
   .unfold Qn8;rw[if_neg (by simp[h1])]
   .unfold Qn8;rw[if_neg (by simp[h1])]
  | true =>
   refine Qf7 ?_;walk_at "R";refine ⟨B,x,6,rfl,hh,g.x.room,fun A1 H1 hh1 st1=>?_⟩;refine ⟨sz1,Qw (l:=[0]) hh1 st1 ?_ ?_ k⟩
   .unfold Qn8;rw[if_pos h1]
   .unfold Qn8;rw[if_pos h1]
noncomputable abbrev Qiv:Stmt:=top 124
noncomputable abbrev Qzw:List Str:=["house","numbers","count","turn"]
noncomputable abbrev Qfa:List Str:=["house","numbers"]
theorem Qvx:Qn Qzw Qfa (Qi Qiv):=by walk_at "sc"
noncomputable abbrev Qgs:Stmt:=top 129
noncomputable abbrev Qvy:List Str:=["house","numbers","machine"]
noncomputable abbrev Qdy:List Str:=["house","numbers"]
theorem Qs3:Qn Qvy Qdy (Qi Qgs):=by walk_at "sc"
def Yy (x:Hs) (ns:List Int):Hs × List Int:=
 if isM (ns.getD 0 0)=true then (if x.busy (ns.getD 0 0)=true then (x,[-3]) else if ¬ (x.mc (ns.getD 0 0)).phase=0 then (x,[-4]) else if (x.mc (ns.getD 0 0)).reel = -1 then (x,[-6])
  else (x.setM (ns.getD 0 0) { x.mc (ns.getD 0 0) with reel:=-1,place:=0,Qjc:=false },[0])) else (x,[-1])
theorem Qmg (D:Df K mg "call_unthread" Qdh Qba) (T:Txt K mg CM CR CS CH) (Qv:Ok P w K mg base "is_machine" 1 Zp Qp6) (Zz:Ok P w K mg base "film_refusal" 2 Ys (Zbq CM CR CS CH)) :
  Ok P w K mg base "call_unthread" 3 Qba (Jn K CM CR CS CH 1 Qbf Yy):=by
 have SC:=Qmf;refine D.ok SC (fun vs H Q E h=>?_) (fun f _ A _ s H vs Q E hr h=>?_)
 .obtain ⟨A,x,np,ns,rfl,_⟩:=h;rfl
 .obtain ⟨B,x,np,ns,rfl,hh,hn,hl,g,k⟩:=h;obtain ⟨m,rfl⟩:=Qjy hl;have ho:=hh.obj;refine ⟨_,(Qb (psL (i:=2) SC.nd (Zf Qt (pv 1) Qj (fun _ _=>rfl))) (Qb (Qz (Qae (Zm (pcl Qv (hr.M) (Qa (pv 2) Qe)))) (Qc (Qm (Za (Qa (pgi T.Zd) Qe)))) Qp) (Qb (psL (i:=3) SC.nd (pcl Zz (hr.M) (Qa (pv 0) (Qa (pv 2) Qe)))) (Qb (Qz (Qo Qpj (pv 3) Qj (Qq _)) (Qc (Qm (Za (Qa (pv 3) Qe)))) Qp) (Qb (psL (i:=4) SC.nd (Zf Qt (Qh (pv 0) rfl) (pv 2) (fun _ _=>rfl))) (Qb (Qz (Qo Yc (Qh (pv 4) rfl) (pgi T.Qai) (Qq _)) (Qc (Qm (Za (Qa (pgi T.Qaj) Qe)))) Qp) (Qb (Qu (pv 4) (pgi T.Qai) rfl) (Qb (Qu (pv 4) Qj rfl) (Qb (Qu (pv 4) Yb rfl) (Qc (Qm (Za (Qa Qj Qe))))))))))))),?_⟩;walk_at "R";refine ⟨np,_,_,.int m,rfl,rfl,hn,at_of (j:=0) rfl rfl,?_⟩;walk_at "R";cases h1:isM m with
  | false =>
   refine Qfs ?_;refine ⟨sz1,Qw (l:=[-1]) hh (Step.refl _ _) ?_ ?_ k⟩
   .unfold Yy;rw[if_neg (by simp[h1])]
   .unfold Yy;rw[if_neg (by simp[h1])]
  | true =>
   refine Qf7 ?_;have ha:=hh.mc m;have h1':isM ([m].getD 0 0)=true:=h1;walk_at "R";refine ⟨B,x,m,rfl,hh,isM.Qdo h1,?_⟩;walk_at "R";refine ifB (fun h2=>?_) (fun h2=>?_)
   .have h2:¬ x.Qq5 m=0:=by simpa using h2
    walk_at "R";refine ⟨sz1,Qw (l:=[x.Qq5 m]) hh (Step.refl _ _) ?_ ?_ k⟩
    .unfold Yy;rw[if_pos h1'];exact congrArg Prod.fst (Qk0 (m:=m) h2)
    .unfold Yy;rw[if_pos h1'];exact congrArg Prod.snd (Qk0 (m:=m) h2)
   .have h2:x.Qq5 m=0:=by simpa using h2
    have eC:Yy x [m]=if (x.mc m).reel = -1 then (x,[-6]) else (x.setM m { x.mc m with reel:=-1,place:=0,Qjc:=false },[0]):=by unfold Yy;rw[if_pos h1'];exact Qzv (m:=m) h2
    rw[eC]at k;walk_at "R";refine ⟨B.ml,_,_,_,rfl,rfl,SqL.of hh.ml,Zbh (isM.Qdo h1),?_⟩;walk_at "R";refine ifB (fun h4=>?_) (fun h4=>?_)
    .have h4:(x.mc m).reel = -1:=by simpa using h4
     rw[if_pos h4]at k;exact ⟨sz1,Qw (l:=[-6]) hh (Step.refl _ _) rfl rfl k⟩
    .have h4:¬ (x.mc m).reel = -1:=by simpa using h4
     rw[if_neg h4]at k;walk_at "R";simp only[Zb];exact ⟨sz1,Qw (l:=[0]) (hh.setM m { x.mc m with reel:=-1,place:=0,Qjc:=false }) (Step.Qi5 (B.Yn m)) rfl rfl k⟩
def Qcg (x:Hs) (ns:List Int):Hs × List Int:=
 if isM (ns.getD 0 0)=true/\x.sh.thr (ns.getD 1 0) (ns.getD 2 0)=true then (if x.busy (ns.getD 0 0)=true then (x,[-3]) else if ¬ (x.mc (ns.getD 0 0)).phase=0 then (x,[-4]) else if (x.mc (1 - ns.getD 0 0)).reel=ns.getD 1 0 then (x,[-5])
  else (x.setM (ns.getD 0 0) { x.mc (ns.getD 0 0) with reel:=ns.getD 1 0,place:=-(ns.getD 2 0),Qjc:=false },[0])) else (x,[-1])
theorem Qp7 (D:Df K mg "call_thread" Qe6 Qcr) (T:Txt K mg CM CR CS CH) (Qv:Ok P w K mg base "is_machine" 1 Zp Qp6) (Qeg:Ok P w K mg base "is_threading" 2 Qap (Zr0 CS CR)) (Zz:Ok P w K mg base "film_refusal" 2 Ys (Zbq CM CR CS CH)) :
  Ok P w K mg base "call_thread" 3 Qcr (Jn K CM CR CS CH 3 Qbf Qcg):=by
 have SC:=Qp4;refine D.ok SC (fun vs H Q E h=>?_) (fun f _ A _ s H vs Q E hr h=>?_)
 .obtain ⟨A,x,np,ns,rfl,_⟩:=h;rfl
 .obtain ⟨B,x,np,ns,rfl,hh,hn,hl,g,k⟩:=h;obtain ⟨m,r,d,rfl⟩:∃ m r d,ns=[m,r,d]:=by
   match ns,hl with
   | [m,r,d],_=>exact ⟨m,r,d,rfl⟩
  have ho:=hh.obj;obtain ⟨hsv,hsh⟩:=hh.Qty g.sh;refine ⟨_,(Qb (psL (i:=2) SC.nd (Zf Qt (pv 1) Qj (fun _ _=>rfl))) (Qb (psL (i:=3) SC.nd (Zf Qt (pv 1) Qj (fun _ _=>rfl))) (Qb (psL (i:=4) SC.nd (Zf Qt (pv 1) Qj (fun _ _=>rfl))) (Qb (Qz (PW.pt (Qi7 (Qae (Zm (pcl Qv (hr.M) (Qa (pv 2) Qe)))) (Qfr (Qae (Zm (pcl Qeg (hr.M) (Qa (Qh (pv 0) rfl) (Qa (pv 3) (Qa (pv 4) Qe))))))))) (Qc (Qm (Za (Qa (pgi T.Zd) Qe)))) Qp) (Qb (psL (i:=5) SC.nd (pcl Zz (hr.M) (Qa (pv 0) (Qa (pv 2) Qe)))) (Qb (Qz (Qo Qpj (pv 5) Qj (Qq _)) (Qc (Qm (Za (Qa (pv 5) Qe)))) Qp) (Qb (psL (i:=6) SC.nd (Zf Qt (Qh (pv 0) rfl) (pv 2) (fun _ _=>rfl))) (Qb (Qz (Qo Yc (Qh (Zf Qt (Qh (pv 0) rfl) (Zq Qaw Qj (pv 2)) (fun _ _=>rfl)) rfl) (pv 3) (Qq _)) (Qc (Qm (Za (Qa (pgi T.Qft) Qe)))) Qp) (Qb (Qu (pv 6) (pv 3) rfl) (Qb (Qu (pv 6) (Qkk Qem (pv 4)) rfl) (Qb (Qu (pv 6) Yb rfl) (Qc (Qm (Za (Qa Qj Qe))))))))))))))),?_⟩;walk_at "R";refine ⟨np,_,_,.int m,rfl,rfl,hn,at_of (j:=0) rfl rfl,?_⟩;walk_at "R";refine ⟨np,_,_,.int r,rfl,rfl,hn,at_of (j:=1) rfl rfl,?_⟩;walk_at "R";refine ⟨np,_,_,.int d,rfl,rfl,hn,at_of (j:=2) rfl rfl,?_⟩;walk_at "R";have bad:¬ (isM m=true/\x.sh.thr r d=true)->∀ q,H q=none->Q (.ref q) (upd H q (.lst [.int (-1)])):=fun z =>
   Qw (l:=[-1]) hh (Step.refl _ _) (by unfold Qcg;rw[if_neg (show ¬ (isM ([m,r,d].getD 0 0)=true/\x.sh.thr ([m,r,d].getD 1 0) ([m,r,d].getD 2 0)=true) from z)]) (by unfold Qcg;rw[if_neg (show ¬ (isM ([m,r,d].getD 0 0)=true/\x.sh.thr ([m,r,d].getD 1 0) ([m,r,d].getD 2 0)=true) from z)]) k
  cases h1:isM m with
  | false=>exact Qfs (Qfs ⟨sz1,bad (by simp[h1])⟩)
  | true =>
   refine Qf7 ?_;walk_at "R";refine ⟨B.sb,B.sdy,B.srl,B.Qqy,x.sh,r,d,by rw[hsv];rfl,hsh,_,rfl,?_⟩;cases h2:x.sh.thr r d with
   | false=>exact Qfs ⟨sz1,bad (by simp[h2])⟩
   | true =>
    refine Qf7 ?_;have hp:isM ([m,r,d].getD 0 0)=true/\x.sh.thr ([m,r,d].getD 1 0) ([m,r,d].getD 2 0)=true:=⟨h1,h2⟩
    have ha:=hh.mc m;have hb:=hh.mc (1 - m);walk_at "R";refine ⟨B,x,m,rfl,hh,isM.Qdo h1,?_⟩;walk_at "R";refine ifB (fun h3=>?_) (fun h3=>?_)
    .have h3:¬ x.Qq5 m=0:=by simpa using h3
     walk_at "R";refine ⟨sz1,Qw (l:=[x.Qq5 m]) hh (Step.refl _ _) ?_ ?_ k⟩
     .unfold Qcg;rw[if_pos hp];exact congrArg Prod.fst (Qk0 (m:=m) h3)
     .unfold Qcg;rw[if_pos hp];exact congrArg Prod.snd (Qk0 (m:=m) h3)
    .have h3:x.Qq5 m=0:=by simpa using h3
     have eC:Qcg x [m,r,d]=if (x.mc (1 - m)).reel=r then (x,[-5]) else (x.setM m { x.mc m with reel:=r,place:=-d,Qjc:=false },[0]):=by unfold Qcg;rw[if_pos hp];exact Qzv (m:=m) h3
     rw[eC]at k;clear bad;walk_at "R";refine ⟨B.ml,_,_,_,rfl,rfl,SqL.of hh.ml,Zbh (isM.Qdo h1),?_⟩;walk_at "R";refine ⟨B.ml,_,_,_,rfl,rfl,SqL.of hh.ml,Zbh (Qdo.other (isM.Qdo h1)),?_⟩;walk_at "R";refine ifB (fun h5=>?_) (fun h5=>?_)
     .have h5:(x.mc (1 - m)).reel=r:=by simpa using h5
      rw[if_pos h5]at k;exact ⟨sz1,Qw (l:=[-5]) hh (Step.refl _ _) rfl rfl k⟩
     .have h5:¬ (x.mc (1 - m)).reel=r:=by simpa using h5
      rw[if_neg h5]at k;walk_at "R";simp only[Zb];exact ⟨sz1,Qw (l:=[0]) (hh.setM m { x.mc m with reel:=r,place:=-d,Qjc:=false }) (Step.Qi5 (B.Yn m)) rfl rfl k⟩
theorem Qbf.rM {x:Hs} (g:Qbf x) (m:Int):x.sh.has (x.mc m).reel:=by
 unfold Hs.mc;split
 .exact g.r0
 .exact g.r1
def Qzx (m f:Int):Bool:=isM m&&(decide (0<=f)&&decide (f<=2000))
def cGo (x:Hs) (ns:List Int):Hs × List Int:=
 if Qzx (ns.getD 0 0) (ns.getD 1 0)=true then (if x.going=true then (x,[-3]) else if (x.mc (ns.getD 0 0)).reel = -1 then (x,[-6]) else if (x.sh.rl (x.mc (ns.getD 0 0)).reel).last < ns.getD 1 0 then (x,[-1])
  else ({ x.setM (ns.getD 0 0) (x.mc (ns.getD 0 0)).on with mode:=1,active:=ns.getD 0 0,target:=ns.getD 1 0,reason:=0 },[0])) else (x,[-1])
theorem Zdh (D:Df K mg "call_go" Qn2 Qjw) (T:Txt K mg CM CR CS CH) (Qv:Ok P w K mg base "is_machine" 1 Zp Qp6) (Zx:Ok P w K mg base "is_going" 1 Jz (Qf0 CM CR CS CH (fun _=>True) fun _ x=>.bl x.going))
  (Zh:Ok P w K mg base "last_frame" 1 Yo (Qqz CR)) (Qaa:Ok P w K mg base "put_on" 1 Qez (Qjn CM Mc.on)):Ok P w K mg base "call_go" 3 Qjw (Jn K CM CR CS CH 2 Qbf cGo):=by
 have SC:=Zdf;refine D.ok SC (fun vs H Q E h=>?_) (fun f _ A _ s H vs Q E hr h=>?_)
 .obtain ⟨A,x,np,ns,rfl,_⟩:=h;rfl
 .obtain ⟨B,x,np,ns,rfl,hh,hn,hl,g,k⟩:=h;obtain ⟨m,r,rfl⟩:∃ m r,ns=[m,r]:=by
   match ns,hl with
   | [m,r],_=>exact ⟨m,r,rfl⟩
  have ho:=hh.obj;obtain ⟨hsv,hsh⟩:=hh.Qty g.sh;have hso:=hsh.obj;have ha:=hh.mc m;have n1:=hh.nh m;refine ⟨_,(Qb (psL (i:=2) SC.nd (Zf Qt (pv 1) Qj (fun _ _=>rfl))) (Qb (psL (i:=3) SC.nd (Zf Qt (pv 1) Qj (fun _ _=>rfl))) (Qb (Qz (PW.pt (Qi7 (Qae (Zm (pcl Qv (hr.M) (Qa (pv 2) Qe)))) (Qi7 (Qo Qh0 (pv 3) Qj (Qq _)) (Qfr (Qo Qd3 (pv 3) (pgi T.Qlj) (Qq _)))))) (Qc (Qm (Za (Qa (pgi T.Zd) Qe)))) Qp) (Qb (Qz (Zm (pcl Zx (hr.M) (Qa (pv 0) Qe))) (Qc (Qm (Za (Qa (pgi T.Qm9) Qe)))) Qp) (Qb (psL (i:=4) SC.nd (Zf Qt (Qh (pv 0) rfl) (pv 2) (fun _ _=>rfl))) (Qb (Qz (Qo Yc (Qh (pv 4) rfl) (pgi T.Qai) (Qq _)) (Qc (Qm (Za (Qa (pgi T.Qaj) Qe)))) Qp) (Qb (Qz (Qo Qd3 (pv 3) (pcl Zh (hr.M) (Qa (Zf Qt (Qh (Qh (pv 0) rfl) rfl) (Qh (pv 4) rfl) (fun _ _=>rfl)) Qe)) (Qq _)) (Qc (Qm (Za (Qa (pgi T.Zd) Qe)))) Qp) (Qb (Qx (pcl Qaa (hr.M) (Qa (pv 4) Qe))) (Qb (Qu (pv 0) (pgi T.Qm8) rfl) (Qb (Qu (pv 0) (pv 2) rfl) (Qb (Qu (pv 0) (pv 3) rfl) (Qb (Qu (pv 0) Qj rfl) (Qc (Qm (Za (Qa Qj Qe)))))))))))))))),?_⟩;walk_at "R";refine ⟨np,_,_,.int m,rfl,rfl,hn,at_of (j:=0) rfl rfl,?_⟩;walk_at "R";refine ⟨np,_,_,.int r,rfl,rfl,hn,at_of (j:=1) rfl rfl,?_⟩;walk_at "R";have bad:Qzx m r=false->∀ q,H q=none->Q (.ref q) (upd H q (.lst [.int (-1)])):=fun z =>
   Qw (l:=[-1]) hh (Step.refl _ _) (by unfold cGo;rw[if_neg (show ¬ Qzx ([m,r].getD 0 0) ([m,r].getD 1 0)=true by show ¬ Qzx m r=true;simp[z])]) (by unfold cGo;rw[if_neg (show ¬ Qzx ([m,r].getD 0 0) ([m,r].getD 1 0)=true by show ¬ Qzx m r=true;simp[z])]) k
  cases h1:isM m with
  | false=>exact Qfs (Qfs ⟨sz1,bad (by simp[Qzx,h1])⟩)
  | true =>
   refine Qf7 ?_;walk_at "R";refine ifB (fun h2=>?_) (fun h2=>?_)
   .have h2:r < 0:=by simpa using h2
    exact Qfs ⟨sz1,bad (by simp[Qzx,h1];omega)⟩
   .have h2:¬ r < 0:=by simpa using h2
    walk_at "R";refine ifB (fun h3=>?_) (fun h3=>?_)
    .have h3:2000 < r:=by simpa using h3
     exact ⟨sz1,bad (by simp[Qzx,h1];omega)⟩
    .have h3:¬ 2000 < r:=by simpa using h3
     have hp:Qzx ([m,r].getD 0 0) ([m,r].getD 1 0)=true:=by show Qzx m r=true;simp[Qzx,h1];omega
     walk_at "R";refine ⟨B,x,rfl,hh,trivial,_,rfl,ifB (fun h4=>?_) (fun h4=>?_)⟩
     .refine ⟨sz1,Qw (l:=[-3]) hh (Step.refl _ _) ?_ ?_ k⟩
      .unfold cGo;rw[if_pos hp,if_pos h4]
      .unfold cGo;rw[if_pos hp,if_pos h4]
     .have h4:¬ x.going=true:=by simp[h4]
      walk_at "R";refine ⟨B.ml,_,_,_,rfl,rfl,SqL.of hh.ml,Zbh (isM.Qdo h1),?_⟩;walk_at "R";refine ifB (fun h5=>?_) (fun h5=>?_)
      .have h5:(x.mc ([m,r].getD 0 0)).reel = -1:=by simpa using h5
       refine ⟨sz1,Qw (l:=[-6]) hh (Step.refl _ _) ?_ ?_ k⟩
       .unfold cGo;rw[if_pos hp,if_neg h4,if_pos h5]
       .unfold cGo;rw[if_pos hp,if_neg h4,if_pos h5]
      .have h5:¬ (x.mc ([m,r].getD 0 0)).reel = -1:=by simpa using h5
       have h5':¬ (x.mc m).reel = -1:=h5;have hn2:=g.rM m;obtain ⟨c,dr,hc,hr2⟩:=hsh.reel (n:=(x.mc m).reel) (by rcases hn2 with z | z <;> omega) (by rcases hn2 with z | z <;> omega);have ho2:=ho;rw[hsv]at ho2;clear ho;walk_at "R";refine ⟨B.srl,_,_,_,rfl,rfl,SqL.of hsh.lst,hc,?_⟩;refine ⟨c,dr,_,rfl,hr2,_,_,rfl,rfl,_,rfl,ifB (fun h6=>?_) (fun h6=>?_)⟩
       .have h6:(x.sh.rl (x.mc ([m,r].getD 0 0)).reel).last < [m,r].getD 1 0:=by simpa using h6
        refine ⟨sz1,Qw (l:=[-1]) hh (Step.refl _ _) ?_ ?_ k⟩
        .unfold cGo;rw[if_pos hp,if_neg h4,if_neg h5,if_pos h6]
        .unfold cGo;rw[if_pos hp,if_neg h4,if_neg h5,if_pos h6]
       .have h6:¬ (x.sh.rl (x.mc ([m,r].getD 0 0)).reel).last < [m,r].getD 1 0:=by simpa using h6
        walk_at "R";refine ⟨B.am m,B.dm m,x.mc m,rfl,ha,?_⟩;walk_at "R";simp only[Zb];have hx1:=(hh.setM m (x.mc m).on).Zmx x.ticks 1 m r 0 x.dark;rw[hsv]at hx1;refine ⟨sz1,Qw (l:=[0]) hx1 ((Step.Qi5 (B.Yn m)).trans (Step.Qi5 B.Qfv)) ?_ ?_ k⟩
        .unfold cGo;rw[if_pos hp,if_neg h4,if_neg h5,if_neg h6];rfl
        .unfold cGo;rw[if_pos hp,if_neg h4,if_neg h5,if_neg h6]
def Mc.dark (m:Mc):Mc:={ m.off.rest with Qbi:=false }
def Hs.Qvz (x:Hs):Hs:={ x with m0:=x.m0.dark,m1:=x.m1.dark }
def Qjz (x:Hs) (_:List Int):Hs × List Int:=(if x.going=true then x.Qvz.stop 5 else x.Qvz,[0])
theorem Qs4 (D:Df K mg "call_power" Qgs Qdy) (T:Txt K mg CM CR CS CH) (Yd:Ok P w K mg base "put_off" 1 Qb1 (Qjn CM Mc.off)) (Zt:Ok P w K mg base "halt_motor" 1 Jb (Qjn CM Mc.rest))
  (Zx:Ok P w K mg base "is_going" 1 Jz (Qf0 CM CR CS CH (fun _=>True) fun _ x=>.bl x.going)) (Qak:Ok P w K mg base "stop" 2 Qjo (Qng CM CR CS CH)):Ok P w K mg base "call_power" 3 Qdy (Jn K CM CR CS CH 0 Qbf Qjz):=by
 have SC:=Qs3;refine D.ok SC (fun vs H Q E h=>?_) (fun f _ A _ s H vs Q E hr h=>?_)
 .obtain ⟨A,x,np,ns,rfl,_⟩:=h;rfl
 .obtain ⟨B,x,np,ns,rfl,hh,hn,hl,g,k⟩:=h;have ho:=hh.obj;refine ⟨_,(Qb (Qav PassesOwn.never rfl (Jq (Qh (pv 0) rfl)) (pgL (i:=2) SC.nd) (Qb (Qx (pcl Yd (hr.M) (Qa (pv 2) Qe))) (Qb (Qx (pcl Zt (hr.M) (Qa (pv 2) Qe))) (Qc (Qu (pv 2) Yb rfl))))) (Qb (Qz (Zm (pcl Zx (hr.M) (Qa (pv 0) Qe))) (Qc (Qx (pcl Qak (hr.M) (Qa (pv 0) (Qa (pgi T.Qli) Qe))))) Qp) (Qc (Qm (Za (Qa Qj Qe)))))),?_⟩;walk_at "R"
  refine ⟨⟨_,SqL.of hh.ml⟩,Jm (K:=K) (a:=B.ml) (xs:=[.ref B.a0,.ref B.a1]) (fun i σ H'=>∃ v:Option V,σ=[some (.ref B.h),some (.ref np),v]/\Step H H' B B /\
   Jx CM CR CS CH H' B (if i=0 then x else if i=1 then { x with m0:=x.m0.dark } else x.Qvz)) ⟨none,rfl,Step.refl _ _,hh⟩ (fun i σ H' _ ⟨_,_,_,hh'⟩=>SqL.of hh'.ml) ?_ ?_⟩
  .rintro i y σ H' hi ⟨v,rfl,st,hh'⟩
   match i,hi with
   | 0,hi =>have e:V.ref B.a0=y:=Option.some.inj hi;subst e;have hh':Jx CM CR CS CH H' B x:=hh';walk_at "R";refine ⟨B.a0,B.d0,x.m0,rfl,hh'.m0,?_⟩;walk_at "R";refine ⟨B.a0,B.d0,_,rfl,Qk,?_⟩;have h9:upd (upd H' B.a0 (.ins CM B.d0 (mF x.m0.off))) B.a0 (.ins CM B.d0 (mF x.m0.off.rest)) B.a0=some (.ins CM B.d0 (mF x.m0.off.rest)):=Qk;walk_at "r1";walk_at "r1";rw[Zb,Zb];exact ⟨_,rfl,st.trans (Step.Qi5 (B.Yn 0)),hh'.setM 0 x.m0.dark⟩
   | 1,hi =>have e:V.ref B.a1=y:=Option.some.inj hi;subst e;have hh':Jx CM CR CS CH H' B { x with m0:=x.m0.dark }:=hh';walk_at "R";refine ⟨B.a1,B.d1,x.m1,rfl,hh'.m1,?_⟩;walk_at "R";refine ⟨B.a1,B.d1,_,rfl,Qk,?_⟩;have h9:upd (upd H' B.a1 (.ins CM B.d1 (mF x.m1.off))) B.a1 (.ins CM B.d1 (mF x.m1.off.rest)) B.a1=some (.ins CM B.d1 (mF x.m1.off.rest)):=Qk;walk_at "r1";walk_at "r1";rw[Zb,Zb];exact ⟨_,rfl,st.trans (Step.Qi5 (B.Yn 1)),hh'.setM 1 x.m1.dark⟩
   | i+2,hi=>simp at hi
  .rintro σ H1 ⟨v,rfl,st,hh1⟩
   have hh1:Jx CM CR CS CH H1 B x.Qvz:=hh1;walk_at "R";refine ⟨B,x.Qvz,rfl,hh1,trivial,_,rfl,ifB (fun h1=>?_) (fun h1=>?_)⟩
   .have h1:x.going=true:=h1;walk_at "R";refine ⟨B,x.Qvz,5,rfl,hh1,g.x.room,fun A2 H2 hh2 st2=>?_⟩;refine ⟨sz1,Qw (l:=[0]) hh2 (st.trans st2) ?_ rfl k⟩;unfold Qjz;rw[if_pos h1]
   .have h1:¬ x.going=true:=by have h1:x.going=false:=h1;simp[h1]
    refine ⟨sz1,Qw (l:=[0]) hh1 st ?_ rfl k⟩;unfold Qjz;rw[if_neg h1]
theorem Mc.Qv0 (m:Mc) (sh:Sh):(m.tick sh).reel=m.reel:=by
 unfold Mc.tick Mc.move;simp only;have h:=Mc.Zbg m sh.up sh.down;split
 .split
  .exact h
  .split <;> exact h
 .exact h
theorem Qhj (x:Hs) (a b:Int):(x.note a b).log.length=x.log.length+1:=by simp[Hs.note]
theorem Qj0 (x:Hs) (r:Int):(x.stop r).log.length=x.log.length+1:=Qhj _ _ _
theorem Zdi (x:Hs):x.change.log.length<=x.log.length+1:=by
 unfold Hs.change;split
 .split
  .rw[Qhj];exact Nat.le_refl _
  .exact Nat.le_succ _
 .rw[Qj0];exact Nat.le_refl _
theorem Zdj (x:Hs):x.follow.log.length<=x.log.length+1:=by
 unfold Hs.follow
 repeat' split
 .unfold Hs.end_;rw[Qhj];exact Nat.le_refl _
 .exact Nat.le_succ _
 .unfold Hs.Qge;split
  .rw[Qhj];exact Nat.le_refl _
  .rw[Qhj];exact Nat.le_refl _
 .exact Zdi x
 .exact Nat.le_succ _
theorem Zh2 (x:Hs):x.begin.log.length<=x.log.length+1:=by
 unfold Hs.begin;split
 .unfold Hs.wait;split
  .rw[Qhj];exact Nat.le_refl _
  .split
   .rw[Qj0];exact Nat.le_refl _
   .exact Nat.le_succ _
 .split
  .unfold Hs.watch;split
   .rw[Qj0];exact Nat.le_refl _
   .split
    .rw[Qj0];exact Nat.le_refl _
    .exact Zdj x
  .exact Nat.le_succ _
theorem Zh3 (x:Hs) (a b:Int):(x.Qnl a b).runs.length<=x.runs.length+1:=by
 unfold Hs.Qnl
 repeat' split
 all_goals simp
theorem Zh4 (x:Hs) (a b:Int):(x.Qnl a b).sheet=x.sheet/\(x.Qnl a b).m0=x.m0/\(x.Qnl a b).m1=x.m1/\(x.Qnl a b).active=x.active/\(x.Qnl a b).log=x.log/\(x.Qnl a b).mode=x.mode/\(x.Qnl a b).ticks=x.ticks/\(x.Qnl a b).target=x.target/\(x.Qnl a b).reason=x.reason/\(x.Qnl a b).dark=x.dark:=by
 unfold Hs.Qnl
 repeat' split
 all_goals exact ⟨rfl,rfl,rfl,rfl,rfl,rfl,rfl,rfl,rfl,rfl⟩
theorem Zh5 (x:Hs):x.Qph.sheet=x.sheet/\x.Qph.m0=x.m0/\x.Qph.m1=x.m1/\x.Qph.active=x.active/\x.Qph.log=x.log/\x.Qph.runs.length<=x.runs.length+1:=by
 unfold Hs.Qph;split
 .obtain ⟨h1,h2,h3,h4,h5,_⟩:=Zh4 x _ _;exact ⟨h1,h2,h3,h4,h5,Zh3 _ _ _⟩
 .split
  .exact ⟨rfl,rfl,rfl,rfl,rfl,by show x.runs.length<=_;omega⟩
  .exact ⟨rfl,rfl,rfl,rfl,rfl,by omega⟩
structure Qgt (x y:Hs) (n:Nat):Prop where
 sheet:y.sheet=x.sheet
 r0:y.m0.reel=x.m0.reel
 r1:y.m1.reel=x.m1.reel
 a01:Qdo x.active->Qdo y.active
 log:y.log.length<=x.log.length+n
 runs:y.runs.length<=x.runs.length+n
theorem Qgt.tick (x:Hs):Qgt x x.tick 1:=by
 have b:=Zo.begin { x with ticks:=x.ticks+1 };have bl:=Zh2 { x with ticks:=x.ticks+1 };obtain ⟨h1,h2,h3,h4,h5,h6⟩:=Zh5 ({ x with ticks:=x.ticks+1 }:Hs).begin.Qy2;refine ⟨?_,?_,?_,fun h=>?_,?_,?_⟩
 .show (Hs.Qph _).sheet=_;rw[h1];exact b.sheet
 .show (Hs.Qph _).m0.reel=_;rw[h2];exact (Mc.Qv0 _ _).trans b.r0
 .show (Hs.Qph _).m1.reel=_;rw[h3];exact (Mc.Qv0 _ _).trans b.r1
 .show Qdo (Hs.Qph _).active;rw[h4];exact b.a01 h
 .show (Hs.Qph _).log.length<=_;rw[h5];exact bl
 .show (Hs.Qph _).runs.length<=_;refine Nat.le_trans h6 ?_;show ({ x with ticks:=x.ticks+1 }:Hs).begin.runs.length+1<=_;rw[b.runs];exact Nat.le_refl _
theorem Qgt.trans {x y z:Hs} {m n:Nat} (a:Qgt x y m) (b:Qgt y z n):Qgt x z (m+n):=⟨b.sheet.trans a.sheet,b.r0.trans a.r0,b.r1.trans a.r1,fun h=>b.a01 (a.a01 h),by have:=a.log;have:=b.log;omega,by have:=a.runs;have:=b.runs;omega⟩
theorem Qgt.refl (x:Hs):Qgt x x 0:=⟨rfl,rfl,rfl,id,Nat.le_refl _,Nat.le_refl _⟩
def Qbc:Nat->Hs->Hs
 | 0,x=>x
 | n+1,x=>(Qbc n x).tick
theorem Qgt.ticks (x:Hs):∀ n,Qgt x (Qbc n x) n
 | 0=>Qgt.refl x
 | n+1=>(Qgt.ticks x n).trans (Qgt.tick _)
theorem Qgt.good {x y:Hs} {n:Nat} (r:Qgt x y n) (g:Qbf x) (hn:n<=1000):Qd6 y/\y.runs.length < sizeLine:=by
 have hz:sizeLine=16777216:=rfl;have e:y.sh=x.sh:=by unfold Hs.sh;rw[r.sheet]
 have h1:=g.room;have h2:=g.Zpr;have h3:=r.log;have h4:=r.runs;refine ⟨⟨by rw[r.sheet,e];exact g.sh,by rw[e,r.r0];exact g.r0,by rw[e,r.r1];exact g.r1,r.a01 g.a01,?_⟩,by omega⟩;show y.log.length < sizeLine;omega
def Qn9 (x:Hs) (ns:List Int):Hs × List Int:=if 1<=ns.getD 0 0/\ns.getD 0 0<=500 then (Qbc (ns.getD 0 0).toNat x,[(Qbc (ns.getD 0 0).toNat x).ticks,(Qbc (ns.getD 0 0).toNat x).mode]) else (x,[-1])
theorem Qv1 (D:Df K mg "call_tick" Qiv Qfa) (T:Txt K mg CM CR CS CH) (Qgu:Ok P w K mg base "tick_house" 7 Qb4 (Qf1 CM CR CS CH (fun x=>Qd6 x/\x.runs.length < sizeLine) [] Hs.tick)) :
  Ok P w K mg base "call_tick" 8 Qfa (Jn K CM CR CS CH 1 Qbf Qn9):=by
 have SC:=Qvx;refine D.ok SC (fun vs H Q E h=>?_) (fun f _ A _ s H vs Q E hr h=>?_)
 .obtain ⟨A,x,np,ns,rfl,_⟩:=h;rfl
 .obtain ⟨B,x,np,ns,rfl,hh,hn,hl,g,k⟩:=h;obtain ⟨m,rfl⟩:=Qjy hl;refine ⟨_,(Qb (psL (i:=2) SC.nd (Zf Qt (pv 1) Qj (fun _ _=>rfl))) (Qb (Qz (PW.pt (Qi7 (Qo Qh0 (pv 2) Qj (Qq _)) (Qfr (Qo Qd3 (pv 2) (pgi T.Qlk) (Qq _))))) (Qc (Qm (Za (Qa (pgi T.Zd) Qe)))) Qp) (Qb (Qav PassesOwn.never rfl (Zew rfl T.Zgx (Qa (pv 2) Qe)) (pgL (i:=3) SC.nd) (Qc (Qx (pcl Qgu (hr.M) (Qa (pv 0) Qe))))) (Qc (Qm (Za (Qa (Qh (pv 0) rfl) (Qa (Qh (pv 0) rfl) Qe)))))))),?_⟩;walk_at "R";refine ⟨np,_,_,.int m,rfl,rfl,hn,at_of (j:=0) rfl rfl,?_⟩;walk_at "R";have bad:¬ (1<=m/\m<=500)->∀ q,H q=none->Q (.ref q) (upd H q (.lst [.int (-1)])):=fun z =>
   Qw (l:=[-1]) hh (Step.refl _ _) (by unfold Qn9;rw[if_neg (show ¬ (1<=[m].getD 0 0/\[m].getD 0 0<=500) from z)]) (by unfold Qn9;rw[if_neg (show ¬ (1<=[m].getD 0 0/\[m].getD 0 0<=500) from z)]) k
  refine ifB (fun h1=>?_) (fun h1=>?_)
  .have h1:m < 1:=by simpa using h1
   exact Qfs ⟨sz1,bad (by omega)⟩
  .have h1:¬ m < 1:=by simpa using h1
   walk_at "R";refine ifB (fun h2=>?_) (fun h2=>?_)
   .have h2:500 < m:=by simpa using h2
    exact ⟨sz1,bad (by omega)⟩
   .have h2:¬ 500 < m:=by simpa using h2
    have hp:1<=[m].getD 0 0/\[m].getD 0 0<=500:=⟨by show 1<=m;omega,by show m<=500;omega⟩
    refine ⟨_,rfl,m,rfl,by omega,by omega,Zey (lo:=0) (n:=m.toNat) (fun i σ H'=>∃ v:Option V,∃ A',σ=[some (.ref B.h),some (.ref np),some (.int m),v]/\Step H H' B A' /\ Jx CM CR CS CH H' A' (Qbc i x))
     ⟨none,B,rfl,Step.refl _ _,hh⟩ ?_ ?_⟩
    .rintro i σ H' hi ⟨v,A',rfl,st,hh'⟩
     walk_at "R";refine ⟨A',Qbc i x,by rw[st.hh];rfl,hh',(Qgt.ticks x i).good g (by omega),fun A2 H2 hh2 st2=>?_⟩;exact ⟨_,A2,rfl,st.trans st2,hh2⟩
    .rintro σ H1 ⟨v,A',rfl,st,hh1⟩
     have ho:=hh1.obj;rw[st.hh]at ho;walk_at "R";refine ⟨(by show 2<=sizeLine;decide),Qw (l:=[(Qbc m.toNat x).ticks,(Qbc m.toNat x).mode]) hh1 st ?_ ?_ k⟩
     .unfold Qn9;rw[if_pos hp];rfl
     .unfold Qn9;rw[if_pos hp];rfl
noncomputable abbrev Qgv:Stmt:=top 117
noncomputable abbrev Qv2:List Str:=["house","text","sheet","wrong"]
noncomputable abbrev Qb9:List Str:=["house","text"]
theorem Qs5:Qn Qv2 Qb9 (Qi Qgv):=by walk_at "sc"
theorem Qv3:∀ {fs:List (Str × V)} {ns:List Str} {f:Str},fs.map (·.1)=ns->f ∉ ns->fs.lookup f=none
 | [],_,_,_,_=>rfl
 | (g,v)::r,ns,f,e,hn=>by
  subst e;have hne:f ≠ g:=fun q=>hn (by rw[q];exact List.mem_cons_self);have hb:(f == g)=false:=beq_eq_false_iff_ne.mpr hne
  simp only[List.lookup,hb];exact Qv3 (ns:=r.map (·.1)) rfl fun m=>hn (List.mem_cons_of_mem _ m)
def sh0:Sh:=⟨0,0,0,0,0,[]⟩
def Qca (x:Hs) (ns:List Int):Hs × List Int:=
 if Qva ns=true then (if x.going=true then (x,[-3]) else if (Qa8 sh0 ns).1.length=0 then (hs0 (some (Qa8 sh0 ns).2),[0,((Qa8 sh0 ns).2.reels.length:Int)]) else (x,1::(Qa8 sh0 ns).1)) else (x,[-1])
theorem Qk3:∀ (ls:List (List Int)) (n:Int) (sh:Sh),(Qck ls n sh).1.length<=2
 | [],n,sh=>by
  rw[Qck];show (if sh.ended=true then [] else [n,3]).length<=2;split <;> simp
 | l::r,n,sh=>by
  rw[Qck];split
  .exact Qk3 r _ _
  .split
   .exact Qk3 r _ _
   .simp
def Zbr (K:FG) (CM CR CS CH:Addr):Sp:=fun vs H Q _=>∃ A x np ns,vs=[.ref A.h,.ref np]/\Jx CM CR CS CH H A x/\SqL K H np (ns.map V.int)/\np ∉ A.foot/\ns.length < 100000 /\
 ∀ A' H' q,Jx CM CR CS CH H' A' (Qca x ns).1->Step H H' A A' -> (∀ b o,H b=some o->b ∉ A.foot->b ≠ q)->H' q=some (Qah (Qca x ns).2)->q ∉ A'.foot->Q (.ref q) H'
theorem Qs6 (D:Df K mg "call_sheet" Qgv Qb9) (T:Txt K mg CM CR CS CH) (Qoa:Ok P w K mg base "is_text" 1 Qgl (Zm2 K)) (Zx:Ok P w K mg base "is_going" 1 Jz (Qf0 CM CR CS CH (fun _=>True) fun _ x=>.bl x.going))
  (Qzy:OkI P w K mg base "Sheet" CS 1 Qax (Zhg CS)) (Qgw:Ok P w K mg base "fill_sheet" 5 Qb7 (Zm8 K CS CR)) (Qkz:OkM P w K mg base "begin" CH 3 Jc (Qzr CM CR CS CH)) :
  Ok P w K mg base "call_sheet" 6 Qb9 (Zbr K CM CR CS CH):=by
 have SC:=Qs5;refine D.ok SC (fun vs H Q E h=>?_) (fun f _ A _ s H vs Q E hr h=>?_)
 .obtain ⟨A,x,np,ns,rfl,_⟩:=h;rfl
 .obtain ⟨B,x,np,ns,rfl,hh,hn,hnp,hl,k⟩:=h;have ho:=hh.obj;refine ⟨_,(Qb (Qz (Qae (Zm (pcl Qoa (hr.M) (Qa (pv 1) Qe)))) (Qc (Qm (Za (Qa (pgi T.Zd) Qe)))) Qp) (Qb (Qz (Zm (pcl Zx (hr.M) (Qa (pv 0) Qe))) (Qc (Qm (Za (Qa (pgi T.Qm9) Qe)))) Qp) (Qb (psL (i:=2) SC.nd (Zs5 Qzy (hr.M))) (Qb (psL (i:=3) SC.nd (pcl Qgw (hr.M) (Qa (pv 2) (Qa (pv 1) Qe)))) (Qb (Qz (Qo Qd3 (Zk Zc rfl T.Qdp PySem.boot_len (Qa (pv 3) Qe)) Qj (Qq _)) (Qc (Qm (Zq Zfg (Za (Qa Qj Qe)) (pv 3)))) Qp) (Qb (Qx (pmt (pv 0) T.clH Qkz (hr.M) (Qa (pv 2) Qe))) (Qc (Qm (Za (Qa Qj (Qa (Zk Zc rfl T.Qdp PySem.boot_len (Qa (Qh (pv 2) rfl) Qe)) Qe))))))))))),?_⟩;walk_at "R";refine ⟨np,ns,rfl,hn,_,rfl,?_⟩;cases h1:Qva ns with
  | false =>
   refine Qfs ?_;refine ⟨sz1,Qw (l:=[-1]) hh (Step.refl _ _) ?_ ?_ k⟩
   .unfold Qca;rw[if_neg (by simp[h1])]
   .unfold Qca;rw[if_neg (by simp[h1])]
  | true =>
   refine Qf7 ?_;walk_at "R";refine ⟨B,x,rfl,hh,trivial,_,rfl,ifB (fun h2=>?_) (fun h2=>?_)⟩
   .refine ⟨sz1,Qw (l:=[-3]) hh (Step.refl _ _) ?_ ?_ k⟩
    .unfold Qca;rw[if_pos h1,if_pos h2]
    .unfold Qca;rw[if_pos h1,if_pos h2]
   .have h2:¬ x.going=true:=by simp[h2]
    intro b dy hb hdy nb;refine ⟨b,dy,rfl,Qk,fun rl hrl=>⟨rfl,?_⟩⟩;simp only[Qju]at hrl;have Zs8:H rl=none:=hrl.2.2;have nrb:rl ≠ b:=hrl.1;have nrd:rl ≠ dy:=hrl.2.1;have s1:Jw H (upd (upd (upd (upd H dy (.own b)) b (.ins CS dy [])) rl (.lst [])) b (.ins CS dy (sF (.int 0) (.int 0) (.int 0) (.int 0) (.int 0) (.ref rl)))):=fun c o e=>by
     rw[Ql (Qg e hb),Ql (Qg e Zs8),Ql (Qg e hb),Ql (Qg e hdy)];exact e
    have hs1:Qga CS CR (upd (upd (upd (upd H dy (.own b)) b (.ins CS dy [])) rl (.lst [])) b (.ins CS dy (sF (.int 0) (.int 0) (.int 0) (.int 0) (.int 0) (.ref rl)))) b dy rl [] sh0:=
     ⟨Qk,by rw[Ql nrb];exact Qk,rfl,by simp⟩
    refine ⟨_,rfl,_,rfl,b,dy,rl,[],sh0,np,ns,rfl,hs1,by decide,s1.seq hn,hl,fun H2 ras q hs2 kp2 hq1 hq2=>?_⟩;have kp:∀ c o,H c=some o->H2 c=some o:=fun c o e=>kp2 c o (s1 c o e) (Qg e hb) (Qg e Zs8);have hh2:=hh.same (H':=H2) kp
    have hq3:H2 q=some (.lst ((Qa8 sh0 ns).1.map V.int)):=hq2;walk_at "R";refine ifB (fun h3=>?_) (fun h3=>?_)
    .have h3:¬ (Qa8 sh0 ns).1.length=0:=by
      have:=of_decide_eq_true h3
      simp at this;omega
     refine ⟨sz1,fun l hl1=>?_⟩;have s4:Jw H2 (upd H2 l (.lst [.int 1])):=fun c o e=>by rw[Ql (Qg e hl1)];exact e
     walk_at "R";have hlen2:(Qa8 sh0 ns).1.length<=2:=Qk3 _ _ _;refine ⟨l,q,_,_,rfl,rfl,Qk,s4 _ _ hq3,by rw[List.length_map];have hz:sizeLine=16777216:=rfl;rw[hz];simp;omega,?_⟩;have e5:([V.int 1]++(Qa8 sh0 ns).1.map V.int)=(1::(Qa8 sh0 ns).1).map V.int:=rfl;rw[e5];refine Qw (l:=1::(Qa8 sh0 ns).1) (hh2.same s4) ((Step.same kp).trans (Step.same s4)) ?_ ?_ k
     .unfold Qca;rw[if_pos h1,if_neg h2,if_neg h3]
     .unfold Qca;rw[if_pos h1,if_neg h2,if_neg h3]
    .have h3:(Qa8 sh0 ns).1.length=0:=by
      have:=of_decide_eq_false h3
      simp at this;simp[this]
     have ho2:=hh2.obj;have Zwl:=hs2.obj;have Zwm:=hs2.lst;walk_at "R";refine ⟨B.h,B.dh,_,rfl,ho2,Qv3 (ns:=hN) rfl (by decide +kernel),?_⟩;refine ⟨_,rfl,B.h,B.dh,_,.ref b,b,dy,rl,ras,some (Qa8 sh0 ns).2,rfl,ho2,.inr ⟨_,_,_,_,_,_,_,_,_,_,rfl⟩,⟨rfl,hs2⟩,fun A3 H3 hA3 e3 kp3 fr3=>?_⟩;have nbh:b ≠ B.h:=fun z=>by rw[z,hh.obj]at hb;cases hb
     have nrh:rl ≠ B.h:=fun z=>by rw[z,hh.obj]at Zs8;cases Zs8
     have hb3:=kp3 _ _ Zwl nbh;have hr3:=kp3 _ _ Zwm nrh;have st:Step H H3 B A3:=by
      refine ⟨fun c o e n=>kp3 c o (kp c o e) (fun z=>n (by rw[z];exact B.Qfv)),fun c m=>?_,e3⟩;rcases fr3 c m with z | z
      .rw[z];exact .inl B.Qfv
      .refine .inr ?_;cases hc:H c with
       | none=>rfl
       | some o=>rw[kp c o hc]at z;cases z
     walk_at "R";have el:((ras.map V.ref).length:Int)=((Qa8 sh0 ns).2.reels.length:Int):=by rw[List.length_map,hs2.rls.1]
     refine ⟨(by show 2<=sizeLine;decide),?_⟩;rw[el];refine Qw (l:=[0,((Qa8 sh0 ns).2.reels.length:Int)]) hA3 st ?_ ?_ k
     .unfold Qca;rw[if_pos h1,if_neg h2,if_pos h3]
     .unfold Qca;rw[if_pos h1,if_neg h2,if_pos h3]
end
section
def rlO (r:Vbfaal.Reel):Rl:=⟨r.name,r.frames,r.motor,r.change,r.last⟩
def shO (h:Vbfaal.Sheet):Sh:=⟨4,h.up,h.strike,h.down,h.leader,h.reels.map rlO⟩
def mcO (m:Vbfaal.Machine):Mc:=⟨match m.reel with | none=>-1 | some i=>(i:Int),m.place,m.motor,m.lamp,m.phase,m.count,m.glow,m.want,m.open_,m.seized,m.broken,m.dead⟩
def hsO (s:Vbfaal.State):Hs:=⟨s.sheet.map shO,mcO s.a,mcO s.b,s.tick,s.mode,s.active,s.target,s.why,s.log.map fun e=>((e.1:Int),(e.2.1:Int),(e.2.2:Int)),s.shows.map fun e=>((e.1:Int),(e.2.1:Int),(e.2.2.1:Int),(e.2.2.2:Int)),s.dark⟩
structure Qi6 (h:Vbfaal.Sheet) (m:Vbfaal.Machine):Prop where
 reel:∀ i,m.reel=some i->i < h.reels.length
 ph:m.phase<=3
 c0:m.phase=0->m.count=0
 c2:m.phase=2->m.count=0
 opn:m.open_=true->m.phase=2/\0<=m.place/\m.reel ≠ none
theorem Zbs (h:Vbfaal.Sheet) (m:Vbfaal.Machine):(mcO m).lit (shO h).strike=Vbfaal.lit h m:=by
 unfold Mc.lit Vbfaal.lit;show (m.lamp&&(!m.dead&&decide ((h.strike:Int)<=(m.glow:Int))))=_
 congr 2
 simp
theorem Zh6 (m:Vbfaal.Machine):(mcO m).well=(Vbfaal.atSpeed m&&(!m.seized && !m.broken)):=by
 unfold Mc.well Vbfaal.atSpeed;show (decide ((m.phase:Int)=2)&&(!m.seized && !m.broken))=_
 congr 1
 by_cases h:m.phase=2
 .simp[h]
 .have h2:¬ (m.phase:Int)=2:=by omega
  simp[h,h2]
theorem Zbt (h:Vbfaal.Sheet) (m:Vbfaal.Machine) (k:Nat):(mcO m).ready (shO h).strike k=Vbfaal.ready h m k:=by
 unfold Mc.ready Vbfaal.ready;rw[Zh6,Zbs];show ((Vbfaal.atSpeed m&&(!m.seized && !m.broken))&&(Vbfaal.lit h m&&decide (m.place=(k:Int) - 1)))=_;have e:(m.place == (k:Int) - 1)=decide (m.place=(k:Int) - 1):=by
  by_cases z:m.place=(k:Int) - 1
  .simp[z]
  .simp[z]
 rw[e];cases Vbfaal.atSpeed m <;> cases m.seized <;> cases m.broken <;> cases Vbfaal.lit h m <;> simp
theorem Qv4 (h:Vbfaal.Sheet) (i:Nat) (hi:i < h.reels.length):(shO h).rl (i:Int)=rlO (Vbfaal.reelAt h i):=by unfold Sh.rl Vbfaal.reelAt;show (h.reels.map rlO).getD (i:Int).toNat Zu8=_;rw[Int.toNat_natCast,List.getD_eq_getElem?_getD,List.getD_eq_getElem?_getD,List.getElem?_map,List.getElem?_eq_getElem hi];rfl
theorem last_eq (r:Vbfaal.Reel) (hf:r.last=true->1<=r.frames):(rlO r).last=(Vbfaal.lastOf r:Int):=by
 unfold Rl.last Vbfaal.lastOf;show (if r.last=true then (r.frames:Int) - 1 else (r.change:Int))=_;by_cases h:r.last=true
 .rw[if_pos h,if_pos h]
  have:=hf h
  omega
 .rw[if_neg h,if_neg h]
def Qq6 (h:Vbfaal.Sheet) (m:Vbfaal.Machine):Nat × Nat × Bool:=
 if m.seized=true then (0,0,false)
 else if m.motor=true then (if m.phase=2 then (2,0,true) else if m.phase=1 then ((if h.up<=m.count+1 then 2 else 1),(if h.up<=m.count+1 then 0 else m.count+1),(m.count+1) % 2 == 0) else (1,1,false))
 else if m.phase=0 then (0,0,false)
 else if m.phase=3 then ((if h.down<=m.count+1 then 0 else 3),(if h.down<=m.count+1 then 0 else m.count+1),(m.count+1) % 2 == 0)
 else if h.down<=1 then (0,0,false) else (3,1,false)
def there (h:Vbfaal.Sheet) (m:Vbfaal.Machine):Bool:=match Vbfaal.reelOf h m with
 | some r=>decide (m.place < (r.frames:Int)) && !m.broken
 | none=>false
theorem Qcs (h:Vbfaal.Sheet) (m:Vbfaal.Machine):Vbfaal.turn h m =
  { m with phase:=(Qq6 h m).1,count:=(Qq6 h m).2.1,moved:=(Qq6 h m).2.2&&there h m,place:=if ((Qq6 h m).2.2&&there h m)=true then m.place+1 else m.place,glow:=if m.lamp=true then m.glow+1 else 0,open_:=m.want&&(((Qq6 h m).2.2&&there h m)&&(Vbfaal.atSpeed m&&(m.motor && !m.seized))) }:=rfl
theorem Zh7 (n:Nat):decide (((n:Int)+1) % 2=0)=((n+1) % 2 == 0):=by
 have e:((n:Int)+1) % 2=(((n+1) % 2:Nat):Int):=by omega
 rw[e];by_cases h:(n+1) % 2=0
 .simp[h]
 .have h1:(n+1) % 2=1:=by omega
  simp[h1]
theorem run_eq (h:Vbfaal.Sheet) (m:Vbfaal.Machine) (I:Qi6 h m):(mcO m).run (shO h).up (shO h).down=((Qq6 h m).2.2,{ mcO m with phase:=((Qq6 h m).1:Int),count:=((Qq6 h m).2.1:Int) }):=by
 unfold Mc.run Qq6;by_cases hs:m.seized=true
 .rw[if_pos (show (mcO m).seized=true from hs),if_pos hs];rfl
 .rw[if_neg (show ¬ (mcO m).seized=true from hs),if_neg hs];by_cases hm:m.motor=true
  .rw[if_pos (show (mcO m).motor=true from hm),if_pos hm];unfold Mc.drive;by_cases h2:m.phase=2
   .have h2':(mcO m).phase=2:=by show (m.phase:Int)=2;omega
    rw[if_pos h2',if_pos h2];have hc:=I.c2 h2;show (true,mcO m)=(true,{ mcO m with phase:=2,count:=0 })
    have:mcO m={ mcO m with phase:=2,count:=0 }:=by unfold mcO;simp[h2,hc]
    rw[<-this]
   .have h2':¬ (mcO m).phase=2:=by show ¬ (m.phase:Int)=2;omega
    rw[if_neg h2',if_neg h2];by_cases h1:m.phase=1
    .have h1':(mcO m).phase=1:=by show (m.phase:Int)=1;omega
     rw[if_pos h1',if_pos h1];show (decide (((m.count:Int)+1) % 2=0),if (h.up:Int)<=(m.count:Int)+1 then { mcO m with phase:=2,count:=0 } else { mcO m with count:=(m.count:Int)+1 })=_;rw[Zh7];by_cases hu:h.up<=m.count+1
     .have hu':(h.up:Int)<=(m.count:Int)+1:=by omega
      simp only[if_pos hu,if_pos hu'];rfl
     .have hu':¬ (h.up:Int)<=(m.count:Int)+1:=by omega
      simp only[if_neg hu,if_neg hu'];have e:(mcO m).phase=((1:Nat):Int):=h1';rw[Prod.mk.injEq];refine ⟨rfl,?_⟩;show ({ mcO m with count:=(m.count:Int)+1 }:Mc)={ mcO m with phase:=((1:Nat):Int),count:=((m.count+1:Nat):Int) }
      rw[<-e];rfl
    .have h1':¬ (mcO m).phase=1:=by show ¬ (m.phase:Int)=1;omega
     rw[if_neg h1',if_neg h1];rfl
  .rw[if_neg (show ¬ (mcO m).motor=true from hm),if_neg hm];unfold Mc.Qib;by_cases h0:m.phase=0
   .have h0':(mcO m).phase=0:=by show (m.phase:Int)=0;omega
    rw[if_pos h0',if_pos h0];have hc:=I.c0 h0
    have:mcO m={ mcO m with phase:=0,count:=0 }:=by unfold mcO;simp[h0,hc]
    show (false,mcO m)=(false,{ mcO m with phase:=0,count:=0 })
    rw[<-this]
   .have h0':¬ (mcO m).phase=0:=by show ¬ (m.phase:Int)=0;omega
    rw[if_neg h0',if_neg h0];by_cases h3:m.phase=3
    .have h3':(mcO m).phase=3:=by show (m.phase:Int)=3;omega
     rw[if_pos h3',if_pos h3];show (decide (((m.count:Int)+1) % 2=0),if (h.down:Int)<=(m.count:Int)+1 then (mcO m).rest else { mcO m with count:=(m.count:Int)+1 })=_;rw[Zh7];by_cases hu:h.down<=m.count+1
     .have hu':(h.down:Int)<=(m.count:Int)+1:=by omega
      simp only[if_pos hu,if_pos hu'];rfl
     .have hu':¬ (h.down:Int)<=(m.count:Int)+1:=by omega
      simp only[if_neg hu,if_neg hu'];have e:(mcO m).phase=((3:Nat):Int):=h3';rw[Prod.mk.injEq];refine ⟨rfl,?_⟩;show ({ mcO m with count:=(m.count:Int)+1 }:Mc)={ mcO m with phase:=((3:Nat):Int),count:=((m.count+1:Nat):Int) }
      rw[<-e];rfl
    .have h3':¬ (mcO m).phase=3:=by show ¬ (m.phase:Int)=3;omega
     rw[if_neg h3',if_neg h3];by_cases hu:h.down<=1
     .have hu':(shO h).down<=1:=by show (h.down:Int)<=1;omega
      rw[if_pos hu,if_pos hu'];rfl
     .have hu':¬ (shO h).down<=1:=by show ¬ (h.down:Int)<=1;omega
      rw[if_neg hu,if_neg hu'];rfl
theorem Zps (h:Vbfaal.Sheet) (m:Vbfaal.Machine) (I:Qi6 h m) (a b:Int) :
  ({ mcO m with phase:=a,count:=b }:Mc).move (shO h)=(there h m,{ mcO m with phase:=a,count:=b,place:=if there h m=true then m.place+1 else m.place }):=by
 cases hr:m.reel with
 | none =>
  have e:(mcO m).reel = -1:=by unfold mcO;rw[hr]
  have th:there h m=false:=by unfold there Vbfaal.reelOf;rw[hr];rfl
  unfold Mc.move;rw[if_pos (.inl e),th];rfl
 | some i =>
  have hi:=I.reel i hr;have e:(mcO m).reel=(i:Int):=by unfold mcO;rw[hr]
  have eg:h.reels[i]? = some (Vbfaal.reelAt h i):=by unfold Vbfaal.reelAt;rw[List.getD_eq_getElem?_getD,List.getElem?_eq_getElem hi];rfl
  have th:there h m=(decide (m.place < ((Vbfaal.reelAt h i).frames:Int)) && !m.broken):=by unfold there Vbfaal.reelOf;rw[hr];show (match h.reels[i]? with | some r=>decide (m.place < (r.frames:Int)) && !m.broken | none=>false)=_;rw[eg]
  have ef:((shO h).rl (mcO m).reel).frames=((Vbfaal.reelAt h i).frames:Int):=by rw[e,Qv4 h i hi];rfl
  unfold Mc.move;show (if (mcO m).reel = -1\/m.broken=true then _ else if ((shO h).rl (mcO m).reel).frames<=m.place then _ else _)=_;rw[ef,th];by_cases hb:m.broken=true
  .rw[if_pos (.inr hb),hb];simp only[Bool.not_true,Bool.and_false,if_neg Bool.false_ne_true];rfl
  .rw[if_neg (show ¬ ((mcO m).reel = -1\/m.broken=true) from fun z=>z.elim (by omega) hb)];have hb:m.broken=false:=by simpa using hb
   by_cases hp:((Vbfaal.reelAt h i).frames:Int)<=m.place
   .have hp':¬ m.place < ((Vbfaal.reelAt h i).frames:Int):=by omega
    rw[if_pos hp,decide_eq_false hp'];simp only[Bool.false_and,if_neg Bool.false_ne_true];rfl
   .have hp':m.place < ((Vbfaal.reelAt h i).frames:Int):=by omega
    rw[if_neg hp,decide_eq_true hp',hb];simp only[Bool.not_false,Bool.and_true,if_true];rfl
theorem Zh8 (h:Vbfaal.Sheet) (m:Vbfaal.Machine) (I:Qi6 h m):(mcO m).tick (shO h)=mcO (Vbfaal.turn h m):=by
 rw[Qcs];unfold Mc.tick;simp only[run_eq h m I,Zps h m I];have e2:decide ((mcO m).phase=2)=Vbfaal.atSpeed m:=by
  unfold Vbfaal.atSpeed;show decide ((m.phase:Int)=2)=_;by_cases z:m.phase=2
  .simp[z]
  .have z2:¬ (m.phase:Int)=2:=by omega
   simp[z,z2]
 rw[e2];have eg:(if m.lamp=true then (m.glow:Int)+1 else 0)=((if m.lamp=true then m.glow+1 else 0:Nat):Int):=by split <;> simp
 cases h1:(Qq6 h m).2.2 with
 | false =>simp only[Bool.false_and,if_neg Bool.false_ne_true];cases hl:m.lamp <;> simp[mcO,hl]
 | true =>simp only[Bool.true_and,if_true];cases hl:m.lamp <;> simp[mcO,hl]
section
open Vbfaal (State Sheet Machine machine withMachine)
theorem hmc (s:State) (k:Nat):(hsO s).mc (k:Int)=mcO (machine s k):=by
 unfold Hs.mc machine;by_cases h:k=0
 .rw[if_pos (by omega),if_pos h];rfl
 .rw[if_neg (by omega),if_neg h];rfl
theorem Zlr (s:State) (k:Nat) (m:Machine):(hsO s).setM (k:Int) (mcO m)=hsO (withMachine s k m):=by
 unfold Hs.setM withMachine;by_cases h:k=0
 .rw[if_pos h];simp[h,hsO]
 .rw[if_neg h];have h2:¬ (k:Int)=0:=by omega
  simp[h,hsO]
theorem Zdk (s:State) (a b:Nat):(hsO s).note (a:Int) (b:Int)=hsO (Vbfaal.note s a b):=by unfold Hs.note Vbfaal.note hsO;simp
theorem hstop (s:State) (r:Nat):(hsO s).stop (r:Int)=hsO (Vbfaal.stopped s r):=by unfold Hs.stop Vbfaal.stopped;rw[<-Zdk];rfl
theorem Zm9 {s:State} (h:s.active<=1):(1:Int) - (s.active:Int)=((1 - s.active:Nat):Int):=by omega
structure SInv (h:Sheet) (s:State):Prop where
 sheet:s.sheet=some h
 ma:Qi6 h s.a
 mb:Qi6 h s.b
 act:s.active<=1
 wa:s.a.want=true->s.mode=2/\s.active=0 /\ -1<=s.a.place
 wb:s.b.want=true->s.mode=2/\s.active=1 /\ -1<=s.b.place
 beg:s.begun=true ↔ s.shows ≠ []
 runs:∀ r ∈ s.shows,r.2.2.1<=r.2.2.2
 fr:∀ r ∈ h.reels,1<=r.frames
theorem SInv.sh {h:Sheet} {s:State} (I:SInv h s):(hsO s).sh=shO h:=by unfold Hs.sh hsO;rw[I.sheet];rfl
theorem SInv.Zh9 {h:Sheet} {s:State} (I:SInv h s) (k:Nat):Qi6 h (machine s k):=by
 unfold machine;split
 .exact I.ma
 .exact I.mb
theorem Zia {h:Sheet} {s:State} (I:SInv h s) (i:Nat) (hi:(machine s s.active).reel=some i):(hsO s).Qll=decide ((machine s (1 - s.active)).reel=some (i+1)):=by
 unfold Hs.Qll;rw[show (hsO s).active=(s.active:Int) from rfl,Zm9 I.act,hmc,hmc];have e1:(mcO (machine s s.active)).reel=(i:Int):=by unfold mcO;rw[hi]
 rw[e1];cases ho:(machine s (1 - s.active)).reel with
 | none =>
  have e2:(mcO (machine s (1 - s.active))).reel = -1:=by unfold mcO;rw[ho]
  rw[e2];have n1:¬ (-1:Int)=(i:Int)+1:=by omega
  simp[n1]
 | some j =>
  have e2:(mcO (machine s (1 - s.active))).reel=(j:Int):=by unfold mcO;rw[ho]
  rw[e2];by_cases hj:j=i+1
  .have n1:(j:Int)=(i:Int)+1:=by omega
   simp[hj]
  .have n1:¬ (j:Int)=(i:Int)+1:=by omega
   simp[hj,n1]
theorem Zpt (m:Machine) (k:Nat):((mcO m).late (k:Int)=true) ↔ ((Vbfaal.atSpeed m&&decide ((k:Int) - 1<=m.place))=true\/m.seized=true\/m.broken=true\/m.dead=true\/m.reel=none):=by
 unfold Mc.late;have e2:decide ((mcO m).phase=2)=Vbfaal.atSpeed m:=by
  unfold Vbfaal.atSpeed;show decide ((m.phase:Int)=2)=_;by_cases z:m.phase=2
  .simp[z]
  .have z2:¬ (m.phase:Int)=2:=by omega
   simp[z,z2]
 have e3:((mcO m).reel = -1) ↔ m.reel=none:=by
  unfold mcO;cases m.reel with
  | none=>simp
  | some i =>
   have:¬ (i:Int) = -1:=by omega
   simp[this]
 rw[e2];simp only[Bool.or_eq_true,decide_eq_true_eq,e3];rfl
theorem Zls {h:Sheet} {s:State} (I:SInv h s):(hsO s).begin=hsO (Vbfaal.decideNow h s):=by
 have hA:(hsO s).mc (hsO s).active=mcO (machine s s.active):=hmc s s.active;have hsh:=I.sh;unfold Hs.begin Vbfaal.decideNow;simp only;by_cases h1:s.mode=1
 .rw[if_pos (show (hsO s).mode=1 by show (s.mode:Int)=1;omega),if_pos h1];unfold Hs.wait;rw[hA,hsh];have er:(mcO (machine s s.active)).ready (shO h).strike (hsO s).target=Vbfaal.ready h (machine s s.active) s.target:=Zbt h _ s.target;rw[er];by_cases h2:Vbfaal.ready h (machine s s.active) s.target=true
  .rw[if_pos h2,if_pos h2,<-Zdk]
   congr 1
   have:=Zlr s s.active { machine s s.active with want:=true }
   show ({ (hsO s).setM (s.active:Int) (mcO { machine s s.active with want:=true }) with mode:=2 }:Hs)=_;rw[this];rfl
  .rw[if_neg h2,if_neg h2];have el:=Zpt (machine s s.active) s.target;by_cases h3:(mcO (machine s s.active)).late (s.target:Int)=true
   .rw[if_pos (show (mcO (machine s s.active)).late (hsO s).target=true from h3),if_pos (el.mp h3)];exact hstop s 1
   .rw[if_neg (show ¬ (mcO (machine s s.active)).late (hsO s).target=true from h3),if_neg (fun z=>h3 (el.mpr z))]
 .rw[if_neg (show ¬ (hsO s).mode=1 by show ¬ (s.mode:Int)=1;omega),if_neg h1];by_cases h2:s.mode=2
  .rw[if_pos (show (hsO s).mode=2 by show (s.mode:Int)=2;omega),if_pos h2];unfold Hs.watch;rw[hA,hsh];cases hr:(machine s s.active).reel with
   | none =>
    have e:(mcO (machine s s.active)).reel = -1:=by unfold mcO;rw[hr]
    rw[if_pos (.inl e)];exact hstop s 2
   | some i =>
    have e:(mcO (machine s s.active)).reel=(i:Int):=by unfold mcO;rw[hr]
    have hi:=(I.Zh9 s.active).reel i hr;simp only;rw[Zh6,Zbs];by_cases h3:(Vbfaal.atSpeed (machine s s.active)&&(!(machine s s.active).seized && !(machine s s.active).broken))=false
    .rw[if_pos (.inr h3),if_pos h3];exact hstop s 2
    .rw[if_neg (fun z=>z.elim (by rw[e];omega) h3),if_neg h3];by_cases h4:Vbfaal.lit h (machine s s.active)=false
     .rw[if_pos h4,if_pos h4];exact hstop s 4
     .rw[if_neg h4,if_neg h4];unfold Hs.follow;rw[hA,hsh,e,Qv4 h i hi];have hmem:Vbfaal.reelAt h i ∈ h.reels:=by unfold Vbfaal.reelAt;rw[List.getD_eq_getElem?_getD,List.getElem?_eq_getElem hi];exact List.getElem_mem hi
      have hl:=last_eq (Vbfaal.reelAt h i) fun _=>I.fr _ hmem;by_cases h5:(Vbfaal.reelAt h i).last=true
      .rw[if_pos (show (rlO (Vbfaal.reelAt h i)).ends=true from h5),if_pos h5,hl];have el:((mcO (machine s s.active)).place=(Vbfaal.lastOf (Vbfaal.reelAt h i):Int)) ↔ (machine s s.active).place=((Vbfaal.reelAt h i).frames:Int) - 1:=by have hf:=I.fr _ hmem;unfold Vbfaal.lastOf;rw[if_pos h5];show (machine s s.active).place=_ ↔ _;constructor <;> intro z <;> omega
       by_cases h6:(machine s s.active).place=((Vbfaal.reelAt h i).frames:Int) - 1
       .rw[if_pos (el.mpr h6),if_pos h6];unfold Hs.end_;rw[hA,<-Zdk]
        congr 1
        have:=Zlr s s.active (Vbfaal.off (machine s s.active))
        show ({ (hsO s).setM (s.active:Int) (mcO (Vbfaal.off (machine s s.active))) with mode:=4 }:Hs)=_;rw[this];rfl
       .rw[if_neg (fun z=>h6 (el.mp z)),if_neg h6]
      .rw[if_neg (show ¬ (rlO (Vbfaal.reelAt h i)).ends=true from h5),if_neg h5];have eo:(1:Int) - (hsO s).active=((1 - s.active:Nat):Int):=Zm9 I.act;have hn:=Zia I i hr;by_cases h6:(machine s s.active).place=((Vbfaal.reelAt h i).motor:Int)
       .rw[if_pos (show (mcO (machine s s.active)).place=(rlO (Vbfaal.reelAt h i)).motor from h6),if_pos h6];unfold Hs.Qge;rw[hn,eo,hmc];by_cases h7:(machine s (1 - s.active)).reel=some (i+1)
        .rw[if_pos (decide_eq_true h7),if_pos h7,<-Zdk]
         congr 1
         exact Zlr s (1 - s.active) (Vbfaal.on (machine s (1 - s.active)))
        .rw[if_neg (by simp[h7]),if_neg h7];exact Zdk s 6 (1 - s.active)
       .rw[if_neg (show ¬ (mcO (machine s s.active)).place=(rlO (Vbfaal.reelAt h i)).motor from h6),if_neg h6];by_cases h7:(machine s s.active).place=((Vbfaal.reelAt h i).change:Int)
        .rw[if_pos (show (mcO (machine s s.active)).place=(rlO (Vbfaal.reelAt h i)).change from h7),if_pos h7];unfold Hs.change;rw[hn,eo];by_cases h8:(machine s (1 - s.active)).reel=some (i+1)
         .rw[if_pos (decide_eq_true h8),if_pos h8];have ef:(hsO s).flip=hsO { withMachine s s.active (Vbfaal.off (machine s s.active)) with active:=1 - s.active }:=by
           unfold Hs.flip;rw[hA,eo]
           have:=Zlr s s.active (Vbfaal.off (machine s s.active))
           show ({ (hsO s).setM (s.active:Int) (mcO (Vbfaal.off (machine s s.active))) with active:=((1 - s.active:Nat):Int) }:Hs)=_;rw[this];rfl
          have em:machine { withMachine s s.active (Vbfaal.off (machine s s.active)) with active:=1 - s.active } (1 - s.active)=machine s (1 - s.active):=by
           have:=I.act
           unfold machine withMachine;by_cases z:s.active=0
           .simp[z]
           .have z1:s.active=1:=by omega
            simp[z1]
          rw[ef,hmc,em,hsh];have er:(mcO (machine s (1 - s.active))).ready (shO h).strike 0=Vbfaal.ready h (machine s (1 - s.active)) 0:=Zbt h _ 0;rw[er];by_cases h9:Vbfaal.ready h (machine s (1 - s.active)) 0=true
          .rw[if_pos h9,if_pos h9];rw[show ((hsO { withMachine s s.active (Vbfaal.off (machine s s.active)) with active:=1 - s.active }).setM ((1 - s.active:Nat):Int) { mcO (machine s (1 - s.active)) with told:=true })=hsO (withMachine { withMachine s s.active (Vbfaal.off (machine s s.active)) with active:=1 - s.active } (1 - s.active) { machine s (1 - s.active) with want:=true }) from Zlr _ _ { machine s (1 - s.active) with want:=true }];rw[show (2:Int)=((2:Nat):Int) from rfl,Zdk]
           congr 2
           unfold withMachine;by_cases z:s.active=0 <;> by_cases z2:1 - s.active=0 <;> simp[z,z2]
          .rw[if_neg h9,if_neg h9];rw[show (hsO { withMachine s s.active (Vbfaal.off (machine s s.active)) with active:=1 - s.active }).setM ((1 - s.active:Nat):Int) (mcO (machine s (1 - s.active))).on=hsO (withMachine { withMachine s s.active (Vbfaal.off (machine s s.active)) with active:=1 - s.active } (1 - s.active) (Vbfaal.on (machine s (1 - s.active)))) from Zlr _ _ (Vbfaal.on (machine s (1 - s.active)))];unfold withMachine;by_cases z:s.active=0 <;> by_cases z2:1 - s.active=0 <;> simp[z,z2,hsO]
         .rw[if_neg (by simp[h8]),if_neg h8];exact hstop s 3
        .rw[if_neg (show ¬ (mcO (machine s s.active)).place=(rlO (Vbfaal.reelAt h i)).change from h7),if_neg h7]
  .rw[if_neg (show ¬ (hsO s).mode=2 by show ¬ (s.mode:Int)=2;omega),if_neg h2]
end
section
open Vbfaal (State Sheet Machine machine withMachine)
theorem Qi6.of {h:Sheet} {m m':Machine} (I:Qi6 h m) (e1:m'.reel=m.reel) (e2:m'.phase=m.phase) (e3:m'.count=m.count) (e4:m'.open_=m.open_) (e5:m'.place=m.place):Qi6 h m':=
 ⟨by rw[e1];exact I.reel,by rw[e2];exact I.ph,by rw[e2,e3];exact I.c0,by rw[e2,e3];exact I.c2,by rw[e1,e2,e4,e5];exact I.opn⟩
theorem Qi6.off {h:Sheet} {m:Machine} (I:Qi6 h m):Qi6 h (Vbfaal.off m):=I.of rfl rfl rfl rfl rfl
theorem Qi6.on {h:Sheet} {m:Machine} (I:Qi6 h m):Qi6 h (Vbfaal.on m):=I.of rfl rfl rfl rfl rfl
theorem Qi6.want {h:Sheet} {m:Machine} (I:Qi6 h m):Qi6 h { m with want:=true }:=I.of rfl rfl rfl rfl rfl
theorem Qi6.turn {h:Sheet} {m:Machine} (I:Qi6 h m) (hw:m.want=true -> -1<=m.place):Qi6 h (Vbfaal.turn h m):=by
 rw[Qcs];have t1:(Qq6 h m).1<=3/\((Qq6 h m).1=0->(Qq6 h m).2.1=0)/\((Qq6 h m).1=2->(Qq6 h m).2.1=0):=by
  unfold Qq6
  repeat' split
  all_goals simp_all
  all_goals (repeat' split)
  all_goals simp_all
 refine ⟨I.reel,t1.1,t1.2.1,t1.2.2,fun ho=>?_⟩;simp only[Bool.and_eq_true]at ho;obtain ⟨h1,⟨h2,h3⟩,h4,h5,h6⟩:=ho;have h4:m.phase=2:=by unfold Vbfaal.atSpeed at h4;simpa using h4
 have h6:m.seized=false:=by simpa using h6
 have et:Qq6 h m=(2,0,true):=by unfold Qq6;simp[h6,h5,h4]
 have hr:m.reel ≠ none:=fun z=>by
  unfold there Vbfaal.reelOf at h3;rw[z]at h3;cases h3
 refine ⟨by show (Qq6 h m).1=2;rw[et],?_,hr⟩;show 0<=if ((Qq6 h m).2.2&&there h m)=true then m.place+1 else m.place
 rw[h2,h3]
 have:=hw h1
 simp;omega
theorem SInv.of {h:Sheet} {s s':State} (I:SInv h s) (e1:s'.sheet=s.sheet) (e2:s'.shows=s.shows) (e3:s'.begun=s.begun) (ha:Qi6 h s'.a) (hb:Qi6 h s'.b) (act:s'.active<=1)
  (wa:s'.a.want=true->s'.mode=2/\s'.active=0 /\ -1<=s'.a.place) (wb:s'.b.want=true->s'.mode=2/\s'.active=1 /\ -1<=s'.b.place):SInv h s':=
 ⟨by rw[e1];exact I.sheet,ha,hb,act,wa,wb,by rw[e2,e3];exact I.beg,by rw[e2];exact I.runs,I.fr⟩
theorem SInv.stopped {h:Sheet} {s:State} (I:SInv h s) (r:Nat):SInv h (Vbfaal.stopped s r):=
 I.of rfl rfl rfl I.ma.off I.mb.off I.act (fun z=>by cases z) (fun z=>by cases z)
theorem SInv.note {h:Sheet} {s:State} (I:SInv h s) (a b:Nat):SInv h (Vbfaal.note s a b):=I.of rfl rfl rfl I.ma I.mb I.act I.wa I.wb
theorem SInv.decide {h:Sheet} {s:State} (I:SInv h s):SInv h (Vbfaal.decideNow h s):=by
 have hact:=I.act;unfold Vbfaal.decideNow;simp only;by_cases h1:s.mode=1
 .rw[if_pos h1];by_cases h2:Vbfaal.ready h (machine s s.active) s.target=true
  .rw[if_pos h2];have hp : -1<=(machine s s.active).place:=by unfold Vbfaal.ready at h2;simp only[Bool.and_eq_true,beq_iff_eq]at h2;omega
   have na:¬ s.a.want=true:=fun z=>by have:=(I.wa z).1;omega
   have nb:¬ s.b.want=true:=fun z=>by have:=(I.wb z).1;omega
   by_cases z:s.active=0
   .have em:machine s s.active=s.a:=by unfold machine;rw[if_pos z]
    rw[em]at hp;have ew:withMachine s s.active { machine s s.active with want:=true }={ s with a:={ s.a with want:=true } }:=by unfold withMachine;rw[if_pos z,em]
    rw[ew];refine SInv.note ?_ _ _;exact I.of rfl rfl rfl I.ma.want I.mb hact (fun _=>⟨rfl,z,hp⟩) (fun y=>absurd y nb)
   .have z1:s.active=1:=by omega
    have em:machine s s.active=s.b:=by unfold machine;rw[if_neg z]
    rw[em]at hp;have ew:withMachine s s.active { machine s s.active with want:=true }={ s with b:={ s.b with want:=true } }:=by unfold withMachine;rw[if_neg z,em]
    rw[ew];refine SInv.note ?_ _ _;exact I.of rfl rfl rfl I.ma I.mb.want hact (fun y=>absurd y na) (fun _=>⟨rfl,z1,hp⟩)
  .rw[if_neg h2];split
   .exact I.stopped 1
   .exact I
 .rw[if_neg h1];by_cases h2:s.mode=2
  .rw[if_pos h2];cases hr:(machine s s.active).reel with
   | none=>exact I.stopped 2
   | some i =>
    simp only;split
    .exact I.stopped 2
    .split
     .exact I.stopped 4
     .split
      .split
       .refine SInv.note ?_ _ _;by_cases z:s.active=0
        .have em:machine s s.active=s.a:=by unfold machine;rw[if_pos z]
         have ew:withMachine s s.active (Vbfaal.off (machine s s.active))={ s with a:=Vbfaal.off s.a }:=by unfold withMachine;rw[if_pos z,em]
         rw[ew];exact I.of rfl rfl rfl I.ma.off I.mb hact (fun y=>by cases y) (fun y=>by have:=(I.wb y).2.1;omega)
        .have em:machine s s.active=s.b:=by unfold machine;rw[if_neg z]
         have ew:withMachine s s.active (Vbfaal.off (machine s s.active))={ s with b:=Vbfaal.off s.b }:=by unfold withMachine;rw[if_neg z,em]
         rw[ew];exact I.of rfl rfl rfl I.ma I.mb.off hact (fun y=>by have:=(I.wa y).2.1;omega) (fun y=>by cases y)
       .exact I
      .split
       .split
        .refine SInv.note ?_ _ _;by_cases z:s.active=0
         .have z2:¬ 1 - s.active=0:=by omega
          have em:machine s (1 - s.active)=s.b:=by unfold machine;rw[if_neg z2]
          have ew:withMachine s (1 - s.active) (Vbfaal.on (machine s (1 - s.active)))={ s with b:=Vbfaal.on s.b }:=by unfold withMachine;rw[if_neg z2,em]
          rw[ew];exact I.of rfl rfl rfl I.ma I.mb.on hact I.wa I.wb
         .have z2:1 - s.active=0:=by omega
          have em:machine s (1 - s.active)=s.a:=by unfold machine;rw[if_pos z2]
          have ew:withMachine s (1 - s.active) (Vbfaal.on (machine s (1 - s.active)))={ s with a:=Vbfaal.on s.a }:=by unfold withMachine;rw[if_pos z2,em]
          rw[ew];exact I.of rfl rfl rfl I.ma.on I.mb hact I.wa I.wb
        .exact I.note _ _
       .split
        .split
         .by_cases z:s.active=0
          .have z2:¬ 1 - s.active=0:=by omega
           have em:machine s (1 - s.active)=s.b:=by unfold machine;rw[if_neg z2]
           have ea:machine s s.active=s.a:=by unfold machine;rw[if_pos z]
           rw[em,ea];have nb:¬ s.b.want=true:=fun y=>by have:=(I.wb y).2.1;omega
           have ew:∀ m',withMachine (withMachine s s.active (Vbfaal.off s.a)) (1 - s.active) m' = { s with a:=Vbfaal.off s.a,b:=m' }:=fun m'=>by unfold withMachine;rw[if_pos z,if_neg z2]
           rw[ew,ew];split
           .rename_i hrd;have hp : -1<=s.b.place:=by unfold Vbfaal.ready at hrd;simp only[Bool.and_eq_true,beq_iff_eq]at hrd;omega
            refine SInv.note ?_ _ _;exact I.of rfl rfl rfl I.ma.off I.mb.want (by show 1 - s.active<=1;omega) (fun y=>by cases y) (fun _=>⟨h2,by show 1 - s.active=1;omega,hp⟩)
           .exact I.of rfl rfl rfl I.ma.off I.mb.on (by show 1 - s.active<=1;omega) (fun y=>by cases y) (fun y=>absurd y nb)
          .have z2:1 - s.active=0:=by omega
           have em:machine s (1 - s.active)=s.a:=by unfold machine;rw[if_pos z2]
           have ea:machine s s.active=s.b:=by unfold machine;rw[if_neg z]
           rw[em,ea];have na:¬ s.a.want=true:=fun y=>by have:=(I.wa y).2.1;omega
           have ew:∀ m',withMachine (withMachine s s.active (Vbfaal.off s.b)) (1 - s.active) m' = { s with b:=Vbfaal.off s.b,a:=m' }:=fun m'=>by unfold withMachine;rw[if_neg z,if_pos z2]
           rw[ew,ew];split
           .rename_i hrd;have hp : -1<=s.a.place:=by unfold Vbfaal.ready at hrd;simp only[Bool.and_eq_true,beq_iff_eq]at hrd;omega
            refine SInv.note ?_ _ _;exact I.of rfl rfl rfl I.ma.want I.mb.off (by show 1 - s.active<=1;omega) (fun _=>⟨h2,by show 1 - s.active=0;omega,hp⟩) (fun y=>by cases y)
           .exact I.of rfl rfl rfl I.ma.on I.mb.off (by show 1 - s.active<=1;omega) (fun y=>absurd y na) (fun y=>by cases y)
         .exact I.stopped 3
        .exact I
  .rw[if_neg h2];exact I
end
section
open Vbfaal (State Sheet Machine machine withMachine)
def one (h:Sheet) (m:Machine):Option (Nat × Nat):=if (m.open_&&Vbfaal.lit h m)=true then m.reel.map fun i=>(i,m.place.toNat) else none
theorem Qlo (h:Sheet) (s:State):Vbfaal.onScreen h s=match one h s.a with | some x=>some x | none=>one h s.b:=rfl
def Zr1 (x:Nat × Nat):Int × Int:=((x.1:Int),(x.2:Int))
theorem Zna {h:Sheet} {m:Machine} (I:Qi6 h m):(if (mcO m).shows (shO h).strike=true then some ((mcO m).reel,(mcO m).place) else none)=(one h m).map Zr1:=by
 unfold Mc.shows one;rw[Zbs];show (if (m.open_&&Vbfaal.lit h m)=true then _ else _)=_;by_cases h1:(m.open_&&Vbfaal.lit h m)=true
 .rw[if_pos h1,if_pos h1];have ho:m.open_=true:=(Bool.and_eq_true_iff.mp h1).1;obtain ⟨_,hp,hr⟩:=I.opn ho;cases e:m.reel with
  | none=>exact absurd e hr
  | some i =>
   have e1:(mcO m).reel=(i:Int):=by unfold mcO;rw[e]
   rw[e1];show some ((i:Int),m.place)=some ((i:Int),(m.place.toNat:Int));rw[Int.toNat_of_nonneg hp]
 .rw[if_neg h1,if_neg h1];rfl
theorem Zib {h:Sheet} {s:State} (I:SInv h s):(hsO s).seen=(Vbfaal.onScreen h s).map Zr1:=by
 have ha:=Zna I.ma;have hb:=Zna I.mb;unfold Hs.seen;rw[I.sh,Qlo];show (if (mcO s.a).shows (shO h).strike=true then some ((mcO s.a).reel,(mcO s.a).place) else if (mcO s.b).shows (shO h).strike=true then some ((mcO s.b).reel,(mcO s.b).place) else none)=_;by_cases h1:(mcO s.a).shows (shO h).strike=true
 .rw[if_pos h1]at ha ⊢;cases e:one h s.a with
  | none=>rw[e]at ha;cases ha
  | some x=>rw[e]at ha;exact ha
 .rw[if_neg h1]at ha ⊢;cases e:one h s.a with
  | some x=>rw[e]at ha;cases ha
  | none=>exact hb
def Qj1 (e:Nat × Nat × Nat × Nat):Int × Int × Int × Int:=((e.1:Int),(e.2.1:Int),(e.2.2.1:Int),(e.2.2.2:Int))
theorem Zpu (r:Nat × Nat × Nat × Nat) (t:Nat) (x:Nat × Nat) (hr:r.2.2.1<=r.2.2.2):(goes (Qj1 r) (t:Int) (x.1:Int) (x.2:Int)=true) ↔ (r.2.1=x.1/\r.2.2.2+1=x.2/\r.1+(x.2 - r.2.2.1)=t):=by
 unfold goes Qj1;simp only[Bool.and_eq_true,decide_eq_true_eq];constructor
 .rintro ⟨h1,h2,h3⟩
  refine ⟨by omega,by omega,by omega⟩
 .rintro ⟨h1,h2,h3⟩
  refine ⟨by omega,by omega,by omega⟩
theorem Zbu {α:Type}:∀ (l:List α) (x:α),l ≠ []->l.set (l.length - 1) x=l.dropLast++[x]
 | [],_,h=>absurd rfl h
 | [a],x,_=>rfl
 | a::b::r,x,_=>by
  have ih:=Zbu (b::r) x (by simp);show (a::b::r).set (r.length+1) x=_;rw[List.set_cons_succ];have e:(b::r).length - 1=r.length:=by simp
  rw[e]at ih;rw[ih];rfl
theorem rec_eq {h:Sheet} {s:State} (I:SInv h s) (x:Nat × Nat):(hsO s).Qnl (x.1:Int) (x.2:Int)=hsO { s with shows:=Vbfaal.recorded s.tick x s.shows,begun:=true }:=by
 have er:(hsO s).runs=s.shows.map Qj1:=rfl;unfold Hs.Qnl Vbfaal.recorded;rw[er,List.getLast?_map];cases e:s.shows.getLast? with
 | none =>have en:s.shows=[]:=List.getLast?_eq_none_iff.mp e;show ({ hsO s with runs:=s.shows.map Qj1++[_] }:Hs)=_;rw[en];unfold hsO;simp
 | some r =>
  have hm:r ∈ s.shows:=List.mem_of_getLast? e;have hg:=Zpu r s.tick x (I.runs r hm);have hne:s.shows ≠ []:=fun z=>by rw[z]at e;cases e
  show (if goes (Qj1 r) (s.tick:Int) (x.1:Int) (x.2:Int)=true then _ else _)=_;by_cases h1:goes (Qj1 r) (s.tick:Int) (x.1:Int) (x.2:Int)=true
  .rw[if_pos h1];simp only;rw[if_pos (hg.mp h1)];have e2:(s.shows.map Qj1).set ((s.shows.map Qj1).length - 1) ((Qj1 r).1,(Qj1 r).2.1,(Qj1 r).2.2.1,(x.2:Int))=(s.shows.dropLast++[(r.1,r.2.1,r.2.2.1,x.2)]).map Qj1:=by rw[Zbu _ _ (by simpa using hne),List.map_append,List.map_dropLast];rfl
   rw[e2];unfold hsO;rfl
  .rw[if_neg h1];simp only;rw[if_neg (fun z=>h1 (hg.mpr z))];show ({ hsO s with runs:=s.shows.map Qj1++[Qj1 (s.tick,x.1,x.2,x.2)] }:Hs)=({ hsO s with runs:=(s.shows++[(s.tick,x.1,x.2,x.2)]).map Qj1 }:Hs)
   rw[List.map_append];rfl
theorem Zlt {t:Nat} {x:Nat × Nat} {l:List (Nat × Nat × Nat × Nat)} (hl:∀ r ∈ l,r.2.2.1<=r.2.2.2):∀ r ∈ Vbfaal.recorded t x l,r.2.2.1<=r.2.2.2:=by
 unfold Vbfaal.recorded;cases e:l.getLast? with
 | none=>intro r hr;simp at hr;rw[hr];exact Nat.le_refl _
 | some q =>
  simp only;have hq:=hl q (List.mem_of_getLast? e);split
  .rename_i hc;intro r hr;rcases List.mem_append.mp hr with z | z
   .exact hl r ((List.dropLast_sublist l).subset z)
   .simp at z;rw[z];show q.2.2.1<=x.2;omega
  .intro r hr;rcases List.mem_append.mp hr with z | z
   .exact hl r z
   .simp at z;rw[z];exact Nat.le_refl _
theorem Zr2 {t:Nat} {x:Nat × Nat} {l:List (Nat × Nat × Nat × Nat)}:Vbfaal.recorded t x l ≠ []:=by
 unfold Vbfaal.recorded;cases l.getLast? with
 | none=>simp
 | some q =>simp only;split <;> simp
theorem Qq7 (h:Sheet) (m:Machine):m.place<=(Vbfaal.turn h m).place:=by rw[Qcs];simp only;split <;> omega
theorem Zic {h:Sheet} {s:State} (I:SInv h s):(hsO s).tick=hsO (Vbfaal.ticked h s)/\SInv h (Vbfaal.ticked h s):=by
 have I1:SInv h { s with tick:=s.tick+1 }:=I.of rfl rfl rfl I.ma I.mb I.act I.wa I.wb;have I2:=I1.decide;have e1:=Zls I1;generalize hd:Vbfaal.decideNow h { s with tick:=s.tick+1 }=d at I2 e1;have I3:SInv h { d with a:=Vbfaal.turn h d.a,b:=Vbfaal.turn h d.b }:=by
  refine I2.of rfl rfl rfl (I2.ma.turn fun z=>(I2.wa z).2.2) (I2.mb.turn fun z=>(I2.wb z).2.2) I2.act (fun z=>?_) (fun z=>?_)
  .have z:d.a.want=true:=z;obtain ⟨q1,q2,q3⟩:=I2.wa z;refine ⟨q1,q2,?_⟩
   have:=Qq7 h d.a
   show -1<=(Vbfaal.turn h d.a).place;omega
  .have z:d.b.want=true:=z;obtain ⟨q1,q2,q3⟩:=I2.wb z;refine ⟨q1,q2,?_⟩
   have:=Qq7 h d.b
   show -1<=(Vbfaal.turn h d.b).place;omega
 have e2:(hsO d).Qy2=hsO { d with a:=Vbfaal.turn h d.a,b:=Vbfaal.turn h d.b }:=by unfold Hs.Qy2;rw[I2.sh];show ({ hsO d with m0:=(mcO d.a).tick (shO h),m1:=(mcO d.b).tick (shO h) }:Hs)=_;rw[Zh8 h _ I2.ma,Zh8 h _ I2.mb];rfl
 generalize ht:({ d with a:=Vbfaal.turn h d.a,b:=Vbfaal.turn h d.b }:State)=t at I3 e2;have eu:Vbfaal.ticked h s=match Vbfaal.onScreen h t with
   | some x=>{ t with shows:=Vbfaal.recorded t.tick x t.shows,begun:=true }
   | none=>if t.begun=true/\t.mode ≠ 4 then { t with dark:=t.dark+1 } else t:=by
  subst ht;unfold Vbfaal.ticked;simp only[hd];split <;> simp_all
 have el:(hsO s).tick=(hsO t).Qph:=by unfold Hs.tick;rw[show ({ hsO s with ticks:=(hsO s).ticks+1 }:Hs)=hsO { s with tick:=s.tick+1 } from rfl,e1,e2]
 rw[eu,el];unfold Hs.Qph;rw[Zib I3];cases e:Vbfaal.onScreen h t with
 | some x =>refine ⟨rec_eq I3 x,?_⟩;exact ⟨I3.sheet,I3.ma,I3.mb,I3.act,I3.wa,I3.wb,⟨fun _=>Zr2,fun _=>rfl⟩,Zlt I3.runs,I3.fr⟩
 | none =>
  simp only[Option.map_none];have ec:(0 < (hsO t).runs.length/\¬ (hsO t).mode=4) ↔ (t.begun=true/\t.mode ≠ 4):=by
   have er:(hsO t).runs.length=t.shows.length:=by show (t.shows.map Qj1).length=_;rw[List.length_map]
   rw[er,I3.beg];show (0 < t.shows.length/\¬ (t.mode:Int)=4) ↔ _;rw[List.length_pos_iff];constructor
   .rintro ⟨q1,q2⟩;exact ⟨q1,by omega⟩
   .rintro ⟨q1,q2⟩;exact ⟨q1,by omega⟩
  by_cases hc:t.begun=true/\t.mode ≠ 4
  .rw[if_pos (ec.mpr hc),if_pos hc];exact ⟨by unfold hsO;simp,I3.of rfl rfl rfl I3.ma I3.mb I3.act I3.wa I3.wb⟩
  .rw[if_neg (fun z=>hc (ec.mp z)),if_neg hc];exact ⟨rfl,I3⟩
theorem Zbv {h:Sheet}:∀ (n:Nat) (s:State),SInv h s->Qbc n (hsO s)=hsO (Vbfaal.ticks h n s)/\SInv h (Vbfaal.ticks h n s)
 | 0,s,I=>⟨rfl,I⟩
 | n+1,s,I=>by
  obtain ⟨e,I1⟩:=Zic I;have sw:∀ (n:Nat) (x:Hs),Qbc (n+1) x=Qbc n x.tick:=fun n=>by
   induction n with
   | zero=>intro x;rfl
   | succ n ih=>intro x;show (Qbc (n+1) x).tick=(Qbc n x.tick).tick;rw[ih]
  rw[sw,e];exact Zbv n _ I1
end
def ci (l:List Nat):List Int:=l.map fun (n:Nat)=>(n:Int)
def cis (l:List (List Nat)):List (List Int):=l.map ci
def pre (cur:List Int):List (List Int)->List (List Int)
 | []=>[cur]
 | x::r=>(cur++x)::r
theorem Qq8 (m:Nat):∀ l,Vbfaal.splitBy m l ≠ []
 | []=>by simp[Vbfaal.splitBy]
 | c::r=>by
  rw[Vbfaal.splitBy];split
  .simp
  .cases Vbfaal.splitBy m r <;> simp
theorem Qk4 (m:Nat):∀ (l:List Nat) (done:List (List Int)) (cur:List Int),Qag (m:Int) (ci l) done cur=done++pre cur (cis (Vbfaal.splitBy m l))
 | [],done,cur=>by simp[ci,cis,Qag,Vbfaal.splitBy,pre]
 | c::r,done,cur=>by
  show Qag (m:Int) ((c:Int)::ci r) done cur=_;rw[Qag,Vbfaal.splitBy];have hne:=Qq8 m r;by_cases h:c=m
  .rw[if_pos (by omega),if_pos h,Qk4 m r];cases e:Vbfaal.splitBy m r with
   | nil=>exact absurd e hne
   | cons x l=>simp[cis,pre,ci]
  .rw[if_neg (by omega),if_neg h,Qk4 m r];cases e:Vbfaal.splitBy m r with
   | nil=>exact absurd e hne
   | cons x l=>simp[cis,pre,ci]
theorem Qv5 (m:Nat) (l:List Nat):Zr (m:Int) (ci l)=cis (Vbfaal.splitBy m l):=by
 unfold Zr;rw[Qk4];cases e:Vbfaal.splitBy m l with
 | nil=>exact absurd e (Qq8 m l)
 | cons x r=>simp[cis,pre]
theorem Zid (l:List Nat):Qcj (ci l)=cis (Vbfaal.wordsOf l):=by
 unfold Qcj Vbfaal.wordsOf;rw[show (32:Int)=((32:Nat):Int) from rfl,Qv5];unfold cis;rw[List.filter_map]
 congr 1
 apply List.filter_congr;intro w _;show decide (0 < (ci w).length) = !w.isEmpty;cases w <;> simp[ci]
theorem Zdl {l:List Nat}:∀ w ∈ Vbfaal.wordsOf l,w ≠ []:=by
 intro w hw;unfold Vbfaal.wordsOf at hw
 have:=(List.mem_filter.mp hw).2
 intro z;rw[z]at this;cases this
theorem Zbw:∀ (w:List Nat) (n:Nat),Qsq (ci w) (n:Int)=if w.all Vbfaal.isDigit=true then ((w.foldl (fun n c=>10*n+(c - 48)) n:Nat):Int) else -1
 | [],n=>by simp[ci,Qsq]
 | c::r,n=>by
  show Qsq ((c:Int)::ci r) (n:Int)=_;rw[Qsq];by_cases h:48<=c/\c<=57
  .rw[if_neg (by omega)];have e:(n:Int)*10+(c:Int) - 48=((10*n+(c - 48):Nat):Int):=by omega
   rw[e,Zbw r];have hd:Vbfaal.isDigit c=true:=by unfold Vbfaal.isDigit;simp;omega
   simp[hd]
  .rw[if_pos (by omega)];have hd:Vbfaal.isDigit c=false:=by unfold Vbfaal.isDigit;simp;omega
   simp[hd]
theorem Qgx (w:List Nat) (hw:w ≠ []):Qxt (ci w)=match Vbfaal.numberOf w with | some n=>(n:Int) | none=>-1:=by
 have hl:(ci w).length=w.length:=by simp[ci]
 have h1:1<=w.length:=by
  cases w with
  | nil=>exact absurd rfl hw
  | cons a r=>simp
 unfold Qxt Vbfaal.numberOf;rw[hl];by_cases h4:4 < w.length
 .rw[if_pos h4,if_neg (by simp;omega)]
 .rw[if_neg h4];have hh:((ci w).head? = some 48) ↔ w.headD 48=48:=by
   cases w with
   | nil=>exact absurd rfl hw
   | cons a r =>show some (a:Int)=some 48 ↔ a=48;simp;omega
  by_cases h0:1 < w.length/\(ci w).head? = some 48
  .rw[if_pos h0,if_neg];intro z;simp only[Bool.and_eq_true,Bool.or_eq_true,bne_iff_ne,beq_iff_eq]at z;rcases z.2.2.2 with y | y
   .exact y (hh.mp h0.2)
   .omega
  .rw[if_neg h0];have e:=Zbw w 0;rw[show ((0:Nat):Int)=0 from rfl]at e;rw[e];have hor:(w.headD 48 != 48||w.length == 1)=true:=by
    by_cases y:1 < w.length
    .have:¬ w.headD 48=48:=fun q=>h0 ⟨y,hh.mpr q⟩
     rw[Bool.or_eq_true];exact .inl (bne_iff_ne.mpr this)
    .have:w.length=1:=by omega
     simp[this]
   by_cases hd:w.all Vbfaal.isDigit=true
   .have hc:(decide (1<=w.length)&&(decide (w.length<=4)&&(w.all Vbfaal.isDigit&&(w.headD 48 != 48||w.length == 1))))=true:=by rw[hd,hor,decide_eq_true h1,decide_eq_true (by omega)];rfl
    rw[if_pos hd,if_pos hc]
   .have hc:¬ (decide (1<=w.length)&&(decide (w.length<=4)&&(w.all Vbfaal.isDigit&&(w.headD 48 != 48||w.length == 1))))=true:=fun z=>by
     simp only[Bool.and_eq_true]at z;exact hd z.2.2.1
    rw[if_neg hd,if_neg hc]
def val (w:List Nat):Int:=match Vbfaal.numberOf w with | some n=>(n:Int) | none=>-1
theorem Zpv (w:List Nat) (hw:w ≠ []):Qjs (ci w) "N" = (Vbfaal.numberOf w).isSome:=by
 unfold Qjs;rw[if_pos rfl,Qgx w hw];cases Vbfaal.numberOf w with
 | none=>simp
 | some n=>simp
theorem Zr3 {a b:List Nat} (h:ci a=ci b):a=b:=by unfold ci at h;exact (List.map_inj_right (fun x y z=>by omega)).mp h
theorem Znb (w:List Nat) (p:PySem.Str) (t:List Nat) (hp:¬ p = "N") (ht:Zv p=ci t):Qjs (ci w) p=decide (w=t):=by
 unfold Qjs;rw[if_neg hp,ht];by_cases h:w=t
 .simp[h]
 .have:¬ ci w=ci t:=fun z=>h (Zr3 z)
  simp[h,this]
theorem Zpw:Zv "up" = ci (Vbfaal.text "up"):=by decide +kernel
theorem Qzz:Zv "strike" = ci (Vbfaal.text "strike"):=by decide +kernel
theorem Zie:Zv "down" = ci (Vbfaal.text "down"):=by decide +kernel
theorem Qz0:Zv "leader" = ci (Vbfaal.text "leader"):=by decide +kernel
theorem Qv6:Zv "reel" = ci (Vbfaal.text "reel"):=by decide +kernel
theorem Qob:Zv "frames" = ci (Vbfaal.text "frames"):=by decide +kernel
theorem Zdm:Zv "motor" = ci (Vbfaal.text "motor"):=by decide +kernel
theorem Qz1:Zv "change" = ci (Vbfaal.text "change"):=by decide +kernel
theorem Zlu:Zv "end" = ci (Vbfaal.text "end"):=by decide +kernel
theorem Ym {ws:List (List Nat)} {f:List PySem.Str} (h:¬ ws.length=f.length):Qf3 (cis ws) f=false:=by
 unfold Qf3
 have:¬ (cis ws).length=f.length:=by simpa [cis] using h
 simp[this]
theorem nN:¬ (("up" : PySem.Str) = "N")/\¬ (("strike" : PySem.Str) = "N")/\¬ (("down" : PySem.Str) = "N")/\¬ (("leader" : PySem.Str) = "N")/\¬ (("reel" : PySem.Str) = "N")/\¬ (("frames" : PySem.Str) = "N")/\¬ (("motor" : PySem.Str) = "N")/\¬ (("change" : PySem.Str) = "N")/\¬ (("end" : PySem.Str) = "N"):=by decide +kernel
theorem Zlv (k a:List Nat) (ha:a ≠ []) (p:PySem.Str) (t:List Nat) (hp:¬ p = "N") (ht:Zv p=ci t):Qf3 (cis [k,a]) [p,"N"]=(decide (k=t)&&(Vbfaal.numberOf a).isSome):=by unfold Qf3;show (decide (2=2)&&(Qjs (ci k) p&&(Qjs (ci a) "N" && true)))=_;rw[Znb k p t hp ht,Zpv a ha];simp
theorem Zt6 (k a:List Nat) (ha:a ≠ []):Zj (cis [k,a])=match Vbfaal.settingOf k,Vbfaal.numberOf a with | some i,some _=>(i:Int) | _,_=>-1:=by
 obtain ⟨n1,n2,n3,n4,_⟩:=nN;have l8:Qf3 (cis [k,a]) ["reel","N","frames","N","motor","N","change","N"]=false:=Ym (by simp);have l5:Qf3 (cis [k,a]) ["reel","N","frames","N","end"]=false:=Ym (by simp);unfold Zj Ye;simp only[Qfw,Zlv k a ha _ _ n1 Zpw,Zlv k a ha _ _ n2 Qzz,Zlv k a ha _ _ n3 Zie,Zlv k a ha _ _ n4 Qz0,l8,l5];unfold Vbfaal.settingOf;cases Vbfaal.numberOf a with
 | none=>simp
 | some n =>
  by_cases h1:k=Vbfaal.text "up"
  .subst h1;simp[List.findIdx?_cons]
  .by_cases h2:k=Vbfaal.text "strike"
   .subst h2;simp[List.findIdx?_cons,h1,Ne.symm h1]
   .by_cases h3:k=Vbfaal.text "down"
    .subst h3;simp[List.findIdx?_cons,h1,h2,Ne.symm h1,Ne.symm h2]
    .by_cases h4:k=Vbfaal.text "leader"
     .subst h4;simp[List.findIdx?_cons,h1,h2,h3,Ne.symm h1,Ne.symm h2,Ne.symm h3]
     .simp[List.findIdx?_cons,h1,h2,h3,h4,Ne.symm h1,Ne.symm h2,Ne.symm h3,Ne.symm h4]
theorem Zt7 (r a f b e:List Nat) (ha:a ≠ []) (hb:b ≠ []):Qf3 (cis [r,a,f,b,e]) ["reel","N","frames","N","end"] =
  (decide (r=Vbfaal.text "reel")&&((Vbfaal.numberOf a).isSome&&(decide (f=Vbfaal.text "frames")&&((Vbfaal.numberOf b).isSome&&decide (e=Vbfaal.text "end"))))):=by
 obtain ⟨_,_,_,_,n5,n6,n7,n8,n9⟩:=nN;unfold Qf3;show (decide (5=5)&&(Qjs (ci r) "reel" && (Qjs (ci a) "N" && (Qjs (ci f) "frames" && (Qjs (ci b) "N" && (Qjs (ci e) "end" && true))))))=_;rw[Znb r _ _ n5 Qv6,Znb f _ _ n6 Qob,Znb e _ _ n9 Zlu,Zpv a ha,Zpv b hb];simp
theorem Zt8 (r a f b m c h d:List Nat) (ha:a ≠ []) (hb:b ≠ []) (hc:c ≠ []) (hd:d ≠ []):Qf3 (cis [r,a,f,b,m,c,h,d]) ["reel","N","frames","N","motor","N","change","N"] =
  (decide (r=Vbfaal.text "reel")&&((Vbfaal.numberOf a).isSome&&(decide (f=Vbfaal.text "frames")&&((Vbfaal.numberOf b).isSome&&(decide (m=Vbfaal.text "motor")&&((Vbfaal.numberOf c).isSome&&(decide (h=Vbfaal.text "change")&&(Vbfaal.numberOf d).isSome))))))):=by
 obtain ⟨_,_,_,_,n5,n6,n7,n8,n9⟩:=nN;unfold Qf3;show (decide (8=8)&&(Qjs (ci r) "reel" && (Qjs (ci a) "N" && (Qjs (ci f) "frames" && (Qjs (ci b) "N" && (Qjs (ci m) "motor" && (Qjs (ci c) "N" && (Qjs (ci h) "change" && (Qjs (ci d) "N" && true)))))))))=_;rw[Znb r _ _ n5 Qv6,Znb f _ _ n6 Qob,Znb m _ _ n7 Zdm,Znb h _ _ n8 Qz1,Zpv a ha,Zpv b hb,Zpv c hc,Zpv d hd];simp
theorem Zt9 (r a f b e:List Nat) (ha:a ≠ []) (hb:b ≠ []):Zj (cis [r,a,f,b,e])=if (decide (r=Vbfaal.text "reel")&&((Vbfaal.numberOf a).isSome&&(decide (f=Vbfaal.text "frames")&&((Vbfaal.numberOf b).isSome&&decide (e=Vbfaal.text "end")))))=true then 5 else -1:=by
 unfold Zj Ye
 simp only[Qfw,Ym (ws:=[r,a,f,b,e]) (f:=["up","N"]) (by simp),Ym (ws:=[r,a,f,b,e]) (f:=["strike","N"]) (by simp),Ym (ws:=[r,a,f,b,e]) (f:=["down","N"]) (by simp),Ym (ws:=[r,a,f,b,e]) (f:=["leader","N"]) (by simp),
  Ym (ws:=[r,a,f,b,e]) (f:=["reel","N","frames","N","motor","N","change","N"]) (by simp),Zt7 r a f b e ha hb]
 simp
theorem Zua (r a f b m c h d:List Nat) (ha:a ≠ []) (hb:b ≠ []) (hc:c ≠ []) (hd:d ≠ []):Zj (cis [r,a,f,b,m,c,h,d])=if (decide (r=Vbfaal.text "reel")&&((Vbfaal.numberOf a).isSome&&(decide (f=Vbfaal.text "frames")&&((Vbfaal.numberOf b).isSome&&(decide (m=Vbfaal.text "motor")&&((Vbfaal.numberOf c).isSome&&(decide (h=Vbfaal.text "change")&&(Vbfaal.numberOf d).isSome)))))))=true then 4 else -1:=by
 unfold Zj Ye
 simp only[Qfw,Ym (ws:=[r,a,f,b,m,c,h,d]) (f:=["up","N"]) (by simp),Ym (ws:=[r,a,f,b,m,c,h,d]) (f:=["strike","N"]) (by simp),Ym (ws:=[r,a,f,b,m,c,h,d]) (f:=["down","N"]) (by simp),Ym (ws:=[r,a,f,b,m,c,h,d]) (f:=["leader","N"]) (by simp),
  Ym (ws:=[r,a,f,b,m,c,h,d]) (f:=["reel","N","frames","N","end"]) (by simp),Zt8 r a f b m c h d ha hb hc hd]
 simp
theorem Qbt (ws:List (List Nat)) (h2:¬ ws.length=2) (h5:¬ ws.length=5) (h8:¬ ws.length=8):Zj (cis ws) = -1:=by
 unfold Zj Ye
 simp only[Qfw,Ym (ws:=ws) (f:=["up","N"]) (by simpa using h2),Ym (ws:=ws) (f:=["strike","N"]) (by simpa using h2),Ym (ws:=ws) (f:=["down","N"]) (by simpa using h2),Ym (ws:=ws) (f:=["leader","N"]) (by simpa using h2),
  Ym (ws:=ws) (f:=["reel","N","frames","N","motor","N","change","N"]) (by simpa using h8),Ym (ws:=ws) (f:=["reel","N","frames","N","end"]) (by simpa using h5)]
 simp
section
open Vbfaal (Sheet Reel)
structure Qmq (sh:Sh) (s:Sheet) (n:Nat):Prop where
 set:sh.Qar=n
 n4:n<=4
 up:1<=n->sh.up=s.up
 st:2<=n->sh.strike=s.strike
 dn:3<=n->sh.down=s.down
 ld:4<=n->sh.leader=s.leader
 rl:sh.reels=s.reels.map rlO
 en:sh.ended=s.reels.any fun x=>x.last
 six:s.reels.length<=6
 fr:∀ r ∈ s.reels,1<=r.frames
 r4:s.reels=[]\/n=4
theorem Qhk {W:List (List Int)} {j:Nat} {f:List PySem.Str} (h:Zj W=j) (hf:Ye[j]? = some f):Jo W=Qjt W f:=by unfold Jo;rw[h,Int.toNat_natCast,List.getD_eq_getElem?_getD,hf];rfl
theorem Zlw (k a:List Nat) (p:PySem.Str) (hp:¬ p = "N") (ha:a ≠ []) {n:Nat} (hn:Vbfaal.numberOf a=some n):Qjt (cis [k,a]) [p,"N"]=[(n:Int)]:=by show Qjt [ci k,ci a] [p,"N"]=_;rw[Zs,if_neg hp,Zs,if_pos rfl,Qgx a ha,hn];rfl
theorem Zdn {k:List Nat} {i:Nat} (h:Vbfaal.settingOf k=some i):i < 4:=by
 unfold Vbfaal.settingOf at h
 have:=List.findIdx?_eq_some_iff_getElem.mp h
 obtain ⟨h1,_⟩:=this;simpa using h1
theorem Qoc {W:List (List Int)} {j:Nat} (h:Zj W=j):Yr.getD (Zj W).toNat []=Yr.getD j []:=by rw[h,Int.toNat_natCast]
theorem Zlx {sh:Sh} {s:Sheet} {n:Nat} (R:Qmq sh s n) (k a:List Nat) (ha:a ≠ []) :
  match Vbfaal.lineOf [k,a] with
  | .error e=>Yx sh (cis [k,a])=(e:Int)
  | .ok x=>match Vbfaal.takeLine s n x with
   | .error e=>Yx sh (cis [k,a])=(e:Int)
   | .ok y=>Yx sh (cis [k,a])=0/\Qmq (Qdq sh (cis [k,a])) y.1 y.2:=by
 have hf:=Zt6 k a ha;cases hs:Vbfaal.settingOf k with
 | none =>
  have hl:Vbfaal.lineOf [k,a] = .error 1:=by unfold Vbfaal.lineOf;simp only[hs]
  have hf:Zj (cis [k,a]) = -1:=by rw[hf,hs]
  rw[hl];show Yx sh (cis [k,a])=((1:Nat):Int)
  unfold Yx;rw[if_pos (by rw[hf];decide)];rfl
 | some i =>
  cases hn:Vbfaal.numberOf a with
  | none =>
   have hl:Vbfaal.lineOf [k,a] = .error 1:=by unfold Vbfaal.lineOf;simp only[hs,hn]
   have hf:Zj (cis [k,a]) = -1:=by rw[hf,hs,hn]
   rw[hl];show Yx sh (cis [k,a])=((1:Nat):Int)
   unfold Yx;rw[if_pos (by rw[hf];decide)];rfl
  | some v =>
   have hl:Vbfaal.lineOf [k,a]=if Vbfaal.inside ([2,0,0,1].getD i 0) ([48,48,48,96].getD i 0) v=true then .ok (.setting i v) else .error 2:=by unfold Vbfaal.lineOf;simp only[hs,hn]
   rw[hl];rw[hs,hn]at hf;have hf:Zj (cis [k,a])=(i:Int):=hf;have hi:=Zdn hs;have n0:¬ Zj (cis [k,a]) < 0:=by rw[hf];omega
   have h4:Zj (cis [k,a]) < 4:=by rw[hf];omega
   have hN:Jo (cis [k,a])=[(v:Int)]:=by
    obtain ⟨q1,q2,q3,q4,_⟩:=nN
    match i,hi with
    | 0,_=>rw[Qhk (j:=0) (f:=["up","N"]) hf rfl];exact Zlw k a _ q1 ha hn
    | 1,_=>rw[Qhk (j:=1) (f:=["strike","N"]) hf rfl];exact Zlw k a _ q2 ha hn
    | 2,_=>rw[Qhk (j:=2) (f:=["down","N"]) hf rfl];exact Zlw k a _ q3 ha hn
    | 3,_=>rw[Qhk (j:=3) (f:=["leader","N"]) hf rfl];exact Zlw k a _ q4 ha hn
   have hR:Qa7 (Jo (cis [k,a])) (Yr.getD (Zj (cis [k,a])).toNat [])=Vbfaal.inside ([2,0,0,1].getD i 0) ([48,48,48,96].getD i 0) v:=by
    rw[Qoc hf,hN]
    match i,hi with
    | 0,_ =>
     show (decide ((2:Int)<=(v:Int))&&decide ((v:Int)<=48)&&true)=(decide (2<=v)&&decide (v<=48))
     rw[show decide ((2:Int)<=(v:Int))=decide (2<=v) from decide_eq_decide.mpr (by omega),show decide ((v:Int)<=48)=decide (v<=48) from decide_eq_decide.mpr (by omega),Bool.and_true]
    | 1,_ =>
     show (decide ((0:Int)<=(v:Int))&&decide ((v:Int)<=48)&&true)=(decide (0<=v)&&decide (v<=48))
     rw[show decide ((0:Int)<=(v:Int))=decide (0<=v) from decide_eq_decide.mpr (by omega),show decide ((v:Int)<=48)=decide (v<=48) from decide_eq_decide.mpr (by omega),Bool.and_true]
    | 2,_ =>
     show (decide ((0:Int)<=(v:Int))&&decide ((v:Int)<=48)&&true)=(decide (0<=v)&&decide (v<=48))
     rw[show decide ((0:Int)<=(v:Int))=decide (0<=v) from decide_eq_decide.mpr (by omega),show decide ((v:Int)<=48)=decide (v<=48) from decide_eq_decide.mpr (by omega),Bool.and_true]
    | 3,_ =>
     show (decide ((1:Int)<=(v:Int))&&decide ((v:Int)<=96)&&true)=(decide (1<=v)&&decide (v<=96))
     rw[show decide ((1:Int)<=(v:Int))=decide (1<=v) from decide_eq_decide.mpr (by omega),show decide ((v:Int)<=96)=decide (v<=96) from decide_eq_decide.mpr (by omega),Bool.and_true]
   by_cases hin:Vbfaal.inside ([2,0,0,1].getD i 0) ([48,48,48,96].getD i 0) v=true
   .rw[if_pos hin];rw[hin]at hR;have hR':¬ Qa7 (Jo (cis [k,a])) (Yr.getD (Zj (cis [k,a])).toNat [])=false:=by rw[hR];decide
    have hm:sh.may (Zj (cis [k,a]))=decide (n=i):=by unfold Sh.may;rw[if_pos h4,R.set,hf];exact decide_eq_decide.mpr (by omega)
    simp only[Vbfaal.takeLine];by_cases hk:i ≠ n
    .rw[if_pos hk];simp only;unfold Yx;rw[if_neg n0,if_neg hR',hm,if_pos (decide_eq_false (fun z=>hk z.symm))];rfl
    .have hk':i=n:=by omega
     rw[if_neg hk];have hm':¬ sh.may (Zj (cis [k,a]))=false:=by rw[hm,decide_eq_true hk'.symm];decide
     have hC:Yx sh (cis [k,a])=0:=by unfold Yx;rw[if_neg n0,if_neg hR',if_neg hm',if_pos h4]
     have hS:Qdq sh (cis [k,a])=sh.setting (i:Int) (v:Int):=by unfold Qdq;rw[if_neg n0,if_neg hR',if_neg hm',if_pos h4,hN,hf];rfl
     refine ⟨hC,?_⟩;rw[hS];have hu:=R.up;have hst:=R.st;have hdn:=R.dn;have hld:=R.ld;have hrl:=R.rl;have hen:=R.en;have h6:=R.six;have hfr:=R.fr;have h0:s.reels=[]:=R.r4.elim id (fun z=>by omega)
     match i,hi,hk' with
     | 0,_,e =>refine ⟨by show (0:Int)+1=_;omega,by omega,fun _=>rfl,fun z=>?_,fun z=>?_,fun z=>?_,hrl,hen,h6,hfr,.inl h0⟩ <;> omega
     | 1,_,e =>refine ⟨by show (1:Int)+1=_;omega,by omega,fun _=>hu (by omega),fun _=>rfl,fun z=>?_,fun z=>?_,hrl,hen,h6,hfr,.inl h0⟩ <;> omega
     | 2,_,e =>refine ⟨by show (2:Int)+1=_;omega,by omega,fun _=>hu (by omega),fun _=>hst (by omega),fun _=>rfl,fun z=>?_,hrl,hen,h6,hfr,.inl h0⟩;omega
     | 3,_,e =>exact ⟨by show (3:Int)+1=_;omega,by omega,fun _=>hu (by omega),fun _=>hst (by omega),fun _=>hdn (by omega),fun _=>rfl,hrl,hen,h6,hfr,.inl h0⟩
   .rw[if_neg hin];have hin:Vbfaal.inside ([2,0,0,1].getD i 0) ([48,48,48,96].getD i 0) v=false:=by simpa using hin
    rw[hin]at hR;simp only;unfold Yx;rw[if_neg n0,if_pos hR];rfl
end
section
open Vbfaal (Sheet Reel)
theorem Zly {sh:Sh} {s:Sheet} {n:Nat} (R:Qmq sh s n) {j:Int} (hj:¬ j < 4):sh.may j=false ↔ (n < 4\/(s.reels.any fun x=>x.last)=true):=by
 unfold Sh.may;rw[if_neg hj,R.set,R.en];have h4:=R.n4;cases h:(s.reels.any fun x=>x.last) with
 | true=>simp
 | false =>simp;omega
theorem named_eq {sh:Sh} {s:Sheet} {n:Nat} (R:Qmq sh s n) (r:Reel):sh.named (rlO r).name=s.reels.any fun x=>x.name == r.name:=by
 unfold Sh.named;rw[R.rl,List.any_map]
 congr 1
 funext x;show decide ((x.name:Int)=(r.name:Int))=(x.name == r.name)
 by_cases h:x.name=r.name
 .simp[h]
 .have:¬ (x.name:Int)=(r.name:Int):=by omega
  simp[h,this]
theorem Zpx {sh:Sh} {s:Sheet} (R:Qmq sh s 4) (r:Reel):(Vbfaal.cuesFit s r=false) ↔ ((rlO r).ends=false/\sh.bad (rlO r)=true):=by
 have hu:=R.up (by omega);have hst:=R.st (by omega);have hl:=R.ld (by omega);unfold Vbfaal.cuesFit Sh.bad Sh.Qy8 Vbfaal.leadOf Vbfaal.moves;rw[hu,hst,hl];show _ ↔ r.last=false/\((decide ((r.change:Int)<=(r.motor:Int))||decide ((r.frames:Int)<=(r.change:Int)))||(decide ((r.change:Int) - (r.motor:Int) < (if (s.strike:Int) > (s.up:Int) then (s.strike:Int) else (s.up:Int)))||decide ((s.leader:Int) < 1+(s.up:Int) / 2+((r.change:Int) - (r.motor:Int) - (s.up:Int)))))=true;cases hlast:r.last with
 | true=>simp
 | false =>
  simp only[Bool.false_or,Bool.and_eq_false_iff,decide_eq_false_iff_not,Bool.or_eq_true,decide_eq_true_eq,true_and];by_cases hc:(s.strike:Int) > (s.up:Int)
  .rw[if_pos hc];omega
  .rw[if_neg hc];omega
theorem Zpy {sh:Sh} {s:Sheet} (R:Qmq sh s 4):(sh.leader < sh.Qjr) ↔ s.leader < Vbfaal.leadFirst s:=by
 have hu:=R.up (by omega);have hst:=R.st (by omega);have hl:=R.ld (by omega);unfold Sh.Qjr Vbfaal.leadFirst Vbfaal.moves;rw[hu,hst,hl];by_cases hc:(s.strike:Int) - (s.up:Int) > 0
 .rw[if_pos hc];omega
 .rw[if_neg hc];omega
theorem Zpz {sh:Sh} {s:Sheet} (R:Qmq sh s 4) (r:Reel) (hf:1<=r.frames) (hno:(s.reels.any fun x=>x.last)=false) :
  match Vbfaal.takeLine s 4 (.reel r) with
  | .error e=>sh.Qf2 (rlO r)=(e:Int)/\¬ e=0
  | .ok y=>sh.Qf2 (rlO r)=0/\Qmq (sh.Qpy (rlO r)) y.1 y.2:=by
 have hlen:sh.reels.length=s.reels.length:=by rw[R.rl,List.length_map]
 have hn:=named_eq R r;have hc:=Zpx R r;have hl:=Zpy R;have h6:=R.six;simp only[Vbfaal.takeLine];rw[if_neg (by rw[hno];simp)];unfold Sh.Qf2;by_cases h1:(s.reels.any fun x=>x.name == r.name)=true\/Vbfaal.REELS<=s.reels.length
 .rw[if_pos h1,if_pos]
  .exact ⟨rfl,by decide⟩
  .rcases h1 with z | z
   .exact .inl (by rw[hn];exact z)
   .exact .inr (by rw[hlen];have z:6<=s.reels.length:=z;omega)
 .have h1':¬ (sh.named (rlO r).name=true\/sh.reels.length=6):=fun z=>h1 (z.elim (fun y=>.inl (by rw[<-hn];exact y)) (fun y=>.inr (by rw[hlen]at y;show 6<=_;omega)));rw[if_neg h1,if_neg h1'];by_cases h2:Vbfaal.cuesFit s r=false
  .rw[if_pos (.inl h2),if_pos (hc.mp h2)];exact ⟨rfl,by decide⟩
  .rw[if_neg (fun z=>h2 (hc.mpr z))];by_cases h3:s.reels.isEmpty=true/\s.leader < Vbfaal.leadFirst s
   .have h3':sh.reels.length=0/\sh.leader < sh.Qjr:=⟨by rw[hlen];simpa using h3.1,hl.mpr h3.2⟩
    rw[if_pos (.inr h3),if_pos h3'];exact ⟨rfl,by decide⟩
   .have h3':¬ (sh.reels.length=0/\sh.leader < sh.Qjr):=fun z=>h3 ⟨by have:=z.1;rw[hlen]at this;simpa using this,hl.mp z.2⟩;rw[if_neg (fun z=>z.elim h2 h3),if_neg h3'];refine ⟨rfl,?_⟩;have hcode:sh.Qf2 (rlO r)=0:=by unfold Sh.Qf2;rw[if_neg h1',if_neg (fun z=>h2 (hc.mpr z)),if_neg h3']
    have hlt:s.reels.length < 6:=by
     have:¬ 6<=s.reels.length:=fun z=>h1 (.inr z)
     omega
    unfold Sh.Qpy;rw[if_pos hcode];refine ⟨R.set,R.n4,R.up,R.st,R.dn,R.ld,?_,?_,?_,?_,.inr rfl⟩
    .show sh.reels++[rlO r]=(s.reels++[r]).map rlO;rw[R.rl,List.map_append];rfl
    .show Sh.ended { sh with reels:=sh.reels++[rlO r] }=(s.reels++[r]).any fun x=>x.last;unfold Sh.ended;show (match (sh.reels++[rlO r]).getLast? with | some r=>r.ends | none=>false)=_
     rw[List.getLast?_append];simp[hno,rlO]
    .show (s.reels++[r]).length<=6;rw[List.length_append];simp;omega
    .intro q hq;have hq:q ∈ s.reels++[r]:=hq;rcases List.mem_append.mp hq with z | z
     .exact R.fr q z
     .rw[List.mem_singleton.mp z];exact hf
theorem Zif {sh:Sh} {s:Sheet} {n:Nat} (R:Qmq sh s n) (W:List (List Int)) (r:Reel) (hf:1<=r.frames) (j:Nat) (hj:Zj W=j) (hj4:4<=j) (hR:Qa7 (Jo W) (Yr.getD (Zj W).toNat [])=true) (hr:Zj1 (Zj W) (Jo W)=rlO r) :
  match Vbfaal.takeLine s n (.reel r) with
  | .error e=>Yx sh W=(e:Int)/\¬ e=0
  | .ok y=>Yx sh W=0/\Qmq (Qdq sh W) y.1 y.2:=by
 have n0:¬ Zj W < 0:=by rw[hj];omega
 have n4:¬ Zj W < 4:=by rw[hj];omega
 have hR':¬ Qa7 (Jo W) (Yr.getD (Zj W).toNat [])=false:=by rw[hR];decide
 have hm:=Zly R n4;by_cases h1:n < 4\/(s.reels.any fun x=>x.last)=true
 .have ht:Vbfaal.takeLine s n (.reel r) = .error 3:=by simp only[Vbfaal.takeLine];rw[if_pos h1]
  rw[ht];refine ⟨?_,by decide⟩;unfold Yx;rw[if_neg n0,if_neg hR',if_pos (hm.mpr h1)];rfl
 .have hn:n=4:=by have:=R.n4;omega
  subst hn;have hm':¬ sh.may (Zj W)=false:=fun z=>h1 (hm.mp z);have hno:(s.reels.any fun x=>x.last)=false:=by
   cases e:(s.reels.any fun x=>x.last) with
   | false=>rfl
   | true=>exact absurd (.inr e) h1
  have q:=Zpz R r hf hno;have eC:Yx sh W=sh.Qf2 (rlO r):=by unfold Yx;rw[if_neg n0,if_neg hR',if_neg hm',if_neg n4,hr]
  have eS:Qdq sh W=sh.Qpy (rlO r):=by unfold Qdq;rw[if_neg n0,if_neg hR',if_neg hm',if_neg n4,hr]
  rw[eC,eS];exact q
end
section
open Vbfaal (Sheet Reel)
def Good (sh:Sh) (s:Sheet) (n:Nat) (ws:List (List Nat)):Prop:=
 match Vbfaal.lineOf ws with
 | .error e=>Yx sh (cis ws)=(e:Int)/\¬ e=0
 | .ok x=>match Vbfaal.takeLine s n x with
  | .error e=>Yx sh (cis ws)=(e:Int)/\¬ e=0
  | .ok y=>Yx sh (cis ws)=0/\Qmq (Qdq sh (cis ws)) y.1 y.2
theorem Qau {sh:Sh} {s:Sheet} {n:Nat} {ws:List (List Nat)} (hl:Vbfaal.lineOf ws = .error 1) (hf:Zj (cis ws) = -1):Good sh s n ws:=by unfold Good;rw[hl];refine ⟨?_,by decide⟩;unfold Yx;rw[if_pos (by rw[hf];decide)];rfl
theorem Qq9 {sh:Sh} {s:Sheet} {n:Nat} {ws:List (List Nat)} {j:Nat} (hl:Vbfaal.lineOf ws = .error 2) (hf:Zj (cis ws)=j) (hR:Qa7 (Jo (cis ws)) (Yr.getD (Zj (cis ws)).toNat [])=false):Good sh s n ws:=by unfold Good;rw[hl];refine ⟨?_,by decide⟩;unfold Yx;rw[if_neg (by rw[hf];omega),if_pos hR];rfl
theorem Qv7 {sh:Sh} {s:Sheet} {n:Nat} {ws:List (List Nat)} {r:Reel} (R:Qmq sh s n) (hl:Vbfaal.lineOf ws = .ok (.reel r)) (hfr:1<=r.frames) (j:Nat) (hf:Zj (cis ws)=j) (hj4:4<=j) (hR:Qa7 (Jo (cis ws)) (Yr.getD (Zj (cis ws)).toNat [])=true)
  (hr:Zj1 (Zj (cis ws)) (Jo (cis ws))=rlO r):Good sh s n ws:=by
 unfold Good;rw[hl];exact Zif R (cis ws) r hfr j hf hj4 hR hr
theorem Zdo (lo hi v:Nat):(decide ((lo:Int)<=(v:Int))&&decide ((v:Int)<=(hi:Int)))=Vbfaal.inside lo hi v:=by unfold Vbfaal.inside;rw[show decide ((lo:Int)<=(v:Int))=decide (lo<=v) from decide_eq_decide.mpr (by omega),show decide ((v:Int)<=(hi:Int))=decide (v<=hi) from decide_eq_decide.mpr (by omega)]
theorem Zub {sh:Sh} {s:Sheet} {n:Nat} (R:Qmq sh s n) (r a f b e:List Nat) (ha:a ≠ []) (hb:b ≠ []):Good sh s n [r,a,f,b,e]:=by
 have hf:=Zt9 r a f b e ha hb;cases hx:Vbfaal.numberOf a with
 | none =>
  refine Qau ?_ ?_
  .unfold Vbfaal.lineOf;simp only[hx]
  .rw[hf,hx];simp
 | some x =>
  cases hy:Vbfaal.numberOf b with
  | none =>
   refine Qau ?_ ?_
   .unfold Vbfaal.lineOf;simp only[hx,hy]
   .rw[hf,hy];simp
  | some y =>
   by_cases hw:r=Vbfaal.text "reel" /\ f=Vbfaal.text "frames" /\ e=Vbfaal.text "end"
   .obtain ⟨h1,h2,h3⟩:=hw;have hf5:Zj (cis [r,a,f,b,e])=((5:Nat):Int):=by rw[hf,hx,hy,if_pos (by simp[h1,h2,h3])];rfl
    have hN:Jo (cis [r,a,f,b,e])=[(x:Int),(y:Int)]:=by obtain ⟨_,_,_,_,n5,n6,n7,n8,n9⟩:=nN;rw[Qhk (j:=5) (f:=["reel","N","frames","N","end"]) hf5 rfl];show Qjt [ci r,ci a,ci f,ci b,ci e] _=_;rw[Zs,if_neg n5,Zs,if_pos rfl,Zs,if_neg n6,Zs,if_pos rfl,Zs,if_neg n9,Qgx a ha,Qgx b hb,hx,hy];rfl
    have hR:Qa7 (Jo (cis [r,a,f,b,e])) (Yr.getD (Zj (cis [r,a,f,b,e])).toNat [])=(Vbfaal.inside 1 99 x&&Vbfaal.inside 1 Vbfaal.FRAMES y):=by rw[Qoc hf5,hN,<-Zdo,<-Zdo];show ((decide ((1:Int)<=(x:Int))&&decide ((x:Int)<=99))&&((decide ((1:Int)<=(y:Int))&&decide ((y:Int)<=2000))&&true))=_;rw[Bool.and_true];rfl
    by_cases hin:(Vbfaal.inside 1 99 x&&Vbfaal.inside 1 Vbfaal.FRAMES y)=true
    .refine Qv7 R (r:=⟨x,y,0,0,true⟩) ?_ ?_ 5 hf5 (by omega) (by rw[hR];exact hin) ?_
     .unfold Vbfaal.lineOf;simp only[hx,hy];rw[if_pos ⟨h1,h2,h3⟩,if_pos hin]
     .rw[Bool.and_eq_true]at hin
      have:=hin.2
      unfold Vbfaal.inside at this;simp only[Bool.and_eq_true,decide_eq_true_eq]at this;exact this.1
     .rw[hf5,hN];rfl
    .have hin:(Vbfaal.inside 1 99 x&&Vbfaal.inside 1 Vbfaal.FRAMES y)=false:=by simpa using hin
     refine Qq9 ?_ hf5 (by rw[hR];exact hin);unfold Vbfaal.lineOf;simp only[hx,hy];rw[if_pos ⟨h1,h2,h3⟩,if_neg (by rw[hin];decide)]
   .refine Qau ?_ ?_
    .unfold Vbfaal.lineOf;simp only[hx,hy];rw[if_neg hw]
    .rw[hf,if_neg];intro z;simp only[Bool.and_eq_true,decide_eq_true_eq]at z;exact hw ⟨z.1,z.2.2.1,z.2.2.2.2⟩
theorem Zuc {sh:Sh} {s:Sheet} {n:Nat} (R:Qmq sh s n) (r a f b m c h d:List Nat) (ha:a ≠ []) (hb:b ≠ []) (hc:c ≠ []) (hd:d ≠ []):Good sh s n [r,a,f,b,m,c,h,d]:=by
 have hf:=Zua r a f b m c h d ha hb hc hd;cases hx:Vbfaal.numberOf a with
 | none =>
  refine Qau ?_ ?_
  .unfold Vbfaal.lineOf;simp only[hx]
  .rw[hf,hx];simp
 | some x =>
  cases hy:Vbfaal.numberOf b with
  | none =>
   refine Qau ?_ ?_
   .unfold Vbfaal.lineOf;simp only[hx,hy]
   .rw[hf,hy];simp
  | some y =>
   cases hz:Vbfaal.numberOf c with
   | none =>
    refine Qau ?_ ?_
    .unfold Vbfaal.lineOf;simp only[hx,hy,hz]
    .rw[hf,hz];simp
   | some z =>
    cases hv:Vbfaal.numberOf d with
    | none =>
     refine Qau ?_ ?_
     .unfold Vbfaal.lineOf;simp only[hx,hy,hz,hv]
     .rw[hf,hv];simp
    | some v =>
     by_cases hw:r=Vbfaal.text "reel" /\ f=Vbfaal.text "frames" /\ m=Vbfaal.text "motor" /\ h=Vbfaal.text "change"
     .obtain ⟨h1,h2,h3,h4⟩:=hw;have hf5:Zj (cis [r,a,f,b,m,c,h,d])=((4:Nat):Int):=by rw[hf,hx,hy,hz,hv,if_pos (by simp[h1,h2,h3,h4])];rfl
      have hN:Jo (cis [r,a,f,b,m,c,h,d])=[(x:Int),(y:Int),(z:Int),(v:Int)]:=by obtain ⟨_,_,_,_,n5,n6,n7,n8,n9⟩:=nN;rw[Qhk (j:=4) (f:=["reel","N","frames","N","motor","N","change","N"]) hf5 rfl];show Qjt [ci r,ci a,ci f,ci b,ci m,ci c,ci h,ci d] _=_;rw[Zs,if_neg n5,Zs,if_pos rfl,Zs,if_neg n6,Zs,if_pos rfl,Zs,if_neg n7,Zs,if_pos rfl,Zs,if_neg n8,Zs,if_pos rfl,Qgx a ha,Qgx b hb,Qgx c hc,Qgx d hd,hx,hy,hz,hv];rfl
      have hR:Qa7 (Jo (cis [r,a,f,b,m,c,h,d])) (Yr.getD (Zj (cis [r,a,f,b,m,c,h,d])).toNat [])=(Vbfaal.inside 1 99 x&&(Vbfaal.inside 1 Vbfaal.FRAMES y&&(Vbfaal.inside 0 Vbfaal.FRAMES z&&Vbfaal.inside 0 Vbfaal.FRAMES v))):=by rw[Qoc hf5,hN,<-Zdo,<-Zdo,<-Zdo,<-Zdo];show ((decide ((1:Int)<=(x:Int))&&decide ((x:Int)<=99))&&((decide ((1:Int)<=(y:Int))&&decide ((y:Int)<=2000))&&((decide ((0:Int)<=(z:Int))&&decide ((z:Int)<=2000))&&((decide ((0:Int)<=(v:Int))&&decide ((v:Int)<=2000))&&true))))=_;rw[Bool.and_true];rfl
      by_cases hin:(Vbfaal.inside 1 99 x&&(Vbfaal.inside 1 Vbfaal.FRAMES y&&(Vbfaal.inside 0 Vbfaal.FRAMES z&&Vbfaal.inside 0 Vbfaal.FRAMES v)))=true
      .refine Qv7 R (r:=⟨x,y,z,v,false⟩) ?_ ?_ 4 hf5 (by omega) (by rw[hR];exact hin) ?_
       .unfold Vbfaal.lineOf;simp only[hx,hy,hz,hv];rw[if_pos ⟨h1,h2,h3,h4⟩,if_pos hin]
       .simp only[Bool.and_eq_true]at hin
        have:=hin.2.1
        unfold Vbfaal.inside at this;simp only[Bool.and_eq_true,decide_eq_true_eq]at this;exact this.1
       .rw[hf5,hN];rfl
      .have hin:(Vbfaal.inside 1 99 x&&(Vbfaal.inside 1 Vbfaal.FRAMES y&&(Vbfaal.inside 0 Vbfaal.FRAMES z&&Vbfaal.inside 0 Vbfaal.FRAMES v)))=false:=by simpa using hin
       refine Qq9 ?_ hf5 (by rw[hR];exact hin);unfold Vbfaal.lineOf;simp only[hx,hy,hz,hv];rw[if_pos ⟨h1,h2,h3,h4⟩,if_neg (by rw[hin];decide)]
     .refine Qau ?_ ?_
      .unfold Vbfaal.lineOf;simp only[hx,hy,hz,hv];rw[if_neg hw]
      .rw[hf,if_neg];intro q;simp only[Bool.and_eq_true,decide_eq_true_eq]at q;exact hw ⟨q.1,q.2.2.1,q.2.2.2.2.1,q.2.2.2.2.2.2.1⟩
end
section
open Vbfaal (Sheet Reel)
theorem Zdp {ws:List (List Nat)} {e:Nat} (h:Vbfaal.lineOf ws = .error e):¬ e=0:=by
 unfold Vbfaal.lineOf at h
 repeat' split at h
 all_goals first | (cases h;decide) | cases h
theorem Qv8 {s:Sheet} {n:Nat} {x:Vbfaal.Line} {e:Nat} (h:Vbfaal.takeLine s n x = .error e):¬ e=0:=by
 unfold Vbfaal.takeLine at h
 repeat' split at h
 all_goals first | (cases h;decide) | cases h
theorem Zud {sh:Sh} {s:Sheet} {n:Nat} (R:Qmq sh s n) (k a:List Nat) (ha:a ≠ []):Good sh s n [k,a]:=by
 have q:=Zlx R k a ha;unfold Good;cases h:Vbfaal.lineOf [k,a] with
 | error e =>rw[h]at q;exact ⟨q,Zdp h⟩
 | ok x =>
  rw[h]at q;simp only at q ⊢;cases h2:Vbfaal.takeLine s n x with
  | error e =>rw[h2]at q;exact ⟨q,Qv8 h2⟩
  | ok y =>rw[h2]at q;exact q
theorem Zlz {sh:Sh} {s:Sheet} {n:Nat} (R:Qmq sh s n):∀ (ws:List (List Nat)),(∀ w ∈ ws,w ≠ [])->Good sh s n ws
 | [],_=>Qau rfl (Qbt _ (by simp) (by simp) (by simp))
 | [_],_=>Qau rfl (Qbt _ (by simp) (by simp) (by simp))
 | [k,a],hw=>Zud R k a (hw a (by simp))
 | [_,_,_],_=>Qau rfl (Qbt _ (by simp) (by simp) (by simp))
 | [_,_,_,_],_=>Qau rfl (Qbt _ (by simp) (by simp) (by simp))
 | [r,a,f,b,e],hw=>Zub R r a f b e (hw a (by simp)) (hw b (by simp))
 | [_,_,_,_,_,_],_=>Qau rfl (Qbt _ (by simp) (by simp) (by simp))
 | [_,_,_,_,_,_,_],_=>Qau rfl (Qbt _ (by simp) (by simp) (by simp))
 | [r,a,f,b,m,c,h,d],hw=>Zuc R r a f b m c h d (hw a (by simp)) (hw b (by simp)) (hw c (by simp)) (hw d (by simp))
 | _::_::_::_::_::_::_::_::_::_,_=>Qau rfl (Qbt _ (by simp) (by simp) (by simp))
theorem fill_eq:∀ (ls:List (List Nat)) (i:Nat) (sh:Sh) (s:Sheet) (n:Nat),Qmq sh s n ->
  match Vbfaal.readFrom s n i ls with
  | .error e=>(Qck (cis ls) (i:Int) sh).1=[(e.1:Int),(e.2:Int)]
  | .ok h=>(Qck (cis ls) (i:Int) sh).1=[]/\Qmq (Qck (cis ls) (i:Int) sh).2 h 4
 | [],i,sh,s,n,R=>by
  show match Vbfaal.readFrom s n i [] with | .error e=>(if sh.ended=true then [] else [(i:Int),3])=[(e.1:Int),(e.2:Int)] | .ok h=>(if sh.ended=true then [] else [(i:Int),3])=[]/\Qmq sh h 4
  rw[Vbfaal.readFrom,R.en];by_cases h:(s.reels.any fun x=>x.last)=true
  .rw[if_pos h];simp only[if_pos h];refine ⟨trivial,?_⟩;have hn:n=4:=R.r4.elim (fun z=>by rw[z]at h;cases h) id;rw[<-hn];exact R
  .rw[if_neg h];simp only[if_neg h];rfl
 | l::r,i,sh,s,n,R=>by
  have hw:=Zid l;have hl:(Qcj (ci l)).length=(Vbfaal.wordsOf l).length:=by rw[hw];simp[cis]
  show match Vbfaal.readFrom s n i (l::r) with | .error e=>(Qck (ci l::cis r) (i:Int) sh).1=[(e.1:Int),(e.2:Int)] | .ok h=>(Qck (ci l::cis r) (i:Int) sh).1=[]/\Qmq (Qck (ci l::cis r) (i:Int) sh).2 h 4
  rw[Vbfaal.readFrom,Qck,hl];have ei:(i:Int)+1=((i+1:Nat):Int):=by omega
  by_cases h0:(Vbfaal.wordsOf l).isEmpty=true
  .rw[if_pos h0,if_pos (by simpa using h0),ei];exact fill_eq r (i+1) sh s n R
  .rw[if_neg h0,if_neg (by simpa using h0),hw];have q:=Zlz R (Vbfaal.wordsOf l) (fun w h=>Zdl w h);unfold Good at q;cases h1:Vbfaal.lineOf (Vbfaal.wordsOf l) with
   | error e =>rw[h1]at q;simp only;have q:Yx sh (cis (Vbfaal.wordsOf l))=(e:Int)/\¬ e=0:=q;rw[if_neg (by rw[q.1];omega)];show [(i:Int),Yx sh (cis (Vbfaal.wordsOf l))]=_;rw[q.1]
   | ok x =>
    rw[h1]at q;simp only at q ⊢;cases h2:Vbfaal.takeLine s n x with
    | error e =>rw[h2]at q;simp only;have q:Yx sh (cis (Vbfaal.wordsOf l))=(e:Int)/\¬ e=0:=q;rw[if_neg (by rw[q.1];omega)];show [(i:Int),Yx sh (cis (Vbfaal.wordsOf l))]=_;rw[q.1]
    | ok y =>rw[h2]at q;simp only;have q:Yx sh (cis (Vbfaal.wordsOf l))=0/\Qmq (Qdq sh (cis (Vbfaal.wordsOf l))) y.1 y.2:=q;rw[if_pos q.1,ei];exact fill_eq r (i+1) _ _ _ q.2
theorem Qmq.shO {sh:Sh} {h:Sheet} (R:Qmq sh h 4):sh=shO h:=by have h1:=R.set;have h2:=R.up (by omega);have h3:=R.st (by omega);have h4:=R.dn (by omega);have h5:=R.ld (by omega);have h6:=R.rl;cases sh;simp_all [B2.shO]
theorem Zp0 (t:List Nat):match Vbfaal.read t with
  | .error e=>(Qa8 sh0 (ci t)).1=[(e.1:Int),(e.2:Int)]
  | .ok h=>(Qa8 sh0 (ci t)).1=[]/\(Qa8 sh0 (ci t)).2=shO h/\∀ r ∈ h.reels,1<=r.frames:=by
 have R0:Qmq sh0 Vbfaal.noSheet 0:=⟨rfl,by omega,fun z=>by omega,fun z=>by omega,fun z=>by omega,fun z=>by omega,rfl,rfl,by decide,fun r hr=>(by cases hr),.inl rfl⟩
 have q:=fill_eq (Vbfaal.splitBy 10 t) 1 sh0 Vbfaal.noSheet 0 R0;unfold Qa8 Vbfaal.read;rw[show (10:Int)=((10:Nat):Int) from rfl,Qv5];rw[show ((1:Nat):Int)=1 from rfl]at q;cases h:Vbfaal.readFrom Vbfaal.noSheet 0 1 (Vbfaal.splitBy 10 t) with
 | error e=>rw[h]at q;exact q
 | ok s =>rw[h]at q;exact ⟨q.1,q.2.shO,q.2.fr⟩
end
section
open Vbfaal (State Sheet Machine machine withMachine)
theorem SInv.setM {h:Sheet} {s:State} (I:SInv h s) {k:Nat} (hk:k<=1) {m':Machine} (hm:Qi6 h m') (hw:m'.want=true->(machine s k).want=true/\(machine s k).place<=m'.place):SInv h (withMachine s k m'):=by
 unfold withMachine;by_cases z:k=0
 .have em:machine s k=s.a:=by unfold machine;rw[if_pos z]
  rw[em]at hw;rw[if_pos z];refine I.of rfl rfl rfl hm I.mb I.act (fun y=>?_) I.wb;obtain ⟨q1,q2⟩:=hw y;obtain ⟨q3,q4,q5⟩:=I.wa q1;exact ⟨q3,q4,by show -1<=m'.place;omega⟩
 .have em:machine s k=s.b:=by unfold machine;rw[if_neg z]
  rw[em]at hw;rw[if_neg z];refine I.of rfl rfl rfl I.ma hm I.act I.wa (fun y=>?_);obtain ⟨q1,q2⟩:=hw y;obtain ⟨q3,q4,q5⟩:=I.wb q1;exact ⟨q3,q4,by show -1<=m'.place;omega⟩
theorem Je (m:Int):isM m=Vbfaal.isMachine m:=by
 unfold isM Vbfaal.isMachine Vbfaal.within;by_cases h0:m=0
 .subst h0;rfl
 .by_cases h1:m=1
  .subst h1;rfl
  .have:¬ (0<=m/\m<=1):=by omega
   by_cases h2:0<=m
   .have h3:¬ m<=1:=by omega
    simp[h0,h1,h2,h3]
   .simp[h0,h1,h2]
theorem Jt {m:Int} (h:isM m=true):m=(m.toNat:Int)/\m.toNat<=1:=by
 have:=isM.Qdo h
 rcases this with z | z <;> rw[z] <;> simp
theorem Qr {h:Sheet} {s:State} (I:SInv h s) (f:Sheet->State × List Int):Vbfaal.withSheet s f=f h:=by unfold Vbfaal.withSheet;rw[I.sheet]
def Qad (h:Sheet) (s:State) (c:Vbfaal.Call) (r:Hs × List Int):Prop:=r=(hsO (Vbfaal.step s c).1,(Vbfaal.step s c).2)/\SInv h (Vbfaal.step s c).1
theorem Qy {h:Sheet} {s s':State} {c:Vbfaal.Call} {r:Hs × List Int} {l:List Int} (e:Vbfaal.step s c=(s',l)) (er:r=(hsO s',l)) (I:SInv h s'):Qad h s c r:=by unfold Qad;rw[e];exact ⟨er,I⟩
theorem Zdq {h:Sheet} {s:State} (I:SInv h s) (m:Int):Qad h s (.seize m) (Qgr (hsO s) [m]):=by
 have ew:Vbfaal.step s (.seize m)=_:=Qr I _;by_cases hm:isM m=true
 .obtain ⟨e1,e2⟩:=Jt hm;have hm':¬ Vbfaal.isMachine m=false:=by rw[<-Je,hm];decide
  rw[if_neg hm']at ew;refine Qy ew ?_ (I.setM e2 ?_ fun z=>⟨z,Int.le_refl _⟩)
  .unfold Qgr;rw[if_pos (show isM ([m].getD 0 0)=true from hm)];show ((hsO s).setM m _,[0])=_;rw[<-Zlr];rw[<-e1]
   congr 2
   rw[show [m].getD 0 0=m from rfl,e1,hmc,<-e1];rfl
  .have M:=I.Zh9 m.toNat;exact ⟨M.reel,Nat.zero_le _,fun _=>rfl,fun z=>(by cases z),fun z=>(by cases z)⟩
 .have hm0:isM m=false:=by simpa using hm
  have hm':Vbfaal.isMachine m=false:=by rw[<-Je];exact hm0
  rw[if_pos hm']at ew;refine Qy ew ?_ I;unfold Qgr;rw[if_neg (show ¬ isM ([m].getD 0 0)=true from hm)]
theorem Zig {h:Sheet} {s:State} (I:SInv h s) (m:Int):Qad h s (.lampOut m) (Qn6 (hsO s) [m]):=by
 have ew:Vbfaal.step s (.lampOut m)=_:=Qr I _;by_cases hm:isM m=true
 .obtain ⟨e1,e2⟩:=Jt hm;have hm':¬ Vbfaal.isMachine m=false:=by rw[<-Je,hm];decide
  rw[if_neg hm']at ew;refine Qy ew ?_ (I.setM e2 ((I.Zh9 m.toNat).of rfl rfl rfl rfl rfl) fun z=>⟨z,Int.le_refl _⟩);unfold Qn6;rw[if_pos (show isM ([m].getD 0 0)=true from hm)];show ((hsO s).setM m _,[0])=_;rw[<-Zlr];rw[<-e1]
  congr 2
  rw[show [m].getD 0 0=m from rfl,e1,hmc,<-e1];rfl
 .have hm0:isM m=false:=by simpa using hm
  have hm':Vbfaal.isMachine m=false:=by rw[<-Je];exact hm0
  rw[if_pos hm']at ew;refine Qy ew ?_ I;unfold Qn6;rw[if_neg (show ¬ isM ([m].getD 0 0)=true from hm)]
theorem Zih {h:Sheet} {s:State} (I:SInv h s) (m:Int):Qad h s (.tick m) (Qn9 (hsO s) [m]):=by
 have ew:Vbfaal.step s (.tick m)=_:=Qr I _;by_cases hm:1<=m/\m<=500
 .have hm':¬ Vbfaal.within m 1 (Vbfaal.TICKS:Int)=false:=by unfold Vbfaal.within Vbfaal.TICKS;simp;omega
  rw[if_neg hm']at ew;obtain ⟨e1,I1⟩:=Zbv m.toNat s I;refine Qy ew ?_ I1;unfold Qn9;rw[if_pos (show 1<=[m].getD 0 0/\[m].getD 0 0<=500 from hm)];show (Qbc m.toNat (hsO s),[(Qbc m.toNat (hsO s)).ticks,(Qbc m.toNat (hsO s)).mode])=_;rw[e1];rfl
 .have hm':Vbfaal.within m 1 (Vbfaal.TICKS:Int)=false:=by
   unfold Vbfaal.within Vbfaal.TICKS;rw[Bool.and_eq_false_iff];by_cases h1:1<=m
   .exact .inr (decide_eq_false (by show ¬ m<=((500:Nat):Int);omega))
   .exact .inl (decide_eq_false h1)
  rw[if_pos hm']at ew;refine Qy ew ?_ I;unfold Qn9;rw[if_neg (show ¬ (1<=[m].getD 0 0/\[m].getD 0 0<=500) from hm)]
theorem Qfb (s:State):(hsO s).going=Vbfaal.going s:=by
 unfold Hs.going Vbfaal.going;show (decide ((s.mode:Int)=1)||decide ((s.mode:Int)=2))=_;by_cases h1:s.mode=1
 .simp[h1]
 .by_cases h2:s.mode=2
  .simp[h2]
  .have q1:¬ (s.mode:Int)=1:=by omega
   have q2:¬ (s.mode:Int)=2:=by omega
   simp[h1,h2,q1,q2]
theorem halt_same {h:Sheet} {s:State} (I:SInv h s):Qad h s .halt (Qn8 (hsO s) []):=by
 have ew:Vbfaal.step s .halt=_:=Qr I _;by_cases hg:Vbfaal.going s=true
 .rw[if_neg (by rw[hg];decide)]at ew;refine Qy ew ?_ (I.stopped 6);unfold Qn8;rw[Qfb,if_pos hg];exact congrArg (fun x=>(x,[0])) (hstop s 6)
 .have hg':Vbfaal.going s=false:=by simpa using hg
  rw[if_pos hg']at ew;refine Qy ew ?_ I;unfold Qn8;rw[Qfb,if_neg hg]
theorem Zdr {h:Sheet} {s:State} (I:SInv h s):Qad h s .power (Qjz (hsO s) []):=by
 have ew:Vbfaal.step s .power=_:=Qr I _;have md:∀ m:Machine,Qi6 h m->Qi6 h { Vbfaal.off m with phase:=0,count:=0,open_:=false,moved:=false }:=fun m M=>⟨M.reel,Nat.zero_le _,fun _=>rfl,fun z=>(by cases z),fun z=>(by cases z)⟩
 have I1:SInv h { s with a:={ Vbfaal.off s.a with phase:=0,count:=0,open_:=false,moved:=false },b:={ Vbfaal.off s.b with phase:=0,count:=0,open_:=false,moved:=false } }:=
  I.of rfl rfl rfl (md _ I.ma) (md _ I.mb) I.act (fun z=>by cases z) (fun z=>by cases z)
 have ed:(hsO s).Qvz=hsO { s with a:={ Vbfaal.off s.a with phase:=0,count:=0,open_:=false,moved:=false },b:={ Vbfaal.off s.b with phase:=0,count:=0,open_:=false,moved:=false } }:=rfl;by_cases hg:Vbfaal.going s=true
 .refine Qy ew ?_ ?_
  .unfold Qjz;rw[Qfb,if_pos hg,ed];simp only[if_pos hg];exact congrArg (fun x=>(x,[0])) (hstop _ 5)
  .simp only[if_pos hg];exact I1.stopped 5
 .refine Qy ew ?_ ?_
  .unfold Qjz;rw[Qfb,if_neg hg,ed];simp only[if_neg hg]
  .simp only[if_neg hg];exact I1
end
section
open Vbfaal (State Sheet Machine machine withMachine)
theorem Qz2 {s:State} {m:Int} (e1:m=(m.toNat:Int)):(hsO s).mc m=mcO (machine s m.toNat):=by
 have:=hmc s m.toNat
 rw[<-e1]at this;exact this
theorem Qra {s:State} {m:Int} (e1:m=(m.toNat:Int)) (m':Machine):(hsO s).setM m (mcO m')=hsO (withMachine s m.toNat m'):=by
 have:=Zlr s m.toNat m'
 rw[<-e1]at this;exact this
theorem ph0 (m:Machine):((mcO m).phase=0) ↔ Vbfaal.stands m=true:=by unfold Vbfaal.stands;show ((m.phase:Int)=0) ↔ _;rw[beq_iff_eq];omega
theorem Qer (m:Machine):((mcO m).reel = -1) ↔ m.reel=none:=by
 unfold mcO;cases m.reel with
 | none=>simp
 | some i =>
  have:¬ (i:Int) = -1:=by omega
  simp[this]
theorem Zii {h:Sheet} {s:State} (I:SInv h s) (m:Int):Qad h s (.mend m) (Qk1 (hsO s) [m]):=by
 have ew:Vbfaal.step s (.mend m)=_:=Qr I _;by_cases hm:isM m=true
 .obtain ⟨e1,e2⟩:=Jt hm;have hm':¬ Vbfaal.isMachine m=false:=by rw[<-Je,hm];decide
  rw[if_neg hm']at ew;unfold Qk1;rw[if_pos (show isM ([m].getD 0 0)=true from hm)];show Qad h s (.mend m) (if ((hsO s).mc m).phase=0 then ((hsO s).setM m { (hsO s).mc m with seized:=false,Qjc:=false,dead:=false,glow:=0 },[0]) else (hsO s,[-4]));rw[Qz2 e1];by_cases h2:Vbfaal.stands (machine s m.toNat)=true
  .rw[if_neg (by rw[h2];decide)]at ew;rw[if_pos ((ph0 _).mpr h2)];refine Qy ew ?_ (I.setM e2 ((I.Zh9 m.toNat).of rfl rfl rfl rfl rfl) fun z=>⟨z,Int.le_refl _⟩);exact congrArg (fun x=>(x,[0])) (Qra e1 { machine s m.toNat with seized:=false,broken:=false,dead:=false,glow:=0 })
  .have h2':Vbfaal.stands (machine s m.toNat)=false:=by simpa using h2
   rw[if_pos h2']at ew;rw[if_neg (fun z=>h2 ((ph0 _).mp z))];exact Qy ew rfl I
 .have hm0:isM m=false:=by simpa using hm
  have hm':Vbfaal.isMachine m=false:=by rw[<-Je];exact hm0
  rw[if_pos hm']at ew;refine Qy ew ?_ I;unfold Qk1;rw[if_neg (show ¬ isM ([m].getD 0 0)=true from hm)]
theorem Zij {h:Sheet} {s:State} (I:SInv h s) (m:Int):Qad h s (.tear m) (Qk2 (hsO s) [m]):=by
 have ew:Vbfaal.step s (.tear m)=_:=Qr I _;by_cases hm:isM m=true
 .obtain ⟨e1,e2⟩:=Jt hm;have hm':¬ Vbfaal.isMachine m=false:=by rw[<-Je,hm];decide
  rw[if_neg hm']at ew;unfold Qk2;rw[if_pos (show isM ([m].getD 0 0)=true from hm)];show Qad h s (.tear m) (if ((hsO s).mc m).reel = -1 then (hsO s,[-6]) else ((hsO s).setM m { (hsO s).mc m with Qjc:=true,Qbi:=false },[0]));rw[Qz2 e1];by_cases h2:(machine s m.toNat).reel=none
  .rw[if_pos h2]at ew;rw[if_pos ((Qer _).mpr h2)];exact Qy ew rfl I
  .rw[if_neg h2]at ew;rw[if_neg (fun z=>h2 ((Qer _).mp z))];have M:=I.Zh9 m.toNat;refine Qy ew ?_ (I.setM e2 ⟨M.reel,M.ph,M.c0,M.c2,fun z=>(by cases z)⟩ fun z=>⟨z,Int.le_refl _⟩);exact congrArg (fun x=>(x,[0])) (Qra e1 { machine s m.toNat with broken:=true,open_:=false,moved:=false })
 .have hm0:isM m=false:=by simpa using hm
  have hm':Vbfaal.isMachine m=false:=by rw[<-Je];exact hm0
  rw[if_pos hm']at ew;refine Qy ew ?_ I;unfold Qk2;rw[if_neg (show ¬ isM ([m].getD 0 0)=true from hm)]
theorem Qz3 (s:State) {m:Int} (e1:m=(m.toNat:Int)):(hsO s).busy m=Vbfaal.inUse s m:=by
 unfold Hs.busy Vbfaal.inUse;rw[Qfb]
 congr 1
 show decide ((s.active:Int)=m)=(s.active == m.toNat)
 by_cases h:s.active=m.toNat
 .have:(s.active:Int)=m:=by omega
  simp[h];omega
 .have:¬ (s.active:Int)=m:=by omega
  simp[h,this]
theorem Qmr {h:Sheet} {s:State} (I:SInv h s) {k:Nat} (hk:k<=1) {m:Int} (e:m.toNat=k) (z:(machine s k).want=true):Vbfaal.inUse s m=true:=by
 unfold Vbfaal.inUse Vbfaal.going;rw[e];unfold machine at z;by_cases hk0:k=0
 .rw[if_pos hk0]at z;obtain ⟨q1,q2,_⟩:=I.wa z;simp[q1,q2,hk0]
 .rw[if_neg hk0]at z;obtain ⟨q1,q2,_⟩:=I.wb z
  have:k=1:=by omega
  simp[q1,q2,this]
theorem Qs7 {h:Sheet} {s:State} (I:SInv h s) (m:Int):Qad h s (.unthread m) (Yy (hsO s) [m]):=by
 have ew:Vbfaal.step s (.unthread m)=_:=Qr I _;by_cases hm:isM m=true
 .obtain ⟨e1,e2⟩:=Jt hm;have hm':¬ Vbfaal.isMachine m=false:=by rw[<-Je,hm];decide
  rw[if_neg hm']at ew;unfold Yy;rw[if_pos (show isM ([m].getD 0 0)=true from hm)];show Qad h s (.unthread m) (if (hsO s).busy m=true then (hsO s,[-3]) else if ¬ ((hsO s).mc m).phase=0 then (hsO s,[-4]) else if ((hsO s).mc m).reel = -1 then (hsO s,[-6]) else ((hsO s).setM m { (hsO s).mc m with reel:=-1,place:=0,Qjc:=false },[0]));rw[Qz2 e1,Qz3 s e1];by_cases h1:Vbfaal.inUse s m=true
  .rw[if_pos h1]at ew ⊢;exact Qy ew rfl I
  .rw[if_neg h1]at ew ⊢;by_cases h2:Vbfaal.stands (machine s m.toNat)=true
   .rw[if_neg (by rw[h2];decide)]at ew;rw[if_neg (fun z=>z ((ph0 _).mpr h2))];by_cases h3:(machine s m.toNat).reel=none
    .rw[if_pos h3]at ew;rw[if_pos ((Qer _).mpr h3)];exact Qy ew rfl I
    .rw[if_neg h3]at ew;rw[if_neg (fun z=>h3 ((Qer _).mp z))];have M:=I.Zh9 m.toNat;have hp:(machine s m.toNat).phase=0:=by unfold Vbfaal.stands at h2;simpa using h2
     refine Qy ew ?_ (I.setM e2 ⟨fun i z=>(by cases z),M.ph,M.c0,M.c2,fun z=>?_⟩ fun z=>absurd (Qmr I e2 rfl z) h1)
     .exact congrArg (fun x=>(x,[0])) (Qra e1 { machine s m.toNat with reel:=none,place:=0,broken:=false })
     .have:=(M.opn z).1
      omega
   .have h2':Vbfaal.stands (machine s m.toNat)=false:=by simpa using h2
    rw[if_pos h2']at ew;rw[if_pos (fun z=>h2 ((ph0 _).mp z))];exact Qy ew rfl I
 .have hm0:isM m=false:=by simpa using hm
  have hm':Vbfaal.isMachine m=false:=by rw[<-Je];exact hm0
  rw[if_pos hm']at ew;refine Qy ew ?_ I;unfold Yy;rw[if_neg (show ¬ isM ([m].getD 0 0)=true from hm)]
end
section
open Vbfaal (State Sheet Machine machine withMachine)
theorem Znc (h:Sheet) (reel lead:Int):(shO h).thr reel lead=(Vbfaal.within reel 0 ((h.reels.length:Int) - 1)&&Vbfaal.within lead (1 - ((Vbfaal.reelAt h reel.toNat).frames:Int)) (h.leader:Int)):=by
 unfold Sh.thr Vbfaal.within;have el:((shO h).reels.length:Int)=(h.reels.length:Int):=by show ((h.reels.map rlO).length:Int)=_;rw[List.length_map]
 rw[el];by_cases h1:0<=reel/\reel < (h.reels.length:Int)
 .obtain ⟨q1,q2⟩:=h1;have e:reel=(reel.toNat:Int):=by omega
  have ef:((shO h).rl reel).frames=((Vbfaal.reelAt h reel.toNat).frames:Int):=by rw[e,Qv4 h reel.toNat (by omega),Int.toNat_natCast];rfl
  rw[ef];have d1:decide (reel < (h.reels.length:Int))=decide (reel<=(h.reels.length:Int) - 1):=decide_eq_decide.mpr (by omega);rw[d1];rfl
 .have d1:(decide (0<=reel)&&decide (reel < (h.reels.length:Int)))=false:=by
   rw[Bool.and_eq_false_iff];by_cases z:0<=reel
   .exact .inr (decide_eq_false (by omega))
   .exact .inl (decide_eq_false z)
  have d2:(decide (0<=reel)&&decide (reel<=(h.reels.length:Int) - 1))=false:=by
   rw[Bool.and_eq_false_iff];by_cases z:0<=reel
   .exact .inr (decide_eq_false (by omega))
   .exact .inl (decide_eq_false z)
  rw[d1,d2];rfl
theorem Zik {m:Int} (e1:m=(m.toNat:Int)) (e2:m.toNat<=1):(1:Int) - m=((1 - m.toNat:Nat):Int):=by omega
theorem Qz4 {h:Sheet} {s:State} (I:SInv h s) (m reel lead:Int):Qad h s (.thread m reel lead) (Qcg (hsO s) [m,reel,lead]):=by
 have ew:Vbfaal.step s (.thread m reel lead)=_:=Qr I _;have ec:(isM m=true/\(hsO s).sh.thr reel lead=true) ↔ ¬ (Vbfaal.isMachine m&&(Vbfaal.within reel 0 ((h.reels.length:Int) - 1)&&Vbfaal.within lead (1 - ((Vbfaal.reelAt h reel.toNat).frames:Int)) (h.leader:Int)))=false:=by rw[I.sh,Znc,Je];cases Vbfaal.isMachine m <;> simp
 unfold Qcg
 show Qad h s (.thread m reel lead) (if isM m=true/\(hsO s).sh.thr reel lead=true then (if (hsO s).busy m=true then (hsO s,[-3]) else if ¬ ((hsO s).mc m).phase=0 then (hsO s,[-4]) else if ((hsO s).mc (1 - m)).reel=reel then (hsO s,[-5])
  else ((hsO s).setM m { (hsO s).mc m with reel:=reel,place:=-lead,Qjc:=false },[0])) else (hsO s,[-1]))
 by_cases hc:isM m=true/\(hsO s).sh.thr reel lead=true
 .rw[if_pos hc];rw[if_neg (ec.mp hc)]at ew;obtain ⟨hm,ht⟩:=hc;obtain ⟨e1,e2⟩:=Jt hm;rw[I.sh,Znc,Bool.and_eq_true]at ht;have hr:0<=reel/\reel.toNat < h.reels.length:=by
   have:=ht.1
   unfold Vbfaal.within at this;simp only[Bool.and_eq_true,decide_eq_true_eq]at this;omega
  rw[Qz2 e1,Qz3 s e1,Zik e1 e2,hmc];by_cases h1:Vbfaal.inUse s m=true
  .rw[if_pos h1]at ew ⊢;exact Qy ew rfl I
  .rw[if_neg h1]at ew ⊢;by_cases h2:Vbfaal.stands (machine s m.toNat)=true
   .rw[if_neg (by rw[h2];decide)]at ew;rw[if_neg (fun z=>z ((ph0 _).mpr h2))];have er:((mcO (machine s (1 - m.toNat))).reel=reel) ↔ (machine s (1 - m.toNat)).reel=some reel.toNat:=by
     unfold mcO;cases (machine s (1 - m.toNat)).reel with
     | none =>
      have:¬ (-1:Int)=reel:=by omega
      simp[this]
     | some i =>simp;omega
    by_cases h3:(machine s (1 - m.toNat)).reel=some reel.toNat
    .rw[if_pos h3]at ew;rw[if_pos (er.mpr h3)];exact Qy ew rfl I
    .rw[if_neg h3]at ew;rw[if_neg (fun z=>h3 (er.mp z))];have M:=I.Zh9 m.toNat;have hp:(machine s m.toNat).phase=0:=by unfold Vbfaal.stands at h2;simpa using h2
     refine Qy ew ?_ (I.setM e2 ⟨fun i z=>?_,M.ph,M.c0,M.c2,fun z=>?_⟩ fun z=>absurd (Qmr I e2 rfl z) h1)
     .have:=Qra (s:=s) e1 { machine s m.toNat with reel:=some reel.toNat,place:=-lead,broken:=false }
      have e5:mcO { machine s m.toNat with reel:=some reel.toNat,place:=-lead,broken:=false }={ mcO (machine s m.toNat) with reel:=reel,place:=-lead,Qjc:=false }:=by unfold mcO;simp;omega
      rw[e5]at this;exact congrArg (fun x=>(x,[0])) this
     .have z:some reel.toNat=some i:=z;cases z;exact hr.2
     .have:=(M.opn z).1
      omega
   .have h2':Vbfaal.stands (machine s m.toNat)=false:=by simpa using h2
    rw[if_pos h2']at ew;rw[if_pos (fun z=>h2 ((ph0 _).mp z))];exact Qy ew rfl I
 .rw[if_neg hc];have hx:(Vbfaal.isMachine m&&(Vbfaal.within reel 0 ((h.reels.length:Int) - 1)&&Vbfaal.within lead (1 - ((Vbfaal.reelAt h reel.toNat).frames:Int)) (h.leader:Int)))=false:=by
   cases e:(Vbfaal.isMachine m&&(Vbfaal.within reel 0 ((h.reels.length:Int) - 1)&&Vbfaal.within lead (1 - ((Vbfaal.reelAt h reel.toNat).frames:Int)) (h.leader:Int))) with
   | false=>rfl
   | true=>exact absurd (ec.mpr (by rw[e];decide)) hc
  rw[if_pos hx]at ew;exact Qy ew rfl I
theorem go_same {h:Sheet} {s:State} (I:SInv h s) (m f:Int):Qad h s (.go m f) (cGo (hsO s) [m,f]):=by
 have ew:Vbfaal.step s (.go m f)=_:=Qr I _;have ec:Qzx m f=(Vbfaal.isMachine m&&Vbfaal.within f 0 (Vbfaal.FRAMES:Int)):=by unfold Qzx;rw[Je];rfl
 unfold cGo
 show Qad h s (.go m f) (if Qzx m f=true then (if (hsO s).going=true then (hsO s,[-3]) else if ((hsO s).mc m).reel = -1 then (hsO s,[-6]) else if ((hsO s).sh.rl ((hsO s).mc m).reel).last < f then (hsO s,[-1])
  else ({ (hsO s).setM m ((hsO s).mc m).on with mode:=1,active:=m,target:=f,reason:=0 },[0])) else (hsO s,[-1]))
 rw[ec];by_cases hc:(Vbfaal.isMachine m&&Vbfaal.within f 0 (Vbfaal.FRAMES:Int))=true
 .rw[if_pos hc];rw[if_neg (by rw[hc];decide)]at ew;rw[Bool.and_eq_true]at hc;have hm:isM m=true:=by rw[Je];exact hc.1
  have hf:0<=f:=by
   have:=hc.2
   unfold Vbfaal.within at this;simp only[Bool.and_eq_true,decide_eq_true_eq]at this;exact this.1
  obtain ⟨e1,e2⟩:=Jt hm;rw[Qz2 e1,Qfb,I.sh];by_cases h1:Vbfaal.going s=true
  .rw[if_pos h1]at ew ⊢;exact Qy ew rfl I
  .rw[if_neg h1]at ew ⊢;have M:=I.Zh9 m.toNat;cases hr:(machine s m.toNat).reel with
   | none =>
    have er:Vbfaal.reelOf h (machine s m.toNat)=none:=by unfold Vbfaal.reelOf;rw[hr];rfl
    simp only[er]at ew;rw[if_pos ((Qer _).mpr hr)];exact Qy ew rfl I
   | some i =>
    have hi:=M.reel i hr;have er:Vbfaal.reelOf h (machine s m.toNat)=some (Vbfaal.reelAt h i):=by unfold Vbfaal.reelOf Vbfaal.reelAt;rw[hr];show h.reels[i]? = _;rw[List.getD_eq_getElem?_getD,List.getElem?_eq_getElem hi];rfl
    simp only[er]at ew;have e5:(mcO (machine s m.toNat)).reel=(i:Int):=by unfold mcO;rw[hr]
    have hmem:Vbfaal.reelAt h i ∈ h.reels:=by unfold Vbfaal.reelAt;rw[List.getD_eq_getElem?_getD,List.getElem?_eq_getElem hi];exact List.getElem_mem hi
    rw[if_neg (by rw[e5];omega),e5,Qv4 h i hi,last_eq _ fun _=>I.fr _ hmem];by_cases h2:Vbfaal.lastOf (Vbfaal.reelAt h i) < f.toNat
    .rw[if_pos h2]at ew;rw[if_pos (by omega)];exact Qy ew rfl I
    .rw[if_neg h2]at ew;rw[if_neg (by omega)];have na:¬ s.a.want=true:=fun z=>by
      have:=(I.wa z).1
      exact h1 (by unfold Vbfaal.going;simp[this])
     have nb:¬ s.b.want=true:=fun z=>by
      have:=(I.wb z).1
      exact h1 (by unfold Vbfaal.going;simp[this])
     have I1:SInv h (withMachine s m.toNat (Vbfaal.on (machine s m.toNat))):=I.setM e2 M.on fun z=>⟨z,Int.le_refl _⟩
     have w1:¬ (withMachine s m.toNat (Vbfaal.on (machine s m.toNat))).a.want=true:=by
      unfold withMachine machine;by_cases z:m.toNat=0
      .simp only[if_pos z];exact na
      .simp only[if_neg z];exact na
     have w2:¬ (withMachine s m.toNat (Vbfaal.on (machine s m.toNat))).b.want=true:=by
      unfold withMachine machine;by_cases z:m.toNat=0
      .simp only[if_pos z];exact nb
      .simp only[if_neg z];exact nb
     refine Qy ew ?_ (I1.of rfl rfl rfl I1.ma I1.mb e2 (fun z=>absurd z w1) (fun z=>absurd z w2))
     have:=Qra (s:=s) e1 (Vbfaal.on (machine s m.toNat))
     rw[show (mcO (machine s m.toNat)).on=mcO (Vbfaal.on (machine s m.toNat)) from rfl,this];unfold hsO;simp;omega
 .have hc':(Vbfaal.isMachine m&&Vbfaal.within f 0 (Vbfaal.FRAMES:Int))=false:=by simpa using hc
  rw[if_neg hc];rw[if_pos hc']at ew;exact Qy ew rfl I
end
end
section
open PySem PySem.Spec PyProof.Rows L2
def Zl0 (K:FG):List V->Hp->VK->Prop:=fun vs H Q=>∃ (a:Addr) (ns:List Int),vs=[V.ref a]/\SqL K H a (ns.map V.int) /\
 ∀ (ms:List Int) (p:Addr),ms.Perm ns->ms.Pairwise (· <= ·)->H p=none->Q (.ref p) (upd H p (.lst (ms.map V.int)))
theorem Qv9 {X:Cx}:Qpi X (.builtin "sorted") (Zl0 X.K):=by
 intro pins s σ H vs us Q I r ⟨a,ns,ev,hs,q⟩;subst ev;obtain ⟨its,rv,hl,Zr4⟩:=I.list hs;rw[Vals.Zu4 r];have hi:=rv.ints;have hz:ns.length<=sizeLine:=by rw[List.length_map]at Zr4;exact Zr4
 refine PyProof.Rows.sorted_intsAny hl.isList hi (by rw[hi.length];exact hz) fun out ms h1 h2 h3=>?_;obtain ⟨ep,hat⟩:=PyProof.Rows.sortedAll_at s.heap its out;have hlen:(ms.map V.int).length<=sizeLine:=by rw[List.length_map,h2.length_eq];exact hz
 exact ⟨.ref _,upd H (s.heap.objs.size+1) (.lst (ms.map V.int)),I.laid (t':=s.toks) (fun _ _=>PyProof.Rows.sortedAll_old) (Nat.le_succ _) ⟨hlen,out.toList,ep,Qlc h1,hat⟩,rfl,q ms _ h2 h3 (I.hok.fresh (Nat.le_succ _))⟩
theorem Zil {κ:Type}:∀ {kvs:List (κ × V)} {vs:List (κ × Value)},KV kvs vs->vs.map (·.1)=kvs.map (·.1)
 | _,_,.nil=>rfl
 | _,_,.cons h t=>by rw[List.map_cons,List.map_cons,h.1,Zil t]
theorem Zim {k:Key} {v:Value} (h:Qxv k v=true):RelV (kV k) v:=by
 rcases Yp h with ⟨i,t,rfl,rfl⟩ | ⟨x,t,rfl,rfl⟩
 .exact ⟨t,rfl⟩
 .exact ⟨t,rfl⟩
theorem Zin:∀ {xs:List V} {us:List Value},us.length=xs.length->(∀ (j:Nat) (v:V) (u:Value),xs[j]? = some v->us[j]? = some u->RelV v u)->Vals xs us
 | [],[],_,_=>.nil
 | [],_::_,h,_=>by simp at h
 | _::_,[],h,_=>by simp at h
 | x::xs,u::us,h,f=>.cons (f 0 x u rfl rfl) (Zin (by simpa using h) fun j v w h1 h2=>f (j+1) v w (by simpa using h1) (by simpa using h2))
def Zr5:List V->Hp->VK->Prop:=fun vs H Q=>∃ (d:Addr) (kvs:List (Key × V)),vs=[V.ref d]/\H d=some (.dK kvs)/\∀ l,H l=none->Q (.ref l) (upd H l (.lst (kvs.map fun kv=>kV kv.1)))
theorem Zds {X:Cx} (hc:X.calm=true):Qpi X (.type "list") Zr5:=by
 intro pins s σ H vs us Q I r ⟨d,kvs,ev,hd,q⟩;subst ev;rw[Vals.Zu4 r];obtain ⟨hz,hsys,xs,hkv,ep,hm⟩:kvs.length<=sizeLine/\(d == sysModules)=false/\∃ vs,KV kvs vs/\∃ ep,s.heap.DictAt (Jp X.prog X.w) d vs ep:=by obtain ⟨h1,h2,vs,h3,h4⟩:=Zq9 I.hok hd;obtain ⟨o,es,ep,h5⟩:=h4;exact ⟨h1,h2,vs,h3,ep,o,es,h5⟩
 have hlen:kvs.length=xs.length:=Paired.length hkv;refine PySem.W.kdl_call (PySem.W.kdl_dict (knd:=Jp X.prog X.w) (kvs:=xs) (ep:=ep) hsys) (I.ok.hd hc) hm (by omega) fun h' tk acc c' kp hD hacc=>?_;have hv:Vals (kvs.map fun kv=>kV kv.1) acc.toList:=by
  refine Zin (by rw[Array.length_toList,List.length_map,hacc.1,hlen]) fun j v u h1 h2=>?_;rw[Array.getElem?_toList]at h2;obtain ⟨k,x,e1,e2⟩:=hacc.2 j u h2;have e3:(xs.map (·.1))[j]? = some k:=by rw[List.getElem?_map,e1];rfl
  rw[Zil hkv,List.getElem?_map]at e3;obtain ⟨p,e4,e5⟩:=Option.map_eq_some_iff.mp e3;rw[List.getElem?_map,e4]at h1;have h1:kV p.1=v:=Option.some.inj h1;rw[<-h1,e5];exact Zim e2
 exact ⟨.ref s.heap.objs.size,_,I.laid (t':=tk) kp (Nat.le_refl _) (show Qbj X.prog X.w _ h' _ (.lst _) from ⟨by rw[List.length_map];exact hz,acc.toList,c',hv,by simpa using hD⟩),rfl,q _ (I.hok.fresh (Nat.le_refl _))⟩
def Zr6 (K:FG):V->List V->Hp->VK->Prop:=fun x vs H Q=>∃ l b xs zs,x = .ref l/\vs=[.ref b]/\H l=some (.lst xs)/\SqT K H b zs/\xs.length+zs.length<=sizeLine/\Q .non (upd H l (.lst (xs++zs)))
theorem Zdt {X:Cx}:MtM X "list.extend" (Zr6 X.K):=by
 intro pins s σ H x vs v us Q I rx rv ⟨l,b,xs,zs,ex,ev,hH,hB,hz,q⟩;subst ex ev;cases rx;obtain ⟨u,rfl,ru⟩:=rv.one;cases ru;obtain ⟨z,its,n,r,hl,e⟩:=I.Zqi hH;obtain ⟨its2,r2,⟨o2,e2,c2,n2,d2⟩,z2⟩:=I.tuple hB;have hl2:=r2.length;have hsz:its.toArray.size+its2.toArray.size<=sizeLine:=by rw[List.size_toArray,List.size_toArray];omega
 refine wpAny_call_entry F.slot_list_extend ⟨_,e,rfl⟩ F.entry_list_extend ?_ (F.args_list_extend_2 _ _);show wpAny _ _ (Builtin.List.listExtendWith (.ref l) (.ref b) .none) _ _ s;unfold Builtin.List.listExtendWith;refine wpAny_bind (wpAny_typeOf ⟨o2,e2,c2⟩ ?_);have h1:(Builtin.List.listSameRef (.ref l) (.ref b)||Value.type "tuple" == Value.type "list" || Value.type "tuple" == Value.type "tuple")=true:=by simp
 simp only[h1,if_true];refine wpAny_bind ?_;unfold Builtin.List.listItems;refine wpAny_bind (wpAny_seqItems e2 d2 (wpAny_pure ?_));refine wpAny_bind ?_;refine wpAny_bind (wpAny_seqItems e rfl (wpAny_pure ?_));have Zn6:(!its.toArray.isEmpty&&Builtin.List.listTooLong (its.toArray.size+its2.toArray.size))=false:=by rw[Za5 hsz,Bool.and_false]
 simp only[Zn6,if_neg Bool.false_ne_true];show wpAny _ _ (updateSeq l (· ++ its2.toArray) >>= fun _=>ret .none) _ _ s;refine wpAny_bind (wpAny_updateSeq e rfl ?_);refine wpAny_pure ⟨.none,rfl,.non,_,I.Ztn (its':=its++its2) hH e (by simp) (r.append r2) ?_,rfl,q⟩;rw[List.length_append];omega
def FnV (X:Cx) (k:Nat) (f:Addr) (sp:Sp):Prop:=∃ fd ps,PySem.W.keepIn X.K (.ref f)=true/\Binds X.K fd ps []/\Qmo X.prog X.w X.K X.mg X.base CX0 k f fd ps sp
def Zr7 (G:Addr->Sp->Prop) (tf:TE) (t:TA):TE:=fun σ H Q=>tf σ H fun x H1=>∃ f sp,x = .ref f/\G f sp/\t σ H1 fun vs H2=>sp vs H2 Q E0
theorem Zbx {X:Cx} {k:Nat} {o i e:Expr} {es:List Expr} {spos pos:Pos} {tf:TE} {t:TA} (hf:PE X (.Subscript o i spos) tf) (hr:Qeu k X.A) (ha:PA X (e::es) t)
  (he:starEach (e::es) X.env=(false,eval e X.env)::starEach es X.env:=by rfl) (hpl:(backTo pos (starEach es X.env)).any (·.1)=false:=by rfl) :
  PE X (.Call (.Subscript o i spos) (e::es) [] pos) (Zr7 (FnV X k) tf t):=by
 intro pins s σ H Q I h;show wpAny _ _ (eval (.Subscript o i spos) X.env >>= fun f=>callWith pos f [] (backTo pos (starEach (e::es) X.env)) (backToKw pos (keywordEach [] X.env))) _ _ s;refine wpAny_bind (thn (hf pins s σ H _ I h) fun u s1 ⟨x,H1,I1,rx,f,sp,ex,⟨fd,ps,hk,hb,F⟩,q⟩=>?_);subst ex;obtain rfl:u=Value.ref f:=rx;refine PySem.W.callWith_K (h₀:=X.base) I1.ok.mod.kin hk (thn (ha pos pins s1 σ H1 _ I1 q) fun us s2 ⟨vs,H2,I2,r,q2⟩=>⟨I2.kIn,?_⟩) he hpl;exact Ze9 (dvs:=[]) (E:=E0) F hr hb .nil Zfu I2 r (by rw[List.append_nil];exact q2)
end
section
abbrev Tri:=Int × Int × Int
abbrev Zby:=Int × Int × Int × Int
def Qdr (m:List (Int × Int)) (k:Int):Int:=((m.find? fun p=>decide (p.1=k)).map (·.2)).getD 0
def Qod (m:List (Int × Int)) (k v:Int):List (Int × Int):=if (m.any fun p=>decide (p.1=k))=true then m.map (fun p=>if p.1=k then (p.1,v) else p) else m++[(k,v)]
def Qp8 (reel:Int) (m:List (Int × Int)) (r:Zby):List (Int × Int):=
 if r.2.1=reel then Qod (Qod m r.2.2.1 (Qdr m r.2.2.1+1)) (r.2.2.2+1) (Qdr (Qod m r.2.2.1 (Qdr m r.2.2.1+1)) (r.2.2.2+1) - 1) else m
def chg (reel:Int) (runs:List Zby):List (Int × Int):=runs.foldl (Qp8 reel) []
def Qeh (l:List Int):List Int:=l.mergeSort fun a b=>decide (a<=b)
theorem Zl1 {l ms:List Int} (h1:ms.Perm l) (h2:ms.Pairwise (· <= ·)):ms=Qeh l:=by
 have p:(Qeh l).Perm l:=List.mergeSort_perm _ _;have s:(Qeh l).Pairwise (fun a b=>decide (a<=b)=true):=List.pairwise_mergeSort (le:=fun a b=>decide (a<=b)) (fun a b c h1 h2=>by simp only[decide_eq_true_eq]at *;omega) (fun a b=>by simp only[Bool.or_eq_true,decide_eq_true_eq];omega) l;have s':(Qeh l).Pairwise (· <= ·):=s.imp fun h=>by simpa using h
 exact (h1.trans p.symm).eq_of_pairwise (le:=(· <= ·)) (fun a b _ _ h1 h2=>by omega) h2 s'
def Qbg (m:List (Int × Int)):List Int->Int->Int->List Tri × Int × Int
 | [],first,times=>([],first,times)
 | f::fs,first,times=>if first < f then ((first,f - 1,times)::(Qbg m fs f (times+Qdr m f)).1,(Qbg m fs f (times+Qdr m f)).2) else Qbg m fs first (times+Qdr m f)
def Zql (x:List Tri × Int × Int) (last:Int):List Tri:=x.1++if x.2.1<=last then [(x.2.1,last,x.2.2)] else []
def Zj2 (runs:List Zby) (reel last:Int):List Tri:=Zql (Qbg (chg reel runs) (Qeh ((chg reel runs).map (·.1))) 0 0) last
def Qaf (reel Zi:Int) (acc:List Tri) (p:Tri):List Tri:=
 if (if 2 < p.2.2 then 2 else p.2.2)=Zi then (match acc.getLast? with
  | some s=>if s.2.2=p.1 - 1 then acc.set (acc.length - 1) (reel,s.2.1,p.2.1) else acc++[(reel,p.1,p.2.1)]
  | none=>acc++[(reel,p.1,p.2.1)]) else acc
def Qwa (runs:List Zby) (reel last Zi:Int):List Tri:=(Zj2 runs reel last).foldl (Qaf reel Zi) []
def S (m:List (Int × Int)) (k:Int):Int:=(m.map fun p=>if p.1<=k then p.2 else 0).sum
theorem Qj2 (p:Int × Int) (m:List (Int × Int)) (k:Int):Qdr (p::m) k=if p.1=k then p.2 else Qdr m k:=by
 unfold Qdr;rw[List.find?_cons];by_cases h:p.1=k
 .simp[h]
 .simp[h]
theorem Zl2 {m:List (Int × Int)} {k:Int} (h:∀ p ∈ m,p.1 ≠ k):Qdr m k=0:=by unfold Qdr;rw[List.find?_eq_none.mpr (fun p hp=>by simp[h p hp])];rfl
theorem Qwb (m:List (Int × Int)) (k v:Int):(Qod m k v).map (·.1)=if (m.any fun p=>decide (p.1=k))=true then m.map (·.1) else m.map (·.1)++[k]:=by
 unfold Qod;split
 .rw[List.map_map];apply List.map_congr_left;intro p _;show (if p.1=k then (p.1,v) else p).1=p.1;split <;> rfl
 .simp
theorem Zbz {m:List (Int × Int)} {k v x:Int} (h:x ∈ (Qod m k v).map (·.1)):x ∈ m.map (·.1)\/x=k:=by
 rw[Qwb]at h;split at h
 .exact .inl h
 .rcases List.mem_append.mp h with z | z
  .exact .inl z
  .exact .inr (by simpa using z)
theorem Zio {m:List (Int × Int)} {k v:Int} (h:(m.map (·.1)).Nodup):((Qod m k v).map (·.1)).Nodup:=by
 rw[Qwb];split
 .exact h
 .rename_i hn;refine List.nodup_append.mpr ⟨h,by simp,fun a ha b hb e=>hn ?_⟩;have hb:b=k:=by simpa using hb
  subst hb;subst e;obtain ⟨p,hp,e⟩:=List.mem_map.mp ha;exact List.any_eq_true.mpr ⟨p,hp,by simpa using e⟩
theorem Qj3 (m:List (Int × Int)) (k v:Int):(Qod m k v).length<=m.length+1:=by unfold Qod;split <;> simp
theorem Qz5 {m:List (Int × Int)} {k v:Int} (h:∀ p ∈ m,p.1 ≠ k):m.map (fun p=>if p.1=k then (p.1,v) else p)=m:=by
 conv=>rhs;rw[<-List.map_id m]
 apply List.map_congr_left;intro p hp;rw[if_neg (h p hp)];rfl
theorem Zr8 {m:List (Int × Int)} (nd:(m.map (·.1)).Nodup) (key d k:Int):S (Qod m key (Qdr m key+d)) k=S m k+if key<=k then d else 0:=by
 by_cases ha:(m.any fun p=>decide (p.1=key))=true
 .have e:Qod m key (Qdr m key+d)=m.map (fun p=>if p.1=key then (p.1,Qdr m key+d) else p):=by unfold Qod;rw[if_pos ha]
  rw[e];clear e
  induction m with
  | nil=>simp at ha
  | cons p r ih =>
   have ndr:=(List.nodup_cons.mp (by simpa using nd:(p.1::r.map (·.1)).Nodup))
   by_cases hp:p.1=key
   .have hr:∀ q ∈ r,q.1 ≠ key:=fun q hq e=>ndr.1 (List.mem_map.mpr ⟨q,hq,by rw[e,hp]⟩);rw[List.map_cons,Qz5 hr,if_pos hp,Qj2,if_pos hp];unfold S;simp only[List.map_cons,List.sum_cons];rw[hp];split <;> omega
   .have ha':(r.any fun p=>decide (p.1=key))=true:=by simpa [hp] using ha
    have ih:=ih ndr.2 ha';rw[List.map_cons,if_neg hp,Qj2,if_neg hp];unfold S at ih ⊢;simp only[List.map_cons,List.sum_cons]at ih ⊢;rw[ih];omega
 .have hn:∀ p ∈ m,p.1 ≠ key:=fun p hp e=>ha (List.any_eq_true.mpr ⟨p,hp,by simpa using e⟩);unfold Qod;rw[if_neg ha,Zl2 hn];unfold S;rw[List.map_append,List.sum_append];simp
def TS (reel:Int) (runs:List Zby) (k:Int):Int:=(runs.map fun r=>if r.2.1=reel/\r.2.2.1<=k/\k<=r.2.2.2 then (1:Int) else 0).sum
structure Zr9 (reel:Int) (runs:List Zby) (m:List (Int × Int)):Prop where
 nd:(m.map (·.1)).Nodup
 sum:∀ k,S m k=TS reel runs k
 key:∀ x ∈ m.map (·.1),∃ r ∈ runs,r.2.1=reel/\(x=r.2.2.1\/x=r.2.2.2+1)
 len:m.length<=2*runs.length
theorem Zsa {reel:Int} {runs:List Zby} {m:List (Int × Int)} (I:Zr9 reel runs m) (r:Zby) (hr:r.2.2.1<=r.2.2.2):Zr9 reel (runs++[r]) (Qp8 reel m r):=by
 have ts:∀ k,TS reel (runs++[r]) k=TS reel runs k+if r.2.1=reel/\r.2.2.1<=k/\k<=r.2.2.2 then (1:Int) else 0:=fun k=>by
  unfold TS;rw[List.map_append,List.sum_append];simp
 unfold Qp8;by_cases h:r.2.1=reel
 .rw[if_pos h];have nd1:=Zio (k:=r.2.2.1) (v:=Qdr m r.2.2.1+1) I.nd;refine ⟨Zio nd1,fun k=>?_,fun x hx=>?_,?_⟩
  .have e:=Zr8 nd1 (r.2.2.2+1) (-1) k;rw[show Qdr (Qod m r.2.2.1 (Qdr m r.2.2.1+1)) (r.2.2.2+1) + -1=Qdr (Qod m r.2.2.1 (Qdr m r.2.2.1+1)) (r.2.2.2+1) - 1 by omega]at e;rw[e,Zr8 I.nd,I.sum,ts];by_cases c1:r.2.2.1<=k
   .by_cases c2:k<=r.2.2.2
    .rw[if_pos c1,if_neg (by omega),if_pos ⟨h,c1,c2⟩];omega
    .rw[if_pos c1,if_pos (by omega),if_neg (fun z=>c2 z.2.2)];omega
   .rw[if_neg c1,if_neg (by omega),if_neg (fun z=>c1 z.2.1)];omega
  .rcases Zbz hx with z | z
   .rcases Zbz z with z | z
    .obtain ⟨q,hq,e⟩:=I.key x z;exact ⟨q,List.mem_append.mpr (.inl hq),e⟩
    .exact ⟨r,by simp,h,.inl z⟩
   .exact ⟨r,by simp,h,.inr z⟩
  .have h1:=Qj3 m r.2.2.1 (Qdr m r.2.2.1+1);have h2:=Qj3 (Qod m r.2.2.1 (Qdr m r.2.2.1+1)) (r.2.2.2+1) (Qdr (Qod m r.2.2.1 (Qdr m r.2.2.1+1)) (r.2.2.2+1) - 1);have h3:=I.len;rw[List.length_append];simp only[List.length_singleton];omega
 .rw[if_neg h];refine ⟨I.nd,fun k=>?_,fun x hx=>?_,?_⟩
  .rw[I.sum,ts,if_neg (fun z=>h z.1)];omega
  .obtain ⟨q,hq,e⟩:=I.key x hx;exact ⟨q,List.mem_append.mpr (.inl hq),e⟩
  .have h3:=I.len;rw[List.length_append];simp only[List.length_singleton];omega
theorem Zsb (reel:Int):∀ (rs runs:List Zby) (m:List (Int × Int)),(∀ r ∈ rs,r.2.2.1<=r.2.2.2)->Zr9 reel runs m->Zr9 reel (runs++rs) (rs.foldl (Qp8 reel) m)
 | [],runs,m,_,I=>by simpa using I
 | r::rs,runs,m,h,I=>by
  have:=Zsb reel rs (runs++[r]) (Qp8 reel m r) (fun q hq=>h q (List.mem_cons_of_mem _ hq)) (Zsa I r (h r (List.mem_cons_self)))
  simpa using this
theorem Zp1 {reel:Int} {runs:List Zby} (h:∀ r ∈ runs,r.2.2.1<=r.2.2.2):Zr9 reel runs (chg reel runs):=by
 have:=Zsb reel runs [] [] h ⟨by simp,fun k=>rfl,fun x hx=>by simp at hx,by simp⟩
 rw[List.nil_append]at this;exact this
def sumTo (m:List (Int × Int)) (fs:List Int) (k:Int):Int:=(fs.map fun f=>if f<=k then Qdr m f else 0).sum
theorem Zl3 {l l':List Int} (h:l.Perm l'):l.sum=l'.sum:=by
 induction h with
 | nil=>rfl
 | cons x _ ih=>simp[ih]
 | swap x y l=>simp only[List.sum_cons];omega
 | trans _ _ h1 h2=>rw[h1,h2]
theorem Zip:∀ (m:List (Int × Int)) (k:Int),(m.map (·.1)).Nodup->sumTo m (m.map (·.1)) k=S m k
 | [],k,_=>rfl
 | p::r,k,nd=>by
  have ndr:=(List.nodup_cons.mp (by simpa using nd:(p.1::r.map (·.1)).Nodup))
  have ih:=Zip r k ndr.2;unfold sumTo S at ih ⊢;simp only[List.map_cons,List.sum_cons];rw[Qj2,if_pos rfl,<-ih]
  congr 2
  apply List.map_congr_left;intro f hf;show (if f<=k then Qdr (p::r) f else 0)=if f<=k then Qdr r f else 0
  have hne:¬ p.1=f:=fun e=>ndr.1 (by rw[e];exact hf);rw[Qj2 p r f,if_neg hne]
theorem Zdu (m:List (Int × Int)) (k:Int) (nd:(m.map (·.1)).Nodup):sumTo m (Qeh (m.map (·.1))) k=S m k:=by rw[<-Zip m k nd];unfold sumTo;exact Zl3 ((List.mergeSort_perm _ _).map _)
def Pcs (f:Int->Int):Int->List Tri->Int->Prop
 | k,[],e=>k=e
 | k,p::ps,e=>p.1=k/\p.1<=p.2.1/\(∀ j,p.1<=j->j<=p.2.1->f j=p.2.2)/\Pcs f (p.2.1+1) ps e
theorem Pcs.snoc {f:Int->Int}:∀ {k:Int} {ps:List Tri} {e:Int} {q:Tri},Pcs f k ps e->q.1=e->q.1<=q.2.1->(∀ j,q.1<=j->j<=q.2.1->f j=q.2.2)->Pcs f k (ps++[q]) (q.2.1+1)
 | k,[],e,q,h,h1,h2,h3=>⟨by rw[h1];exact h.symm,h2,h3,rfl⟩
 | k,p::ps,e,q,h,h1,h2,h3=>⟨h.1,h.2.1,h.2.2.1,Pcs.snoc h.2.2.2 h1 h2 h3⟩
theorem Qz6 (f:Int->Int) (m:List (Int × Int)):∀ (fs:List Int) (first times:Int),fs.Pairwise (· < ·)->(∀ x ∈ fs,first<=x)->(∀ k,first<=k->f k=times+sumTo m fs k) ->
  Pcs f first (Qbg m fs first times).1 (Qbg m fs first times).2.1/\(∀ k,(Qbg m fs first times).2.1<=k->f k=(Qbg m fs first times).2.2)/\((Qbg m fs first times).2.1=first\/(Qbg m fs first times).2.1 ∈ fs)
 | [],first,times,_,_,h=>⟨rfl,fun k hk=>by rw[h k hk];unfold sumTo Qbg;simp,.inl rfl⟩
 | x::fs,first,times,hp,hge,h=>by
  have hp':=List.pairwise_cons.mp hp;have hx:=hge x (List.mem_cons_self);have key:∀ k,x<=k->f k=times+Qdr m x+sumTo m fs k:=fun k hk=>by
   rw[h k (by omega)];unfold sumTo;rw[List.map_cons,List.sum_cons,if_pos hk];omega
  rw[Qbg];by_cases hlt:first < x
  .rw[if_pos hlt];obtain ⟨i1,i2,i3⟩:=Qz6 f m fs x (times+Qdr m x) hp'.2 (fun y hy=>Int.le_of_lt (hp'.1 y hy)) key;refine ⟨⟨rfl,by show first<=x - 1;omega,fun j h1 h2=>?_,by show Pcs f (x - 1+1) _ _;rw[show x - 1+1=x by omega];exact i1⟩,i2,?_⟩
   .have h1:first<=j:=h1
    have h2:j<=x - 1:=h2;show f j=times;rw[h j h1];have e0:sumTo m (x::fs) j=0:=by
     unfold sumTo;have ez:((x::fs).map fun f=>if f<=j then Qdr m f else 0)=(x::fs).map fun _=>(0:Int):=by
      apply List.map_congr_left;intro y hy
      have:x<=y:=by
       rcases List.mem_cons.mp hy with z | z
       .omega
       .exact Int.le_of_lt (hp'.1 y z)
      rw[if_neg (by omega)]
     rw[ez];generalize x::fs=l
     induction l with
     | nil=>rfl
     | cons a r ih=>simp only[List.map_cons,List.sum_cons,ih];rfl
    omega
   .rcases i3 with z | z
    .exact .inr (by show (Qbg m fs x _).2.1 ∈ _;rw[z];exact List.mem_cons_self)
    .exact .inr (List.mem_cons_of_mem _ z)
  .rw[if_neg hlt];have ex:x=first:=by omega
   subst ex;obtain ⟨i1,i2,i3⟩:=Qz6 f m fs x (times+Qdr m x) hp'.2 (fun y hy=>Int.le_of_lt (hp'.1 y hy)) key;refine ⟨i1,i2,?_⟩;rcases i3 with z | z
   .exact .inl z
   .exact .inr (List.mem_cons_of_mem _ z)
theorem Qz7 {l:List Int} (nd:l.Nodup):(Qeh l).Pairwise (· < ·):=by
 have p:(Qeh l).Perm l:=List.mergeSort_perm _ _;have s:(Qeh l).Pairwise (fun a b=>decide (a<=b)=true):=List.pairwise_mergeSort (le:=fun a b=>decide (a<=b)) (fun a b c h1 h2=>by simp only[decide_eq_true_eq]at *;omega) (fun a b=>by simp only[Bool.or_eq_true,decide_eq_true_eq];omega) l;have nd':(Qeh l).Nodup:=(p.nodup_iff).mpr nd;refine List.Pairwise.imp₂ (fun a b h1 h2=>?_) s nd';have h1:a<=b:=by simpa using h1
 have h2:a ≠ b:=h2;omega
theorem Zp2 {runs:List Zby} {reel last:Int} (h:∀ r ∈ runs,r.2.2.1<=r.2.2.2) (h0:∀ r ∈ runs,r.2.1=reel->0<=r.2.2.1/\r.2.2.2<=last) (hl:0<=last):Pcs (TS reel runs) 0 (Zj2 runs reel last) (last+1):=by
 have I:=Zp1 (reel:=reel) h;have hk:∀ x ∈ Qeh ((chg reel runs).map (·.1)),0<=x/\x<=last+1:=fun x hx=>by
  obtain ⟨r,hr,e,z⟩:=I.key x ((List.mergeSort_perm _ _).mem_iff.mp hx);have q:=h0 r hr e
  have:=h r hr
  rcases z with z | z <;> omega
 obtain ⟨i1,i2,i3⟩:=Qz6 (TS reel runs) (chg reel runs) (Qeh ((chg reel runs).map (·.1))) 0 0 (Qz7 I.nd) (fun x hx=>(hk x hx).1) (fun k _=>by rw[Zdu _ _ I.nd,I.sum];omega);have hle:(Qbg (chg reel runs) (Qeh ((chg reel runs).map (·.1))) 0 0).2.1<=last+1:=by
  rcases i3 with z | z
  .omega
  .exact (hk _ z).2
 unfold Zj2 Zql;by_cases hc:(Qbg (chg reel runs) (Qeh ((chg reel runs).map (·.1))) 0 0).2.1<=last
 .rw[if_pos hc];exact Pcs.snoc i1 rfl hc fun j h1 _=>i2 j h1
 .rw[if_neg hc,List.append_nil];have e:(Qbg (chg reel runs) (Qeh ((chg reel runs).map (·.1))) 0 0).2.1=last+1:=by omega
  rw[e]at i1;exact i1
theorem Qj4 (m:List (Int × Int)):∀ (fs:List Int) (a b:Int),(Qbg m fs a b).1.length<=fs.length
 | [],a,b=>by simp[Qbg]
 | x::fs,a,b=>by
  rw[Qbg];split
  .have:=Qj4 m fs x (b+Qdr m x)
   simp only[List.length_cons];omega
  .have:=Qj4 m fs a (b+Qdr m x)
   simp only[List.length_cons];omega
def Ziq (z:Int):Int:=if 2 < z then 2 else z
def opn (reel:Int) (o:Option Nat) (k:Nat):List Tri:=match o with
 | some a=>[(reel,(a:Int),(k:Int) - 1)]
 | none=>[]
def clo (o:Option Nat) (k:Nat):List (Nat × Nat):=match o with
 | some a=>[(a,k - 1)]
 | none=>[]
theorem Qwc (f:Nat->Bool):∀ (n rest k:Nat) (o:Option Nat),(∀ j,k<=j->j < k+n->f j=true)->1<=n->Vbfaal.runsOf f (n+rest) k o=Vbfaal.runsOf f rest (k+n) (some (o.getD k))
 | 0,_,_,_,_,h=>absurd h (by omega)
 | n+1,rest,k,o,hf,_=>by
  have e:n+1+rest=(n+rest)+1:=by omega
  have h1:Vbfaal.runsOf f (n+1+rest) k o=Vbfaal.runsOf f (n+rest) (k+1) (some (o.getD k)):=by have hk:=hf k (Nat.le_refl _) (by omega);rw[e];cases o <;> simp[Vbfaal.runsOf,hk]
  rw[h1];by_cases hn:n=0
  .subst hn;rw[Nat.zero_add]
  .rw[Qwc f n rest (k+1) (some (o.getD k)) (fun j h1 h2=>hf j (by omega) (by omega)) (by omega)];rw[show k+1+n=k+(n+1) by omega];rfl
theorem Qrb (f:Nat->Bool):∀ (n rest k:Nat) (o:Option Nat),(∀ j,k<=j->j < k+n->f j=false)->1<=n->Vbfaal.runsOf f (n+rest) k o=clo o k++Vbfaal.runsOf f rest (k+n) none
 | 0,_,_,_,_,h=>absurd h (by omega)
 | n+1,rest,k,o,hf,_=>by
  have e:n+1+rest=(n+rest)+1:=by omega
  have h1:Vbfaal.runsOf f (n+1+rest) k o=clo o k++Vbfaal.runsOf f (n+rest) (k+1) none:=by have hk:=hf k (Nat.le_refl _) (by omega);rw[e];cases o <;> simp[Vbfaal.runsOf,hk,clo]
  rw[h1];by_cases hn:n=0
  .subst hn;rw[Nat.zero_add]
  .rw[Qrb f n rest (k+1) none (fun j h1 h2=>hf j (by omega) (by omega)) (by omega)];rw[show k+1+n=k+(n+1) by omega];rfl
theorem Pcs.le {f:Int->Int}:∀ {k:Int} {ps:List Tri} {e:Int},Pcs f k ps e->k<=e
 | k,[],e,h=>by have h:k=e:=h;omega
 | k,p::ps,e,h=>by
  have h1:=Pcs.le h.2.2.2;have h2:=h.1;have h3:=h.2.1;omega
theorem Zir {α:Type} (l:List α) (a b:α):(l++[a]).set ((l++[a]).length - 1) b=l++[b]:=by rw[List.length_append];simp
theorem Qk5 (reel Zi:Int) (T:Int->Int):∀ (ps:List Tri) (k n:Nat) (closed:List Tri) (o:Option Nat),Pcs T (k:Int) ps ((k+n:Nat):Int)->(∀ s ∈ closed,s.2.2 < (k:Int) - 1)->(o ≠ none->1<=k) ->
  ps.foldl (Qaf reel Zi) (closed++opn reel o k)=closed++(Vbfaal.runsOf (fun j=>decide (Ziq (T (j:Int))=Zi)) n k o).map fun x=>(reel,(x.1:Int),(x.2:Int))
 | [],k,n,closed,o,h,hc,ho=>by
  have h:(k:Int)=((k+n:Nat):Int):=h;have hn:n=0:=by omega
  subst hn;rw[List.foldl_nil]
  congr 1
  cases o with
  | none=>rfl
  | some a =>
   have h1:=ho (by simp);show [(reel,(a:Int),(k:Int) - 1)]=[(reel,(a:Int),((k - 1:Nat):Int))]
   rw[show ((k - 1:Nat):Int)=(k:Int) - 1 by omega]
 | p::ps,k,n,closed,o,h,hc,ho=>by
  obtain ⟨h1,h2,h3,h4⟩:=h;have hle:=Pcs.le h4;obtain ⟨b,hb⟩:∃ b:Nat,p.2.1=b:=⟨p.2.1.toNat,by omega⟩
  rw[hb]at h2 h3 h4 hle;have eb:((b:Int)+1)=((b+1:Nat):Int):=by omega
  obtain ⟨n1,hn1⟩:∃ n1:Nat,b+1=k+n1:=⟨b+1 - k,by omega⟩
  obtain ⟨rest,hrest⟩:∃ rest:Nat,n=n1+rest:=⟨n - n1,by omega⟩
  subst hrest;rw[eb,hn1,show k+(n1+rest)=(k+n1)+rest by omega]at h4;have hn:1<=n1:=by omega
  rw[List.foldl_cons];by_cases hp:Ziq p.2.2=Zi
  .have hf:∀ j,k<=j->j < k+n1->(fun j:Nat=>decide (Ziq (T (j:Int))=Zi)) j=true:=fun j q1 q2=>by
    show decide (Ziq (T (j:Int))=Zi)=true;rw[h3 (j:Int) (by omega) (by omega)];exact decide_eq_true hp
   rw[Qwc _ n1 rest k o hf hn];have es:Qaf reel Zi (closed++opn reel o k) p=closed++opn reel (some (o.getD k)) (k+n1):=by
    unfold Qaf;rw[if_pos (show (if 2 < p.2.2 then 2 else p.2.2)=Zi from hp)];have e9:p.2.1=((k+n1:Nat):Int) - 1:=by omega
    cases o with
    | some a =>
     have eg:(closed++opn reel (some a) k).getLast? = some (reel,(a:Int),(k:Int) - 1):=by show (closed++[(reel,(a:Int),(k:Int) - 1)]).getLast? = _;rw[List.getLast?_concat]
     rw[eg];simp only;rw[if_pos (by rw[h1])];show (closed++[(reel,(a:Int),(k:Int) - 1)]).set ((closed++[(reel,(a:Int),(k:Int) - 1)]).length - 1) _=_;rw[Zir,e9];rfl
    | none =>
     have e7:closed++opn reel none k=closed:=List.append_nil _;rw[e7];have e8:closed++[(reel,p.1,p.2.1)]=closed++opn reel (some ((none:Option Nat).getD k)) (k+n1):=by rw[h1,e9];rfl
     cases eg:closed.getLast? with
     | none=>exact e8
     | some s =>
      simp only
      have:=hc s (List.mem_of_getLast? eg)
      rw[if_neg (by omega)];exact e8
   rw[es];exact Qk5 reel Zi T ps (k+n1) rest closed (some (o.getD k)) h4 (fun s hs=>by have:=hc s hs;omega) (fun _=>by omega)
  .have hf:∀ j,k<=j->j < k+n1->(fun j:Nat=>decide (Ziq (T (j:Int))=Zi)) j=false:=fun j q1 q2=>by
    show decide (Ziq (T (j:Int))=Zi)=false;rw[h3 (j:Int) (by omega) (by omega)];exact decide_eq_false hp
   rw[Qrb _ n1 rest k o hf hn];have es:Qaf reel Zi (closed++opn reel o k) p=(closed++opn reel o k)++opn reel none (k+n1):=by
    unfold Qaf;rw[if_neg (show ¬ (if 2 < p.2.2 then 2 else p.2.2)=Zi from hp)];show _=(closed++opn reel o k)++[]
    rw[List.append_nil]
   have eo:opn reel o k=(clo o k).map fun x=>(reel,(x.1:Int),(x.2:Int)):=by
    cases o with
    | none=>rfl
    | some a =>
     have q:=ho (by simp);show [(reel,(a:Int),(k:Int) - 1)]=[(reel,(a:Int),((k - 1:Nat):Int))]
     rw[show ((k - 1:Nat):Int)=(k:Int) - 1 by omega]
   rw[es,Qk5 reel Zi T ps (k+n1) rest (closed++opn reel o k) none h4 (fun s hs=>?_) (fun z=>absurd rfl z),List.map_append,List.append_assoc,eo];rcases List.mem_append.mp hs with z | z
   .have:=hc s z;omega
   .cases o with
    | none=>cases z
    | some a =>
     have z:s=(reel,(a:Int),(k:Int) - 1):=by simpa [opn] using z
     rw[z];show (k:Int) - 1 < _;omega
theorem Zl4 {runs:List Zby} {reel Zi:Int} {last:Nat} (h:∀ r ∈ runs,r.2.2.1<=r.2.2.2) (h0:∀ r ∈ runs,r.2.1=reel->0<=r.2.2.1/\r.2.2.2<=(last:Int)) :
  Qwa runs reel (last:Int) Zi=(Vbfaal.runsOf (fun j=>decide (Ziq (TS reel runs (j:Int))=Zi)) (last+1) 0 none).map fun x=>(reel,(x.1:Int),(x.2:Int)):=by
 have p:=Zp2 (reel:=reel) h h0 (by omega)
 have:=Qk5 reel Zi (TS reel runs) (Zj2 runs reel (last:Int)) 0 (last+1) [] none (by rw[show ((0+(last+1):Nat):Int)=(last:Int)+1 by omega];exact p) (fun s hs=>by cases hs) (fun z=>absurd rfl z)
 have e:([]:List Tri)++opn reel none 0=[]:=rfl;rw[e,List.nil_append]at this;exact this
theorem Zdv (reel Zi:Int) (acc:List Tri) (p:Tri):(Qaf reel Zi acc p).length<=acc.length+1:=by
 unfold Qaf
 repeat' split
 all_goals simp
theorem Qwd:∀ (reel Zi:Int) (ps acc:List Tri),(ps.foldl (Qaf reel Zi) acc).length<=acc.length+ps.length
 | _,_,[],acc=>by simp
 | reel,Zi,p::ps,acc=>by
  rw[List.foldl_cons];have h1:=Qwd reel Zi ps (Qaf reel Zi acc p);have h2:=Zdv reel Zi acc p;simp only[List.length_cons];omega
section
open Vbfaal (Sheet Reel Line)
structure GR (up:Nat) (r:Reel):Prop where
 name:r.name<=99
 f1:1<=r.frames
 f2:r.frames<=2000
 mo:r.motor<=2000
 ch:r.change<=2000
 cue:r.last=false->r.motor < r.change/\r.change < r.frames/\up<=r.change - r.motor
structure GS (h:Sheet):Prop where
 up:h.up<=96
 st:h.strike<=96
 dn:h.down<=96
 ld:h.leader<=96
 six:h.reels.length<=6
 rl:∀ r ∈ h.reels,GR h.up r
 nl:∀ i,i+1 < h.reels.length->(Vbfaal.reelAt h i).last=false
structure GT (h:Sheet) (n:Nat):Prop where
 gs:GS h
 r4:h.reels=[]\/4<=n
def Znd:Line->Prop
 | .setting k v=>k < 4/\v<=96
 | .reel r=>r.name<=99/\1<=r.frames/\r.frames<=2000/\r.motor<=2000/\r.change<=2000
theorem Qbu {lo hi n:Nat}:Vbfaal.inside lo hi n=true ↔ lo<=n/\n<=hi:=by unfold Vbfaal.inside;simp
theorem Qwe {k:List Nat} {i:Nat} (h:Vbfaal.settingOf k=some i):i < 4:=by unfold Vbfaal.settingOf at h;obtain ⟨h1,_⟩:=List.findIdx?_eq_some_iff_getElem.mp h;simpa using h1
theorem Zis {ws:List (List Nat)} {x:Line} (h:Vbfaal.lineOf ws = .ok x):Znd x:=by
 unfold Vbfaal.lineOf at h;split at h
 .split at h
  .rename_i k a i n h1 h2;split at h
   .rename_i hc;cases h;have hi:=Qwe h1;refine ⟨hi,?_⟩
    have:=(Qbu.mp hc).2
    match i,hi with
    | 0,_=>have this:n<=48:=this;omega
    | 1,_=>have this:n<=48:=this;omega
    | 2,_=>have this:n<=48:=this;omega
    | 3,_=>have this:n<=96:=this;omega
   .cases h
  .cases h
 .split at h
  .split at h
   .split at h
    .rename_i hc;cases h;rw[Bool.and_eq_true,Qbu,Qbu]at hc;exact ⟨hc.1.2,hc.2.1,hc.2.2,Nat.zero_le _,Nat.zero_le _⟩
    .cases h
   .cases h
  .cases h
 .split at h
  .split at h
   .split at h
    .rename_i hc;cases h;rw[Bool.and_eq_true,Bool.and_eq_true,Bool.and_eq_true,Qbu,Qbu,Qbu,Qbu]at hc;exact ⟨hc.1.2,hc.2.1.1,hc.2.1.2,hc.2.2.1.2,hc.2.2.2.2⟩
    .cases h
   .cases h
  .cases h
 .cases h
theorem Qz8 {s:Sheet} {n:Nat} {x:Line} {y:Sheet × Nat} (G:GT s n) (hx:Znd x) (h:Vbfaal.takeLine s n x = .ok y):GT y.1 y.2:=by
 unfold Vbfaal.takeLine at h;cases x with
 | setting k v =>
  simp only at h;split at h
  .cases h
  .rename_i hk;have hk:k=n:=by omega
   have hx:k < 4/\v<=96:=hx;have h0:s.reels=[]:=G.r4.elim id (fun z=>by omega);have g:=G.gs;have nr:∀ (u:Nat),∀ r ∈ s.reels,GR u r:=fun u r hr=>by rw[h0]at hr;cases hr
   have nn:∀ (u:Sheet),u.reels=s.reels->∀ i,i+1 < u.reels.length->(Vbfaal.reelAt u i).last=false:=fun u eu i hi=>by rw[eu,h0]at hi;simp at hi
   have e:=Except.ok.inj h;have key:GS (if k=0 then { s with up:=v } else if k=1 then { s with strike:=v } else if k=2 then { s with down:=v } else { s with leader:=v })/\(if k=0 then { s with up:=v } else if k=1 then { s with strike:=v } else if k=2 then { s with down:=v } else { s with leader:=v }:Sheet).reels=s.reels:=by
    split
    .exact ⟨⟨hx.2,g.st,g.dn,g.ld,g.six,nr v,nn _ rfl⟩,rfl⟩
    .split
     .exact ⟨⟨g.up,hx.2,g.dn,g.ld,g.six,nr _,nn _ rfl⟩,rfl⟩
     .split
      .exact ⟨⟨g.up,g.st,hx.2,g.ld,g.six,nr _,nn _ rfl⟩,rfl⟩
      .exact ⟨⟨g.up,g.st,g.dn,hx.2,g.six,nr _,nn _ rfl⟩,rfl⟩
   rw[<-e];exact ⟨key.1,.inl (by rw[key.2];exact h0)⟩
 | reel r =>
  simp only at h;split at h
  .cases h
  .rename_i h1;split at h
   .cases h
   .rename_i h2;split at h
    .cases h
    .rename_i h3;have e:=Except.ok.inj h;rw[<-e];have g:=G.gs;have hx:r.name<=99/\1<=r.frames/\r.frames<=2000/\r.motor<=2000/\r.change<=2000:=hx;have hR:Vbfaal.REELS=6:=rfl;refine ⟨⟨g.up,g.st,g.dn,g.ld,?_,fun q hq=>?_,fun i hi=>?_⟩,.inr (by show 4<=n;omega)⟩
     .show (s.reels++[r]).length<=6;rw[List.length_append,List.length_singleton];omega
     .have hq:q ∈ s.reels++[r]:=hq;rcases List.mem_append.mp hq with z | z
      .exact g.rl q z
      .have z:q=r:=by simpa using z
       subst z;refine ⟨hx.1,hx.2.1,hx.2.2.1,hx.2.2.2.1,hx.2.2.2.2,fun hl=>?_⟩;have hc:Vbfaal.cuesFit s q=true:=by
        cases z:Vbfaal.cuesFit s q with
        | true=>rfl
        | false=>exact absurd (.inl z) h3
       unfold Vbfaal.cuesFit at hc;rw[hl]at hc;simp only[Bool.false_or,Bool.and_eq_true,decide_eq_true_eq]at hc;exact ⟨hc.1,hc.2.1,hc.2.2.1⟩
     .have hi:i+1 < (s.reels++[r]).length:=hi;rw[List.length_append,List.length_singleton]at hi;have hi2:i < s.reels.length:=by omega
      show ((s.reels++[r]).getD i ⟨0,0,0,0,true⟩).last=false;rw[List.getD_eq_getElem?_getD,List.getElem?_append_left hi2,List.getElem?_eq_getElem hi2];show s.reels[i].last=false;cases hl:s.reels[i].last with
      | false=>rfl
      | true=>exact absurd (.inr (List.any_eq_true.mpr ⟨_,List.getElem_mem hi2,hl⟩)) h1
theorem Qiw:∀ (ls:List (List Nat)) (i:Nat) (s:Sheet) (n:Nat) (h:Sheet),GT s n->Vbfaal.readFrom s n i ls = .ok h->GS h/\h.reels ≠ []
 | [],i,s,n,h,G,e=>by
  rw[Vbfaal.readFrom]at e;split at e
  .rename_i hc;cases e;refine ⟨G.gs,fun z=>?_⟩;rw[z]at hc;cases hc
  .cases e
 | l::r,i,s,n,h,G,e=>by
  rw[Vbfaal.readFrom]at e;split at e
  .exact Qiw r _ s n h G e
  .split at e
   .cases e
   .rename_i x hx;split at e
    .cases e
    .rename_i y hy;exact Qiw r _ _ _ h (Qz8 G (Zis hx) hy) e
theorem Zp3 {t:List Nat} {h:Sheet} (e:Vbfaal.read t = .ok h):GS h/\h.reels ≠ []:=
 Qiw _ _ _ _ h ⟨⟨by decide,by decide,by decide,by decide,by decide,fun r hr=>(by cases hr),fun i hi=>(by have hi:i+1 < 0:=hi;omega)⟩,.inl rfl⟩ e
end
end
section
open PySem PySem.Spec PyProof.Rows L2
variable {P:Program} {w:World} {K:FG} {mg:Str->Option Value} {base:Heap} {CM CR CS CH:Addr}
noncomputable abbrev Qgy:Stmt:=top 136
noncomputable abbrev Qwf:List Str:=["runs","reel","changes","run","first","behind"]
noncomputable abbrev Qcb:List Str:=["runs","reel"]
theorem Qs8:Qn Qwf Qcb (Qi Qgy):=by walk_at "sc"
noncomputable abbrev Qix:Stmt:=top 137
noncomputable abbrev Qz9:List Str:=["runs","reel","last","changes","pieces","first","times","frame"]
noncomputable abbrev Qdi:List Str:=["runs","reel","last"]
theorem Qwg:Qn Qz9 Qdi (Qi Qix):=by walk_at "sc"
noncomputable abbrev Qk6:Stmt:=top 138
noncomputable abbrev Zdw:List Str:=["runs","reel","last","often","spans","piece"]
noncomputable abbrev Qes:List Str:=["runs","reel","last","often"]
theorem Zaa:Qn Zdw Qes (Qi Qk6):=by walk_at "sc"
noncomputable abbrev Qei:Stmt:=top 139
noncomputable abbrev Qp9:List Str:=["house","often","spans","number","reel"]
noncomputable abbrev Jk:List Str:=["house","often"]
theorem Qoe:Qn Qp9 Jk (Qi Qei):=by walk_at "sc"
def dKI (m:List (Int × Int)):List (Key × V):=m.map fun p=>((Sum.inl p.1:Key),V.int p.2)
theorem Qs9 (k:Int):∀ m:List (Int × Int),Qxs (dKI m) (Sum.inl k:Key)=(m.find? fun p=>decide (p.1=k)).map fun p=>V.int p.2
 | []=>rfl
 | p::r=>by
  have ih:=Qs9 k r;unfold Qxs dKI at ih ⊢;rw[List.map_cons,List.find?_cons,List.find?_cons];by_cases h:p.1=k
  .have h2:((Sum.inl p.1:Key)=Sum.inl k):=by rw[h]
   simp[h]
  .have h2:¬ ((Sum.inl p.1:Key)=Sum.inl k):=fun z=>h (Sum.inl.inj z);simp only[h2,h,decide_false];exact ih
theorem Zb0 (m:List (Int × Int)) (k:Int):(Qxs (dKI m) (Sum.inl k:Key)).getD (.int 0) = .int (Qdr m k):=by
 rw[Qs9];unfold Qdr;cases m.find? fun p=>decide (p.1=k) with
 | none=>rfl
 | some p=>rfl
theorem Zb1 (m:List (Int × Int)) (k v:Int):putK (dKI m) (Sum.inl k:Key) (.int v)=dKI (Qod m k v):=by
 have ea:((dKI m).any fun kv=>decide (kv.1=(Sum.inl k:Key)))=m.any fun p=>decide (p.1=k):=by
  unfold dKI;rw[List.any_map]
  congr 1
  funext p;show decide ((Sum.inl p.1:Key)=Sum.inl k)=decide (p.1=k);exact decide_eq_decide.mpr ⟨fun z=>Sum.inl.inj z,fun z=>by rw[z]⟩
 unfold putK Qod;rw[ea];split
 .unfold dKI;rw[List.map_map,List.map_map];apply List.map_congr_left;intro p _;show (if (Sum.inl p.1:Key)=Sum.inl k then ((Sum.inl p.1:Key),V.int v) else ((Sum.inl p.1:Key),V.int p.2))=_;by_cases h:p.1=k
  .have h2:((Sum.inl p.1:Key)=Sum.inl k):=by rw[h]
   rw[if_pos h2];show _=((Sum.inl (if p.1=k then (p.1,v) else p).1:Key),V.int (if p.1=k then (p.1,v) else p).2)
   rw[if_pos h]
  .have h2:¬ ((Sum.inl p.1:Key)=Sum.inl k):=fun z=>h (Sum.inl.inj z);rw[if_neg h2];show _=((Sum.inl (if p.1=k then (p.1,v) else p).1:Key),V.int (if p.1=k then (p.1,v) else p).2)
   rw[if_neg h]
 .unfold dKI;rw[List.map_append];rfl
theorem Zit (m:List (Int × Int)):(dKI m).length=m.length:=by simp[dKI]
theorem Qta (reel:Int):∀ (rs:List Zby) (m:List (Int × Int)),(rs.foldl (Qp8 reel) m).length<=m.length+2*rs.length
 | [],m=>by simp
 | r::rs,m=>by
  rw[List.foldl_cons];have h1:=Qta reel rs (Qp8 reel m r);have h2:(Qp8 reel m r).length<=m.length+2:=by
   unfold Qp8;split
   .have h1:=Qj3 m r.2.2.1 (Qdr m r.2.2.1+1);have h2:=Qj3 (Qod m r.2.2.1 (Qdr m r.2.2.1+1)) (r.2.2.2+1) (Qdr (Qod m r.2.2.1 (Qdr m r.2.2.1+1)) (r.2.2.2+1) - 1);omega
   .omega
  simp only[List.length_cons];omega
def Zne:Sp:=fun vs H Q _=>∃ rl rns runs,∃ reel:Int,vs=[.ref rl,.int reel]/\H rl=some (.lst (rns.map V.ref))/\Zw Qyu H rns runs/\runs.length < 1000000/\∀ d,H d=none->Q (.ref d) (upd H d (.dK (dKI (chg reel runs))))
theorem Qtb (D:Df K mg "changes_in" Qgy Qcb) (T:Txt K mg CM CR CS CH):Ok P w K mg base "changes_in" 1 Qcb Zne:=by
 have SC:=Qs8;refine D.ok SC (fun vs H Q E h=>?_) (fun f _ A _ s H vs Q E hr h=>?_)
 .obtain ⟨rl,rns,runs,reel,rfl,_⟩:=h;rfl
 .obtain ⟨rl,rns,runs,reel,rfl,hrl,row,hlen,k⟩:=h;have hz:sizeLine=16777216:=rfl;refine ⟨_,(Qb (psL (i:=2) SC.nd Zkk) (Qb (Qav PassesOwn.never rfl (Jq (pv 0)) (pgL (i:=3) SC.nd) (Qc (Qz (Qo Yc (Zf Qt (pv 3) Qj (fun _ _=>rfl)) (pv 1) (Qq _)) (Qb (psL (i:=4) SC.nd (Zf Qt (pv 3) Qj (fun _ _=>rfl))) (Qb (psL (i:=5) SC.nd (Zq Qa1 (Zf Qt (pv 3) Qj (fun _ _=>rfl)) Qj)) (Qb (Zfq (Zfv hr) (pv 2) (pv 4) (Zq Qa1 (Za8 (Zfv hr) (pv 2) (pv 4) Qj ⟨rfl,rfl,rfl,rfl⟩) Qj) rfl) (Qc (Zfq (Zfv hr) (pv 2) (pv 5) (Zq Qaw (Za8 (Zfv hr) (pv 2) (pv 5) Qj ⟨rfl,rfl,rfl,rfl⟩) Qj) rfl))))) Qp))) (Qc (Qm (pv 2))))),?_⟩;intro d hd
  refine ⟨_,rfl,rl,rfl,⟨_,SqL.of (by rw[Ql (Qg hrl hd)];exact hrl)⟩,Jm (K:=K) (a:=rl) (xs:=rns.map V.ref)
   (fun i σ H'=>i<=runs.length/\H' = upd H d (.dK (dKI ((runs.take i).foldl (Qp8 reel) [])))/\∃ v1 v2 v3:Option V,σ=[some (.ref rl),some (.int reel),some (.ref d),v1,v2,v3])
   ⟨Nat.zero_le _,rfl,none,none,none,rfl⟩ (fun i σ H' _ ⟨_,e,_⟩=>by rw[e];exact SqL.of (by rw[Ql (Qg hrl hd)];exact hrl)) ?_ ?_⟩
  .rintro i y σ H' hi ⟨hil,rfl,v1,v2,v3,rfl⟩
   rw[List.getElem?_map]at hi;obtain ⟨c,hc,rfl⟩:=Option.map_eq_some_iff.mp hi;have hlt:i < runs.length:=by rw[<-row.1];exact (List.getElem?_eq_some_iff.mp hc).1
   have e2:runs[i]? = some runs[i]:=List.getElem?_eq_getElem hlt;have Zsc:=row.2 i c _ hc e2;generalize hm:(runs.take i).foldl (Qp8 reel) []=m;have hml:m.length<=2*i:=by
    have:=Qta reel (runs.take i) []
    rw[hm,List.length_take]at this;simp only[List.length_nil]at this;omega
   have en:(runs.take (i+1)).foldl (Qp8 reel) []=Qp8 reel m runs[i]:=by rw[List.take_succ,e2,List.foldl_append,hm];rfl
   have hcc:upd H d (.dK (dKI m)) c=some (.lst [.int runs[i].1,.int runs[i].2.1,.int runs[i].2.2.1,.int runs[i].2.2.2]):=by rw[Ql (Qg Zsc hd)];exact Zsc
   walk_at "R";refine ifB (fun h1=>?_) (fun h1=>?_)
   .have h1:runs[i].2.1=reel:=by simpa using h1
    have hdd:upd H d (.dK (dKI m)) d=some (.dK (dKI m)):=Qk;walk_at "R";refine ⟨.inl ⟨_,.inl hdd⟩,_,rfl,_,Zco.k (k:=Sum.inl runs[i].2.2.1) hdd,?_⟩;rw[Zb0];walk_at "R";refine ⟨d,_,rfl,Zmt.k (k:=Sum.inl runs[i].2.2.1) hdd (by rw[Zit,hz];omega),?_⟩;rw[Zb1,Zb];have Zsd:upd H d (.dK (dKI (Qod m runs[i].2.2.1 (Qdr m runs[i].2.2.1+1)))) d=some (.dK (dKI (Qod m runs[i].2.2.1 (Qdr m runs[i].2.2.1+1)))):=Qk;have hl2:=Qj3 m runs[i].2.2.1 (Qdr m runs[i].2.2.1+1);walk_at "R";refine ⟨.inl ⟨_,.inl Zsd⟩,_,rfl,_,Zco.k (k:=Sum.inl (runs[i].2.2.2+1)) Zsd,?_⟩;rw[Zb0];walk_at "R";refine ⟨d,_,rfl,Zmt.k (k:=Sum.inl (runs[i].2.2.2+1)) Zsd (by rw[Zit,hz];omega),?_⟩;rw[Zb1,Zb];refine ⟨hlt,?_,_,_,_,rfl⟩;rw[en];unfold Qp8;rw[if_pos h1]
   .have h1:¬ runs[i].2.1=reel:=by simpa using h1
    refine ⟨hlt,?_,_,_,_,rfl⟩;rw[en];unfold Qp8;rw[if_neg h1]
  .rintro σ H' ⟨hil,rfl,v1,v2,v3,rfl⟩
   rw[List.length_map,row.1,List.take_length];exact ⟨_,rfl,k d hd⟩
structure Rows (H0 H':Hp) (q:Addr) (as:List Addr) (xs:List Tri):Prop where
 lst:H' q=some (.lst (as.map V.ref))
 row:Zw Qtx H' as xs
 keep:∀ b o,H0 b=some o->b ≠ q->H' b=some o
 fr:∀ c ∈ as,H0 c=none
 h0:H0 q ≠ none
theorem Zab {e:Tri} {xs:List V}:Qtx e ≠ HO.lst xs:=fun z=>by cases z
theorem Rows.start {H0:Hp} {q:Addr} (h:H0 q=some (.lst [])):Rows H0 H0 q [] []:=⟨h,⟨rfl,by simp⟩,fun _ _ e _=>e,by simp,by rw[h];simp⟩
theorem Rows.neq {H0 H':Hp} {q c:Addr} {as:List Addr} {xs:List Tri} (R:Rows H0 H' q as xs) (hc:H' c=none):c ≠ q:=fun z=>by
 rw[z,R.lst]at hc;cases hc
theorem Rows.new {H0 H':Hp} {q c:Addr} {as:List Addr} {xs:List Tri} (R:Rows H0 H' q as xs) (hc:H' c=none):H0 c=none:=by
 cases e:H0 c with
 | none=>rfl
 | some o=>rw[R.keep c o e (R.neq hc)]at hc;cases hc
theorem Rows.out {H0 H':Hp} {q c:Addr} {as:List Addr} {xs:List Tri} (R:Rows H0 H' q as xs) (hc:H' c=none) (e:Tri) (ys:List V) :
  (∀ b o,H' b=some o->b ≠ q->upd (upd H' c (Qtx e)) q (.lst ys) b=some o)/\(∀ d ∈ as,d ≠ q):=by
 refine ⟨fun b o h n=>by rw[Ql n,Ql (Qg h hc)];exact h,fun d hd=>?_⟩;obtain ⟨x,h⟩:=R.row.mem hd;exact Yu h R.lst Zab
theorem Rows.push {H0 H':Hp} {q c:Addr} {as:List Addr} {xs:List Tri} (R:Rows H0 H' q as xs) (e:Tri) (hc:H' c=none) :
  Rows H0 (upd (upd H' c (Qtx e)) q (.lst (as.map V.ref++[.ref c]))) q (as++[c]) (xs++[e]):=by
 obtain ⟨o1,o2⟩:=R.out hc e (as.map V.ref++[.ref c]);refine ⟨by rw[Qk,List.map_append];rfl,Zw.snoc (R.row.keep fun d hd o h=>o1 d o h (o2 d hd)) (by rw[Ql (R.neq hc)];exact Qk),fun b o h n=>o1 b o (R.keep b o h n) n,fun d hd=>?_,R.h0⟩;rcases List.mem_append.mp hd with z | z
 .exact R.fr d z
 .rw[List.mem_singleton.mp z];exact R.new hc
theorem Zw.Zwn {α:Type} {f:α->HO} {H:Hp} {as:List Addr} {xs:List α} {c:Addr} {x:α} {i:Nat} (h:Zw f H as xs) (hc:H c=some (f x)):Zw f H (as.set i c) (xs.set i x):=by
 refine ⟨by rw[List.length_set,List.length_set];exact h.1,fun j d y h1 h2=>?_⟩;by_cases hj:j=i
 .subst hj;have hl:j < as.length:=by
   have:=(List.getElem?_eq_some_iff.mp h1).1
   rwa [List.length_set]at this
  rw[List.getElem?_set_self hl]at h1;rw[List.getElem?_set_self (by rw[<-h.1];exact hl)]at h2;cases h1;cases h2;exact hc
 .rw[List.getElem?_set_ne (fun q=>hj q.symm)]at h1 h2;exact h.2 j d y h1 h2
theorem Rows.Zwo {H0 H':Hp} {q c:Addr} {as:List Addr} {xs:List Tri} (R:Rows H0 H' q as xs) (e:Tri) (i:Nat) (hc:H' c=none) :
  Rows H0 (upd (upd H' c (Qtx e)) q (.lst ((as.map V.ref).set i (.ref c)))) q (as.set i c) (xs.set i e):=by
 obtain ⟨o1,o2⟩:=R.out hc e ((as.map V.ref).set i (.ref c));refine ⟨by rw[Qk,List.map_set],Zw.Zwn (R.row.keep fun d hd o h=>o1 d o h (o2 d hd)) (by rw[Ql (R.neq hc)];exact Qk),fun b o h n=>o1 b o (R.keep b o h n) n,fun d hd=>?_,R.h0⟩;rcases List.mem_or_eq_of_mem_set hd with z | z
 .exact R.fr d z
 .rw[z];exact R.new hc
theorem Zb2 {m:List (Int × Int)} {k:Int} (h:k ∈ m.map (·.1)):Qxs (dKI m) (Sum.inl k:Key)=some (.int (Qdr m k)):=by
 rw[Qs9];unfold Qdr;cases e:m.find? fun p=>decide (p.1=k) with
 | some p=>rfl
 | none =>
  obtain ⟨p,hp,ep⟩:=List.mem_map.mp h
  have:=List.find?_eq_none.mp e p hp
  simp[ep]at this
def Zac (H:Hp) (Q:VK) (xs:List Tri):Prop:=∀ H' p as,Jw H H' -> H p=none->H' p=some (.lst (as.map V.ref))->Zw Qtx H' as xs->(∀ c ∈ as,H c=none)->Q (.ref p) H'
def Zse:Sp:=fun vs H Q _=>∃ rl rns runs,∃ reel last:Int,vs=[.ref rl,.int reel,.int last]/\H rl=some (.lst (rns.map V.ref))/\Zw Qyu H rns runs/\runs.length < 1000000/\Zac H Q (Zj2 runs reel last)
theorem Zl5 (runs:List Zby) (reel last:Int):(Zj2 runs reel last).length<=2*runs.length+1:=by
 have h1:=Qj4 (chg reel runs) (Qeh ((chg reel runs).map (·.1))) 0 0;have h2:(Qeh ((chg reel runs).map (·.1))).length=(chg reel runs).length:=by unfold Qeh;rw[List.length_mergeSort,List.length_map]
 have h3:=Qta reel runs [];unfold chg at h1 h2;unfold Zj2 Zql chg;rw[List.length_append];simp only[List.length_nil]at h3;have h4:(if (Qbg (runs.foldl (Qp8 reel) []) (Qeh ((runs.foldl (Qp8 reel) []).map (·.1))) 0 0).2.1<=last then [((Qbg (runs.foldl (Qp8 reel) []) (Qeh ((runs.foldl (Qp8 reel) []).map (·.1))) 0 0).2.1,last,(Qbg (runs.foldl (Qp8 reel) []) (Qeh ((runs.foldl (Qp8 reel) []).map (·.1))) 0 0).2.2)] else []).length<=1:=by split <;> simp
 omega
theorem Qwh (D:Df K mg "pieces_of" Qix Qdi) (T:Txt K mg CM CR CS CH) (Qms:mg "sorted" = none) (Qgz:Ok P w K mg base "changes_in" 1 Qcb Zne):Ok P w K mg base "pieces_of" 2 Qdi Zse:=by
 have SC:=Qwg;refine D.ok SC (fun vs H Q E h=>?_) (fun f _ A _ s H vs Q E hr h=>?_)
 .obtain ⟨rl,rns,runs,reel,last,rfl,_⟩:=h;rfl
 .obtain ⟨rl,rns,runs,reel,last,rfl,hrl,row,hlen,k⟩:=h;have hz:sizeLine=16777216:=rfl;refine ⟨_,(Qb (psL (i:=3) SC.nd (pcl Qgz (hr.M) (Qa (pv 0) (Qa (pv 1) Qe)))) (Qb (psL (i:=4) SC.nd (Za Qe)) (Qb (psL (i:=5) SC.nd Qj) (Qb (psL (i:=6) SC.nd Qj) (Qb (Qav PassesOwn.never rfl (Jq (Zk Qv9 rfl Qms (by decide +kernel) (Qa (Qa2 (Zds rfl) rfl T.Zmv (by decide +kernel) (Qa (pv 3) Qe)) Qe))) (pgL (i:=7) SC.nd) (Qb (Qz (Qo Qd3 (pv 7) (pv 5) (Qq _)) (Qb (Qx (Qhn PySem.F.plainAttrs_list PySem.F.slot_list_append PySem.F.type_list_append Yv (pv 4) (Qa (Qqr (Qa (pv 5) (Qa (Zq Qaw (pv 7) Qj) (Qa (pv 6) Qe)))) Qe))) (Qc (psL (i:=5) SC.nd (pv 7)))) Qp) (Qc (paL (i:=6) SC.nd (Zoa (Zfv hr) (pv 3) (pv 7) (fun _ _=>rfl)) Za1)))) (Qb (Qz (Qo Zq0 (pv 5) (pv 2) (Qq _)) (Qc (Qx (Qhn PySem.F.plainAttrs_list PySem.F.slot_list_append PySem.F.type_list_append Yv (pv 4) (Qa (Qqr (Qa (pv 5) (Qa (pv 2) (Qa (pv 6) Qe)))) Qe)))) Qp) (Qc (Qm (pv 4))))))))),?_⟩;walk_at "R";refine ⟨rl,rns,runs,reel,rfl,hrl,row,hlen,fun d hd=>?_⟩;generalize hM:chg reel runs=M;have hml:M.length<=2*runs.length:=by
   have:=Qta reel runs []
   unfold chg at hM;rw[hM]at this;simpa using this
  walk_at "R";refine ⟨Nat.zero_le _,fun q hq=>?_⟩;have nqd:q ≠ d:=fun z=>by rw[z,Qk]at hq;cases hq
  have hqH:H q=none:=by rw[Ql nqd]at hq;exact hq
  have hdd:upd (upd H d (.dK (dKI M))) q (.lst []) d=some (.dK (dKI M)):=by rw[Ql (Ne.symm nqd)];exact Qk
  walk_at "R";refine ⟨d,dKI M,rfl,hdd,fun l hl=>?_⟩;have ek:(dKI M).map (fun kv=>kV kv.1)=(M.map (·.1)).map V.int:=by unfold dKI;rw[List.map_map,List.map_map];rfl
  rw[ek];refine ⟨l,M.map (·.1),rfl,SqL.of Qk,fun ms p Zp4 Zue hp=>?_⟩;have ems:=Zl1 Zp4 Zue;generalize hH4:upd (upd (upd (upd H d (.dK (dKI M))) q (.lst [])) l (.lst ((M.map (·.1)).map V.int))) p (.lst (ms.map V.int))=H4;have s4:Jw H H4:=fun b o e=>by
   have e1:upd H d (.dK (dKI M)) b=some o:=by rw[Ql (Qg e hd)];exact e
   have e2:upd (upd H d (.dK (dKI M))) q (.lst []) b=some o:=by rw[Ql (Qg e1 hq)];exact e1
   have e3:upd (upd (upd H d (.dK (dKI M))) q (.lst [])) l (.lst ((M.map (·.1)).map V.int)) b=some o:=by rw[Ql (Qg e2 hl)];exact e2
   rw[<-hH4,Ql (Qg e3 hp)];exact e3
  have s24:Jw (upd (upd H d (.dK (dKI M))) q (.lst [])) H4:=fun b o e=>by
   have e3:upd (upd (upd H d (.dK (dKI M))) q (.lst [])) l (.lst ((M.map (·.1)).map V.int)) b=some o:=by rw[Ql (Qg e hl)];exact e
   rw[<-hH4,Ql (Qg e3 hp)];exact e3
  have h4d:H4 d=some (.dK (dKI M)):=s24 _ _ hdd;have h4q:H4 q=some (.lst []):=s24 _ _ Qk;have h4p:H4 p=some (.lst (ms.map V.int)):=by rw[<-hH4];exact Qk
  have ndq:d ≠ q:=Ne.symm nqd;have npq:p ≠ q:=fun z=>by
   have e3:upd (upd (upd H d (.dK (dKI M))) q (.lst [])) l (.lst ((M.map (·.1)).map V.int)) q=some (.lst []):=by rw[Ql (Qg Qk hl)];exact Qk
   rw[z,e3]at hp;cases hp
  have hmem:∀ x ∈ ms,x ∈ M.map (·.1):=fun x hx=>Zp4.mem_iff.mp hx;have Zw7:ms.length<=2*runs.length:=by rw[Zp4.length_eq,List.length_map];exact hml
  have hfl:=Qj4 M ms 0 0;have eP:Zj2 runs reel last=Zql (Qbg M ms 0 0) last:=by unfold Zj2;rw[hM,ems]
  rw[eP]at k;generalize hF:Qbg M ms 0 0=F at hfl k;have fin:∀ H' as,Rows H4 H' q as (Zql F last)->Q (.ref q) H':=fun H' as R =>
   k H' q as (fun b o e=>R.keep b o (s4 b o e) (Qg e hqH)) hqH R.lst R.row fun c hc=>s4.free (R.fr c hc)
  refine ⟨p,rfl,⟨_,SqL.of h4p⟩,Jm (K:=K) (a:=p) (xs:=ms.map V.int)
   (fun i σ H'=>∃ first times:Int,∃ acc as,∃ v:Option V,σ=[some (.ref rl),some (.int reel),some (.int last),some (.ref d),some (.ref q),some (.int first),some (.int times),v]/\Rows H4 H' q as acc/\(acc++(Qbg M (ms.drop i) first times).1,(Qbg M (ms.drop i) first times).2)=F)
   ⟨0,0,[],[],none,rfl,Rows.start h4q,by rw[List.drop_zero,List.nil_append,hF]⟩ (fun i σ H' _ ⟨_,_,_,_,_,_,R,_⟩=>SqL.of (R.keep _ _ h4p npq)) ?_ ?_⟩
  .rintro i y σ H' hi ⟨first,times,acc,as,v,rfl,R,eF⟩
   rw[List.getElem?_map]at hi;obtain ⟨x,hx,rfl⟩:=Option.map_eq_some_iff.mp hi;have hlt:i < ms.length:=(List.getElem?_eq_some_iff.mp hx).1;have ed:ms.drop i=x::ms.drop (i+1):=by
    rw[List.drop_eq_getElem_cons hlt]
    congr 1
    exact (List.getElem?_eq_some_iff.mp hx).2
   rw[ed,Qbg]at eF;have Zwp:=R.keep _ _ h4d ndq;have hxm:=hmem x (List.mem_of_getElem? hx);have Zsf:acc.length<=F.1.length:=by rw[<-eF];simp
   walk_at "R";refine ifB (fun h1=>?_) (fun h1=>?_)
   .have h1:first < x:=by simpa using h1
    rw[if_pos h1]at eF;walk_at "R";refine ⟨.inl ⟨rfl,_,SqL.of R.lst⟩,?_⟩;walk_at "R";refine ⟨(by show 3<=sizeLine;decide),fun c hc=>?_⟩;refine ⟨q,_,_,rfl,rfl,by rw[Ql (Ne.symm (R.neq hc))];exact R.lst,by rw[List.length_map,R.row.1,hz];omega,?_⟩;have R2:=R.push (first,x - 1,times) hc;have Zsd:=R2.keep _ _ h4d ndq;walk_at "R";refine ⟨d,_,rfl,by rw[<-Zb2 hxm];exact Zco.k (k:=Sum.inl x) Zsd,?_⟩;refine ⟨_,_,rfl,rfl,x,times+Qdr M x,acc++[(first,x - 1,times)],as++[c],_,rfl,R2,?_⟩;rw[<-eF,List.append_assoc];rfl
   .have h1:¬ first < x:=by simpa using h1
    rw[if_neg h1]at eF;walk_at "R";refine ⟨d,_,rfl,by rw[<-Zb2 hxm];exact Zco.k (k:=Sum.inl x) Zwp,?_⟩;exact ⟨_,_,rfl,rfl,first,times+Qdr M x,acc,as,_,rfl,R,eF⟩
  .rintro σ H' ⟨first,times,acc,as,v,rfl,R,eF⟩
   rw[List.length_map,List.drop_length]at eF;have eF:(acc,first,times)=F:=by rw[<-eF];simp[Qbg]
   have Zsf:acc.length<=F.1.length:=by rw[<-eF];exact Nat.le_refl _
   have e1:Zql F last=acc++if first<=last then [(first,last,times)] else []:=by rw[<-eF];rfl
   rw[e1]at fin;walk_at "R";refine ifB (fun h1=>?_) (fun h1=>?_)
   .have h1:first<=last:=by simpa using h1
    rw[if_pos h1]at fin;walk_at "R";refine ⟨.inl ⟨rfl,_,SqL.of R.lst⟩,?_⟩;walk_at "R";refine ⟨(by show 3<=sizeLine;decide),fun c hc=>?_⟩;refine ⟨q,_,_,rfl,rfl,by rw[Ql (Ne.symm (R.neq hc))];exact R.lst,by rw[List.length_map,R.row.1,hz];omega,?_⟩;walk_at "R";exact fin _ _ (R.push (first,last,times) hc)
   .have h1:¬ first<=last:=by simpa using h1
    rw[if_neg h1,List.append_nil]at fin;walk_at "R";exact fin _ _ R
def Ziu:Sp:=fun vs H Q _=>∃ rl rns runs,∃ reel last Zi:Int,vs=[.ref rl,.int reel,.int last,.int Zi]/\H rl=some (.lst (rns.map V.ref))/\Zw Qyu H rns runs/\runs.length < 1000000/\Zac H Q (Qwa runs reel last Zi)
theorem Zad (D:Df K mg "spans_of" Qk6 Qes) (T:Txt K mg CM CR CS CH) (Qiy:Ok P w K mg base "pieces_of" 2 Qdi Zse):Ok P w K mg base "spans_of" 3 Qes Ziu:=by
 have SC:=Zaa;refine D.ok SC (fun vs H Q E h=>?_) (fun f _ A _ s H vs Q E hr h=>?_)
 .obtain ⟨rl,rns,runs,reel,last,Zi,rfl,_⟩:=h;rfl
 .obtain ⟨rl,rns,runs,reel,last,Zi,rfl,hrl,row,hlen,k⟩:=h;have hz:sizeLine=16777216:=rfl;refine ⟨_,(Qb (psL (i:=4) SC.nd (Za Qe)) (Qb (Qav PassesOwn.never rfl (Jq (pcl Qiy (hr.M) (Qa (pv 0) (Qa (pv 1) (Qa (pv 2) Qe))))) (pgL (i:=5) SC.nd) (Qc (Qz (Qo Yc (Zk (Ze4 rfl) rfl T.Zrm (by decide +kernel) (Qa (Zf Qbh (pv 5) Qj (fun _ _=>rfl)) (Qa (pgi T.Qyg) Qe))) (pv 3) (Qq _)) (Qc (Qz (PW.pt (Qho (Qo Qd3 (Zk Zc rfl T.Qdp PySem.boot_len (Qa (pv 4) Qe)) Qj (Qq _)) (Qd2 (Qo Yc (Zf Qbh (Zf Qt (pv 4) (Qkk Qem Qj) (fun _ _=>rfl)) Qj (fun _ _=>rfl)) (Zq Qaw (Zf Qbh (pv 5) Qj (fun _ _=>rfl)) Qj) (Qq _))))) (Qc (Zml (Qqr (Qa (pv 1) (Qa (Zf Qbh (Zf Qt (pv 4) (Qkk Qem Qj) (fun _ _=>rfl)) Qj (fun _ _=>rfl)) (Qa (Zf Qbh (pv 5) Qj (fun _ _=>rfl)) Qe)))) (Zmk (pv 4) (Qkk Qem Qj) set_list))) (Qc (Qx (Qhn PySem.F.plainAttrs_list PySem.F.slot_list_append PySem.F.type_list_append Yv (pv 4) (Qa (Qqr (Qa (pv 1) (Qa (Zf Qbh (pv 5) Qj (fun _ _=>rfl)) (Qa (Zf Qbh (pv 5) Qj (fun _ _=>rfl)) Qe)))) Qe)))))) Qp))) (Qc (Qm (pv 4))))),?_⟩;refine ⟨Nat.zero_le _,fun q hq=>?_⟩;have s0:Jw H (upd H q (.lst [])):=fun b o e=>by rw[Ql (Qg e hq)];exact e
  walk_at "R";refine ⟨rl,rns,runs,reel,last,rfl,s0 _ _ hrl,row.keep fun c _ o e=>s0 c o e,hlen,fun H1 p asp s1 hp hpl Zs9 frp=>?_⟩;generalize hps:Zj2 runs reel last=ps at Zs9;have Zw8:ps.length<=2*runs.length+1:=by rw[<-hps];exact Zl5 _ _ _
  have h1q:H1 q=some (.lst []):=s1 _ _ Qk;have npq:p ≠ q:=fun z=>by rw[z,Qk]at hp;cases hp
  have fin:∀ H' as,Rows H1 H' q as (ps.foldl (Qaf reel Zi) [])->Q (.ref q) H':=fun H' as R =>
   k H' q as (fun b o e=>R.keep b o (s1 b o (s0 b o e)) (Qg e hq)) hq R.lst (by unfold Qwa;rw[hps];exact R.row) fun c hc=>(s0.trans s1).free (R.fr c hc)
  refine ⟨p,rfl,⟨_,SqL.of hpl⟩,Jm (K:=K) (a:=p) (xs:=asp.map V.ref)
   (fun i σ H'=>i<=ps.length/\∃ as,∃ v:Option V,σ=[some (.ref rl),some (.int reel),some (.int last),some (.int Zi),some (.ref q),v]/\Rows H1 H' q as ((ps.take i).foldl (Qaf reel Zi) []))
   ⟨Nat.zero_le _,[],none,rfl,Rows.start h1q⟩ (fun i σ H' _ ⟨_,_,_,_,R⟩=>SqL.of (R.keep _ _ hpl npq)) ?_ ?_⟩
  .rintro i y σ H' hi ⟨hil,as,v,rfl,R⟩
   rw[List.getElem?_map]at hi;obtain ⟨c,hc,rfl⟩:=Option.map_eq_some_iff.mp hi;have hlt:i < ps.length:=by rw[<-Zs9.1];exact (List.getElem?_eq_some_iff.mp hc).1
   have e2:ps[i]? = some ps[i]:=List.getElem?_eq_getElem hlt;have Zsc:H1 c=some (Qtx ps[i]):=Zs9.2 i c _ hc e2;have ncq:c ≠ q:=Yu Zsc h1q Zab;have hcc:H' c=some (.tup [.int ps[i].1,.int ps[i].2.1,.int ps[i].2.2]):=R.keep _ _ Zsc ncq;generalize hacc:(ps.take i).foldl (Qaf reel Zi) []=acc at R;have Zsf:acc.length<=i:=by
    have:=Qwd reel Zi (ps.take i) []
    rw[hacc,List.length_take]at this;simp only[List.length_nil]at this;omega
   have en:(ps.take (i+1)).foldl (Qaf reel Zi) []=Qaf reel Zi acc ps[i]:=by rw[List.take_succ,e2,List.foldl_append,hacc];rfl
   walk_at "R";refine ⟨c,_,_,_,rfl,rfl,SqT.of hcc,rfl,?_⟩;walk_at "R";refine ifB (fun h1=>?_) (fun h1=>?_)
   .have h1:(if 2 < ps[i].2.2 then 2 else ps[i].2.2)=Zi:=by simpa using h1
    walk_at "R";refine ⟨_,_,rfl,.inl (SqL.of R.lst),?_⟩;walk_at "R";refine ifB (fun h2=>?_) (fun h2=>?_)
    .have hlen2:0 < as.length:=by
      have:=of_decide_eq_true h2
      simp at this;exact this
     have hal:0 < acc.length:=by rw[<-R.row.1];exact hlen2
     have e1:as[as.length - 1]? = some as[as.length - 1]:=List.getElem?_eq_getElem (by omega);have e3:acc[as.length - 1]? = some acc[acc.length - 1]:=by rw[R.row.1];exact List.getElem?_eq_getElem (by omega)
     have e4:acc.getLast? = some acc[acc.length - 1]:=by rw[List.getLast?_eq_getElem?];exact List.getElem?_eq_getElem (by omega)
     have hsl:H' as[as.length - 1]=some (.tup [.int acc[acc.length - 1].1,.int acc[acc.length - 1].2.1,.int acc[acc.length - 1].2.2]):=R.row.2 _ _ _ e1 e3;have hat:atI (as.map V.ref) (-1)=some (.ref as[as.length - 1]):=Qsk (by rw[List.length_map,List.getElem?_map,e1];rfl);walk_at "R";refine ⟨q,_,_,_,rfl,rfl,SqL.of R.lst,hat,?_⟩;walk_at "R";refine ⟨_,_,_,_,rfl,rfl,SqT.of hsl,rfl,?_⟩;walk_at "R";refine ⟨c,_,_,_,rfl,rfl,SqT.of hcc,rfl,?_⟩;walk_at "R";refine ifB (fun h3=>?_) (fun h3=>?_)
     .have h3:acc[acc.length - 1].2.2=ps[i].1 - 1:=by simpa using h3
      have eS:Qaf reel Zi acc ps[i]=acc.set (acc.length - 1) (reel,acc[acc.length - 1].2.1,ps[i].2.1):=by unfold Qaf;rw[if_pos h1,e4];simp only;rw[if_pos h3]
      walk_at "R";refine ⟨q,_,_,_,rfl,rfl,SqL.of R.lst,hat,?_⟩;walk_at "R";refine ⟨_,_,_,_,rfl,rfl,SqT.of hsl,rfl,?_⟩;walk_at "R";refine ⟨c,_,_,_,rfl,rfl,SqT.of hcc,rfl,?_⟩;refine ⟨(by show 3<=sizeLine;decide),fun d hd=>?_⟩;walk_at "R";have ixn:ixN (as.map V.ref).length (-1)=some (acc.length - 1):=by unfold ixN;rw[List.length_map,R.row.1,if_neg (by decide),if_pos (by omega),show ((-1:Int)+(acc.length:Int)).toNat=acc.length - 1 by omega]
      refine ⟨q,_,_,_,rfl,rfl,by rw[Ql (Ne.symm (R.neq hd))];exact R.lst,ixn,?_⟩;refine ⟨hlt,as.set (acc.length - 1) d,_,rfl,?_⟩;rw[en,eS];exact R.Zwo (reel,acc[acc.length - 1].2.1,ps[i].2.1) (acc.length - 1) hd
     .have h3:¬ acc[acc.length - 1].2.2=ps[i].1 - 1:=by simpa using h3
      have eS:Qaf reel Zi acc ps[i]=acc++[(reel,ps[i].1,ps[i].2.1)]:=by unfold Qaf;rw[if_pos h1,e4];simp only;rw[if_neg h3]
      walk_at "R";refine ⟨.inl ⟨rfl,_,SqL.of R.lst⟩,?_⟩;walk_at "R";refine ⟨c,_,_,_,rfl,rfl,SqT.of hcc,rfl,?_⟩;walk_at "R";refine ⟨c,_,_,_,rfl,rfl,SqT.of hcc,rfl,?_⟩;refine ⟨(by show 3<=sizeLine;decide),fun d hd=>?_⟩;refine ⟨q,_,_,rfl,rfl,by rw[Ql (Ne.symm (R.neq hd))];exact R.lst,by rw[List.length_map,R.row.1,hz];omega,?_⟩;refine ⟨hlt,as++[d],_,rfl,?_⟩;rw[en,eS];exact R.push (reel,ps[i].1,ps[i].2.1) hd
    .have Zrs:acc=[]:=by
      have:=of_decide_eq_false h2
      have h4:as.length=0:=by simpa using this
      rw[R.row.1]at h4;exact List.length_eq_zero_iff.mp h4
     have eS:Qaf reel Zi acc ps[i]=acc++[(reel,ps[i].1,ps[i].2.1)]:=by unfold Qaf;rw[if_pos h1,Zrs];rfl
     refine Qf7 ?_;walk_at "R";refine ⟨.inl ⟨rfl,_,SqL.of R.lst⟩,?_⟩;walk_at "R";refine ⟨c,_,_,_,rfl,rfl,SqT.of hcc,rfl,?_⟩;walk_at "R";refine ⟨c,_,_,_,rfl,rfl,SqT.of hcc,rfl,?_⟩;refine ⟨(by show 3<=sizeLine;decide),fun d hd=>?_⟩;refine ⟨q,_,_,rfl,rfl,by rw[Ql (Ne.symm (R.neq hd))];exact R.lst,by rw[List.length_map,R.row.1,hz];omega,?_⟩;refine ⟨hlt,as++[d],_,rfl,?_⟩;rw[en,eS];exact R.push (reel,ps[i].1,ps[i].2.1) hd
   .have h1:¬ (if 2 < ps[i].2.2 then 2 else ps[i].2.2)=Zi:=by simpa using h1
    refine ⟨hlt,as,_,rfl,?_⟩;rw[en];unfold Qaf;rw[if_neg h1];exact R
  .rintro σ H' ⟨hil,as,v,rfl,R⟩
   rw[List.length_map,Zs9.1,List.take_length]at R;walk_at "R";exact fin _ _ R
section
noncomputable abbrev Qof:Stmt:=top 143
noncomputable abbrev Ziv:List Str:=["rows","answer","row"]
noncomputable abbrev Qcc:List Str:=["rows"]
theorem Zdx:Qn Ziv Qcc (Qi Qof):=by walk_at "sc"
section
variable {K:FG} {a:Addr} {xs:List V} {g:TG} {tb:L2.TS} {D:Ends} {σ:L2.St} {H:Hp}
theorem Ziw (Pv:Nat->L2.St->Hp->Prop) (h0:Pv 0 σ H) (hl:∀ i σ H,Pv i σ H->SqL K H a xs)
  (hs:∀ i x σ H B,xs[i]? = some x->H B=none->Pv i σ H->g (.ref B) σ (upd H B (.tup [.int (i:Nat),x])) fun σ2 H2=>tb { D with nx:=Pv (i+1),ct:=Pv (i+1),bk:=D.nx } σ2 H2)
  (hd:∀ σ H,Pv xs.length σ H->D.nx σ H) :
  ∃ W:Nat->Nat->L2.St->Hp->Prop,(∃ m,W 0 m σ H)/\∀ i m σ H,W i m σ H ->
   ((Ite K a).stop i H/\D.nx σ H)\/((Ite K a).go i H/\∃ N:L2.St->Hp->Prop,(∀ σ' H',N σ' H' -> ∃ m',m' < m/\W (i+1) m' σ' H')/\∀ x H',(Ite K a).yld i H x H' -> g x σ H' fun σ2 H2=>tb { D with nx:=N,ct:=N,bk:=D.nx } σ2 H2):=by
 refine ⟨fun i m σ H=>m=xs.length - i/\i<=xs.length/\Pv i σ H,⟨xs.length,by simp,Nat.zero_le _,h0⟩,?_⟩
 rintro i m σ H ⟨rfl,hi,p⟩
 have q:=hl i σ H p;by_cases hlt:i < xs.length
 .refine .inr ⟨⟨xs,xs[i],q,by simp[hlt]⟩,Pv (i+1),fun σ' H' p'=>⟨xs.length - (i+1),by omega,rfl,hlt,p'⟩,fun v H' y=>?_⟩;obtain ⟨B,x,rfl,hB,rfl,e1⟩:=y;exact hs i x σ H B (e1 xs q) hB p
 .have e:i=xs.length:=by omega
  subst e;exact .inl ⟨⟨xs,q,Nat.le_refl _⟩,hd σ H p⟩
end
theorem Zw.append {α:Type} {f:α->HO} {H:Hp} {as bs:List Addr} {xs ys:List α} (h:Zw f H as xs) (h2:Zw f H bs ys):Zw f H (as++bs) (xs++ys):=by
 refine ⟨by rw[List.length_append,List.length_append,h.1,h2.1],fun i c y e1 e2=>?_⟩;by_cases hi:i < as.length
 .rw[List.getElem?_append_left hi]at e1;rw[List.getElem?_append_left (by rw[<-h.1];exact hi)]at e2;exact h.2 i c y e1 e2
 .rw[List.getElem?_append_right (by omega)]at e1;rw[List.getElem?_append_right (by rw[<-h.1];omega),<-h.1]at e2;exact h2.2 _ c y e1 e2
def Qej (x:Hs) (Zi:Int) (i:Nat):List Tri:=Qwa x.runs (i:Int) (x.sh.rl (i:Int)).last Zi
def Yh (x:Hs) (Zi:Int):List Tri:=(List.range x.sh.reels.length).flatMap (Qej x Zi)
theorem Zdy (x:Hs) (Zi:Int) {i:Nat} (hi:i<=x.sh.reels.length):((List.range i).flatMap (Qej x Zi)).length<=(Yh x Zi).length:=by
 unfold Yh;have e:List.range i=(List.range x.sh.reels.length).take i:=by rw[List.take_range,Nat.min_eq_left hi]
 rw[e]
 conv=>rhs;rw[<-List.take_append_drop i (List.range x.sh.reels.length),List.flatMap_append]
 rw[List.length_append];omega
def Qtc (CM CR CS CH:Addr):Sp:=fun vs H Q _=>∃ A x,∃ Zi:Int,vs=[.ref A.h,.int Zi]/\Jx CM CR CS CH H A x/\x.sheet=some x.sh/\x.runs.length < 1000000/\(Yh x Zi).length<=10000000/\Zac H Q (Yh x Zi)
theorem Qog (D:Df K mg "frames_shown" Qei Jk) (T:Txt K mg CM CR CS CH) (Qk7:Ok P w K mg base "spans_of" 3 Qes Ziu) (Zh:Ok P w K mg base "last_frame" 1 Yo (Qqz CR)) :
  Ok P w K mg base "frames_shown" 4 Jk (Qtc CM CR CS CH):=by
 have SC:=Qoe;refine D.ok SC (fun vs H Q E h=>?_) (fun f _ A _ s H vs Q E hr h=>?_)
 .obtain ⟨A,x,Zi,rfl,_⟩:=h;rfl
 .obtain ⟨B,x,Zi,rfl,hh,hsh,Zwq,hlen,k⟩:=h;have hz:sizeLine=16777216:=rfl;refine ⟨_,(Qb (psL (i:=2) SC.nd (Za Qe)) (Qb (Qav PassesOwn.never rfl (Zoc rfl T.Qey (Qa (Qh (Qh (pv 0) rfl) rfl) Qe)) (Qqn rfl (Qaq (pgL (i:=3) SC.nd) (Qaq (pgL (i:=4) SC.nd) Qki))) (Qc (Qx (Qhn PySem.F.plainAttrs_list PySem.F.slot_list_extend PySem.F.type_list_extend Qmz (pv 2) (Qa (pcl Qk7 (hr.M) (Qa (Qh (pv 0) rfl) (Qa (pv 3) (Qa (pcl Zh (hr.M) (Qa (pv 4) Qe)) (Qa (pv 1) Qe))))) Qe))))) (Qc (Qm (pv 2))))),?_⟩;refine ⟨Nat.zero_le _,fun q hq=>?_⟩;have s0:Jw H (upd H q (.lst [])):=fun b o e=>by rw[Ql (Qg e hq)];exact e
  have hh0:=hh.same s0;have ho0:=hh0.obj;obtain ⟨hsv,hs0⟩:=hh0.Qty hsh;have Zw9:=hs0.obj;rw[hsv]at ho0;walk_at "R"
  refine ⟨B.srl,_,rfl,SqL.of hs0.lst,Ziw (K:=K) (a:=B.srl) (xs:=B.Qqy.map V.ref)
   (fun i σ H'=>i<=x.sh.reels.length/\Jw H H' /\ ∃ as,∃ v1 v2:Option V,σ=[some (.ref B.h),some (.int Zi),some (.ref q),v1,v2]/\H' q=some (.lst (as.map V.ref))/\Zw Qtx H' as ((List.range i).flatMap (Qej x Zi))/\∀ c ∈ as,H c=none)
   ⟨Nat.zero_le _,s0,[],none,none,rfl,Qk,⟨rfl,by simp⟩,by simp⟩ (fun i σ H' ⟨_,s1,_⟩=>SqL.of ((hh.same s1).Qty hsh).2.lst) ?_ ?_⟩
  .rintro i y σ H' C hi hC ⟨hil,s1,as,v1,v2,rfl,hq1,Zsg,fr1⟩
   rw[List.getElem?_map]at hi;obtain ⟨c,hc,rfl⟩:=Option.map_eq_some_iff.mp hi;have hlt:i < x.sh.reels.length:=by rw[<-hs0.rls.1];exact (List.getElem?_eq_some_iff.mp hc).1
   have s2:Jw H' (upd H' C (.tup [.int (i:Nat),.ref c])):=fun b o e=>by rw[Ql (Qg e hC)];exact e
   have hh2:=hh.same (s1.trans s2);have ho2:=hh2.obj;obtain ⟨_,hs2⟩:=hh2.Qty hsh;obtain ⟨dr,hcc⟩:=hs2.rls.2 i c x.sh.reels[i] hc (List.getElem?_eq_getElem hlt);have erl:x.sh.rl (i:Int)=x.sh.reels[i]:=by unfold Sh.rl;rw[Int.toNat_natCast,List.getD_eq_getElem?_getD,List.getElem?_eq_getElem hlt];rfl
   have en:(List.range (i+1)).flatMap (Qej x Zi)=(List.range i).flatMap (Qej x Zi)++Qej x Zi i:=by rw[List.range_succ,List.flatMap_append];simp
   have hlen2:=Zdy x Zi (i:=i+1) hlt;rw[en,List.length_append]at hlen2;refine ⟨C,_,rfl,SqT.of Qk,rfl,_,_,rfl,_,_,rfl,rfl,?_⟩;walk_at "R";refine ⟨.inl ⟨rfl,_,SqL.of (s2 _ _ hq1)⟩,?_⟩;walk_at "R";refine ⟨c,dr,_,rfl,hcc,?_⟩;walk_at "R";refine ⟨B.rl,B.rns,x.runs,(i:Int),x.sh.reels[i].last,Zi,rfl,hh2.runs,hh2.rns,Zwq,fun H3 p bs s3 hp hpl Zsh fr3=>?_⟩;have Zsh:Zw Qtx H3 bs (Qej x Zi i):=by unfold Qej;rw[erl];exact Zsh
   have hq3:=s3 _ _ (s2 _ _ hq1);have npq:q ≠ p:=fun z=>by rw[<-z,s2 _ _ hq1]at hp;cases hp
   refine ⟨q,p,_,_,rfl,rfl,hq3,hpl,?_,?_⟩
   .rw[List.length_map,List.length_map,Zsg.1,Zsh.1,hz];omega
   .have out:∀ b o,H3 b=some o->b ≠ q->upd H3 q (.lst (as.map V.ref++bs.map V.ref)) b=some o:=fun b o e n=>by rw[Ql n];exact e
    have rq:∀ (l:List Addr) (zs:List Tri),Zw Qtx H3 l zs->∀ d ∈ l,d ≠ q:=fun l zs r d hd=>by
     obtain ⟨e,h⟩:=r.mem hd;exact Yu h hq3 Zab
    have Zsi:Zw Qtx H3 as ((List.range i).flatMap (Qej x Zi)):=Zsg.keep fun d _ o e=>s3 d o (s2 d o e);refine ⟨hlt,fun b o e=>out b o (s3 b o (s2 b o (s1 b o e))) (Qg e hq),as++bs,_,_,rfl,by rw[Qk,List.map_append],?_,fun d hd=>?_⟩
    .rw[en];exact Zw.append (Zsi.keep fun d hd o e=>out d o e (rq _ _ Zsi d hd)) (Zsh.keep fun d hd o e=>out d o e (rq _ _ Zsh d hd))
    .rcases List.mem_append.mp hd with z | z
     .exact fr1 d z
     .exact (s1.trans s2).free (fr3 d z)
  .rintro σ H' ⟨hil,s1,as,v1,v2,rfl,hq1,Zsg,fr1⟩
   rw[List.length_map,hs0.rls.1]at Zsg;walk_at "R";exact k H' q as s1 hq hq1 Zsg fr1
def Zsj (H:Hp) (as:List Addr) (rows:List (List Int)):Prop:=as.length=rows.length/\∀ (i:Nat) (c:Addr) (r:List Int),as[i]? = some c->rows[i]? = some r->H c=some (.lst (r.map V.int))\/H c=some (.tup (r.map V.int))
def Qoh:Sp:=fun vs H Q _=>∃ p as rows,vs=[.ref p]/\H p=some (.lst (as.map V.ref))/\Zsj H as rows/\rows.flatten.length+1<=sizeLine/\∀ q,H q=none->Q (.ref q) (upd H q (Qah ((rows.length:Int)::rows.flatten)))
def Zuf (K:FG):V->List V->Hp->VK->Prop:=fun x vs H Q=>Zff x vs H Q\/Zr6 K x vs H Q
theorem Zp5 {X:Cx}:MtM X "list.extend" (Zuf X.K):=by
 intro pins s σ H x vs v us Q I rx rv h;rcases h with h | h
 .exact Qmz pins s σ H x vs v us Q I rx rv h
 .exact Zdt pins s σ H x vs v us Q I rx rv h
theorem Zdz (D:Df K mg "counted" Qof Qcc) (T:Txt K mg CM CR CS CH):Ok P w K mg base "counted" 1 Qcc Qoh:=by
 have SC:=Zdx;refine D.ok SC (fun vs H Q E h=>?_) (fun f _ A _ s H vs Q E hr h=>?_)
 .obtain ⟨p,as,rows,rfl,_⟩:=h;rfl
 .obtain ⟨p,as,rows,rfl,hp,row,hlen,k⟩:=h;refine ⟨_,(Qb (psL (i:=1) SC.nd (Za (Qa (Zk Zc rfl T.Qdp PySem.boot_len (Qa (pv 0) Qe)) Qe))) (Qb (Qav PassesOwn.never rfl (Jq (pv 0)) (pgL (i:=2) SC.nd) (Qc (Qx (Qhn PySem.F.plainAttrs_list PySem.F.slot_list_extend PySem.F.type_list_extend Zp5 (pv 1) (Qa (pv 2) Qe))))) (Qc (Qm (pv 1))))),?_⟩;walk_at "R";refine ⟨sz1,fun q hq=>?_⟩;rw[List.length_map,row.1];have hp1:∀ o,upd H q o p=some (.lst (as.map V.ref)):=fun o=>by rw[Ql (Qg hp hq)];exact hp
  walk_at "R"
  refine ⟨⟨_,SqL.of (hp1 _)⟩,Jm (K:=K) (a:=p) (xs:=as.map V.ref) (fun i σ H'=>i<=rows.length/\H' = upd H q (Qah ((rows.length:Int)::(rows.take i).flatten))/\∃ v:Option V,σ=[some (.ref p),some (.ref q),v])
   ⟨Nat.zero_le _,rfl,none,rfl⟩ (fun i σ H' _ ⟨_,e,_⟩=>by rw[e];exact SqL.of (hp1 _)) ?_ ?_⟩
  .rintro i y σ H' hi ⟨hil,rfl,v,rfl⟩
   rw[List.getElem?_map]at hi;obtain ⟨c,hc,rfl⟩:=Option.map_eq_some_iff.mp hi;have hlt:i < rows.length:=by rw[<-row.1];exact (List.getElem?_eq_some_iff.mp hc).1
   have e2:rows[i]? = some rows[i]:=List.getElem?_eq_getElem hlt;have en:(rows.take (i+1)).flatten=(rows.take i).flatten++rows[i]:=by rw[List.take_succ,e2,List.flatten_append];simp
   have hl2:(rows.take i).flatten.length+rows[i].length<=rows.flatten.length:=by
    have e4:rows.flatten=(rows.take (i+1)).flatten++(rows.drop (i+1)).flatten:=by rw[<-List.flatten_append,List.take_append_drop]
    rw[e4,en,List.length_append,List.length_append];omega
   have fin:∀ H2,H2=upd (upd H q (Qah ((rows.length:Int)::(rows.take i).flatten))) q (.lst ((((rows.length:Int)::(rows.take i).flatten).map V.int)++rows[i].map V.int))->H2=upd H q (Qah ((rows.length:Int)::(rows.take (i+1)).flatten)):=fun H2 e=>by
    rw[e,Zb,en];unfold Qah;simp
   walk_at "R";refine ⟨.inl ⟨rfl,_,SqL.of Qk⟩,?_⟩;walk_at "R";rcases row.2 i c _ hc e2 with h1 | h1
   .refine .inl ⟨q,c,_,_,rfl,rfl,Qk,by rw[Ql (Qg h1 hq)];exact h1,?_,hlt,fin _ rfl,_,rfl⟩;rw[List.length_map,List.length_map,List.length_cons];omega
   .refine .inr ⟨q,c,_,_,rfl,rfl,Qk,SqT.of (by rw[Ql (Qg h1 hq)];exact h1),?_,hlt,fin _ rfl,_,rfl⟩;rw[List.length_map,List.length_map,List.length_cons];omega
  .rintro σ H' ⟨hil,rfl,v,rfl⟩
   rw[List.length_map,row.1,List.take_length];walk_at "R";exact k q hq
end
noncomputable abbrev Qtd:Stmt:=top 142
noncomputable abbrev Zl6:List Str:=["holds"]
noncomputable abbrev Qfc:List Str:=["holds"]
theorem Zix:Qn Zl6 Qfc (Qi Qtd):=by walk_at "sc"
noncomputable abbrev Qbw:Stmt:=top 144
noncomputable abbrev Qhr:List Str:=["house","numbers","machine","states","answer","state"]
noncomputable abbrev Qbx:List Str:=["house","numbers"]
theorem Qoi:Qn Qhr Qbx (Qi Qbw):=by walk_at "sc"
noncomputable abbrev Qg0:Stmt:=top 145
noncomputable abbrev Qwi:List Str:=["house","numbers"]
noncomputable abbrev Qdz:List Str:=["house","numbers"]
theorem Qte:Qn Qwi Qdz (Qi Qg0):=by walk_at "sc"
noncomputable abbrev Qfd:Stmt:=top 146
noncomputable abbrev Qtf:List Str:=["house","numbers","seen"]
noncomputable abbrev Qct:List Str:=["house","numbers"]
theorem Qqa:Qn Qtf Qct (Qi Qfd):=by walk_at "sc"
noncomputable abbrev Qfe:Stmt:=top 147
noncomputable abbrev Qtg:List Str:=["house","numbers"]
noncomputable abbrev Qcu:List Str:=["house","numbers"]
theorem Qqb:Qn Qtg Qcu (Qi Qfe):=by walk_at "sc"
noncomputable abbrev Qk8:Stmt:=top 148
noncomputable abbrev Zd0:List Str:=["house","numbers"]
noncomputable abbrev Qhl:List Str:=["house","numbers"]
theorem Zae:Qn Zd0 Qhl (Qi Qk8):=by walk_at "sc"
noncomputable abbrev Qiz:Stmt:=top 149
noncomputable abbrev Zaf:List Str:=["house","numbers"]
noncomputable abbrev Qff:List Str:=["house","numbers"]
theorem Qwj:Qn Zaf Qff (Qi Qiz):=by walk_at "sc"
noncomputable abbrev Qg1:Stmt:=top 150
noncomputable abbrev Qwk:List Str:=["house","numbers"]
noncomputable abbrev Qd0:List Str:=["house","numbers"]
theorem Qth:Qn Qwk Qd0 (Qi Qg1):=by walk_at "sc"
noncomputable abbrev Qfg:Stmt:=top 154
noncomputable abbrev Qoj:List Str:=["house","numbers","machine"]
noncomputable abbrev Qfh:List Str:=["house","numbers"]
theorem Qwl:Qn Qoj Qfh (Qi Qfg):=by walk_at "sc"
noncomputable abbrev Qi0:Stmt:=top 130
noncomputable abbrev Zag:List Str:=["house","numbers","number","more","refusal","machine","place"]
noncomputable abbrev Qfi:List Str:=["house","numbers"]
theorem Qwm:Qn Zag Qfi (Qi Qi0):=by walk_at "sc"
def b2i (b:Bool):Int:=if b=true then 1 else 0
def Zl7:Sp:=fun vs H Q _=>∃ b:Bool,vs=[.bl b]/\Q (.int (b2i b)) H
theorem Ziy (D:Df K mg "one_if" Qtd Qfc) (T:Txt K mg CM CR CS CH):Ok P w K mg base "one_if" 1 Qfc Zl7:=by
 have SC:=Zix;refine D.ok SC (fun vs H Q E h=>?_) (fun f _ A _ s H vs Q E hr h=>?_)
 .obtain ⟨b,rfl,_⟩:=h;rfl
 .obtain ⟨b,rfl,k⟩:=h;refine ⟨_,(Qc (Qm (Za0 (Zm (pv 0)) Qj Qj))),?_⟩;walk_at "go"
  all_goals exact Qfz k (by unfold b2i;simp_all)
def Qok (x:Hs) (ns:List Int):Hs × List Int:=
 if isM (ns.getD 0 0)=true then (x,[(x.mc (ns.getD 0 0)).reel,(x.mc (ns.getD 0 0)).place,b2i (x.mc (ns.getD 0 0)).motor,(x.mc (ns.getD 0 0)).phase] ++
  [(x.mc (ns.getD 0 0)).lit x.sh.strike,(x.mc (ns.getD 0 0)).Qbi,(x.mc (ns.getD 0 0)).seized,(x.mc (ns.getD 0 0)).Qjc,(x.mc (ns.getD 0 0)).dead].map b2i) else (x,[-1])
theorem Qol (D:Df K mg "call_machine" Qbw Qbx) (T:Txt K mg CM CR CS CH) (Qv:Ok P w K mg base "is_machine" 1 Zp Qp6) (Jy:Ok P w K mg base "is_lit" 1 Qdv (Zg2 CM CS)) (Qby:Ok P w K mg base "one_if" 1 Qfc Zl7) :
  Ok P w K mg base "call_machine" 2 Qbx (Jn K CM CR CS CH 1 Qbf Qok):=by
 have SC:=Qoi;refine D.ok SC (fun vs H Q E h=>?_) (fun f _ A _ s H vs Q E hr h=>?_)
 .obtain ⟨A,x,np,ns,rfl,_⟩:=h;rfl
 .obtain ⟨B,x,np,ns,rfl,hh,hn,hl,g,k⟩:=h;obtain ⟨m,rfl⟩:=Qjy hl;have ho:=hh.obj;obtain ⟨hsv,hsh⟩:=hh.Qty g.sh;have hso:=hsh.obj;refine ⟨_,(Qb (Qz (Qae (Zm (pcl Qv (hr.M) (Qa (Zf Qt (pv 1) Qj (fun _ _=>rfl)) Qe)))) (Qc (Qm (Za (Qa (pgi T.Zd) Qe)))) Qp) (Qb (psL (i:=2) SC.nd (Zf Qt (Qh (pv 0) rfl) (Zf Qt (pv 1) Qj (fun _ _=>rfl)) (fun _ _=>rfl))) (Qb (psL (i:=3) SC.nd (Za (Qa (pcl Jy (hr.M) (Qa (pv 2) (Qa (Qh (pv 0) rfl) Qe))) (Qa (Qh (pv 2) rfl) (Qa (Qh (pv 2) rfl) (Qa (Qh (pv 2) rfl) (Qa (Qh (pv 2) rfl) Qe))))))) (Qb (psL (i:=4) SC.nd (Za (Qa (Qh (pv 2) rfl) (Qa (Qh (pv 2) rfl) (Qa (pcl Qby (hr.M) (Qa (Qh (pv 2) rfl) Qe)) (Qa (Qh (pv 2) rfl) Qe)))))) (Qc (Qm (Zq Zfg (pv 4) (Zfj rfl SC.nd (Jq (pv 3)) (Qja (own:=[("state",5)]) (by show Zn8 Qhr (Qi Qbw) _ _=true;decide +kernel)) (fun _ _ _ _ _=>(pgL (i:=5) SC.nd)) (fun _ _ _ _ _=>Qx5) (fun _ _ _ _ _=>(pcl Qby (hr.M) (Qa (pv 5) Qe))))))))))),?_⟩;walk_at "R";refine ⟨np,_,_,.int m,rfl,rfl,hn,at_of (j:=0) rfl rfl,?_⟩;refine ⟨m,rfl,_,rfl,?_⟩;cases h1:isM m with
  | false =>
   refine Qfs ?_;refine ⟨sz1,Qw (l:=[-1]) hh (Step.refl _ _) ?_ ?_ k⟩
   .unfold Qok;rw[if_neg (by simp[h1])]
   .unfold Qok;rw[if_neg (by simp[h1])]
  | true =>
   refine Qf7 ?_;have ha:=hh.mc m;have eC:Qok x [m]=(x,[(x.mc m).reel,(x.mc m).place,b2i (x.mc m).motor,(x.mc m).phase]++[(x.mc m).lit x.sh.strike,(x.mc m).Qbi,(x.mc m).seized,(x.mc m).Qjc,(x.mc m).dead].map b2i):=by unfold Qok;rw[if_pos (show isM ([m].getD 0 0)=true from h1)];rfl
   rw[eC]at k;walk_at "R";refine ⟨np,_,_,.int m,rfl,rfl,hn,at_of (j:=0) rfl rfl,?_⟩;refine ⟨B.ml,_,_,_,rfl,rfl,SqL.of hh.ml,Zbh (isM.Qdo h1),?_⟩;walk_at "R";refine ⟨B.am m,B.dm m,x.mc m,B.sb,B.sdy,_,_,x.sh.strike,_,_,_,by rw[hsv];rfl,ha,hso,?_⟩;walk_at "R";generalize hst:[(x.mc m).lit x.sh.strike,(x.mc m).Qbi,(x.mc m).seized,(x.mc m).Qjc,(x.mc m).dead]=bs at k;have ebs:[V.bl ((x.mc m).lit x.sh.strike),.bl (x.mc m).Qbi,.bl (x.mc m).seized,.bl (x.mc m).Qjc,.bl (x.mc m).dead]=bs.map V.bl:=by rw[<-hst];rfl
   have hbl:bs.length=5:=by rw[<-hst];rfl
   refine ⟨(by show 5<=sizeLine;decide),fun l hl1=>?_⟩;rw[ebs];have s1:Jw H (upd H l (.lst (bs.map V.bl))):=fun b o e=>by rw[Ql (Qg e hl1)];exact e
   have ha1:=s1 _ _ ha;walk_at "R"
   try refine ⟨(by show 4<=sizeLine;decide),?_⟩
   intro an han;generalize hH2:upd (upd H l (.lst (bs.map V.bl))) an (.lst [.int (x.mc m).reel,.int (x.mc m).place,.int (b2i (x.mc m).motor),.int (x.mc m).phase])=H2;have s2:Jw (upd H l (.lst (bs.map V.bl))) H2:=fun b o e=>by rw[<-hH2,Ql (Qg e han)];exact e
   have hl2:H2 l=some (.lst (bs.map V.bl)):=s2 _ _ Qk;have Zvb:H2 an=some (.lst ([(x.mc m).reel,(x.mc m).place,b2i (x.mc m).motor,(x.mc m).phase].map V.int)):=by rw[<-hH2];exact Qk
   walk_at "R";refine ⟨⟨_,SqL.of hl2⟩,fun C hC=>?_⟩;refine Qx6 (K:=K) (a:=l) (xs:=bs.map V.bl) (fun i H3=>i<=5/\H3=upd H2 C (Qah ((bs.take i).map b2i))) ⟨Nat.zero_le _,rfl⟩ (fun i H3 _ ⟨_,e⟩=>by rw[e];exact SqL.of (by rw[Ql (Qg hl2 hC)];exact hl2)) ?_ ?_
   .rintro i y H3 hi ⟨hi5,rfl⟩
    rw[List.getElem?_map]at hi;obtain ⟨b,hb,rfl⟩:=Option.map_eq_some_iff.mp hi;have hlt:i < bs.length:=(List.getElem?_eq_some_iff.mp hb).1;refine ⟨rfl,?_⟩;walk_at "R";refine ⟨_,Qk,?_,by omega,?_⟩
    .rw[List.length_map,List.length_map,List.length_take];have hz:sizeLine=16777216:=rfl;omega
    .rw[Zb,List.take_succ,hb];unfold Qah;simp
   .rintro H3 ⟨_,rfl⟩
    rw[List.length_map,List.take_length];have Zwr:upd H2 C (Qah (bs.map b2i)) an=some (.lst ([(x.mc m).reel,(x.mc m).place,b2i (x.mc m).motor,(x.mc m).phase].map V.int)):=by rw[Ql (Qg Zvb hC)];exact Zvb
    refine ⟨an,C,_,_,rfl,rfl,Zwr,Qk,?_,?_⟩
    .rw[List.length_map,List.length_map,List.length_map,hbl];show 4+5<=sizeLine;decide
    .have s3:Jw H2 (upd H2 C (Qah (bs.map b2i))):=fun b o e=>by rw[Ql (Qg e hC)];exact e
     have e9:[(x.mc m).reel,(x.mc m).place,b2i (x.mc m).motor,(x.mc m).phase].map V.int++(bs.map b2i).map V.int=([(x.mc m).reel,(x.mc m).place,b2i (x.mc m).motor,(x.mc m).phase]++bs.map b2i).map V.int:=by rw[List.map_append]
     rw[e9];have s9:=(s1.trans s2).trans s3;exact Qw (l:=[(x.mc m).reel,(x.mc m).place,b2i (x.mc m).motor,(x.mc m).phase]++bs.map b2i) (hh.same s9) (Step.same s9) rfl rfl k
def Ziz (x:Hs) (_:List Int):Hs × List Int:=(x,[x.ticks,x.mode,x.active,x.target,x.reason,x.dark])
theorem Qti (D:Df K mg "call_house" Qg0 Qdz) (T:Txt K mg CM CR CS CH):Ok P w K mg base "call_house" 1 Qdz (Jn K CM CR CS CH 0 Qbf Ziz):=by
 have SC:=Qte;refine D.ok SC (fun vs H Q E h=>?_) (fun f _ A _ s H vs Q E hr h=>?_)
 .obtain ⟨A,x,np,ns,rfl,_⟩:=h;rfl
 .obtain ⟨B,x,np,ns,rfl,hh,hn,hl,g,k⟩:=h;have ho:=hh.obj;refine ⟨_,(Qc (Qm (Za (Qa (Qh (pv 0) rfl) (Qa (Qh (pv 0) rfl) (Qa (Qh (pv 0) rfl) (Qa (Qh (pv 0) rfl) (Qa (Qh (pv 0) rfl) (Qa (Qh (pv 0) rfl) Qe))))))))),?_⟩;walk_at "R";exact ⟨(by show 6<=sizeLine;decide),Qw (l:=[x.ticks,x.mode,x.active,x.target,x.reason,x.dark]) hh (Step.refl _ _) rfl rfl k⟩
def Qg2 (x:Hs) (_:List Int):Hs × List Int:=(x,match x.seen with | some r=>[1,r.1,r.2] | none=>[0])
theorem Qqc (D:Df K mg "call_screen" Qfd Qct) (T:Txt K mg CM CR CS CH) (Qbp:Ok P w K mg base "on_screen" 2 Qbo (Zhc CM CR CS CH)):Ok P w K mg base "call_screen" 3 Qct (Jn K CM CR CS CH 0 Qbf Qg2):=by
 have SC:=Qqa;refine D.ok SC (fun vs H Q E h=>?_) (fun f _ A _ s H vs Q E hr h=>?_)
 .obtain ⟨A,x,np,ns,rfl,_⟩:=h;rfl
 .obtain ⟨B,x,np,ns,rfl,hh,hn,hl,g,k⟩:=h;refine ⟨_,(Qb (psL (i:=2) SC.nd (pcl Qbp (hr.M) (Qa (pv 0) Qe))) (Qb (Qz (Qo Zmq (pv 2) Qtz (Qq _)) (Qc (Qm (Za (Qa Qj Qe)))) Qp) (Qc (Qm (Za (Qa Qj (Qa (Zf Qbh (pv 2) Qj (fun _ _=>rfl)) (Qa (Zf Qbh (pv 2) Qj (fun _ _=>rfl)) Qe)))))))),?_⟩;walk_at "R";refine ⟨B,x,rfl,hh,g.sh,fun e0=>?_,fun r e0 p hp=>?_⟩
  .refine ⟨_,rfl,rfl,_,rfl,Qfs ?_⟩;have eC:(Qg2 x ns).2=[0]:=by unfold Qg2;rw[e0]
   exact ⟨sz1,Qw (l:=[0]) hh (Step.refl _ _) rfl eC k⟩
  .have s1:Jw H (upd H p (.tup [.int r.1,.int r.2])):=fun b o q=>by rw[Ql (Qg q hp)];exact q
   have hp2:upd H p (.tup [.int r.1,.int r.2]) p=some (.tup [.int r.1,.int r.2]):=Qk;have eC:(Qg2 x ns).2=[1,r.1,r.2]:=by unfold Qg2;rw[e0]
   refine ⟨_,rfl,rfl,_,rfl,Qf7 ?_⟩;walk_at "R";refine ⟨p,_,_,_,rfl,rfl,SqT.of hp2,rfl,?_⟩;walk_at "R";refine ⟨p,_,_,_,rfl,rfl,SqT.of hp2,rfl,?_⟩;exact ⟨(by show 3<=sizeLine;decide),Qw (l:=[1,r.1,r.2]) (hh.same s1) (Step.same s1) rfl eC k⟩
def Zl8 (g:Hs->List Int->Hs × List Int) (x:Hs):Prop:=Qbf x/\(g x []).2.length<=10000000
def Qom (x:Hs) (_:List Int):Hs × List Int:=(x,(x.runs.length:Int)::(x.runs.map fun r=>[r.1,r.2.1,r.2.2.1,r.2.2.2]).flatten)
def cLog (x:Hs) (_:List Int):Hs × List Int:=(x,(x.log.length:Int)::(x.log.map fun r=>[r.1,r.2.1,r.2.2]).flatten)
def Qwn (l:List Tri):List (List Int):=l.map fun r=>[r.1,r.2.1,r.2.2]
def Zi0 (x:Hs) (_:List Int):Hs × List Int:=(x,((Yh x 0).length:Int)::(Qwn (Yh x 0)).flatten)
def Qwo (x:Hs) (_:List Int):Hs × List Int:=(x,((Yh x 2).length:Int)::(Qwn (Yh x 2)).flatten)
theorem Qtj {n:Nat} (h:n+1<=10000000):n+1<=sizeLine:=by have hz:sizeLine=16777216:=rfl;omega
theorem Zb3 (l:List Tri):l.length<=(Qwn l).flatten.length:=by
 induction l with
 | nil=>simp
 | cons a r ih =>unfold Qwn at ih ⊢;rw[List.map_cons,List.flatten_cons,List.length_append];simp only[List.length_cons,List.length_nil];omega
theorem Qqd (D:Df K mg "call_record" Qfe Qcu) (T:Txt K mg CM CR CS CH) (Jf:Ok P w K mg base "counted" 1 Qcc Qoh):Ok P w K mg base "call_record" 2 Qcu (Jn K CM CR CS CH 0 (Zl8 Qom) Qom):=by
 have SC:=Qqb;refine D.ok SC (fun vs H Q E h=>?_) (fun f _ A _ s H vs Q E hr h=>?_)
 .obtain ⟨A,x,np,ns,rfl,_⟩:=h;rfl
 .obtain ⟨B,x,np,ns,rfl,hh,hn,hl,⟨g,hlen⟩,k⟩:=h;have hlen:(x.runs.map fun r=>[r.1,r.2.1,r.2.2.1,r.2.2.2]).flatten.length+1<=10000000:=hlen;have ho:=hh.obj;refine ⟨_,(Qc (Qm (pcl Jf (hr.M) (Qa (Qh (pv 0) rfl) Qe)))),?_⟩;walk_at "R";refine ⟨B.rl,B.rns,x.runs.map fun r=>[r.1,r.2.1,r.2.2.1,r.2.2.2],rfl,hh.runs,⟨by rw[List.length_map];exact hh.rns.1,fun i c r h1 h2=>.inl ?_⟩,Qtj hlen,?_⟩
  .rw[List.getElem?_map]at h2;obtain ⟨e,he,rfl⟩:=Option.map_eq_some_iff.mp h2;exact hh.rns.2 i c e h1 he
  .rw[List.length_map];exact Qw (l:=(x.runs.length:Int)::(x.runs.map fun r=>[r.1,r.2.1,r.2.2.1,r.2.2.2]).flatten) hh (Step.refl _ _) rfl rfl k
theorem Zah (D:Df K mg "call_log" Qk8 Qhl) (T:Txt K mg CM CR CS CH) (Jf:Ok P w K mg base "counted" 1 Qcc Qoh):Ok P w K mg base "call_log" 2 Qhl (Jn K CM CR CS CH 0 (Zl8 cLog) cLog):=by
 have SC:=Zae;refine D.ok SC (fun vs H Q E h=>?_) (fun f _ A _ s H vs Q E hr h=>?_)
 .obtain ⟨A,x,np,ns,rfl,_⟩:=h;rfl
 .obtain ⟨B,x,np,ns,rfl,hh,hn,hl,⟨g,hlen⟩,k⟩:=h;have hlen:(x.log.map fun r=>[r.1,r.2.1,r.2.2]).flatten.length+1<=10000000:=hlen;have ho:=hh.obj;refine ⟨_,(Qc (Qm (pcl Jf (hr.M) (Qa (Qh (pv 0) rfl) Qe)))),?_⟩;walk_at "R";refine ⟨B.ll,B.lts,x.log.map fun r=>[r.1,r.2.1,r.2.2],rfl,hh.log,⟨by rw[List.length_map];exact hh.lts.1,fun i c r h1 h2=>.inr ?_⟩,Qtj hlen,?_⟩
  .rw[List.getElem?_map]at h2;obtain ⟨e,he,rfl⟩:=Option.map_eq_some_iff.mp h2;exact hh.lts.2 i c e h1 he
  .rw[List.length_map];exact Qw (l:=(x.log.length:Int)::(x.log.map fun r=>[r.1,r.2.1,r.2.2]).flatten) hh (Step.refl _ _) rfl rfl k
theorem Zb4 {H:Hp} {as:List Addr} {xs:List Tri} (r:Zw Qtx H as xs):Zsj H as (Qwn xs):=by refine ⟨by unfold Qwn;rw[List.length_map];exact r.1,fun i c y h1 h2=>.inr ?_⟩;unfold Qwn at h2;rw[List.getElem?_map]at h2;obtain ⟨e,he,rfl⟩:=Option.map_eq_some_iff.mp h2;exact r.2 i c e h1 he
theorem Qwp (D:Df K mg "call_lost" Qiz Qff) (T:Txt K mg CM CR CS CH) (Jf:Ok P w K mg base "counted" 1 Qcc Qoh) (Jl:Ok P w K mg base "frames_shown" 4 Jk (Qtc CM CR CS CH)) :
  Ok P w K mg base "call_lost" 5 Qff (Jn K CM CR CS CH 0 (Zl8 Zi0) Zi0):=by
 have SC:=Qwj;refine D.ok SC (fun vs H Q E h=>?_) (fun f _ A _ s H vs Q E hr h=>?_)
 .obtain ⟨A,x,np,ns,rfl,_⟩:=h;rfl
 .obtain ⟨B,x,np,ns,rfl,hh,hn,hl,⟨g,hlen⟩,k⟩:=h;have hlen:(Qwn (Yh x 0)).flatten.length+1<=10000000:=hlen;have hl3:=Zb3 (Yh x 0);refine ⟨_,(Qc (Qm (pcl Jf (hr.M) (Qa (pcl Jl (hr.M) (Qa (pv 0) (Qa (pgi T.Zgw) Qe))) Qe)))),?_⟩;walk_at "R";refine ⟨B,x,0,rfl,hh,g.sh,Nat.lt_trans g.Zpr (by decide),by omega,fun H1 p as s1 hp hpl row fr=>?_⟩;walk_at "R";refine ⟨p,as,Qwn (Yh x 0),rfl,hpl,Zb4 row,Qtj hlen,?_⟩;rw[show (Qwn (Yh x 0)).length=(Yh x 0).length from List.length_map _];exact Qw (l:=((Yh x 0).length:Int)::(Qwn (Yh x 0)).flatten) (hh.same s1) (Step.same s1) rfl rfl k
theorem Qtk (D:Df K mg "call_twice" Qg1 Qd0) (T:Txt K mg CM CR CS CH) (Jf:Ok P w K mg base "counted" 1 Qcc Qoh) (Jl:Ok P w K mg base "frames_shown" 4 Jk (Qtc CM CR CS CH)) :
  Ok P w K mg base "call_twice" 5 Qd0 (Jn K CM CR CS CH 0 (Zl8 Qwo) Qwo):=by
 have SC:=Qth;refine D.ok SC (fun vs H Q E h=>?_) (fun f _ A _ s H vs Q E hr h=>?_)
 .obtain ⟨A,x,np,ns,rfl,_⟩:=h;rfl
 .obtain ⟨B,x,np,ns,rfl,hh,hn,hl,⟨g,hlen⟩,k⟩:=h;have hlen:(Qwn (Yh x 2)).flatten.length+1<=10000000:=hlen;have hl3:=Zb3 (Yh x 2);refine ⟨_,(Qc (Qm (pcl Jf (hr.M) (Qa (pcl Jl (hr.M) (Qa (pv 0) (Qa (pgi T.Qyg) Qe))) Qe)))),?_⟩;walk_at "R";refine ⟨B,x,2,rfl,hh,g.sh,Nat.lt_trans g.Zpr (by decide),by omega,fun H1 p as s1 hp hpl row fr=>?_⟩;walk_at "R";refine ⟨p,as,Qwn (Yh x 2),rfl,hpl,Zb4 row,Qtj hlen,?_⟩;rw[show (Qwn (Yh x 2)).length=(Yh x 2).length from List.length_map _];exact Qw (l:=((Yh x 2).length:Int)::(Qwn (Yh x 2)).flatten) (hh.same s1) (Step.same s1) rfl rfl k
noncomputable abbrev Qon:Stmt:=top 68
noncomputable abbrev Zi1:List Str:=["sheet","number"]
noncomputable abbrev Qg3:List Str:=["sheet","number"]
theorem Zd1:Qn Zi1 Qg3 (Qi Qon):=by walk_at "sc"
noncomputable abbrev Qoo:Stmt:=top 69
noncomputable abbrev Zi2:List Str:=["sheet","ticks","first","reel","last"]
noncomputable abbrev Qg4:List Str:=["sheet"]
theorem Zd2:Qn Zi2 Qg4 (Qi Qoo):=by walk_at "sc"
noncomputable abbrev Qi1:Stmt:=top 151
noncomputable abbrev Zai:List Str:=["house","numbers"]
noncomputable abbrev Qfj:List Str:=["house","numbers"]
theorem Qwq:Qn Zai Qfj (Qi Qi1):=by walk_at "sc"
noncomputable abbrev Qi2:Stmt:=top 152
noncomputable abbrev Zaj:List Str:=["house","numbers"]
noncomputable abbrev Qfk:List Str:=["house","numbers"]
theorem Qwr:Qn Zaj Qfk (Qi Qi2):=by walk_at "sc"
noncomputable abbrev Qi3:Stmt:=top 153
noncomputable abbrev Zak:List Str:=["house","numbers","reel"]
noncomputable abbrev Qfl:List Str:=["house","numbers"]
theorem Qws:Qn Zak Qfl (Qi Qi3):=by walk_at "sc"
theorem Zp6 {X:Cx} {e:Expr} {f:Str} {pos:Pos} {ta:TE} (K:FG) (he:PE X e ta) (hb:attributeBase e f X.env (eval e X.env)=eval e X.env) (hk:X.K=K:=by rfl):PE X (.Attribute e f pos) (Qxr K ta f):=by subst hk;exact Qh he hb
def Zp7 (x:Hs) (_:List Int):Hs × List Int:=(x,[x.m0,x.m1].map fun m=>b2i (decide (m.phase=0)))
theorem Qwt (D:Df K mg "call_free" Qfg Qfh) (T:Txt K mg CM CR CS CH) (Qby:Ok P w K mg base "one_if" 1 Qfc Zl7):Ok P w K mg base "call_free" 2 Qfh (Jn K CM CR CS CH 0 Qbf Zp7):=by
 have SC:=Qwl;refine D.ok SC (fun vs H Q E h=>?_) (fun f _ A _ s H vs Q E hr h=>?_)
 .obtain ⟨A,x,np,ns,rfl,_⟩:=h;rfl
 .obtain ⟨B,x,np,ns,rfl,hh,hn,hl,g,k⟩:=h;have ho:=hh.obj;refine ⟨_,(Qc (Qm (Zfj rfl SC.nd (Jq (Qh (pv 0) rfl)) (Qja (own:=[("machine",2)]) (by show Zn8 Qoj (Qi Qfg) _ _=true;decide +kernel)) (fun _ _ _ _ _=>(pgL (i:=2) SC.nd)) (fun _ _ _ _ _=>Qx5) (fun _ _ _ _ _=>(pcl Qby (hr.M) (Qa (Yg Yc (Zp6 K (pv 2) rfl) (pgi T.Qex) (Qq _)) Qe)))))),?_⟩;walk_at "R";refine ⟨⟨_,SqL.of hh.ml⟩,fun C hC=>?_⟩;have hm0:∀ o,upd H C o B.a0=some (.ins CM B.d0 (mF x.m0)):=fun o=>by rw[Ql (Qg hh.m0 hC)];exact hh.m0
  have hm1:∀ o,upd H C o B.a1=some (.ins CM B.d1 (mF x.m1)):=fun o=>by rw[Ql (Qg hh.m1 hC)];exact hh.m1
  refine Qx6 (K:=K) (a:=B.ml) (xs:=[.ref B.a0,.ref B.a1]) (fun i H3=>H3=upd H C (Qah (([x.m0,x.m1].take i).map fun m=>b2i (decide (m.phase=0))))) rfl (fun i H3 _ e=>by rw[e];exact SqL.of (by rw[Ql (Qg hh.ml hC)];exact hh.ml)) ?_ ?_
  .rintro i y H3 hi rfl
   match i,hi with
   | 0,hi =>have e:V.ref B.a0=y:=Option.some.inj hi;subst e;have h3:=hm0 (Qah (([x.m0,x.m1].take 0).map fun m=>b2i (decide (m.phase=0))));refine ⟨rfl,?_⟩;walk_at "R";have ed:decide (V.int x.m0.phase=V.int 0)=decide (x.m0.phase=0):=decide_eq_decide.mpr ⟨fun z=>V.int.inj z,fun z=>by rw[z]⟩;rw[ed];refine ⟨_,Qk,by show 0 < sizeLine;decide,?_⟩;rw[Zb];rfl
   | 1,hi =>have e:V.ref B.a1=y:=Option.some.inj hi;subst e;have h3:=hm1 (Qah (([x.m0,x.m1].take 1).map fun m=>b2i (decide (m.phase=0))));refine ⟨rfl,?_⟩;walk_at "R";have ed:decide (V.int x.m1.phase=V.int 0)=decide (x.m1.phase=0):=decide_eq_decide.mpr ⟨fun z=>V.int.inj z,fun z=>by rw[z]⟩;rw[ed];refine ⟨_,Qk,by show 1 < sizeLine;decide,?_⟩;rw[Zb];rfl
   | i+2,hi=>simp at hi
  .rintro H3 rfl
   exact Qw (l:=[x.m0,x.m1].map fun m=>b2i (decide (m.phase=0))) hh (Step.refl _ _) rfl rfl k C hC
def Qdj (m k:Int):Bool:=isM m&&(decide (-96<=k)&&decide (k<=96))
def Qrc (x:Hs) (m k:Int):Hs × List Int:=if (x.mc m).reel = -1 then (x,[-6]) else if (x.mc m).place+k < -x.sh.leader\/(x.sh.rl (x.mc m).reel).frames < (x.mc m).place+k then (x,[-7]) else (x.setM m { x.mc m with place:=(x.mc m).place+k },[0,(x.mc m).place+k])
def Qmh (x:Hs) (ns:List Int):Hs × List Int:=
 if Qdj (ns.getD 0 0) (ns.getD 1 0)=true then (if x.busy (ns.getD 0 0)=true then (x,[-3]) else if ¬ (x.mc (ns.getD 0 0)).phase=0 then (x,[-4]) else Qrc x (ns.getD 0 0) (ns.getD 1 0)) else (x,[-1])
theorem Qwu (D:Df K mg "call_inch" Qi0 Qfi) (T:Txt K mg CM CR CS CH) (Qv:Ok P w K mg base "is_machine" 1 Zp Qp6) (Zz:Ok P w K mg base "film_refusal" 2 Ys (Zbq CM CR CS CH)) :
  Ok P w K mg base "call_inch" 3 Qfi (Jn K CM CR CS CH 2 Qbf Qmh):=by
 have SC:=Qwm;refine D.ok SC (fun vs H Q E h=>?_) (fun f _ A _ s H vs Q E hr h=>?_)
 .obtain ⟨A,x,np,ns,rfl,_⟩:=h;rfl
 .obtain ⟨B,x,np,ns,rfl,hh,hn,hl,g,k⟩:=h;obtain ⟨m,r,rfl⟩:∃ m r,ns=[m,r]:=by
   match ns,hl with
   | [m,r],_=>exact ⟨m,r,rfl⟩
  have ho:=hh.obj;obtain ⟨hsv,hsh⟩:=hh.Qty g.sh;have hso:=hsh.obj;have ha:=hh.mc m;rw[hsv]at ho;refine ⟨_,(Qb (psL (i:=2) SC.nd (Zf Qt (pv 1) Qj (fun _ _=>rfl))) (Qb (psL (i:=3) SC.nd (Zf Qt (pv 1) Qj (fun _ _=>rfl))) (Qb (Qz (PW.pt (Qi7 (Qae (Zm (pcl Qv (hr.M) (Qa (pv 2) Qe)))) (Qi7 (Qo Qh0 (pv 3) (Qkk Qem (pgi T.Qh6)) (Qq _)) (Qfr (Qo Qd3 (pv 3) (pgi T.Qh6) (Qq _)))))) (Qc (Qm (Za (Qa (pgi T.Zd) Qe)))) Qp) (Qb (psL (i:=4) SC.nd (pcl Zz (hr.M) (Qa (pv 0) (Qa (pv 2) Qe)))) (Qb (Qz (Qo Qpj (pv 4) Qj (Qq _)) (Qc (Qm (Za (Qa (pv 4) Qe)))) Qp) (Qb (psL (i:=5) SC.nd (Zf Qt (Qh (pv 0) rfl) (pv 2) (fun _ _=>rfl))) (Qb (Qz (Qo Yc (Qh (pv 5) rfl) (pgi T.Qai) (Qq _)) (Qc (Qm (Za (Qa (pgi T.Qaj) Qe)))) Qp) (Qb (psL (i:=6) SC.nd (Zq Qa1 (Qh (pv 5) rfl) (pv 3))) (Qb (Qz (PW.pt (Qi7 (Qo Qh0 (pv 6) (Qkk Qem (Qh (Qh (pv 0) rfl) rfl)) (Qq _)) (Qfr (Qo Qd3 (pv 6) (Qh (Zf Qt (Qh (Qh (pv 0) rfl) rfl) (Qh (pv 5) rfl) (fun _ _=>rfl)) rfl) (Qq _))))) (Qc (Qm (Za (Qa (pgi T.Quf) Qe)))) Qp) (Qb (Qu (pv 5) (pv 6) rfl) (Qc (Qm (Za (Qa Qj (Qa (pv 6) Qe))))))))))))))),?_⟩;walk_at "R";refine ⟨np,_,_,.int m,rfl,rfl,hn,at_of (j:=0) rfl rfl,?_⟩;walk_at "R";refine ⟨np,_,_,.int r,rfl,rfl,hn,at_of (j:=1) rfl rfl,?_⟩;walk_at "R";have bad:Qdj m r=false->∀ q,H q=none->Q (.ref q) (upd H q (.lst [.int (-1)])):=fun z =>
   Qw (l:=[-1]) hh (Step.refl _ _) (by unfold Qmh;rw[if_neg (show ¬ Qdj ([m,r].getD 0 0) ([m,r].getD 1 0)=true by show ¬ Qdj m r=true;simp[z])]) (by unfold Qmh;rw[if_neg (show ¬ Qdj ([m,r].getD 0 0) ([m,r].getD 1 0)=true by show ¬ Qdj m r=true;simp[z])]) k
  cases h1:isM m with
  | false=>exact Qfs (Qfs ⟨sz1,bad (by simp[Qdj,h1])⟩)
  | true =>
   refine Qf7 ?_;walk_at "R";refine ifB (fun h2=>?_) (fun h2=>?_)
   .have h2:r < -96:=by simpa using h2
    exact Qfs ⟨sz1,bad (by simp[Qdj,h1];omega)⟩
   .have h2:¬ r < -96:=by simpa using h2
    walk_at "R";refine ifB (fun h3=>?_) (fun h3=>?_)
    .have h3:96 < r:=by simpa using h3
     exact ⟨sz1,bad (by simp[Qdj,h1];omega)⟩
    .have h3:¬ 96 < r:=by simpa using h3
     have hp:Qdj ([m,r].getD 0 0) ([m,r].getD 1 0)=true:=by show Qdj m r=true;simp[Qdj,h1];omega
     clear bad;walk_at "R";refine ⟨B,x,m,rfl,hh,isM.Qdo h1,?_⟩;walk_at "R";refine ifB (fun h4=>?_) (fun h4=>?_)
     .have h4:¬ x.Qq5 m=0:=by simpa using h4
      walk_at "R";refine ⟨sz1,Qw (l:=[x.Qq5 m]) hh (Step.refl _ _) ?_ ?_ k⟩
      .unfold Qmh;rw[if_pos hp];exact congrArg Prod.fst (Qk0 (m:=m) h4)
      .unfold Qmh;rw[if_pos hp];exact congrArg Prod.snd (Qk0 (m:=m) h4)
     .have h4:x.Qq5 m=0:=by simpa using h4
      have eC:Qmh x [m,r]=Qrc x m r:=by unfold Qmh;rw[if_pos hp];exact Qzv (m:=m) h4
      rw[eC]at k;unfold Qrc at k;walk_at "R";refine ⟨B.ml,_,_,_,rfl,rfl,SqL.of hh.ml,Zbh (isM.Qdo h1),?_⟩;walk_at "R";refine ifB (fun h5=>?_) (fun h5=>?_)
      .have h5:(x.mc m).reel = -1:=by simpa using h5
       rw[if_pos h5]at k;exact ⟨sz1,Qw (l:=[-6]) hh (Step.refl _ _) rfl rfl k⟩
      .have h5:¬ (x.mc m).reel = -1:=by simpa using h5
       rw[if_neg h5]at k;have hn2:=g.rM m;obtain ⟨c,dr,hc,hr2⟩:=hsh.reel (n:=(x.mc m).reel) (by rcases hn2 with z | z <;> omega) (by rcases hn2 with z | z <;> omega);walk_at "R";refine ifB (fun h6=>?_) (fun h6=>?_)
       .have h6:(x.mc m).place+r < -x.sh.leader:=by simpa using h6
        rw[if_pos (.inl h6)]at k;exact Qfs ⟨sz1,Qw (l:=[-7]) hh (Step.refl _ _) rfl rfl k⟩
       .have h6:¬ (x.mc m).place+r < -x.sh.leader:=by simpa using h6
        walk_at "R";refine ⟨B.srl,_,_,_,rfl,rfl,SqL.of hsh.lst,hc,?_⟩;walk_at "R";refine ifB (fun h7=>?_) (fun h7=>?_)
        .have h7:(x.sh.rl (x.mc m).reel).frames < (x.mc m).place+r:=by simpa using h7
         rw[if_pos (.inr h7)]at k;exact ⟨sz1,Qw (l:=[-7]) hh (Step.refl _ _) rfl rfl k⟩
        .have h7:¬ (x.sh.rl (x.mc m).reel).frames < (x.mc m).place+r:=by simpa using h7
         rw[if_neg (fun z=>z.elim h6 h7)]at k;walk_at "R";exact ⟨(by show 2<=sizeLine;decide),Qw (l:=[0,(x.mc m).place+r]) (hh.setM m { x.mc m with place:=(x.mc m).place+r }) (Step.Qi5 (B.Yn m)) rfl rfl k⟩
def Sh.leadOf (s:Sh) (n:Int):Int:=if n=0 then s.Qjr else s.Qy8 (s.rl (n - 1))
def Zb5 (CS CR:Addr):Sp:=fun vs H Q _=>∃ b dy rl ras sh,∃ n:Int,vs=[.ref b,.int n]/\Qga CS CR H b dy rl ras sh/\0<=n/\n < sh.reels.length/\Q (.int (sh.leadOf n)) H
theorem Zd3 (D:Df K mg "lead_of" Qon Qg3) (T:Txt K mg CM CR CS CH) (Qaz:Ok P w K mg base "first_lead" 1 Qay (Zpl CS CR fun s=>.int s.Qjr)) (Qac:Ok P w K mg base "lead_behind" 1 Qab (Zhh CS CR fun s r=>.int (s.Qy8 r))) :
  Ok P w K mg base "lead_of" 2 Qg3 (Zb5 CS CR):=by
 have SC:=Zd1;refine D.ok SC (fun vs H Q E h=>?_) (fun f _ A _ s H vs Q E hr h=>?_)
 .obtain ⟨b,dy,rl,ras,sh,n,rfl,_⟩:=h;rfl
 .obtain ⟨b,dy,rl,ras,sh,n,rfl,hs,h0,h1,k⟩:=h;have ho:=hs.obj;refine ⟨_,(Qb (Qz (Qo Yc (pv 1) Qj (Qq _)) (Qc (Qm (pcl Qaz (hr.M) (Qa (pv 0) Qe)))) Qp) (Qc (Qm (pcl Qac (hr.M) (Qa (pv 0) (Qa (Zf Qt (Qh (pv 0) rfl) (Zq Qaw (pv 1) Qj) (fun _ _=>rfl)) Qe)))))),?_⟩;walk_at "R";refine ifB (fun h2=>?_) (fun h2=>?_)
  .have h2:n=0:=by simpa using h2
   walk_at "R";refine ⟨b,dy,rl,ras,sh,rfl,hs,?_⟩;exact Qfz k (by unfold Sh.leadOf;rw[if_pos h2])
  .have h2:¬ n=0:=by simpa using h2
   obtain ⟨c,dr,hc,hr2⟩:=hs.reel (n:=n - 1) (by omega) (by omega);walk_at "R";refine ⟨rl,_,_,_,rfl,rfl,SqL.of hs.lst,hc,?_⟩;refine ⟨b,dy,rl,ras,sh,c,dr,_,rfl,hs,hr2,?_⟩;exact Qfz k (by unfold Sh.leadOf;rw[if_neg h2])
def Qtl:List Rl->Int->List Int
 | [],_=>[]
 | r::rs,t=>t::(t+r.last)::Qtl rs (t+r.last+1)
theorem Qwv:∀ (rs:List Rl) (t:Int),(Qtl rs t).length=2*rs.length
 | [],_=>rfl
 | r::rs,t=>by simp only[Qtl,List.length_cons,Qwv rs];omega
def Sh.plan (s:Sh):List Int:=Qtl s.reels (1+if s.strike > s.up then s.strike else s.up)
def Znf (CS CR:Addr):Sp:=fun vs H Q _=>∃ b dy rl ras sh,vs=[.ref b]/\Qga CS CR H b dy rl ras sh/\sh.reels.length < 1000000/\∀ p,H p=none->Q (.ref p) (upd H p (Qah sh.plan))
theorem Zd4 (D:Df K mg "plan_of" Qoo Qg4) (T:Txt K mg CM CR CS CH) (Zh:Ok P w K mg base "last_frame" 1 Yo (Qqz CR)):Ok P w K mg base "plan_of" 2 Qg4 (Znf CS CR):=by
 have SC:=Zd2;refine D.ok SC (fun vs H Q E h=>?_) (fun f _ A _ s H vs Q E hr h=>?_)
 .obtain ⟨b,dy,rl,ras,sh,rfl,_⟩:=h;rfl
 .obtain ⟨b,dy,rl,ras,sh,rfl,hs,hlen,k⟩:=h;have hz:sizeLine=16777216:=rfl;refine ⟨_,(Qb (psL (i:=1) SC.nd (Za Qe)) (Qb (psL (i:=2) SC.nd (Zq Qa1 Qj (Zk (Qmv rfl) rfl T.Zla (by decide +kernel) (Qa (Qh (pv 0) rfl) (Qa (Qh (pv 0) rfl) Qe))))) (Qb (Qav PassesOwn.never rfl (Jq (Qh (pv 0) rfl)) (pgL (i:=3) SC.nd) (Qb (psL (i:=4) SC.nd (Zq Qa1 (pv 2) (pcl Zh (hr.M) (Qa (pv 3) Qe)))) (Qb (Qx (Qhn PySem.F.plainAttrs_list PySem.F.slot_list_append PySem.F.type_list_append Yv (pv 1) (Qa (pv 2) Qe))) (Qb (Qx (Qhn PySem.F.plainAttrs_list PySem.F.slot_list_append PySem.F.type_list_append Yv (pv 1) (Qa (pv 4) Qe))) (Qc (psL (i:=2) SC.nd (Zq Qa1 (pv 4) Qj))))))) (Qc (Qm (pv 1)))))),?_⟩;refine ⟨Nat.zero_le _,fun q hq=>?_⟩;have s0:∀ o,Jw H (upd H q o):=fun o b o' e=>by rw[Ql (Qg e hq)];exact e
  have ho:=s0 (.lst []) _ _ hs.obj;walk_at "R"
  refine ⟨⟨_,SqL.of (s0 _ _ _ hs.lst)⟩,Jm (K:=K) (a:=rl) (xs:=ras.map V.ref)
   (fun i σ H'=>i<=sh.reels.length/\∃ done,∃ t:Int,∃ v1 v2:Option V,σ=[some (.ref b),some (.ref q),some (.int t),v1,v2]/\H' = upd H q (Qah done)/\done++Qtl (sh.reels.drop i) t=sh.plan)
   ⟨Nat.zero_le _,[],_,none,none,rfl,rfl,rfl⟩ (fun i σ H' _ ⟨_,_,_,_,_,_,e,_⟩=>by rw[e];exact SqL.of (s0 _ _ _ hs.lst)) ?_ ?_⟩
  .rintro i y σ H' hi ⟨hil,done,t,v1,v2,rfl,rfl,e⟩
   rw[List.getElem?_map]at hi;obtain ⟨c,hc,rfl⟩:=Option.map_eq_some_iff.mp hi;have hlt:i < sh.reels.length:=by rw[<-hs.rls.1];exact (List.getElem?_eq_some_iff.mp hc).1
   obtain ⟨dr,hcc⟩:=hs.rls.2 i c sh.reels[i] hc (List.getElem?_eq_getElem hlt);rw[List.drop_eq_getElem_cons hlt,Qtl]at e;have hdl:done.length+2<=2*sh.reels.length:=by
    have:=congrArg List.length e
    unfold Sh.plan at this;rw[Qwv,List.length_append,List.length_cons,List.length_cons]at this;omega
   walk_at "R";refine ⟨c,dr,_,rfl,s0 _ _ _ hcc,?_⟩;walk_at "R";refine ⟨.inl ⟨rfl,_,SqL.of Qk⟩,?_⟩;walk_at "R";refine ⟨q,_,_,rfl,rfl,Qk,by rw[List.length_map,hz];omega,?_⟩;rw[Zb];walk_at "R";refine ⟨.inl ⟨rfl,_,SqL.of Qk⟩,?_⟩;walk_at "R";refine ⟨q,_,_,rfl,rfl,Qk,by rw[List.length_append,List.length_map,hz];simp;omega,?_⟩;rw[Zb];walk_at "R";refine ⟨hlt,done++[t,t+sh.reels[i].last],_,_,_,rfl,?_,?_⟩
   .unfold Qah;simp
   .rw[<-e];simp
  .rintro σ H' ⟨hil,done,t,v1,v2,rfl,rfl,e⟩
   rw[List.length_map,hs.rls.1,List.drop_length,Qtl,List.append_nil]at e;subst e;walk_at "R";exact k q hq
def Zl9 (x:Hs) (_:List Int):Hs × List Int:=(x,x.sh.plan)
theorem Qww (D:Df K mg "call_plan" Qi1 Qfj) (T:Txt K mg CM CR CS CH) (Qop:Ok P w K mg base "plan_of" 2 Qg4 (Znf CS CR)):Ok P w K mg base "call_plan" 3 Qfj (Jn K CM CR CS CH 0 (fun x=>Qbf x/\x.sh.reels.length<=6) Zl9):=by
 have SC:=Qwq;refine D.ok SC (fun vs H Q E h=>?_) (fun f _ A _ s H vs Q E hr h=>?_)
 .obtain ⟨A,x,np,ns,rfl,_⟩:=h;rfl
 .obtain ⟨B,x,np,ns,rfl,hh,hn,hl,⟨g,h6⟩,k⟩:=h;have ho:=hh.obj;obtain ⟨hsv,hsh⟩:=hh.Qty g.sh;rw[hsv]at ho;refine ⟨_,(Qc (Qm (pcl Qop (hr.M) (Qa (Qh (pv 0) rfl) Qe)))),?_⟩;walk_at "R";exact ⟨B.sb,B.sdy,B.srl,B.Qqy,x.sh,rfl,hsh,by omega,Qw (l:=x.sh.plan) hh (Step.refl _ _) rfl rfl k⟩
def Qqe (x:Hs) (ns:List Int):Hs × List Int:=if x.sh.isR (ns.getD 0 0)=true then (x,[x.sh.leadOf (ns.getD 0 0)]) else (x,[-1])
theorem Qwx (D:Df K mg "call_lead" Qi2 Qfk) (T:Txt K mg CM CR CS CH) (Qbb:Ok P w K mg base "is_reel" 1 Qdg (Zlq CS CR)) (Qoq:Ok P w K mg base "lead_of" 2 Qg3 (Zb5 CS CR)) :
  Ok P w K mg base "call_lead" 3 Qfk (Jn K CM CR CS CH 1 Qbf Qqe):=by
 have SC:=Qwr;refine D.ok SC (fun vs H Q E h=>?_) (fun f _ A _ s H vs Q E hr h=>?_)
 .obtain ⟨A,x,np,ns,rfl,_⟩:=h;rfl
 .obtain ⟨B,x,np,ns,rfl,hh,hn,hl,g,k⟩:=h;obtain ⟨m,rfl⟩:=Qjy hl;have ho:=hh.obj;obtain ⟨hsv,hsh⟩:=hh.Qty g.sh;rw[hsv]at ho;refine ⟨_,(Qb (Qz (Qae (Zm (pcl Qbb (hr.M) (Qa (Qh (pv 0) rfl) (Qa (Zf Qt (pv 1) Qj (fun _ _=>rfl)) Qe))))) (Qc (Qm (Za (Qa (pgi T.Zd) Qe)))) Qp) (Qc (Qm (Za (Qa (pcl Qoq (hr.M) (Qa (Qh (pv 0) rfl) (Qa (Zf Qt (pv 1) Qj (fun _ _=>rfl)) Qe))) Qe))))),?_⟩;walk_at "R";refine ⟨np,_,_,.int m,rfl,rfl,hn,at_of (j:=0) rfl rfl,?_⟩;refine ⟨B.sb,B.sdy,B.srl,B.Qqy,x.sh,m,rfl,hsh,_,rfl,?_⟩;cases h1:x.sh.isR m with
  | false =>
   refine Qfs ?_;refine ⟨sz1,Qw (l:=[-1]) hh (Step.refl _ _) ?_ ?_ k⟩
   .unfold Qqe;rw[if_neg (by simp[h1])]
   .unfold Qqe;rw[if_neg (by simp[h1])]
  | true =>
   refine Qf7 ?_;have e1:0<=m/\m < x.sh.reels.length:=by unfold Sh.isR at h1;simpa using h1
   walk_at "R";refine ⟨np,_,_,.int m,rfl,rfl,hn,at_of (j:=0) rfl rfl,?_⟩;refine ⟨B.sb,B.sdy,B.srl,B.Qqy,x.sh,m,rfl,hsh,e1.1,e1.2,?_⟩;refine ⟨sz1,Qw (l:=[x.sh.leadOf m]) hh (Step.refl _ _) ?_ ?_ k⟩
   .unfold Qqe;rw[if_pos (by simpa using h1)]
   .unfold Qqe;rw[if_pos (by simpa using h1)];rfl
def Qqf (x:Hs) (ns:List Int):Hs × List Int:=if x.sh.isR (ns.getD 0 0)=true then (x,[(x.sh.rl (ns.getD 0 0)).name,(x.sh.rl (ns.getD 0 0)).frames,(x.sh.rl (ns.getD 0 0)).motor,(x.sh.rl (ns.getD 0 0)).change,b2i (x.sh.rl (ns.getD 0 0)).ends,(x.sh.rl (ns.getD 0 0)).last]) else (x,[-1])
theorem Qwy (D:Df K mg "call_reel" Qi3 Qfl) (T:Txt K mg CM CR CS CH) (Qbb:Ok P w K mg base "is_reel" 1 Qdg (Zlq CS CR)) (Zh:Ok P w K mg base "last_frame" 1 Yo (Qqz CR)) (Qby:Ok P w K mg base "one_if" 1 Qfc Zl7) :
  Ok P w K mg base "call_reel" 2 Qfl (Jn K CM CR CS CH 1 Qbf Qqf):=by
 have SC:=Qws;refine D.ok SC (fun vs H Q E h=>?_) (fun f _ A _ s H vs Q E hr h=>?_)
 .obtain ⟨A,x,np,ns,rfl,_⟩:=h;rfl
 .obtain ⟨B,x,np,ns,rfl,hh,hn,hl,g,k⟩:=h;obtain ⟨m,rfl⟩:=Qjy hl;have ho:=hh.obj;obtain ⟨hsv,hsh⟩:=hh.Qty g.sh;have hso:=hsh.obj;rw[hsv]at ho;refine ⟨_,(Qb (Qz (Qae (Zm (pcl Qbb (hr.M) (Qa (Qh (pv 0) rfl) (Qa (Zf Qt (pv 1) Qj (fun _ _=>rfl)) Qe))))) (Qc (Qm (Za (Qa (pgi T.Zd) Qe)))) Qp) (Qb (psL (i:=2) SC.nd (Zf Qt (Qh (Qh (pv 0) rfl) rfl) (Zf Qt (pv 1) Qj (fun _ _=>rfl)) (fun _ _=>rfl))) (Qc (Qm (Za (Qa (Qh (pv 2) rfl) (Qa (Qh (pv 2) rfl) (Qa (Qh (pv 2) rfl) (Qa (Qh (pv 2) rfl) (Qa (pcl Qby (hr.M) (Qa (Qh (pv 2) rfl) Qe)) (Qa (pcl Zh (hr.M) (Qa (pv 2) Qe)) Qe))))))))))),?_⟩;walk_at "R";refine ⟨np,_,_,.int m,rfl,rfl,hn,at_of (j:=0) rfl rfl,?_⟩;refine ⟨B.sb,B.sdy,B.srl,B.Qqy,x.sh,m,rfl,hsh,_,rfl,?_⟩;cases h1:x.sh.isR m with
  | false =>
   refine Qfs ?_;refine ⟨sz1,Qw (l:=[-1]) hh (Step.refl _ _) ?_ ?_ k⟩
   .unfold Qqf;rw[if_neg (by simp[h1])]
   .unfold Qqf;rw[if_neg (by simp[h1])]
  | true =>
   refine Qf7 ?_;have e1:0<=m/\m < x.sh.reels.length:=by unfold Sh.isR at h1;simpa using h1
   obtain ⟨c,dr,hc,hr2⟩:=hsh.reel (n:=m) e1.1 e1.2;walk_at "R";refine ⟨np,_,_,.int m,rfl,rfl,hn,at_of (j:=0) rfl rfl,?_⟩;refine ⟨B.srl,_,_,_,rfl,rfl,SqL.of hsh.lst,hc,?_⟩;walk_at "R";refine ⟨c,dr,_,rfl,hr2,?_⟩;walk_at "R";refine ⟨(by show 6<=sizeLine;decide),Qw (l:=[(x.sh.rl m).name,(x.sh.rl m).frames,(x.sh.rl m).motor,(x.sh.rl m).change,b2i (x.sh.rl m).ends,(x.sh.rl m).last]) hh (Step.refl _ _) ?_ ?_ k⟩
   .unfold Qqf;rw[if_pos (by simpa using h1)]
   .unfold Qqf;rw[if_pos (by simpa using h1)];rfl
noncomputable abbrev Qg5:Stmt:=top 88
noncomputable abbrev Qwz:List Str:=["reel","row"]
noncomputable abbrev Qcd:List Str:=["reel"]
theorem Qtm:Qn Qwz Qcd (Qi Qg5):=by walk_at "sc"
noncomputable abbrev Qfm:Stmt:=top 89
noncomputable abbrev Qtn:List Str:=["sheet","rows","reel"]
noncomputable abbrev Qbd:List Str:=["sheet"]
theorem Qqg:Qn Qtn Qbd (Qi Qfm):=by walk_at "sc"
noncomputable abbrev Qg6:Stmt:=top 118
noncomputable abbrev Qw0:List Str:=["house","numbers","text"]
noncomputable abbrev Qd1:List Str:=["house","numbers"]
theorem Qto:Qn Qw0 Qd1 (Qi Qg6):=by walk_at "sc"
def nS (i:Int):Str:=(toString i:String)
def Qqh (i:Int):Prop:=0<=i/\i<=9999
theorem Zma (n:Nat):toString (n:Int)=Nat.repr n:=rfl
theorem Qcl {i:Int} (h:Qqh i):(nS i).length<=4:=by
 obtain ⟨n,rfl⟩:∃ n:Nat,i=n:=⟨i.toNat,by have:=h.1;omega⟩
 have hn:n < 10 ^ 4:=by have:=h.2;omega
 unfold nS Str.length;rw[Str.ofString_eq_toList];show ((toString (n:Int):String).toList.map Char.toNat).toArray.size<=4;rw[List.size_toArray,List.length_map,Zma]
 have:=(Nat.length_repr_le_iff (n:=n) (k:=4) (by decide)).mpr hn
 rw[<-String.length_toList]at this;exact this
theorem Qlp {i:Int} (h:Qqh i):i.natAbs.log2 < 1920:=by
 have h1:i.natAbs < 2 ^ 14:=by have:=h.1;have:=h.2;omega
 by_cases h0:i.natAbs=0
 .rw[h0];decide
 .exact Nat.lt_trans ((Nat.log2_lt h0).mpr h1) (by decide)
structure RlN (r:Rl):Prop where
 name:Qqh r.name
 fr:Qqh r.frames
 mo:Qqh r.motor
 ch:Qqh r.change
def Rl.head (r:Rl):Str:=(("reel " : Str)++nS r.name++(" frames " : Str))++nS r.frames
def Rl.row (r:Rl):Str:=if r.ends=true then r.head++(" end" : Str) else ((r.head++(" motor " : Str))++nS r.motor++(" change " : Str))++nS r.change
theorem Qrd (a b:Str):(a++b).length=a.length+b.length:=by show (a.cps++b.cps).size=a.cps.size+b.cps.size;rw[Array.size_append]
theorem Qi4:("reel " : Str).length=5/\(" frames " : Str).length=8/\(" end" : Str).length=4/\(" motor " : Str).length=7/\(" change " : Str).length=8/\("up " : Str).length=3/\("strike " : Str).length=7/\("down " : Str).length=5/\("leader " : Str).length=7/\("\n" : Str).length=1:=by decide +kernel
theorem Zb6 {r:Rl} (h:RlN r):r.head.length<=21:=by obtain ⟨l1,l2,_⟩:=Qi4;have a:=Qcl h.name;have b:=Qcl h.fr;unfold Rl.head;rw[Qrd,Qrd,Qrd,l1,l2];omega
theorem Zp8 {r:Rl} (h:RlN r):r.row.length<=44:=by
 obtain ⟨l1,l2,l3,l4,l5,_⟩:=Qi4;have a:=Zb6 h;have b:=Qcl h.mo;have c:=Qcl h.ch;unfold Rl.row;split
 .rw[Qrd,l3];omega
 .rw[Qrd,Qrd,Qrd,Qrd,l4,l5];omega
def Zsk (CR:Addr):Sp:=fun vs H Q _=>∃ c dr r,vs=[.ref c]/\H c=some (.ins CR dr (rF r))/\RlN r/\Q (.str r.row) H
theorem Qtp (D:Df K mg "shown_reel" Qg5 Qcd) (T:Txt K mg CM CR CS CH):Ok P w K mg base "shown_reel" 1 Qcd (Zsk CR):=by
 have SC:=Qtm;refine D.ok SC (fun vs H Q E h=>?_) (fun f _ A _ s H vs Q E hr h=>?_)
 .obtain ⟨c,dr,r,rfl,_⟩:=h;rfl
 .obtain ⟨c,dr,r,rfl,hc,hN,k⟩:=h;have hz:sizeLine=16777216:=rfl;obtain ⟨l1,l2,l3,l4,l5,_⟩:=Qi4;have n1:=Qcl hN.name;have n2:=Qcl hN.fr;have n3:=Qcl hN.mo;have n4:=Qcl hN.ch;have hh:=Zb6 hN;refine ⟨_,(Qb (psL (i:=1) SC.nd (Zq Yj (Zq Yj (Zq Yj Qel (Qa2 Ja rfl T.Qr3 (by decide +kernel) (Qa (Qh (pv 0) rfl) Qe))) Qel) (Qa2 Ja rfl T.Qr3 (by decide +kernel) (Qa (Qh (pv 0) rfl) Qe)))) (Qb (Qz (Zm (Qh (pv 0) rfl)) (Qc (Qm (Zq Yj (pv 1) Qel))) Qp) (Qc (Qm (Zq Yj (Zq Yj (Zq Yj (Zq Yj (pv 1) Qel) (Qa2 Ja rfl T.Qr3 (by decide +kernel) (Qa (Qh (pv 0) rfl) Qe))) Qel) (Qa2 Ja rfl T.Qr3 (by decide +kernel) (Qa (Qh (pv 0) rfl) Qe))))))),?_⟩;walk_at "R";refine ⟨Qlp hN.name,?_⟩;refine ⟨_,_,rfl,rfl,(by show ("reel " : Str).length+(nS r.name).length<=sizeLine;omega),?_⟩;refine ⟨_,_,rfl,rfl,(by show (("reel " : Str)++nS r.name).length+(" frames " : Str).length<=sizeLine;rw[Qrd];omega),?_⟩;walk_at "R";refine ⟨Qlp hN.fr,?_⟩;refine ⟨_,_,rfl,rfl,(by show ((("reel " : Str)++nS r.name)++(" frames " : Str)).length+(nS r.frames).length<=sizeLine;rw[Qrd,Qrd];omega),?_⟩;walk_at "R";refine ifB (fun h1=>?_) (fun h1=>?_)
  .walk_at "R";refine ⟨(by show r.head.length+(" end" : Str).length<=sizeLine;omega),?_⟩;have e:r.row=r.head++(" end" : Str):=by unfold Rl.row;rw[if_pos h1]
   rw[e]at k;exact k
  .have e:r.row=((r.head++(" motor " : Str))++nS r.motor++(" change " : Str))++nS r.change:=by unfold Rl.row;rw[if_neg (by simp[h1])]
   rw[e]at k;walk_at "R";refine ⟨(by show r.head.length+(" motor " : Str).length<=sizeLine;omega),?_⟩;walk_at "R";refine ⟨Qlp hN.mo,?_⟩;refine ⟨_,_,rfl,rfl,(by show (r.head++(" motor " : Str)).length+(nS r.motor).length<=sizeLine;rw[Qrd];omega),?_⟩;refine ⟨_,_,rfl,rfl,(by show ((r.head++(" motor " : Str))++nS r.motor).length+(" change " : Str).length<=sizeLine;rw[Qrd,Qrd];omega),?_⟩;walk_at "R";refine ⟨Qlp hN.ch,?_⟩;refine ⟨_,_,rfl,rfl,(by show (((r.head++(" motor " : Str))++nS r.motor)++(" change " : Str)).length+(nS r.change).length<=sizeLine;rw[Qrd,Qrd,Qrd];omega),?_⟩;exact k
structure ShN (s:Sh):Prop where
 up:Qqh s.up
 st:Qqh s.strike
 dn:Qqh s.down
 ld:Qqh s.leader
 six:s.reels.length<=6
 rl:∀ r ∈ s.reels,RlN r
def Sh.Qor (s:Sh):List Str:=[("up " : Str)++nS s.up,("strike " : Str)++nS s.strike,("down " : Str)++nS s.down,("leader " : Str)++nS s.leader]
def Sh.rows (s:Sh):List Str:=s.Qor++s.reels.map Rl.row
def Sh.text (s:Sh):Str:=Txt.join ("\n" : Str) s.rows++("\n" : Str)
theorem Zmb {s:Sh} (h:ShN s):∀ x ∈ s.rows,x.length<=44:=by
 obtain ⟨_,_,_,_,_,l6,l7,l8,l9,_⟩:=Qi4;have a:=Qcl h.up;have b:=Qcl h.st;have c:=Qcl h.dn;have d:=Qcl h.ld;intro x hx;unfold Sh.rows Sh.Qor at hx;rcases List.mem_append.mp hx with z | z
 .simp only[List.mem_cons,List.not_mem_nil,or_false]at z;rcases z with z | z | z | z <;> rw[z,Qrd] <;> omega
 .obtain ⟨r,hr,rfl⟩:=List.mem_map.mp z;exact Zp8 (h.rl r hr)
theorem Zmc {s:Sh} (h:ShN s):s.rows.length<=10:=by
 unfold Sh.rows Sh.Qor;rw[List.length_append,List.length_map]
 have:=h.six
 simp only[List.length_cons,List.length_nil];omega
theorem Zi3:∀ (l:List Str),(∀ x ∈ l,x.length<=44)->(l.map (·.length)).sum<=44*l.length
 | [],_=>by simp
 | x::r,h=>by
  have h1:=h x (List.mem_cons_self);have h2:=Zi3 r fun y hy=>h y (List.mem_cons_of_mem _ hy);simp only[List.map_cons,List.sum_cons,List.length_cons];omega
theorem Qw1 (S:List Nat):∀ ps:List (List Nat),(TL.Qm5 S ps).length<=(ps.map (·.length)).sum+ps.length*S.length
 | []=>by simp[TL.Qm5]
 | [p]=>by simp[TL.Qm5]
 | p::q::r=>by
  have ih:=Qw1 S (q::r);rw[TL.Qm5,List.length_append,List.length_append];simp only[List.map_cons,List.sum_cons,List.length_cons]at ih ⊢;have e:(r.length+1+1)*S.length=(r.length+1)*S.length+S.length:=Nat.succ_mul _ _;omega
theorem Zb7 {s:Sh} (h:ShN s):(s.rows.map (·.length)).sum+s.rows.length*("\n" : Str).length<=450:=by obtain ⟨_,_,_,_,_,_,_,_,_,l10⟩:=Qi4;have h1:=Zi3 s.rows (Zmb h);have h2:=Zmc h;rw[l10];omega
theorem Zb8 {s:Sh} (h:ShN s):(Txt.join ("\n" : Str) s.rows).length<=450:=by
 have h1:=Qw1 (TL.tl ("\n" : Str)) (s.rows.map TL.tl);have h2:=Zb7 h;have e1:(Txt.join ("\n" : Str) s.rows).length=(TL.Qm5 (TL.tl ("\n" : Str)) (s.rows.map TL.tl)).length:=by rw[TL.join_eq,<-TL.Qx9];show _=(Str.join ("\n" : Str) s.rows).cps.toList.length;rw[Array.length_toList];rfl
 have e2:(s.rows.map TL.tl).map (·.length)=s.rows.map (·.length):=by rw[List.map_map];apply List.map_congr_left;intro x _;show x.cps.toList.length=x.cps.size;rw[Array.length_toList]
 have e3:(TL.tl ("\n" : Str)).length=("\n" : Str).length:=by show ("\n" : Str).cps.toList.length=("\n" : Str).cps.size;rw[Array.length_toList]
 rw[e1];rw[e2,List.length_map,e3]at h1;omega
def Zi4 (CS CR:Addr):Sp:=fun vs H Q _=>∃ b dy rl ras sh,vs=[.ref b]/\Qga CS CR H b dy rl ras sh/\ShN sh/\∀ H' p,Jw H H' -> H p=none->H' p=some (Qah (Zv sh.text))->Q (.ref p) H'
theorem Qqi (D:Df K mg "shown_sheet" Qfm Qbd) (T:Txt K mg CM CR CS CH) (Qg7:Ok P w K mg base "shown_reel" 1 Qcd (Zsk CR)) (Qc2:Ok P w K mg base "codes_of" 1 Qc0 Qzj):Ok P w K mg base "shown_sheet" 2 Qbd (Zi4 CS CR):=by
 have SC:=Qqg;refine D.ok SC (fun vs H Q E h=>?_) (fun f _ A _ s H vs Q E hr h=>?_)
 .obtain ⟨b,dy,rl,ras,sh,rfl,_⟩:=h;rfl
 .obtain ⟨b,dy,rl,ras,sh,rfl,hs,hN,k⟩:=h;have hz:sizeLine=16777216:=rfl;obtain ⟨_,_,_,_,_,l6,l7,l8,l9,l10⟩:=Qi4;have n1:=Qcl hN.up;have n2:=Qcl hN.st;have n3:=Qcl hN.dn;have n4:=Qcl hN.ld;have ho:=hs.obj;refine ⟨_,(Qb (psL (i:=1) SC.nd (Za (Qa (Zq Yj Qel (Qa2 Ja rfl T.Qr3 (by decide +kernel) (Qa (Qh (pv 0) rfl) Qe))) (Qa (Zq Yj Qel (Qa2 Ja rfl T.Qr3 (by decide +kernel) (Qa (Qh (pv 0) rfl) Qe))) (Qa (Zq Yj Qel (Qa2 Ja rfl T.Qr3 (by decide +kernel) (Qa (Qh (pv 0) rfl) Qe))) (Qa (Zq Yj Qel (Qa2 Ja rfl T.Qr3 (by decide +kernel) (Qa (Qh (pv 0) rfl) Qe))) Qe)))))) (Qb (Qav PassesOwn.never rfl (Jq (Qh (pv 0) rfl)) (pgL (i:=2) SC.nd) (Qc (Qx (Qhn PySem.F.plainAttrs_list PySem.F.slot_list_append PySem.F.type_list_append Yv (pv 1) (Qa (pcl Qg7 (hr.M) (Qa (pv 2) Qe)) Qe))))) (Qc (Qm (pcl Qc2 (hr.M) (Qa (Zq Yj (Zoe Qel (pv 1)) Qel) Qe)))))),?_⟩;walk_at "R";refine ⟨Qlp hN.up,?_⟩;refine ⟨_,_,rfl,rfl,(by show ("up " : Str).length+(nS sh.up).length<=sizeLine;omega),?_⟩;walk_at "R";refine ⟨Qlp hN.st,?_⟩;refine ⟨_,_,rfl,rfl,(by show ("strike " : Str).length+(nS sh.strike).length<=sizeLine;omega),?_⟩;walk_at "R";refine ⟨Qlp hN.dn,?_⟩;refine ⟨_,_,rfl,rfl,(by show ("down " : Str).length+(nS sh.down).length<=sizeLine;omega),?_⟩;walk_at "R";refine ⟨Qlp hN.ld,?_⟩;refine ⟨_,_,rfl,rfl,(by show ("leader " : Str).length+(nS sh.leader).length<=sizeLine;omega),?_⟩;refine ⟨(by show 4<=sizeLine;decide),fun q hq=>?_⟩;have s0:∀ o,Jw H (upd H q o):=fun o b o' e=>by rw[Ql (Qg e hq)];exact e
  have ho1:=s0 (.lst (sh.Qor.map V.str)) _ _ ho;show Zet _ _ _ _ (upd H q (.lst (sh.Qor.map V.str)));walk_at "R"
  refine ⟨⟨_,SqL.of (s0 _ _ _ hs.lst)⟩,Jm (K:=K) (a:=rl) (xs:=ras.map V.ref)
   (fun i σ H'=>i<=sh.reels.length/\H' = upd H q (.lst ((sh.Qor++(sh.reels.take i).map Rl.row).map V.str))/\∃ v:Option V,σ=[some (.ref b),some (.ref q),v])
   ⟨Nat.zero_le _,by rw[List.take_zero,List.map_nil,List.append_nil],none,rfl⟩ (fun i σ H' _ ⟨_,e,_⟩=>by rw[e];exact SqL.of (s0 _ _ _ hs.lst)) ?_ ?_⟩
  .rintro i y σ H' hi ⟨hil,rfl,v,rfl⟩
   rw[List.getElem?_map]at hi;obtain ⟨c,hc,rfl⟩:=Option.map_eq_some_iff.mp hi;have hlt:i < sh.reels.length:=by rw[<-hs.rls.1];exact (List.getElem?_eq_some_iff.mp hc).1
   have e2:sh.reels[i]? = some sh.reels[i]:=List.getElem?_eq_getElem hlt;obtain ⟨dr,hcc⟩:=hs.rls.2 i c sh.reels[i] hc e2;have h6:=hN.six;walk_at "R";refine ⟨.inl ⟨rfl,_,SqL.of Qk⟩,?_⟩;walk_at "R";refine ⟨c,dr,_,rfl,s0 _ _ _ hcc,hN.rl _ (List.getElem_mem hlt),?_⟩;refine ⟨q,_,_,rfl,rfl,Qk,?_,hlt,?_,_,rfl⟩
   .rw[List.length_map,List.length_append,List.length_map,List.length_take,hz];show 4+_ < _;omega
   .have e7:(sh.Qor++(sh.reels.take (i+1)).map Rl.row).map V.str=(sh.Qor++(sh.reels.take i).map Rl.row).map V.str++[V.str sh.reels[i].row]:=by rw[List.take_succ,e2,List.map_append,List.map_append,List.map_append,List.map_append,List.append_assoc];rfl
    rw[Zb,e7]
  .rintro σ H' ⟨hil,rfl,v,rfl⟩
   have eR:sh.Qor++(sh.reels.take (ras.map V.ref).length).map Rl.row=sh.rows:=by rw[List.length_map,hs.rls.1,List.take_length];rfl
   rw[eR];have j1:=Zb7 hN;have j2:=Zb8 hN;refine ⟨⟨_,rfl⟩,_,rfl,_,q,sh.rows,rfl,rfl,.inl (SqL.of Qk),Nat.le_trans j1 (by decide),?_⟩;refine ⟨_,_,rfl,rfl,(by show (Txt.join ("\n" : Str) sh.rows).length+("\n" : Str).length<=sizeLine;omega),?_⟩;have e9:sh.text.cps.size=(Txt.join ("\n" : Str) sh.rows).length+("\n" : Str).length:=Qrd _ _;refine ⟨_,rfl,(by show sh.text.cps.size < sizeLine;omega),fun p hp=>?_⟩;have hpq:p ≠ q:=fun z=>by rw[z,Qk]at hp;cases hp
   refine k _ p (fun b o e=>?_) (by rw[Ql hpq]at hp;exact hp) Qk;have e5:upd H q (.lst (sh.rows.map V.str)) b=some o:=s0 _ b o e;rw[Ql (Qg e5 hp)];exact e5
def Zb9 (x:Hs) (_:List Int):Hs × List Int:=(x,((Zv x.sh.text).length:Int)::Zv x.sh.text)
theorem Zi5 {s:Sh} (h:ShN s):(Zv s.text).length<=451:=by obtain ⟨_,_,_,_,_,_,_,_,_,l10⟩:=Qi4;have j2:=Zb8 h;have e9:s.text.cps.size=(Txt.join ("\n" : Str) s.rows).length+("\n" : Str).length:=Qrd _ _;unfold Zv;rw[List.length_map,Array.length_toList];omega
theorem Qtq (D:Df K mg "call_shown" Qg6 Qd1) (T:Txt K mg CM CR CS CH) (Qfn:Ok P w K mg base "shown_sheet" 2 Qbd (Zi4 CS CR)):Ok P w K mg base "call_shown" 3 Qd1 (Jn K CM CR CS CH 0 (fun x=>Qbf x/\ShN x.sh) Zb9):=by
 have SC:=Qto;refine D.ok SC (fun vs H Q E h=>?_) (fun f _ A _ s H vs Q E hr h=>?_)
 .obtain ⟨A,x,np,ns,rfl,_⟩:=h;rfl
 .obtain ⟨B,x,np,ns,rfl,hh,hn,hl,⟨g,hN⟩,k⟩:=h;have ho:=hh.obj;obtain ⟨hsv,hsh⟩:=hh.Qty g.sh;have hz:sizeLine=16777216:=rfl;rw[hsv]at ho;refine ⟨_,(Qb (psL (i:=2) SC.nd (pcl Qfn (hr.M) (Qa (Qh (pv 0) rfl) Qe))) (Qc (Qm (Zq Zfg (Za (Qa (Zk Zc rfl T.Qdp PySem.boot_len (Qa (pv 2) Qe)) Qe)) (pv 2))))),?_⟩;walk_at "R";refine ⟨B.sb,B.sdy,B.srl,B.Qqy,x.sh,rfl,hsh,hN,fun H1 p s1 hp hpl=>?_⟩;have Zva:H1 p=some (.lst ((Zv x.sh.text).map V.int)):=hpl;have hcl:=Zi5 hN;walk_at "R";refine ⟨sz1,fun l hl1=>?_⟩;rw[List.length_map];have s4:Jw H1 (upd H1 l (.lst [.int ((Zv x.sh.text).length:Int)])):=fun c o e=>by rw[Ql (Qg e hl1)];exact e
  walk_at "R";refine ⟨l,p,_,_,rfl,rfl,Qk,s4 _ _ Zva,by rw[List.length_map,hz];simp;omega,?_⟩;have e5:([V.int ((Zv x.sh.text).length:Int)]++(Zv x.sh.text).map V.int)=(((Zv x.sh.text).length:Int)::Zv x.sh.text).map V.int:=rfl;rw[e5];exact Qw (l:=((Zv x.sh.text).length:Int)::Zv x.sh.text) (hh.same (s1.trans s4)) (Step.same (s1.trans s4)) rfl rfl k
end
section
section
open Vbfaal (State Sheet Machine machine withMachine)
theorem Qw2 {h:Sheet} {m:Machine} {i:Nat} (hr:m.reel=some i) (hi:i < h.reels.length):Vbfaal.reelOf h m=some (Vbfaal.reelAt h i):=by unfold Vbfaal.reelOf Vbfaal.reelAt;rw[hr];show h.reels[i]? = _;rw[List.getD_eq_getElem?_getD,List.getElem?_eq_getElem hi];rfl
theorem Qhm {h:Sheet} {i:Nat} (hi:i < h.reels.length):Vbfaal.reelAt h i ∈ h.reels:=by unfold Vbfaal.reelAt;rw[List.getD_eq_getElem?_getD,List.getElem?_eq_getElem hi];exact List.getElem_mem hi
theorem Zi6 {h:Sheet} {s:State} (I:SInv h s) (m:Int):Qad h s (.machine m) (Qok (hsO s) [m]):=by
 have ew:Vbfaal.step s (.machine m)=_:=Qr I _;by_cases hm:isM m=true
 .obtain ⟨e1,e2⟩:=Jt hm;have hm':¬ Vbfaal.isMachine m=false:=by rw[<-Je,hm];decide
  rw[if_neg hm']at ew;refine Qy ew ?_ I;unfold Qok;rw[if_pos (show isM ([m].getD 0 0)=true from hm)];show (hsO s,[((hsO s).mc m).reel,((hsO s).mc m).place,b2i ((hsO s).mc m).motor,((hsO s).mc m).phase]++[((hsO s).mc m).lit (hsO s).sh.strike,((hsO s).mc m).Qbi,((hsO s).mc m).seized,((hsO s).mc m).Qjc,((hsO s).mc m).dead].map b2i)=_;rw[Qz2 e1,I.sh,Zbs];rfl
 .have hm0:isM m=false:=by simpa using hm
  have hm':Vbfaal.isMachine m=false:=by rw[<-Je];exact hm0
  rw[if_pos hm']at ew;refine Qy ew ?_ I;unfold Qok;rw[if_neg (show ¬ isM ([m].getD 0 0)=true from hm)]
theorem Zd5 {h:Sheet} {s:State} (I:SInv h s):Qad h s .house (Ziz (hsO s) []):=by have ew:Vbfaal.step s .house=_:=Qr I _;exact Qy ew rfl I
theorem Zal {h:Sheet} {s:State} (I:SInv h s):Qad h s .screen (Qg2 (hsO s) []):=by
 have ew:Vbfaal.step s .screen=_:=Qr I _;refine Qy ew ?_ I;unfold Qg2;rw[Zib I];cases e:Vbfaal.onScreen h s with
 | none=>rfl
 | some x=>rfl
theorem Qj5 {α:Type} (f:α->List Nat) (g:α->List Int) (hfg:∀ a,g a=Vbfaal.ints (f a)):∀ l:List α,(l.map g).flatten=Vbfaal.ints (l.flatMap f)
 | []=>rfl
 | a::l=>by
  rw[List.map_cons,List.flatten_cons,Qj5 f g hfg l,List.flatMap_cons,hfg];unfold Vbfaal.ints;rw[List.map_append]
theorem Zam {h:Sheet} {s:State} (I:SInv h s):Qad h s .record (Qom (hsO s) []):=by have ew:Vbfaal.step s .record=_:=Qr I _;refine Qy ew ?_ I;unfold Qom;have e1:(hsO s).runs=s.shows.map Qj1:=rfl;have e2:=Qj5 (fun r:Nat × Nat × Nat × Nat=>[r.1,r.2.1,r.2.2.1,r.2.2.2]) ((fun r:Int × Int × Int × Int=>[r.1,r.2.1,r.2.2.1,r.2.2.2]) ∘ Qj1) (fun a=>rfl) s.shows;rw[e1,List.length_map,List.map_map,e2];rfl
theorem Zmd {h:Sheet} {s:State} (I:SInv h s):Qad h s .log (cLog (hsO s) []):=by
 have ew:Vbfaal.step s .log=_:=Qr I _;refine Qy ew ?_ I;unfold cLog;have e1:(hsO s).log=s.log.map fun e=>((e.1:Int),(e.2.1:Int),(e.2.2:Int)):=rfl;have e2:=Qj5 (fun r:Nat × Nat × Nat=>[r.1,r.2.1,r.2.2]) ((fun r:Int × Int × Int=>[r.1,r.2.1,r.2.2]) ∘ fun e:Nat × Nat × Nat=>((e.1:Int),(e.2.1:Int),(e.2.2:Int))) (fun a=>rfl) s.log
 rw[e1,List.length_map,List.map_map,e2];rfl
theorem Zng (h:Sheet) (n:Int):(shO h).isR n=Vbfaal.within n 0 ((h.reels.length:Int) - 1):=by
 unfold Sh.isR Vbfaal.within;have el:((shO h).reels.length:Int)=(h.reels.length:Int):=by show ((h.reels.map rlO).length:Int)=_;rw[List.length_map]
 rw[el]
 congr 1
 exact decide_eq_decide.mpr (by omega)
theorem Zi7 {h:Sheet} {s:State} (I:SInv h s) (n:Int):Qad h s (.reel n) (Qqf (hsO s) [n]):=by
 have ew:Vbfaal.step s (.reel n)=_:=Qr I _;unfold Qqf;show Qad h s (.reel n) (if (hsO s).sh.isR n=true then (hsO s,[((hsO s).sh.rl n).name,((hsO s).sh.rl n).frames,((hsO s).sh.rl n).motor,((hsO s).sh.rl n).change,b2i ((hsO s).sh.rl n).ends,((hsO s).sh.rl n).last]) else (hsO s,[-1]));rw[I.sh,Zng];by_cases hm:Vbfaal.within n 0 ((h.reels.length:Int) - 1)=true
 .rw[if_pos hm];rw[if_neg (by rw[hm];decide)]at ew;have hb:0<=n/\n.toNat < h.reels.length:=by unfold Vbfaal.within at hm;simp only[Bool.and_eq_true,decide_eq_true_eq]at hm;omega
  refine Qy ew ?_ I;have e:n=(n.toNat:Int):=by omega
  have er:(shO h).rl n=rlO (Vbfaal.reelAt h n.toNat):=by
   have:=Qv4 h n.toNat hb.2
   rw[<-e]at this;exact this
  rw[er,last_eq _ fun _=>I.fr _ (Qhm hb.2)];show _=(hsO s,Vbfaal.ints _)
  unfold Vbfaal.ints rlO b2i;cases hl:(Vbfaal.reelAt h n.toNat).last <;> simp[hl]
 .rw[if_neg hm];rw[if_pos (by simpa using hm)]at ew;exact Qy ew rfl I
theorem Zi8 {h:Sheet} {s:State} (I:SInv h s) (G:GS h) (n:Int):Qad h s (.lead n) (Qqe (hsO s) [n]):=by
 have ew:Vbfaal.step s (.lead n)=_:=Qr I _;unfold Qqe;show Qad h s (.lead n) (if (hsO s).sh.isR n=true then (hsO s,[(hsO s).sh.leadOf n]) else (hsO s,[-1]));rw[I.sh,Zng];by_cases hm:Vbfaal.within n 0 ((h.reels.length:Int) - 1)=true
 .rw[if_pos hm];rw[if_neg (by rw[hm];decide)]at ew;have hb:0<=n/\n.toNat < h.reels.length:=by unfold Vbfaal.within at hm;simp only[Bool.and_eq_true,decide_eq_true_eq]at hm;omega
  refine Qy ew ?_ I;show (hsO s,[(shO h).leadOf n])=(hsO s,[((Vbfaal.lead h n.toNat:Nat):Int)])
  congr 2
  unfold Sh.leadOf Vbfaal.lead;by_cases h0:n=0
  .rw[if_pos h0,if_pos (by omega)];unfold Sh.Qjr Vbfaal.leadFirst Vbfaal.moves;show 1+(h.up:Int) / 2+(if (h.strike:Int) - (h.up:Int) > 0 then (h.strike:Int) - (h.up:Int) else 0)=_;split <;> omega
  .rw[if_neg h0,if_neg (by omega)];have e:n - 1=((n.toNat - 1:Nat):Int):=by omega
   have hi:n.toNat - 1 < h.reels.length:=by omega
   rw[e,Qv4 h _ hi];have g:=(G.rl _ (Qhm hi)).cue (G.nl _ (by omega));unfold Sh.Qy8 Vbfaal.leadOf Vbfaal.moves;show 1+(h.up:Int) / 2+(((Vbfaal.reelAt h (n.toNat - 1)).change:Int) - ((Vbfaal.reelAt h (n.toNat - 1)).motor:Int) - (h.up:Int))=_;omega
 .rw[if_neg hm];rw[if_pos (by simpa using hm)]at ew;exact Qy ew rfl I
theorem Zi9 {h:Sheet} {s:State} (I:SInv h s):Qad h s .free (Zp7 (hsO s) []):=by
 have ew:Vbfaal.step s .free=_:=Qr I _;refine Qy ew ?_ I;have e:∀ m:Machine,b2i (decide ((mcO m).phase=0))=Vbfaal.bit (Vbfaal.stands m):=fun m=>by
  by_cases z:Vbfaal.stands m=true
  .rw[decide_eq_true ((ph0 m).mpr z),z];rfl
  .rw[decide_eq_false (fun y=>z ((ph0 m).mp y))];have z:Vbfaal.stands m=false:=by simpa using z
   rw[z];rfl
 show (hsO s,[b2i (decide ((mcO s.a).phase=0)),b2i (decide ((mcO s.b).phase=0))])=_;rw[e,e]
theorem Zja:∀ (rs:List Vbfaal.Reel) (t:Nat),(∀ r ∈ rs,1<=r.frames)->Qtl (rs.map rlO) (t:Int)=Vbfaal.ints ((Vbfaal.planFrom rs t).flatMap fun x=>[x.1,x.2])
 | [],t,_=>rfl
 | r::rs,t,hf=>by
  have hl:=last_eq r fun _=>hf r (List.mem_cons_self);rw[List.map_cons,Qtl,hl,Vbfaal.planFrom,List.flatMap_cons];have e:(t:Int)+(Vbfaal.lastOf r:Int)+1=((t+Vbfaal.lastOf r+1:Nat):Int):=by omega
  rw[e,Zja rs _ fun q hq=>hf q (List.mem_cons_of_mem _ hq)];unfold Vbfaal.ints;rw[List.map_append];simp
theorem Zjb {h:Sheet} {s:State} (I:SInv h s):Qad h s .plan (Zl9 (hsO s) []):=by
 have ew:Vbfaal.step s .plan=_:=Qr I _;refine Qy ew ?_ I;unfold Zl9;rw[I.sh]
 congr 1
 unfold Sh.plan Vbfaal.plan;have e:(1:Int)+(if (shO h).strike > (shO h).up then (shO h).strike else (shO h).up)=((max h.up h.strike+1:Nat):Int):=by show (1:Int)+(if (h.strike:Int) > (h.up:Int) then (h.strike:Int) else (h.up:Int))=_;split <;> omega
 rw[e];exact Zja h.reels _ I.fr
theorem Zjc {h:Sheet} {s:State} (I:SInv h s) (m k:Int):Qad h s (.inch m k) (Qmh (hsO s) [m,k]):=by
 have ew:Vbfaal.step s (.inch m k)=_:=Qr I _;have ec:Qdj m k=(Vbfaal.isMachine m&&Vbfaal.within k (-96) 96):=by unfold Qdj;rw[Je];rfl
 unfold Qmh;show Qad h s (.inch m k) (if Qdj m k=true then (if (hsO s).busy m=true then (hsO s,[-3]) else if ¬ ((hsO s).mc m).phase=0 then (hsO s,[-4]) else Qrc (hsO s) m k) else (hsO s,[-1]));rw[ec];by_cases hc:(Vbfaal.isMachine m&&Vbfaal.within k (-96) 96)=true
 .rw[if_pos hc];rw[if_neg (by rw[hc];decide)]at ew;rw[Bool.and_eq_true]at hc;have hm:isM m=true:=by rw[Je];exact hc.1
  obtain ⟨e1,e2⟩:=Jt hm;unfold Qrc;rw[Qz2 e1,Qz3 s e1,I.sh];by_cases h1:Vbfaal.inUse s m=true
  .rw[if_pos h1]at ew ⊢;exact Qy ew rfl I
  .rw[if_neg h1]at ew ⊢;by_cases h2:Vbfaal.stands (machine s m.toNat)=true
   .rw[if_neg (by rw[h2];decide)]at ew;rw[if_neg (fun z=>z ((ph0 _).mpr h2))];have M:=I.Zh9 m.toNat;cases hr:(machine s m.toNat).reel with
    | none =>
     have er:Vbfaal.reelOf h (machine s m.toNat)=none:=by unfold Vbfaal.reelOf;rw[hr];rfl
     simp only[er]at ew;rw[if_pos ((Qer _).mpr hr)];exact Qy ew rfl I
    | some i =>
     have hi:=M.reel i hr;have er:=Qw2 hr hi;simp only[er]at ew;have e5:(mcO (machine s m.toNat)).reel=(i:Int):=by unfold mcO;rw[hr]
     rw[if_neg (by rw[e5];omega),e5,Qv4 h i hi];have ed:(Vbfaal.within ((machine s m.toNat).place+k) (-(h.leader:Int)) ((Vbfaal.reelAt h i).frames:Int)=false) ↔ ((mcO (machine s m.toNat)).place+k < -(shO h).leader\/(rlO (Vbfaal.reelAt h i)).frames < (mcO (machine s m.toNat)).place+k):=by unfold Vbfaal.within;rw[Bool.and_eq_false_iff];simp only[decide_eq_false_iff_not];show _ ↔ ((machine s m.toNat).place+k < -(h.leader:Int)\/((Vbfaal.reelAt h i).frames:Int) < (machine s m.toNat).place+k);omega
     by_cases h3:Vbfaal.within ((machine s m.toNat).place+k) (-(h.leader:Int)) ((Vbfaal.reelAt h i).frames:Int)=false
     .rw[if_pos h3]at ew;rw[if_pos (ed.mp h3)];exact Qy ew rfl I
     .rw[if_neg h3]at ew;rw[if_neg (fun z=>h3 (ed.mpr z))];have hp:(machine s m.toNat).phase=0:=by unfold Vbfaal.stands at h2;simpa using h2
      refine Qy ew ?_ (I.setM e2 ⟨M.reel,M.ph,M.c0,M.c2,fun z=>?_⟩ fun z=>absurd (Qmr I e2 rfl z) h1)
      .exact congrArg (fun x=>(x,[0,(machine s m.toNat).place+k])) (Qra e1 { machine s m.toNat with place:=(machine s m.toNat).place+k })
      .have:=(M.opn z).1
       omega
   .have h2':Vbfaal.stands (machine s m.toNat)=false:=by simpa using h2
    rw[if_pos h2']at ew;rw[if_pos (fun z=>h2 ((ph0 _).mp z))];exact Qy ew rfl I
 .have hc':(Vbfaal.isMachine m&&Vbfaal.within k (-96) 96)=false:=by simpa using hc
  rw[if_neg hc];rw[if_pos hc']at ew;exact Qy ew rfl I
end
section
open Vbfaal (State Sheet Machine machine withMachine)
def Qek (h:Sheet) (i:Nat):Nat:=Vbfaal.lastOf (Vbfaal.reelAt h i)
structure Qk9 (h:Sheet) (s:State):Prop where
 w:∀ k,k<=1->(machine s k).want=true->∀ i,(machine s k).reel=some i->(machine s k).place<=(Qek h i:Int)
 tg:s.mode=1->∀ i,(machine s s.active).reel=some i->s.target<=Qek h i
 rn:∀ r ∈ s.shows,r.2.1 < h.reels.length/\r.2.2.2<=Qek h r.2.1
theorem Qce {s:State} {k j:Nat} {m:Machine} (hk:k<=1) (hj:j<=1):machine (withMachine s k m) j=if j=k then m else machine s j:=by
 unfold machine withMachine;by_cases h1:k=0
 .by_cases h2:j=0
  .simp[h1,h2]
  .simp[h1,h2]
 .by_cases h2:j=0
  .have h3:¬ 0=k:=by omega
   simp[h1,h2,h3]
  .have h3:j=k:=by omega
   simp[h1,h2,h3]
theorem SInv.idx {h:Sheet} {s:State} (I:SInv h s) {k:Nat} (hk:k<=1) (z:(machine s k).want=true):s.mode=2/\s.active=k:=by
 unfold machine at z;by_cases h0:k=0
 .rw[if_pos h0]at z;obtain ⟨a,b,_⟩:=I.wa z;exact ⟨a,by omega⟩
 .rw[if_neg h0]at z;obtain ⟨a,b,_⟩:=I.wb z;exact ⟨a,by omega⟩
def WLt (h:Sheet) (m:Machine):Prop:=m.want=true->∀ i,m.reel=some i->m.place < (Qek h i:Int)
theorem WLt.off {h:Sheet} {m:Machine} (e:m.want=false):WLt h m:=fun z=>by rw[e]at z;cases z
structure Dec (h:Sheet) (s d:State):Prop where
 w:∀ k,k<=1->WLt h (machine d k)
 tg:d.mode=1->∀ i,(machine d d.active).reel=some i->d.target<=Qek h i
 sh:d.shows=s.shows
theorem Qj6 (s:State) (a b k:Nat):machine (Vbfaal.note s a b) k=machine s k:=rfl
theorem Dec.stop {h:Sheet} {s:State} (r:Nat):Dec h s (Vbfaal.stopped s r):=by
 refine ⟨fun k hk=>WLt.off ?_,fun z=>?_,rfl⟩
 .unfold machine Vbfaal.stopped Vbfaal.note;by_cases h0:k=0
  .rw[if_pos h0];rfl
  .rw[if_neg h0];rfl
 .have z:(3:Nat)=1:=z;omega
theorem Zsl {h:Sheet} {s:State} (I:SInv h s) (R:Qk9 h s) (G:GS h):Dec h s (Vbfaal.decideNow h s):=by
 have hact:=I.act;have idle:¬ s.mode=2->∀ k,k<=1->(machine s k).want=false:=fun hm k hk=>by
  cases e:(machine s k).want with
  | false=>rfl
  | true=>exact absurd (I.idx hk e).1 hm
 have other:∀ k,k<=1->¬ k=s.active->(machine s k).want=false:=fun k hk hn=>by
  cases e:(machine s k).want with
  | false=>rfl
  | true=>exact absurd (I.idx hk e).2.symm hn
 unfold Vbfaal.decideNow;simp only;by_cases h1:s.mode=1
 .rw[if_pos h1];have hid:=idle (by omega);by_cases h2:Vbfaal.ready h (machine s s.active) s.target=true
  .rw[if_pos h2];refine ⟨fun k hk=>?_,fun z=>?_,?_⟩
   .rw[Qj6];show WLt h (machine (withMachine s s.active { machine s s.active with want:=true }) k);rw[Qce hact hk];by_cases hka:k=s.active
    .rw[if_pos hka];intro _ i hi;have hi:(machine s s.active).reel=some i:=hi;have ht:=R.tg h1 i hi;unfold Vbfaal.ready at h2;simp only[Bool.and_eq_true,beq_iff_eq]at h2;show (machine s s.active).place < _;omega
    .rw[if_neg hka];exact WLt.off (hid k hk)
   .have z:(2:Nat)=1:=z;omega
   .show (withMachine s s.active _).shows=_;unfold withMachine;split <;> rfl
  .rw[if_neg h2];split
   .exact Dec.stop 1
   .exact ⟨fun k hk=>WLt.off (hid k hk),R.tg,rfl⟩
 .rw[if_neg h1];by_cases h2:s.mode=2
  .rw[if_pos h2];cases hr:(machine s s.active).reel with
   | none=>exact Dec.stop 2
   | some i =>
    have hi:=(I.Zh9 s.active).reel i hr;have hmem:=Qhm hi;have gr:=G.rl _ hmem;have stay:(¬ (machine s s.active).place=(Qek h i:Int))->∀ k,k<=1->WLt h (machine s k):=fun hne k hk=>by
     by_cases hka:k=s.active
     .subst hka;intro hw j hj;rw[hr]at hj;cases hj
      have:=R.w s.active hk hw i hr
      omega
     .exact WLt.off (other k hk hka)
    have Zsm:∀ {P:Prop},s.mode=1->P:=fun z=>absurd z h1;simp only;split
    .exact Dec.stop 2
    .split
     .exact Dec.stop 4
     .by_cases h5:(Vbfaal.reelAt h i).last=true
      .rw[if_pos h5];have hl:Qek h i=(Vbfaal.reelAt h i).frames - 1:=by unfold Qek Vbfaal.lastOf;rw[if_pos h5]
       have hf:=gr.f1;by_cases h6:(machine s s.active).place=((Vbfaal.reelAt h i).frames:Int) - 1
       .rw[if_pos h6];refine ⟨fun k hk=>?_,fun z=>?_,?_⟩
        .rw[Qj6];show WLt h (machine (withMachine s s.active (Vbfaal.off (machine s s.active))) k);rw[Qce hact hk];by_cases hka:k=s.active
         .rw[if_pos hka];exact WLt.off rfl
         .rw[if_neg hka];exact WLt.off (other k hk hka)
        .have z:(4:Nat)=1:=z;omega
        .show (withMachine s s.active _).shows=_;unfold withMachine;split <;> rfl
       .rw[if_neg h6];exact ⟨stay (by omega),fun z=>Zsm z,rfl⟩
      .rw[if_neg h5];have h5':(Vbfaal.reelAt h i).last=false:=by simpa using h5
       have hl:Qek h i=(Vbfaal.reelAt h i).change:=by unfold Qek Vbfaal.lastOf;rw[if_neg h5]
       obtain ⟨c1,c2,c3⟩:=gr.cue h5';have ha1:1 - s.active<=1:=by omega
       by_cases h6:(machine s s.active).place=((Vbfaal.reelAt h i).motor:Int)
       .rw[if_pos h6];have st:=stay (by omega);by_cases h7:(machine s (1 - s.active)).reel=some (i+1)
        .rw[if_pos h7];refine ⟨fun k hk=>?_,fun z=>?_,?_⟩
         .rw[Qj6,Qce ha1 hk];by_cases hka:k=1 - s.active
          .rw[if_pos hka];exact WLt.off (other (1 - s.active) ha1 (by omega))
          .rw[if_neg hka];exact st k hk
         .have z:(withMachine s (1 - s.active) (Vbfaal.on (machine s (1 - s.active)))).mode=1:=z;have e:(withMachine s (1 - s.active) (Vbfaal.on (machine s (1 - s.active)))).mode=s.mode:=by unfold withMachine;split <;> rfl
          exact Zsm (by rw[<-e];exact z)
         .show (withMachine s (1 - s.active) _).shows=_;unfold withMachine;split <;> rfl
        .rw[if_neg h7];exact ⟨st,fun z=>Zsm z,rfl⟩
       .rw[if_neg h6];by_cases h7:(machine s s.active).place=((Vbfaal.reelAt h i).change:Int)
        .rw[if_pos h7];by_cases h8:(machine s (1 - s.active)).reel=some (i+1)
         .rw[if_pos h8];have hne:¬ s.active=1 - s.active:=by omega
          have em:∀ (m':Machine) (k:Nat),k<=1->machine (withMachine (withMachine s s.active (Vbfaal.off (machine s s.active))) (1 - s.active) m') k=if k=1 - s.active then m' else Vbfaal.off (machine s s.active):=fun m' k hk=>by
           rw[Qce ha1 hk];by_cases hka:k=1 - s.active
           .rw[if_pos hka,if_pos hka]
           .rw[if_neg hka,if_neg hka,Qce hact hk,if_pos (by omega)]
          have es:∀ (m':Machine),(withMachine (withMachine s s.active (Vbfaal.off (machine s s.active))) (1 - s.active) m').shows=s.shows/\(withMachine (withMachine s s.active (Vbfaal.off (machine s s.active))) (1 - s.active) m').mode=s.mode:=fun m'=>by
           unfold withMachine;by_cases z1:s.active=0 <;> by_cases z2:1 - s.active=0 <;> simp[z1,z2]
          by_cases h9:Vbfaal.ready h (machine s (1 - s.active)) 0=true
          .rw[if_pos h9];refine ⟨fun k hk=>?_,fun z=>?_,?_⟩
           .rw[Qj6];show WLt h (machine (withMachine (withMachine s s.active (Vbfaal.off (machine s s.active))) (1 - s.active) { machine s (1 - s.active) with want:=true }) k);rw[em _ k hk];by_cases hka:k=1 - s.active
            .rw[if_pos hka];intro _ j _;unfold Vbfaal.ready at h9;simp only[Bool.and_eq_true,beq_iff_eq]at h9;show (machine s (1 - s.active)).place < _;omega
            .rw[if_neg hka];exact WLt.off rfl
           .have z:(withMachine (withMachine s s.active (Vbfaal.off (machine s s.active))) (1 - s.active) { machine s (1 - s.active) with want:=true }).mode=1:=z;exact Zsm (by rw[<-(es _).2];exact z)
           .exact (es _).1
          .rw[if_neg h9];refine ⟨fun k hk=>?_,fun _ j _=>Nat.zero_le _,(es _).1⟩;show WLt h (machine (withMachine (withMachine s s.active (Vbfaal.off (machine s s.active))) (1 - s.active) (Vbfaal.on (machine s (1 - s.active)))) k);rw[em _ k hk];by_cases hka:k=1 - s.active
           .rw[if_pos hka];exact WLt.off (other (1 - s.active) ha1 (by omega))
           .rw[if_neg hka];exact WLt.off rfl
         .rw[if_neg h8];exact Dec.stop 3
        .rw[if_neg h7];exact ⟨stay (by omega),fun z=>Zsm z,rfl⟩
  .rw[if_neg h2];exact ⟨fun k hk=>WLt.off (idle h2 k hk),fun z=>absurd z h1,rfl⟩
theorem Zjd (h:Sheet) (m:Machine):(Vbfaal.turn h m).place<=m.place+1:=by rw[Qcs];simp only;split <;> omega
def turned (h:Sheet) (d:State):State:={ d with a:=Vbfaal.turn h d.a,b:=Vbfaal.turn h d.b }
theorem Zd6 (h:Sheet) (s:State):Vbfaal.ticked h s=match Vbfaal.onScreen h (turned h (Vbfaal.decideNow h { s with tick:=s.tick+1 })) with
  | some x=>{ turned h (Vbfaal.decideNow h { s with tick:=s.tick+1 }) with shows:=Vbfaal.recorded (turned h (Vbfaal.decideNow h { s with tick:=s.tick+1 })).tick x (turned h (Vbfaal.decideNow h { s with tick:=s.tick+1 })).shows,begun:=true }
  | none=>if (turned h (Vbfaal.decideNow h { s with tick:=s.tick+1 })).begun=true/\(turned h (Vbfaal.decideNow h { s with tick:=s.tick+1 })).mode ≠ 4 then { turned h (Vbfaal.decideNow h { s with tick:=s.tick+1 }) with dark:=(turned h (Vbfaal.decideNow h { s with tick:=s.tick+1 })).dark+1 } else turned h (Vbfaal.decideNow h { s with tick:=s.tick+1 }):=rfl
theorem Zsn {h:Sheet} {t:Nat} {x:Nat × Nat} {l:List (Nat × Nat × Nat × Nat)} (hl:∀ r ∈ l,r.2.1 < h.reels.length/\r.2.2.2<=Qek h r.2.1) (hx:x.1 < h.reels.length/\x.2<=Qek h x.1) :
  ∀ r ∈ Vbfaal.recorded t x l,r.2.1 < h.reels.length/\r.2.2.2<=Qek h r.2.1:=by
 unfold Vbfaal.recorded;cases e:l.getLast? with
 | none=>intro r hr;simp at hr;rw[hr];exact hx
 | some q =>
  simp only;split
  .rename_i hc;intro r hr;rcases List.mem_append.mp hr with z | z
   .exact hl r ((List.dropLast_sublist l).subset z)
   .simp at z;rw[z];show q.2.1 < _/\x.2<=Qek h q.2.1;rw[hc.1];exact hx
  .intro r hr;rcases List.mem_append.mp hr with z | z
   .exact hl r z
   .simp at z;rw[z];exact hx
theorem Zca {h:Sheet} {m:Machine} {x:Nat × Nat} (M:Qi6 h m) (hw:WLt h m) (e:one h (Vbfaal.turn h m)=some x):x.1 < h.reels.length/\x.2<=Qek h x.1:=by
 unfold one at e;split at e
 .rename_i hc;have ho:(Vbfaal.turn h m).open_=true:=(Bool.and_eq_true_iff.mp hc).1;have Zug:m.want=true:=by rw[Qcs]at ho;exact (Bool.and_eq_true_iff.mp ho).1
  have er:(Vbfaal.turn h m).reel=m.reel:=by rw[Qcs]
  rw[er]at e;cases hr:m.reel with
  | none=>rw[hr]at e;cases e
  | some i =>rw[hr]at e;have e:(i,(Vbfaal.turn h m).place.toNat)=x:=Option.some.inj e;have h1:=hw Zug i hr;have h2:=Zjd h m;rw[<-e];exact ⟨M.reel i hr,by show (Vbfaal.turn h m).place.toNat<=Qek h i;omega⟩
 .cases e
theorem Qk9.tick {h:Sheet} {s:State} (I:SInv h s) (R:Qk9 h s) (G:GS h):Qk9 h (Vbfaal.ticked h s):=by
 have I1:SInv h { s with tick:=s.tick+1 }:=I.of rfl rfl rfl I.ma I.mb I.act I.wa I.wb;have R1:Qk9 h { s with tick:=s.tick+1 }:=⟨R.w,R.tg,R.rn⟩
 have I2:=I1.decide;have D:=Zsl I1 R1 G;rw[Zd6];generalize Vbfaal.decideNow h { s with tick:=s.tick+1 }=d at I2 D;have rn:∀ r ∈ d.shows,r.2.1 < h.reels.length/\r.2.2.2<=Qek h r.2.1:=by rw[D.sh];exact R.rn
 have base:∀ t:State,t.a=Vbfaal.turn h d.a->t.b=Vbfaal.turn h d.b->t.mode=d.mode->t.active=d.active->t.target=d.target->(∀ r ∈ t.shows,r.2.1 < h.reels.length/\r.2.2.2<=Qek h r.2.1)->Qk9 h t:=by
  intro t e1 e2 e3 e4 e5 hr;have em:∀ k,machine t k=Vbfaal.turn h (machine d k):=fun k=>by
   unfold machine;split
   .exact e1
   .exact e2
  refine ⟨fun k hk hw i hi=>?_,fun hm i hi=>?_,hr⟩
  .rw[em]at hw hi ⊢;have hw:(machine d k).want=true:=by rw[Qcs]at hw;exact hw
   have hi:(machine d k).reel=some i:=by rw[Qcs]at hi;exact hi
   have:=D.w k hk hw i hi
   have:=Zjd h (machine d k)
   omega
  .rw[e4,em]at hi;have hi:(machine d d.active).reel=some i:=by rw[Qcs]at hi;exact hi
   rw[e5];exact D.tg (by rw[<-e3];exact hm) i hi
 cases e:Vbfaal.onScreen h (turned h d) with
 | some x =>
  refine base _ rfl rfl rfl rfl rfl (Zsn rn ?_);rw[Qlo]at e;have e:(match one h (Vbfaal.turn h d.a) with | some x=>some x | none=>one h (Vbfaal.turn h d.b))=some x:=e;cases ea:one h (Vbfaal.turn h d.a) with
  | some y =>rw[ea]at e;have e:y=x:=Option.some.inj e;subst e;exact Zca I2.ma (D.w 0 (by omega)) ea
  | none =>rw[ea]at e;exact Zca I2.mb (D.w 1 (by omega)) e
 | none =>
  simp only;split
  .exact base _ rfl rfl rfl rfl rfl rn
  .exact base _ rfl rfl rfl rfl rfl rn
theorem Qk9.ticks {h:Sheet} (G:GS h):∀ (n:Nat) (s:State),SInv h s->Qk9 h s->Qk9 h (Vbfaal.ticks h n s)
 | 0,s,_,R=>R
 | n+1,s,I,R=>Qk9.ticks G n _ (Zic I).2 (R.tick I G)
end
section
open Vbfaal (State Sheet Machine machine withMachine)
theorem Qw3 (s:State) (k:Nat) (m:Machine):(withMachine s k m).mode=s.mode/\(withMachine s k m).active=s.active/\(withMachine s k m).target=s.target/\(withMachine s k m).shows=s.shows:=by unfold withMachine;split <;> exact ⟨rfl,rfl,rfl,rfl⟩
theorem Qk9.setM {h:Sheet} {s:State} (I:SInv h s) (R:Qk9 h s) {k:Nat} (hk:k<=1) {m':Machine} (hw:m'.want=true->m'.reel=(machine s k).reel/\m'.place=(machine s k).place/\(machine s k).want=true)
  (ht:s.mode=1->s.active=k->m'.reel=(machine s k).reel):Qk9 h (withMachine s k m'):=by
 obtain ⟨e1,e2,e3,e4⟩:=Qw3 s k m';refine ⟨fun j hj w i hi=>?_,fun hm i hi=>?_,by rw[e4];exact R.rn⟩
 .rw[Qce hk hj]at w hi ⊢;by_cases hjk:j=k
  .rw[if_pos hjk]at w hi ⊢;obtain ⟨q1,q2,q3⟩:=hw w;rw[q2];exact R.w k hk q3 i (by rw[<-q1];exact hi)
  .rw[if_neg hjk]at w hi ⊢;exact R.w j hj w i hi
 .rw[e1]at hm;rw[e2,Qce hk I.act]at hi;rw[e3];by_cases hak:s.active=k
  .rw[if_pos hak]at hi;exact R.tg hm i (by rw[hak,<-ht hm hak];exact hi)
  .rw[if_neg hak]at hi;exact R.tg hm i hi
theorem Zan {h:Sheet} {s:State} (I:SInv h s) {m:Int} (h1:¬ Vbfaal.inUse s m=true):(s.mode=1->s.active=m.toNat->False)/\(m.toNat<=1->(machine s m.toNat).want=false):=by
 refine ⟨fun a b=>h1 ?_,fun hk=>?_⟩
 .unfold Vbfaal.inUse Vbfaal.going;simp[a,b]
 .cases e:(machine s m.toNat).want with
  | false=>rfl
  | true=>exact absurd (Qmr I hk rfl e) h1
theorem Qk9.stopped {h:Sheet} {s:State} (R:Qk9 h s) (r:Nat):Qk9 h (Vbfaal.stopped s r):=by
 refine ⟨fun k hk w=>?_,fun z=>?_,R.rn⟩
 .have e:(machine (Vbfaal.stopped s r) k).want=false:=by
   unfold machine Vbfaal.stopped Vbfaal.note;by_cases h0:k=0
   .rw[if_pos h0];rfl
   .rw[if_neg h0];rfl
  rw[e]at w;cases w
 .have z:(3:Nat)=1:=z;omega
theorem Qk9.step {h:Sheet} {s:State} (I:SInv h s) (R:Qk9 h s) (G:GS h):∀ c:Vbfaal.Call,(∀ t,c ≠ .sheet t)->Qk9 h (Vbfaal.step s c).1
 | .sheet t,hn=>absurd rfl (hn t)
 | .shown,_=>by rw[show Vbfaal.step s .shown=_ from Qr I _];exact R
 | .thread m reel lead,_=>by
  rw[show Vbfaal.step s (.thread m reel lead)=_ from Qr I _];split
  .exact R
  .rename_i h0;split
   .exact R
   .rename_i h1;split
    .exact R
    .split
     .exact R
     .have hm:Vbfaal.isMachine m=true:=by
       cases z:Vbfaal.isMachine m with
       | true=>rfl
       | false=>rw[z]at h0;simp at h0
      obtain ⟨e1,e2⟩:=Jt (by rw[Je];exact hm);obtain ⟨q1,q2⟩:=Zan I h1;refine R.setM I e2 (fun w=>?_) (fun a b=>(q1 a b).elim);have w:(machine s m.toNat).want=true:=w;rw[q2 e2]at w;cases w
 | .unthread m,_=>by
  rw[show Vbfaal.step s (.unthread m)=_ from Qr I _];split
  .exact R
  .rename_i h0;split
   .exact R
   .rename_i h1;split
    .exact R
    .split
     .exact R
     .have hm:Vbfaal.isMachine m=true:=by simpa using h0
      obtain ⟨e1,e2⟩:=Jt (by rw[Je];exact hm);obtain ⟨q1,q2⟩:=Zan I h1;refine R.setM I e2 (fun w=>?_) (fun a b=>(q1 a b).elim);have w:(machine s m.toNat).want=true:=w;rw[q2 e2]at w;cases w
 | .go m f,_=>by
  rw[show Vbfaal.step s (.go m f)=_ from Qr I _];split
  .exact R
  .rename_i h0;split
   .exact R
   .rename_i h1;have hm:Vbfaal.isMachine m=true:=by
     cases z:Vbfaal.isMachine m with
     | true=>rfl
     | false=>rw[z]at h0;simp at h0
    obtain ⟨e1,e2⟩:=Jt (by rw[Je];exact hm);have hno:∀ k,k<=1->(machine s k).want=false:=fun k hk=>by
     cases e:(machine s k).want with
     | false=>rfl
     | true=>exact absurd (by unfold Vbfaal.going;simp[(I.idx hk e).1]) h1
    split
    .exact R
    .rename_i r hr;split
     .exact R
     .rename_i h2;have em:∀ k,k<=1->machine ({ withMachine s m.toNat (Vbfaal.on (machine s m.toNat)) with mode:=1,active:=m.toNat,target:=f.toNat,why:=0 }:State) k=if k=m.toNat then Vbfaal.on (machine s m.toNat) else machine s k:=fun k hk=>Qce e2 hk
      refine ⟨fun k hk w=>?_,fun _ i hi=>?_,?_⟩
      .rw[em k hk]at w;by_cases hkm:k=m.toNat
       .rw[if_pos hkm]at w;have w:(machine s m.toNat).want=true:=w;rw[hno _ e2]at w;cases w
       .rw[if_neg hkm,hno _ hk]at w;cases w
      .have hi:(machine ({ withMachine s m.toNat (Vbfaal.on (machine s m.toNat)) with mode:=1,active:=m.toNat,target:=f.toNat,why:=0 }:State) m.toNat).reel=some i:=hi;rw[em _ e2,if_pos rfl]at hi;have hi:(machine s m.toNat).reel=some i:=hi;rw[Qw2 hi ((I.Zh9 m.toNat).reel i hi)]at hr;cases hr;show f.toNat<=Qek h i;unfold Qek;omega
      .show ∀ r ∈ (withMachine s m.toNat (Vbfaal.on (machine s m.toNat))).shows,_;rw[(Qw3 _ _ _).2.2.2];exact R.rn
 | .halt,_=>by
  rw[show Vbfaal.step s .halt=_ from Qr I _];split
  .exact R
  .exact R.stopped 6
 | .tick n,_=>by
  rw[show Vbfaal.step s (.tick n)=_ from Qr I _];split
  .exact R
  .exact Qk9.ticks G _ s I R
 | .seize m,_=>by
  rw[show Vbfaal.step s (.seize m)=_ from Qr I _];split
  .exact R
  .rename_i h0;have hm:Vbfaal.isMachine m=true:=by simpa using h0
   obtain ⟨e1,e2⟩:=Jt (by rw[Je];exact hm);exact R.setM I e2 (fun w=>⟨rfl,rfl,w⟩) (fun _ _=>rfl)
 | .tear m,_=>by
  rw[show Vbfaal.step s (.tear m)=_ from Qr I _];split
  .exact R
  .rename_i h0;split
   .exact R
   .have hm:Vbfaal.isMachine m=true:=by simpa using h0
    obtain ⟨e1,e2⟩:=Jt (by rw[Je];exact hm);exact R.setM I e2 (fun w=>⟨rfl,rfl,w⟩) (fun _ _=>rfl)
 | .lampOut m,_=>by
  rw[show Vbfaal.step s (.lampOut m)=_ from Qr I _];split
  .exact R
  .rename_i h0;have hm:Vbfaal.isMachine m=true:=by simpa using h0
   obtain ⟨e1,e2⟩:=Jt (by rw[Je];exact hm);exact R.setM I e2 (fun w=>⟨rfl,rfl,w⟩) (fun _ _=>rfl)
 | .mend m,_=>by
  rw[show Vbfaal.step s (.mend m)=_ from Qr I _];split
  .exact R
  .rename_i h0;split
   .exact R
   .have hm:Vbfaal.isMachine m=true:=by simpa using h0
    obtain ⟨e1,e2⟩:=Jt (by rw[Je];exact hm);exact R.setM I e2 (fun w=>⟨rfl,rfl,w⟩) (fun _ _=>rfl)
 | .power,_=>by
  rw[show Vbfaal.step s .power=_ from Qr I _];have key:∀ t:State,t.mode=s.mode->t.shows=s.shows->t.a.want=false->t.b.want=false->(¬ Vbfaal.going s=true\/True)->(Vbfaal.going s=true->Qk9 h (Vbfaal.stopped t 5))/\(¬ Vbfaal.going s=true->Qk9 h t):=by
   intro t e1 e2 e3 e4 _;have hw:∀ k,(machine t k).want=true->False:=fun k w=>by
    unfold machine at w;split at w
    .rw[e3]at w;cases w
    .rw[e4]at w;cases w
   refine ⟨fun _=>⟨fun k hk w=>?_,fun z=>?_,?_⟩,fun hg=>⟨fun k hk w=>(hw k w).elim,fun z=>?_,by rw[e2];exact R.rn⟩⟩
   .have e:(machine (Vbfaal.stopped t 5) k).want=false:=by
     unfold machine Vbfaal.stopped Vbfaal.note;by_cases h0:k=0
     .rw[if_pos h0];rfl
     .rw[if_neg h0];rfl
    rw[e]at w;cases w
   .have z:(3:Nat)=1:=z;omega
   .show ∀ r ∈ t.shows,_;rw[e2];exact R.rn
   .exact absurd (by unfold Vbfaal.going;rw[<-e1];simp[z]) hg
  by_cases hg:Vbfaal.going s=true
  .simp only[if_pos hg];exact (key { s with a:={ Vbfaal.off s.a with phase:=0,count:=0,open_:=false,moved:=false },b:={ Vbfaal.off s.b with phase:=0,count:=0,open_:=false,moved:=false } } rfl rfl rfl rfl (.inr trivial)).1 hg
  .simp only[if_neg hg];exact (key { s with a:={ Vbfaal.off s.a with phase:=0,count:=0,open_:=false,moved:=false },b:={ Vbfaal.off s.b with phase:=0,count:=0,open_:=false,moved:=false } } rfl rfl rfl rfl (.inr trivial)).2 hg
 | .inch m k,_=>by
  rw[show Vbfaal.step s (.inch m k)=_ from Qr I _];split
  .exact R
  .rename_i h0;split
   .exact R
   .rename_i h1;split
    .exact R
    .split
     .exact R
     .simp only;split
      .exact R
      .have hm:Vbfaal.isMachine m=true:=by
        cases z:Vbfaal.isMachine m with
        | true=>rfl
        | false=>rw[z]at h0;simp at h0
       obtain ⟨e1,e2⟩:=Jt (by rw[Je];exact hm);obtain ⟨q1,q2⟩:=Zan I h1;refine R.setM I e2 (fun w=>?_) (fun a b=>(q1 a b).elim);have w:(machine s m.toNat).want=true:=w;rw[q2 e2]at w;cases w
 | .machine m,_=>by
  rw[show Vbfaal.step s (.machine m)=_ from Qr I _];split <;> exact R
 | .house,_=>by rw[show Vbfaal.step s .house=_ from Qr I _];exact R
 | .screen,_=>by rw[show Vbfaal.step s .screen=_ from Qr I _];exact R
 | .record,_=>by rw[show Vbfaal.step s .record=_ from Qr I _];exact R
 | .log,_=>by rw[show Vbfaal.step s .log=_ from Qr I _];exact R
 | .lost,_=>by rw[show Vbfaal.step s .lost=_ from Qr I _];exact R
 | .twice,_=>by rw[show Vbfaal.step s .twice=_ from Qr I _];exact R
 | .plan,_=>by rw[show Vbfaal.step s .plan=_ from Qr I _];exact R
 | .lead n,_=>by
  rw[show Vbfaal.step s (.lead n)=_ from Qr I _];split <;> exact R
 | .reel n,_=>by
  rw[show Vbfaal.step s (.reel n)=_ from Qr I _];split <;> exact R
 | .free,_=>by rw[show Vbfaal.step s .free=_ from Qr I _];exact R
theorem Zuh (s:State) (i k:Nat):TS (i:Int) (s.shows.map Qj1) (k:Int)=(Vbfaal.timesShown s i k:Int):=by
 unfold Vbfaal.timesShown TS
 induction s.shows with
 | nil=>rfl
 | cons r l ih =>
  rw[List.map_cons,List.map_cons,List.sum_cons,ih,List.filter_cons];have ec:((Qj1 r).2.1=(i:Int)/\(Qj1 r).2.2.1<=(k:Int)/\(k:Int)<=(Qj1 r).2.2.2) ↔ (r.2.1 == i&&(decide (r.2.2.1<=k)&&decide (k<=r.2.2.2)))=true:=by unfold Qj1;simp only[Bool.and_eq_true,beq_iff_eq,decide_eq_true_eq];constructor <;> rintro ⟨a,b,c⟩ <;> exact ⟨by omega,by omega,by omega⟩
  by_cases h:(r.2.1 == i&&(decide (r.2.2.1<=k)&&decide (k<=r.2.2.2)))=true
  .rw[if_pos (ec.mpr h),if_pos h,List.length_cons];omega
  .rw[if_neg (fun z=>h (ec.mp z)),if_neg h];omega
theorem Qw4 {h:Sheet} {s:State} (I:SInv h s) (R:Qk9 h s) (Zi:Int) (p:Nat->Bool) (hp:∀ n:Nat,decide (Ziq (n:Int)=Zi)=p n) :
  Yh (hsO s) Zi=(Vbfaal.framesWith h s p).map fun x=>((x.1:Int),(x.2.1:Int),(x.2.2:Int)):=by
 unfold Yh Vbfaal.framesWith;rw[I.sh];have el:(shO h).reels.length=h.reels.length:=by show (h.reels.map rlO).length=_;rw[List.length_map]
 rw[el,List.map_flatMap];have hr1:∀ r ∈ s.shows.map Qj1,r.2.2.1<=r.2.2.2:=fun r hr=>by
  obtain ⟨q,hq,rfl⟩:=List.mem_map.mp hr
  have:=I.runs q hq
  unfold Qj1;show (q.2.2.1:Int)<=(q.2.2.2:Int)
  omega
 rw[List.flatMap_def,List.flatMap_def]
 congr 1
 apply List.map_congr_left;intro i hi;have hi:i < h.reels.length:=List.mem_range.mp hi;unfold Qej;rw[I.sh,Qv4 h i hi,last_eq _ fun _=>I.fr _ (Qhm hi)]
 have:=Zl4 (runs:=s.shows.map Qj1) (reel:=(i:Int)) (Zi:=Zi) (last:=Vbfaal.lastOf (Vbfaal.reelAt h i)) hr1 (fun r hr e=>by
  obtain ⟨q,hq,rfl⟩:=List.mem_map.mp hr;have h2:=(R.rn q hq).2;have e:(q.2.1:Int)=(i:Int):=e;have e:q.2.1=i:=by omega
  rw[e]at h2;unfold Qj1 Qek at *
  exact ⟨by show (0:Int)<=(q.2.2.1:Int);omega,by show (q.2.2.2:Int)<=_;omega⟩)
 show Qwa (s.shows.map Qj1) (i:Int) _ Zi=_;rw[this,List.map_map];have ef:(fun j:Nat=>decide (Ziq (TS (i:Int) (s.shows.map Qj1) (j:Int))=Zi))=fun k=>p (Vbfaal.timesShown s i k):=by funext j;rw[Zuh,hp]
 rw[ef];rfl
theorem Zcb (l:List (Nat × Nat × Nat)):(Qwn (l.map fun x=>((x.1:Int),(x.2.1:Int),(x.2.2:Int)))).flatten=Vbfaal.ints (l.flatMap fun r=>[r.1,r.2.1,r.2.2]):=by unfold Qwn;rw[List.map_map];exact Qj5 (fun r:Nat × Nat × Nat=>[r.1,r.2.1,r.2.2]) _ (fun a=>rfl) l
theorem Zje {h:Sheet} {s:State} (I:SInv h s) (R:Qk9 h s):Qad h s .lost (Zi0 (hsO s) []):=by
 have ew:Vbfaal.step s .lost=_:=Qr I _;refine Qy ew ?_ I;unfold Zi0
 rw[Qw4 I R 0 (fun n=>n == 0) fun n=>by
  unfold Ziq;by_cases h0:n=0
  .simp[h0]
  .have h1:¬ (if (2:Int) < (n:Int) then 2 else (n:Int))=0:=by split <;> omega
   simp[h0,h1],List.length_map,Zcb]
 rfl
theorem Zd7 {h:Sheet} {s:State} (I:SInv h s) (R:Qk9 h s):Qad h s .twice (Qwo (hsO s) []):=by
 have ew:Vbfaal.step s .twice=_:=Qr I _;refine Qy ew ?_ I;unfold Qwo
 rw[Qw4 I R 2 (fun n=>decide (2<=n)) fun n=>by
  unfold Ziq
  exact decide_eq_decide.mpr (by constructor <;> intro z <;> (try split) <;> (try split at z) <;> omega),List.length_map,Zcb]
 rfl
end
section
open Vbfaal (State Sheet Machine machine withMachine)
open PySem (Str)
open TL (tl)
theorem Zjf (n:Nat):tl (nS (n:Int))=Vbfaal.decimal n:=by unfold nS;rw[TL.Qx8];rfl
theorem Qw5 (S:List Nat):∀ ps:List (List Nat),ps ≠ []->TL.Qm5 S ps++S=ps.flatMap (· ++ S)
 | [],h=>absurd rfl h
 | [p],_=>by simp[TL.Qm5]
 | p::q::r,_=>by
  have ih:=Qw5 S (q::r) (by simp);rw[TL.Qm5,List.flatMap_cons,<-ih];simp
theorem lits:tl ("up " : Str)=Vbfaal.text "up" ++ [32]/\tl ("strike " : Str)=Vbfaal.text "strike" ++ [32]/\tl ("down " : Str)=Vbfaal.text "down" ++ [32]/\tl ("leader " : Str)=Vbfaal.text "leader" ++ [32]/\tl ("reel " : Str)=Vbfaal.text "reel" ++ [32] /\
  tl (" frames " : Str)=32::Vbfaal.text "frames" ++ [32]/\tl (" end" : Str)=32::Vbfaal.text "end" /\ tl (" motor " : Str)=32::Vbfaal.text "motor" ++ [32]/\tl (" change " : Str)=32::Vbfaal.text "change" ++ [32]/\tl ("\n" : Str)=[10]:=by decide +kernel
def Qos (r:Vbfaal.Reel):List (List Nat):=[Vbfaal.text "reel",Vbfaal.decimal r.name,Vbfaal.text "frames",Vbfaal.decimal r.frames]++(if r.last=true then [Vbfaal.text "end"] else [Vbfaal.text "motor",Vbfaal.decimal r.motor,Vbfaal.text "change",Vbfaal.decimal r.change])
theorem Zso (r:Vbfaal.Reel):tl (rlO r).row++[10]=Vbfaal.lineShown (Qos r):=by
 obtain ⟨_,_,_,_,l5,l6,l7,l8,l9,_⟩:=lits;have hh:tl (rlO r).head=Vbfaal.text "reel" ++ 32::Vbfaal.decimal r.name++32::Vbfaal.text "frames" ++ 32::Vbfaal.decimal r.frames:=by unfold Rl.head;rw[TL.Jd,TL.Jd,TL.Jd,l5,l6];show Vbfaal.text "reel" ++ [32]++tl (nS (r.name:Int))++(32::Vbfaal.text "frames" ++ [32])++tl (nS (r.frames:Int))=_;rw[Zjf,Zjf];simp
 unfold Rl.row Qos Vbfaal.lineShown;by_cases hl:r.last=true
 .rw[if_pos (show (rlO r).ends=true from hl),if_pos hl,TL.Jd,hh,l7];simp
 .rw[if_neg (show ¬ (rlO r).ends=true from hl),if_neg hl,TL.Jd,TL.Jd,TL.Jd,TL.Jd,hh,l8,l9];show _++tl (nS (r.motor:Int))++_++tl (nS (r.change:Int))++_=_;rw[Zjf,Zjf];simp
theorem Zcc (p:Str) (w:List Nat) (hp:tl p=w++[32]) (n:Nat):tl (p++nS (n:Int))++[10]=Vbfaal.lineShown [w,Vbfaal.decimal n]:=by rw[TL.Jd,hp,Zjf];unfold Vbfaal.lineShown;simp
theorem Zp9 (h:Sheet):Zv (shO h).text=Vbfaal.ints (Vbfaal.shown h):=by
 obtain ⟨l1,l2,l3,l4,_,_,_,_,_,l10⟩:=lits;have e1:Zv (shO h).text=(tl (shO h).text).map fun (n:Nat)=>(n:Int):=rfl;rw[e1];unfold Vbfaal.ints
 congr 1
 unfold Sh.text;rw[TL.Jd,TL.join_eq,TL.Qx9,l10,Qw5 _ _ (by unfold Sh.rows Sh.Qor;simp)];unfold Sh.rows Sh.Qor Vbfaal.shown;rw[List.map_append,List.flatMap_append];show (tl (("up " : Str)++nS (h.up:Int))++[10]++(tl (("strike " : Str)++nS (h.strike:Int))++[10]++(tl (("down " : Str)++nS (h.down:Int))++[10]++(tl (("leader " : Str)++nS (h.leader:Int))++[10]++[]))))++(((h.reels.map rlO).map Rl.row).map tl).flatMap (· ++ [10])=_;rw[Zcc _ _ l1,Zcc _ _ l2,Zcc _ _ l3,Zcc _ _ l4,List.append_nil,List.map_map,List.map_map];have e2:(h.reels.map ((tl ∘ Rl.row) ∘ rlO)).flatMap (· ++ [10])=h.reels.flatMap fun r=>Vbfaal.lineShown (Qos r):=by
  rw[List.flatMap_map]
  congr 1
  funext r;exact Zso r
 rw[e2];simp only[List.append_assoc];rfl
theorem Zd8 {h:Sheet} {s:State} (I:SInv h s):Qad h s .shown (Zb9 (hsO s) []):=by
 have ew:Vbfaal.step s .shown=_:=Qr I _;refine Qy ew ?_ I;unfold Zb9;rw[I.sh,Zp9]
 congr 2
 unfold Vbfaal.ints;rw[List.length_map]
inductive St:State->Prop
 | new:St Vbfaal.start
 | going {s:State} (h:Sheet) (I:SInv h s) (R:Qk9 h s) (G:GS h) (ne:h.reels ≠ []):St s
theorem Qw6 (h:Sheet):Qi6 h Vbfaal.still:=⟨fun i z=>(by cases z),by decide,fun _=>rfl,fun _=>rfl,fun z=>(by cases z)⟩
theorem Zjg {h:Sheet} (hf:∀ r ∈ h.reels,1<=r.frames):SInv h { Vbfaal.start with sheet:=some h }:=
 ⟨rfl,Qw6 h,Qw6 h,Nat.zero_le 1,fun z=>(by cases z),fun z=>(by cases z),⟨fun z=>(by cases z),fun z=>absurd rfl z⟩,fun r hr=>(by cases hr),hf⟩
theorem Zd9 (h:Sheet):Qk9 h { Vbfaal.start with sheet:=some h }:=by
 refine ⟨fun k hk w=>?_,fun z=>?_,fun r hr=>by cases hr⟩
 .unfold machine at w;split at w <;> cases w
 .have z:(0:Nat)=1:=z;omega
theorem Zme (t:List Int):Qva t=(decide (t.length<=Vbfaal.TEXT)&&t.all fun z=>Vbfaal.within z 0 255):=rfl
theorem Zcd:∀ t:List Int,(∀ z ∈ t,0<=z)->ci (t.map Int.toNat)=t
 | [],_=>rfl
 | z::r,h=>by
  have h1:=h z (List.mem_cons_self);have ih:=Zcd r fun y hy=>h y (List.mem_cons_of_mem _ hy);unfold ci at ih ⊢;rw[List.map_cons,List.map_cons,ih,Int.toNat_of_nonneg h1]
theorem Zea {s:State} (hs:St s) (t:List Int):Qca (hsO s) t=(hsO (Vbfaal.step s (.sheet t)).1,(Vbfaal.step s (.sheet t)).2)/\St (Vbfaal.step s (.sheet t)).1:=by
 have key:∀ (s':State) (l:List Int),Vbfaal.step s (.sheet t)=(s',l)->Qca (hsO s) t=(hsO s',l)->St s' -> Qca (hsO s) t=(hsO (Vbfaal.step s (.sheet t)).1,(Vbfaal.step s (.sheet t)).2)/\St (Vbfaal.step s (.sheet t)).1:=by intro s' l e1 e2 e3;rw[e1];exact ⟨e2,e3⟩
 have es:Vbfaal.step s (.sheet t)=if (decide (t.length<=Vbfaal.TEXT)&&t.all fun z=>Vbfaal.within z 0 255)=false then (s,[-1])
  else if Vbfaal.going s=true then (s,[-3])
  else match Vbfaal.read (t.map Int.toNat) with
   | .error e=>(s,[1,(e.1:Int),(e.2:Int)])
   | .ok h=>({ Vbfaal.start with sheet:=some h },[0,(h.reels.length:Int)]):=rfl
 unfold Qca at key ⊢;rw[Zme,Qfb]at key ⊢;cases h1:(decide (t.length<=Vbfaal.TEXT)&&t.all fun z=>Vbfaal.within z 0 255) with
 | false =>rw[h1]at es key;rw[if_pos rfl]at es;rw[if_neg Bool.false_ne_true]at key ⊢;exact key s [-1] es rfl hs
 | true =>
  rw[h1]at es key;rw[if_neg (by decide)]at es;rw[if_pos rfl]at key ⊢;by_cases h2:Vbfaal.going s=true
  .rw[if_pos h2]at es key ⊢;exact key s [-3] es rfl hs
  .rw[if_neg h2]at es key ⊢;have hn:∀ z ∈ t,0<=z:=fun z hz=>by
    have:=List.all_eq_true.mp (Bool.and_eq_true_iff.mp h1).2 z hz
    unfold Vbfaal.within at this;simp only[Bool.and_eq_true,decide_eq_true_eq]at this;exact this.1
   have rd:=Zp0 (t.map Int.toNat);rw[Zcd t hn]at rd;cases hr:Vbfaal.read (t.map Int.toNat) with
   | error e =>rw[hr]at es rd;have rd:(Qa8 sh0 t).1=[(e.1:Int),(e.2:Int)]:=rd;rw[rd]at key ⊢;rw[if_neg (by simp)]at key ⊢;exact key s _ es rfl hs
   | ok h =>
    rw[hr]at es rd;obtain ⟨r1,r2,r3⟩:(Qa8 sh0 t).1=[]/\(Qa8 sh0 t).2=shO h/\∀ r ∈ h.reels,1<=r.frames:=rd;rw[r1,r2]at key ⊢;rw[if_pos (show ([]:List Int).length=0 from rfl)]at key ⊢;obtain ⟨g1,g2⟩:=Zp3 hr;refine key { Vbfaal.start with sheet:=some h } [0,(h.reels.length:Int)] es ?_ (.going h (Zjg r3) (Zd9 h) g1 g2);have el:((shO h).reels.length:Int)=(h.reels.length:Int):=by show ((h.reels.map rlO).length:Int)=_;rw[List.length_map]
    rw[el];rfl
end
section
open Vbfaal (State Sheet Machine machine withMachine)
def szL:List Nat:=[0,0,3,1,2,0,1,1,1,1,1,0,2,1,0,0,0,0,0,0,0,1,1,0]
def Zj3:Nat->Hs->List Int->Hs × List Int
 | 0=>Qca
 | 1=>Zb9
 | 2=>Qcg
 | 3=>Yy
 | 4=>cGo
 | 5=>Qn8
 | 6=>Qn9
 | 7=>Qgr
 | 8=>Qk2
 | 9=>Qn6
 | 10=>Qk1
 | 11=>Qjz
 | 12=>Qmh
 | 13=>Qok
 | 14=>Ziz
 | 15=>Qg2
 | 16=>Qom
 | 17=>cLog
 | 18=>Zi0
 | 19=>Qwo
 | 20=>Zl9
 | 21=>Qqe
 | 22=>Qqf
 | _=>Zp7
def Qds (k:Nat) (x:Hs) (ns:List Int):Hs × List Int:=if k ≠ 0/\x.sheet=none then (x,[-2]) else Zj3 k x ns
def Zui:Nat->List Int->Vbfaal.Call
 | 0,t=>.sheet t
 | 1,_=>.shown
 | 2,[a,b,c]=>.thread a b c
 | 3,[a]=>.unthread a
 | 4,[a,b]=>.go a b
 | 5,_=>.halt
 | 6,[a]=>.tick a
 | 7,[a]=>.seize a
 | 8,[a]=>.tear a
 | 9,[a]=>.lampOut a
 | 10,[a]=>.mend a
 | 11,_=>.power
 | 12,[a,b]=>.inch a b
 | 13,[a]=>.machine a
 | 14,_=>.house
 | 15,_=>.screen
 | 16,_=>.record
 | 17,_=>.log
 | 18,_=>.lost
 | 19,_=>.twice
 | 20,_=>.plan
 | 21,[a]=>.lead a
 | 22,[a]=>.reel a
 | 23,_=>.free
 | _,_=>.free
def Qg8 (s:State) (k:Nat) (ns:List Int):State × List Int:=Vbfaal.step s (Zui k ns)
theorem Zeb (k:Nat) (h0:k ≠ 0) (hk:k<=23) (ns:List Int) (hl:ns.length=szL.getD k 0):Qg8 Vbfaal.start k ns=(Vbfaal.start,[-2]):=by
 match k,hk,h0,ns,hl with
 | 0,_,h0,_,_=>exact absurd rfl h0
 | 1,_,_,[],_=>rfl
 | 2,_,_,[a,b,c],_=>rfl
 | 3,_,_,[a],_=>rfl
 | 4,_,_,[a,b],_=>rfl
 | 5,_,_,[],_=>rfl
 | 6,_,_,[a],_=>rfl
 | 7,_,_,[a],_=>rfl
 | 8,_,_,[a],_=>rfl
 | 9,_,_,[a],_=>rfl
 | 10,_,_,[a],_=>rfl
 | 11,_,_,[],_=>rfl
 | 12,_,_,[a,b],_=>rfl
 | 13,_,_,[a],_=>rfl
 | 14,_,_,[],_=>rfl
 | 15,_,_,[],_=>rfl
 | 16,_,_,[],_=>rfl
 | 17,_,_,[],_=>rfl
 | 18,_,_,[],_=>rfl
 | 19,_,_,[],_=>rfl
 | 20,_,_,[],_=>rfl
 | 21,_,_,[a],_=>rfl
 | 22,_,_,[a],_=>rfl
 | 23,_,_,[],_=>rfl
 | _+24,hk,_,_,_=>omega
theorem Znh {s:State} (hs:St s) (k:Nat) (hk:k<=23) (ns:List Int) (hl:k ≠ 0->ns.length=szL.getD k 0):Qds k (hsO s) ns=(hsO (Qg8 s k ns).1,(Qg8 s k ns).2)/\St (Qg8 s k ns).1:=by
 by_cases h0:k=0
 .subst h0;unfold Qds;rw[if_neg (fun z=>z.1 rfl)];exact Zea hs ns
 .cases hs with
  | new =>rw[Zeb k h0 hk ns (hl h0)];unfold Qds;rw[if_pos ⟨h0,rfl⟩];exact ⟨rfl,.new⟩
  | going h I R G ne =>
   have hsn:¬ (k ≠ 0/\(hsO s).sheet=none):=fun z=>by
    have e:(hsO s).sheet=some (shO h):=by show s.sheet.map shO=_;rw[I.sheet];rfl
    rw[e]at z;cases z.2
   unfold Qds;rw[if_neg hsn];have fin:∀ (c:Vbfaal.Call) (r:Hs × List Int),(∀ t,c ≠ .sheet t)->Qad h s c r->r=(hsO (Vbfaal.step s c).1,(Vbfaal.step s c).2)/\St (Vbfaal.step s c).1:=fun c r hc e=>⟨e.1,.going h e.2 (R.step I G c hc) G ne⟩
   have hl:=hl h0;clear hsn
   match k,hk,h0,ns,hl with
   | 0,_,h0,_,_=>exact absurd rfl h0
   | 1,_,_,[],_=>exact fin _ _ (fun t z=>by cases z) (Zd8 I)
   | 2,_,_,[a,b,c],_=>exact fin _ _ (fun t z=>by cases z) (Qz4 I a b c)
   | 3,_,_,[a],_=>exact fin _ _ (fun t z=>by cases z) (Qs7 I a)
   | 4,_,_,[a,b],_=>exact fin _ _ (fun t z=>by cases z) (go_same I a b)
   | 5,_,_,[],_=>exact fin _ _ (fun t z=>by cases z) (halt_same I)
   | 6,_,_,[a],_=>exact fin _ _ (fun t z=>by cases z) (Zih I a)
   | 7,_,_,[a],_=>exact fin _ _ (fun t z=>by cases z) (Zdq I a)
   | 8,_,_,[a],_=>exact fin _ _ (fun t z=>by cases z) (Zij I a)
   | 9,_,_,[a],_=>exact fin _ _ (fun t z=>by cases z) (Zig I a)
   | 10,_,_,[a],_=>exact fin _ _ (fun t z=>by cases z) (Zii I a)
   | 11,_,_,[],_=>exact fin _ _ (fun t z=>by cases z) (Zdr I)
   | 12,_,_,[a,b],_=>exact fin _ _ (fun t z=>by cases z) (Zjc I a b)
   | 13,_,_,[a],_=>exact fin _ _ (fun t z=>by cases z) (Zi6 I a)
   | 14,_,_,[],_=>exact fin _ _ (fun t z=>by cases z) (Zd5 I)
   | 15,_,_,[],_=>exact fin _ _ (fun t z=>by cases z) (Zal I)
   | 16,_,_,[],_=>exact fin _ _ (fun t z=>by cases z) (Zam I)
   | 17,_,_,[],_=>exact fin _ _ (fun t z=>by cases z) (Zmd I)
   | 18,_,_,[],_=>exact fin _ _ (fun t z=>by cases z) (Zje I R)
   | 19,_,_,[],_=>exact fin _ _ (fun t z=>by cases z) (Zd7 I R)
   | 20,_,_,[],_=>exact fin _ _ (fun t z=>by cases z) (Zjb I)
   | 21,_,_,[a],_=>exact fin _ _ (fun t z=>by cases z) (Zi8 I G a)
   | 22,_,_,[a],_=>exact fin _ _ (fun t z=>by cases z) (Zi7 I a)
   | 23,_,_,[],_=>exact fin _ _ (fun t z=>by cases z) (Zi9 I)
   | _+24,hk,_,_,_=>omega
def Qmi (x y:Hs):Prop:=y.log.length<=x.log.length+500/\y.runs.length<=x.runs.length+500
theorem Qmi.refl (x:Hs):Qmi x x:=⟨Nat.le_add_right _ _,Nat.le_add_right _ _⟩
theorem Qmi.stop (x:Hs) (r:Int):Qmi x (x.stop r):=⟨by rw[Qj0];omega,Nat.le_add_right _ _⟩
theorem Zmf (k:Nat) (x:Hs) (ns:List Int):Qmi x (Zj3 k x ns).1:=by
 have g:=Qmi.refl x
 match k with
 | 0 =>
  show Qmi x (Qca x ns).1;unfold Qca;split
  .split
   .exact g
   .split
    .exact ⟨Nat.zero_le _,Nat.zero_le _⟩
    .exact g
  .exact g
 | 2=>show Qmi x (Qcg x ns).1;unfold Qcg;(repeat' split) <;> exact g
 | 3=>show Qmi x (Yy x ns).1;unfold Yy;(repeat' split) <;> exact g
 | 4=>show Qmi x (cGo x ns).1;unfold cGo;(repeat' split) <;> exact g
 | 5 =>
  show Qmi x (Qn8 x ns).1;unfold Qn8;split
  .exact Qmi.stop x 6
  .exact g
 | 6 =>
  show Qmi x (Qn9 x ns).1;unfold Qn9;split
  .rename_i h;have t:=Qgt.ticks x (ns.getD 0 0).toNat;have h1:=t.log;have h2:=t.runs;exact ⟨by show (Qbc (ns.getD 0 0).toNat x).log.length<=_;omega,by show (Qbc (ns.getD 0 0).toNat x).runs.length<=_;omega⟩
  .exact g
 | 7=>show Qmi x (Qgr x ns).1;unfold Qgr;(repeat' split) <;> exact g
 | 8=>show Qmi x (Qk2 x ns).1;unfold Qk2;(repeat' split) <;> exact g
 | 9=>show Qmi x (Qn6 x ns).1;unfold Qn6;(repeat' split) <;> exact g
 | 10=>show Qmi x (Qk1 x ns).1;unfold Qk1;(repeat' split) <;> exact g
 | 11 =>
  show Qmi x (Qjz x ns).1;unfold Qjz;by_cases h:x.going=true
  .rw[if_pos h];exact Qmi.stop x.Qvz 5
  .rw[if_neg h];exact g
 | 12 =>
  show Qmi x (Qmh x ns).1;unfold Qmh Qrc
  (repeat' split) <;> exact g
 | 13=>show Qmi x (Qok x ns).1;unfold Qok;(repeat' split) <;> exact g
 | 21=>show Qmi x (Qqe x ns).1;unfold Qqe;(repeat' split) <;> exact g
 | 22=>show Qmi x (Qqf x ns).1;unfold Qqf;(repeat' split) <;> exact g
 | 1=>exact g
 | 14=>exact g
 | 15=>exact g
 | 16=>exact g
 | 17=>exact g
 | 18=>exact g
 | 19=>exact g
 | 20=>exact g
 | _+23=>exact g
theorem Zjh (k:Nat) (x:Hs) (ns:List Int):Qmi x (Qds k x ns).1:=by
 unfold Qds;split
 .exact Qmi.refl x
 .exact Zmf k x ns
theorem Zqa {h:Sheet} {s:State} (I:SInv h s) (G:GS h) (b1:s.log.length < 1000000) (b2:s.shows.length < 300000):Qbf (hsO s)/\ShN (hsO s).sh:=by
 have esh:=I.sh;have el:(shO h).reels.length=h.reels.length:=by show (h.reels.map rlO).length=_;rw[List.length_map]
 have has:∀ m:Machine,Qi6 h m->(shO h).has (mcO m).reel:=fun m M=>by
  unfold Sh.has;rw[el];cases hr:m.reel with
  | none=>exact .inl (by unfold mcO;rw[hr])
  | some i =>
   have:=M.reel i hr
   refine .inr ?_;have e:(mcO m).reel=(i:Int):=by unfold mcO;rw[hr]
   rw[e];omega
 refine ⟨⟨?_,by rw[esh];exact has _ I.ma,by rw[esh];exact has _ I.mb,?_,?_,?_⟩,?_⟩
 .rw[esh];show s.sheet.map shO=_;rw[I.sheet];rfl
 .have:=I.act
  show Qdo (s.active:Int);unfold Qdo;omega
 .show (s.log.map _).length < _;rw[List.length_map];exact b1
 .show (s.shows.map _).length < _;rw[List.length_map];exact b2
 .rw[esh];have g1:=G.up;have g2:=G.st;have g3:=G.dn;have g4:=G.ld;refine ⟨⟨by show (0:Int)<=(h.up:Int);omega,by show (h.up:Int)<=9999;omega⟩,⟨by show (0:Int)<=(h.strike:Int);omega,by show (h.strike:Int)<=9999;omega⟩,⟨by show (0:Int)<=(h.down:Int);omega,by show (h.down:Int)<=9999;omega⟩,⟨by show (0:Int)<=(h.leader:Int);omega,by show (h.leader:Int)<=9999;omega⟩,by rw[el];exact G.six,fun r hr=>?_⟩;obtain ⟨q,hq,rfl⟩:=List.mem_map.mp (show r ∈ h.reels.map rlO from hr);have g:=G.rl q hq;have a1:=g.name;have a2:=g.f2;have a3:=g.mo;have a4:=g.ch;exact ⟨⟨by show (0:Int)<=(q.name:Int);omega,by show (q.name:Int)<=9999;omega⟩,⟨by show (0:Int)<=(q.frames:Int);omega,by show (q.frames:Int)<=9999;omega⟩,⟨by show (0:Int)<=(q.motor:Int);omega,by show (q.motor:Int)<=9999;omega⟩,⟨by show (0:Int)<=(q.change:Int);omega,by show (q.change:Int)<=9999;omega⟩⟩
end
end
section
open PySem PySem.Spec PyProof.Rows L2
variable {P:Program} {w:World} {K:FG} {mg:Str->Option Value} {base:Heap} {CM CR CS CH:Addr}
noncomputable abbrev Qdk:Stmt:=top 132
noncomputable abbrev Qot:List Str:=["house","call","numbers"]
noncomputable abbrev Ju:List Str:=["house","call","numbers"]
theorem Qmj:Qn Qot Ju (Qi Qdk):=by walk_at "sc"
noncomputable abbrev Qch:Stmt:=top 156
noncomputable abbrev Qmk:List Str:=["house","call","numbers"]
noncomputable abbrev Jg:List Str:=["house","call","numbers"]
theorem Qla:Qn Qmk Jg (Qi Qch):=by walk_at "sc"
noncomputable abbrev Qfo:Stmt:=top 160
noncomputable abbrev Qtr:List Str:=["house","call","numbers"]
noncomputable abbrev Qbe:List Str:=["house","call","numbers"]
theorem Qqj:Qn Qtr Qbe (Qi Qfo):=by walk_at "sc"
noncomputable abbrev Qdl:Stmt:=top 161
noncomputable abbrev Zji:List Str:=["calls","house","given","at","call","size","answer"]
noncomputable abbrev Qdm:List Str:=["calls"]
theorem Zec:Qn Zji Qdm (Qi Qdl):=by walk_at "sc"
def Qts (CM CR CS CH:Addr) (H:Hp) (A:Ad) (r:Hs × List Int) (Q:VK):Prop:=∀ A' H' q,Jx CM CR CS CH H' A' r.1->Step H H' A A' -> (∀ b o,H b=some o->b ∉ A.foot->b ≠ q)->H' q=some (Qah r.2)->q ∉ A'.foot->Q (.ref q) H'
def Zqm (k:Nat) (x:Hs) (ns:List Int):Prop:=if k=0 then ns.length < 100000 else ns.length=szL.getD k 0/\Qbf x/\ShN x.sh/\(Zj3 k x ns).2.length<=10000000
def spC (K:FG) (CM CR CS CH:Addr) (k:Nat):Sp:=fun vs H Q _=>∃ A x np ns,vs=[.ref A.h,.ref np]/\Jx CM CR CS CH H A x/\SqL K H np (ns.map V.int)/\np ∉ A.foot/\Zqm k x ns/\Qts CM CR CS CH H A (Zj3 k x ns) Q
def FnC (P:Program) (w:World) (K:FG) (mg:Str->Option Value) (base:Heap) (CM CR CS CH:Addr) (d k:Nat) (f:Addr):Prop:=∃ fd ps,PySem.W.keepIn K (.ref f)=true/\Binds K fd ps []/\Qmo P w K mg base CX0 d f fd ps (spC K CM CR CS CH k)
theorem Zjj {f:Addr} (o:Ok P w K mg base "call_sheet" 6 Qb9 (Zbr K CM CR CS CH)) (hm:mg "call_sheet" = some (.ref f)):FnC P w K mg base CM CR CS CH 8 0 f:=by obtain ⟨f',fd,e,hk,hb,F⟩:=o;rw[hm]at e;cases e;refine ⟨fd,_,hk,hb,(F.mono (by decide)).imp fun vs H Q E h=>?_⟩;obtain ⟨A,x,np,ns,rfl,hh,hn,hf,hp,k⟩:=h;exact ⟨A,x,np,ns,rfl,hh,hn,hf,hp,k⟩
theorem Jv {f:Addr} {name:Str} {d k n:Nat} {ps:List Str} {pre:Hs->Prop} {g:Hs->List Int->Hs × List Int} (o:Ok P w K mg base name d ps (Jn K CM CR CS CH n pre g)) (hm:mg name=some (.ref f)) (hd:d<=8) (h0:k ≠ 0) (hg:Zj3 k=g) (hn:szL.getD k 0=n)
  (hpre:∀ x ns,Qbf x->ShN x.sh->ns.length=n->(g x ns).2.length<=10000000->pre x):FnC P w K mg base CM CR CS CH 8 k f:=by
 obtain ⟨f',fd,e,hk,hb,F⟩:=o;rw[hm]at e;cases e;refine ⟨fd,_,hk,hb,(F.mono hd).imp fun vs H Q E h=>?_⟩;obtain ⟨A,x,np,ns,rfl,hh,hs,hf,hp,kk⟩:=h;unfold Zqm at hp;rw[if_neg h0]at hp;obtain ⟨p1,p2,p3,p4⟩:=hp;rw[hg]at p4 kk;rw[hn]at p1;exact ⟨A,x,np,ns,rfl,hh,hs,p1,hpre x ns p2 p3 p1 p4,kk⟩
def TabOk (P:Program) (w:World) (K:FG) (mg:Str->Option Value) (base:Heap) (CM CR CS CH:Addr) (d n0:Nat) (a:Addr) (n:Nat):Prop:=∃ fs:List Addr,fs.length=n/\Qq4 K a (fs.map V.ref)/\∀ (i:Nat) (f:Addr),fs[i]? = some f->FnC P w K mg base CM CR CS CH d (n0+i) f
def Zmg (K:FG) (CM CR CS CH:Addr) (lo hi:Nat):Sp:=fun vs H Q _=>∃ A x np ns,∃ c:Nat,vs=[.ref A.h,.int c,.ref np]/\lo<=c/\c < hi/\Jx CM CR CS CH H A x/\SqL K H np (ns.map V.int)/\np ∉ A.foot/\Zqm c x ns/\Qts CM CR CS CH H A (Zj3 c x ns) Q
theorem Qml {aA:Addr} (D:Df K mg "answer_action" Qdk Ju) (T:Txt K mg CM CR CS CH) (gA:mg "ACTIONS" = some (.ref aA)) (tA:TabOk P w K mg base CM CR CS CH 8 0 aA 13):Ok P w K mg base "answer_action" 9 Ju (Zmg K CM CR CS CH 0 13):=by
 have SC:=Qmj;obtain ⟨fs,fl,tp,fo⟩:=tA;refine D.ok SC (fun vs H Q E h=>?_) (fun f _ A _ s H vs Q E hr h=>?_)
 .obtain ⟨A,x,np,ns,c,rfl,_⟩:=h;rfl
 .obtain ⟨B,x,np,ns,c,rfl,h1,h2,hh,hn,hf,hp,k⟩:=h;refine ⟨_,(Qc (Qm (Zbx (k:=8) (Zf Qbh (pgr gA) (pv 1) (fun _ _=>rfl)) (hr.M) (Qa (pv 0) (Qa (pv 2) Qe))))),?_⟩;have hc:c < fs.length:=by omega
  have e1:fs[c]? = some fs[c]:=List.getElem?_eq_getElem hc;obtain ⟨fd,ps,hk,hb,F⟩:=fo c _ e1;rw[Nat.zero_add]at F;walk_at "R";refine ⟨aA,_,_,_,rfl,rfl,tp _,at_of (j:=c) rfl (by rw[List.getElem?_map,e1];rfl),?_⟩;refine ⟨fs[c],_,rfl,⟨fd,ps,hk,hb,F⟩,?_⟩;walk_at "R";exact ⟨B,x,np,ns,rfl,hh,hn,hf,hp,k⟩
theorem Qlb {aT:Addr} (D:Df K mg "answer_telling" Qch Jg) (T:Txt K mg CM CR CS CH) (gT:mg "TELLINGS" = some (.ref aT)) (tT:TabOk P w K mg base CM CR CS CH 8 13 aT 11):Ok P w K mg base "answer_telling" 9 Jg (Zmg K CM CR CS CH 13 24):=by
 have SC:=Qla;obtain ⟨fs,fl,tp,fo⟩:=tT;refine D.ok SC (fun vs H Q E h=>?_) (fun f _ A _ s H vs Q E hr h=>?_)
 .obtain ⟨A,x,np,ns,c,rfl,_⟩:=h;rfl
 .obtain ⟨B,x,np,ns,c,rfl,h1,h2,hh,hn,hf,hp,k⟩:=h;refine ⟨_,(Qc (Qm (Zbx (k:=8) (Zf Qbh (pgr gT) (Zq Qaw (pv 1) (pgi T.Qc3)) (fun _ _=>rfl)) (hr.M) (Qa (pv 0) (Qa (pv 2) Qe))))),?_⟩;have hc:c - 13 < fs.length:=by omega
  have e1:fs[c - 13]? = some fs[c - 13]:=List.getElem?_eq_getElem hc;obtain ⟨fd,ps,hk,hb,F⟩:=fo (c - 13) _ e1;rw[show 13+(c - 13)=c by omega]at F;walk_at "R";refine ⟨aT,_,_,_,rfl,rfl,tp _,at_of (j:=c - 13) (by omega) (by rw[List.getElem?_map,e1];rfl),?_⟩;refine ⟨fs[c - 13],_,rfl,⟨fd,ps,hk,hb,F⟩,?_⟩;walk_at "R";exact ⟨B,x,np,ns,rfl,hh,hn,hf,hp,k⟩
def Zsp (K:FG) (CM CR CS CH:Addr):Sp:=fun vs H Q _=>∃ A x np ns,∃ c:Nat,vs=[.ref A.h,.int c,.ref np]/\c<=23/\Jx CM CR CS CH H A x/\SqL K H np (ns.map V.int)/\np ∉ A.foot/\(¬ (c ≠ 0/\x.sheet=none)->Zqm c x ns)/\Qts CM CR CS CH H A (Qds c x ns) Q
theorem Qqk (D:Df K mg "answer_call" Qfo Qbe) (T:Txt K mg CM CR CS CH) (Qdn:Ok P w K mg base "answer_action" 9 Ju (Zmg K CM CR CS CH 0 13)) (Qci:Ok P w K mg base "answer_telling" 9 Jg (Zmg K CM CR CS CH 13 24)) :
  Ok P w K mg base "answer_call" 10 Qbe (Zsp K CM CR CS CH):=by
 have SC:=Qqj;refine D.ok SC (fun vs H Q E h=>?_) (fun f _ A _ s H vs Q E hr h=>?_)
 .obtain ⟨A,x,np,ns,c,rfl,_⟩:=h;rfl
 .obtain ⟨B,x,np,ns,c,rfl,hc,hh,hn,hf,hp,k⟩:=h;have ho:=hh.obj;refine ⟨_,(Qb (Qz (PW.pt (Qho (Qo Qpj (pv 1) (pgi T.Qyh) (Qq _)) (Qd2 (Qo Zmq (Qh (pv 0) rfl) Qtz (Qq _))))) (Qc (Qm (Za (Qa (pgi T.Qqv) Qe)))) Qp) (Qb (Qz (Qo Qh0 (pv 1) (pgi T.Qc3) (Qq _)) (Qc (Qm (pcl Qdn (hr.M) (Qa (pv 0) (Qa (pv 1) (Qa (pv 2) Qe)))))) Qp) (Qc (Qm (pcl Qci (hr.M) (Qa (pv 0) (Qa (pv 1) (Qa (pv 2) Qe)))))))),?_⟩;have eN:¬ (c ≠ 0/\x.sheet=none)->Qts CM CR CS CH H B (Zj3 c x ns) Q:=fun hno=>by
   have e:Qds c x ns=Zj3 c x ns:=by unfold Qds;rw[if_neg hno]
   rw[<-e];exact k
  walk_at "R";refine ifB (fun h0=>?_) (fun h0=>?_)
  .have h0:c ≠ 0:=by intro z;rw[z]at h0;simp at h0
   walk_at "R";cases es:x.sheet with
   | none =>
    have hsv:B.sv = .non:=by have q:=hh.sh;rw[es]at q;exact q
    refine ifB (fun h2=>?_) (fun h2=>absurd hsv (of_decide_eq_false h2));have e:Qds c x ns=(x,[-2]):=by unfold Qds;rw[if_pos ⟨h0,es⟩]
    rw[e]at k;walk_at "R";exact ⟨sz1,Qw (r:=(x,[-2])) (l:=[-2]) hh (Step.refl _ _) rfl rfl k⟩
   | some sh =>
    have hno:¬ (c ≠ 0/\x.sheet=none):=fun z=>by rw[es]at z;cases z.2
    have k:=eN hno;have hsv:¬ B.sv = .non:=by have q:=hh.sh;rw[es]at q;rw[q.1];intro z;cases z
    refine ifB (fun h2=>absurd (of_decide_eq_true h2) hsv) (fun h2=>?_);walk_at "R";refine ifB (fun h1=>?_) (fun h1=>?_)
    .have h1:(c:Int) < 13:=by simpa using h1
     walk_at "R";exact ⟨B,x,np,ns,c,rfl,Nat.zero_le _,by omega,hh,hn,hf,hp hno,k⟩
    .have h1:¬ (c:Int) < 13:=by simpa using h1
     walk_at "R";exact ⟨B,x,np,ns,c,rfl,by omega,by omega,hh,hn,hf,hp hno,k⟩
  .have h0:c=0:=by
    have h0:(c:Int)=0:=by simpa using h0
    omega
   have hno:¬ (c ≠ 0/\x.sheet=none):=fun z=>z.1 h0;have k:=eN hno
   refine Qf7 ?_;walk_at "R";refine ifB (fun h1=>?_) (fun h1=>?_)
   .have h1:(c:Int) < 13:=by simpa using h1
    walk_at "R";exact ⟨B,x,np,ns,c,rfl,Nat.zero_le _,by omega,hh,hn,hf,hp hno,k⟩
   .have h1:¬ (c:Int) < 13:=by simpa using h1
    walk_at "R";exact ⟨B,x,np,ns,c,rfl,by omega,by omega,hh,hn,hf,hp hno,k⟩
end
section
open PySem PySem.Spec PyProof.Rows L2
theorem Qw7 {ys:List Int} {as:List Addr} (h:as ≠ []):HO.lst (as.map V.ref) ≠ Qah ys:=fun e=>by
 unfold Qah at e;injection e with e
 cases as with
 | nil=>exact h rfl
 | cons a r =>
  cases ys with
  | nil=>cases e
  | cons y z=>injection e with e1 _;cases e1
theorem Jx.out {CM CR CS CH:Addr} {H:Hp} {A:Ad} {x:Hs} {gl:Addr} {o:HO} {ys:List Int} (h:Jx CM CR CS CH H A x) (hg:H gl=some (Qah ys)) (nf:gl ∉ A.foot) (hne:∀ sh,x.sheet=some sh->sh.reels ≠ []):Jx CM CR CS CH (upd H gl o) A x:=by
 have foot:∀ b ∈ A.foot,b ≠ gl:=fun b hb e=>nf (by rw[<-e];exact hb);have inF:∀ b u,b ∈ A.foot->H b=some u->upd H gl o b=some u:=fun b u hb e=>by rw[Ql (foot b hb)];exact e
 have other:∀ b u,H b=some u->u ≠ Qah ys->upd H gl o b=some u:=fun b u e hu=>by rw[Ql (Yu e hg hu)];exact e
 have f0:A.a0 ∈ A.foot:=A.Yn 0;have f1:A.a1 ∈ A.foot:=A.Yn 1;refine ⟨inF _ _ A.Qfv h.obj,other _ _ h.ml (Qw7 (as:=[A.a0,A.a1]) (by simp)),inF _ _ f0 h.m0,inF _ _ f1 h.m1,h.n01,inF _ _ A.Zg8 h.log,h.lts.keep (fun c hc u e=>?_),inF _ _ A.Zg9 h.runs,h.rns.keep (fun c hc u e=>inF _ _ (A.Zhd hc) e),h.nml,h.nmr,h.nlr,h.rnd,?_⟩
 .obtain ⟨y,e2⟩:=h.lts.mem hc;rw[e]at e2;cases e2;exact other _ _ e (by intro z;cases z)
 .have hs:=h.sh;cases es:x.sheet with
  | none=>rw[es]at hs;exact hs
  | some sh =>rw[es]at hs;refine ⟨hs.1,hs.2.1.keep (fun fs q _=>other _ _ q (by intro z;cases z)) (fun q=>other _ _ q (Qw7 ?_)) (fun c dr r q=>other _ _ q (by intro z;cases z)),hs.2.2⟩;intro z;have hl:=hs.2.1.rls.1;rw[z]at hl;exact hne sh es (List.length_eq_zero_iff.mp hl.symm)
theorem Zjk {p:Int} {n k:Nat} (h:PyVbfaal.shape p=some (n,k)):∃ c:Nat,c<=23/\p=c/\((c=0/\n=0/\k=1)\/(c ≠ 0/\n=szL.getD c 0/\k=0)):=by
 unfold PyVbfaal.shape at h;by_cases h0:p=0
 .rw[if_pos h0]at h;cases h;exact ⟨0,by decide,h0,.inl ⟨rfl,rfl,rfl⟩⟩
 rw[if_neg h0]at h;by_cases h1:p=1
 .rw[if_pos h1]at h;cases h;exact ⟨1,by decide,h1,.inr ⟨by decide,rfl,rfl⟩⟩
 rw[if_neg h1]at h;by_cases h2:p=2
 .rw[if_pos h2]at h;cases h;exact ⟨2,by decide,h2,.inr ⟨by decide,rfl,rfl⟩⟩
 rw[if_neg h2]at h;by_cases h3:p=3
 .rw[if_pos h3]at h;cases h;exact ⟨3,by decide,h3,.inr ⟨by decide,rfl,rfl⟩⟩
 rw[if_neg h3]at h;by_cases h4:p=4
 .rw[if_pos h4]at h;cases h;exact ⟨4,by decide,h4,.inr ⟨by decide,rfl,rfl⟩⟩
 rw[if_neg h4]at h;by_cases h5:p=5
 .rw[if_pos h5]at h;cases h;exact ⟨5,by decide,h5,.inr ⟨by decide,rfl,rfl⟩⟩
 rw[if_neg h5]at h;by_cases h6:p=6
 .rw[if_pos h6]at h;cases h;exact ⟨6,by decide,h6,.inr ⟨by decide,rfl,rfl⟩⟩
 rw[if_neg h6]at h;by_cases h7:p=7
 .rw[if_pos h7]at h;cases h;exact ⟨7,by decide,h7,.inr ⟨by decide,rfl,rfl⟩⟩
 rw[if_neg h7]at h;by_cases h8:p=8
 .rw[if_pos h8]at h;cases h;exact ⟨8,by decide,h8,.inr ⟨by decide,rfl,rfl⟩⟩
 rw[if_neg h8]at h;by_cases h9:p=9
 .rw[if_pos h9]at h;cases h;exact ⟨9,by decide,h9,.inr ⟨by decide,rfl,rfl⟩⟩
 rw[if_neg h9]at h;by_cases h10:p=10
 .rw[if_pos h10]at h;cases h;exact ⟨10,by decide,h10,.inr ⟨by decide,rfl,rfl⟩⟩
 rw[if_neg h10]at h;by_cases h11:p=11
 .rw[if_pos h11]at h;cases h;exact ⟨11,by decide,h11,.inr ⟨by decide,rfl,rfl⟩⟩
 rw[if_neg h11]at h;by_cases h12:p=12
 .rw[if_pos h12]at h;cases h;exact ⟨12,by decide,h12,.inr ⟨by decide,rfl,rfl⟩⟩
 rw[if_neg h12]at h;by_cases h13:p=13
 .rw[if_pos h13]at h;cases h;exact ⟨13,by decide,h13,.inr ⟨by decide,rfl,rfl⟩⟩
 rw[if_neg h13]at h;by_cases h14:p=14
 .rw[if_pos h14]at h;cases h;exact ⟨14,by decide,h14,.inr ⟨by decide,rfl,rfl⟩⟩
 rw[if_neg h14]at h;by_cases h15:p=15
 .rw[if_pos h15]at h;cases h;exact ⟨15,by decide,h15,.inr ⟨by decide,rfl,rfl⟩⟩
 rw[if_neg h15]at h;by_cases h16:p=16
 .rw[if_pos h16]at h;cases h;exact ⟨16,by decide,h16,.inr ⟨by decide,rfl,rfl⟩⟩
 rw[if_neg h16]at h;by_cases h17:p=17
 .rw[if_pos h17]at h;cases h;exact ⟨17,by decide,h17,.inr ⟨by decide,rfl,rfl⟩⟩
 rw[if_neg h17]at h;by_cases h18:p=18
 .rw[if_pos h18]at h;cases h;exact ⟨18,by decide,h18,.inr ⟨by decide,rfl,rfl⟩⟩
 rw[if_neg h18]at h;by_cases h19:p=19
 .rw[if_pos h19]at h;cases h;exact ⟨19,by decide,h19,.inr ⟨by decide,rfl,rfl⟩⟩
 rw[if_neg h19]at h;by_cases h20:p=20
 .rw[if_pos h20]at h;cases h;exact ⟨20,by decide,h20,.inr ⟨by decide,rfl,rfl⟩⟩
 rw[if_neg h20]at h;by_cases h21:p=21
 .rw[if_pos h21]at h;cases h;exact ⟨21,by decide,h21,.inr ⟨by decide,rfl,rfl⟩⟩
 rw[if_neg h21]at h;by_cases h22:p=22
 .rw[if_pos h22]at h;cases h;exact ⟨22,by decide,h22,.inr ⟨by decide,rfl,rfl⟩⟩
 rw[if_neg h22]at h;by_cases h23:p=23
 .rw[if_pos h23]at h;cases h;exact ⟨23,by decide,h23,.inr ⟨by decide,rfl,rfl⟩⟩
 rw[if_neg h23]at h;cases h
theorem Zni {c:List (List Int)} (h:PyFlat.okCall PyVbfaal.shape c):(∃ t:List Int,c=[[0],t])\/∃ (k:Nat) (ns:List Int),k ≠ 0/\k<=23/\ns.length=szL.getD k 0/\c=[(k:Int)::ns]:=by
 obtain ⟨p,a,xs,rfl,hs⟩:=h;obtain ⟨k,hk,rfl,z | z⟩:=Zjk hs
 .obtain ⟨rfl,e1,e2⟩:=z;refine .inl ?_;cases a with
  | cons _ _=>simp at e1
  | nil =>
   match xs,e2 with
   | [t],_=>exact ⟨t,rfl⟩
 .obtain ⟨h0,e1,e2⟩:=z;refine .inr ⟨k,a,h0,hk,e1,?_⟩;cases xs with
  | nil=>rfl
  | cons _ _=>simp at e2
theorem Zmh (c:List (List Int)):PyVbfaal.whole c=c:=by
 rcases c with _ | ⟨_ | ⟨n | n,r⟩,t⟩;rfl;rfl;rotate_left;rfl
 rcases n with _|_|_|_|_|_|_|_|_|_|_|_|_|_|_|_|_|_|_|_|_|_|_|_|n <;> rcases r with _ | ⟨a,_ | ⟨b,_ | ⟨c,_ | ⟨d,r⟩⟩⟩⟩ <;> rcases t with _ | ⟨u,_ | ⟨v,t⟩⟩ <;> rfl
theorem Zmi (s:Vbfaal.State) (k:Nat) (h0:k ≠ 0) (hk:k<=23) (ns:List Int) (hl:ns.length=szL.getD k 0):VbfaalNeutral.step s [(k:Int)::ns]=Qg8 s k ns:=by
 match k,hk,h0,ns,hl with
 | 0,_,h0,_,_=>exact absurd rfl h0
 | 1,_,_,[],_=>rfl
 | 2,_,_,[a,b,c],_=>rfl
 | 3,_,_,[a],_=>rfl
 | 4,_,_,[a,b],_=>rfl
 | 5,_,_,[],_=>rfl
 | 6,_,_,[a],_=>rfl
 | 7,_,_,[a],_=>rfl
 | 8,_,_,[a],_=>rfl
 | 9,_,_,[a],_=>rfl
 | 10,_,_,[a],_=>rfl
 | 11,_,_,[],_=>rfl
 | 12,_,_,[a,b],_=>rfl
 | 13,_,_,[a],_=>rfl
 | 14,_,_,[],_=>rfl
 | 15,_,_,[],_=>rfl
 | 16,_,_,[],_=>rfl
 | 17,_,_,[],_=>rfl
 | 18,_,_,[],_=>rfl
 | 19,_,_,[],_=>rfl
 | 20,_,_,[],_=>rfl
 | 21,_,_,[a],_=>rfl
 | 22,_,_,[a],_=>rfl
 | 23,_,_,[],_=>rfl
 | _+24,hk,_,_,_=>omega
theorem Zsq (s:Vbfaal.State) (t:List Int):VbfaalNeutral.step s [[0],t]=Qg8 s 0 t:=rfl
theorem Zed {l:List Int} {cs:List (List (List Int))} (h:PyFlat.calls PyVbfaal.shape l.length l=some cs):PyVbfaal.answers l=PyFlat.told (PyFlat.played VbfaalNeutral.step VbfaalNeutral.start cs):=by
 unfold PyVbfaal.answers PyVbfaal.calls;rw[h];show PyFlat.told (PyFlat.played VbfaalNeutral.step VbfaalNeutral.start (cs.map PyVbfaal.whole))=_;have e:cs.map PyVbfaal.whole=cs:=by
  conv=>rhs;rw[<-List.map_id cs]
  apply List.map_congr_left;intro c _;exact Zmh c
 rw[e]
theorem Zjl {l:List Int} (h:PyVbfaal.answers_asked l=true):∃ cs,PyFlat.calls PyVbfaal.shape l.length l=some cs/\cs.length<=400/\(PyVbfaal.answers l).length<=10000000:=by
 unfold PyVbfaal.answers_asked at h;cases e:PyFlat.calls PyVbfaal.shape l.length l with
 | none=>rw[e]at h;cases h
 | some cs =>rw[e]at h;simp only[Bool.and_eq_true]at h;obtain ⟨⟨⟨⟨_,h2⟩,_⟩,_⟩,h5⟩:=h;exact ⟨cs,rfl,of_decide_eq_true h2,of_decide_eq_true h5⟩
theorem Qw8 (s:Vbfaal.State) (c:List (List Int)) (rest:List (List (List Int))):PyFlat.told (PyFlat.played VbfaalNeutral.step s (c::rest))=(((VbfaalNeutral.step s c).2.length:Int)::(VbfaalNeutral.step s c).2)++PyFlat.told (PyFlat.played VbfaalNeutral.step (VbfaalNeutral.step s c).1 rest):=by unfold PyFlat.told;rw[PyFlat.played,List.flatMap_cons]
theorem Zjm {pre mid post:List Int} {a b:Int} (ha:a=pre.length) (hb:b=pre.length+mid.length):Zmr ((pre++(mid++post)).map V.int) (some a) (some b)=mid.map V.int:=by
 subst ha hb;unfold Zmr;have e1:(pre.length:Int)+(mid.length:Int)=((pre.length+mid.length:Nat):Int):=by omega
 rw[e1,HT.Zfb,HT.Zfb,List.length_map,List.length_append,List.length_append,Nat.min_eq_left (by omega),Nat.min_eq_left (by omega),<-List.map_drop,<-List.map_take,List.drop_left,Nat.add_sub_cancel_left,List.take_left]
end
section
open PySem PySem.Spec PyProof.Rows L2
variable {P:Program} {w:World} {K:FG} {mg:Str->Option Value} {base:Heap} {CM CR CS CH:Addr}
def szV:List V:=szL.map fun (n:Nat)=>V.int (n:Int)
structure Loop (CM CR CS CH:Addr) (H0:Hp) (l:List Int) (total:List Int) (H:Hp) (A:Ad) (gl:Addr) (s:Vbfaal.State) (gv pre:List Int) (rest:List (List (List Int))) (j:Nat):Prop where
 same:Jw H0 H
 foot:∀ b ∈ A.foot,H0 b=none
 g0:H0 gl=none
 Zsr:H gl=some (Qah gv)
 gf:gl ∉ A.foot
 hs:Jx CM CR CS CH H A (hsO s)
 st:St s
 eq:l=pre++PyFlat.put rest
 ok:∀ c ∈ rest,PyFlat.okCall PyVbfaal.shape c
 cnt:j+rest.length<=400
 lg:s.log.length<=500*j
 rn:s.shows.length<=500*j
 tot:gv++PyFlat.told (PyFlat.played VbfaalNeutral.step s rest)=total
theorem St.ne {s:Vbfaal.State} (h:St s):∀ sh,(hsO s).sheet=some sh->sh.reels ≠ []:=by
 intro sh e;cases h with
 | new=>cases e
 | going h I R G ne =>
  have e2:(hsO s).sheet=some (shO h):=by show s.sheet.map shO=_;rw[I.sheet];rfl
  rw[e2]at e;cases e;intro z;have z:h.reels.map rlO=[]:=z;exact ne (List.map_eq_nil_iff.mp z)
def Qj7 (K:FG):Sp:=fun vs H Q _=>∃ a l,vs=[.ref a]/\SqL K H a (l.map V.int)/\l.length<=16000/\PyVbfaal.answers_asked l=true/\∀ H' p,H' p=some (Qah (PyVbfaal.answers l))->Q (.ref p) H'
def muA (l:List Int):L2.St->Nat
 | [_,_,_,some (.int n),_,_,_]=>l.length - n.toNat
 | _=>0
theorem Loop.next {H0 H H':Hp} {l total gv pre:List Int} {A A':Ad} {gl q:Addr} {s:Vbfaal.State} {c:List (List Int)} {rest:List (List (List Int))} {j k:Nat} {ns:List Int} (L:Loop CM CR CS CH H0 l total H A gl s gv pre (c::rest) j) (hk:k<=23) (hl:k ≠ 0->ns.length=szL.getD k 0)
  (hc:VbfaalNeutral.step s c=Qg8 s k ns) {H1:Hp} (s1:Jw H H1) (hh:Jx CM CR CS CH H' A' (Qds k (hsO s) ns).1) (st:Step H1 H' A A') (fr:∀ b o,H1 b=some o->b ∉ A.foot->b ≠ q) (hq:H' q=some (Qah (Qds k (hsO s) ns).2)) (hz:total.length<=10000000) :
  H' gl=some (Qah gv)/\gl ≠ q/\gv.length+((Qds k (hsO s) ns).2.length+1)<=10000000 /\
   Loop CM CR CS CH H0 l total (upd H' gl (Qah (gv++(((Qds k (hsO s) ns).2.length:Int)::(Qds k (hsO s) ns).2)))) A' gl (Qg8 s k ns).1 (gv++(((Qds k (hsO s) ns).2.length:Int)::(Qds k (hsO s) ns).2)) (pre++PyFlat.put1 c) rest (j+1):=by
 obtain ⟨m1,m2⟩:=Znh L.st k hk ns hl;have g:=Zjh k (hsO s) ns;rw[m1]at hh hq g ⊢;have Zuj:=s1 _ _ L.Zsr;have hgl:H' gl=some (Qah gv):=st.keep _ _ Zuj L.gf;have hgf:gl ∉ A'.foot:=fun z=>by
  rcases st.grow gl z with y | y
  .exact L.gf y
  .rw[Zuj]at y;cases y
 have ht:=L.tot;rw[Qw8,hc]at ht;have hlen:gv.length+((Qg8 s k ns).2.length+1)<=10000000:=by
  have:=congrArg List.length ht
  rw[List.length_append,List.length_append,List.length_cons]at this;omega
 refine ⟨hgl,fr gl _ Zuj L.gf,hlen,⟨fun b o e=>?_,fun b hb=>?_,L.g0,Qk,hgf,hh.out hgl hgf m2.ne,m2,?_,fun d hd=>L.ok d (List.mem_cons_of_mem _ hd),?_,?_,?_,?_⟩⟩
 .have h2:b ∉ A.foot:=fun z=>by rw[L.foot b z]at e;cases e
  rw[Ql (Qg e L.g0)];exact st.keep b o (s1 _ _ (L.same _ _ e)) h2
 .rcases st.grow b hb with z | z
  .exact L.foot b z
  .exact (L.same.trans s1).free z
 .rw[L.eq,PyFlat.put,List.append_assoc]
 .have:=L.cnt
  simp only[List.length_cons]at this;omega
 .have h1:=g.1;have e1:(hsO (Qg8 s k ns).1).log.length=(Qg8 s k ns).1.log.length:=List.length_map _;have e2:(hsO s).log.length=s.log.length:=List.length_map _;rw[e1,e2]at h1
  have:=L.lg
  omega
 .have h1:=g.2;have e1:(hsO (Qg8 s k ns).1).runs.length=(Qg8 s k ns).1.shows.length:=List.length_map _;have e2:(hsO s).runs.length=s.shows.length:=List.length_map _;rw[e1,e2]at h1
  have:=L.rn
  omega
 .rw[List.append_assoc];exact ht
theorem Loop.pre {H0 H:Hp} {l total gv pre:List Int} {A:Ad} {gl:Addr} {s:Vbfaal.State} {c:List (List Int)} {rest:List (List (List Int))} {j k:Nat} {ns:List Int} (L:Loop CM CR CS CH H0 l total H A gl s gv pre (c::rest) j) (hk:k<=23) (hl:k ≠ 0->ns.length=szL.getD k 0) (h0:k=0->ns.length < 100000)
  (hc:VbfaalNeutral.step s c=Qg8 s k ns) (hz:total.length<=10000000):¬ (k ≠ 0/\(hsO s).sheet=none)->Zqm k (hsO s) ns:=by
 intro hno;unfold Zqm;by_cases hk0:k=0
 .rw[if_pos hk0];exact h0 hk0
 .rw[if_neg hk0];have hst:=L.st;have m1:=(Znh L.st k hk ns hl).1;have ec:Qds k (hsO s) ns=Zj3 k (hsO s) ns:=by unfold Qds;rw[if_neg hno]
  rw[ec]at m1;have ht:=L.tot;rw[Qw8,hc]at ht;have hlen:(Zj3 k (hsO s) ns).2.length<=10000000:=by
   have:=congrArg List.length ht
   rw[List.length_append,List.length_append,List.length_cons]at this;rw[m1];show (Qg8 s k ns).2.length<=_;omega
  have Zws:=L.cnt;simp only[List.length_cons]at Zws;have h1:=L.lg;have h2:=L.rn;cases hst with
  | new=>exact absurd ⟨hk0,rfl⟩ hno
  | going h I R G ne =>obtain ⟨g1,g2⟩:=Zqa I G (by omega) (by omega);exact ⟨hl hk0,g1,g2,hlen⟩
theorem Zee {aZ f:Addr} {fd:FuncData} (D:Fun K "answers" "answers" Qdl f fd) (T:Txt K mg CM CR CS CH) (gZ:mg "SIZES" = some (.ref aZ)) (tZ:Qq4 K aZ szV) (Zao:OkI P w K mg base "House" CH 4 Qa0 (Zhz CM CR CS CH)) (Qfp:Ok P w K mg base "answer_call" 10 Qbe (Zsp K CM CR CS CH)) :
  Qmo P w K mg base CX0 11 f fd Qdm (Qj7 K):=by
 have SC:=Zec;refine D.ok SC (fun vs H Q E h=>?_) (fun cdv A outer s H vs Q E hr h=>?_)
 .obtain ⟨a,l,rfl,_⟩:=h;rfl
 .obtain ⟨a,l,rfl,ha,hlen,Zwt,k⟩:=h;have hsz:sizeLine=16777216:=rfl;obtain ⟨cs,hcs,hn,hz⟩:=Zjl Zwt;obtain ⟨el,hok⟩:=PyFlat.put_calls _ _ _ hcs;have Zwu:=Zed hcs;refine ⟨_,(Qb (psL (i:=1) SC.nd (Zs5 Zao (hr.M))) (Qb (psL (i:=2) SC.nd (Za Qe)) (Qb (psL (i:=3) SC.nd Qj) (Qb (Zj7 PassesOwn.never (Qo Qh0 (pv 3) (Zk Zc rfl T.Qdp PySem.boot_len (Qa (pv 0) Qe)) (Qq _)) (Qb (psL (i:=4) SC.nd (Zf Qt (pv 0) (pv 3) (fun _ _=>rfl))) (Qb (paL (i:=3) SC.nd Qj Za1) (Qb (psL (i:=5) SC.nd (Zf Qbh (pgr gZ) (pv 4) (fun _ _=>rfl))) (Qb (Qz (Qo Yc (pv 4) (pgi T.Qyh) (Qq _)) (Qb (psL (i:=5) SC.nd (Zf Qt (pv 0) (pv 3) (fun _ _=>rfl))) (Qc (paL (i:=3) SC.nd Qj Za1))) Qp) (Qb (psL (i:=6) SC.nd (pcl Qfp (hr.M) (Qa (pv 1) (Qa (pv 4) (Qa (Zkg Zn5 (pv 0) (Zfc (pv 3)) (Zfc (Zq Qa1 (pv 3) (pv 5)))) Qe))))) (Qb (paL (i:=3) SC.nd (pv 5) Za1) (Qb (Qx (Qhn PySem.F.plainAttrs_list PySem.F.slot_list_append PySem.F.type_list_append Yv (pv 2) (Qa (Zk Zc rfl T.Qdp PySem.boot_len (Qa (pv 6) Qe)) Qe))) (Qc (Qx (Qhn PySem.F.plainAttrs_list PySem.F.slot_list_extend PySem.F.type_list_extend Qmz (pv 2) (Qa (pv 6) Qe)))))))))))) (Qc (Qm (pv 2))))))),?_⟩;intro hx dx nx ndx nex;refine ⟨hx,dx,rfl,Qk,fun B H1 hh eB kp ff=>⟨rfl,?_⟩⟩;have s1:Jw H H1:=fun b o e=>kp b o (by rw[Ql (Qg e nx),Ql (Qg e ndx)];exact e) (Qg e nx);have hB0:∀ b ∈ B.foot,H b=none:=fun b hb=>by
   rcases ff b hb with z | z
   .rw[z];exact nx
   .cases e:H b with
    | none=>rfl
    | some o =>rw[Ql (Qg e nx),Ql (Qg e ndx),e]at z;cases z
  refine ⟨Nat.zero_le _,fun gl hgl=>?_⟩;have s2:Jw H1 (upd H1 gl (.lst [])):=fun b o e=>by rw[Ql (Qg e hgl)];exact e
  have L0:Loop CM CR CS CH H l (PyVbfaal.answers l) (upd H1 gl (.lst [])) B gl Vbfaal.start [] [] cs 0:=
   ⟨s1.trans s2,hB0,s1.free hgl,Qk,fun z=>(by obtain ⟨o,e⟩:=hh.Qjx z;rw[hgl]at e;cases e),hh.same s2,.new,el,hok,by omega,Nat.le_refl _,Nat.le_refl _,by rw[Zwu];rfl⟩
  subst eB;walk_at "R";refine Zj9 (fun σ H'=>∃ A' s' gv pre rest j,∃ v4 v5 v6:Option V,A'.h=B.h/\σ=[some (.ref a),some (.ref B.h),some (.ref gl),some (.int pre.length),v4,v5,v6]/\Loop CM CR CS CH H l (PyVbfaal.answers l) H' A' gl s' gv pre rest j) (fun σ _=>muA l σ)
   ⟨B,Vbfaal.start,[],[],cs,0,none,none,none,rfl,rfl,L0⟩ ?_ ?_
  .rintro σ H' ⟨A',s',gv,pre,rest,j,v4,v5,v6,eA,rfl,L⟩
   have ha':SqL K H' a (l.map V.int):=L.same.seq ha;walk_at "R";refine ⟨a,_,rfl,.inl ha',?_⟩;walk_at "R";refine ifB (fun h1=>?_) (fun h1=>?_)
   .have h1:pre.length < l.length:=by
     have h1:(pre.length:Int) < ((l.map V.int).length:Int):=by simpa using h1
     rw[List.length_map]at h1;omega
    cases rest with
    | nil =>have e:=L.eq;rw[PyFlat.put,List.append_nil]at e;rw[e]at h1;omega
    | cons c rest =>
    rcases Zni (L.ok c (List.mem_cons_self)) with ⟨t,rfl⟩ | ⟨k',ns,hk0,hk,hl,rfl⟩
    .have el1:l=pre++(0::(t.length:Int)::(t++PyFlat.put rest)):=by rw[L.eq];simp[PyFlat.put,PyFlat.put1,PyFlat.putRows,PyFlat.putRow]
     have el2:l=(pre++[0,(t.length:Int)])++(t++PyFlat.put rest):=by rw[el1];simp
     have i0:(l.map V.int)[pre.length]? = some (.int 0):=by rw[el1,List.getElem?_map,List.getElem?_append_right (Nat.le_refl _)];simp
     have i1:(l.map V.int)[pre.length+1]? = some (.int (t.length:Int)):=by rw[el1,List.getElem?_map,List.getElem?_append_right (by omega)];simp
     have htl:t.length<=16000:=by rw[el1]at hlen;simp at hlen;omega
     walk_at "R";refine ⟨a,_,_,.int 0,rfl,rfl,ha',at_of (j:=pre.length) rfl i0,?_⟩;walk_at "R";refine ⟨aZ,_,_,.int 0,rfl,rfl,tZ _,at_of (j:=0) rfl rfl,?_⟩;walk_at "R";refine ⟨_,_,_,_,rfl,rfl,ha',at_of (j:=pre.length+1) (by show (pre.length:Int)+1=((pre.length+1:Nat):Int);omega) i1,?_⟩;walk_at "R";have Zuk:Zmr (l.map V.int) (some ((pre.length:Int)+1+1)) (some ((pre.length:Int)+1+1+(t.length:Int)))=t.map V.int:=by rw[el2];exact Zjm (pre:=pre++[0,(t.length:Int)]) (mid:=t) (post:=PyFlat.put rest) (by simp;omega) (by simp;omega)
     refine ⟨a,_,rfl,ha',fun np hnp=>?_⟩;rw[Zuk];have s3:Jw H' (upd H' np (.lst (t.map V.int))):=fun b o e=>by rw[Ql (Qg e hnp)];exact e
     have nf:np ∉ A'.foot:=fun z=>(by obtain ⟨o,e⟩:=L.hs.Qjx z;rw[hnp]at e;cases e)
     have hc:VbfaalNeutral.step s' [[0],t]=Qg8 s' 0 t:=Zsq s' t;refine ⟨A',hsO s',np,t,0,by rw[eA];rfl,(by decide),L.hs.same s3,SqL.of Qk,nf,L.pre (by decide) (fun z=>absurd rfl z) (fun _=>by omega) hc hz,fun A2 H2 q hh2 st2 fr2 hq2 nq=>?_⟩;obtain ⟨g1,g2,g3,L2⟩:=L.next (by decide) (fun z=>absurd rfl z) hc s3 hh2 st2 fr2 hq2 hz;generalize Zwv:(Qds 0 (hsO s') t).2=ans at hq2 g3 L2;have hq2:H2 q=some (.lst (ans.map V.int)):=hq2;have g1:H2 gl=some (.lst (gv.map V.int)):=g1;walk_at "R";refine ⟨.inl ⟨rfl,_,SqL.of g1⟩,?_⟩;walk_at "R";refine ⟨gl,_,_,rfl,rfl,g1,by rw[List.length_map,hsz];omega,?_⟩;rw[List.length_map];have hq3:upd H2 gl (.lst (gv.map V.int++[.int (ans.length:Int)])) q=some (.lst (ans.map V.int)):=by rw[Ql (Ne.symm g2)];exact hq2
     walk_at "R";refine ⟨.inl ⟨rfl,_,SqL.of Qk⟩,?_⟩;walk_at "R";refine ⟨gl,q,_,_,rfl,rfl,Qk,hq3,by rw[List.length_append,List.length_map,List.length_map,hsz];simp only[List.length_singleton];omega,?_⟩;have e9:upd (upd H2 gl (.lst (gv.map V.int++[.int (ans.length:Int)]))) gl (.lst (gv.map V.int++[.int (ans.length:Int)]++ans.map V.int))=upd H2 gl (Qah (gv++((ans.length:Int)::ans))):=by rw[Zb];unfold Qah;simp
     rw[e9];have epl:(pre++PyFlat.put1 [[0],t]).length=pre.length+2+t.length:=by simp[PyFlat.put1,PyFlat.putRows,PyFlat.putRow];omega
     have en:(pre.length:Int)+1+1+(t.length:Int)=((pre.length+2+t.length:Nat):Int):=by omega
     refine ⟨⟨A2,_,_,pre++PyFlat.put1 [[0],t],rest,j+1,some (.int 0),some (.int (t.length:Int)),some (.ref q),st2.hh.trans eA,?_,L2⟩,?_⟩
     .show [some (V.ref a),some (V.ref B.h),some (V.ref gl),some (V.int ((pre.length:Int)+1+1+(t.length:Int))),some (.int 0),some (.int (t.length:Int)),some (V.ref q)]=_;rw[epl,en]
     .show l.length - Int.toNat ((pre.length:Int)+1+1+(t.length:Int)) < l.length - Int.toNat (pre.length:Int);omega
    ·
     have el1:l=pre++((k':Int)::(ns++PyFlat.put rest)):=by rw[L.eq];simp[PyFlat.put,PyFlat.put1,PyFlat.putRows]
     have el2:l=(pre++[(k':Int)])++(ns++PyFlat.put rest):=by rw[el1];simp
     have i0:(l.map V.int)[pre.length]? = some (.int (k':Int)):=by rw[el1,List.getElem?_map,List.getElem?_append_right (Nat.le_refl _)];simp
     have hk2:k' < szL.length:=by show k' < 24;omega
     have iz:szV[k']? = some (.int (szL.getD k' 0:Int)):=by unfold szV;rw[List.getElem?_map,List.getD_eq_getElem?_getD,List.getElem?_eq_getElem hk2];rfl
     walk_at "R";refine ⟨a,_,_,.int (k':Int),rfl,rfl,ha',at_of (j:=pre.length) rfl i0,?_⟩;walk_at "R";refine ⟨aZ,_,_,_,rfl,rfl,tZ _,at_of (j:=k') rfl iz,?_⟩;walk_at "R";refine ifB (fun h2=>?_) (fun h2=>?_)
     .have h2:(k':Int)=0:=by simpa using h2
      omega
     walk_at "R";have Zuk:Zmr (l.map V.int) (some ((pre.length:Int)+1)) (some ((pre.length:Int)+1+(szL.getD k' 0:Int)))=ns.map V.int:=by rw[el2];exact Zjm (pre:=pre++[(k':Int)]) (mid:=ns) (post:=PyFlat.put rest) (by simp) (by rw[hl,List.length_append,List.length_singleton];omega)
     refine ⟨a,_,rfl,ha',fun np hnp=>?_⟩;rw[Zuk];have s3:Jw H' (upd H' np (.lst (ns.map V.int))):=fun b o e=>by rw[Ql (Qg e hnp)];exact e
     have nf:np ∉ A'.foot:=fun z=>(by obtain ⟨o,e⟩:=L.hs.Qjx z;rw[hnp]at e;cases e)
     have hc:VbfaalNeutral.step s' [(k':Int)::ns]=Qg8 s' k' ns:=Zmi s' k' hk0 hk ns hl;refine ⟨A',hsO s',np,ns,k',by rw[eA];rfl,hk,L.hs.same s3,SqL.of Qk,nf,L.pre hk (fun _=>hl) (fun z=>absurd z hk0) hc hz,fun A2 H2 q hh2 st2 fr2 hq2 nq=>?_⟩;obtain ⟨g1,g2,g3,L2⟩:=L.next hk (fun _=>hl) hc s3 hh2 st2 fr2 hq2 hz;generalize Zwv:(Qds k' (hsO s') ns).2=ans at hq2 g3 L2;have hq2:H2 q=some (.lst (ans.map V.int)):=hq2;have g1:H2 gl=some (.lst (gv.map V.int)):=g1;walk_at "R";refine ⟨.inl ⟨rfl,_,SqL.of g1⟩,?_⟩;walk_at "R";refine ⟨gl,_,_,rfl,rfl,g1,by rw[List.length_map,hsz];omega,?_⟩;rw[List.length_map];have hq3:upd H2 gl (.lst (gv.map V.int++[.int (ans.length:Int)])) q=some (.lst (ans.map V.int)):=by rw[Ql (Ne.symm g2)];exact hq2
     walk_at "R";refine ⟨.inl ⟨rfl,_,SqL.of Qk⟩,?_⟩;walk_at "R";refine ⟨gl,q,_,_,rfl,rfl,Qk,hq3,by rw[List.length_append,List.length_map,List.length_map,hsz];simp only[List.length_singleton];omega,?_⟩;have e9:upd (upd H2 gl (.lst (gv.map V.int++[.int (ans.length:Int)]))) gl (.lst (gv.map V.int++[.int (ans.length:Int)]++ans.map V.int))=upd H2 gl (Qah (gv++((ans.length:Int)::ans))):=by rw[Zb];unfold Qah;simp
     rw[e9];have epl:(pre++PyFlat.put1 [(k':Int)::ns]).length=pre.length+1+ns.length:=by simp[PyFlat.put1,PyFlat.putRows,PyFlat.putRow];omega
     have en:(pre.length:Int)+1+(szL.getD k' 0:Int)=((pre.length+1+ns.length:Nat):Int):=by omega
     refine ⟨⟨A2,_,_,pre++PyFlat.put1 [(k':Int)::ns],rest,j+1,some (.int (k':Int)),some (.int (szL.getD k' 0:Int)),some (.ref q),st2.hh.trans eA,?_,L2⟩,?_⟩
     .show [some (V.ref a),some (V.ref B.h),some (V.ref gl),some (V.int ((pre.length:Int)+1+(szL.getD k' 0:Int))),some (.int (k':Int)),some (.int (szL.getD k' 0:Int)),some (V.ref q)]=_;rw[epl,en]
     .show l.length - Int.toNat ((pre.length:Int)+1+(szL.getD k' 0:Int)) < l.length - Int.toNat (pre.length:Int);omega
   .have h1:¬ pre.length < l.length:=by
     have h1:¬ (pre.length:Int) < ((l.map V.int).length:Int):=by simpa using h1
     rw[List.length_map]at h1;omega
    have hr:rest=[]:=by
     cases rest with
     | nil=>rfl
     | cons c r =>
      have e:=congrArg List.length L.eq;rw[List.length_append]at e;rcases Zni (L.ok c (List.mem_cons_self)) with ⟨t,rfl⟩ | ⟨k',ns,hk0,hk,hl,rfl⟩
      .simp[PyFlat.put,PyFlat.put1]at e;omega
      .simp[PyFlat.put,PyFlat.put1]at e;omega
    subst hr;have ht:=L.tot;have e0:PyFlat.told (PyFlat.played VbfaalNeutral.step s' [])=[]:=rfl;rw[e0,List.append_nil]at ht;walk_at "R";exact k H' gl (by rw[<-ht];exact L.Zsr)
  .intro σ H' Q1 Q2 hq h;obtain ⟨v,e1,v',e2,p,ys,e3,hs,i,j,e4,e5,b,e6,h⟩:=h;exact ⟨v,e1,v',e2,p,ys,e3,hs,i,j,e4,e5,b,e6,hq _ _ h⟩
end
section
open PySem PySem.Spec PyProof.Rows L2
structure Facts (K:FG) (mg:Str->Option Value) (CM CR CS CH aF aR aZ aA aT:Addr) (fsA fsT:List Addr):Prop where
 T:Txt K mg CM CR CS CH
 Qms:mg "sorted" = none
 Zce:Df K mg "put_on" Qr4 Qez
 Qw9:Df K mg "put_off" Qnb Qb1
 Qlq:Df K mg "halt_motor" Qf9 Jb
 Zcf:Df K mg "is_lit" Qr6 Qdv
 Qou:Df K mg "runs_well" Qh7 Qbl
 Qre:Df K mg "is_ready" Qko Qcw
 Zjn:Df K mg "drive" Qyk Qnc
 Zjo:Df K mg "coast" Qyl Qnd
 Qov:Df K mg "run_motor" Qh8 Qc4
 Qow:Df K mg "move_film" Qh9 Qc5
 Qox:Df K mg "pass_tick" Qia Qc6
 Qlr:Df K mg "is_machine" Qgp Zp
 Qrf:Df K mg "is_going" Qkp Jz
 Qfx:Df K mg "active_machine" Qcf Zn
 Qg9:Df K mg "other_machine" Qc7 Yk
 Qoy:Df K mg "write_log" Qie Qat
 Znj:Df K mg "stop" Zha Qjo
 Qls:Df K mg "last_frame" Qgb Yo
 Qlt:Df K mg "first_lead" Qgj Qay
 Qj8:Df K mg "lead_behind" Qe4 Qab
 Qxa:Df K mg "is_reel" Qnz Qdg
 Qxb:Df K mg "lead_of" Qon Qg3
 Qxc:Df K mg "plan_of" Qoo Qg4
 Qrg:Df K mg "codes_of" Qhi Qc0
 Qrh:Df K mg "split_at" Qkx Qcz
 Qri:Df K mg "words_of" Qhh Qeq
 Qoz:Df K mg "number_of" Qij Qbr
 Znk:Df K mg "fits" Zhu Qvd
 Qxd:Df K mg "form_of" Qnu Qgm
 Qlu:Df K mg "numbers_in" Qdw Qb6
 Qo0:Df K mg "in_ranges" Qil Qde
 Qrj:Df K mg "is_ended" Qku Qcx
 Qo1:Df K mg "may_stand" Qih Qdc
 Qhs:Df K mg "take_setting" Qd9 Qam
 Qxe:Df K mg "reel_of" Qnq Qgk
 Qrk:Df K mg "has_name" Qkv Qep
 Qht:Df K mg "has_bad_cues" Qea Qan
 Qo2:Df K mg "take_reel" Qii Qdd
 Qo3:Df K mg "take_line" Qin Qdf
 Qlv:Df K mg "fill_sheet" Qgn Qb7
 Qxf:Df K mg "is_text" Qnt Qgl
 Qlw:Df K mg "shown_reel" Qg5 Qcd
 Qj9:Df K mg "shown_sheet" Qfm Qbd
 Qha:Df K mg "has_next_reel" Qc8 Jr
 Qka:Df K mg "is_too_late" Qe0 Qa3
 Qet:Df K mg "wait_for_target" Qbm Yw
 Qrl:Df K mg "end_show" Qkt Qeo
 Qkb:Df K mg "start_other" Qe1 Qa4
 Qkc:Df K mg "change_over" Qe2 Qa5
 Qkd:Df K mg "follow_cues" Qe3 Qa6
 Qlx:Df K mg "watch_show" Qgc Qb2
 Qly:Df K mg "begin_tick" Qgd Qb3
 Qo4:Df K mg "on_screen" Qif Qbo
 Qxg:Df K mg "goes_on" Qni Qgg
 Qhu:Df K mg "record_frame" Qd7 Qal
 Qhb:Df K mg "record_screen" Qc9 Js
 Qlz:Df K mg "tick_house" Qgh Qb4
 Qhv:Df K mg "film_refusal" Qed Ys
 Ql0:Df K mg "call_sheet" Qgv Qb9
 Ql1:Df K mg "call_shown" Qg6 Qd1
 Qhw:Df K mg "is_threading" Qee Qap
 Qke:Df K mg "call_thread" Qe6 Qcr
 Qhc:Df K mg "call_unthread" Qdh Qba
 Qxh:Df K mg "call_go" Qn2 Qjw
 Qo5:Df K mg "call_halt" Qis Qe7
 Qo6:Df K mg "call_tick" Qiv Qfa
 Ql2:Df K mg "call_seize" Qgq Qdx
 Qo7:Df K mg "call_tear" Qit Qe8
 Qhx:Df K mg "call_lampout" Qef Qbv
 Qo8:Df K mg "call_mend" Qiu Qe9
 Ql3:Df K mg "call_power" Qgs Qdy
 Qo9:Df K mg "call_inch" Qi0 Qfi
 Qhd:Df K mg "answer_action" Qdk Ju
 Ql4:Df K mg "changes_in" Qgy Qcb
 Qpa:Df K mg "pieces_of" Qix Qdi
 Qrm:Df K mg "spans_of" Qk6 Qes
 Qhy:Df K mg "frames_shown" Qei Jk
 Zcg:Df K mg "one_if" Qtd Qfc
 Qxi:Df K mg "counted" Qof Qcc
 Qhz:Df K mg "call_machine" Qbw Qbx
 Ql5:Df K mg "call_house" Qg0 Qdz
 Qkf:Df K mg "call_screen" Qfd Qct
 Qkg:Df K mg "call_record" Qfe Qcu
 Qrn:Df K mg "call_log" Qk8 Qhl
 Qpb:Df K mg "call_lost" Qiz Qff
 Ql6:Df K mg "call_twice" Qg1 Qd0
 Qpc:Df K mg "call_plan" Qi1 Qfj
 Qpd:Df K mg "call_lead" Qi2 Qfk
 Qpe:Df K mg "call_reel" Qi3 Qfl
 Qpf:Df K mg "call_free" Qfg Qfh
 Qfy:Df K mg "answer_telling" Qch Jg
 Qkh:Df K mg "answer_call" Qfo Qbe
 Zjp:Df K mg "answers" Qdl Qdm
 Qxj:DfI K mg "Machine" "Machine.__init__" CM Qao Jj
 Znl:DfI K mg "Reel" "Reel.__init__" CR Qdb Qbq
 Zjq:DfI K mg "Sheet" "Sheet.__init__" CS Qb5 Qax
 Zjr:DfI K mg "House" "House.__init__" CH Qb8 Qa0
 Zjs:DfM K "begin" "House.begin" CH Qa9 Jc
 gF:mg "FORMS" = some (.ref aF)
 tF:Qim K aF (Ye.map fun f=>f.map V.str)
 gR:mg "RANGES" = some (.ref aR)
 tR:Zbo K aR (Yr.map Qln)
 gZ:mg "SIZES" = some (.ref aZ)
 tZ:Qq4 K aZ szV
 gA:mg "ACTIONS" = some (.ref aA)
 tA:Qq4 K aA (fsA.map V.ref)
 gT:mg "TELLINGS" = some (.ref aT)
 tT:Qq4 K aT (fsT.map V.ref)
 nA:fsA.length=13
 nT:fsT.length=11
 a_0:∀ f,fsA[0]? = some f->mg "call_sheet" = some (.ref f)
 a_1:∀ f,fsA[1]? = some f->mg "call_shown" = some (.ref f)
 a_2:∀ f,fsA[2]? = some f->mg "call_thread" = some (.ref f)
 a_3:∀ f,fsA[3]? = some f->mg "call_unthread" = some (.ref f)
 a_4:∀ f,fsA[4]? = some f->mg "call_go" = some (.ref f)
 a_5:∀ f,fsA[5]? = some f->mg "call_halt" = some (.ref f)
 a_6:∀ f,fsA[6]? = some f->mg "call_tick" = some (.ref f)
 a_7:∀ f,fsA[7]? = some f->mg "call_seize" = some (.ref f)
 a_8:∀ f,fsA[8]? = some f->mg "call_tear" = some (.ref f)
 a_9:∀ f,fsA[9]? = some f->mg "call_lampout" = some (.ref f)
 Zvc:∀ f,fsA[10]? = some f->mg "call_mend" = some (.ref f)
 Zvd:∀ f,fsA[11]? = some f->mg "call_power" = some (.ref f)
 Zve:∀ f,fsA[12]? = some f->mg "call_inch" = some (.ref f)
 t_0:∀ f,fsT[0]? = some f->mg "call_machine" = some (.ref f)
 t_1:∀ f,fsT[1]? = some f->mg "call_house" = some (.ref f)
 t_2:∀ f,fsT[2]? = some f->mg "call_screen" = some (.ref f)
 t_3:∀ f,fsT[3]? = some f->mg "call_record" = some (.ref f)
 t_4:∀ f,fsT[4]? = some f->mg "call_log" = some (.ref f)
 t_5:∀ f,fsT[5]? = some f->mg "call_lost" = some (.ref f)
 t_6:∀ f,fsT[6]? = some f->mg "call_twice" = some (.ref f)
 t_7:∀ f,fsT[7]? = some f->mg "call_plan" = some (.ref f)
 t_8:∀ f,fsT[8]? = some f->mg "call_lead" = some (.ref f)
 t_9:∀ f,fsT[9]? = some f->mg "call_reel" = some (.ref f)
 Zvf:∀ f,fsT[10]? = some f->mg "call_free" = some (.ref f)
theorem Zss {P:Program} {w:World} {K:FG} {mg:Str->Option Value} {base:Heap} {CM CR CS CH aF aR aZ aA aT:Addr} {fsA fsT:List Addr} (F:Facts K mg CM CR CS CH aF aR aZ aA aT fsA fsT) {f:Addr} {fd:FuncData} (Fn:Fun K "answers" "answers" Qdl f fd):Qmo P w K mg base CX0 11 f fd Qdm (Qj7 K):=by
 have T:=F.T;have Qaa:=Zg1 (P:=P) (w:=w) (base:=base) F.Zce T;have Yd:=Zct (P:=P) (w:=w) (base:=base) F.Qw9 T;have Zt:=Qr7 (P:=P) (w:=w) (base:=base) F.Qlq T;have Jy:=Zg3 (P:=P) (w:=w) (base:=base) F.Zcf T;have Qas:=Quo (P:=P) (w:=w) (base:=base) F.Qou T;have Jh:=Qyq F.Qre T Qas Jy;have Qyr:=Zlh (P:=P) (w:=w) (base:=base) F.Zjn T;have Qys:=Zli F.Zjo T Zt;have Qic:=Qup F.Qov T Zt Qyr Qys;have Qid:=Quq (P:=P) (w:=w) (base:=base) F.Qow T;have Qig:=Qur F.Qox T Qic Qid;have Zx:=Qyx (P:=P) (w:=w) (base:=base) F.Qrf T;have Qs:=Qkr (P:=P) (w:=w) (base:=base) F.Qfx T;have Zg:=Qma (P:=P) (w:=w) (base:=base) F.Qg9 T;have Zl:=Qut (P:=P) (w:=w) (base:=base) F.Qoy T;have Qak:=Zpi F.Znj T Yd Zl;have Zh:=Qsg (P:=P) (w:=w) (base:=base) F.Qls T;have Yl:=Qmc F.Qha T Qs Zg;have Qcn:=Qpp (P:=P) (w:=w) (base:=base) F.Qka T;have Qbn:=Qjq Qs Zg Zl Qak Jh Qcn Qaa Yd F.Qet T;have Qhg:=Qy0 Qs Zg Zl Qak Jh Qaa Yd Yl F.Qrl T;have Qco:=Qpq Qs Zg Zl Qak Jh Qaa Yd Yl F.Qkb T;have Qcp:=Qpr Qs Zg Zl Qak Jh Qaa Yd Yl F.Qkc T;have Qcq:=Qps Qs Zh Qhg Qco Qcp F.Qkd T;have Qgf:=Qsh Qs Qak Qas Jy Qcq F.Qlx T;have Qgi:=Qsi F.Qly T Qbn Qgf;have Qbp:=Quz F.Qo4 T Jy;have Qnn:=Zcx (P:=P) (w:=w) (base:=base) F.Qxg T;have Qd8:=Qnm F.Qhu T Qnn;have Qda:=Qme F.Qhb T Qbp Qd8;have Qgu:=Qsl F.Qlz T Qgi Qig Qda;have Zbn:=Zpk (P:=P) (w:=w) (base:=base) F.Znl T;have Qzy:=Zlj (P:=P) (w:=w) (base:=base) F.Zjq T;have Qaz:=Qsp (P:=P) (w:=w) (base:=base) F.Qlt T;have Qac:=Qpx (P:=P) (w:=w) (base:=base) F.Qj8 T;have Qcy:=Qy9 (P:=P) (w:=w) (base:=base) F.Qrj T;have Qip:=Qu5 F.Qo1 T Qcy;have Qec:=Qnr (P:=P) (w:=w) (base:=base) F.Qhs T;have Qkw:=Qza (P:=P) (w:=w) (base:=base) F.Qrk T;have Qeb:=Qns F.Qht T Qac;have Qiq:=Qu7 F.Qo2 T Qkw Qeb Qaz;have Qc1:=Qze (P:=P) (w:=w) (base:=base) F.Qrh T;have Qbs:=Qu9 (P:=P) (w:=w) (base:=base) F.Qoz T;have Qoa:=Zc3 (P:=P) (w:=w) (base:=base) F.Qxf T;have Qky:=Qzi F.Qri T Qc1;have Qc2:=Qzk (P:=P) (w:=w) (base:=base) F.Qrg T;have Zhw:=Zpp F.Znk T Qbs Qc2;have Qnv:=Zdb F.Qxd T F.gF F.tF Zhw;have Qgo:=Qst F.Qlu T Qbs;have Qio:=Qvh (P:=P) (w:=w) (base:=base) F.Qo0 T;have Qnw:=Zdc F.Qxe T Zbn;have Qir:=Qvm F.Qo3 T F.gF F.tF F.gR F.tR Qnv Qgo Qio Qip Qec Qnw Qiq;have Qgw:=Qsv F.Qlv T Qc1 Qky Qir Qcy;have Qjv:=Zdd (P:=P) (w:=w) (base:=base) F.Qxj T;have Qkz:=Zlo F.Zjs T Qjv;have Zao:=Zlp F.Zjr T Qkz;have Qv:=Qs1 (P:=P) (w:=w) (base:=base) F.Qlr T;have Zz:=Qn4 F.Qhv T Zx;have Qbb:=Zdg (P:=P) (w:=w) (base:=base) F.Qxa T;have Qeg:=Qn5 F.Qhw T Qbb;have Qxk:=Qs2 F.Ql2 T Qv Zt;have Qql:=Qn7 F.Qhx T Qv;have Zap:=Qvu F.Qo8 T Qv;have Zaq:=Qvv F.Qo7 T Qv;have Zar:=Qvw F.Qo5 T Zx Qak;have Qpg:=Qmg F.Qhc T Qv Zz;have Qtt:=Qp7 F.Qke T Qv Qeg Zz;have Zjt:=Zdh F.Qxh T Qv Zx Zh Qaa;have Qxl:=Qs4 F.Ql3 T Yd Zt Zx Qak;have Zas:=Qv1 F.Qo6 T Qgu;have Qxm:=Qs6 F.Ql0 T Qoa Zx Qzy Qgw Qkz;have Qgz:=Qtb (P:=P) (w:=w) (base:=base) F.Ql4 T;have Qiy:=Qwh F.Qpa T F.Qms Qgz;have Qk7:=Zad F.Qrm T Qiy;have Jl:=Qog F.Qhy T Qk7 Zh;have Jf:=Zdz (P:=P) (w:=w) (base:=base) F.Qxi T;have Qby:=Ziy (P:=P) (w:=w) (base:=base) F.Zcg T;have Qqm:=Qol F.Qhz T Qv Jy Qby;have Qxn:=Qti (P:=P) (w:=w) (base:=base) F.Ql5 T;have Qtu:=Qqc F.Qkf T Qbp;have Qtv:=Qqd F.Qkg T Jf;have Zef:=Zah F.Qrn T Jf;have Zat:=Qwp F.Qpb T Jf Jl;have Qxo:=Qtk F.Ql6 T Jf Jl;have Zau:=Qwt F.Qpf T Qby;have Zav:=Qwu F.Qo9 T Qv Zz;have Qoq:=Zd3 F.Qxb T Qaz Qac;have Qop:=Zd4 F.Qxc T Zh;have Zaw:=Qww F.Qpc T Qop;have Zax:=Qwx F.Qpd T Qbb Qoq;have Zay:=Qwy F.Qpe T Qbb Zh Qby;have Qg7:=Qtp (P:=P) (w:=w) (base:=base) F.Qlw T;have Qfn:=Qqi F.Qj9 T Qg7 Qc2;have Qxp:=Qtq F.Ql1 T Qfn;have tA:TabOk P w K mg base CM CR CS CH 8 0 aA 13:=by
  refine ⟨fsA,F.nA,F.tA,fun i f e=>?_⟩;have hi:i < 13:=by rw[<-F.nA];exact (List.getElem?_eq_some_iff.mp e).1
  match i,hi,e with
  | 0,_,e=>exact Zjj Qxm (F.a_0 f e)
  | 1,_,e=>exact Jv (k:=1) Qxp (F.a_1 f e) (by decide) (by decide) rfl rfl (fun x ns g h _ _=>⟨g,h⟩)
  | 2,_,e=>exact Jv (k:=2) Qtt (F.a_2 f e) (by decide) (by decide) rfl rfl (fun x ns g h _ _=>g)
  | 3,_,e=>exact Jv (k:=3) Qpg (F.a_3 f e) (by decide) (by decide) rfl rfl (fun x ns g h _ _=>g)
  | 4,_,e=>exact Jv (k:=4) Zjt (F.a_4 f e) (by decide) (by decide) rfl rfl (fun x ns g h _ _=>g)
  | 5,_,e=>exact Jv (k:=5) Zar (F.a_5 f e) (by decide) (by decide) rfl rfl (fun x ns g h _ _=>g)
  | 6,_,e=>exact Jv (k:=6) Zas (F.a_6 f e) (by decide) (by decide) rfl rfl (fun x ns g h _ _=>g)
  | 7,_,e=>exact Jv (k:=7) Qxk (F.a_7 f e) (by decide) (by decide) rfl rfl (fun x ns g h _ _=>g)
  | 8,_,e=>exact Jv (k:=8) Zaq (F.a_8 f e) (by decide) (by decide) rfl rfl (fun x ns g h _ _=>g)
  | 9,_,e=>exact Jv (k:=9) Qql (F.a_9 f e) (by decide) (by decide) rfl rfl (fun x ns g h _ _=>g)
  | 10,_,e=>exact Jv (k:=10) Zap (F.Zvc f e) (by decide) (by decide) rfl rfl (fun x ns g h _ _=>g)
  | 11,_,e=>exact Jv (k:=11) Qxl (F.Zvd f e) (by decide) (by decide) rfl rfl (fun x ns g h _ _=>g)
  | 12,_,e=>exact Jv (k:=12) Zav (F.Zve f e) (by decide) (by decide) rfl rfl (fun x ns g h _ _=>g)
 have Qdn:=Qml F.Qhd T F.gA tA;have tT:TabOk P w K mg base CM CR CS CH 8 13 aT 11:=by
  refine ⟨fsT,F.nT,F.tT,fun i f e=>?_⟩;have hi:i < 11:=by rw[<-F.nT];exact (List.getElem?_eq_some_iff.mp e).1
  match i,hi,e with
  | 0,_,e=>exact Jv (k:=13) Qqm (F.t_0 f e) (by decide) (by decide) rfl rfl (fun x ns g h _ _=>g)
  | 1,_,e=>exact Jv (k:=14) Qxn (F.t_1 f e) (by decide) (by decide) rfl rfl (fun x ns g h _ _=>g)
  | 2,_,e=>exact Jv (k:=15) Qtu (F.t_2 f e) (by decide) (by decide) rfl rfl (fun x ns g h _ _=>g)
  | 3,_,e=>exact Jv (k:=16) Qtv (F.t_3 f e) (by decide) (by decide) rfl rfl (fun x ns g h _ hl=>⟨g,hl⟩)
  | 4,_,e=>exact Jv (k:=17) Zef (F.t_4 f e) (by decide) (by decide) rfl rfl (fun x ns g h _ hl=>⟨g,hl⟩)
  | 5,_,e=>exact Jv (k:=18) Zat (F.t_5 f e) (by decide) (by decide) rfl rfl (fun x ns g h _ hl=>⟨g,hl⟩)
  | 6,_,e=>exact Jv (k:=19) Qxo (F.t_6 f e) (by decide) (by decide) rfl rfl (fun x ns g h _ hl=>⟨g,hl⟩)
  | 7,_,e=>exact Jv (k:=20) Zaw (F.t_7 f e) (by decide) (by decide) rfl rfl (fun x ns g h _ _=>⟨g,h.six⟩)
  | 8,_,e=>exact Jv (k:=21) Zax (F.t_8 f e) (by decide) (by decide) rfl rfl (fun x ns g h _ _=>g)
  | 9,_,e=>exact Jv (k:=22) Zay (F.t_9 f e) (by decide) (by decide) rfl rfl (fun x ns g h _ _=>g)
  | 10,_,e=>exact Jv (k:=23) Zau (F.Zvf f e) (by decide) (by decide) rfl rfl (fun x ns g h _ _=>g)
 have Qci:=Qlb F.Qfy T F.gT tT;have Qfp:=Qqk F.Qkh T Qdn Qci;have Zju:=Zee Fn T F.gZ F.tZ Zao Qfp;exact Zju
end
end B2
end
noncomputable section
namespace Hd
open PySem PySem.W PySem.Calls PyProof.Rows
noncomputable abbrev PG:Program:=PySem.Challenge.pw_twoprojectors_s01_answers
noncomputable def bd:List Stmt:=behindTheImports PG
noncomputable def sA (i:Nat):Stmt:=bd.getD i (.Pass ⟨0,0,0,0⟩)
noncomputable def sB (i j:Nat):Stmt:=match sA i with
 | .ClassDef _ _ _ b ..=>b.getD j (.Pass ⟨0,0,0,0⟩)
 | x=>x
noncomputable abbrev r (a:Nat):Value:=.ref a
noncomputable abbrev z (i:Int) (t:Nat):Value:=.int i t
noncomputable def s (x:String) (t:Nat):Value:=.str (Str.ofString x) t
noncomputable def T (l:List Value):Obj:=⟨.type "tuple",none,.seq l.toArray 0,#[]⟩
noncomputable def O:Obj:=⟨.none,none,.fields #[],#[]⟩
noncomputable def fO (x:Stmt) (ql:String) (g:Nat) (dc pm cd ct:Value) (b:Nat):Data:=match x with
 | .FunctionDef n ar bo _ _ _ sc ..=>.func { name:=n,qualname:=Str.ofString ql,params:=ar,body:=.stmts bo,scope:=sc,globals:=g,closure:=[],defaults:=.none,kwdefaults:=.none,doc:=dc,pyModule:=pm,code:=cd,closureTuple:=ct,builtins:=b }
 | _=>.plain
noncomputable def F (x:Stmt) (ql:String):Obj:=⟨.none,none,fO x ql 0 .none .none .none .none 0,#[]⟩
noncomputable def G (x:Stmt) (ql md:String) (t cd:Nat):Obj:=⟨.type "function",none,fO x ql 3 .none (s md t) (r cd) .none 0,#[]⟩
noncomputable def C (nm ql:String) (t ln np fl fv:Nat) (opt:Bool) (cs:Nat) (x y v:Value) (tk te:Nat):Obj:=⟨.type "code",none,.fields [s nm t,s ql (t+1),s "/claim/cut.py" (t+2),z ln 0,z np 0,z 0 0,z 0 0,z fl 0,r fv,.bool opt,z 181 0,r cs,.none,x,y,v,z tk 0,z ln 0,s "/claim/cut.py" te].toArray,#[]⟩
noncomputable def cO (nm:String) (bs mro:List Value) (ns:Nat) (ql:String) (hd:Bool) (sub:List Value):Data:=.cls { name:=Str.ofString nm,bases:=bs,mro:=mro,ns:=ns,qualname:=Str.ofString ql,hasDict:=hd,subclasses:=sub }
noncomputable def e (P:Params) (k:String) (t:Nat) (v:Value):DictEntry:=⟨PyData.keyHash P (Str.ofString k),.str (Str.ofString k) t,v⟩
structure Gp where
 md:String
 mt:Nat
 a:Nat
 i:Nat
 t:Nat
 l:List (String × Nat × Nat × List String)
noncomputable def sv:Nat->List String->List Value
 | _,[]=>[]
 | t,x::l=>s x t::sv (t+1) l
noncomputable def us (md:String) (mt:Nat):List (String × Nat × Nat × List String)->Nat->Nat->Nat->List Obj
 | [],_,_,_=>[]
 | (n,ln,np,vs)::l,a,i,t=>T []::O::T (sv (t+3) vs)::T []::F (sA i) n::C n n t ln np 3 a true (a+1) (r (a+2)) (r (a+3)) (r (a+4)) (t+3+vs.length) (t+4+vs.length)::G (sA i) n md mt (a+5)::us md mt l (a+7) (i+1) (t+6+vs.length)
noncomputable def es (P:Params):List (String × Nat × Nat × List String)->Nat->Nat->List DictEntry
 | [],_,_=>[]
 | (n,_,_,vs)::l,a,t=>e P n (t+5+vs.length) (r (a+6))::es P l (a+7) (t+6+vs.length)
noncomputable def xr:List (String × Nat × Nat × List String)->Nat->List Value
 | [],_=>[]
 | (_,ln,_,_)::l,a=>z ln 0::z 0 0::r (a+5)::xr l (a+7)
noncomputable def U (g:Gp):List Obj:=us g.md g.mt g.l g.a g.i g.t
noncomputable def E (P:Params) (g:Gp):List DictEntry:=es P g.l g.a g.t
noncomputable def X (g:Gp):List Value:=xr g.l g.a
noncomputable abbrev m0:String := "twoprojectors.machine"
noncomputable abbrev m1:String := "twoprojectors.house"
noncomputable abbrev m2:String := "twoprojectors.sheet"
noncomputable abbrev m3:String := "twoprojectors.automation"
noncomputable abbrev m4:String := "twoprojectors.screen"
noncomputable abbrev m5:String := "twoprojectors.actions"
noncomputable abbrev m6:String := "twoprojectors.tally"
noncomputable abbrev m7:String := "twoprojectors.tellings"
noncomputable abbrev m8:String := "twoprojectors.booth"
noncomputable def L0 (P:Params):List Obj:=[boot_o_0 P,
 boot_o_1 P,
 boot_o_2 P,
 O,
 boot_o_4 P,
 boot_o_5 P,
 boot_o_6 P,
 boot_o_7 P,
 boot_o_8 P,
 boot_o_9 P,
 boot_o_10 P,
 T [],
 O,
 C "<module>" "<module>" 182 1 0 0 11 false 12 (.none) (.none) (.none) 185 186,
 ⟨.type "frame",none,.plain,[some (r 13),some (r 3),some (r 3),none,some (s "__main__" 164),none,some (r 0)].toArray⟩,
 T [],
 ⟨.type "builtin_function_or_method",none,.fields [.builtin "type.__prepare__",.type "type"].toArray,#[]⟩,
 ⟨.type "dict",none,.dict [e P "__module__" 207 (s "twoprojectors.machine" 187),e P "__qualname__" 209 (s "Machine" 208),e P "__firstlineno__" 211 (z 7 210),e P "__init__" 218 (r 28),e P "__static_attributes__" 231 (r 29)].toArray 5,#[]⟩,
 T [],
 ⟨.none,none,.fields [z 9 0,z 4 0,r 27].toArray,#[]⟩,
 C "Machine" "Machine" 202 7 0 0 18 false 19 (.none) (.none) (.none) 205 206,
 ⟨.type "frame",none,.plain,[some (r 20),some (r 3),some (r 17),none,some (s "twoprojectors.machine" 187),none,some (r 0)].toArray⟩,
 T [],
 O,
 T [s "self" 215],
 T [],
 F (sB 6 0) "Machine.__init__",
 C "__init__" "Machine.__init__" 212 9 1 3 22 true 23 (r 24) (r 25) (r 26) 216 217,
 G (sB 6 0) "Machine.__init__" "twoprojectors.machine" 187 27,
 T [s "count" 219,s "dead" 220,s "douser" 221,s "glow" 222,s "lamp" 223,s "motor" 224,s "phase" 225,s "place" 226,s "reel" 227,s "seized" 228,s "told" 229,s "torn" 230],
 ⟨.type "dict",none,.dict [e P "__module__" 207 (s "twoprojectors.machine" 187),e P "__firstlineno__" 211 (z 7 210),e P "__init__" 218 (r 28),e P "__static_attributes__" 231 (r 29),e P "__dict__" 233 (r 32),e P "__weakref__" 235 (r 33),e P "__doc__" 236 (.none)].toArray 4,#[]⟩,
 ⟨.type "type",none,cO "Machine" [.type "object"] [r 31,.type "object"] 30 "Machine" true [],[none,none,some (s "Machine" 200),some (s "Machine" 208),some (.builtin "object.__new__"),some (.bool true)].toArray⟩,
 ⟨.type "getset_descriptor",none,.fields [s "__dict__" 232,r 31,.builtin "function.__dict__",.builtin "function.__dict__#set"].toArray,#[]⟩,
 ⟨.type "getset_descriptor",none,.fields [s "__weakref__" 234,r 31,.builtin "ExceptionGroup.__weakref__",.none].toArray,#[]⟩,
 ⟨.type "super",none,.fields [r 31,r 31,r 31].toArray,#[]⟩,
 ⟨.type "builtin_function_or_method",none,.fields [.builtin "object.__init_subclass__",r 31].toArray,#[]⟩]
noncomputable def g0:Gp:=⟨m0,187,36,7,239,[("put_on",22,1,["machine"]),("put_off",25,1,["machine"]),("halt_motor",30,1,["machine"]),("is_lit",33,2,["machine","sheet"]),("runs_well",35,1,["machine"]),("is_ready",37,3,["machine","sheet","frame"]),("drive",39,2,["machine","up","moves"]),("coast",52,2,["machine","down","moves"])]⟩
noncomputable def g1:Gp:=⟨m0,187,92,15,302,[("run_motor",65,2,["machine","sheet"]),("move_film",72,2,["machine","sheet"]),("pass_tick",79,2,["machine","sheet","at_full_speed","moved"])]⟩
noncomputable def Zvg (P:Params):List Obj:=[T [],
 ⟨.type "builtin_function_or_method",none,.fields [.builtin "type.__prepare__",.type "type"].toArray,#[]⟩,
 ⟨.type "dict",none,.dict [e P "__module__" 359 (s "twoprojectors.house" 328),e P "__qualname__" 361 (s "House" 360),e P "__firstlineno__" 363 (z 96 362),e P "__init__" 370 (r 126),e P "begin" 378 (r 133),e P "__static_attributes__" 389 (r 134)].toArray 6,#[]⟩,
 T [],
 ⟨.none,none,.fields [z 98 0,z 4 0,r 125,z 101 0,z 4 0,r 132].toArray,#[]⟩,
 C "House" "House" 354 96 0 0 116 false 117 (.none) (.none) (.none) 357 358,
 ⟨.type "frame",none,.plain,[some (r 118),some (r 3),some (r 115),none,some (s "twoprojectors.house" 328),none,some (r 0)].toArray⟩,
 T [],
 O,
 T [s "self" 367],
 T [],
 F (sB 30 0) "House.__init__",
 C "__init__" "House.__init__" 364 98 1 3 120 true 121 (r 122) (r 123) (r 124) 368 369,
 G (sB 30 0) "House.__init__" "twoprojectors.house" 328 125,
 T [],
 O,
 T [s "self" 374,s "sheet" 375],
 T [],
 F (sB 30 1) "House.begin",
 C "begin" "House.begin" 371 101 2 3 127 true 128 (r 129) (r 130) (r 131) 376 377,
 G (sB 30 1) "House.begin" "twoprojectors.house" 328 132,
 T [s "active" 379,s "dark_ticks" 380,s "log" 381,s "machines" 382,s "mode" 383,s "reason" 384,s "runs" 385,s "sheet" 386,s "target" 387,s "ticks" 388],
 ⟨.type "dict",none,.dict [e P "__module__" 359 (s "twoprojectors.house" 328),e P "__firstlineno__" 363 (z 96 362),e P "__init__" 370 (r 126),e P "begin" 378 (r 133),e P "__static_attributes__" 389 (r 134),e P "__dict__" 391 (r 137),e P "__weakref__" 393 (r 138),e P "__doc__" 394 (.none)].toArray 4,#[]⟩,
 ⟨.type "type",none,cO "House" [.type "object"] [r 136,.type "object"] 135 "House" true [],[none,none,some (s "House" 352),some (s "House" 360),some (.builtin "object.__new__"),some (.bool true)].toArray⟩,
 ⟨.type "getset_descriptor",none,.fields [s "__dict__" 390,r 136,.builtin "function.__dict__",.builtin "function.__dict__#set"].toArray,#[]⟩,
 ⟨.type "getset_descriptor",none,.fields [s "__weakref__" 392,r 136,.builtin "ExceptionGroup.__weakref__",.none].toArray,#[]⟩,
 ⟨.type "super",none,.fields [r 136,r 136,r 136].toArray,#[]⟩,
 ⟨.type "builtin_function_or_method",none,.fields [.builtin "object.__init_subclass__",r 136].toArray,#[]⟩]
noncomputable def g2:Gp:=⟨m1,328,141,31,397,[("is_machine",112,1,["number"]),("is_going",114,1,["house"]),("active_machine",116,1,["house"]),("other_machine",118,1,["house"]),("write_log",120,3,["house","what","which"]),("stop",122,2,["house","reason","machine"])]⟩
noncomputable def Zvh (P:Params):List Obj:=[T [s "up" 492,s "N" 493],
 T [s "strike" 494,s "N" 495],
 T [s "down" 496,s "N" 497],
 T [s "leader" 498,s "N" 499],
 T [s "reel" 500,s "N" 501,s "frames" 502,s "N" 503,s "motor" 504,s "N" 505,s "change" 506,s "N" 507],
 T [s "reel" 508,s "N" 509,s "frames" 510,s "N" 511,s "end" 512],
 T [r 183,r 184,r 185,r 186,r 187,r 188],
 T [z 2 514,z 48 515],
 T [r 190],
 T [z 0 516,z 48 517],
 T [r 192],
 T [z 0 518,z 48 519],
 T [r 194],
 T [z 1 520,z 96 521],
 T [r 196],
 T [z 1 522,z 99 523],
 T [z 1 524,z 2000 525],
 T [z 0 526,z 2000 527],
 T [z 0 528,z 2000 529],
 T [r 198,r 199,r 200,r 201],
 T [z 1 530,z 99 531],
 T [z 1 532,z 2000 533],
 T [r 203,r 204],
 T [r 191,r 193,r 195,r 197,r 202,r 205],
 T [],
 ⟨.type "builtin_function_or_method",none,.fields [.builtin "type.__prepare__",.type "type"].toArray,#[]⟩,
 ⟨.type "dict",none,.dict [e P "__module__" 546 (s "twoprojectors.sheet" 464),e P "__qualname__" 548 (s "Reel" 547),e P "__firstlineno__" 550 (z 153 549),e P "__init__" 562 (r 220),e P "__static_attributes__" 568 (r 221)].toArray 5,#[]⟩,
 T [],
 ⟨.none,none,.fields [z 155 0,z 4 0,r 219].toArray,#[]⟩,
 C "Reel" "Reel" 541 153 0 0 210 false 211 (.none) (.none) (.none) 544 545,
 ⟨.type "frame",none,.plain,[some (r 212),some (r 3),some (r 209),none,some (s "twoprojectors.sheet" 464),none,some (r 0)].toArray⟩,
 T [],
 O,
 T [s "self" 554,s "name" 555,s "frames" 556,s "motor" 557,s "change" 558,s "ends" 559],
 T [],
 F (sB 62 0) "Reel.__init__",
 C "__init__" "Reel.__init__" 551 155 6 3 214 true 215 (r 216) (r 217) (r 218) 560 561,
 G (sB 62 0) "Reel.__init__" "twoprojectors.sheet" 464 219,
 T [s "change" 563,s "ends" 564,s "frames" 565,s "motor" 566,s "name" 567],
 ⟨.type "dict",none,.dict [e P "__module__" 546 (s "twoprojectors.sheet" 464),e P "__firstlineno__" 550 (z 153 549),e P "__init__" 562 (r 220),e P "__static_attributes__" 568 (r 221),e P "__dict__" 570 (r 224),e P "__weakref__" 572 (r 225),e P "__doc__" 573 (.none)].toArray 4,#[]⟩,
 ⟨.type "type",none,cO "Reel" [.type "object"] [r 223,.type "object"] 222 "Reel" true [],[none,none,some (s "Reel" 539),some (s "Reel" 547),some (.builtin "object.__new__"),some (.bool true)].toArray⟩,
 ⟨.type "getset_descriptor",none,.fields [s "__dict__" 569,r 223,.builtin "function.__dict__",.builtin "function.__dict__#set"].toArray,#[]⟩,
 ⟨.type "getset_descriptor",none,.fields [s "__weakref__" 571,r 223,.builtin "ExceptionGroup.__weakref__",.none].toArray,#[]⟩,
 ⟨.type "super",none,.fields [r 223,r 223,r 223].toArray,#[]⟩,
 ⟨.type "builtin_function_or_method",none,.fields [.builtin "object.__init_subclass__",r 223].toArray,#[]⟩,
 T [],
 ⟨.type "builtin_function_or_method",none,.fields [.builtin "type.__prepare__",.type "type"].toArray,#[]⟩,
 ⟨.type "dict",none,.dict [e P "__module__" 583 (s "twoprojectors.sheet" 464),e P "__qualname__" 585 (s "Sheet" 584),e P "__firstlineno__" 587 (z 161 586),e P "__init__" 594 (r 241),e P "__static_attributes__" 601 (r 242)].toArray 5,#[]⟩]
noncomputable def Zvi (P:Params):List Obj:=[T [],
 ⟨.none,none,.fields [z 163 0,z 4 0,r 240].toArray,#[]⟩,
 C "Sheet" "Sheet" 578 161 0 0 231 false 232 (.none) (.none) (.none) 581 582,
 ⟨.type "frame",none,.plain,[some (r 233),some (r 3),some (r 230),none,some (s "twoprojectors.sheet" 464),none,some (r 0)].toArray⟩,
 T [],
 O,
 T [s "self" 591],
 T [],
 F (sB 63 0) "Sheet.__init__",
 C "__init__" "Sheet.__init__" 588 163 1 3 235 true 236 (r 237) (r 238) (r 239) 592 593,
 G (sB 63 0) "Sheet.__init__" "twoprojectors.sheet" 464 240,
 T [s "down" 595,s "leader" 596,s "reels" 597,s "settings" 598,s "strike" 599,s "up" 600],
 ⟨.type "dict",none,.dict [e P "__module__" 583 (s "twoprojectors.sheet" 464),e P "__firstlineno__" 587 (z 161 586),e P "__init__" 594 (r 241),e P "__static_attributes__" 601 (r 242),e P "__dict__" 603 (r 245),e P "__weakref__" 605 (r 246),e P "__doc__" 606 (.none)].toArray 4,#[]⟩,
 ⟨.type "type",none,cO "Sheet" [.type "object"] [r 244,.type "object"] 243 "Sheet" true [],[none,none,some (s "Sheet" 576),some (s "Sheet" 584),some (.builtin "object.__new__"),some (.bool true)].toArray⟩,
 ⟨.type "getset_descriptor",none,.fields [s "__dict__" 602,r 244,.builtin "function.__dict__",.builtin "function.__dict__#set"].toArray,#[]⟩,
 ⟨.type "getset_descriptor",none,.fields [s "__weakref__" 604,r 244,.builtin "ExceptionGroup.__weakref__",.none].toArray,#[]⟩,
 ⟨.type "super",none,.fields [r 244,r 244,r 244].toArray,#[]⟩,
 ⟨.type "builtin_function_or_method",none,.fields [.builtin "object.__init_subclass__",r 244].toArray,#[]⟩]
noncomputable def g3:Gp:=⟨m2,464,249,64,609,[("last_frame",170,1,["reel"]),("first_lead",174,1,["sheet"]),("lead_behind",176,2,["sheet","reel"]),("is_reel",178,2,["sheet","number"]),("lead_of",180,2,["sheet","number"]),("plan_of",184,1,["sheet","ticks","first","reel","last"])]⟩
noncomputable def Zvj (P:Params):List Obj:=[T [],
 O,
 F (sA 70) "codes_of",
 C "codes_of" "codes_of" 658 193 1 3 291 true 292 (.none) (.none) (r 293) 661 662,
 G (sA 70) "codes_of" "twoprojectors.sheet" 464 294]
noncomputable def g4:Gp:=⟨m2,464,296,71,664,[("split_at",195,2,["codes","mark","parts","part","code"])]⟩
noncomputable def Zvk (P:Params):List Obj:=[T [],
 O,
 F (sA 72) "words_of",
 C "words_of" "words_of" 675 206 1 3 303 true 304 (.none) (.none) (r 305) 678 679,
 G (sA 72) "words_of" "twoprojectors.sheet" 464 306]
noncomputable def g5:Gp:=⟨m2,464,308,73,681,[("number_of",208,1,["word","number","code"]),("fits",219,2,["words","form","word","part"]),("form_of",229,1,["words","number","form"])]⟩
noncomputable def Zvl (P:Params):List Obj:=[T [],
 O,
 F (sA 76) "numbers_in",
 C "numbers_in" "numbers_in" 709 234 2 3 329 true 330 (.none) (.none) (r 331) 712 713,
 G (sA 76) "numbers_in" "twoprojectors.sheet" 464 332]
noncomputable def g6:Gp:=⟨m2,464,334,77,715,[("in_ranges",236,2,["numbers","ranges","number","bounds"]),("is_ended",241,1,["sheet"]),("may_stand",243,2,["sheet","form"]),("take_setting",247,3,["sheet","form","number"]),("reel_of",257,2,["form","numbers"]),("has_name",261,2,["sheet","name","reel"]),("has_bad_cues",266,2,["sheet","reel"]),("take_reel",272,2,["sheet","reel"])]⟩
noncomputable def g7:Gp:=⟨m2,464,390,85,782,[("take_line",281,2,["sheet","words","form","numbers"]),("fill_sheet",294,2,["sheet","text","lines","number","line","words","wrong"]),("is_text",305,1,["codes","code"]),("shown_reel",312,1,["reel","row"]),("shown_sheet",317,1,["sheet","rows","reel"])]⟩
noncomputable def g8:Gp:=⟨m3,830,425,95,840,[("has_next_reel",327,1,["house"]),("is_too_late",329,2,["machine","target"]),("wait_for_target",333,1,["house","machine"]),("end_show",341,1,["house"]),("start_other",345,1,["house"]),("change_over",351,1,["house","machine"]),("follow_cues",365,1,["house","machine","reel"]),("watch_show",375,1,["house","machine"])]⟩
noncomputable def g9:Gp:=⟨m3,830,481,103,902,[("begin_tick",383,1,["house"])]⟩
noncomputable def g10:Gp:=⟨m4,909,488,105,911,[("on_screen",389,1,["house","machine"]),("goes_on",394,4,["run","tick","reel","frame","last_tick"]),("record_frame",397,3,["house","reel","frame","runs"]),("record_screen",403,1,["house","seen"]),("tick_house",409,1,["house","machine"])]⟩
noncomputable def g11:Gp:=⟨m5,956,523,116,968,[("film_refusal",421,2,["house","number"]),("call_sheet",427,2,["house","text","sheet","wrong"]),("call_shown",438,2,["house","numbers","text"]),("is_threading",441,3,["sheet","reel","lead"]),("call_thread",445,2,["house","numbers","number","reel","lead","refusal","machine"]),("call_unthread",461,2,["house","numbers","number","refusal","machine"]),("call_go",475,2,["house","numbers","number","frame","machine"]),("call_halt",493,2,["house","numbers"])]⟩
noncomputable def g12:Gp:=⟨m5,956,579,124,1047,[("call_tick",498,2,["house","numbers","count","turn"]),("call_seize",505,2,["house","numbers","machine"]),("call_tear",513,2,["house","numbers","machine"]),("call_lampout",522,2,["house","numbers","machine"]),("call_mend",528,2,["house","numbers","machine"]),("call_power",539,2,["house","numbers","machine"]),("call_inch",547,2,["house","numbers","number","more","refusal","machine","place"])]⟩
noncomputable def Zvm (P:Params):List Obj:=[T [r 536,r 543,r 557,r 564,r 571,r 578,r 585,r 592,r 599,r 606,r 613,r 620,r 627]]
noncomputable def g13:Gp:=⟨m5,956,629,132,1116,[("answer_action",564,3,["house","call","numbers"])]⟩
noncomputable def g14:Gp:=⟨m6,1125,636,136,1131,[("changes_in",569,2,["runs","reel","changes","run","first","behind"]),("pieces_of",578,3,["runs","reel","last","changes","pieces","first","times","frame"]),("spans_of",591,4,["runs","reel","last","often","spans","piece"]),("frames_shown",600,2,["house","often","spans","number","reel"])]⟩
noncomputable def g15:Gp:=⟨m7,1180,664,142,1184,[("one_if",607,1,["holds"]),("counted",609,1,["rows","answer","row"])]⟩
noncomputable def Zvn (P:Params):List Obj:=[T [],
 O,
 F (sA 144) "call_machine",
 C "call_machine" "call_machine" 1200 614 2 3 678 true 679 (.none) (.none) (r 680) 1203 1204,
 G (sA 144) "call_machine" "twoprojectors.tellings" 1180 681]
noncomputable def g16:Gp:=⟨m7,1180,683,145,1206,[("call_house",621,2,["house","numbers"]),("call_screen",623,2,["house","numbers","seen"]),("call_record",628,2,["house","numbers"]),("call_log",630,2,["house","numbers"]),("call_lost",632,2,["house","numbers"]),("call_twice",634,2,["house","numbers"]),("call_plan",636,2,["house","numbers"]),("call_lead",638,2,["house","numbers"])]⟩
noncomputable def g17:Gp:=⟨m7,1180,739,153,1271,[("call_reel",642,2,["house","numbers","reel"])]⟩
noncomputable def Zvo (P:Params):List Obj:=[T [],
 O,
 F (sA 154) "call_free",
 C "call_free" "call_free" 1280 647 2 3 746 true 747 (.none) (.none) (r 748) 1283 1284,
 G (sA 154) "call_free" "twoprojectors.tellings" 1180 749,
 T [r 682,r 689,r 696,r 703,r 710,r 717,r 724,r 731,r 738,r 745,r 750]]
noncomputable def g18:Gp:=⟨m7,1180,752,156,1287,[("answer_telling",650,3,["house","call","numbers"])]⟩
noncomputable def Zvp (P:Params):List Obj:=[T [z 0 1300,z 0 1301,z 3 1302,z 1 1303,z 2 1304,z 0 1305,z 1 1306,z 1 1307,z 1 1308,z 1 1309,z 1 1310,z 0 1311,z 2 1312,z 1 1313,z 0 1314,z 0 1315,z 0 1316,z 0 1317,z 0 1318,z 0 1319,z 0 1320,z 1 1321,z 1 1322,z 0 1323]]
noncomputable def g19:Gp:=⟨m8,1296,760,160,1325,[("answer_call",655,3,["house","call","numbers"]),("answers",661,1,["calls","house","given","at","call","size","answer"])]⟩
noncomputable def pick:List (Nat × List Obj)->Nat->Obj
 | [],_=>O
 | (n,l)::k,a=>match Nat.blt a n with
  | true=>l.getD a O
  | false=>pick k (a - n)
noncomputable def LL (P:Params):List (Nat × List Obj):=[(36,L0 P),(56,U g0),(21,U g1),(28,Zvg P),(42,U g2),(48,Zvh P),(18,Zvi P),(42,U g3),(5,Zvj P),(7,U g4),(5,Zvk P),(21,U g5),(5,Zvl P),(56,U g6),(35,U g7),(56,U g8),(7,U g9),(35,U g10),(56,U g11),(49,U g12),(1,Zvm P),(7,U g13),(28,U g14),(14,U g15),(5,Zvn P),(56,U g16),(7,U g17),(6,Zvo P),(7,U g18),(1,Zvp P),(14,U g19)]
noncomputable def ob (P:Params) (a:Nat):Obj:=pick (LL P) a
noncomputable def ents (P:Params):List DictEntry:=[e P "__doc__" 166 (.none),e P "__package__" 167 (.none),e P "__loader__" 168 (.builtin "__main__.__loader__#opaque"),e P "__spec__" 169 (.none),e P "__annotations__" 170 (r 6),e P "__builtins__" 171 (r 4),e P "__file__" 173 (s "/claim/cut.py" 172),e P "__cached__" 174 (.none),e P "NO_REEL" 191 (z (-1) 190),e P "STANDS" 193 (z 0 192),e P "RUNS_UP" 195 (z 1 194),e P "AT_SPEED" 197 (z 2 196),e P "RUNS_DOWN" 199 (z 3 198),e P "Machine" 238 (r 31)]++(E P g0++(E P g1++([e P "NOTHING_BEGUN" 331 (z 0 330),e P "WAITS" 333 (z 1 332),e P "RUNS" 335 (z 2 334),e P "STOPPED" 337 (z 3 336),e P "OVER" 339 (z 4 338),e P "LOG_STARTED" 341 (z 1 340),e P "LOG_CHANGED" 343 (z 2 342),e P "LOG_SHOWING" 345 (z 3 344),e P "LOG_STOPPED" 347 (z 4 346),e P "LOG_OVER" 349 (z 5 348),e P "LOG_MISSING" 351 (z 6 350),e P "House" 396 (r 136)]++(E P g2++([e P "OUT_OF_RANGE" 445 (z (-1) 444),e P "NO_SHEET" 448 (z (-2) 447),e P "GOING" 451 (z (-3) 450),e P "NOT_STANDING" 454 (z (-4) 453),e P "REEL_ELSEWHERE" 457 (z (-5) 456),e P "WITHOUT_REEL" 460 (z (-6) 459),e P "OUTSIDE" 463 (z (-7) 462),e P "LINE_END" 467 (z 10 466),e P "BLANK" 469 (z 32 468),e P "DIGIT_0" 471 (z 48 470),e P "DIGIT_9" 473 (z 57 472),e P "MOST_DIGITS" 475 (z 4 474),e P "MOST_REELS" 477 (z 6 476),e P "MOST_BYTES" 479 (z 1000 478),e P "MOST_BYTE" 481 (z 255 480),e P "NO_FORM" 483 (z 1 482),e P "BAD_NUMBER" 485 (z 2 484),e P "OUT_OF_PLACE" 487 (z 3 486),e P "TOO_MANY" 489 (z 4 488),e P "BAD_CUES" 491 (z 5 490),e P "FORMS" 513 (r 189),e P "RANGES" 534 (r 206),e P "SETTINGS" 536 (z 4 535),e P "REEL_WITH_CUES" 538 (z 4 537),e P "Reel" 575 (r 223),e P "Sheet" 608 (r 244)]++(E P g3++([e P "codes_of" 663 (r 295)]++(E P g4++([e P "words_of" 680 (r 307)]++(E P g5++([e P "numbers_in" 714 (r 333)]++(E P g6++(E P g7++([e P "NEVER_READY" 833 (z 1 832),e P "NOT_RUNNING" 835 (z 2 834),e P "NO_NEXT_REEL" 837 (z 3 836),e P "NOT_LIT" 839 (z 4 838)]++(E P g8++(E P g9++(E P g10++([e P "POWER_LOST" 959 (z 5 958),e P "HALTED" 961 (z 6 960),e P "MOST_FRAME" 963 (z 2000 962),e P "MOST_TICKS" 965 (z 500 964),e P "MOST_INCH" 967 (z 96 966)]++(E P g11++(E P g12++([e P "ACTIONS" 1115 (r 628)]++(E P g13++([e P "NEVER" 1128 (z 0 1127),e P "TWICE" 1130 (z 2 1129)]++(E P g14++([e P "FIRST_TELLING" 1183 (z 13 1182)]++(E P g15++([e P "call_machine" 1205 (r 682)]++(E P g16++(E P g17++([e P "call_free" 1285 (r 750),e P "TELLINGS" 1286 (r 751)]++(E P g18++([e P "SHEET" 1299 (z 0 1298),e P "SIZES" 1324 (r 759)]++(E P g19)))))))))))))))))))))))))))))))))
noncomputable def xsA:List Value:=[z 7 0,z 0 0,r 20]++(X g0++(X g1++([z 96 0,z 0 0,r 118]++(X g2++([z 153 0,z 0 0,r 212,z 161 0,z 0 0,r 233]++(X g3++([z 193 0,z 0 0,r 294]++(X g4++([z 206 0,z 0 0,r 306]++(X g5++([z 234 0,z 0 0,r 332]++(X g6++(X g7++(X g8++(X g9++(X g10++(X g11++(X g12++(X g13++(X g14++(X g15++([z 614 0,z 0 0,r 681]++(X g16++(X g17++([z 647 0,z 0 0,r 749]++(X g18++(X g19)))))))))))))))))))))))))))
noncomputable def mkT (f:Nat->Obj) (n:Nat):Nat->Nat->Nat->BT
 | 0,_,_=>.nil
 | d+1,a,b=>match Nat.blt b n with
  | true=>.node (f b) (mkT f n d (2*a) (a+b)) (mkT f n d (2*a) (2*a+b))
  | false=>.nil
noncomputable def dct (P:Params) (k:Nat) (nm:Value):Obj:=⟨.type "dict",none,.dict (e P "__name__" 165 nm::(ents P).take (k - 1)).toArray k,#[]⟩
noncomputable def xsO (m:Nat):Obj:=⟨.none,none,.fields (xsA.take m).toArray,#[]⟩
noncomputable def tr (P:Params) (n k m:Nat) (nm:Value):BT:=((mkT (ob P) n 12 1 0).set 3 fun _=>dct P k nm).set 12 fun _=>xsO m
noncomputable def st (n k m tk:Nat) (nm:Value) (P:Params) (os:OsState):SharedT:=⟨tr P n k m nm,n,(boot_heap P).life,Array.mk [],boot_drawn,tk,os⟩
noncomputable def en:Env:={ scope:=PG.main.scope,locals:=mainNs,globals:=mainNs,cells:=[],code:=.ref 13,frame:=some 14 }
noncomputable def cd:Code:=.body bd en
noncomputable def p0:Pos:=⟨0,0,0,0⟩
noncomputable def BB:List Frame:=[topFrame p0]
noncomputable def ann:Option Value:=some (.ref 6)
noncomputable def gr (i k:Nat):List Stmt:=(bd.drop i).take k
noncomputable def flat (P:Params):List Obj:=(((L0 P).set 3 (dct P 162 (s "twoprojectors.booth" 1296))).set 12 (xsO 291))++(U g0++(U g1++(Zvg P++(U g2++(Zvh P++(Zvi P++(U g3++(Zvj P++(U g4++(Zvk P++(U g5++(Zvl P++(U g6++(U g7++(U g8++(U g9++(U g10++(U g11++(U g12++(Zvm P++(U g13++(U g14++(U g15++(Zvn P++(U g16++(U g17++(Zvo P++(U g18++(Zvp P++(U g19))))))))))))))))))))))))))))))
noncomputable def H1 (P:Params):Heap:=⟨(flat P).toArray,(boot_heap P).life⟩
noncomputable def KH (P:Params):FG:=(List.range 774).zip (flat P)
noncomputable def QV:Program:={ PG with main:={ PG.main with body:=[sA 161] } }
noncomputable abbrev sF (P:Params) (os:OsState):Shared:=⟨H1 P,Array.mk [],boot_drawn,1347,os⟩
noncomputable abbrev s0 (P:Params) (os:OsState):Shared:=⟨boot_heap P,Array.mk [],boot_drawn,boot_toks,os⟩
end Hd
end
noncomputable section
namespace Hd
open PySem PySem.W PySem.Calls PyProof.Rows
theorem pc0:∀ w:World,(fun os=>segRunT treeTable PG w 11 ann 1 321 (st 15 9 0 187 (s "__main__" 164) w.params os) (piecesOf (gr 0 8) en cd ⟨0,0,0,0⟩ BB))=fun os=>some (.next,st 43 16 6 246 (s "twoprojectors.machine" 187) w.params os,cd,⟨22,0,24,23⟩):=fun w=>by kernel_rfl
theorem pc1:∀ w:World,(fun os=>segRunT treeTable PG w 11 ann 1 330 (st 43 16 6 246 (s "twoprojectors.machine" 187) w.params os) (piecesOf (gr 8 13) en cd ⟨22,0,24,23⟩ BB))=fun os=>some (.next,st 113 28 36 334 (s "twoprojectors.house" 328) w.params os,cd,⟨86,0,86,5⟩):=fun w=>by kernel_rfl
theorem pc2:∀ w:World,(fun os=>segRunT treeTable PG w 11 ann 1 82 (st 113 28 36 334 (s "twoprojectors.house" 328) w.params os) (piecesOf (gr 21 9) en cd ⟨86,0,86,5⟩ BB))=fun os=>some (.next,st 113 37 36 352 (s "twoprojectors.house" 328) w.params os,cd,⟨95,0,95,11⟩):=fun w=>by kernel_rfl
theorem pc3:∀ w:World,(fun os=>segRunT treeTable PG w 11 ann 1 321 (st 113 37 36 352 (s "twoprojectors.house" 328) w.params os) (piecesOf (gr 30 3) en cd ⟨95,0,95,11⟩ BB))=fun os=>some (.next,st 155 40 45 411 (s "twoprojectors.house" 328) w.params os,cd,⟨114,0,115,52⟩):=fun w=>by kernel_rfl
theorem pc4:∀ w:World,(fun os=>segRunT treeTable PG w 11 ann 1 327 (st 155 40 45 411 (s "twoprojectors.house" 328) w.params os) (piecesOf (gr 33 23) en cd ⟨114,0,115,52⟩ BB))=fun os=>some (.next,st 183 62 57 488 (s "twoprojectors.sheet" 464) w.params os,cd,⟨146,0,146,12⟩):=fun w=>by kernel_rfl
theorem pc5:∀ w:World,(fun os=>segRunT treeTable PG w 11 ann 1 142 (st 183 62 57 488 (s "twoprojectors.sheet" 464) w.params os) (piecesOf (gr 56 6) en cd ⟨146,0,146,12⟩ BB))=fun os=>some (.next,st 207 68 57 539 (s "twoprojectors.sheet" 464) w.params os,cd,⟨152,0,152,14⟩):=fun w=>by kernel_rfl
theorem pc6:∀ w:World,(fun os=>segRunT treeTable PG w 11 ann 1 231 (st 207 68 57 539 (s "twoprojectors.sheet" 464) w.params os) (piecesOf (gr 62 1) en cd ⟨152,0,152,14⟩ BB))=fun os=>some (.next,st 228 69 60 576 (s "twoprojectors.sheet" 464) w.params os,cd,⟨153,0,160,24⟩):=fun w=>by kernel_rfl
theorem pc7:∀ w:World,(fun os=>segRunT treeTable PG w 11 ann 1 315 (st 228 69 60 576 (s "twoprojectors.sheet" 464) w.params os) (piecesOf (gr 63 4) en cd ⟨153,0,160,24⟩ BB))=fun os=>some (.next,st 270 73 72 631 (s "twoprojectors.sheet" 464) w.params os,cd,⟨176,0,177,68⟩):=fun w=>by kernel_rfl
theorem pc8:∀ w:World,(fun os=>segRunT treeTable PG w 11 ann 1 331 (st 270 73 72 631 (s "twoprojectors.sheet" 464) w.params os) (piecesOf (gr 67 11) en cd ⟨176,0,177,68⟩ BB))=fun os=>some (.next,st 341 84 105 725 (s "twoprojectors.sheet" 464) w.params os,cd,⟨236,0,240,15⟩):=fun w=>by kernel_rfl
theorem pc9:∀ w:World,(fun os=>segRunT treeTable PG w 11 ann 1 309 (st 341 84 105 725 (s "twoprojectors.sheet" 464) w.params os) (piecesOf (gr 78 10) en cd ⟨236,0,240,15⟩ BB))=fun os=>some (.next,st 411 94 135 813 (s "twoprojectors.sheet" 464) w.params os,cd,⟨305,0,311,15⟩):=fun w=>by kernel_rfl
theorem Zww:∀ w:World,(fun os=>segRunT treeTable PG w 11 ann 1 315 (st 411 94 135 813 (s "twoprojectors.sheet" 464) w.params os) (piecesOf (gr 88 14) en cd ⟨305,0,311,15⟩ BB))=fun os=>some (.next,st 474 107 162 894 (s "twoprojectors.automation" 830) w.params os,cd,⟨365,0,374,26⟩):=fun w=>by kernel_rfl
theorem Zwx:∀ w:World,(fun os=>segRunT treeTable PG w 11 ann 1 308 (st 474 107 162 894 (s "twoprojectors.automation" 830) w.params os) (piecesOf (gr 102 15) en cd ⟨365,0,374,26⟩ BB))=fun os=>some (.next,st 530 120 186 976 (s "twoprojectors.actions" 956) w.params os,cd,⟨421,0,426,12⟩):=fun w=>by kernel_rfl
theorem Zwy:∀ w:World,(fun os=>segRunT treeTable PG w 11 ann 1 320 (st 530 120 186 976 (s "twoprojectors.actions" 956) w.params os) (piecesOf (gr 117 10) en cd ⟨421,0,426,12⟩ BB))=fun os=>some (.next,st 600 130 216 1075 (s "twoprojectors.actions" 956) w.params os,cd,⟨513,0,521,14⟩):=fun w=>by kernel_rfl
theorem Zwz:∀ w:World,(fun os=>segRunT treeTable PG w 11 ann 1 327 (st 600 130 216 1075 (s "twoprojectors.actions" 956) w.params os) (piecesOf (gr 127 12) en cd ⟨513,0,521,14⟩ BB))=fun os=>some (.next,st 657 141 240 1169 (s "twoprojectors.tally" 1125) w.params os,cd,⟨591,0,599,16⟩):=fun w=>by kernel_rfl
theorem Zw0:∀ w:World,(fun os=>segRunT treeTable PG w 11 ann 1 319 (st 657 141 240 1169 (s "twoprojectors.tally" 1125) w.params os) (piecesOf (gr 139 12) en cd ⟨591,0,599,16⟩ BB))=fun os=>some (.next,st 725 152 270 1255 (s "twoprojectors.tellings" 1180) w.params os,cd,⟨634,0,635,46⟩):=fun w=>by kernel_rfl
theorem Zw1:∀ w:World,(fun os=>segRunT treeTable PG w 11 ann 1 299 (st 725 152 270 1255 (s "twoprojectors.tellings" 1180) w.params os) (piecesOf (gr 151 11) en cd ⟨634,0,635,46⟩ BB))=fun os=>some (.next,st 774 162 291 1347 (s "twoprojectors.booth" 1296) w.params os,cd,⟨661,0,676,16⟩):=fun w=>by kernel_rfl
end Hd
end
noncomputable section
namespace Hd
open PySem PySem.W PySem.Calls PyProof.Rows
noncomputable def LS:List Str:=(["NO_REEL","STANDS","RUNS_UP","AT_SPEED","RUNS_DOWN","Machine","put_on","put_off","halt_motor","is_lit","runs_well","is_ready","drive","coast","run_motor","move_film","pass_tick","NOTHING_BEGUN","WAITS","RUNS","STOPPED","OVER","LOG_STARTED","LOG_CHANGED","LOG_SHOWING","LOG_STOPPED","LOG_OVER","LOG_MISSING","House","is_machine","is_going","active_machine","other_machine","write_log","stop","OUT_OF_RANGE","NO_SHEET","GOING","NOT_STANDING","REEL_ELSEWHERE","WITHOUT_REEL","OUTSIDE","LINE_END","BLANK","DIGIT_0","DIGIT_9","MOST_DIGITS","MOST_REELS","MOST_BYTES","MOST_BYTE","NO_FORM","BAD_NUMBER","OUT_OF_PLACE","TOO_MANY","BAD_CUES","FORMS","RANGES","SETTINGS","REEL_WITH_CUES","Reel","Sheet","last_frame","first_lead","lead_behind","is_reel","lead_of","plan_of","codes_of","split_at","words_of","number_of","fits","form_of","numbers_in","in_ranges","is_ended","may_stand","take_setting","reel_of","has_name","has_bad_cues","take_reel","take_line","fill_sheet","is_text","shown_reel","shown_sheet","NEVER_READY","NOT_RUNNING","NO_NEXT_REEL","NOT_LIT","has_next_reel","is_too_late","wait_for_target","end_show","start_other","change_over","follow_cues","watch_show","begin_tick","on_screen","goes_on","record_frame","record_screen","tick_house","POWER_LOST","HALTED","MOST_FRAME","MOST_TICKS","MOST_INCH","film_refusal","call_sheet","call_shown","is_threading","call_thread","call_unthread","call_go","call_halt","call_tick","call_seize","call_tear","call_lampout","call_mend","call_power","call_inch","ACTIONS","answer_action","NEVER","TWICE","changes_in","pieces_of","spans_of","frames_shown","FIRST_TELLING","one_if","counted","call_machine","call_house","call_screen","call_record","call_log","call_lost","call_twice","call_plan","call_lead","call_reel","call_free","TELLINGS","answer_telling","SHEET","SIZES","answer_call"]:List String).map Str.ofString
theorem pre:∀ w:World,(fun os=>topGo treeTable PG w 11 ann 12 (s0 w.params os) (topStub PG))=fun os=>some ((st 15 9 0 187 (s "__main__" 164) w.params os).abs,⟨denote treeTable cd,cd,p0,BB⟩):=fun w=>by kernel_rfl
theorem blk:∀ w:World,(fun os=>segRun treeTable PG w 11 ann 1 1 (st 15 9 0 187 (s "__main__" 164) w.params os).abs (blockOf bd en cd p0 BB))=fun os=>some (.next,(st 15 9 0 187 (s "__main__" 164) w.params os).abs,cd,p0):=fun w=>by kernel_rfl
theorem fin:∀ w:World,(fun os=>topRun treeTable PG w 11 ann 2 (st 774 162 291 1347 (s "twoprojectors.booth" 1296) w.params os).abs ⟨doneF .next,cd,⟨661,0,676,16⟩,BB⟩)=fun os=>some (sF w.params os):=fun w=>by kernel_rfl
theorem Zw2:bd=gr 0 8++(gr 8 13++(gr 21 9++(gr 30 3++(gr 33 23++(gr 56 6++(gr 62 1++(gr 63 4++(gr 67 11++(gr 78 10++(gr 88 14++(gr 102 15++(gr 117 10++(gr 127 12++(gr 139 12++(gr 151 11++[]))))))))))))))):=by kernel_rfl
theorem run (w:World) (os:OsState):topRun treeTable PG w 11 ann (12+(1+(321+(330+(82+(321+(327+(142+(231+(315+(331+(309+(315+(308+(320+(327+(319+(299+2)))))))))))))))))) (s0 w.params os) (topStub PG)=some (sF w.params os):=by have k:topRun treeTable PG w 11 ann (321+(330+(82+(321+(327+(142+(231+(315+(331+(309+(315+(308+(320+(327+(319+(299+2)))))))))))))))) (st 15 9 0 187 (s "__main__" 164) w.params os).abs (restOf (gr 0 8++(gr 8 13++(gr 21 9++(gr 30 3++(gr 33 23++(gr 56 6++(gr 62 1++(gr 63 4++(gr 67 11++(gr 78 10++(gr 88 14++(gr 102 15++(gr 117 10++(gr 127 12++(gr 139 12++(gr 151 11++[])))))))))))))))) en cd p0 BB)=some (sF w.params os):=piece_app (segRun_of (congrFun (pc0 w) os)) (piece_app (segRun_of (congrFun (pc1 w) os)) (piece_app (segRun_of (congrFun (pc2 w) os)) (piece_app (segRun_of (congrFun (pc3 w) os)) (piece_app (segRun_of (congrFun (pc4 w) os)) (piece_app (segRun_of (congrFun (pc5 w) os)) (piece_app (segRun_of (congrFun (pc6 w) os)) (piece_app (segRun_of (congrFun (pc7 w) os)) (piece_app (segRun_of (congrFun (pc8 w) os)) (piece_app (segRun_of (congrFun (pc9 w) os)) (piece_app (segRun_of (congrFun (Zww w) os)) (piece_app (segRun_of (congrFun (Zwx w) os)) (piece_app (segRun_of (congrFun (Zwy w) os)) (piece_app (segRun_of (congrFun (Zwz w) os)) (piece_app (segRun_of (congrFun (Zw0 w) os)) (piece_app (segRun_of (congrFun (Zw1 w) os)) (piece_nil (congrFun (fin w) os)))))))))))))))));rw[<-Zw2]at k;exact go_top (congrFun (pre w) os) (piece_block (congrFun (blk w) os) k)
theorem sz:∀ w:World,((boot_heap w.params).isNs mainGlobals&&(Array.mk []:Array GenState).size == 0,(boot_heap w.params).objs.size,(boot_heap w.params).nsMap mainGlobals "__annotations__")=(true,11,ann):=fun w=>by kernel_rfl
noncomputable def live (x:Obj):Bool:=match x.data with
 | .freed=>false
 | _=>true
theorem zip_get {l:List Obj}:∀ {n a:Nat} {x:Obj},((List.range' n l.length).zip l).lookup a=some x->n<=a/\l[a - n]? = some x:=by
 induction l with
 | nil=>intro n a x h;cases h
 | cons y l ih =>
  intro n a x h;rw[List.length_cons,List.range'_succ,List.zip_cons_cons,List.lookup_cons]at h;by_cases e:a=n
  .subst e;simp only[beq_self_eq_true]at h;exact ⟨Nat.le_refl _,by rw[Nat.sub_self];exact h⟩
  .rw[beq_eq_false_iff_ne.mpr e]at h;obtain ⟨h1,h2⟩:=ih h;refine ⟨by omega,?_⟩;rw[show a - n=(a - (n+1))+1 by omega,List.getElem?_cons_succ];exact h2
theorem Zmj (P:Params):(flat P).length=774:=by kernel_rfl
theorem Zjv (P:Params):(flat P).all live=true:=by kernel_rfl
theorem Zul (P:Params):(KH P).In (H1 P):=by intro a x h;unfold KH at h;rw[List.range_eq_range',<-Zmj P]at h;have h2:=(zip_get h).2;rw[Nat.sub_zero]at h2;have h3:=List.all_eq_true.mp (Zjv P) x (List.mem_of_getElem? h2);unfold Heap.get? H1;rw[List.getElem?_toArray,h2];obtain ⟨c,d,dt,sl⟩:=x;cases dt <;> first | rfl | exact absurd h3 Bool.false_ne_true
noncomputable def HK:Hook:=⟨Heap,fun x=>x.heap,fun w=>H1 w.params,fun w h=>(KH w.params).In h,fun w x h=>by rw[h];exact Zul _,fun _ _ _ h k=>h.keeps k⟩
noncomputable abbrev XT (x:Shared):Bool:=xlAt QV [] x&&recOk [] x
theorem Zum:∀ w:World,(fun os=>(staticsOk (importedModules PG.main.body) (boot_heap w.params) (H1 w.params)&&namesBound PG (H1 w.params)&&gensDone (sF w.params os)&&laidKept (boot_heap w.params) (H1 w.params)))=fun _:OsState=>true:=fun w=>by kernel_rfl
theorem Zun:∀ w:World,(fun os=>openSeen QV LS (importedModules PG.main.body) XT true (sF w.params os))=fun _:OsState=>openGood QV LS:=fun w=>by kernel_rfl
theorem left:LeftO PG QV LS XT (Hook.obs HK) (Hook.val HK) 9288:=LeftO.of_pieces (H₁:=H1) (boot_open (by rfl) (by rfl) fun _=>rfl) sz run (by rfl) fun w=>funext fun os=>by
 rw[Prod.mk.injEq,Prod.mk.injEq];exact ⟨congrFun (Zum w) os,congrFun (Zun w) os,rfl⟩
end Hd
end
noncomputable section
namespace Hd
open PySem PySem.W PySem.Calls PyProof.Rows L2 B2
theorem Zaz {K:FG} {h:Heap} {N:Addr} {mg:Str->Option Value} {n:Str} {v:Value} (X:K.In h) (G:h.Ns N mg) (e:nsIn K N n=some (some v)):mg n=some v:=by
 obtain ⟨o,es,ep,ho,hd,_,hf⟩:=G;unfold nsIn at e;split at e
 .rename_i c d es' n' sl q
  have:=X _ _ q
  rw[ho]at this;cases this;cases hd;split at e
  .rename_i y he;cases e;rw[<-hf];unfold nsFind findBy;rw[<-Array.find?_toList,he];rfl
  .split at e <;> cases e
 .cases e
theorem nK {K:FG} {h:Heap} {N:Addr} {mg:Str->Option Value} {n:Str} {v:Value} (X:K.In h/\h.Ns N mg) (e:nsIn K N n=some (some v):=by kernel_rfl):mg n=some v:=Zaz X.1 X.2 e
theorem nN {K:FG} {h:Heap} {N:Addr} {mg:Str->Option Value} {n:Str} (X:K.In h/\h.Ns N mg) (e:nsIn K N n=some none:=by kernel_rfl):mg n=none:=ns_none_of X.1 X.2 e
noncomputable abbrev fdOf (x ql:Str) (st:Stmt) (md:String) (t c:Nat):FuncData:=PySem.W.fnOf x ql (Zft st) (Qkl st) (Qi st) .none .none .none (s md t) none (.ref c) .none
theorem mkFun {K:FG} (x ql:Str) (st:Stmt) (f c t:Nat) (md:String)
  (e2:K.lookup f=some ⟨.type "function",none,.func (fdOf x ql st md t c),#[]⟩) (e3:codeIn K (.ref c) ql=true):Fun K x ql st f (fdOf x ql st md t c):=
 ⟨⟨_,_,_,_,_,_,_,_,_,rfl,e2,e3⟩,by simp only[keepIn,e2]⟩
theorem Dd {P:Params} {mg:Str->Option Value} {h:Heap} {x:Str} {st:Stmt} {ps:List Str} (X:(KH P).In h/\h.Ns mainGlobals mg) (f t:Nat) (md:String) (b:Binds (KH P) (fdOf x x st md t f) ps [])
  (e:(nsIn (KH P) mainGlobals x,(KH P).lookup (f+1),codeIn (KH P) (.ref f) x)=(some (some (.ref (f+1))),some ⟨.type "function",none,.func (fdOf x x st md t f),#[]⟩,true):=by kernel_rfl):Df (KH P) mg x st ps:=by
 simp only[Prod.mk.injEq]at e;exact ⟨f+1,_,Zaz X.1 X.2 e.1,mkFun x x st (f+1) f t md e.2.1 e.2.2,b⟩
theorem bd0 {K:FG} {fd:FuncData} {ps:List Str} (h:(bindArgs fd ⟨[],[]⟩)=pure (ps.zip []):=by kernel_rfl) (e:ps.length=0:=by rfl):Binds K fd ps []:=Binds.all fun us hl=>by
 rw[e]at hl
 match us,hl with
 | [],_=>exact h
theorem bd1 {K:FG} {fd:FuncData} {ps:List Str} (h:(fun a0:Value=>bindArgs fd ⟨[a0],[]⟩)=fun a0=>pure (ps.zip [a0]):=by kernel_rfl) (e:ps.length=1:=by rfl):Binds K fd ps []:=Binds.all fun us hl=>by
 rw[e]at hl
 match us,hl with
 | [a0],_=>exact congrFun h a0
theorem bd2 {K:FG} {fd:FuncData} {ps:List Str} (h:(fun a0 a1:Value=>bindArgs fd ⟨[a0,a1],[]⟩)=fun a0 a1=>pure (ps.zip [a0,a1]):=by kernel_rfl) (e:ps.length=2:=by rfl):Binds K fd ps []:=Binds.all fun us hl=>by
 rw[e]at hl
 match us,hl with
 | [a0,a1],_=>exact congrFun (congrFun h a0) a1
theorem bd3 {K:FG} {fd:FuncData} {ps:List Str} (h:(fun a0 a1 a2:Value=>bindArgs fd ⟨[a0,a1,a2],[]⟩)=fun a0 a1 a2=>pure (ps.zip [a0,a1,a2]):=by kernel_rfl) (e:ps.length=3:=by rfl):Binds K fd ps []:=Binds.all fun us hl=>by
 rw[e]at hl
 match us,hl with
 | [a0,a1,a2],_=>exact congrFun (congrFun (congrFun h a0) a1) a2
theorem bd4 {K:FG} {fd:FuncData} {ps:List Str} (h:(fun a0 a1 a2 a3:Value=>bindArgs fd ⟨[a0,a1,a2,a3],[]⟩)=fun a0 a1 a2 a3=>pure (ps.zip [a0,a1,a2,a3]):=by kernel_rfl) (e:ps.length=4:=by rfl):Binds K fd ps []:=Binds.all fun us hl=>by
 rw[e]at hl
 match us,hl with
 | [a0,a1,a2,a3],_=>exact congrFun (congrFun (congrFun (congrFun h a0) a1) a2) a3
theorem bd6 {K:FG} {fd:FuncData} {ps:List Str} (h:(fun a0 a1 a2 a3 a4 a5:Value=>bindArgs fd ⟨[a0,a1,a2,a3,a4,a5],[]⟩)=fun a0 a1 a2 a3 a4 a5=>pure (ps.zip [a0,a1,a2,a3,a4,a5]):=by kernel_rfl) (e:ps.length=6:=by rfl):Binds K fd ps []:=Binds.all fun us hl=>by
 rw[e]at hl
 match us,hl with
 | [a0,a1,a2,a3,a4,a5],_=>exact congrFun (congrFun (congrFun (congrFun (congrFun (congrFun h a0) a1) a2) a3) a4) a5
theorem aN {α:Type _} {p:α->Prop}:∀ x ∈ ([]:List α),p x:=fun _ z=>absurd z List.not_mem_nil
theorem aC {α:Type _} {p:α->Prop} {a:α} {l:List α} (x:p a) (y:∀ x ∈ l,p x):∀ x ∈ a::l,p x:=List.forall_mem_cons.mpr ⟨x,y⟩
theorem Zy {K:FG} {a:Addr} {xs:List V} (its:List Value) (e:K.lookup a=some (T its):=by kernel_rfl) (hs:its.length<=sizeLine:=by decide) (v:Vals xs its:=by repeat (first | exact .nil | refine .cons ⟨_,rfl⟩ ?_ | refine .cons rfl ?_)):Qq4 K a xs:=fun H=>.inr ⟨_,_,_,e,rfl,rfl,hs,v⟩
theorem Qfq {K:FG} {a:Addr} (l:List (Addr × List V)) (h0:Qq4 K a ((l.map (·.1)).map V.ref)) (h:∀ x ∈ l,Qq4 K x.1 x.2):Qim K a (l.map (·.2)):=
 ⟨l.map (·.1),h0,by rw[List.length_map,List.length_map],fun i c r h1 h2=>by
  rw[List.getElem?_map]at h1 h2;cases e:l[i]? with
  | none=>rw[e]at h1;cases h1
  | some x=>rw[e]at h1 h2;cases h1;cases h2;exact h x (List.mem_of_getElem? e)⟩
theorem Zjw {K:FG} {a:Addr} (l:List (Addr × List (List V))) (h0:Qq4 K a ((l.map (·.1)).map V.ref)) (h:∀ x ∈ l,Qim K x.1 x.2):Zbo K a (l.map (·.2)):=
 ⟨l.map (·.1),h0,by rw[List.length_map,List.length_map],fun i c r h1 h2=>by
  rw[List.getElem?_map]at h1 h2;cases e:l[i]? with
  | none=>rw[e]at h1;cases h1
  | some x=>rw[e]at h1 h2;cases h1;cases h2;exact h x (List.mem_of_getElem? e)⟩
section
variable {P:Params} {mg:Str->Option Value} {h:Heap}
theorem Zjx (X:(KH P).In h/\h.Ns mainGlobals mg):DfI (KH P) mg "Machine" "Machine.__init__" 31 Qao Jj:=⟨28,fdOf "__init__" "Machine.__init__" Qao "twoprojectors.machine" 187 27,nK X,⟨by kernel_rfl,by kernel_rfl,by kernel_rfl,by kernel_rfl⟩,mkFun _ _ _ _ _ _ _ (by kernel_rfl) (by kernel_rfl),bd1⟩
theorem Zst (X:(KH P).In h/\h.Ns mainGlobals mg):DfI (KH P) mg "Reel" "Reel.__init__" 223 Qdb Qbq:=⟨220,fdOf "__init__" "Reel.__init__" Qdb "twoprojectors.sheet" 464 219,nK X,⟨by kernel_rfl,by kernel_rfl,by kernel_rfl,by kernel_rfl⟩,mkFun _ _ _ _ _ _ _ (by kernel_rfl) (by kernel_rfl),bd6⟩
theorem Zqb (X:(KH P).In h/\h.Ns mainGlobals mg):DfI (KH P) mg "Sheet" "Sheet.__init__" 244 Qb5 Qax:=⟨241,fdOf "__init__" "Sheet.__init__" Qb5 "twoprojectors.sheet" 464 240,nK X,⟨by kernel_rfl,by kernel_rfl,by kernel_rfl,by kernel_rfl⟩,mkFun _ _ _ _ _ _ _ (by kernel_rfl) (by kernel_rfl),bd1⟩
theorem Zqc (X:(KH P).In h/\h.Ns mainGlobals mg):DfI (KH P) mg "House" "House.__init__" 136 Qb8 Qa0:=⟨126,fdOf "__init__" "House.__init__" Qb8 "twoprojectors.house" 328 125,nK X,⟨by kernel_rfl,by kernel_rfl,by kernel_rfl,by kernel_rfl⟩,mkFun _ _ _ _ _ _ _ (by kernel_rfl) (by kernel_rfl),bd1⟩
theorem Zqd:DfM (KH P) "begin" "House.begin" 136 Qa9 Jc:=⟨133,fdOf "begin" "House.begin" Qa9 "twoprojectors.house" 328 132,⟨by kernel_rfl,by kernel_rfl,by kernel_rfl⟩,mkFun _ _ _ _ _ _ _ (by kernel_rfl) (by kernel_rfl),bd2⟩
theorem cF {P:Params} {C:Addr} {l:List Str} (c:Cls (KH P) C:=by exact ⟨by kernel_rfl,by kernel_rfl,by kernel_rfl,by kernel_rfl⟩) (h:∀ x ∈ l,Qb0 (KH P) C x:=by repeat (first | exact aN | refine aC (by (show PySem.W.findIn _ _ _=some none);kernel_rfl) ?_)):Zk9 (KH P) C l:=⟨c,h⟩
theorem Zjy:Zk9 (KH P) 31 mN:=cF
theorem Zsu:Zk9 (KH P) 223 rN:=cF
theorem Zqe:Zk9 (KH P) 244 sN:=cF
theorem Zqf:Zk9 (KH P) 136 hN:=cF
theorem T_F:Qim (KH P) 189 (Ye.map fun f=>f.map V.str):=
 Qfq [(183,[V.str "up",V.str "N"]),(184,[V.str "strike",V.str "N"]),(185,[V.str "down",V.str "N"]),(186,[V.str "leader",V.str "N"]),(187,[V.str "reel",V.str "N",V.str "frames",V.str "N",V.str "motor",V.str "N",V.str "change",V.str "N"]),(188,[V.str "reel",V.str "N",V.str "frames",V.str "N",V.str "end"])] (Zy [r 183,r 184,r 185,r 186,r 187,r 188]) (aC (Zy [s "up" 492,s "N" 493]) (aC (Zy [s "strike" 494,s "N" 495]) (aC (Zy [s "down" 496,s "N" 497]) (aC (Zy [s "leader" 498,s "N" 499]) (aC (Zy [s "reel" 500,s "N" 501,s "frames" 502,s "N" 503,s "motor" 504,s "N" 505,s "change" 506,s "N" 507]) (aC (Zy [s "reel" 508,s "N" 509,s "frames" 510,s "N" 511,s "end" 512]) aN))))))
theorem Zsv:Qim (KH P) 191 [[V.int (2),V.int (48)]]:=
 Qfq [(190,[V.int (2),V.int (48)])] (Zy [r 190]) (aC (Zy [z (2) 514,z (48) 515]) aN)
theorem Zsw:Qim (KH P) 193 [[V.int (0),V.int (48)]]:=
 Qfq [(192,[V.int (0),V.int (48)])] (Zy [r 192]) (aC (Zy [z (0) 516,z (48) 517]) aN)
theorem Zsx:Qim (KH P) 195 [[V.int (0),V.int (48)]]:=
 Qfq [(194,[V.int (0),V.int (48)])] (Zy [r 194]) (aC (Zy [z (0) 518,z (48) 519]) aN)
theorem Zsy:Qim (KH P) 197 [[V.int (1),V.int (96)]]:=
 Qfq [(196,[V.int (1),V.int (96)])] (Zy [r 196]) (aC (Zy [z (1) 520,z (96) 521]) aN)
theorem Zsz:Qim (KH P) 202 [[V.int (1),V.int (99)],[V.int (1),V.int (2000)],[V.int (0),V.int (2000)],[V.int (0),V.int (2000)]]:=
 Qfq [(198,[V.int (1),V.int (99)]),(199,[V.int (1),V.int (2000)]),(200,[V.int (0),V.int (2000)]),(201,[V.int (0),V.int (2000)])] (Zy [r 198,r 199,r 200,r 201]) (aC (Zy [z (1) 522,z (99) 523]) (aC (Zy [z (1) 524,z (2000) 525]) (aC (Zy [z (0) 526,z (2000) 527]) (aC (Zy [z (0) 528,z (2000) 529]) aN))))
theorem Zs0:Qim (KH P) 205 [[V.int (1),V.int (99)],[V.int (1),V.int (2000)]]:=
 Qfq [(203,[V.int (1),V.int (99)]),(204,[V.int (1),V.int (2000)])] (Zy [r 203,r 204]) (aC (Zy [z (1) 530,z (99) 531]) (aC (Zy [z (1) 532,z (2000) 533]) aN))
theorem T_R:Zbo (KH P) 206 (Yr.map Qln):=
 Zjw [(191,[[V.int (2),V.int (48)]]),(193,[[V.int (0),V.int (48)]]),(195,[[V.int (0),V.int (48)]]),(197,[[V.int (1),V.int (96)]]),(202,[[V.int (1),V.int (99)],[V.int (1),V.int (2000)],[V.int (0),V.int (2000)],[V.int (0),V.int (2000)]]),(205,[[V.int (1),V.int (99)],[V.int (1),V.int (2000)]])] (Zy [r 191,r 193,r 195,r 197,r 202,r 205]) (aC Zsv (aC Zsw (aC Zsx (aC Zsy (aC Zsz (aC Zs0 aN))))))
theorem T_Z:Qq4 (KH P) 759 szV:=Zy [z (0) 1300,z (0) 1301,z (3) 1302,z (1) 1303,z (2) 1304,z (0) 1305,z (1) 1306,z (1) 1307,z (1) 1308,z (1) 1309,z (1) 1310,z (0) 1311,z (2) 1312,z (1) 1313,z (0) 1314,z (0) 1315,z (0) 1316,z (0) 1317,z (0) 1318,z (0) 1319,z (0) 1320,z (1) 1321,z (1) 1322,z (0) 1323]
noncomputable abbrev fsA:List Addr:=[536,543,557,564,571,578,585,592,599,606,613,620,627]
noncomputable abbrev fsT:List Addr:=[682,689,696,703,710,717,724,731,738,745,750]
theorem T_A:Qq4 (KH P) 628 (fsA.map V.ref):=Zy [r 536,r 543,r 557,r 564,r 571,r 578,r 585,r 592,r 599,r 606,r 613,r 620,r 627]
theorem T_T:Qq4 (KH P) 751 (fsT.map V.ref):=Zy [r 682,r 689,r 696,r 703,r 710,r 717,r 724,r 731,r 738,r 745,r 750]
theorem X_T (X:(KH P).In h/\h.Ns mainGlobals mg):Txt (KH P) mg 31 223 244 136:={
 cM:=Zjy,
 cR:=Zsu,
 cS:=Zqe,
 cH:=Zqf,
 Qai:=⟨190,nK X⟩,
 Qex:=⟨192,nK X⟩,
 Qm7:=⟨194,nK X⟩,
 Qcv:=⟨196,nK X⟩,
 Qh5:=⟨198,nK X⟩,
 Qf8:=⟨330,nK X⟩,
 Qm8:=⟨332,nK X⟩,
 Zbe:=⟨334,nK X⟩,
 Que:=⟨336,nK X⟩,
 Zgu:=⟨338,nK X⟩,
 Qjd:=⟨340,nK X⟩,
 Qje:=⟨342,nK X⟩,
 Qjf:=⟨344,nK X⟩,
 Qjg:=⟨346,nK X⟩,
 Qqu:=⟨348,nK X⟩,
 Qjh:=⟨350,nK X⟩,
 Zd:=⟨444,nK X⟩,
 Qqv:=⟨447,nK X⟩,
 Qm9:=⟨450,nK X⟩,
 Qd4:=⟨453,nK X⟩,
 Qft:=⟨456,nK X⟩,
 Qaj:=⟨459,nK X⟩,
 Quf:=⟨462,nK X⟩,
 Qqw:=⟨466,nK X⟩,
 Zgv:=⟨468,nK X⟩,
 Qji:=⟨470,nK X⟩,
 Qug:=⟨472,nK X⟩,
 Qjj:=⟨474,nK X⟩,
 Qlf:=⟨476,nK X⟩,
 Qlg:=⟨478,nK X⟩,
 Qna:=⟨480,nK X⟩,
 Quh:=⟨482,nK X⟩,
 Qlh:=⟨484,nK X⟩,
 Qd5:=⟨486,nK X⟩,
 Qqx:=⟨488,nK X⟩,
 Qkn:=⟨490,nK X⟩,
 Qhf:=⟨535,nK X⟩,
 Qfu:=⟨537,nK X⟩,
 Qjk:=⟨832,nK X⟩,
 Qjl:=⟨834,nK X⟩,
 Qhq:=⟨836,nK X⟩,
 Qui:=⟨838,nK X⟩,
 Qli:=⟨958,nK X⟩,
 Zbf:=⟨960,nK X⟩,
 Qlj:=⟨962,nK X⟩,
 Qlk:=⟨964,nK X⟩,
 Qh6:=⟨966,nK X⟩,
 Zgw:=⟨1127,nK X⟩,
 Qyg:=⟨1129,nK X⟩,
 Qc3:=⟨1182,nK X⟩,
 Qyh:=⟨1298,nK X⟩,
 Qey:=nN X,
 Qdp:=nN X,
 Zmv:=nN X,
 Zla:=nN X,
 Zrm:=nN X,
 Zrn:=nN X,
 Zgx:=nN X,
 Qr3:=nN X,
 Zty:=nN X,
 Zlb:=nN X }
theorem facts (X:(KH P).In h/\h.Ns mainGlobals mg):Facts (KH P) mg 31 223 244 136 189 206 759 628 751 fsA fsT:={
 T:=X_T X,
 Qms:=nN X,
 Zce:=Dd X 41 187 m0 bd1,
 Qw9:=Dd X 48 187 m0 bd1,
 Qlq:=Dd X 55 187 m0 bd1,
 Zcf:=Dd X 62 187 m0 bd2,
 Qou:=Dd X 69 187 m0 bd1,
 Qre:=Dd X 76 187 m0 bd3,
 Zjn:=Dd X 83 187 m0 bd2,
 Zjo:=Dd X 90 187 m0 bd2,
 Qov:=Dd X 97 187 m0 bd2,
 Qow:=Dd X 104 187 m0 bd2,
 Qox:=Dd X 111 187 m0 bd2,
 Qlr:=Dd X 146 328 m1 bd1,
 Qrf:=Dd X 153 328 m1 bd1,
 Qfx:=Dd X 160 328 m1 bd1,
 Qg9:=Dd X 167 328 m1 bd1,
 Qoy:=Dd X 174 328 m1 bd3,
 Znj:=Dd X 181 328 m1 bd2,
 Qls:=Dd X 254 464 m2 bd1,
 Qlt:=Dd X 261 464 m2 bd1,
 Qj8:=Dd X 268 464 m2 bd2,
 Qxa:=Dd X 275 464 m2 bd2,
 Qxb:=Dd X 282 464 m2 bd2,
 Qxc:=Dd X 289 464 m2 bd1,
 Qrg:=Dd X 294 464 m2 bd1,
 Qrh:=Dd X 301 464 m2 bd2,
 Qri:=Dd X 306 464 m2 bd1,
 Qoz:=Dd X 313 464 m2 bd1,
 Znk:=Dd X 320 464 m2 bd2,
 Qxd:=Dd X 327 464 m2 bd1,
 Qlu:=Dd X 332 464 m2 bd2,
 Qo0:=Dd X 339 464 m2 bd2,
 Qrj:=Dd X 346 464 m2 bd1,
 Qo1:=Dd X 353 464 m2 bd2,
 Qhs:=Dd X 360 464 m2 bd3,
 Qxe:=Dd X 367 464 m2 bd2,
 Qrk:=Dd X 374 464 m2 bd2,
 Qht:=Dd X 381 464 m2 bd2,
 Qo2:=Dd X 388 464 m2 bd2,
 Qo3:=Dd X 395 464 m2 bd2,
 Qlv:=Dd X 402 464 m2 bd2,
 Qxf:=Dd X 409 464 m2 bd1,
 Qlw:=Dd X 416 464 m2 bd1,
 Qj9:=Dd X 423 464 m2 bd1,
 Qha:=Dd X 430 830 m3 bd1,
 Qka:=Dd X 437 830 m3 bd2,
 Qet:=Dd X 444 830 m3 bd1,
 Qrl:=Dd X 451 830 m3 bd1,
 Qkb:=Dd X 458 830 m3 bd1,
 Qkc:=Dd X 465 830 m3 bd1,
 Qkd:=Dd X 472 830 m3 bd1,
 Qlx:=Dd X 479 830 m3 bd1,
 Qly:=Dd X 486 830 m3 bd1,
 Qo4:=Dd X 493 909 m4 bd1,
 Qxg:=Dd X 500 909 m4 bd4,
 Qhu:=Dd X 507 909 m4 bd3,
 Qhb:=Dd X 514 909 m4 bd1,
 Qlz:=Dd X 521 909 m4 bd1,
 Qhv:=Dd X 528 956 m5 bd2,
 Ql0:=Dd X 535 956 m5 bd2,
 Ql1:=Dd X 542 956 m5 bd2,
 Qhw:=Dd X 549 956 m5 bd3,
 Qke:=Dd X 556 956 m5 bd2,
 Qhc:=Dd X 563 956 m5 bd2,
 Qxh:=Dd X 570 956 m5 bd2,
 Qo5:=Dd X 577 956 m5 bd2,
 Qo6:=Dd X 584 956 m5 bd2,
 Ql2:=Dd X 591 956 m5 bd2,
 Qo7:=Dd X 598 956 m5 bd2,
 Qhx:=Dd X 605 956 m5 bd2,
 Qo8:=Dd X 612 956 m5 bd2,
 Ql3:=Dd X 619 956 m5 bd2,
 Qo9:=Dd X 626 956 m5 bd2,
 Qhd:=Dd X 634 956 m5 bd3,
 Ql4:=Dd X 641 1125 m6 bd2,
 Qpa:=Dd X 648 1125 m6 bd3,
 Qrm:=Dd X 655 1125 m6 bd4,
 Qhy:=Dd X 662 1125 m6 bd2,
 Zcg:=Dd X 669 1180 m7 bd1,
 Qxi:=Dd X 676 1180 m7 bd1,
 Qhz:=Dd X 681 1180 m7 bd2,
 Ql5:=Dd X 688 1180 m7 bd2,
 Qkf:=Dd X 695 1180 m7 bd2,
 Qkg:=Dd X 702 1180 m7 bd2,
 Qrn:=Dd X 709 1180 m7 bd2,
 Qpb:=Dd X 716 1180 m7 bd2,
 Ql6:=Dd X 723 1180 m7 bd2,
 Qpc:=Dd X 730 1180 m7 bd2,
 Qpd:=Dd X 737 1180 m7 bd2,
 Qpe:=Dd X 744 1180 m7 bd2,
 Qpf:=Dd X 749 1180 m7 bd2,
 Qfy:=Dd X 757 1180 m7 bd3,
 Qkh:=Dd X 765 1296 m8 bd3,
 Zjp:=Dd X 772 1296 m8 bd1,
 Qxj:=Zjx X,
 Znl:=Zst X,
 Zjq:=Zqb X,
 Zjr:=Zqc X,
 Zjs:=Zqd,
 gF:=nK X,
 gR:=nK X,
 gZ:=nK X,
 gA:=nK X,
 gT:=nK X,
 tF:=T_F,
 tR:=T_R,
 tZ:=T_Z,
 tA:=T_A,
 tT:=T_T,
 nA:=rfl,
 nT:=rfl,
 a_0:=fun f z=>by cases z;exact nK X,
 a_1:=fun f z=>by cases z;exact nK X,
 a_2:=fun f z=>by cases z;exact nK X,
 a_3:=fun f z=>by cases z;exact nK X,
 a_4:=fun f z=>by cases z;exact nK X,
 a_5:=fun f z=>by cases z;exact nK X,
 a_6:=fun f z=>by cases z;exact nK X,
 a_7:=fun f z=>by cases z;exact nK X,
 a_8:=fun f z=>by cases z;exact nK X,
 a_9:=fun f z=>by cases z;exact nK X,
 Zvc:=fun f z=>by cases z;exact nK X,
 Zvd:=fun f z=>by cases z;exact nK X,
 Zve:=fun f z=>by cases z;exact nK X,
 t_0:=fun f z=>by cases z;exact nK X,
 t_1:=fun f z=>by cases z;exact nK X,
 t_2:=fun f z=>by cases z;exact nK X,
 t_3:=fun f z=>by cases z;exact nK X,
 t_4:=fun f z=>by cases z;exact nK X,
 t_5:=fun f z=>by cases z;exact nK X,
 t_6:=fun f z=>by cases z;exact nK X,
 t_7:=fun f z=>by cases z;exact nK X,
 t_8:=fun f z=>by cases z;exact nK X,
 t_9:=fun f z=>by cases z;exact nK X,
 Zvf:=fun f z=>by cases z;exact nK X }
theorem Zjz:Fun (KH P) "answers" "answers" Qdl 773 (fdOf "answers" "answers" Qdl "twoprojectors.booth" 1296 772):=mkFun _ _ _ _ _ _ _ (by kernel_rfl) (by kernel_rfl)
end
end Hd
end
noncomputable section
namespace Hd
open PySem PySem.W PySem.Calls PyProof.Rows L2 B2
noncomputable abbrev RW:OpenSpec:=PySem.Challenge.rw_twoprojectors_s01_answers
theorem hsp (K:FG) (H:Hp) (xs:List V) (a:Codec.denoteAll RW.args) (hO:Zcp H) (hw:Codec.withinAll RW.args a=true)
  (hq:Codec.app RW.args RW.asked a=true) (hd:Qjb K H xs (Codec.encAll RW.args a)) :
  Qj7 K xs H (fun v H'=>Dw K H' v (RW.ret.enc (Codec.app RW.args RW.f a))) fun _ _ _=>False:=by
 obtain ⟨l0,u⟩:=a;obtain ⟨l,hl⟩:∃ l:List Int,l=l0:=⟨l0,rfl⟩
 subst hl;have hd':Qjb K H xs [WData.list (l.map WData.int)]:=hd;have h1:(PySem.W.Codec.inList 0 16000 (PySem.W.Codec.inInt (Int.negSucc 999999999999999999) (Int.ofNat 1000000000000000000)) l&&true)=true:=hw;have h2:(PySem.W.Codec.inLen 0 16000 l&&l.all (PySem.W.Codec.inInt (Int.negSucc 999999999999999999) (Int.ofNat 1000000000000000000)))=true:=(Bool.and_eq_true_iff.mp h1).1;have h3:(decide (0<=l.length)&&decide (l.length<=16000))=true:=(Bool.and_eq_true_iff.mp h2).1;have h4:l.length<=16000:=of_decide_eq_true (Bool.and_eq_true_iff.mp h3).2;have h5:PyVbfaal.answers_asked l=true:=hq;cases hd' with
 | cons x y =>
  cases y;cases x with
  | lst hs hds =>have e:=Zfy l _ hds;subst e;refine ⟨_,l,rfl,hs,h4,h5,fun H' p e=>?_⟩;show Dw K H' (.ref p) (WData.list ((PyVbfaal.answers l).map WData.int));exact .lst (.inl (.inl e)) (Zfx _)
noncomputable abbrev FA:Addr:=773
theorem Qxq (x:Shared) (us:List Value) (hl:us.length=Qdm.length):BindsTo x (fdOf "answers" "answers" Qdl "twoprojectors.booth" 1296 772) ⟨us,[]⟩ (Qdm.zip us):=by
 have hl':us.length=1:=hl
 match us,hl' with
 | [a0],_=>exact .of_eq (by kernel_rfl)
noncomputable def dR:DefRec:=match defOf QV RW.name with
 | some (d,_)=>d
 | none=>⟨"",default,[],default,default⟩
theorem Zqg:dR.name = "answers":=by kernel_rfl
theorem Zuo:defOf QV RW.name=some (dR,[]):=by kernel_rfl
theorem Zs1:RW.prog.theDef RW.name=some (dR.params,dR.body,dR.scope):=by kernel_rfl
theorem Zup:kwWritten? dR.params.kwonlyargs dR.params.kw_defaults=some []:=by kernel_rfl
theorem Zuq:dR.params.defaults=[]:=by kernel_rfl
theorem walk:WalkOS QV LS (XL QV []) (Hook.says HK) RW dR [] (fun f vs=>PySem.call f vs):=by refine L2.Zcq (r:=RW) (k:=11) (CX:=L2.CX0) (K:=KH) (ps:=Qdm) (sp:=Qj7) said Zuq rfl ⟨rfl,by decide,by decide⟩ (fun w h Y=>Y) ?F hsp (fun _ _ _ _ z=>z);intro w mg fa h Y KX G hmg;rw[Zqg]at hmg;have e:mg "answers" = some (.ref _):=Zaz KX G (by kernel_rfl:nsIn (KH w.params) mainGlobals "answers" = some (some (.ref FA)));rw[hmg]at e;cases e;refine ⟨_,fun x us hl=>?_,fun base KB GB=>Zss (facts ⟨KB,GB⟩) Zjz⟩;exact Qxq x us hl
end Hd
theorem PySem.Challenge.cw_twoprojectors_s01_answers_holds : PySem.Challenge.rw_twoprojectors_s01_answers.Holds :=
 
 PySem.W.holds_os (q:=Hd.QV) (loose:=Hd.LS) (Xt:=Hd.XT) (XP:=PySem.W.XL Hd.QV []) (Yf:=PySem.W.Hook.obs Hd.HK) (Ya:=PySem.W.Hook.val Hd.HK) (YP:=PySem.W.Hook.says Hd.HK) (N:=9288) Hd.left (PySem.W.Hook.of Hd.HK) (PySem.W.Hook.keeps Hd.HK)
  (fun x e=>PySem.W.xl_of x (Bool.and_eq_true_iff.mp e).1) PySem.W.XL.keeps Hd.Zuo Hd.Zs1 Hd.Zup (fun x e=>PySem.W.recFacts_of (Bool.and_eq_true_iff.mp e).2) PySem.W.os_shapes Hd.said (by decide +kernel) ⟨rfl,rfl,rfl,rfl,rfl,by decide +kernel⟩
  ⟨[.list [.int 11]],by decide +kernel,by decide +kernel⟩ Hd.walk
end

import PyProof.Rows.All
import Wide.All
import OpenK.AllK
import Wide.FinOn
import Lean
import PyProof.EqAt
import PyProof.EqKinds
import PyProof.TupleCall
import KE.KLam
import KE.KSortKey
import KE.KSortTup
import KE.KNestM
import PyProof.NeKinds
import PySem.Challenge.RW_roadshare_k34_whole_just_one_of_both
open PySem.W (instObj methodObj hideAll hideAll_get of_hideAll lookIn plainGet hasDictIn handedIn plainGet_of isFn plainOver takerIn makesIn emptyDict keepIn kitOne kia_one kitx_list kitx_dict callWith_K methodCall_KW cellsFrom_some fnOf codeIn excIn exmOne kdl_call kdl_dict KeqHits codeHdIn codeHd_of_K nsIn mg_of mg_none_of km_in_of)
abbrev Ya:=@PySem.wpAny_bind
abbrev Yb:=@PySem.wpAny_pure
abbrev Yc:=@List.getElem?_eq_getElem
abbrev Yd:=@Nat.le_refl
abbrev Ye:=@List.length_map
abbrev Yf:=@PySem.Heap.lt_size
abbrev Yg:=@List.getElem?_map
abbrev Yh:=@PySem.Heap.get?_push_of_some
abbrev Yi:=@List.getElem?_eq_some_iff
abbrev Yj:=@Nat.le_trans
abbrev Yk:=@List.mem_map
abbrev Yl:=@List.mem_of_getElem?
abbrev Ym:=@Nat.ne_of_lt
abbrev Yn:=@List.mem_cons
abbrev Yo:=@PySem.Heap.get?_push_size
abbrev Yp:=@List.take_add_one
abbrev Yq:=@PySem.PassesOwn.never
abbrev Yr:=@List.map_cons
abbrev Ys:=@List.map_map
abbrev Yt:=@Nat.le_of_lt
abbrev Yu:=@Nat.lt_of_lt_of_le
abbrev Yv:=@List.take_length
abbrev Yw:=@List.mem_append
abbrev Yx:=@Option.map_eq_some_iff
abbrev Yy:=@List.mem_append_right
abbrev Yz:=@PySem.wpAny_mono
abbrev YA:=@Nat.lt_of_le_of_lt
abbrev YB:=@List.mem_filter
abbrev YC:=@Bool.false_ne_true
abbrev YD:=@Nat.zero_le
abbrev YE:=@List.length_take
abbrev YF:=@List.mem_singleton
abbrev YG:=@List.getElem_mem
abbrev YH:=@List.size_toArray
abbrev YI:=@PySem.sizeLine_eq
abbrev YJ:=@Array.getElem?_toList
abbrev YK:=@Array.length_toList
abbrev YL:=@decide_eq_true
abbrev YM:=@PySem.wpAny_holding
abbrev YN:=@List.getElem?_append_right
abbrev YO:=@Nat.pow_le_pow_right
abbrev YQ:=@List.map_congr_left
abbrev YR:=@List.length_cons
abbrev YS:=@List.getElem?_append_left
abbrev YT:=@Option.some.inj
abbrev YU:=@List.length_filter_le
abbrev YV:=@List.length_append
abbrev YW:=@PySem.wpAny_newObj_type
abbrev YX:=@PySem.wpAny_call_entry
abbrev YY:=@decide_eq_false
abbrev YZ:=@List.map_append
abbrev Y0:=@Int.emod_nonneg
abbrev Y1:=@Nat.lt_irrefl
abbrev Y2:=@PySem.codeAny_mono
abbrev Y3:=@decide_eq_true_eq
abbrev Y4:=@List.nodup_cons
abbrev Y5:=@List.append_nil
abbrev Y6:=@List.getElem?_eq_none
abbrev Y7:=@List.mem_cons_of_mem
abbrev Y8:=@PySem.wpAny_setEntries_of
abbrev Y9:=@Int.emod_lt_of_pos
abbrev Va:=@Nat.lt_succ_of_lt
abbrev Vb:=@PyProof.Rows.callWith_type1
abbrev Vc:=@Array.getElem?_eq_getElem
abbrev Vd:=@PySem.mem_of_lookup
abbrev Ve:=@Rat.num_divInt_den
abbrev Vf:=@List.mem_cons_self
abbrev Vg:=@PySem.wpAny_Call_Name_kw
abbrev Vh:=@List.length_zip
abbrev Vi:=@Nat.pow_add
abbrev Vj:=@PySem.codeAny_builtin
abbrev Vk:=@List.mem_range
abbrev Vl:=@Rat.add_assoc
abbrev Vm:=@Nat.ne_of_gt
abbrev Vn:=@Classical.byContradiction
abbrev Vo:=@PySem.Heap.get?_update_other
abbrev Vp:=@List.take_sublist
abbrev Vq:=@PySem.wpAny_setState_of
abbrev Vr:=@Nat.two_pow_pos
abbrev Vs:=@Int.natCast_pow
abbrev Vt:=@Int.natCast_mul
abbrev Vu:=@Nat.le_of_eq
abbrev Vv:=@Nat.le_succ
abbrev Vw:=@PySem.wpAny_rule
abbrev Vx:=@List.mem_append_left
abbrev Vy:=@List.getElem?_of_mem
abbrev Vz:=@List.getElem_of_mem
abbrev VA:=@PySem.Around.under_plainId
abbrev VB:=@List.pairwise_map
abbrev VC:=@PySem.wpAny_truthy_bool
abbrev VD:=@Bool.and_eq_true
abbrev VE:=@PySem.wpAny_isInstance
abbrev VF:=@Bool.eq_iff_iff
abbrev VG:=@PySem.wpAny_passesOwn
abbrev VH:=@Nat.mul_pos
abbrev VI:=@PySem.wpAny_load
abbrev VJ:=@List.Nodup.length_le_of_subset
abbrev VL:=@Array.getD_eq_getD_getElem?
abbrev VM:=@beq_eq_false_iff_ne
abbrev VN:=@List.filter_append
abbrev VO:=@Int.natAbs_natCast
abbrev VP:=@of_decide_eq_true
abbrev VQ:=@Int.toNat_natCast
abbrev VR:=@Nat.lt_succ_self
abbrev VS:=@List.of_mem_zip
abbrev VT:=@PySem.wpAny_forIn_list
abbrev VU:=@PySem.wpAny_ite_split
abbrev VV:=@Nat.dvd_trans
abbrev VW:=@List.sum_cons
abbrev VX:=@List.any_cons
abbrev VY:=@Int.add_zero
abbrev VZ:=@PySem.wpAny_newList
abbrev V0:=@PySem.plainId_quiet
abbrev V1:=@List.length_eq_zero_iff
abbrev V2:=@List.filter_cons_of_neg
abbrev V3:=@PySem.wpAny_callSpecial?_slot
abbrev V4:=@PySem.Calls.callWith_builtin
abbrev V5:=@Rat.divInt_mul_right
abbrev V6:=@Int.toNat_of_nonneg
abbrev V7:=@List.mem_range'_1
abbrev V8:=@Nat.le_add_right
abbrev V9:=@Nat.not_lt_zero
abbrev Yaa:=@PySem.Heap.size_update
abbrev Yab:=@Nat.mul_le_mul
abbrev Yac:=@PySem.W.KasT.kasWp_bind
abbrev Yad:=@PySem.Heap.size_push
abbrev Yae:=@Rat.add_zero
abbrev Yaf:=@PyProof.Rows.get?_update_seq
abbrev Yag:=@PySem.wpAny_standAt
abbrev Yah:=@PySem.wpAny_attempt
abbrev Yai:=@Int.gcd_pos_of_ne_zero_right
abbrev Yaj:=@Int.fdiv_eq_ediv_of_nonneg
abbrev Yak:=@List.drop_eq_getElem_cons
abbrev Yal:=@List.Nodup.idxOf_getElem
abbrev Yam:=@List.filter_cons_of_pos
abbrev Yan:=@List.getElem?_set_self
abbrev Yao:=@List.take_append_drop
abbrev Yap:=@List.getElem?_set_ne
abbrev Yaq:=@List.getElem?_range
abbrev Yar:=@PySem.Heap.get?_update_self
abbrev Yas:=@of_decide_eq_false
abbrev Yat:=@Nat.dvd_mul_right
abbrev Yau:=@List.nodup_append
abbrev Yav:=@List.ext_getElem?
abbrev Yaw:=@PySem.Heap.SameBut.update
abbrev Yax:=@PySem.wpAny_tupleItemsOf
abbrev Yay:=@Nat.gcd_dvd_left
abbrev Yaz:=@PySem.wpAny_setEpoch_of
abbrev YaA:=@Rat.zero_divInt
abbrev YaB:=@Nat.div_le_self
abbrev YaC:=@PySem.Heap.get?_push_ne
abbrev YaD:=@PySem.F.plain_list_iadd
abbrev YaE:=@List.filterMap_cons
abbrev PySem.VSP:=PySem.Value->PySem.Shared->Prop
set_option Elab.async false
set_option linter.all false
set_option maxRecDepth 100000
namespace L2
open PySem PySem.Spec PyProof.Rows
abbrev ZU:=Sum Int Str
def Zji:ZU->Value->Bool
 | .inl k,v=>Value.isInt k v
 | .inr x,v=>Value.isStrOf x v
def Zt2(w:World):ZU->Int
 | .inl k=>hashInt k
 | .inr x=>hashStr w x
def Zar:∀ {k:ZU}{v:Value},Zji k v=true->(∃ i t,k=Sum.inl i/\v=Value.int i t)\/(∃ x t,k=Sum.inr x/\v=Value.str x t)
 | .inl i,v,h=>by
  obtain⟨t,e⟩:=Value.isInt_shape (k:=i) (v:=v) h
  exact .inl ⟨i,t,rfl,e⟩
 | .inr x,v,h=>by
  obtain⟨t,e⟩:=Value.isStrOf_shape (x:=x) (v:=v) h
  exact .inr ⟨x,t,rfl,e⟩
theorem Zj3(i:Int)(t:Tok):Zji (.inl i) (.int i t)=true:=by simp [Zji,Value.isInt]
theorem ZjV(x:Str)(t:Tok):Zji (.inr x) (.str x t)=true:=by simp [Zji,Value.isStrOf]
def ZqG(a b:Int):decide ((Sum.inl a:ZU)=Sum.inl b)=(a == b):=by
 by_cases e:a=b
 ·subst e; simp
 ·have h:¬ (Sum.inl a:ZU)=Sum.inl b:=λq=>e (Sum.inl.inj q)
  rw [YY h]
  exact (VM.mpr e).symm
def Zrv(a b:Str):decide ((Sum.inr a:ZU)=Sum.inr b)=decide (a=b):=by
 by_cases e:a=b
 ·subst e; simp
 ·have h:¬ (Sum.inr a:ZU)=Sum.inr b:=λq=>e (Sum.inr.inj q)
  rw [YY h,YY e]
def Zrq(a:Int)(b:Str):decide ((Sum.inl a:ZU)=Sum.inr b)=false:=YY (λq=>nomatch q)
def ZrL(a:Str)(b:Int):decide ((Sum.inr a:ZU)=Sum.inl b)=false:=YY (λq=>nomatch q)
def ZY(prog:Program)(w:World):PySem.KeyKind prog w ZU where
 is:=Zji
 hash:=Zt2 w
 inj:=λv a b ha hb=>by
  rcases Zar ha with ⟨i,t,rfl,rfl⟩ | ⟨x,t,rfl,rfl⟩
  ·rcases Zar hb with ⟨j,u,rfl,e⟩ | ⟨y,u,rfl,e⟩
   ·injection e with e1 _; rw [e1]
   ·exact nomatch e
  ·rcases Zar hb with ⟨j,u,rfl,e⟩ | ⟨y,u,rfl,e⟩
   ·exact nomatch e
   ·injection e with e1 _; rw [e1]
 byValue:=λk v h=>by
  rcases Zar h with ⟨i,t,rfl,rfl⟩ | ⟨x,t,rfl,rfl⟩ <;> rfl
 pyHash:=λhv h=>by
  rcases Zar hv with ⟨i,t,rfl,rfl⟩ | ⟨x,t,rfl,rfl⟩
  ·exact wpAny_pyHash_int h
  ·exact wpAny_pyHash_str h
 eqBool:=λhu hv h=>by
  rcases Zar hu with ⟨i,t,rfl,rfl⟩ | ⟨x,t,rfl,rfl⟩
  ·rcases Zar hv with ⟨j,u,rfl,rfl⟩ | ⟨y,u,rfl,rfl⟩
   ·rw [ZqG] at h; exact wpAny_eqBool_int h
   ·rw [Zrq] at h; exact SeqAt.EqAt.int_str i t y u _ _ _ _ h
  ·rcases Zar hv with ⟨j,u,rfl,rfl⟩ | ⟨y,u,rfl,rfl⟩
   ·rw [ZrL] at h; exact SeqAt.EqAt.str_int x t j u _ _ _ _ h
   ·rw [Zrv] at h; exact wpAny_eqBool_str h
 «strs»:=λk x t v h=>by
  rcases Zar h with ⟨i,u,rfl,e⟩ | ⟨y,u,rfl,e⟩
  ·exact nomatch e
  ·injection e with e1 _
   subst e1
   cases v <;> rfl
def Zg4(prog:Program)(w:World)(i:Int)(t:Tok):(ZY prog w).is (.inl i) (.int i t)=true:=Zj3 i t
def Zg6(prog:Program)(w:World)(x:Str)(t:Tok):(ZY prog w).is (.inr x) (.str x t)=true:=ZjV x t
inductive V where
 | non | bl (b:Bool) | int (i:Int) | str (x:Str) | byt (b:Array UInt8) | flt (b:UInt64) | ref (a:Addr) | ty (n:String)
 deriving DecidableEq
def ZF:V->Value->Prop
 | .non,u=>u=Value.none
 | .bl b,u=>u=Value.bool b
 | .int i,u=>∃ t,u=Value.int i t
 | .str x,u=>∃ t,u=Value.str x t
 | .byt b,u=>∃ t,u=Value.bytes b t
 | .flt b,u=>∃ t,u=Value.float b t
 | .ref a,u=>u=Value.ref a
 | .ty n,u=>u=Value.type n
abbrev Zw:List V->List Value->Prop:=Paired ZF
variable {us:List Value}
theorem Zw.length{xs:List V}(r:Zw xs us):xs.length=us.length:=Paired.length r
theorem Zw.get:∀ {xs:List V}{us:List Value}{i:Nat}{x:V},Zw xs us->xs[i]?=some x->∃ u,us[i]?=some u/\ZF x u
 | _,_,_,_,.nil,e=>by simp at e
 | _,_,0,_,.cons r _,e=>by simp at e; subst e; exact⟨_,rfl,r⟩
 | _,_,i + 1,x,.cons _ t,e=>by
  obtain⟨u,h1,h2⟩:=Zw.get (i:=i) (x:=x) t (by simpa using e)
  exact⟨u,by simpa using h1,h2⟩
variable {u:Value}
theorem Zw.set{x:V}(r:ZF x u):∀ {xs:List V}{us:List Value}(i:Nat),Zw xs us->Zw (xs.set i x) (us.set i u)
 | _,_,_,.nil=>.nil
 | _,_,0,.cons _ t=>.cons r t
 | _,_,i + 1,.cons q t=>.cons q (Zw.set r i t)
theorem Zw.append:∀ {xs ys:List V}{us ws:List Value},Zw xs us->Zw ys ws->Zw (xs ++ ys) (us ++ ws)
 | _,_,_,_,.nil,s=>s
 | _,_,_,_,.cons r t,s=>.cons r (Zw.append t s)
theorem Zw.take:∀ {xs:List V}{us:List Value}(n:Nat),Zw xs us->Zw (xs.take n) (us.take n)
 | _,_,0,_=>.nil
 | _,_,_ + 1,.nil=>.nil
 | _,_,n + 1,.cons r t=>.cons r (Zw.take n t)
def Zw.drop:∀ {xs:List V}{us:List Value}(n:Nat),Zw xs us->Zw (xs.drop n) (us.drop n)
 | _,_,0,r=>r
 | _,_,_ + 1,.nil=>.nil
 | _,_,n + 1,.cons _ t=>Zw.drop n t
def Zw.none_of:∀ {xs:List V}{us:List Value}{i:Nat},Zw xs us->xs[i]?=none->us[i]?=none:=λ{xs us i} r e=>by
 have h1:=r.length
 have h2:xs.length<=i:=List.getElem?_eq_none_iff.mp e
 exact List.getElem?_eq_none_iff.mpr (by omega)
def J0:Option V->Option Value->Prop
 | some v,some u=>ZF v u
 | none,none=>True
 | _,_=>False
def KV{κ:Type}:List (κ × V)->List (κ × Value)->Prop:=Paired λ(p:κ × V) (q:κ × Value)=>p.1=q.1/\ZF p.2 q.2
def kV:ZU->V
 | .inl i=>.int i
 | .inr x=>.str x
inductive HO where
 | lst (xs:List V)
 | tup (xs:List V)
 | dK (kvs:List (ZU × V)) | dT (kvs:List (List ZU × V))
 | set (S:Int->Bool) (n:Nat)
 | ins (C dx:Addr) (fs:List (Str × V))
 | own (x:Addr)
 | xd (fs:List (Str × V))
 | met (f x:Addr)
 | rng (lo hi:Int)
 | frz (o:Obj) (u:HO)
 | tbl (ps:Array Value)
 | ext (φ:Heap->Prop)
abbrev Hp:=Addr->Option HO
def upd(H:Hp)(a:Addr)(o:HO):Hp:=λb=>if b=a then some o else H b
variable {H:Hp}
theorem Zf{a:Addr}{o:HO}:upd H a o a=some o:=by unfold upd; rw [if_pos rfl]
theorem Zg{a b:Addr}{o:HO}(h:b ≠ a):upd H a o b=H b:=by unfold upd; rw [if_neg h]
def Zp1{a:Addr}{o u:HO}:upd (upd H a o) a u=upd H a u:=by
 funext b; unfold upd; split <;> rfl
def Jk{a b:Addr}{o u:HO}(h:H a=some o)(h':H b=some u)(d:o ≠ u):a ≠ b:=by
 intro e; subst e; rw [h] at h'; exact d (YT h')
theorem Zn{a b:Addr}{o:HO}(h:H a=some o)(h':H b=none):a ≠ b:=by
 intro e; subst e; rw [h] at h'; cases h'
section
variable (P:Program)(w:World)
def ZW(H:Hp)(h:Heap)(a:Addr):HO->Prop
 | .lst xs=>xs.length<=sizeLine/\∃ (its:List Value) (n:Nat),Zw xs its/\h.get? a=some { cls:=.type "list",data:=.seq its.toArray n }
 | .tup xs=>xs.length<=sizeLine/\∃ its:List Value,Zw xs its/\IsTup h a its.toArray
 | .dK kvs=>kvs.length<=sizeLine/\(a == sysModules)=false/\∃ vs,KV kvs vs/\h.DictOf (ZY P w) a vs
 | .dT kvs=>kvs.length<=sizeLine/\(a == sysModules)=false/\∃ xs:List (List ZU × Addr × Value),
   Paired (λ(p:List ZU × V) (q:List ZU × Addr × Value)=>p.1=q.1/\H q.2.1=some (.tup (p.1.map kV))/\ZF p.2 q.2.2) kvs xs /\
   ∃ o es ep,h.get? a=some o/\o.ExactDict/\o.data=.dict es ep/\es.toList=xs.map (entryOfKey (tupleKind (ZY P w)))/\(xs.map (·.1)).Nodup
 | .set S n=>h.SetOf (intKind P w) a S n
 | .ins C dx fs=>H dx=some (.own a)/\fs.length<=1000/\dx ≠ a/\h.get? a=some (instObj C dx) /\
   ∃ mA,h.Ns1 dx mA/\(∀ f,J0 (fs.lookup f) (mA f))/\PySem.Within mA (fs.map (·.1))
 | .own _=>∃ o,h.get? a=some o
 | .xd fs=>∃ mA,h.Ns1 a mA/\∀ f,J0 (fs.lookup f) (mA f)
 | .rng lo hi=>∃ t u v,h.get? a=some { cls:=.type "range",data:=.fields #[.int lo t,.int hi u,.int 1 v] }
 | .frz o u=>h.get? a=some o/\ZW H h a u
 | .tbl ps=>∃ qs:Array Value,h.get? a=some { cls:=.none,data:=.fields qs }/\TriplesOk qs.toList/\∀ (pos:Pos) (v:Value),codeAmong pos qs.toList=some v ->
   ∃ (c:Addr) (o:Obj) (vs:Array Value) (q:Str) (t t':Tok),v=.ref c/\H c=some (.frz o (.own a))/\o.data=.fields vs/\vs[1]?=some (.str q t)/\ps[0]?=some (.str q t')
 | .met f x=>h.get? a=some (methodObj (.ref f) (.ref x))
 | .ext φ=>φ h/\(∃ o,h.get? a=some o)/\∀ h1 h2:Heap,φ h1->(∀ o,h1.get? a=some o->h2.get? a=some o)->φ h2
def HOk(H:Hp)(h:Heap):Prop:=∀ a o,H a=some o->ZW P w H h a o
end
section
variable {P:Program}{w:World}{H H':Hp}{h h':Heap}{a:Addr}{o:HO}
theorem ZW.lt(x:ZW P w H h a o):a < h.objs.size:=by
 cases o with
 | lst xs=>obtain⟨_,_,_,_,e⟩:=x; exact Yf e
 | tup xs=>obtain⟨_,_,_,p⟩:=x; exact p.lt
 | dK kvs=>obtain⟨_,_,_,_,o,_,_,e,_⟩:=x; exact Yf e
 | dT kvs=>obtain⟨_,_,_,_,o,_,_,e,_⟩:=x; exact Yf e
 | set S n=>obtain⟨o,_,_,_,e,_⟩:=x; exact Yf e
 | ins C dx fs=>obtain⟨_,_,_,e,_⟩:=x; exact Yf e
 | own y=>obtain⟨_,e⟩:=x; exact Yf e
 | xd fs=>obtain⟨_,⟨_,_,_,e,_⟩,_⟩:=x; exact Yf e
 | rng lo hi=>obtain⟨_,_,_,e⟩:=x; exact Yf e
 | frz ob u=>obtain⟨e,_⟩:=x; exact Yf e
 | tbl ps=>obtain⟨_,e,_⟩:=x; exact Yf e
 | met f y=>exact Yf (show h.get? a=some _ from x)
 | ext φ=>obtain⟨_,⟨_,e⟩,_⟩:=x; exact Yf e
def Paired.mapP{α β:Type}{F G:α->β->Prop}:∀ {l₁:List α}{l₂:List β},Paired F l₁ l₂->(∀ a b,F a b->G a b)->Paired G l₁ l₂
 | _,_,.nil,_=>.nil
 | _,_,.cons r t,f=>.cons (f _ _ r) (Paired.mapP t f)
def ZW.stay(x:ZW P w H h a o)(k:∀ b u,(b=a\/H b=some (.own a))->h.get? b=some u->h'.get? b=some u)
  (ho:∀ b,H b=some (.own a)->H' b=some (.own a)) (ht:∀ b xs,H b=some (.tup xs)->H' b=some (.tup xs))
  (hf:∀ b o,H b=some (.frz o (.own a))->H' b=some (.frz o (.own a)):=by exact λ_ _ q=>q):ZW P w H' h' a o:=by
 induction o with
 | lst xs=>obtain⟨z,its,n,r,e⟩:=x; exact⟨z,its,n,r,k _ _ (.inl rfl) e⟩
 | tup xs=>obtain⟨z,its,r,ob,e,c⟩:=x; exact⟨z,its,r,ob,k _ _ (.inl rfl) e,c⟩
 | dK kvs=>obtain⟨z,y,vs,r,ob,es,ep,e,c⟩:=x; exact⟨z,y,vs,r,ob,es,ep,k _ _ (.inl rfl) e,c⟩
 | dT kvs =>
  obtain⟨z,y,xs,r,ob,es,ep,e,c⟩:=x
  exact⟨z,y,xs,Paired.mapP r λp q z=>⟨z.1,ht _ _ z.2.1,z.2.2⟩,ob,es,ep,k _ _ (.inl rfl) e,c⟩
 | set S n=>obtain⟨ob,es,ep,t,e,c⟩:=x; exact⟨ob,es,ep,t,k _ _ (.inl rfl) e,c⟩
 | ins C dx fs =>
  obtain⟨d,z,ne,e,mA,⟨od,es,ep,e2,c⟩,r⟩:=x
  exact⟨ho _ d,z,ne,k _ _ (.inl rfl) e,mA,⟨od,es,ep,k _ _ (.inr d) e2,c⟩,r⟩
 | own y=>obtain⟨ob,e⟩:=x; exact⟨ob,k _ _ (.inl rfl) e⟩
 | xd fs=>obtain⟨mA,⟨od,es,ep,e,c⟩,r⟩:=x; exact⟨mA,⟨od,es,ep,k _ _ (.inl rfl) e,c⟩,r⟩
 | rng lo hi=>obtain⟨t,u,v,e⟩:=x; exact⟨t,u,v,k _ _ (.inl rfl) e⟩
 | frz ob u ih=>obtain⟨e,q⟩:=x; exact⟨k _ _ (.inl rfl) e,ih q⟩
 | tbl ps =>
  obtain⟨qs,e,t,f⟩:=x
  exact⟨qs,k _ _ (.inl rfl) e,t,λpos v z=>by
   obtain⟨c,o,vs,q,t,t',e1,e2,r⟩:=f pos v z
   exact⟨c,o,vs,q,t,t',e1,hf _ _ e2,r⟩⟩
 | met f y =>
  have e:h.get? a=some (methodObj (.ref f) (.ref y)):=x
  show h'.get? a=some (methodObj (.ref f) (.ref y))
  exact k a _ (.inl rfl) e
 | ext φ=>obtain⟨p,⟨o,e⟩,st⟩:=x; exact⟨st _ _ p λo q=>k _ _ (.inl rfl) q,⟨o,k _ _ (.inl rfl) e⟩,st⟩
theorem HOk.lt(x:HOk P w H h)(e:H a=some o):a < h.objs.size:=(x a o e).lt
theorem HOk.fresh(x:HOk P w H h)(e:h.objs.size<=a):H a=none:=by
 cases q:H a with
 | none=>rfl
 | some u=>exact absurd (Yu (x.lt q) e) (Y1 _)
theorem HOk.kept(x:HOk P w H h)(k:∀ b u,h.get? b=some u->h'.get? b=some u):HOk P w H h':=λa o e =>
 (x a o e).stay (λb u _ q=>k b u q) (λ_ q=>q) λ_ _ q=>q
theorem HOk.laid(x:HOk P w H h)(k:∀ b u,h.get? b=some u->h'.get? b=some u)(hp:h.objs.size<=a)(new:ZW P w (upd H a o) h' a o):HOk P w (upd H a o) h':=λb u e=>by
 have hn:=x.fresh hp
 by_cases hb:b=a
 ·subst hb; rw [Zf] at e; cases e; exact new
 ·rw [Zg hb] at e
  exact (x b u e).stay (λc v _ q=>k c v q) (λc q=>by rw [Zg (Zn q hn)]; exact q) (λc xs q=>by rw [Zg (Zn q hn)]; exact q) λc o q=>by rw [Zg (Zn q hn)]; exact q
end
def Rd(H:Hp)(a:Addr)(u:HO):Prop:=H a=some u\/∃ o,H a=some (.frz o u)
theorem Rd.of{a:Addr}{u:HO}(h:H a=some u):Rd H a u:=.inl h
variable {P:Program}{w:World}
theorem Rd.ok{h:Heap}{a:Addr}{u:HO}(r:Rd H a u)(x:HOk P w H h):ZW P w H h a u:=by
 rcases r with r | ⟨o,r⟩
 ·exact x a u r
 ·obtain⟨_,q⟩:=x a _ r
  exact q
def Mut:Option HO->Prop
 | some (.lst _)=>True
 | some (.dK _)=>True
 | some (.dT _)=>True
 | some (.set _ _)=>True
 | some (.ins _ _ _)=>True
 | some (.ext _)=>True
 | _=>False
section
variable {P:Program}{w:World}{H:Hp}{h h':Heap}{x e:Addr}{o':HO}
def HOk.write(ok:HOk P w H h)(mu:Mut (H x))(he:e=x\/H e=some (.own x))(k:∀ b u,b ≠ e->h.get? b=some u->h'.get? b=some u)(heo:∃ u,h'.get? e=some u)
  (new:ZW P w (upd H x o') h' x o'):HOk P w (upd H x o') h':=λb u q=>by
 have nown:∀ c y,H c=some (.own y)->c ≠ x:=λc y r z=>by subst z; rw [r] at mu; exact mu
 have ntup:∀ c xs,H c=some (.tup xs)->c ≠ x:=λc xs r z=>by subst z; rw [r] at mu; exact mu
 by_cases hb:b=x
 ·subst hb; rw [Zf] at q; cases q; exact new
 ·rw [Zg hb] at q
  by_cases hbe:b=e
  ·have q':H b=some (.own x):=by
    rcases he with z | z
    ·exact absurd (hbe.trans z) hb
    ·rw [hbe]; exact z
   rw [q] at q'; cases q'
   obtain⟨v,hv⟩:=heo
   exact⟨v,by rw [hbe]; exact hv⟩
  ·refine (ok b u q).stay (λc v hc r=>k c v ?_ r) (λc r=>by rw [Zg (nown c b r)]; exact r) (λc xs r=>by rw [Zg (ntup c xs r)]; exact r) λc o r=>by rw [Zg λz=>by subst z; rw [r] at mu; exact mu]; exact r
   rcases hc with rfl | hc
   ·exact hbe
   ·rintro rfl
    rcases he with z | z
    ·exact nown c b hc z
    ·rw [hc] at z; cases z; exact hb rfl
end
structure Un(fs ex:List Addr)(H H':Hp)(h h':Heap):Prop where
 keep:∀ b o,h.get? b=some o->H b=none->b ∉ fs->b ∉ ex->h'.get? b=some o
 slot:∀ b o,h.get? b=some o->H b=none->b∈fs->b ∉ ex->∃ sl,h'.get? b=some { o with slots:=sl }
 free:∀ b o,h.get? b=some o->H b=none->b ∉ ex->H' b=none
 there:∀ b o,h.get? b=some o->b ∉ ex->∃ o',h'.get? b=some o'
 tups:∀ b xs,H b=some (.tup xs)->H' b=some (.tup xs)
 frzs:∀ b o u,H b=some (.frz o u)->H' b=some (.frz o u)
 tbls:∀ b ps,H b=some (.tbl ps)->∃ more,H' b=some (.tbl (ps ++ more))
section
variable {fs fs' ex ex':List Addr}{H H1 H2:Hp}{h h1 h2 h':Heap}{a x e:Addr}{o:HO}
theorem Un.any(u:Un fs ex H H1 h h1){b:Addr}{ob:Obj}(q:h.get? b=some ob)(n:H b=none)(hx:b ∉ ex):∃ sl,h1.get? b=some { ob with slots:=sl }:=by
 by_cases hb:b∈fs
 ·exact u.slot b ob q n hb hx
 ·exact⟨ob.slots,u.keep b ob q n hb hx⟩
theorem Un.trans(a:Un fs ex H H1 h h1)(b:Un fs ex H1 H2 h1 h2):Un fs ex H H2 h h2 where
 keep:=λc ob q n hc hx=>b.keep c ob (a.keep c ob q n hc hx) (a.free c ob q n hx) hc hx
 slot:=λc ob q n hc hx=>by
  obtain⟨sl,e1⟩:=a.slot c ob q n hc hx
  obtain⟨sl',e2⟩:=b.slot c _ e1 (a.free c ob q n hx) hc hx
  exact⟨sl',e2⟩
 free:=λc ob q n hx=>by
  obtain⟨o',e1⟩:=a.there c ob q hx
  exact b.free c o' e1 (a.free c ob q n hx) hx
 there:=λc ob q hx=>by
  obtain⟨o',e1⟩:=a.there c ob q hx
  exact b.there c o' e1 hx
 tups:=λc xs q=>b.tups c xs (a.tups c xs q)
 frzs:=λc ob xs q=>b.frzs c ob xs (a.frzs c ob xs q)
 tbls:=λc ps q=>by
  obtain⟨m1,e1⟩:=a.tbls c ps q
  obtain⟨m2,e2⟩:=b.tbls c _ e1
  exact⟨m1 ++ m2,by rw [e2,Array.append_assoc]⟩
theorem Un.kept(k:∀ b u,h.get? b=some u->h'.get? b=some u):Un fs ex H H h h' :=
 ⟨λb ob q _ _ _=>k b ob q,λb ob q _ _ _=>⟨ob.slots,k b ob q⟩,λ_ _ _ n _=>n,λb ob q _=>⟨ob,k b ob q⟩,λ_ _ q=>q,λ_ _ _ q=>q,λ_ ps q=>⟨#[],by rw [q]; simp⟩⟩
theorem Un.refl:Un fs ex H H h h:=Un.kept λ_ _ q=>q
theorem Un.laid(k:∀ b u,h.get? b=some u->h'.get? b=some u)(hp:h.objs.size<=a)(hn:H a=none):Un fs ex H (upd H a o) h h' where
 keep:=λb u q _ _ _=>k b u q
 slot:=λb u q _ _ _=>⟨u.slots,k b u q⟩
 free:=λb u q n _=>by rw [Zg (Ym (Yu (Yf q) hp))]; exact n
 there:=λb u q _=>⟨u,k b u q⟩
 tups:=λb xs q=>by rw [Zg (Zn q hn)]; exact q
 frzs:=λb u xs q=>by rw [Zg (Zn q hn)]; exact q
 tbls:=λb ps q=>⟨#[],by rw [Zg (Zn q hn),q]; simp⟩
def Un.write(mu:Mut (H x))(he:e=x\/H e=some (.own x))(k:∀ b u,b ≠ e->h.get? b=some u->h'.get? b=some u)(heo:∃ u,h'.get? e=some u):Un fs ex H (upd H x o) h h':=by
 have hx:∀ b,H b=none->b ≠ x:=λb n z=>by subst z; rw [n] at mu; exact mu
 have hb:∀ b,H b=none->b ≠ e:=λb n z=>by
  subst z
  rcases he with r | r
  ·exact hx b n r
  ·rw [n] at r; cases r
 have hm:∀ b u,H b=some u->¬ Mut (some u)->b ≠ x:=λb u q nm z=>by subst z; rw [q] at mu; exact nm mu
 refine⟨λb u q n _ _=>k b u (hb b n) q,λb u q n _ _=>⟨u.slots,k b u (hb b n) q⟩,λb u q n _=>by rw [Zg (hx b n)]; exact n,λb u q _=>?_,
  λb xs q=>by rw [Zg (hm b _ q λz=>z)]; exact q,λb u xs q=>by rw [Zg (hm b _ q λz=>z)]; exact q,λb ps q=>⟨#[],by rw [Zg (hm b _ q λz=>z),q]; simp⟩⟩
 by_cases hbe:b=e
 ·subst hbe; exact heo
 ·exact⟨u,k b u hbe q⟩
theorem Un.mono(u:Un fs ex H H1 h h1)(hs:∀ b∈fs,b∈fs')(hx:∀ b∈ex,b∈ex'):Un fs' ex' H H1 h h1 :=
 ⟨λb ob q n hb he=>u.keep b ob q n (λz=>hb (hs b z)) λz=>he (hx b z),λ_ _ q n _ he=>u.any q n λz=>he (hx _ z),λb ob q n he=>u.free b ob q n λz=>he (hx b z),λb ob q he=>u.there b ob q λz=>he (hx b z),u.tups,u.frzs,u.tbls⟩
end
def trk(h:Heap)(H:Hp):List Addr:=(List.range h.objs.size).filter λa=>(H a).isSome
def Zme(h:Heap)(H:Hp):Heap:=hideAll h (trk h H)
theorem ZjU(h:Heap)(H:Hp):(Zme h H).objs.size=h.objs.size:=PySem.W.hideAll_size _ _
def Zfz{h:Heap}{b:Addr}{o:Obj}(e:h.get? b=some o)(n:H b=none):(Zme h H).get? b=some o :=
 hideAll_get _ e λhm=>by
  have q:(H b).isSome=true:=(YB.mp hm).2
  rw [n] at q; simp at q
theorem Zqh{h:Heap}{b:Addr}{o:Obj}(e:(Zme h H).get? b=some o):h.get? b=some o/\H b=none:=by
 have e':h.get? b=some o:=of_hideAll (trk h H) e
 refine⟨e',?_⟩
 cases q:H b with
 | none=>rfl
 | some x =>
  have hm:b∈trk h H:=List.mem_filter.mpr ⟨List.mem_range.mpr (Heap.lt_size e'),by simp [q]⟩
  have z:(Zme h H).get? b=none:=PySem.W.hideAll_none (trk h H) hm
  rw [z] at e; cases e
def Zqc(g h:Heap)(L:Addr):List (Addr × Obj):=(List.range h.objs.size).filterMap λa=>if a=L\/(g.get? a).isSome=true then none else (h.get? a).map λo=>(a,o)
def rest(g h:Heap)(L d:Addr):List (Addr × Obj):=(Zqc g h L).filter λp=>decide (p.1 ≠ d)
structure Mod(K:PySem.W.Frag)(mg:Str->Option Value)(base:Heap):Prop where
 kin:K.In base
 glob:base.Ns mainGlobals mg
 blt:∃ mb,base.Ns builtinsNs mb/\∀ x:Str,x ≠ "__name__"->mb x=bootBuiltins x
 nolimit:base.NoLimit
structure Cx where
 prog:Program
 w:World
 K:PySem.W.Frag
 mg:Str->Option Value
 base:Heap
 A:Around
 N:List Str
 s₀:Shared
 H₀:Hp
 env:Env
 outer:List Env
 stack:List Env
 ex:List Addr
 fn:Str->Bool
 calm:Bool
 pn:List (Addr × Obj)
 xe:VSP
def frs(l:List Env):List Addr:=l.filterMap (·.frame)
abbrev Cx.fs(X:Cx):List Addr:=frs X.outer
def Vis(sc:Scope)(x:Str):Prop:=sc.names.lookup x=some .local\/sc.names.lookup x=some .cell\/sc.names.lookup x=some .free
def Loc(sc:Scope)(x:Str):Prop:=sc.names.lookup x=some .local\/sc.names.lookup x=some .cell
def ZtV(env:Env)(h:Heap)(m:Str->Option Value)(x:Str)(u:Value):Prop :=
 (env.kindOf x=some .local/\m x=some u)\/((env.kindOf x=some .cell\/env.kindOf x=some .free)/\∃ c,env.cells.lookup x=some c/\h.IsCell c (some u))
structure Cx.Ok(X:Cx):Prop where
 mod:Mod X.K X.mg X.base
 kind:X.env.scope.kind=.function
 glob:X.env.globals=mainGlobals
 blt:X.env.builtins=builtinsNs
 above:X.s₀.heap.objs.size<=X.env.locals
 inj:∀ x y c,X.env.cells.lookup x=some c->X.env.cells.lookup y=some c->x=y
 has:∀ x,(X.env.kindOf x=some .cell\/X.env.kindOf x=some .free)->∃ c,X.env.cells.lookup x=some c
 cab:∀ x c,X.fn x=true->X.env.cells.lookup x=some c->X.s₀.heap.objs.size<=c
 hd:X.calm=true->X.A.handled=none
 frames:X.A.frames=some X.stack
 stk:X.stack=X.outer\/(X.stack=X.env :: X.outer/\X.env.frame=some X.env.locals)
 exf:∀ b∈X.ex,b ≠ X.env.locals/\∀ x c,X.env.cells.lookup x=some c->c ≠ b
 bs:∀ b o,X.base.get? b=some o->X.s₀.heap.get? b=some o/\X.H₀ b=none
 bsz:X.base.objs.size<=X.s₀.heap.objs.size
 noex:∀ b o,X.base.get? b=some o->b ∉ X.ex
 exfs:∀ b∈X.ex,b ∉ X.fs
 funs:X.s₀.heap.FunFrames X.base X.outer
 frf:∀ b∈X.fs,X.H₀ b=none
structure Inv(X:Cx)(pins:List (Addr × Obj))(σ:List (Option V))(H:Hp)(s:Shared):Prop where
 ok:X.Ok
 os:s.os=X.s₀.os
 bare:AllBare s.gens
 base:Un X.fs X.ex X.H₀ H X.s₀.heap s.heap
 loc:∃ m,s.heap.Ns X.env.locals m/\∀ (i:Nat) (x:Str) (v:V),X.N[i]?=some x->σ[i]?=some (some v)->Vis X.env.scope x->∃ u,ZF v u/\ZtV X.env s.heap m x u
 cell:∀ x c,X.env.cells.lookup x=some c->∃ v,s.heap.IsCell c v
 free:H X.env.locals=none
 freeC:∀ x c,X.env.cells.lookup x=some c->H c=none
 pin:∀ p∈X.pn ++ pins,s.heap.get? p.1=some p.2/\H p.1=none/\p.1 ≠ X.env.locals/\p.1 ∉ X.fs/\∀ v,p.2.data ≠ .cell v
 hok:HOk X.prog X.w H s.heap
 len:σ.length=X.N.length
section
variable {X:Cx}{pins:List (Addr × Obj)}{σ:List (Option V)}{H H':Hp}{s:Shared}{h':Heap}
def Cx.Ok.nofr(ok:X.Ok){b:Addr}{o:Obj}(e:X.base.get? b=some o):b ∉ X.fs:=λhb=>by
 have:=(ok.funs.mem hb).1
 rw [e] at this; cases this
theorem Inv.bs(I:Inv X pins σ H s):∀ b o,X.base.get? b=some o->s.heap.get? b=some o/\H b=none:=λb o e =>
 ⟨I.base.keep b o (I.ok.bs b o e).1 (I.ok.bs b o e).2 (I.ok.nofr e) (I.ok.noex b o e),I.base.free b o (I.ok.bs b o e).1 (I.ok.bs b o e).2 (I.ok.noex b o e)⟩
def Inv.bk(I:Inv X pins σ H s):∀ b o,X.base.get? b=some o->s.heap.get? b=some o:=λb o e=>(I.bs b o e).1
theorem Inv.mod(I:Inv X pins σ H s):Mod X.K X.mg X.base:=I.ok.mod
theorem Inv.kIn(I:Inv X pins σ H s):X.K.In s.heap:=I.ok.mod.kin.keeps I.bk
def Inv.nolimit(I:Inv X pins σ H s):s.heap.NoLimit:=I.ok.mod.nolimit.keeps I.bk
theorem Inv.fr(I:Inv X pins σ H s):∃ m,Fr X.base X.env.locals s.heap m :=
 let ⟨m,hn,_⟩:=I.loc
 ⟨m,hn,I.bk,Yj I.ok.bsz I.ok.above⟩
theorem Inv.lt(I:Inv X pins σ H s):X.env.locals < s.heap.objs.size:=let ⟨_,hn,_⟩:=I.loc; hn.lt
def Inv.sz(I:Inv X pins σ H s):X.s₀.heap.objs.size<=s.heap.objs.size:=Yj I.ok.above (Yt I.lt)
def Inv.nofs(I:Inv X pins σ H s){a:Addr}(h:s.heap.objs.size<=a):a ∉ X.fs:=λhb=>by
 obtain⟨_,o,ho,_⟩:=I.ok.funs.mem hb
 exact absurd (Yu (Yf ho) (Yj I.sz h)) (Y1 _)
theorem Inv.cne(I:Inv X pins σ H s):∀ x c,X.env.cells.lookup x=some c->c ≠ X.env.locals:=λx c e z=>by
 obtain⟨v,o,ho,hd⟩:=I.cell x c e
 obtain⟨m,⟨o',es,ep,ho',hd',_⟩,_⟩:=I.loc
 rw [z,ho'] at ho; cases ho; rw [hd'] at hd; cases hd
theorem Inv.funs(I:Inv X pins σ H s):s.heap.FunFrames X.base X.outer:=by
 have all:∀ (l:List Env),(∀ b∈frs l,b∈X.fs)->X.s₀.heap.FunFrames X.base l->s.heap.FunFrames X.base l:=by
  intro l
  induction l with
  | nil=>intro _ _; trivial
  | cons env r ih =>
   intro hs hl
   obtain⟨hk,⟨L,o,hf,hn,ho,hd⟩,hr⟩:=hl
   have hL:L∈X.fs:=hs L (by unfold frs; rw [List.filterMap_cons,hf]; exact List.mem_cons_self)
   obtain⟨sl,e⟩:=I.base.slot L o ho (I.ok.frf L hL) hL λz=>I.ok.exfs L z hL
   exact⟨hk,⟨L,_,hf,hn,e,hd⟩,ih (λb hb=>hs b (by unfold frs; rw [List.filterMap_cons,hf]; exact List.mem_cons_of_mem _ hb)) hr⟩
 exact all X.outer (λ_ hb=>hb) I.ok.funs
def Inv.stack(I:Inv X pins σ H s):s.heap.FunFrames X.base X.stack:=by
 rcases I.ok.stk with e | ⟨e,hf⟩
 ·rw [e]; exact I.funs
 ·rw [e]
  obtain⟨m,hn,_⟩:=I.loc
  refine .cons (by rw [I.ok.kind]; decide) hf hn ?_ I.funs
  exact Heap.get?_none_of_le (Yj I.ok.bsz I.ok.above)
def Inv.stkSub(I:Inv X pins σ H s):∀ b∈frs X.stack,b∈X.env.locals :: X.fs:=λb hb=>by
 rcases I.ok.stk with e | ⟨e,hf⟩
 ·rw [e] at hb; exact Y7 _ hb
 ·rw [e] at hb
  unfold frs at hb
  rw [YaE,hf] at hb
  exact hb
def Inv.stkFree(I:Inv X pins σ H s):∀ b∈frs X.stack,H b=none:=λb hb=>by
 rcases Yn.mp (I.stkSub b hb) with e | hb
 ·rw [e]; exact I.free
 ·obtain⟨_,o,ho,_⟩:=I.ok.funs.mem hb
  exact I.base.free b o ho (I.ok.frf b hb) λz=>I.ok.exfs b z hb
theorem Inv.step{g':Array GenState}{t':Nat}{d':Drawn}{ch:List Addr}(I:Inv X pins σ H s)
  (hch:∀ b∈ch,(b∈X.ex\/X.s₀.heap.objs.size<=b)/\b ≠ X.env.locals/\(∀ x c,X.env.cells.lookup x=some c->c ≠ b)/\∀ p∈X.pn ++ pins,p.1 ≠ b)
  (keep:∀ b o,b ≠ X.env.locals->b ∉ X.fs->b ∉ ch->s.heap.get? b=some o->H b=none->h'.get? b=some o)
  (slot:∀ b o,b ≠ X.env.locals->b∈X.fs->b ∉ ch->s.heap.get? b=some o->H b=none->∃ sl,h'.get? b=some { o with slots:=sl }) (free:∀ b o,b ∉ ch->s.heap.get? b=some o->H b=none->H' b=none)
  (there:∀ b o,b ∉ ch->s.heap.get? b=some o->∃ o',h'.get? b=some o')
  (tups:∀ b xs,H b=some (.tup xs)->H' b=some (.tup xs)) (frzs:∀ b o u,H b=some (.frz o u)->H' b=some (.frz o u)) (tbls:∀ b ps,H b=some (.tbl ps)->∃ more,H' b=some (.tbl (ps ++ more)))
  (ns:∀ m,s.heap.Ns X.env.locals m->h'.Ns X.env.locals m) (hok:HOk X.prog X.w H' h') (hg:AllBare g') :
  Inv X pins σ H' { s with heap:=h',gens:=g',drawn:=d',toks:=t' }:=by
 have neL:∀ b o,X.s₀.heap.get? b=some o->b ≠ X.env.locals:=λb o e=>Ym (Yu (Yf e) I.ok.above)
 have neC:∀ b o,X.s₀.heap.get? b=some o->b ∉ X.ex->b ∉ ch:=λb o e hx hb=>by
  rcases (hch b hb).1 with z | z
  ·exact hx z
  ·exact absurd (Yu (Yf e) z) (Y1 _)
 have cellK:∀ x c,X.env.cells.lookup x=some c->∀ v,s.heap.IsCell c v->h'.IsCell c v:=λx c e v ⟨o,ho,hd⟩=>by
  have nch:c ∉ ch:=λz=>(hch c z).2.2.1 x c e rfl
  by_cases hc:c∈X.fs
  ·obtain⟨sl,q⟩:=slot c o (I.cne x c e) hc nch ho (I.freeC x c e)
   exact⟨_,q,hd⟩
  ·exact⟨o,keep c o (I.cne x c e) hc nch ho (I.freeC x c e),hd⟩
 refine⟨I.ok,I.os,hg,⟨λb o e n hb hx=>?_,λb o e n hb hx=>?_,λb o e n hx=>?_,λb o e hx=>?_,λb xs e=>tups b xs (I.base.tups b xs e),λb o xs e=>frzs b o xs (I.base.frzs b o xs e),λb ps e=>?_⟩,?_,λx c e=>?_,?_,λx c e=>?_,λp hp=>?_,hok,I.len⟩
 ·exact keep b o (neL b o e) hb (neC b o e hx) (I.base.keep b o e n hb hx) (I.base.free b o e n hx)
 ·obtain⟨sl,e1⟩:=I.base.slot b o e n hb hx
  obtain⟨sl',e2⟩:=slot b _ (neL b o e) hb (neC b o e hx) e1 (I.base.free b o e n hx)
  exact⟨sl',e2⟩
 ·obtain⟨o',e1⟩:=I.base.there b o e hx
  exact free b o' (neC b o e hx) e1 (I.base.free b o e n hx)
 ·obtain⟨o',e1⟩:=I.base.there b o e hx
  exact there b o' (neC b o e hx) e1
 ·obtain⟨m1,e1⟩:=I.base.tbls b ps e
  obtain⟨m2,e2⟩:=tbls b _ e1
  exact⟨m1 ++ m2,by rw [e2,Array.append_assoc]⟩
 ·obtain⟨m,hn,hl⟩:=I.loc
  refine⟨m,ns m hn,λi x v e1 e2 e3=>?_⟩
  obtain⟨u,r,l⟩:=hl i x v e1 e2 e3
  refine⟨u,r,?_⟩
  rcases l with l | ⟨k,c,e,z⟩
  ·exact .inl l
  ·exact .inr ⟨k,c,e,cellK x c e _ z⟩
 ·obtain⟨v,z⟩:=I.cell x c e
  exact⟨v,cellK x c e v z⟩
 ·obtain⟨m,⟨o,_,_,ho,_⟩,_⟩:=I.loc
  exact free _ o (λz=>(hch _ z).2.1 rfl) ho I.free
 ·obtain⟨v,o,ho,hd⟩:=I.cell x c e
  exact free c o (λz=>(hch c z).2.2.1 x c e rfl) ho (I.freeC x c e)
 ·obtain⟨e,n,ne,nf,d⟩:=I.pin p hp
  have nch:p.1 ∉ ch:=λz=>(hch p.1 z).2.2.2 p hp rfl
  exact⟨keep p.1 p.2 ne nf nch e n,free p.1 p.2 nch e n,ne,nf,d⟩
theorem Inv.un{t':Nat}(I:Inv X pins σ H s)(u:Un X.fs [] H H' s.heap h')(hok:HOk X.prog X.w H' h'):Inv X pins σ H' { s with heap:=h',toks:=t' }:=by
 obtain⟨m,⟨o,es,ep,ho,r⟩,_⟩:=id I.loc
 obtain⟨sl,hL⟩:=u.any ho I.free (by simp)
 exact I.step (g':=s.gens) (d':=s.drawn) (ch:=[]) (λ_ z=>nomatch z) (λb o _ hb _ e n=>u.keep b o e n hb (by simp)) (λb o _ hb _ e n=>u.slot b o e n hb (by simp)) (λb o _ e n=>u.free b o e n (by simp)) (λb o _ e=>u.there b o e (by simp)) u.tups u.frzs u.tbls (λm' hm=>by
  obtain⟨o',es',ep',ho',r'⟩:=hm
  rw [ho] at ho'; cases ho'
  exact⟨_,es',ep',hL,r'⟩) hok I.bare
theorem Inv.call{g':Array GenState}{t':Nat}{d':Drawn}{ch:List Addr}(I:Inv X pins σ H s)(u:Un (frs X.stack) ch H H' s.heap h')(hok:HOk X.prog X.w H' h')(hg:AllBare g')
  (hch:∀ b∈ch,(b∈X.ex\/X.s₀.heap.objs.size<=b)/\b ≠ X.env.locals/\(∀ x c,X.env.cells.lookup x=some c->c ≠ b)/\∀ p∈X.pn ++ pins,p.1 ≠ b) :
  Inv X pins σ H' { s with heap:=h',gens:=g',drawn:=d',toks:=t' }:=by
 obtain⟨m,⟨o,es,ep,ho,r⟩,_⟩:=id I.loc
 obtain⟨sl,hL⟩:=u.any ho I.free λz=>(hch _ z).2.1 rfl
 exact I.step (ch:=ch) hch (λb o hL hb hc e n=>u.keep b o e n (λz=>(Yn.mp (I.stkSub b z)).elim hL hb) hc) (λb o _ _ hc e n=>u.any e n hc) (λb o hc e n=>u.free b o e n hc) (λb o hc e=>u.there b o e hc) u.tups u.frzs u.tbls (λm' hm=>by
  obtain⟨o',es',ep',ho',r'⟩:=hm
  rw [ho] at ho'; cases ho'
  exact⟨_,es',ep',hL,r'⟩) hok hg
theorem Inv.turned{t':Nat}{it:Addr}(I:Inv X pins σ H s)(k:∀ b o,b ≠ it->s.heap.get? b=some o->h'.get? b=some o)(hn:H it=none)(hL:it ≠ X.env.locals)
  (h1:it∈X.ex\/X.s₀.heap.objs.size<=it) (h2:∀ x c,X.env.cells.lookup x=some c->c ≠ it) (h3:∀ p∈X.pn ++ pins,p.1 ≠ it):Inv X pins σ H { s with heap:=h',toks:=t' }:=by
 have nit:∀ b u,H b=some u->b ≠ it:=λb u e z=>by rw [z,hn] at e; cases e
 refine I.step (g':=s.gens) (d':=s.drawn) (ch:=[it]) (λb hb=>?_) (λb o _ _ hc e _=>k b o (λz=>hc (by simp [z])) e) (λb o _ _ hc e _=>⟨o.slots,k b o (λz=>hc (by simp [z])) e⟩) (λ_ _ _ _ n=>n)
  (λb o hc e=>⟨o,k b o (λz=>hc (by simp [z])) e⟩) (λ_ _ e=>e) (λ_ _ _ e=>e) (λb ps e=>⟨#[],by rw [e]; simp⟩) (λm hm=>?_) (λb u e=>?_) I.bare
 ·have e:b=it:=by simpa using hb
  subst e
  exact⟨h1,hL,h2,h3⟩
 ·obtain⟨o,es,ep,ho,r⟩:=hm
  exact⟨o,es,ep,k _ o (Ne.symm hL) ho,r⟩
 ·refine (I.hok b u e).stay (λc v hc q=>k c v ?_ q) (λ_ q=>q) λ_ _ q=>q
  rcases hc with z | z
  ·rw [z]; exact nit b u e
  ·exact nit c _ z
theorem Inv.tok(I:Inv X pins σ H s)(t:Nat):Inv X pins σ H { s with toks:=t }:=I.un (h':=s.heap) (t':=t) Un.refl I.hok
theorem Inv.kept{t':Nat}(I:Inv X pins σ H s)(k:∀ b u,s.heap.get? b=some u->h'.get? b=some u):Inv X pins σ H { s with heap:=h',toks:=t' }:=I.un (Un.kept k) (I.hok.kept k)
theorem Inv.laid{a:Addr}{o:HO}{t':Nat}(I:Inv X pins σ H s)(k:∀ b u,s.heap.get? b=some u->h'.get? b=some u)(hp:s.heap.objs.size<=a)(new:ZW X.prog X.w (upd H a o) h' a o) :
  Inv X pins σ (upd H a o) { s with heap:=h',toks:=t' }:=I.un (Un.laid k hp (I.hok.fresh hp)) (I.hok.laid k hp new)
def Inv.write{x e:Addr}{o:HO}{t':Nat}(I:Inv X pins σ H s)(mu:Mut (H x))(he:e=x\/H e=some (.own x))(k:∀ b u,b ≠ e->s.heap.get? b=some u->h'.get? b=some u)(heo:∃ u,h'.get? e=some u)
  (new:ZW X.prog X.w (upd H x o) h' x o):Inv X pins σ (upd H x o) { s with heap:=h',toks:=t' }:=I.un (Un.write mu he k heo) (I.hok.write mu he k heo new)
def Inv.pins_of{pins':List (Addr × Obj)}(I:Inv X pins σ H s)(h:∀ p∈pins',s.heap.get? p.1=some p.2/\H p.1=none/\p.1 ≠ X.env.locals/\p.1 ∉ X.fs/\∀ v,p.2.data ≠ .cell v):Inv X pins' σ H s :=
 ⟨I.ok,I.os,I.bare,I.base,I.loc,I.cell,I.free,I.freeC,λp hp=>(Yw.mp hp).elim (λz=>I.pin p (Vx _ z)) (h p),I.hok,I.len⟩
def ZhZ{N:List Str}(hN:N.Nodup){i j:Nat}{x:Str}(a:N[i]?=some x)(b:N[j]?=some x):i=j:=by
 obtain⟨h1,e1⟩:=Yi.mp a
 obtain⟨h2,e2⟩:=Yi.mp b
 exact (List.getElem_inj hN).mp (e1.trans e2.symm)
def ZlN{M:Model}{A:Around}{E:VSP}{i:Nat}{x:Str}{v:V}{Q:Unit->Shared->Prop}(I:Inv X pins σ H s)(hN:X.N.Nodup)(hi:X.N[i]?=some x)(hx:Loc X.env.scope x)(r:ZF v u)
  (h:∀ s',Inv X pins (σ.set i (some v)) H s'->(∃ a,Heap.SameBut a s.heap s'.heap/\(a=X.env.locals\/X.env.cells.lookup x=some a))->Q () s') (hf:X.fn x=true\/X.env.scope.names.lookup x=some .local:=by first | exact .inl rfl | exact .inr rfl | assumption):wpAny M A (storeName X.env x u) Q E s:=by
 obtain⟨m,hn,hl⟩:=id I.loc
 have hcls:(X.env.scope.kind == .class || (X.env.scope.kind == .module && X.env.locals != X.env.globals))=false:=by rw [I.ok.kind]; rfl
 have hiσ:i < σ.length:=by rw [I.len]; exact (Yi.mp hi).1
 have cne:=I.cne
 have tracked:∀ {a:Addr}{h':Heap},(∃ o,s.heap.get? a=some o/\H a=none)->Heap.SameBut a s.heap h'->HOk X.prog X.w H h':=λ{a h'} ha hs b ob e=>by
  obtain⟨_,_,hfree⟩:=ha
  refine (I.hok b ob e).stay (λc w' hc q=>(hs.2 c ?_).trans q) (λ_ q=>q) λ_ _ q=>q
  rintro rfl
  rcases hc with rfl | hc
  ·rw [hfree] at e; cases e
  ·rw [hfree] at hc; cases hc
 rcases hx with hk | hk
 ·refine wpAny_storeName_local hk hn (λh' hn' hs=>?_) hcls
  obtain⟨oL,_,_,hoL,_⟩:=id hn
  refine h _ ⟨I.ok,I.os,I.bare,⟨λb o e n hb hx=>?_,λb o e n hb hx=>?_,I.base.free,λb o e hx=>?_,I.base.tups,I.base.frzs,I.base.tbls⟩,⟨_,hn',λj y v' e1 e2 e3=>?_⟩,λy c e=>?_,I.free,I.freeC,λp hp=>?_,tracked ⟨oL,hoL,I.free⟩ hs,by simpa using I.len⟩ ⟨_,hs,.inl rfl⟩
  ·exact (hs.2 b (Ym (Yu (Yf e) I.ok.above))).trans (I.base.keep b o e n hb hx)
  ·obtain⟨sl,e1⟩:=I.base.slot b o e n hb hx
   exact⟨sl,(hs.2 b (Ym (Yu (Yf e) I.ok.above))).trans e1⟩
  ·obtain⟨o',e1⟩:=I.base.there b o e hx
   exact⟨o',(hs.2 b (Ym (Yu (Yf e) I.ok.above))).trans e1⟩
  ·by_cases hj:j=i
   ·subst hj
    rw [hi] at e1; cases e1
    rw [Yan hiσ] at e2
    cases e2
    exact⟨u,r,.inl ⟨hk,by simp⟩⟩
   ·rw [Yap (Ne.symm hj)] at e2
    obtain⟨u',r',q⟩:=hl j y v' e1 e2 e3
    refine⟨u',r',?_⟩
    rcases q with ⟨k,e⟩ | ⟨k,c,e,z⟩
    ·refine .inl ⟨k,?_⟩
     have:y ≠ x:=λe=>hj (ZhZ hN e1 (e ▸ hi))
     simp [this,e]
    ·exact .inr ⟨k,c,e,z.sameBut hs (cne y c e)⟩
  ·obtain⟨w',z⟩:=I.cell y c e
   exact⟨w',z.sameBut hs (cne y c e)⟩
  ·obtain⟨e,n,ne,nf,d⟩:=I.pin p hp
   exact⟨(hs.2 p.1 ne).trans e,n,ne,nf,d⟩
 ·have hfn:X.fn x=true:=by
   rcases hf with z | z
   ·exact z
   ·rw [z] at hk; cases hk
  obtain⟨c,hc⟩:=I.ok.has x (.inl hk)
  obtain⟨w',z⟩:=I.cell x c hc
  refine wpAny_storeName_cell I.ok.kind hk hc z (λh' hc' hs=>?_)
  obtain⟨oc,hoc,hocd⟩:=id z
  refine h { s with heap:=h' } ⟨I.ok,I.os,I.bare,⟨λb o e n hb hx=>?_,λb o e n hb hx=>?_,I.base.free,λb o e hx=>?_,I.base.tups,I.base.frzs,I.base.tbls⟩,⟨m,hn.sameBut hs (Ne.symm (cne x c hc)),λj y v' e1 e2 e3=>?_⟩,λy c' e=>?_,I.free,I.freeC,λp hp=>?_,tracked ⟨oc,hoc,I.freeC x c hc⟩ hs,by simpa using I.len⟩ ⟨c,hs,.inr hc⟩
  ·exact (hs.2 b (Ym (Yu (Yf e) (I.ok.cab x c hfn hc)))).trans (I.base.keep b o e n hb hx)
  ·obtain⟨sl,e1⟩:=I.base.slot b o e n hb hx
   exact⟨sl,(hs.2 b (Ym (Yu (Yf e) (I.ok.cab x c hfn hc)))).trans e1⟩
  ·obtain⟨o',e1⟩:=I.base.there b o e hx
   exact⟨o',(hs.2 b (Ym (Yu (Yf e) (I.ok.cab x c hfn hc)))).trans e1⟩
  ·by_cases hj:j=i
   ·subst hj
    rw [hi] at e1; cases e1
    rw [Yan hiσ] at e2
    cases e2
    exact⟨u,r,.inr ⟨.inl hk,c,hc,hc'⟩⟩
   ·rw [Yap (Ne.symm hj)] at e2
    obtain⟨u',r',q⟩:=hl j y v' e1 e2 e3
    refine⟨u',r',?_⟩
    rcases q with q | ⟨k,c',e,z'⟩
    ·exact .inl q
    ·refine .inr ⟨k,c',e,z'.sameBut hs ?_⟩
     rintro rfl
     exact hj (ZhZ hN e1 (I.ok.inj _ _ _ e hc ▸ hi))
  ·by_cases hcc:c'=c
   ·subst hcc; exact⟨_,hc'⟩
   ·obtain⟨w2,z2⟩:=I.cell y c' e
    exact⟨w2,z2.sameBut hs hcc⟩
  ·obtain⟨e,n,ne,nf,d⟩:=I.pin p hp
   refine⟨(hs.2 p.1 ?_).trans e,n,ne,nf,d⟩
   intro q
   rw [q,hoc] at e
   have q':oc=p.2:=YT e
   exact d w' (by rw [<- q']; exact hocd)
def ZdK{M:Model}{A:Around}{E:VSP}{i:Nat}{x:Str}{v:V}{Q:Unit->Shared->Prop}(I:Inv X pins σ H s)(hN:X.N.Nodup)(hi:X.N[i]?=some x)(hx:Loc X.env.scope x)(r:ZF v u)
  (h:∀ s',Inv X pins (σ.set i (some v)) H s'->Q () s') (hf:X.fn x=true\/X.env.scope.names.lookup x=some .local:=by first | exact .inl rfl | exact .inr rfl | assumption):wpAny M A (storeName X.env x u) Q E s :=
 ZlN I hN hi hx r (λs' I' _=>h s' I') hf
def Inv.call'{s':Shared}{ch:List Addr}(I:Inv X pins σ H s)(ho:s'.os=s.os)(u:Un (frs X.stack) ch H H' s.heap s'.heap)(hok:HOk X.prog X.w H' s'.heap)(hg:AllBare s'.gens)
  (hch:∀ b∈ch,(b∈X.ex\/X.s₀.heap.objs.size<=b)/\b ≠ X.env.locals/\(∀ x c,X.env.cells.lookup x=some c->c ≠ b)/\∀ p∈X.pn ++ pins,p.1 ≠ b):Inv X pins σ H' s':=by
 obtain⟨h',g',d',t',o'⟩:=s'
 have e:o'=s.os:=ho
 subst e
 exact I.call (g':=g') (t':=t') (d':=d') u hok hg hch
end
abbrev XK:=Value->Option Addr->Hp->Prop
abbrev St:=List (Option V)
abbrev VK:=V->Hp->Prop
abbrev TE:=St->Hp->VK->Prop
abbrev TT:=St->Hp->(Bool->Hp->Prop)->Prop
abbrev TA:=St->Hp->(List V->Hp->Prop)->Prop
structure Ends where
 nx:St->Hp->Prop
 rt:VK
 bk:St->Hp->Prop:=λ_ _=>False
 ct:St->Hp->Prop:=λ_ _=>False
abbrev TS:=Ends->St->Hp->Prop
def EP(X:Cx)(pins:List (Addr × Obj))(σ:St)(Q:VK)(u:Value)(s':Shared):Prop:=∃ v H',Inv X pins σ H' s'/\ZF v u/\Q v H'
def TP(X:Cx)(pins:List (Addr × Obj))(σ:St)(Q:Bool->Hp->Prop)(b:Bool)(s':Shared):Prop:=∃ H',Inv X pins σ H' s'/\Q b H'
def AP(X:Cx)(pins:List (Addr × Obj))(σ:St)(Q:List V->Hp->Prop)(us:List Value)(s':Shared):Prop:=∃ vs H',Inv X pins σ H' s'/\Zw vs us/\Q vs H'
def SP(X:Cx)(pins:List (Addr × Obj))(D:Ends)(f:Flow)(s':Shared):Prop :=
 match f with
 | .next=>∃ σ' H',Inv X pins σ' H' s'/\D.nx σ' H'
 | .brk=>∃ σ' H',Inv X pins σ' H' s'/\D.bk σ' H'
 | .cont=>∃ σ' H',Inv X pins σ' H' s'/\D.ct σ' H'
 | .ret u=>∃ v σ' H',Inv X pins σ' H' s'/\ZF v u/\D.rt v H'
def PE(X:Cx)(e:Expr)(t:TE):Prop :=
 ∀ (pins:List (Addr × Obj)) (s:Shared) (σ:St) (H:Hp) (Q:VK),Inv X pins σ H s->t σ H Q->wpAny (model X.prog X.w) X.A (eval e X.env) (EP X pins σ Q) X.xe s
def PT(X:Cx)(e:Expr)(t:TT):Prop :=
 ∀ (pins:List (Addr × Obj)) (s:Shared) (σ:St) (H:Hp) (Q:Bool->Hp->Prop),Inv X pins σ H s->t σ H Q->wpAny (model X.prog X.w) X.A (isTrue e X.env (eval e X.env)) (TP X pins σ Q) X.xe s
def PW(X:Cx)(e:Expr)(t:TT):Prop :=
 ∀ (whole:Sem Value) (pins:List (Addr × Obj)) (s:Shared) (σ:St) (H:Hp) (Q:Bool->Hp->Prop),Inv X pins σ H s->t σ H Q->wpAny (model X.prog X.w) X.A (isTrue e X.env whole) (TP X pins σ Q) X.xe s
theorem PW.pt{X:Cx}{e:Expr}{t:TT}(h:PW X e t):PT X e t:=h _
def PA(X:Cx)(es:List Expr)(t:TA):Prop :=
 ∀ (pos:Pos) (pins:List (Addr × Obj)) (s:Shared) (σ:St) (H:Hp) (Q:List V->Hp->Prop),Inv X pins σ H s->t σ H Q->wpAny (model X.prog X.w) X.A (spliced (backTo pos (starEach es X.env))) (AP X pins σ Q) X.xe s
def PS(X:Cx)(st:Stmt)(t:TS):Prop :=
 ∀ (pins:List (Addr × Obj)) (s:Shared) (σ:St) (H:Hp) (D:Ends),Inv X pins σ H s->t D σ H->wpAny (model X.prog X.w) X.A (exec st X.env) (SP X pins D) X.xe s
def PSs(X:Cx)(st:List Stmt)(t:TS):Prop :=
 ∀ (pins:List (Addr × Obj)) (s:Shared) (σ:St) (H:Hp) (D:Ends),Inv X pins σ H s->t D σ H->wpAny (model X.prog X.w) X.A (execs st X.env) (SP X pins D) X.xe s
variable {A:Around}{E:VSP}{s:Shared}
def ZZ{α:Type}{t:Sem α}{Q Q':α->Shared->Prop}{M:Model}(h:wpAny M A t Q E s)(hQ:∀ a s,Q a s->Q' a s):wpAny M A t Q' E s:=Yz h hQ λ_ _ x=>x
section
variable {X:Cx}
def ZnQ(i:Nat):TE:=λσ H Q=>∃ v,σ[i]?=some (some v)/\Q v H
def tC(v:V):TE:=λ_ H Q=>Q v H
def Zog{i:Nat}{x:Str}{pos:Pos}(hN:X.N[i]?=some x)(hv:Vis X.env.scope x)(hd:(x == ("__debug__":Str))=false:=by decide)(hcd:(x == ("__classdict__":Str))=false:=by decide):PE X (.Name x pos) (ZnQ i):=by
 intro pins s σ H Q I h
 obtain⟨v,e,h⟩:=h
 obtain⟨m,hn,hl⟩:=I.loc
 obtain⟨u,r,l⟩:=hl i x v hN e hv
 have fin:EP X pins σ Q u s:=⟨v,H,I,r,h⟩
 rcases l with ⟨hk,hm⟩ | ⟨hk,c,hc,hcell⟩
 ·exact wpAny_Name (wpAny_loadName_local I.ok.kind hk hn hm fin) hd
 ·rcases hk with hk | hk
  ·exact wpAny_Name (wpAny_loadName_cell I.ok.kind hk hc hcell fin) hd
  ·exact wpAny_Name (wpAny_loadName_free I.ok.kind hk hc hcell fin hcd) hd
def ZqC{i j pos}:PE X (.Constant (.int i) j pos) (tC (.int i)):=λ_ _ _ H _ I h=>wpAny_Constant_int ⟨.int i,H,I.tok _,⟨_,rfl⟩,h⟩
def Ztt{b j pos}:PE X (.Constant (.bool b) j pos) (tC (.bl b)):=λ_ _ _ H _ I h=>Constant_bool ⟨.bl b,H,I,rfl,h⟩
def Zru{x j pos}:PE X (.Constant (.str x) j pos) (tC (.str x)):=λ_ _ _ H _ I h=>Calls.Constant_str ⟨.str x,H,I.tok _,⟨_,rfl⟩,h⟩
def Gl(X:Cx)(x:Str):Prop:=X.env.kindOf x=some .globalImplicit
def ZhG{pins:List (Addr × Obj)}{σ:St}{x:Str}{pos:Pos}{Q:VSP}(I:Inv X pins σ H s)(hg:Gl X x)(hm:X.mg x=some u)(h:Q u s)
  (hd:(x == ("__debug__":Str))=false:=by decide):wpAny (model X.prog X.w) X.A (eval (.Name x pos) X.env) Q E s :=
 Calls.Name_function_global I.ok.kind hg (Calls.loadGlobal_global (by rw [I.ok.glob]; exact I.mod.glob.keeps I.bk) hm h) hd
def Zbq{pins:List (Addr × Obj)}{σ:St}{x:Str}{pos:Pos}{Q:VSP}(I:Inv X pins σ H s)(hg:Gl X x)(hm:X.mg x=none)(hv:bootBuiltins x=some u)(h:Q u s)
  (hn:x ≠ "__name__":=by decide) (hd:(x == ("__debug__":Str))=false:=by decide):wpAny (model X.prog X.w) X.A (eval (.Name x pos) X.env) Q E s:=by
 obtain⟨mb,h1,h2⟩:=I.mod.blt
 exact Calls.Name_function_global I.ok.kind hg (Calls.loadGlobal_builtin (by rw [I.ok.glob]; exact I.mod.glob.keeps I.bk) hm (by rw [I.ok.blt]; exact h1.keeps I.bk) ((h2 x hn).trans hv) h) hd
def Zp5{x:Str}{v:V}{pos:Pos}(hg:Gl X x)(hm:X.mg x=some u)(r:ZF v u)(hd:(x == ("__debug__":Str))=false:=by decide):PE X (.Name x pos) (tC v) :=
 λ_ _ _ H _ I h=>ZhG I hg hm ⟨v,H,I,r,h⟩ hd
def ZoT{x:Str}{v:V}{pos:Pos}(hg:Gl X x)(hm:X.mg x=none)(hv:bootBuiltins x=some u)(r:ZF v u)(hn:x ≠ "__name__":=by decide)(hd:(x == ("__debug__":Str))=false:=by decide):PE X (.Name x pos) (tC v) :=
 λ_ _ _ H _ I h=>Zbq I hg hm hv ⟨v,H,I,r,h⟩ hn hd
variable {a b:Expr}{ta tb:TE}{pos:Pos}
def PC(X:Cx)(op:CmpOp)(a b:Expr)(t:TE):Prop :=
 ∀ (pins:List (Addr × Obj)) (s:Shared) (σ:St) (H:Hp) (Q:VK),Inv X pins σ H s->t σ H Q ->
  wpAny (model X.prog X.w) X.A (eval a X.env) (λv s₁=>wpAny (model X.prog X.w) X.A (eval b X.env) (λu s₂=>wpAny (model X.prog X.w) X.A (compareOp op v u) (EP X pins σ Q) X.xe s₂) X.xe s₁) X.xe s
def Znq(b:Expr){op:CmpOp}(h:op ≠ .In)(h2:op ≠ .NotIn):behindInMarks op b=false:=by
 have e1:(op == CmpOp.In)=false:=by cases op <;> first | rfl | exact absurd rfl h
 have e2:(op == CmpOp.NotIn)=false:=by cases op <;> first | rfl | exact absurd rfl h2
 cases b <;> simp [behindInMarks,e1,e2]
def tB(t:TE):TT:=λσ H Q=>t σ H λx H1=>∃ c,x=.bl c/\Q c H1
theorem Zop{op:CmpOp}{t:TE}(h:PC X op a b t)(h1:behindInMarks op b=false:=by first | exact Znq _ (by decide) (by decide) | rfl):PT X (.Compare a [op] [b] pos) (tB t):=by
 intro pins s σ H Q I hw
 refine wpAny_isTrue_Compare1 (ZZ (h pins s σ H _ I hw) λv s1 h1=>ZZ h1 λu s2 h2=>ZZ h2 λc s3 ⟨x,H1,I1,r1,q1⟩=>?_) h1
 obtain⟨d,rfl,q⟩:=q1
 cases r1
 exact VC ⟨H1,I1,q⟩
def ZqV{e:Expr}{t:TE}(h:PE X e t)(he:∀ whole,isTrue e X.env whole=(do let v <- whole; standAt e.pos; holding [v] (truthy v)):=by intro _; rfl):PT X e (tB t):=by
 intro pins s σ H Q I hw
 refine isTrue_plain (ZZ (h pins s σ H _ I hw) λv s1 ⟨x,H1,I1,r1,q1⟩=>?_) (he _)
 obtain⟨d,rfl,q⟩:=q1
 cases r1
 exact VC ⟨H1,I1,q⟩
variable {tA tB':TT}{rest:List Expr}
def ZtF(t u:TT):TT:=λσ H Q=>t σ H λc H1=>if c=true then u σ H1 Q else Q false H1
def tOr(t u:TT):TT:=λσ H Q=>t σ H λc H1=>if c=true then Q true H1 else u σ H1 Q
def ZsF(t:TT):TT:=λσ H Q=>t σ H λc H1=>Q (!c) H1
def Zr5(ha:PT X a tA):PW X (.BoolOp .Or [a] pos) tA:=by
 intro wh pins s σ H Q I h
 refine isTrue_or (ZZ (ha pins s σ H Q I h) λc s1 e=>?_)
 cases c with
 | false=>exact isTrue_or_nil e
 | true=>exact e
def ZsU(ha:PT X a tA)(hb:PW X (.BoolOp .Or (b :: rest) pos) tB'):PW X (.BoolOp .Or (a :: b :: rest) pos) (tOr tA tB'):=by
 intro wh pins s σ H Q I h
 refine isTrue_or (ZZ (ha pins s σ H _ I h) λc s1 ⟨H1,I1,q1⟩=>?_)
 cases c with
 | true=>exact⟨H1,I1,q1⟩
 | false=>exact hb wh pins s1 σ H1 Q I1 q1
def Zr7(ha:PT X a tA):PT X (.UnaryOp .Not a pos) (ZsF tA):=by
 intro pins s σ H Q I h
 exact isTrue_not (ha pins s σ H (λc H1=>Q (!c) H1) I h)
def Zm1(ta tb:TE):TE:=λσ H Q=>ta σ H λx H1=>∃ c,x=.bl c/\if c=true then tb σ H1 Q else Q (.bl false) H1
def Ztv(ta tb:TE):TE:=λσ H Q=>ta σ H λx H1=>∃ c,x=.bl c/\if c=true then Q (.bl true) H1 else tb σ H1 Q
def Zni(ta:TE):TE:=λσ H Q=>ta σ H λx H1=>∃ c,x=.bl c/\Q (.bl (!c)) H1
def Zrg{op}{t:TE}(h:PE X a t):PE X (.BoolOp op [a] pos) t:=λpins s σ H Q I hw=>BoolOp_one (h pins s σ H Q I hw)
def Zrr(ha:PE X a ta)(hb:PE X (.BoolOp .And (b :: rest) pos) tb):PE X (.BoolOp .And (a :: b :: rest) pos) (Zm1 ta tb):=by
 intro pins s σ H Q I h
 refine BoolOp_and (ZZ (ha pins s σ H _ I h) λv s1 ⟨x,H1,I1,r1,q1⟩=>?_)
 obtain⟨c,rfl,q1⟩:=q1
 cases r1
 refine VC ?_
 cases c with
 | true=>exact hb pins s1 σ H1 Q I1 q1
 | false=>exact⟨.bl false,H1,I1,rfl,q1⟩
def Zr4(ha:PE X a ta):PE X (.UnaryOp .Not a pos) (Zni ta):=by
 intro pins s σ H Q I h
 refine UnaryOp_ (ZZ (ha pins s σ H _ I h) λv s1 ⟨x,H1,I1,r1,q1⟩=>?_)
 obtain⟨c,rfl,q1⟩:=q1
 cases r1
 exact not_of (VC ⟨.bl (!c),H1,I1,rfl,q1⟩)
def tIf(t:TT)(ta tb:TE):TE:=λσ H Q=>t σ H λc H1=>if c=true then ta σ H1 Q else tb σ H1 Q
def ZnS{c:Expr}(hc:PT X c tA)(ha:PE X a ta)(hb:PE X b tb):PE X (.IfExp c a b pos) (tIf tA ta tb):=by
 intro pins s σ H Q I h
 refine wpAny_IfExp (ZZ (hc pins s σ H _ I h) λd s1 ⟨H1,I1,q1⟩=>?_)
 cases d with
 | true=>exact ha pins s1 σ H1 Q I1 q1
 | false=>exact hb pins s1 σ H1 Q I1 q1
end
def Jw(K:PySem.W.Frag)(H:Hp)(a:Addr)(xs:List V):Prop :=
 Rd H a (.lst xs) \/
  ∃ (o:Obj) (its:Array Value) (n:Nat),K.lookup a=some o/\o.cls=.type "list"/\o.dict=none/\o.data=.seq its n/\its.size<=sizeLine/\Zw xs its.toList
def SqT(K:PySem.W.Frag)(H:Hp)(a:Addr)(xs:List V):Prop :=
 Rd H a (.tup xs) \/
  ∃ (o:Obj) (its:Array Value) (n:Nat),K.lookup a=some o/\o.cls=.type "tuple"/\o.data=.seq its n/\its.size<=sizeLine/\Zw xs its.toList
def Zt3:Value->Option V
 | .none=>some .non
 | .bool b=>some (.bl b)
 | .int i _=>some (.int i)
 | .str x _=>some (.str x)
 | .bytes b _=>some (.byt b)
 | .float b _=>some (.flt b)
 | .ref a=>some (.ref a)
 | .type n=>some (.ty n)
 | _=>none
def ZF.abs{x:V}(r:ZF x u):Zt3 u=some x:=by
 cases x with
 | non=>cases r; rfl
 | bl _=>cases r; rfl
 | int _=>obtain⟨t,rfl⟩:=r; rfl
 | str _=>obtain⟨t,rfl⟩:=r; rfl
 | byt _=>obtain⟨t,rfl⟩:=r; rfl
 | flt _=>obtain⟨t,rfl⟩:=r; rfl
 | ref _=>cases r; rfl
 | ty _=>cases r; rfl
def ZF.inj{x y:V}(r:ZF x u)(q:ZF y u):x=y:=YT (r.abs.symm.trans q.abs)
def Zw.inj:∀ {xs ys:List V}{us:List Value},Zw xs us->Zw ys us->xs=ys
 | _,_,_,.nil,.nil=>rfl
 | _,_,_,.cons r t,.cons r' t'=>by rw [r.inj r',Zw.inj t t']
section
variable {X:Cx}{pins:List (Addr × Obj)}{σ:St}{H:Hp}{s:Shared}{a:Addr}{xs ys:List V}
theorem Jw.of{K:PySem.W.Frag}(h:H a=some (.lst xs)):Jw K H a xs:=.inl (.inl h)
theorem SqT.of{K:PySem.W.Frag}(h:H a=some (.tup xs)):SqT K H a xs:=.inl (.inl h)
theorem Inv.list(I:Inv X pins σ H s)(h:Jw X.K H a xs):∃ its:List Value,Zw xs its/\PlainL s.heap a its.toArray/\xs.length<=sizeLine:=by
 rcases h with h | ⟨o,its,n,hk,hc,hd,hs,hz,r⟩
 ·obtain⟨z,its,n,r,e⟩:=h.ok I.hok
  exact⟨its,r,⟨_,n,e,rfl,rfl,rfl⟩,z⟩
 ·refine⟨its.toList,r,⟨o,n,I.kIn a o hk,hc,hd,by simpa using hs⟩,?_⟩
  have e:=r.length
  simp only [Array.length_toList] at e
  omega
theorem Inv.tuple(I:Inv X pins σ H s)(h:SqT X.K H a xs):∃ its:List Value,Zw xs its/\IsTup s.heap a its.toArray/\xs.length<=sizeLine:=by
 rcases h with h | ⟨o,its,n,hk,hc,hs,hz,r⟩
 ·obtain⟨z,its,r,p⟩:=h.ok I.hok
  exact⟨its,r,p,z⟩
 ·refine⟨its.toList,r,⟨o,I.kIn a o hk,hc,n,by simpa using hs⟩,?_⟩
  have e:=r.length
  simp only [Array.length_toList] at e
  omega
def Inv.list_inj(I:Inv X pins σ H s)(h:Jw X.K H a xs)(h':Jw X.K H a ys):xs=ys:=by
 obtain⟨its,r,⟨o,n,e,_,_,d⟩,_⟩:=I.list h
 obtain⟨its',r',⟨o',n',e',_,_,d'⟩,_⟩:=I.list h'
 rw [e] at e'; cases e'
 rw [d] at d'
 injection d' with d1 _
 have:its=its':=by simpa using congrArg Array.toList d1
 subst this
 exact r.inj r'
def Inv.tuple_inj(I:Inv X pins σ H s)(h:SqT X.K H a xs)(h':SqT X.K H a ys):xs=ys:=by
 obtain⟨its,r,⟨o,e,_,n,d⟩,_⟩:=I.tuple h
 obtain⟨its',r',⟨o',e',_,n',d'⟩,_⟩:=I.tuple h'
 rw [e] at e'; cases e'
 rw [d] at d'
 injection d' with d1 _
 have:its=its':=by simpa using congrArg Array.toList d1
 subst this
 exact r.inj r'
end
abbrev Cx.wish(X:Cx)(E:VSP):Cx:={ X with xe:=E }
abbrev Cx.nox(X:Cx):Cx:=X.wish λ_ _=>False
def Cx.Ok.wish{X:Cx}(ok:X.Ok)(E:VSP):(X.wish E).Ok :=
 ⟨ok.mod,ok.kind,ok.glob,ok.blt,ok.above,ok.inj,ok.has,ok.cab,ok.hd,ok.frames,ok.stk,ok.exf,ok.bs,ok.bsz,ok.noex,ok.exfs,ok.funs,ok.frf⟩
def Cx.Ok.unwish{X:Cx}(ok:(X.wish E).Ok):X.Ok :=
 ⟨ok.mod,ok.kind,ok.glob,ok.blt,ok.above,ok.inj,ok.has,ok.cab,ok.hd,ok.frames,ok.stk,ok.exf,ok.bs,ok.bsz,ok.noex,ok.exfs,ok.funs,ok.frf⟩
section
variable {X:Cx}{pins:List (Addr × Obj)}{σ:St}{H:Hp}{s:Shared}{E:VSP}
def Inv.wish(I:Inv X pins σ H s)(E:VSP):Inv (X.wish E) pins σ H s:=⟨I.ok.wish E,I.os,I.bare,I.base,I.loc,I.cell,I.free,I.freeC,I.pin,I.hok,I.len⟩
def Inv.unwish(I:Inv (X.wish E) pins σ H s):Inv X pins σ H s:=⟨I.ok.unwish,I.os,I.bare,I.base,I.loc,I.cell,I.free,I.freeC,I.pin,I.hok,I.len⟩
def SP.unwish{D:Ends}{f:Flow}{s':Shared}(h:SP (X.wish E) pins D f s'):SP X pins D f s':=by
 cases f with
 | next=>obtain⟨σ',H',I,q⟩:=h; exact⟨σ',H',I.unwish,q⟩
 | brk=>obtain⟨σ',H',I,q⟩:=h; exact⟨σ',H',I.unwish,q⟩
 | cont=>obtain⟨σ',H',I,q⟩:=h; exact⟨σ',H',I.unwish,q⟩
 | ret u=>obtain⟨v,σ',H',I,r,q⟩:=h; exact⟨v,σ',H',I.unwish,r,q⟩
def PE.nox{e:Expr}{t:TE}(h:PE X.nox e t):PE X e t:=λpins s σ H Q I hw =>
 Yz (h pins s σ H Q (I.wish _) hw) (λ_ _ ⟨v,H',I',r,q⟩=>⟨v,H',I'.unwish,r,q⟩) λ_ _ z=>False.elim z
def PT.nox{e:Expr}{t:TT}(h:PT X.nox e t):PT X e t:=λpins s σ H Q I hw =>
 Yz (h pins s σ H Q (I.wish _) hw) (λ_ _ ⟨H',I',q⟩=>⟨H',I'.unwish,q⟩) λ_ _ z=>False.elim z
def PSs.nox{st:List Stmt}{t:TS}(h:PSs X.nox st t):PSs X st t:=λpins s σ H D I hw =>
 Yz (h pins s σ H D (I.wish _) hw) (λ_ _ q=>q.unwish) λ_ _ z=>False.elim z
end
section
variable {X:Cx}{st:Stmt}{rest:List Stmt}{t u:TS}{e:Expr}{te:TE}{pos:Pos}
def ZnE:TS:=λD σ H=>D.nx σ H
def Zrm(t u:TS):TS:=λD σ H=>t { D with nx:=u D } σ H
def Zpz:PSs X [] ZnE:=λ_ _ σ H _ I h=>wpAny_execs_nil ⟨σ,H,I,h⟩
def Zl7(h1:PS X st t)(h2:PSs X rest u):PSs X (st :: rest) (Zrm t u):=by
 intro pins s σ H D I h
 refine wpAny_execs_cons (ZZ (h1 pins s σ H { D with nx:=u D } I h) λf s1 q=>?_)
 cases f with
 | next =>
  obtain⟨σ',H',I',q⟩:=q
  exact h2 pins s1 σ' H' D I' q
 | ret v=>exact q
 | brk=>exact q
 | cont=>exact q
def Zpa(h1:PS X st t):PSs X [st] t:=by
 intro pins s σ H D I h
 refine wpAny_execs_cons (ZZ (h1 pins s σ H D I h) λf s1 q=>?_)
 cases f with
 | next=>exact wpAny_execs_nil q
 | ret v=>exact q
 | brk=>exact q
 | cont=>exact q
theorem Inv.quiet{pins:List (Addr × Obj)}{σ:St}(I:Inv X pins σ H s):interactive X.env=false:=by simp [interactive,I.ok.kind]
def Zmj(te:TE):TS:=λD σ H=>te σ H λ_ H1=>D.nx σ H1
def ZpP(he:PE X e te)(hs:swapsWith e none pos.line X.env=pure false:=by rfl):PS X (.Expr e pos) (Zmj te):=by
 intro pins s σ H D I h
 exact wpAny_Expr_any (ZZ (he pins s σ H _ I h) λv s1 ⟨x,H1,I1,r1,q1⟩=>⟨σ,H1,I1,q1⟩) I.quiet hs
def Zsr(te:TE):TS:=λD σ H=>te σ H D.rt
def Zsp(he:PE X e te):PS X (.Return (some e) pos) (Zsr te):=by
 intro pins s σ H D I h
 exact wpAny_Return_some (ZZ (he pins s σ H _ I h) λv s1 ⟨x,H1,I1,r1,q1⟩=>⟨x,σ,H1,I1,r1,q1⟩)
def ZmJ:TS:=λD _ H=>D.rt .non H
def ZoO:PS X (.Return none pos) ZmJ:=λ_ _ σ H _ I h=>wpAny_Return_none ⟨.non,σ,H,I,rfl,h⟩
def Zse(c:TT)(t u:TS):TS:=λD σ H=>c σ H λb H1=>if b=true then t D σ H1 else u D σ H1
def Ztg{c:Expr}{a b:List Stmt}{tc:TT}(hc:PT X c tc)(ha:PSs X a t)(hb:PSs X b u):PS X (.If c a b pos) (Zse tc t u):=by
 intro pins s σ H D I h
 refine wpAny_If (ZZ (hc pins s σ H _ I h) λd s1 ⟨H1,I1,q1⟩=>?_)
 cases d with
 | true=>exact ha pins s1 σ H1 D I1 q1
 | false=>exact hb pins s1 σ H1 D I1 q1
def Zod:TS:=λ_ _ _=>False
def Znn:PS X st Zod:=λ_ _ _ _ _ _ h=>h.elim
end
abbrev TG:=V->St->Hp->(St->Hp->Prop)->Prop
abbrev TGs:=List V->St->Hp->(St->Hp->Prop)->Prop
def PG(X:Cx)(target:Expr)(t:TG):Prop :=
 ∀ (pins:List (Addr × Obj)) (s:Shared) (σ:St) (H:Hp) (v:V) (u:Value) (Q:St->Hp->Prop),Inv X pins σ H s->ZF v u->t v σ H Q ->
  wpAny (model X.prog X.w) X.A (assign target X.env u) (λ_ s'=>∃ σ' H',Inv X pins σ' H' s'/\Q σ' H') X.xe s
def PGs(X:Cx)(ts:List Expr)(t:TGs):Prop :=
 ∀ (pins:List (Addr × Obj)) (s:Shared) (σ:St) (H:Hp) (vs:List V) (us:List Value) (Q:St->Hp->Prop),Inv X pins σ H s->Zw vs us->t vs σ H Q ->
  wpAny (model X.prog X.w) X.A (assignInOrder ((assignEach ts X.env).map (·.2)) us) (λ_ s'=>∃ σ' H',Inv X pins σ' H' s'/\Q σ' H') X.xe s
abbrev Zti:=V->V->V->Hp->(Hp->Prop)->Prop
def ZtM(X:Cx)(t:Zti):Prop :=
 ∀ (pins:List (Addr × Obj)) (s:Shared) (σ:St) (H:Hp) (o i v:V) (ov iv u:Value) (Q:Hp->Prop),Inv X pins σ H s->ZF o ov->ZF i iv->ZF v u->t o i v H Q ->
  wpAny (model X.prog X.w) X.A (setItem ov iv u) (λ_ s'=>∃ H',Inv X pins σ H' s'/\Q H') X.xe s
section
variable {X:Cx}{pos:Pos}
def JR(i:Nat):TG:=λv σ H Q=>Q (σ.set i (some v)) H
def Zpg{i:Nat}{x:Str}(hN:X.N.Nodup)(hi:X.N[i]?=some x)(hx:Loc X.env.scope x)(hf:X.fn x=true\/X.env.scope.names.lookup x=some .local:=by first | exact .inl rfl | exact .inr rfl | assumption):PG X (.Name x pos) (JR i):=by
 intro pins s σ H v u Q I r h
 exact wpAny_assign_Name (ZdK I hN hi hx r (λs' I'=>⟨_,H,I',h⟩) hf)
def ZsI:TGs:=λvs σ H Q=>vs=[]/\Q σ H
def Znh(t:TG)(u:TGs):TGs:=λvs σ H Q=>∃ v r,vs=v :: r/\t v σ H λσ' H'=>u r σ' H' Q
def Zo5:PGs X [] ZsI:=by
 intro pins s σ H vs us Q I r h
 obtain⟨e,h⟩:=h
 subst e
 cases r
 exact assignInOrder_nil ⟨σ,H,I,h⟩
def ZmG{e:Expr}{es:List Expr}{t:TG}{u:TGs}(h1:PG X e t)(h2:PGs X es u)
  (hs:(assignEach (e :: es) X.env).map (·.2)=assign e X.env :: (assignEach es X.env).map (·.2):=by rfl):PGs X (e :: es) (Znh t u):=by
 intro pins s σ H vs us Q I r h
 obtain⟨v,vr,e1,h⟩:=h
 subst e1
 cases r with
 | cons r rr =>
  rw [hs]
  refine assignInOrder_cons (ZZ (h1 pins s σ H _ _ _ I r h) λ_ s1 ⟨σ1,H1,I1,q1⟩=>?_)
  exact h2 pins s1 σ1 H1 _ _ Q I1 rr q1
def ZtR(K:PySem.W.Frag)(n:Nat)(t:TGs):TG:=λv σ H Q=>∃ a xs,v=.ref a/\SqT K H a xs/\xs.length=n/\t xs σ H Q
def Zrh{es:List Expr}{k:Nat}{t:TGs}{n:Nat}(hc:X.calm=true)(h:PGs X es t)
  (hn:(assignEach es X.env).length=n:=by rfl) (hst:(assignEach es X.env).findIdx? (·.1)=none:=by rfl):PG X (.Tuple es k pos) (ZtR X.K n t):=by
 intro pins s σ H v u Q I r hw
 obtain⟨a,xs,e1,hq,hl,hw⟩:=hw
 subst e1
 cases r
 obtain⟨its,rv,ht,hz⟩:=I.tuple hq
 refine assign_Tuple_tuple (I.ok.hd hc) ht (by simp [hn,<- hl,rv.length]) hst λh' hx=>?_
 have I1:Inv X pins σ H { s with heap:=h' }:=I.kept (t':=s.toks) λb o e=>hx b o (Ym (Yf e)) e
 exact h pins _ σ H xs _ Q I1 (by simpa using rv) hw
def Zsu(to ti:TE)(t:Zti):TG:=λv σ H Q=>to σ H λo H1=>ti σ H1 λi H2=>t o i v H2 λH3=>Q σ H3
def Zqw{o i:Expr}{to ti:TE}{t:Zti}(ho:PE X o to)(hi:PE X i ti)(hs:ZtM X t)
  (ha:∀ v,assign (.Subscript o i pos) X.env v=(do
   let ov <- holding [v] (eval o X.env)
   let iv <- holding [v,ov] (eval i X.env)
   standAt pos
   holding [v,ov,iv] (setItem ov iv v)
   release [v,ov,iv] []):=by intro _; rfl):PG X (.Subscript o i pos) (Zsu to ti t):=by
 intro pins s σ H v u Q I r h
 rw [ha]
 refine Ya (YM (ZZ (ho pins s σ H _ I h) λov s1 ⟨x,H1,I1,r1,q1⟩=>?_))
 refine Ya (YM (ZZ (hi pins s1 σ H1 _ I1 q1) λiv s2 ⟨y,H2,I2,r2,q2⟩=>?_))
 refine Ya (Yag (Ya (YM (ZZ (hs pins s2 σ H2 x y v ov iv u _ I2 r1 r2 r q2) λ_ s3 ⟨H3,I3,q3⟩=>?_))))
 exact wpAny_release ⟨σ,H3,I3,q3⟩
def Zl3(te:TE)(g:TG):TS:=λD σ H=>te σ H λx H1=>g x σ H1 D.nx
def Zq1{tg e:Expr}{te:TE}{g:TG}(he:PE X e te)(hg:PG X tg g)(hs:swapsWithSole [tg] e pos.line X.env=pure false:=by rfl)(hw:swappedStores [tg] e X.env=pure none:=by rfl)
  (h1:(assignEach [tg] X.env).map (·.2)=[assign tg X.env]:=by rfl):PS X (.Assign [tg] e pos) (Zl3 te g):=by
 intro pins s σ H D I h
 refine wpAny_Assign_stores (ZZ (he pins s σ H _ I h) λv s1 ⟨x,H1,I1,r1,q1⟩=>?_) hs hw
 rw [h1]
 exact ZZ (hg pins s1 σ H1 x v _ I1 r1 q1) λ_ s2 q=>q
def Zsl{i:Nat}{x:Str}{e:Expr}{te:TE}{pos':Pos}(hN:X.N.Nodup)(hi:X.N[i]?=some x)(hx:Loc X.env.scope x)(he:PE X e te)(hs:swapsWith e (some (.Name x pos')) pos.line X.env=pure false:=by rfl)(hf:X.fn x=true\/X.env.scope.names.lookup x=some .local:=by first | exact .inl rfl | exact .inr rfl | assumption) :
  PS X (.Assign [.Name x pos'] e pos) (Zl3 te (JR i)):=by
 intro pins s σ H D I h
 refine wpAny_Assign_Name (ZZ (he pins s σ H _ I h) λv s1 ⟨y,H1,I1,r1,q1⟩=>?_) hs
 exact ZdK I1 hN hi hx r1 (λs2 I2=>⟨_,H1,I2,q1⟩) hf
def Zsx(i j:Nat)(ta:TA):TS:=λD σ H=>ta σ H λvs H1=>∃ v w,vs=[v,w]/\D.nx ((σ.set i (some v)).set j (some w)) H1
def ZrU{i j:Nat}{x y:Str}{a b:Expr}{ta:TA}{px py pt:Pos}{kt k2 pt2}(hc:X.calm=true)(hN:X.N.Nodup)(hi:X.N[i]?=some x)(hj:X.N[j]?=some y)(hij:i ≠ j)
  (hx:X.env.scope.names.lookup x=some .local) (hy:X.env.scope.names.lookup y=some .local) (ha:PA X [a,b] ta)
  (hw:swappedStores [.Tuple [.Name x px,.Name y py] kt pt] (.Tuple [a,b] k2 pt2) X.env=pure (some [x,y]))
  (hs:swapsWithSole [.Tuple [.Name x px,.Name y py] kt pt] (.Tuple [a,b] k2 pt2) pos.line X.env=pure false:=by rfl) :
  PS X (.Assign [.Tuple [.Name x px,.Name y py] kt pt] (.Tuple [a,b] k2 pt2) pos) (Zsx i j ta):=by
 intro pins s σ H D I h
 rw [exec_Assign_arm]
 refine Ya (Yag ?_)
 rw [hs]
 refine Ya (Yb ?_)
 rw [if_neg (by decide)]
 refine Ya (Tuple_ (ZZ (ha _ pins s σ H _ I h) λus s1 ⟨vs,H1,I1,r1,q1⟩=>?_))
 obtain⟨v,w,e1,q1⟩:=q1
 subst e1
 obtain⟨u1,u2,rfl,rv,rw'⟩:∃ u1 u2,us=[u1,u2]/\ZF v u1/\ZF w u2:=by
  cases r1 with
  | cons p q =>
   cases q with
   | cons p' q' =>
    cases q'
    exact⟨_,_,rfl,p,p'⟩
 refine YW ?_ (by show 2<=sizeLine; decide)
 have I2:Inv X pins σ H1 { s1 with heap:=s1.heap.push { cls:=.type "tuple",data:=.seq [u1,u2].toArray } }:=I1.kept (t':=s1.toks) λb o e=>Yh _ e
 rw [hw]
 refine Ya (Yb ?_)
 show wpAny (model X.prog X.w) X.A (do rule "assign.swapped-stores"; let items <- unpackItems (.ref s1.heap.objs.size) 2 none; assignInOrder [λv=>bindName X.env y v,λv=>bindName X.env x v] items.reverse; pure Flow.next) _ _ _
 refine Ya (Vw (Ya (unpackItems_tuple (items:=#[u1,u2]) (I.ok.hd hc) (IsTup.new s1.heap _) λh' hx'=>?_)))
 have I3:=I2.kept (h':=h') (t':=s1.toks) λb o e=>hx' b o (Ym (Yf e)) e
 show wpAny _ _ (assignInOrder [λv=>bindName X.env y v,λv=>bindName X.env x v] [u2,u1] >>= λ_=>pure Flow.next) _ _ _
 refine Ya (assignInOrder_cons (wpAny_bindName (ZdK I3 hN hj (.inl hy) rw' (λs2 I4=>?_) (.inr hy))))
 refine assignInOrder_cons (wpAny_bindName (ZdK I4 hN hi (.inl hx) rv (λs3 I5=>assignInOrder_nil (Yb ?_)) (.inr hx)))
 rw [List.set_comm _ _ (Ne.symm hij)] at I5
 exact⟨_,H1,I5,q1⟩
def ZkX(c:TT)(tb:TS):TS:=λD σ H=>∃ W:Nat->St->Hp->Prop,(∃ m,W m σ H)/\∀ m σ H,W m σ H ->
 c σ H λb H1=>if b=true then ∃ N:St->Hp->Prop,(∀ σ' H',N σ' H'->∃ m',m' < m/\W m' σ' H')/\tb { D with nx:=N,ct:=N,bk:=D.nx } σ H1 else D.nx σ H1
def Zmq{c:Expr}{body:List Stmt}{tc:TT}{tb:TS}(hp:PassesOwn (model X.prog X.w) X.A X.env X.xe)(hc:PT X c tc)(hb:PSs X body tb):PS X (.While c body [] pos) (ZkX tc tb):=by
 intro pins s σ H D I h
 obtain⟨W,⟨m0,w0⟩,turn⟩:=h
 refine wpAny_While (codeAny_whileLoop (λn s'=>∃ σ' H',Inv X pins σ' H' s'/\W n σ' H') ?_ m0 ⟨σ,H,I,w0⟩)
 rintro n s1 ⟨σ1,H1,I1,w1⟩
 refine VG hp (ZZ (hc pins s1 σ1 H1 _ I1 (turn n σ1 H1 w1)) λb s2 ⟨H2,I2,q2⟩=>?_)
 cases b with
 | true =>
  obtain⟨N,hN,q2⟩:=q2
  rw [if_pos rfl]
  refine VG hp (ZZ (hb pins s2 σ1 H2 _ I2 q2) λf s3 q3=>?_)
  cases f with
  | next =>
   obtain⟨σ3,H3,I3,n3⟩:=q3
   obtain⟨m',hm,w3⟩:=hN σ3 H3 n3
   exact⟨m',hm,σ3,H3,I3,w3⟩
  | cont =>
   obtain⟨σ3,H3,I3,n3⟩:=q3
   obtain⟨m',hm,w3⟩:=hN σ3 H3 n3
   exact⟨m',hm,σ3,H3,I3,w3⟩
  | brk=>exact q3
  | ret v=>exact q3
 | false =>
  rw [if_neg YC]
  exact wpAny_execs_nil ⟨σ1,H2,I2,q2⟩
end
structure It where
 go:Nat->Hp->Prop
 yld:Nat->Hp->V->Hp->Prop
 stop:Nat->Hp->Prop
def JL(X:Cx)(pins:List (Addr × Obj))(H:Hp)(b:Addr):Prop :=
 H b=none/\b ≠ X.env.locals/\b ∉ X.fs/\(b∈X.ex\/X.s₀.heap.objs.size<=b)/\(∀ x c,X.env.cells.lookup x=some c->c ≠ b)/\∀ p∈X.pn ++ pins,p.1 ≠ b
variable {pins:List (Addr × Obj)}{σ:St}
def Inv.fpOk{X:Cx}{H H':Hp}{b:Addr}(I:Inv X pins σ H s)(hb:s.heap.objs.size<=b)(hn:H' b=none):JL X pins H' b:=by
 refine⟨hn,Vm (Yu I.lt hb),I.nofs hb,.inr (Yj I.sz hb),λx c e z=>?_,λp hp z=>?_⟩
 ·obtain⟨v,q⟩:=I.cell x c e
  exact absurd (Yu q.lt (by rw [z]; exact hb)) (Y1 _)
 ·exact absurd (Yu (Yf (I.pin p hp).1) (by rw [z]; exact hb)) (Y1 _)
structure Turn(P:Program)(w:World)(K:PySem.W.Frag)(tg:Expr)(J:It)(fp:List Addr)(it:Addr)(tn:Nat->Heap->Prop):Prop where
 mem:it∈fp
 obj:∀ i h,tn i h->∀ b∈fp,∃ o,h.get? b=some o/\∀ v,o.data ≠ .cell v
 keep:∀ i h h',tn i h->(∀ b∈fp,∀ o,h.get? b=some o->h'.get? b=some o)->tn i h'
 item:∀ (X:Cx),X.prog=P->X.w=w->X.K=K->X.calm=true->∀ (i:Nat) (pins:List (Addr × Obj)) (s:Shared) (σ:St) (H:Hp) (E:VSP),Inv X pins σ H s->(∀ b∈fp,JL X pins H b)->tn i s.heap->J.go i H ->
  wpAny (model P w) X.A (pyNext (.ref it)) (λr s1=>∃ u,r=some u /\
   wpAny (model P w) X.A (letOwnedTupleGo tg (.ref it) u) (λ_ s2=>∃ x H',Inv X pins σ H' s2/\ZF x u/\J.yld i H x H'/\tn (i + 1) s2.heap/\∀ b∈fp,H' b=none) E s1) E s
 done:∀ (X:Cx),X.prog=P->X.w=w->X.K=K->X.calm=true->∀ (i:Nat) (pins:List (Addr × Obj)) (s:Shared) (σ:St) (H:Hp) (E:VSP),Inv X pins σ H s->(∀ b∈fp,JL X pins H b)->tn i s.heap->J.stop i H ->
  wpAny (model P w) X.A (pyNext (.ref it)) (λr s1=>r=none/\Inv X pins σ H s1) E s
 self:∀ (A:Around) (i:Nat) (s:Shared) (Q:VSP) (E:VSP),tn i s.heap->Q (.ref it) s->wpAny (model P w) A (pyIter (.ref it)) Q E s
abbrev TI:=St->Hp->(It->Hp->Prop)->Prop
def PIE(X:Cx)(pins:List (Addr × Obj))(σ:St)(tg:Expr)(R:It->Hp->Prop)(itv:Value)(s2:Shared):Prop :=
 ∃ (it:Addr) (fp:List Addr) (tn:Nat->Heap->Prop) (J:It) (H':Hp),itv=.ref it/\Inv X pins σ H' s2/\Turn X.prog X.w X.K tg J fp it tn/\tn 0 s2.heap/\(∀ b∈fp,JL X pins H' b)/\R J H'
def PI(X:Cx)(tg iter:Expr)(wi:TI):Prop :=
 ∀ (pins:List (Addr × Obj)) (s:Shared) (σ:St) (H:Hp) (R:It->Hp->Prop),Inv X pins σ H s->wi σ H R ->
  wpAny (model X.prog X.w) X.A (eval iter X.env) (λv s1=>wpAny (model X.prog X.w) X.A (pyIter v) (PIE X pins σ tg R) X.xe s1) X.xe s
variable {Q:Unit->Shared->Prop}
def Znb{M:Model}{tg:Expr}{it:Addr}{o:Obj}{n:String}{vs:Array Value}(ho:s.heap.get? it=some o)(hc:o.cls=.type n)(hd:o.data=.fields vs)
    (hn:["enumerate","zip","dict_itemiterator","dict_reverseitemiterator","odict_iterator","itertools.zip_longest","itertools.pairwise"].contains n=false) (hQ:Q () s):wpAny M A (letOwnedTupleGo tg (.ref it) u) Q E s:=by
  unfold letOwnedTupleGo
  cases tg <;> first
    | exact Yb hQ
    | (cases u <;> first
        | exact Yb hQ
        | (refine Ya (VI ho ?_)
           rw [hc,hd]
           show wpAny M A (if (["enumerate","zip","dict_itemiterator","dict_reverseitemiterator","odict_iterator","itertools.zip_longest","itertools.pairwise"].contains n && vs[0]? == some (rawInt _))=true then _ else _) Q E s
           rw [if_neg (by intro h; rw [hn,Bool.false_and] at h; cases h)]
           exact Yb hQ))
def Itl(K:PySem.W.Frag)(a:Addr):It :=
 ⟨λi H=>∃ xs x,Jw K H a xs/\xs[i]?=some x,λi H x H'=>H'=H/\∀ xs,Jw K H a xs->xs[i]?=some x,λi H=>∃ xs,Jw K H a xs/\xs.length<=i⟩
def Itt(K:PySem.W.Frag)(a:Addr):It :=
 ⟨λi H=>∃ xs x,SqT K H a xs/\xs[i]?=some x,λi H x H'=>H'=H/\∀ xs,SqT K H a xs->xs[i]?=some x,λi H=>∃ xs,SqT K H a xs/\xs.length<=i⟩
def Itr(lo:Int)(n:Nat):It:=⟨λi _=>i < n,λi H x H'=>H'=H/\x=.int (lo + i),λi _=>n<=i⟩
variable {K:PySem.W.Frag}
def ZkR{tg:Expr}(a it:Addr):Turn P w K tg (Itl K a) [it] it (λi h=>h.IsListIter it a i) where
 mem:=by simp
 obj:=λi h st b hb=>by
  have e:b=it:=by simpa using hb
  subst e
  obtain⟨o,e,c,d⟩:=st
  exact⟨o,e,λv z=>by rw [d] at z; cases z⟩
 keep:=λi h h' st k=>st.at λo e=>k it (by simp) o e
 item:=by
  intro X hP hw hK hc i pins s σ H E I hf st hg
  subst hP hw hK
  obtain⟨xs,x,hq,hx⟩:=hg
  obtain⟨its,rv,p,hz⟩:=I.list hq
  obtain⟨u,hu,ru⟩:=rv.get hx
  obtain⟨f0,f1,f2,f3,f4,f5⟩:=hf it (by simp)
  refine wpAny_pyNext_list_item st p.isList (x:=u) (by simpa using hu) λh' st' sb=>?_
  have I1:Inv X pins σ H { s with heap:=h' }:=I.turned (t':=s.toks) (λb o hb e=>(sb.2 b hb).trans e) f0 f1 f3 f4 f5
  obtain⟨o,e,c,d⟩:=id st'
  exact⟨u,rfl,Znb (s:={ s with heap:=h' }) e c d (by decide) ⟨x,H,I1,ru,⟨rfl,λys hy=>by rw [I.list_inj hy hq]; exact hx⟩,st',λb hb=>(hf b hb).1⟩⟩
 done:=by
  intro X hP hw hK hc i pins s σ H E I hf st hg
  subst hP hw hK
  obtain⟨xs,hq,hx⟩:=hg
  obtain⟨its,rv,p,hz⟩:=I.list hq
  obtain⟨f0,f1,f2,f3,f4,f5⟩:=hf it (by simp)
  have hl:=rv.length
  exact wpAny_pyNext_list_end (I.ok.hd hc) st p.isList (by simp; omega) λh' eb=>⟨rfl,I.turned (t':=s.toks) (λb o hb e=>eb b o hb e) f0 f1 f3 f4 f5⟩
 self:=λ_ _ _ _ _ st h=>wpAny_pyIter_listiter st h
def Zjt{tg:Expr}(a it:Addr):Turn P w K tg (Itt K a) [it] it (λi h=>h.IsTupleIter it a i) where
 mem:=by simp
 obj:=λi h st b hb=>by
  have e:b=it:=by simpa using hb
  subst e
  obtain⟨o,e,c,d⟩:=st
  exact⟨o,e,λv z=>by rw [d] at z; cases z⟩
 keep:=λi h h' st k=>st.at λo e=>k it (by simp) o e
 item:=by
  intro X hP hw hK hc i pins s σ H E I hf st hg
  subst hP hw hK
  obtain⟨xs,x,hq,hx⟩:=hg
  obtain⟨its,rv,p,hz⟩:=I.tuple hq
  obtain⟨u,hu,ru⟩:=rv.get hx
  obtain⟨f0,f1,f2,f3,f4,f5⟩:=hf it (by simp)
  refine wpAny_pyNext_tuple_item st (show s.heap.IsTuple a its.toArray from p) (x:=u) (by simpa using hu) λh' st' sb=>?_
  have I1:Inv X pins σ H { s with heap:=h' }:=I.turned (t':=s.toks) (λb o hb e=>(sb.2 b hb).trans e) f0 f1 f3 f4 f5
  obtain⟨o,e,c,d⟩:=id st'
  exact⟨u,rfl,Znb (s:={ s with heap:=h' }) e c d (by decide) ⟨x,H,I1,ru,⟨rfl,λys hy=>by rw [I.tuple_inj hy hq]; exact hx⟩,st',λb hb=>(hf b hb).1⟩⟩
 done:=by
  intro X hP hw hK hc i pins s σ H E I hf st hg
  subst hP hw hK
  obtain⟨xs,hq,hx⟩:=hg
  obtain⟨its,rv,p,hz⟩:=I.tuple hq
  obtain⟨f0,f1,f2,f3,f4,f5⟩:=hf it (by simp)
  have hl:=rv.length
  exact wpAny_pyNext_tuple_end (I.ok.hd hc) st (show s.heap.IsTuple a its.toArray from p) (by simp; omega) λh' eb=>⟨rfl,I.turned (t':=s.toks) (λb o hb e=>eb b o hb e) f0 f1 f3 f4 f5⟩
 self:=λ_ _ _ _ _ st h=>wpAny_pyIter_tupleiter st h
def ZiT{tg:Expr}(it:Addr)(lo:Int)(n:Nat):Turn P w K tg (Itr lo n) [it] it (λi h=>IsRangeIter h it (lo + (i:Nat) * 1) ((n:Int) - (i:Nat)) 1) where
 mem:=by simp
 obj:=λi h st b hb=>by
  have e:b=it:=by simpa using hb
  subst e
  exact⟨_,st,λv z=>by
   have z':Data.fields _=Data.cell v:=z
   cases z'⟩
 keep:=λi h h' st k=>k it (by simp) _ st
 item:=by
  intro X hP hw hK hc i pins s σ H E I hf st hg
  subst hP hw hK
  obtain⟨f0,f1,f2,f3,f4,f5⟩:=hf it (by simp)
  have W:=Walks.range (prog:=X.prog) (w:=X.w) (I.ok.hd hc) it lo 1 n
  refine W.item i s _ _ hg st λv h' tk hv st' kk=>?_
  obtain⟨t,rfl⟩:=hv
  have I1:Inv X pins σ H { s with heap:=h',toks:=tk }:=I.turned (λb o hb e=>kk b o (by simpa using hb) e) f0 f1 f3 f4 f5
  refine⟨_,rfl,Znb (s:={ s with heap:=h',toks:=tk }) (n:="range_iterator") st' rfl rfl (by decide) ⟨.int (lo + i),H,I1,⟨t,?_⟩,⟨rfl,rfl⟩,st',λb hb=>(hf b hb).1⟩⟩
  rw [Int.mul_one]
 done:=by
  intro X hP hw hK hc i pins s σ H E I hf st hg
  subst hP hw hK
  obtain⟨f0,f1,f2,f3,f4,f5⟩:=hf it (by simp)
  exact wpAny_pyNext_range_end (I.ok.hd hc) st (by have:n<=i:=hg; omega) λh' eb=>⟨rfl,I.turned (t':=s.toks) (λb o hb e=>eb b o hb e) f0 f1 f3 f4 f5⟩
 self:=λ_ _ _ _ _ st h=>wpAny_pyIter_rangeiter st h
section
variable {X:Cx}{tg:Expr}
def Zc6(K:PySem.W.Frag)(tl:TE):TI:=λσ H R=>tl σ H λx H1=>∃ a,x=.ref a/\(∃ xs,Jw K H1 a xs)/\R (Itl K a) H1
def Zs5(K:PySem.W.Frag)(tl:TE):TI:=λσ H R=>tl σ H λx H1=>∃ a,x=.ref a/\(∃ xs,SqT K H1 a xs)/\R (Itt K a) H1
def ZpU{l:Expr}{tl:TE}(hl:PE X l tl):PI X tg l (Zc6 X.K tl):=by
 intro pins s σ H R I h
 refine ZZ (hl pins s σ H _ I h) λv s1 ⟨x,H1,I1,r1,q1⟩=>?_
 obtain⟨a,e,⟨xs,hq⟩,q⟩:=q1
 subst e
 cases r1
 obtain⟨its,rv,p,hz⟩:=I1.list hq
 refine wpAny_pyIter_list p.isList ?_
 refine⟨s1.heap.objs.size,[s1.heap.objs.size],_,_,H1,rfl,I1.kept (t':=s1.toks) λb o e=>Yh _ e,ZkR a _,⟨_,Yo _ rfl,rfl,rfl⟩,λb hb=>?_,q⟩
 have e:b=s1.heap.objs.size:=by simpa using hb
 subst e
 exact I1.fpOk (Yd _) (I1.hok.fresh (Yd _))
def ZrC{l:Expr}{tl:TE}(hl:PE X l tl):PI X tg l (Zs5 X.K tl):=by
 intro pins s σ H R I h
 refine ZZ (hl pins s σ H _ I h) λv s1 ⟨x,H1,I1,r1,q1⟩=>?_
 obtain⟨a,e,⟨xs,hq⟩,q⟩:=q1
 subst e
 cases r1
 obtain⟨its,rv,p,hz⟩:=I1.tuple hq
 refine wpAny_pyIter_tuple (show s1.heap.IsTuple a its.toArray from p) ?_
 refine⟨s1.heap.objs.size,[s1.heap.objs.size],_,_,H1,rfl,I1.kept (t':=s1.toks) λb o e=>Yh _ e,Zjt a _,⟨_,Yo _ rfl,rfl,rfl⟩,λb hb=>?_,q⟩
 have e:b=s1.heap.objs.size:=by simpa using hb
 subst e
 exact I1.fpOk (Yd _) (I1.hok.fresh (Yd _))
theorem Zid{R:It->Hp->Prop}{lo hi:Int}{t u v:Tok}{tk:Nat}(I:Inv X pins σ H s)(h1:-(2 ^ 62)<=lo)(h2:lo < 2 ^ 62)(h3:-(2 ^ 62)<=hi)(h4:hi < 2 ^ 62)
  (q:R (Itr lo (hi - lo).toNat) H):wpAny (model X.prog X.w) X.A (pyIter (.ref s.heap.objs.size)) (PIE X pins σ tg R) E { s with heap:=s.heap.push { cls:=.type "range",data:=.fields #[.int lo t,.int hi u,.int 1 v] },toks:=tk }:=by
 refine wpAny_pyIter_range (IsRange.new ..) (small_one h1 h2 h3 h4) ?_
 have I1:Inv X pins σ H { s with heap:=s.heap.push { cls:=.type "range",data:=.fields #[.int lo t,.int hi u,.int 1 v] },toks:=tk }:=I.kept λb o e=>Yh _ e
 refine⟨(s.heap.push { cls:=.type "range",data:=.fields #[.int lo t,.int hi u,.int 1 v] }).objs.size,[(s.heap.push { cls:=.type "range",data:=.fields #[.int lo t,.int hi u,.int 1 v] }).objs.size],_,_,H,rfl,
  I1.kept (t':=tk) λb o e=>Yh _ e,ZiT _ lo (hi - lo).toNat,?_,λb hb=>?_,q⟩
 ·have e1:lo + ((0:Nat):Int) * 1=lo:=by simp
  have e2:(((hi - lo).toNat:Nat):Int) - ((0:Nat):Int)=Builtin.Range.rangeSize lo hi 1:=by rw [rangeSize_one]; split <;> omega
  show IsRangeIter _ _ (lo + ((0:Nat):Int) * 1) ((((hi - lo).toNat:Nat):Int) - ((0:Nat):Int)) 1
  rw [e1,e2]
  exact Yo _ rfl
 ·have e:b=(s.heap.push { cls:=.type "range",data:=.fields #[.int lo t,.int hi u,.int 1 v] }).objs.size:=by simpa using hb
  subst e
  exact I1.fpOk (Yd _) (I1.hok.fresh (Yd _))
def ZiV(ta:TA):TI:=λσ H R=>ta σ H λvs H1=>∃ j:Int,vs=[.int j]/\-(2 ^ 62)<=j/\j < 2 ^ 62/\R (Itr 0 j.toNat) H1
def Zpl(ta:TA):TI:=λσ H R=>ta σ H λvs H1=>∃ i j:Int,vs=[.int i,.int j]/\(-(2 ^ 62)<=i/\i < 2 ^ 62/\-(2 ^ 62)<=j/\j < 2 ^ 62)/\R (Itr i (j - i).toNat) H1
def Zj7{a:Expr}{ta:TA}{p pos:Pos}(hg:Gl X "range")(hm:X.mg "range"=none)(ha:PA X [a] ta)(hs:starEach [a] X.env=[(false,eval a X.env)]:=by rfl):PI X tg (.Call (.Name "range" p) [a] [] pos) (ZiV ta):=by
 intro pins s σ H R I h
 refine Call_ (Zbq I hg hm boot_range (Vb (ZZ (ha pos pins s σ H _ I h) λus s1 ⟨vs,H1,I1,r1,q1⟩=>?_) hs rfl))
 obtain⟨j,e,q1,q2,q⟩:=q1
 subst e
 cases r1 with
 | cons r rr =>
  cases rr
  obtain⟨t,rfl⟩:=r
  exact call_range_1 (Zid I1 (by omega) (by omega) q1 q2 (by simpa using q))
def ZlS{a b:Expr}{ta:TA}{p pos:Pos}(hg:Gl X "range")(hm:X.mg "range"=none)(ha:PA X [a,b] ta)(hs:starEach [a,b] X.env=[(false,eval a X.env),(false,eval b X.env)]:=by rfl)(hs2:starEach [b] X.env=[(false,eval b X.env)]:=by rfl) :
  PI X tg (.Call (.Name "range" p) [a,b] [] pos) (Zpl ta):=by
 intro pins s σ H R I h
 refine Call_ (Zbq I hg hm boot_range (Vb (ZZ (ha pos pins s σ H _ I h) λus s1 ⟨vs,H1,I1,r1,q1⟩=>?_) (by rw [hs,hs2]) (by rw [hs2]; rfl)))
 obtain⟨i,j,e,⟨q1,q2,q3,q4⟩,q⟩:=q1
 subst e
 cases r1 with
 | cons r rr =>
  cases rr with
  | cons r' rr =>
   cases rr
   obtain⟨t,rfl⟩:=r
   obtain⟨t',rfl⟩:=r'
   exact call_range_2 (Zid I1 q1 q2 q3 q4 q)
def Zl1(wi:TI)(g:TG)(tb:TS):TS:=λD σ H=>wi σ H λJ H1=>∃ W:Nat->Nat->St->Hp->Prop,(∃ m,W 0 m σ H1)/\∀ i m σ H,W i m σ H ->
 (J.stop i H/\D.nx σ H)\/(J.go i H/\∃ N:St->Hp->Prop,(∀ σ' H',N σ' H'->∃ m',m' < m/\W (i + 1) m' σ' H')/\∀ x H',J.yld i H x H'->g x σ H' λσ2 H2=>tb { D with nx:=N,ct:=N,bk:=D.nx } σ2 H2)
def Zip(fp:List Addr)(h:Heap):List (Addr × Obj):=fp.filterMap λb=>(h.get? b).map λo=>(b,o)
def Zbc{fp:List Addr}{h:Heap}{b:Addr}{o:Obj}(hb:b∈fp)(e:h.get? b=some o):(b,o)∈Zip fp h:=List.mem_filterMap.mpr ⟨b,hb,by rw [e]; rfl⟩
def ZjJ{fp:List Addr}{h:Heap}{p:Addr × Obj}(hp:p∈Zip fp h):p.1∈fp/\h.get? p.1=some p.2:=by
 obtain⟨b,hb,e⟩:=List.mem_filterMap.mp hp
 cases q:h.get? b with
 | none=>rw [q] at e; cases e
 | some o =>
  rw [q] at e
  have e':(b,o)=p:=YT e
  subst e'
  exact⟨hb,q⟩
def Inv.pinned{fp:List Addr}(I:Inv X pins σ H s)(hf:∀ b∈fp,JL X pins H b)(ho:∀ b∈fp,∃ o,s.heap.get? b=some o/\∀ v,o.data ≠ .cell v):Inv X (pins ++ Zip fp s.heap) σ H s :=
 I.pins_of λp hp=>(Yw.mp hp).elim (λz=>I.pin p (Yy _ z)) λz=>by
  obtain⟨hb,e⟩:=ZjJ z
  obtain⟨f0,f1,f2,_⟩:=hf p.1 hb
  obtain⟨o,e',d⟩:=ho p.1 hb
  rw [e] at e'; cases e'
  exact⟨e,f0,f1,f2,d⟩
def Inv.unpinned{pins pl:List (Addr × Obj)}(I:Inv X (pins ++ pl) σ H s):Inv X pins σ H s:=I.pins_of λp hp=>I.pin p (Yy _ (Vx _ hp))
def ZqR{iter:Expr}{body:List Stmt}{wi:TI}{g:TG}{tb:TS}{pos:Pos}(hp:PassesOwn (model X.prog X.w) X.A X.env X.xe)(hc:X.calm=true)(hi:PI X tg iter wi)(hg:PG X tg g)(hb:PSs X body tb)
  (hs:∀ x,foldedSetIterable iter X.env x=pure x:=by intro _; rfl):PS X (.For tg iter body [] pos) (Zl1 wi g tb):=by
 intro pins s σ H D I h
 refine wpAny_For (ZZ (hi pins s σ H _ I h) λv s1 h1=>ZZ h1 λitv s2 h2=>?_) hs
 obtain⟨it,fp,tn,J,H2,e,I2,T,st2,f2,W,⟨m0,w0⟩,turn⟩:=h2
 subst e
 -- what stays true of the iterator's objects through the loop
 have stat:∀ {H':Hp},(∀ b∈fp,H' b=none)->∀ b∈fp,JL X pins H' b:=λhn b hb=>⟨hn b hb,(f2 b hb).2⟩
 refine codeAny_forLoop_any (λn s'=>∃ i σ' H',Inv X pins σ' H' s'/\tn i s'.heap/\(∀ b∈fp,H' b=none)/\W i n σ' H') ?_ m0 ⟨0,σ,H2,I2,st2,λb hb=>(f2 b hb).1,w0⟩
 rintro n s3 ⟨i,σ3,H3,I3,st3,fr3,w3⟩
 rcases turn i n σ3 H3 w3 with ⟨stop,qn⟩ | ⟨go,N,hN,step⟩
 ·refine VG hp (ZZ (T.done X rfl rfl rfl hc i pins s3 σ3 H3 X.xe I3 (stat fr3) st3 stop) λr s4 ⟨hr,I4⟩=>?_)
  subst hr
  exact wpAny_execs_nil ⟨σ3,H3,I4,qn⟩
 ·refine VG hp (ZZ (T.item X rfl rfl rfl hc i pins s3 σ3 H3 X.xe I3 (stat fr3) st3 go) λr s4 ⟨u,hr,h4⟩=>?_)
  subst hr
  refine VG hp (ZZ h4 λ_ s5 ⟨x,H5,I5,r5,y5,st5,fr5⟩=>?_)
  have I5':=I5.pinned (stat fr5) (T.obj _ _ st5)
  refine VG hp (ZZ (hg _ s5 σ3 H5 x u _ I5' r5 (step x H5 y5)) λ_ s6 ⟨σ6,H6,I6,q6⟩=>?_)
  refine VG hp (ZZ (hb _ s6 σ6 H6 _ I6 q6) λf s7 q7=>?_)
  have again:∀ {σ7:St}{H7:Hp},Inv X (pins ++ Zip fp s5.heap) σ7 H7 s7->N σ7 H7->∃ m,m < n/\∃ i σ' H',Inv X pins σ' H' s7/\tn i s7.heap/\(∀ b∈fp,H' b=none)/\W i m σ' H':=λ{σ7 H7} I7 n7=>by
   obtain⟨m',hm,w7⟩:=hN σ7 H7 n7
   refine⟨m',hm,i + 1,σ7,H7,I7.unpinned,T.keep _ _ _ st5 λb hb o e=>(I7.pin (b,o) (Yy _ (Yy _ (Zbc hb e)))).1,λb hb=>?_,w7⟩
   obtain⟨o,e,d⟩:=T.obj _ _ st5 b hb
   exact (I7.pin (b,o) (Yy _ (Yy _ (Zbc hb e)))).2.1
  cases f with
  | next=>obtain⟨σ7,H7,I7,n7⟩:=q7; exact again I7 n7
  | cont=>obtain⟨σ7,H7,I7,n7⟩:=q7; exact again I7 n7
  | brk=>obtain⟨σ7,H7,I7,q7⟩:=q7; exact⟨σ7,H7,I7.unpinned,q7⟩
  | ret v=>obtain⟨x7,σ7,H7,I7,r7,q7⟩:=q7; exact⟨x7,σ7,H7,I7.unpinned,r7,q7⟩
end
def ZiD{a:Addr}{xs:List V}{g:TG}{tb:TS}{D:Ends}(Pv:Nat->St->Hp->Prop)(h0:Pv 0 σ H)(hl:∀ i σ H,i<=xs.length->Pv i σ H->Jw K H a xs)
  (hs:∀ i x σ H,xs[i]?=some x->Pv i σ H->g x σ H λσ2 H2=>tb { D with nx:=Pv (i + 1),ct:=Pv (i + 1),bk:=D.nx } σ2 H2) (hd:∀ σ H,Pv xs.length σ H->D.nx σ H) :
  ∃ W:Nat->Nat->St->Hp->Prop,(∃ m,W 0 m σ H)/\∀ i m σ H,W i m σ H ->
   ((Itl K a).stop i H/\D.nx σ H)\/((Itl K a).go i H/\∃ N:St->Hp->Prop,(∀ σ' H',N σ' H'->∃ m',m' < m/\W (i + 1) m' σ' H')/\∀ x H',(Itl K a).yld i H x H'->g x σ H' λσ2 H2=>tb { D with nx:=N,ct:=N,bk:=D.nx } σ2 H2):=by
 refine⟨λi m σ H=>m=xs.length - i/\i<=xs.length/\Pv i σ H,⟨xs.length,by simp,Nat.zero_le _,h0⟩,?_⟩
 rintro i m σ H ⟨rfl,hi,p⟩
 have q:=hl i σ H hi p
 by_cases hlt:i < xs.length
 ·refine .inr ⟨⟨xs,xs[i],q,by simp [hlt]⟩,Pv (i + 1),λσ' H' p'=>⟨xs.length - (i + 1),by omega,rfl,hlt,p'⟩,λx H' y=>?_⟩
  obtain⟨e,y⟩:=y
  subst e
  exact hs i x σ _ (y xs q) p
 ·have e:i=xs.length:=by omega
  subst e
  exact .inl ⟨⟨xs,q,Yd _⟩,hd σ H p⟩
abbrev R2:=V->V->Hp->VK->Prop
def OpR(X:Cx)(f:Value->Value->Sem Value)(r:R2):Prop :=
 ∀ (pins:List (Addr × Obj)) (s:Shared) (σ:St) (H:Hp) (x y:V) (v u:Value) (Q:VK),Inv X pins σ H s->ZF x v->ZF y u->r x y H Q ->
  wpAny (model X.prog X.w) X.A (f v u) (EP X pins σ Q) X.xe s
def UnR(X:Cx)(f:Value->Sem Value)(r:V->Hp->VK->Prop):Prop :=
 ∀ (pins:List (Addr × Obj)) (s:Shared) (σ:St) (H:Hp) (x:V) (v:Value) (Q:VK),Inv X pins σ H s->ZF x v->r x H Q ->
  wpAny (model X.prog X.w) X.A (f v) (EP X pins σ Q) X.xe s
def Jn(X:Cx)(f:Value)(r:List V->Hp->VK->Prop):Prop :=
 ∀ (pins:List (Addr × Obj)) (s:Shared) (σ:St) (H:Hp) (xs:List V) (us:List Value) (Q:VK),Inv X pins σ H s->Zw xs us->r xs H Q ->
  wpAny (model X.prog X.w) X.A (call f us) (EP X pins σ Q) X.xe s
def tOp(r:R2)(ta tb:TE):TE:=λσ H Q=>ta σ H λx H1=>tb σ H1 λy H2=>r x y H2 Q
def tUn(r:V->Hp->VK->Prop)(ta:TE):TE:=λσ H Q=>ta σ H λx H1=>r x H1 Q
def rI(C:Int->Int->Prop)(g:Int->Int->V):R2:=λx y H Q=>∃ i j,x=.int i/\y=.int j/\C i j/\Q (g i j) H
def rI0(g:Int->Int->V):R2:=λx y H Q=>∃ i j,x=.int i/\y=.int j/\Q (g i j) H
def rU(g:Int->V):V->Hp->VK->Prop:=λx H Q=>∃ i,x=.int i/\Q (g i) H
section
variable {X:Cx}{a b c:Expr}{ta tb tc:TE}{pos:Pos}
def Zto(ha:PE X a ta)(hb:PE X b tb){pins:List (Addr × Obj)}{s:Shared}{σ:St}{H:Hp}{R:V->V->Hp->Prop}(I:Inv X pins σ H s)
  (h:ta σ H λx H1=>tb σ H1 λy H2=>R x y H2) {Q:VSP}{f:Value->Value->Sem Value}
  (hf:∀ v u s2 x y H2,Inv X pins σ H2 s2->ZF x v->ZF y u->R x y H2->wpAny (model X.prog X.w) X.A (f v u) Q X.xe s2) :
  wpAny (model X.prog X.w) X.A (eval a X.env) (λv s₁=>wpAny (model X.prog X.w) X.A (eval b X.env) (λu s₂=>wpAny (model X.prog X.w) X.A (f v u) Q X.xe s₂) X.xe s₁) X.xe s:=by
 refine ZZ (ha pins s σ H _ I h) λv s1 ⟨x,H1,I1,r1,q1⟩=>?_
 refine ZZ (hb pins s1 σ H1 _ I1 q1) λu s2 ⟨y,H2,I2,r2,q2⟩=>?_
 exact hf v u s2 x y H2 I2 r1 r2 q2
def ZdZ{op:Operator}{r:R2}(ho:OpR X (binaryOp op) r)(ha:PE X a ta)(hb:PE X b tb):PE X (.BinOp a op b pos) (tOp r ta tb):=by
 intro pins s σ H Q I h
 exact wpAny_BinOp (Zto ha hb I h λv u s2 x y H2 I2 rx ry q=>ho pins s2 σ H2 x y v u Q I2 rx ry q)
def Zs1{op:UnaryOp}{r:V->Hp->VK->Prop}(ho:UnR X (unaryOp op) r)(ha:PE X a ta):PE X (.UnaryOp op a pos) (tUn r ta):=by
 intro pins s σ H Q I h
 exact UnaryOp_ (ZZ (ha pins s σ H _ I h) λv s1 ⟨x,H1,I1,r1,q1⟩=>ho pins s1 σ H1 x v Q I1 r1 q1)
def opI{f:Value->Value->Sem Value}{C:Int->Int->Prop}{g:Int->Int->Int}
  (rule:∀ (i j:Int) (t u:Tok) (s:Shared) (Q:VSP) (E:VSP),C i j->Q (.int (g i j) s.toks) { s with toks:=s.toks + 1 }->wpAny (model X.prog X.w) X.A (f (.int i t) (.int j u)) Q E s) :
  OpR X f (rI C λi j=>.int (g i j)):=by
 intro pins s σ H x y v u Q I rx ry h
 obtain⟨i,j,rfl,rfl,hc,q⟩:=h
 obtain⟨t,rfl⟩:=rx
 obtain⟨t',rfl⟩:=ry
 exact rule i j t t' s _ _ hc ⟨.int (g i j),H,I.tok _,⟨_,rfl⟩,q⟩
def Ztx{f:Value->Value->Sem Value}{g:Int->Int->Int}
  (rule:∀ (i j:Int) (t u:Tok) (s:Shared) (Q:VSP) (E:VSP),Q (.int (g i j) s.toks) { s with toks:=s.toks + 1 }->wpAny (model X.prog X.w) X.A (f (.int i t) (.int j u)) Q E s) :
  OpR X f (rI0 λi j=>.int (g i j)):=by
 intro pins s σ H x y v u Q I rx ry h
 obtain⟨i,j,rfl,rfl,q⟩:=h
 obtain⟨t,rfl⟩:=rx
 obtain⟨t',rfl⟩:=ry
 exact rule i j t t' s _ _ ⟨.int (g i j),H,I.tok _,⟨_,rfl⟩,q⟩
def ZsJ{f:Value->Value->Sem Value}{g:Int->Int->Bool}
  (rule:∀ (i j:Int) (t u:Tok) (s:Shared) (Q:VSP) (E:VSP),Q (.bool (g i j)) s->wpAny (model X.prog X.w) X.A (f (.int i t) (.int j u)) Q E s) :
  OpR X f (rI0 λi j=>.bl (g i j)):=by
 intro pins s σ H x y v u Q I rx ry h
 obtain⟨i,j,rfl,rfl,q⟩:=h
 obtain⟨t,rfl⟩:=rx
 obtain⟨t',rfl⟩:=ry
 exact rule i j t t' s _ _ ⟨.bl (g i j),H,I,rfl,q⟩
def Zsy(i j:Int):Prop:=0 < j/\j < 1073741824
def Zsw(i j:Int):Prop:=0<=j/\j<=1000000/\i.natAbs < 2 ^ 64
def ZpW(i j:Int):Prop:=(-(2 ^ 64) < i/\i < 2 ^ 64)\/(-(2 ^ 64) < j/\j < 2 ^ 64)
theorem ZpW.ok{i j:Int}(h:ZpW i j):IntMulOk i j:=by
 rcases h with ⟨h1,h2⟩ | ⟨h1,h2⟩
 ·exact .of_left (intBits_le_64 h1 h2)
 ·exact .of_right (intBits_le_64 h1 h2)
def Zq3:OpR X (binaryOp .Add) (rI0 λi j=>.int (i + j)):=Ztx λ_ _ _ _ _ _ _ q=>add_int q
def Zr1:OpR X (binaryOp .Sub) (rI0 λi j=>.int (i - j)):=Ztx λ_ _ _ _ _ _ _ q=>sub_int q
def Zq7:OpR X (binaryOp .Mult) (rI ZpW λi j=>.int (i * j)):=opI λ_ _ _ _ _ _ _ hc q=>mul_int q hc.ok
def Zo9:OpR X (binaryOp .FloorDiv) (rI Zsy λi j=>.int (i / j)):=opI λi j _ _ _ _ _ hc q=>by
 have h1:(0:Int) < j:=hc.1
 have h2:j < 1073741824:=hc.2
 exact floordiv_int (by omega) (by rw [Yaj i (by omega)]; exact q) (.inl (PyProof.noPylong_small (by omega)))
def ZqH:OpR X (binaryOp .Mod) (rI (λ_ j=>0 < j) λi j=>.int (i % j)):=opI λi j _ _ _ _ _ hc q=>by
 have h1:(0:Int) < j:=hc
 exact mod_int' (by omega) (by rw [Int.fmod_eq_emod_of_nonneg i (by omega)]; exact q)
def ZqI:OpR X (binaryOp .Pow) (rI Zsw λi j=>.int (i ^ j.toNat)):=opI λ_ _ _ _ _ _ _ hc q=>pow_int_small hc.1 hc.2.1 hc.2.2 q
def unI{f:Value->Sem Value}{g:Int->Int}
  (rule:∀ (i:Int) (t:Tok) (s:Shared) (Q:VSP) (E:VSP),Q (.int (g i) s.toks) { s with toks:=s.toks + 1 }->wpAny (model X.prog X.w) X.A (f (.int i t)) Q E s) :
  UnR X f (rU λi=>.int (g i)):=by
 intro pins s σ H x v Q I rx h
 obtain⟨i,rfl,q⟩:=h
 obtain⟨t,rfl⟩:=rx
 exact rule i t s _ _ ⟨.int (g i),H,I.tok _,⟨_,rfl⟩,q⟩
def Zr3:UnR X (unaryOp .USub) (rU λi=>.int (-i)):=unI λ_ _ _ _ _ q=>neg_int q
end
def ZsE:V->V->Bool
 | .non,.non=>true | .non,.int _=>true | .int _,.non=>true | .non,.bl _=>true | .bl _,.non=>true | .non,.str _=>true | .str _,.non=>true
 | .int _,.int _=>true | .bl _,.bl _=>true | .str _,.str _=>true | .byt _,.byt _=>true
 | .int _,.str _=>true | .str _,.int _=>true | .bl _,.str _=>true | .str _,.bl _=>true
 | _,_=>false
def rEq:R2:=λx y H Q=>ZsE x y=true/\Q (.bl (decide (x=y))) H
def rNe:R2:=λx y H Q=>ZsE x y=true/\Q (.bl (!decide (x=y))) H
def Zj8{i j:Int}:decide (V.int i=V.int j)=(i == j):=by
 rw [VF]
 simp
def ZoL{i j:Bool}:decide (V.bl i=V.bl j)=(i == j):=by
 rw [VF]
 simp
def Zlg{i j:Str}:decide (V.str i=V.str j)=(i == j):=by
 rw [VF]
 simp
def Zkp{i j:Array UInt8}:decide (V.byt i=V.byt j)=(i.toList == j.toList):=by
 rw [VF]
 cases i
 cases j
 simp
section
variable {X:Cx}{a b c:Expr}{ta tb tc:TE}{pos:Pos}
theorem ZP{Q:VK}{k k':Bool}(I:Inv X pins σ H s)(q:Q (.bl k) H)(e:k=k'):EP X pins σ Q (.bool k') s:=by
 subst e
 exact⟨.bl k,H,I,rfl,q⟩
def Zq6:OpR X (compareOp .Eq) rEq:=by
 intro pins s σ H x y v u Q I rx ry h
 obtain⟨hs,q⟩:=h
 cases x with
 | non =>
  cases rx
  cases y with
  | non=>cases ry; exact PySem.EqNone.eq_none_none (ZP I q (by simp))
  | bl j=>cases ry; exact PySem.EqNone.eq_none_bool (ZP I q (by simp))
  | int j=>obtain⟨t',rfl⟩:=ry; exact PySem.EqNone.eq_none_int (ZP I q (by simp))
  | str j=>obtain⟨t',rfl⟩:=ry; exact PySem.EqNone.eq_none_str (ZP I q (by simp))
  | _=>exact absurd (show false=true from hs) YC
 | bl i =>
  cases rx
  cases y with
  | non=>cases ry; exact PySem.EqNone.eq_bool_none (ZP I q (by simp))
  | bl j=>cases ry; exact eq_bool (ZP I q ZoL)
  | str j=>obtain⟨t',rfl⟩:=ry; exact PySem.EqMixed.eq_bool_str (ZP I q (by simp))
  | _=>exact absurd (show false=true from hs) YC
 | int i =>
  obtain⟨t,rfl⟩:=rx
  cases y with
  | non=>cases ry; exact PySem.EqNone.eq_int_none (ZP I q (by simp))
  | int j=>obtain⟨t',rfl⟩:=ry; exact eq_int (ZP I q Zj8)
  | str j=>obtain⟨t',rfl⟩:=ry; exact PySem.EqMixed.eq_int_str (ZP I q (by simp))
  | _=>exact absurd (show false=true from hs) YC
 | str i =>
  obtain⟨t,rfl⟩:=rx
  cases y with
  | non=>cases ry; exact PySem.EqNone.eq_str_none (ZP I q (by simp))
  | bl j=>cases ry; exact PySem.EqMixed.eq_str_bool (ZP I q (by simp))
  | int j=>obtain⟨t',rfl⟩:=ry; exact PySem.EqMixed.eq_str_int (ZP I q (by simp))
  | str j=>obtain⟨t',rfl⟩:=ry; exact eq_str (ZP I q Zlg)
  | _=>exact absurd (show false=true from hs) YC
 | byt i =>
  obtain⟨t,rfl⟩:=rx
  cases y with
  | byt j=>obtain⟨t',rfl⟩:=ry; exact PySem.W.eq_bytes (ZP I q Zkp)
  | _=>exact absurd (show false=true from hs) YC
 | _=>cases y <;> exact absurd (show false=true from hs) YC
def Zs8:OpR X (compareOp .NotEq) rNe:=by
 intro pins s σ H x y v u Q I rx ry h
 obtain⟨hs,q⟩:=h
 cases x with
 | non =>
  cases rx
  cases y with
  | non=>cases ry; exact PySem.EqNone.ne_none_none (ZP I q (by simp))
  | bl j=>cases ry; exact PySem.EqNone.ne_none_bool (ZP I q (by simp))
  | int j=>obtain⟨t',rfl⟩:=ry; exact PySem.EqNone.ne_none_int (ZP I q (by simp))
  | str j=>obtain⟨t',rfl⟩:=ry; exact PySem.EqNone.ne_none_str (ZP I q (by simp))
  | _=>exact absurd (show false=true from hs) YC
 | bl i =>
  cases rx
  cases y with
  | non=>cases ry; exact PySem.EqNone.ne_bool_none (ZP I q (by simp))
  | bl j=>cases ry; exact ne_bool (ZP I q (congrArg not ZoL))
  | str j=>obtain⟨t',rfl⟩:=ry; exact PySem.EqMixed.ne_bool_str (ZP I q (by simp))
  | _=>exact absurd (show false=true from hs) YC
 | int i =>
  obtain⟨t,rfl⟩:=rx
  cases y with
  | non=>cases ry; exact PySem.EqNone.ne_int_none (ZP I q (by simp))
  | int j=>obtain⟨t',rfl⟩:=ry; exact ne_int (ZP I q (congrArg not Zj8))
  | str j=>obtain⟨t',rfl⟩:=ry; exact PySem.EqMixed.ne_int_str (ZP I q (by simp))
  | _=>exact absurd (show false=true from hs) YC
 | str i =>
  obtain⟨t,rfl⟩:=rx
  cases y with
  | non=>cases ry; exact PySem.EqNone.ne_str_none (ZP I q (by simp))
  | bl j=>cases ry; exact PySem.EqMixed.ne_str_bool (ZP I q (by simp))
  | int j=>obtain⟨t',rfl⟩:=ry; exact PySem.EqMixed.ne_str_int (ZP I q (by simp))
  | str j=>obtain⟨t',rfl⟩:=ry; exact ne_str (ZP I q (congrArg not Zlg))
  | _=>exact absurd (show false=true from hs) YC
 | byt i =>
  obtain⟨t,rfl⟩:=rx
  cases y with
  | byt j=>obtain⟨t',rfl⟩:=ry; exact PySem.W.ne_bytes (ZP I q (congrArg not Zkp))
  | _=>exact absurd (show false=true from hs) YC
 | _=>cases y <;> exact absurd (show false=true from hs) YC
theorem ZpJ:OpR X (compareOp .Lt) (rI0 λi j=>.bl (decide (i < j))):=ZsJ λ_ _ _ _ _ _ _ q=>lt_int q
theorem Zsi:OpR X (compareOp .LtE) (rI0 λi j=>.bl (decide (i<=j))):=ZsJ λ_ _ _ _ _ _ _ q=>le_int q
def Zr2:OpR X (compareOp .Gt) (rI0 λi j=>.bl (decide (j < i))):=ZsJ λ_ _ _ _ _ _ _ q=>gt_int q
def Zsd:OpR X (compareOp .GtE) (rI0 λi j=>.bl (decide (j<=i))):=ZsJ λ_ _ _ _ _ _ _ q=>ge_int q
def OpR.or{f:Value->Value->Sem Value}{r r':R2}(h:OpR X f r)(h':OpR X f r'):OpR X f (λx y H Q=>r x y H Q\/r' x y H Q):=by
 intro pins s σ H x y v u Q I rx ry q
 rcases q with q | q
 ·exact h pins s σ H x y v u Q I rx ry q
 ·exact h' pins s σ H x y v u Q I rx ry q
def Zbp(b:Expr){op:CmpOp}(h:op ≠ .In:=by decide)(h2:op ≠ .NotIn:=by decide):behindInMarks op b=false:=by
 have e1:(op == CmpOp.In)=false:=by cases op <;> first | rfl | exact absurd rfl h
 have e2:(op == CmpOp.NotIn)=false:=by cases op <;> first | rfl | exact absurd rfl h2
 cases b <;> simp [behindInMarks,e1,e2]
def Zdf{op:CmpOp}{r:R2}(ho:OpR X (compareOp op) r)(ha:PE X a ta)(hb:PE X b tb)(hm:behindInMarks op b=false):PE X (.Compare a [op] [b] pos) (tOp r ta tb):=by
 intro pins s σ H Q I h
 exact wpAny_Compare1 (Zto ha hb I h λv u s2 x y H2 I2 rx ry q=>ho pins s2 σ H2 x y v u Q I2 rx ry q) hm
def Zc4(t:TE):TT:=λσ H Q=>t σ H λx H'=>∃ k,x=.bl k/\Q k H'
theorem Zbd{op:CmpOp}{r:R2}(ho:OpR X (compareOp op) r)(ha:PE X a ta)(hb:PE X b tb)(hm:behindInMarks op b=false):PT X (.Compare a [op] [b] pos) (Zc4 (tOp r ta tb)):=by
 intro pins s σ H Q I h
 refine wpAny_isTrue_Compare1 (ZZ (ha pins s σ H _ I h) λv s1 ⟨x,H1,I1,r1,q1⟩=>ZZ (hb pins s1 σ H1 _ I1 q1) λu s2 ⟨y,H2,I2,r2,q2⟩ =>
  ZZ (ho pins s2 σ H2 x y v u _ I2 r1 r2 q2) λc s3 ⟨z,H3,I3,r3,k,e,q3⟩=>?_) hm
 subst e
 cases r3
 exact VC ⟨H3,I3,q3⟩
def Zix(r r':R2)(ta tb tc:TE):TE:=λσ H Q=>ta σ H λx H1=>tb σ H1 λy H2=>r x y H2 λz H3=>∃ k,z=.bl k /\
 (if k=true then tc σ H3 λw' H4=>r' y w' H4 Q else Q (.bl false) H3)
theorem Zmb{op op':CmpOp}{r r':R2}(ho:OpR X (compareOp op) r)(ho':OpR X (compareOp op') r')(ha:PE X a ta)(hb:PE X b tb)(hc:PE X c tc)
  (hm:lastMarks [op,op'] [b,c]=false:=by with_unfolding_all rfl):PE X (.Compare a [op,op'] [b,c] pos) (Zix r r' ta tb tc):=by
 intro pins s σ H Q I h
 refine Compare_chain (ZZ (ha pins s σ H _ I h) λv s1 ⟨x,H1,I1,r1,q1⟩=>chain_link (ZZ (hb pins s1 σ H1 _ I1 q1) λu s2 ⟨y,H2,I2,r2,q2⟩ =>
  ZZ (ho pins s2 σ H2 x y v u _ I2 r1 r2 q2) λd s3 ⟨z,H3,I3,r3,k,e,q3⟩=>?_)) hm
 subst e
 cases r3
 refine VC ?_
 cases k with
 | false=>exact ite_ff ⟨.bl false,H3,I3,rfl,q3⟩
 | true=>exact ite_tt (chain_last (ZZ (hc pins s3 σ H3 _ I3 q3) λw' s4 ⟨z',H4,I4,r4,q4⟩=>ho' pins s4 σ H4 y z' u w' Q I4 r2 r4 q4))
def ZgT:(sizeLine:Nat) < 2 ^ 63:=by rw [YI]; decide
def ZiX:OpR X (binaryOp .Add) (λx y H Q=>∃ i j,x=.str i/\y=.str j/\i.length + j.length<=sizeLine/\Q (.str (i ++ j)) H):=by
 intro pins s σ H x y v u Q I rx ry h
 obtain⟨i,j,rfl,rfl,hz,q⟩:=h
 obtain⟨t,rfl⟩:=rx
 obtain⟨t',rfl⟩:=ry
 exact add_str (λt' tk=>⟨.str (i ++ j),H,I.tok _,⟨_,rfl⟩,q⟩) hz
def JE{x:V}(r:Zw [x] us):∃ u,us=[u]/\ZF x u:=by
 cases r with
 | cons r1 r2=>cases r2; exact⟨_,rfl,r1⟩
def ZlU{x y:V}(r:Zw [x,y] us):∃ u w',us=[u,w']/\ZF x u/\ZF y w':=by
 cases r with
 | cons r1 r2 =>
  cases r2 with
  | cons r3 r4=>cases r4; exact⟨_,_,rfl,r1,r3⟩
def ZnY:Jn X (.builtin "abs") (λxs H Q=>∃ i,xs=[.int i]/\Q (.int (if i < 0 then -i else i)) H):=by
 intro pins s σ H xs us Q I r h
 obtain⟨i,rfl,q⟩:=h
 obtain⟨u,rfl,t,rfl⟩:=JE r
 exact call_abs_int λu tk=>⟨.int (if i < 0 then -i else i),H,I.tok _,⟨_,rfl⟩,q⟩
def Zlk(hc:X.calm=true):Jn X (.builtin "max") (λxs H Q=>∃ i j,xs=[.int i,.int j]/\Q (.int (if j > i then j else i)) H):=by
 intro pins s σ H xs us Q I r h
 obtain⟨i,j,rfl,q⟩:=h
 obtain⟨u,w',rfl,⟨t,rfl⟩,⟨t',rfl⟩⟩:=ZlU r
 refine max_two_ints (I.ok.hd hc) λh' tk k=>⟨_,H,I.kept k,?_,q⟩
 by_cases hj:j > i
 ·rw [if_pos hj,if_pos hj]; exact⟨_,rfl⟩
 ·rw [if_neg hj,if_neg hj]; exact⟨_,rfl⟩
def ZjH(hc:X.calm=true):Jn X (.builtin "min") (λxs H Q=>∃ i j,xs=[.int i,.int j]/\Q (.int (if j < i then j else i)) H):=by
 intro pins s σ H xs us Q I r h
 obtain⟨i,j,rfl,q⟩:=h
 obtain⟨u,w',rfl,⟨t,rfl⟩,⟨t',rfl⟩⟩:=ZlU r
 refine min_two_ints (I.ok.hd hc) λh' tk k=>⟨_,H,I.kept k,?_,q⟩
 by_cases hj:j < i
 ·rw [if_pos hj,if_pos hj]; exact⟨_,rfl⟩
 ·rw [if_neg hj,if_neg hj]; exact⟨_,rfl⟩
def ZlP:Jn X (.type "int") (λxs H Q=>(∃ i,xs=[.int i]/\Q (.int i) H)\/∃ k,xs=[.bl k]/\Q (.int (if k then 1 else 0)) H):=by
 intro pins s σ H xs us Q I r h
 rcases h with ⟨i,rfl,q⟩ | ⟨k,rfl,q⟩
 ·obtain⟨u,rfl,t,rfl⟩:=JE r
  exact call_int_int ⟨.int i,H,I,⟨_,rfl⟩,q⟩
 ·obtain⟨u,rfl,r1⟩:=JE r
  cases r1
  exact call_int_bool ⟨.int (if k then 1 else 0),H,I.tok _,⟨_,rfl⟩,q⟩
end
structure ObjM(h:Heap)(x dx C:Addr)(mA:Str->Option Value):Prop where
 obj:h.get? x=some (instObj C dx)
 ns:h.Ns1 dx mA
 ne:dx ≠ x
def ZkJ{h:Heap}{dx:Addr}{mA:Str->Option Value}(n:h.Ns1 dx mA):∃ od,h.get? dx=some od/\∀ name,lookIn name od=some (mA name):=by
 obtain⟨o,es,ep,ho,hd,hk,_,hm⟩:=n
 refine⟨o,ho,λname=>?_⟩
 have e:=hm name
 unfold nsFind findBy at e
 rw [<- Array.find?_toList] at e
 unfold lookIn
 rw [hd]
 dsimp only
 split
 ·rename_i y q
  rw [q] at e
  exact congrArg some e
 ·rename_i q
  rw [q] at e
  have a:es.toList.any (·.refKey)=false:=by
   rw [List.any_eq_false]
   intro y hy
   obtain⟨z,t,hkey⟩:=hk y (Array.mem_toList_iff.mp hy)
   simp [DictEntry.refKey,hkey]
  have a':¬ es.toList.any (·.refKey)=true:=by rw [a]; exact YC
  rw [if_neg a']
  exact congrArg some e
def ObjM.look{h:Heap}{x dx C:Addr}{mA:Str->Option Value}(I:ObjM h x dx C mA):∃ od,PySem.W.InstAt h x (instObj C dx) C (some od)/\∀ name,lookIn name od=some (mA name) :=
 let ⟨od,ho,hl⟩:=ZkJ I.ns
 ⟨od,⟨I.obj,rfl,rfl,ho⟩,hl⟩
section
variable {prog:Program}{w:World}{A:Around}{E:VSP}{s:Shared}{K:PySem.W.Frag}{x dx C f:Addr}{mA:Str->Option Value}{name:Str}{v:Value}
def ZpI{expr:Bool}{Q:VSP}(X:K.In s.heap)(I:ObjM s.heap x dx C mA)(hg:plainGet K C name=true)(hh:hasDictIn K C=true)
  (ha:PySem.W.findIn K (.ref C) name=some none) (hv:mA name=some v) (hv':handedIn v=true) (h:Q v { s with toks:=s.toks + 1 }) :
  wpAny (model prog w) A (getAttr (.ref x) name expr) Q E s:=by
 obtain⟨od,J,hl⟩:=I.look
 exact PySem.W.get_value X J (plainGet_of hg).1 (PySem.W.findObj_own hh ha rfl (by rw [hl,hv])) hv' h
def Zml{pl:Sem Bool}{Q:Value × List Value->Shared->Prop}(X:K.In s.heap)(I:ObjM s.heap x dx C mA)(hg:plainGet K C name=true)
  (hf:PySem.W.findIn K (.ref C) name=some (some (.ref f))) (ht:isFn K (.ref f)=true) (hv:mA name=none) (h:Q (.ref f,[.ref x]) s) :
  wpAny (model prog w) A (getMethod (.ref x) name pl) Q E s:=by
 obtain⟨od,J,hl⟩:=I.look
 exact PySem.W.method_fn X J (plainGet_of hg).1 (plainGet_of hg).2 hf (beq_iff_eq.mp ht) (by show (lookIn name od).map (·.isSome)=some false; rw [hl,hv]; rfl) h
def Zqm{ns:List Str}(X:K.In s.heap)(I:ObjM s.heap x dx C mA)
  (hs:PySem.W.findIn K (.ref C) "__setattr__"=some (some (.builtin "object.__setattr__"))) (hp:plainOver K C=true) (ht:takerIn K C name=some none) (hh:hasDictIn K C=true)
  (hw:PySem.Within mA ns) (hsz:ns.length<=sizeLine)
  (h:∀ h',ObjM h' x dx C (λy=>if y=name then some v else mA y)->Heap.SameBut dx s.heap h'->Q () { s with heap:=h',toks:=s.toks + 2 }) :
  wpAny (model prog w) A (setAttr (.ref x) name v) Q E s:=by
 obtain⟨od,J,hl⟩:=I.look
 refine PySem.W.set_plain X J hs (PySem.W.osa_open (s:={ s with toks:=s.toks + 1 }) (r:=none) X J hp ht λb=>?_)
 obtain⟨cd,hc,hd'⟩:=PySem.W.any_some hh
 have hx:s.heap.get? x=some ⟨.ref C,some dx,.plain,#[]⟩:=I.obj
 refine Ya (Yb (Ya (Ya (wpAny_loadPart hx (Ya (PySem.W.Looks.here (s:={ s with toks:=s.toks + 1 }) (PySem.W.looks_clsIn X hc) ?_))))))
 rw [hd']
 refine Yb (a:=some dx) (Ya (Yb (Ya ?_)))
 refine wpAny_nsSet1 (s:={ s with toks:=s.toks + 1 }) I.ns λh' hn2 hs2=>?_
 obtain⟨oD,esD,epD,hoD,hdD,hcD⟩:=hn2.count (PySem.Within.cons name v hw)
 refine Ya (wpAny_lookBehind hoD (by rw [hdD]; exact pastItsLine_dict (Yj hcD (by rw [YR]; omega))) ?_)
 exact Yb (h _ ⟨(hs2.2 _ (Ne.symm I.ne)).trans I.obj,hn2,I.ne⟩ hs2)
def Znf{R:Result->Shared->Prop}{vs:List Value}{kw:List (Str × Value)}(X:K.In s.heap)(hm:makesIn K C=true)
  (hi:PySem.W.findIn K (.ref C) "__init__"=some (some (.ref f))) (hf:PySem.W.typeIn K (.ref f)=some (.type "function"))
  (h:codeAny (model prog w) (A.under (.builtin "type.__call__" ⟨.ref C :: vs,kw⟩)) (.call (.ref f) ⟨.ref (s.heap.objs.size + 1) :: vs,kw⟩) (PySem.W.InitBack (s.heap.objs.size + 1) R)
   { s with heap:=(s.heap.push emptyDict).push (instObj C s.heap.objs.size) }) :
  codeAny (model prog w) A (.call (.ref C) ⟨vs,kw⟩) R s:=by
 obtain⟨hh,g,d,t,os⟩:=s
 exact PySem.W.make_core (PySem.W.makes_of X hm) (PySem.W.looks_findIn X hi) (λself=>PySem.W.bind_fn X self hf) (.inl rfl) h
end
def J1(f:Str)(v:V):List (Str × V)->List (Str × V)
 | []=>[(f,v)]
 | (g,x) :: r=>if g=f then (g,v) :: r else (g,x) :: J1 f v r
def Zez(f g:Str)(v:V):∀ fs:List (Str × V),(J1 f v fs).lookup g=if g=f then some v else fs.lookup g
 | []=>by
  show List.lookup g [(f,v)]=_
  by_cases h:g=f
  ·have hb:(g == f)=true:=beq_iff_eq.mpr h
   simp only [List.lookup,hb,if_pos h]
  ·have hb:(g == f)=false:=VM.mpr h
   simp only [List.lookup,hb,if_neg h]
 | (k,x) :: r=>by
  have ih:=Zez f g v r
  rw [show J1 f v ((k,x) :: r)=(if k=f then (k,v) :: r else (k,x) :: J1 f v r) from rfl]
  by_cases hk:k=f
  ·rw [if_pos hk]
   by_cases h:g=k
   ·have hb:(g == k)=true:=beq_iff_eq.mpr h
    simp only [List.lookup,hb,if_pos (h.trans hk)]
   ·have hb:(g == k)=false:=VM.mpr h
    simp only [List.lookup,hb,if_neg (λe:g=f=>h (e.trans hk.symm))]
  ·rw [if_neg hk]
   by_cases h:g=k
   ·have hb:(g == k)=true:=beq_iff_eq.mpr h
    simp only [List.lookup,hb,if_neg (λe:g=f=>hk (h.symm.trans e))]
   ·have hb:(g == k)=false:=VM.mpr h
    simp only [List.lookup,hb]
    exact ih
def Zes(f:Str)(v:V):∀ fs:List (Str × V),f∈(J1 f v fs).map (·.1)/\∀ g,g∈fs.map (·.1)->g∈(J1 f v fs).map (·.1)
 | []=>⟨by simp [J1],λg h=>by simp at h⟩
 | (k,x) :: r=>by
  obtain⟨i1,i2⟩:=Zes f v r
  rw [show J1 f v ((k,x) :: r)=(if k=f then (k,v) :: r else (k,x) :: J1 f v r) from rfl]
  by_cases hk:k=f
  ·rw [if_pos hk]
   subst hk
   exact⟨by simp,λg h=>by simpa using h⟩
  ·rw [if_neg hk]
   refine⟨?_,λg h=>?_⟩
   ·rw [Yr]
    exact Y7 _ i1
   ·rw [Yr] at h ⊢
    rcases Yn.mp h with e | e
    ·exact Yn.mpr (.inl e)
    ·exact Y7 _ (i2 g e)
def Zeb(f:Str)(v:V):∀ fs:List (Str × V),(J1 f v fs).length<=fs.length + 1
 | []=>by simp [J1]
 | (k,x) :: r=>by
  have ih:=Zeb f v r
  rw [show J1 f v ((k,x) :: r)=(if k=f then (k,v) :: r else (k,x) :: J1 f v r) from rfl]
  by_cases hk:k=f
  ·rw [if_pos hk,YR,YR]; omega
  ·rw [if_neg hk,YR,YR]; omega
def J0.some_of{v:V}{o:Option Value}(r:J0 (some v) o):∃ u,o=some u/\ZF v u:=by
 cases o with
 | none=>exact (show False from r).elim
 | some u=>exact⟨u,rfl,r⟩
def J0.none_of{o:Option Value}(r:J0 none o):o=none:=by
 cases o with
 | none=>rfl
 | some u=>exact (show False from r).elim
def Zle{v:V}(r:ZF v u):handedIn u=true:=by
 cases v with
 | non=>cases (show u=Value.none from r); rfl
 | bl b=>cases (show u=Value.bool b from r); rfl
 | int i=>obtain⟨t,e⟩:=(show ∃ t,u=Value.int i t from r); cases e; rfl
 | str x=>obtain⟨t,e⟩:=(show ∃ t,u=Value.str x t from r); cases e; rfl
 | byt b=>obtain⟨t,e⟩:=(show ∃ t,u=Value.bytes b t from r); cases e; rfl
 | flt b=>obtain⟨t,e⟩:=(show ∃ t,u=Value.float b t from r); cases e; rfl
 | ref a=>cases (show u=Value.ref a from r); rfl
 | ty n=>cases (show u=Value.type n from r); rfl
section
variable {P:Program}{w:World}{H H':Hp}{h h':Heap}{a C dx:Addr}{fs fs':List (Str × V)}
def ZfG(hok:HOk P w H h)(e:H a=some (.ins C dx fs)):∃ mA,ObjM h a dx C mA/\(∀ f,J0 (fs.lookup f) (mA f))/\PySem.Within mA (fs.map (·.1))/\fs.length<=1000/\H dx=some (.own a):=by
 obtain⟨d,z,ne,ob,mA,n,r,q⟩:=(show ZW P w H h a (.ins C dx fs) from hok a _ e)
 exact⟨mA,⟨ob,n,ne⟩,r,q,z,d⟩
end
structure Cls(K:PySem.W.Frag)(C:Addr):Prop where
 pg:plainGet K C Str.empty=true
 hd:hasDictIn K C=true
 po:plainOver K C=true
 sa:PySem.W.findIn K (.ref C) "__setattr__"=some (some (.builtin "object.__setattr__"))
theorem Cls.get{C:Addr}(c:Cls K C)(f:Str):plainGet K C f=true:=c.pg
def Zb4(K:PySem.W.Frag)(C:Addr)(f:Str):Prop:=PySem.W.findIn K (.ref C) f=some none
def Zb4.taker{C:Addr}{f:Str}(n:Zb4 K C f):takerIn K C f=some none:=by
 unfold takerIn
 rw [show PySem.W.findIn K (.ref C) f=some none from n]
 rfl
structure Con(K:PySem.W.Frag)(C:Addr)(f:Str)(v:V)(u:Value):Prop where
 at_:PySem.W.findIn K (.ref C) f=some (some u)
 rel:ZF v u
 get:PySem.W.specialIn K u "__get__"=some none
 cp:PySem.W.copiedNames.contains f=false
structure Meth(K:PySem.W.Frag)(C:Addr)(m:Str)(f:Addr):Prop where
 at_:PySem.W.findIn K (.ref C) m=some (some (.ref f))
 fn:isFn K (.ref f)=true
 kp:keepIn K (.ref f)=true
section
variable {X:Cx}{pins:List (Addr × Obj)}{σ:St}{H:Hp}{s:Shared}{a C dx:Addr}{fs:List (Str × V)}{f:Str}{v:V}{A:Around}{E:VSP}
def ZiY{b:Bool}{Q:VSP}(I:Inv X pins σ H s)(e:H a=some (.ins C dx fs))(c:Cls X.K C)(n:Zb4 X.K C f)(l:fs.lookup f=some v)
  (h:∀ u s',Inv X pins σ H s'->ZF v u->Q u s'):wpAny (model X.prog X.w) A (getAttr (.ref a) f b) Q E s:=by
 obtain⟨mA,O,r,_,_,_⟩:=ZfG I.hok e
 obtain⟨u,hu,ru⟩:=J0.some_of (v:=v) (o:=mA f) (by rw [<- l]; exact r f)
 exact ZpI I.kIn O (c.get f) c.hd n hu (Zle ru) (h u _ (I.tok _) ru)
def Zfa{m:Str}{g:Addr}{pl:Sem Bool}{Q:Value × List Value->Shared->Prop}(I:Inv X pins σ H s)(e:H a=some (.ins C dx fs))(c:Cls X.K C)(k:Meth X.K C m g)(l:fs.lookup m=none)
  (h:Q (.ref g,[.ref a]) s):wpAny (model X.prog X.w) A (getMethod (.ref a) m pl) Q E s:=by
 obtain⟨mA,O,r,_,_,_⟩:=ZfG I.hok e
 have hn:mA m=none:=J0.none_of (by rw [<- l]; exact r m)
 exact Zml I.kIn O (c.get m) k.at_ k.fn hn h
def Zjm{y:V}(I:Inv X pins σ H s)(e:H a=some (.ins C dx fs))(c:Cls X.K C)(n:Zb4 X.K C f)(hl:fs.length < 1000)(ry:ZF y u)
  (h:∀ s',Inv X pins σ (upd H a (.ins C dx (J1 f y fs))) s'->Q () s'):wpAny (model X.prog X.w) A (setAttr (.ref a) f u) Q E s:=by
 obtain⟨mA,O,r,wi,_,ho⟩:=ZfG I.hok e
 have hz:(fs.map (·.1)).length<=sizeLine:=by rw [Ye,YI]; omega
 refine Zqm I.kIn O c.sa c.po n.taker c.hd wi hz λh' O' sb=>h _ ?_
 have hd:∃ o,h'.get? dx=some o:=let ⟨o,_,_,e',_⟩:=O'.ns; ⟨o,e'⟩
 refine I.write (x:=a) (e:=dx) (by rw [e]; exact True.intro) (.inr ho) (λb q hb z=>(sb.2 b hb).trans z) hd ?_
 refine⟨by rw [Zg O.ne]; exact ho,?_,O.ne,O'.obj,_,O'.ns,λg=>?_,λg hg=>?_⟩
 ·have:=Zeb f y fs; omega
 ·show J0 ((J1 f y fs).lookup g) (if g=f then some u else mA g)
  rw [Zez]
  by_cases q:g=f
  ·rw [if_pos q,if_pos q]; exact ry
  ·rw [if_neg q,if_neg q]; exact r g
 ·by_cases q:g=f
  ·rw [q]; exact (Zes f y fs).1
  ·refine (Zes f y fs).2 g (wi g λz=>hg ?_)
   show (if g=f then some u else mA g)=none
   rw [if_neg q]; exact z
def Inv.made(I:Inv X pins σ H s):Inv X pins σ (upd (upd H s.heap.objs.size (.own (s.heap.objs.size + 1))) (s.heap.objs.size + 1) (.ins C s.heap.objs.size []))
  { s with heap:=(s.heap.push emptyDict).push (instObj C s.heap.objs.size) }:=by
 have e1:(s.heap.push emptyDict).get? s.heap.objs.size=some emptyDict:=Yo s.heap rfl
 have e2:((s.heap.push emptyDict).push (instObj C s.heap.objs.size)).get? (s.heap.objs.size + 1)=some (instObj C s.heap.objs.size):=by
  have:=Yo (s.heap.push emptyDict) (o:=instObj C s.heap.objs.size) rfl
  rwa [Yad] at this
 have e3:(s.heap.push emptyDict).Ns s.heap.objs.size (λ_=>none):=⟨emptyDict,#[],_,e1,rfl,(λe he=>absurd he (by simp)),λ_=>rfl⟩
 have I1:=I.laid (a:=s.heap.objs.size) (o:=.own (s.heap.objs.size + 1)) (h':=s.heap.push emptyDict) (t':=s.toks) (λb u q=>Yh _ q) (Yd _) ⟨_,e1⟩
 refine I1.laid (a:=s.heap.objs.size + 1) (o:=.ins C s.heap.objs.size []) (t':=s.toks) (λb u q=>Yh _ q) (Vu (Yad _ _)) ?_
 have ne:s.heap.objs.size ≠ s.heap.objs.size + 1:=Ym (VR _)
 refine⟨by rw [Zg ne,Zf],YD _,ne,e2,λ_=>none,(Heap.Ns1.of_empty e3).at λo q=>Yh _ q,λ_=>True.intro,λy hy=>absurd rfl hy⟩
def Zpq{prog:Program}{env:Env}{e:Expr}{f:Str}{pos:Pos}{Q:VSP}(hb:attributeBase e f env (eval e env)=eval e env)
  (h:wpAny (model prog w) A (eval e env) (λo s₁=>wpAny (model prog w) A (getAttr o f true) Q E s₁) E s):wpAny (model prog w) A (eval (.Attribute e f pos) env) Q E s :=
 Attribute_any_ h (by rw [arm_eval_Attribute,hb])
end
def Zr6(K:PySem.W.Frag)(ta:TE)(f:Str):TE:=λσ H Q=>ta σ H λx H1=>∃ a C dx fs v,x=.ref a/\H1 a=some (.ins C dx fs)/\Cls K C/\Zb4 K C f/\fs.lookup f=some v/\Q v H1
def Zsv(K:PySem.W.Frag)(ta tv:TE)(f:Str):TS:=λD σ H=>tv σ H λy H1=>ta σ H1 λx H2=>∃ a C dx fs,x=.ref a/\H2 a=some (.ins C dx fs)/\Cls K C/\Zb4 K C f/\fs.length < 1000 /\
 D.nx σ (upd H2 a (.ins C dx (J1 f y fs)))
section
variable {X:Cx}{o e value:Expr}{f:Str}{pos pos' tpos:Pos}{ta tv:TE}
def ZoG(he:PE X e ta)(hb:attributeBase e f X.env (eval e X.env)=eval e X.env):PE X (.Attribute e f pos) (Zr6 X.K ta f):=by
 intro pins s σ H Q I h
 refine Zpq hb (ZZ (he pins s σ H _ I h) λu s1 ⟨x,H1,I1,rx,a,C,dx,fs,v,ex,ea,c,n,l,q⟩=>?_)
 subst ex
 obtain rfl:u=Value.ref a:=rx
 exact ZiY I1 ea c n l λu' s2 I2 ru=>⟨v,H1,I2,ru,q⟩
def Zr9(ha:PE X o ta)(hv:PE X value tv)(hs:swapsWith value (some (.Attribute o f pos')) pos.line X.env=pure false):PS X (.Assign [.Attribute o f pos'] value pos) (Zsv X.K ta tv f):=by
 intro pins s σ H D I h
 refine plainObj_wpAny_Assign_Attribute (ZZ (hv pins s σ H _ I h) λu s1 ⟨y,H1,I1,ry,q⟩=>ZZ (ha pins s1 σ H1 _ I1 q) λov s2 ⟨x,H2,I2,rx,a,C,dx,fs,ex,ea,c,n,l,q2⟩=>?_) hs
 subst ex
 obtain rfl:ov=Value.ref a:=rx
 exact Zjm I2 ea c n l ry λs3 I3=>⟨σ,_,I3,q2⟩
end
section
variable {X:Cx}{pins:List (Addr × Obj)}{σ:St}{H:Hp}{s:Shared}{A:Around}{E:VSP}{Q:VSP}{c:Value}{b:Bool}
inductive TyOf (K:PySem.W.Frag) (H:Hp):V->Value->Prop where
 | non:TyOf K H .non (.type "NoneType")
 | bl (x:Bool):TyOf K H (.bl x) (.type "bool")
 | int (i:Int):TyOf K H (.int i) (.type "int")
 | str (x:Str):TyOf K H (.str x) (.type "str")
 | flt (x:UInt64):TyOf K H (.flt x) (.type "float")
 | lst {a:Addr}{xs:List V}(e:H a=some (.lst xs)):TyOf K H (.ref a) (.type "list")
 | frz {a:Addr}{o:Obj}{xs:List V}(e:H a=some (.frz o (.lst xs))):TyOf K H (.ref a) (.type "list")
 | tup {a:Addr}{xs:List V}(e:H a=some (.tup xs)):TyOf K H (.ref a) (.type "tuple")
 | dK {a:Addr}{kvs:List (ZU × V)}(e:H a=some (.dK kvs)):TyOf K H (.ref a) (.type "dict")
 | dT {a:Addr}{kvs:List (List ZU × V)}(e:H a=some (.dT kvs)):TyOf K H (.ref a) (.type "dict")
 | ins {a C dx:Addr}{fs:List (Str × V)}(e:H a=some (.ins C dx fs)) (cl:Cls K C) (ha:PySem.W.findIn K (.ref C) "__class__"=some (some (.builtin "object.__class__")))
   (hn:PySem.W.specialIn K (.builtin "object.__class__") "__get__"=some (some (.builtin "getset_descriptor.__get__"))) (htk:PySem.W.takesIn K (.builtin "object.__class__")=some true)
   (hm:PySem.W.mroIn K C (.type "object")=some true):TyOf K H (.ref a) (.ref C)
def Zlx{x:V}{u t:Value}(I:Inv X pins σ H s)(rx:ZF x u)(ty:TyOf X.K H x t)(e:kitOne X.K t c=some b)(h:∀ tk,Q (.bool b) { s with toks:=tk }) :
  wpAny (model X.prog X.w) A (call (.builtin "isinstance") [u,c]) Q E s:=by
 cases ty with
 | non=>cases (show u=Value.none from rx); exact kia_one PySem.W.kitx_none I.kIn True.intro e (λz=>nomatch z) h
 | bl y=>cases (show u=Value.bool y from rx); exact kia_one PySem.W.kitx_bool I.kIn True.intro e (λz=>nomatch z) h
 | int i=>obtain⟨t,q⟩:=(show ∃ t,u=Value.int i t from rx); cases q; exact kia_one PySem.W.kitx_int I.kIn True.intro e (λz=>nomatch z) h
 | str y=>obtain⟨t,q⟩:=(show ∃ t,u=Value.str y t from rx); cases q; exact kia_one PySem.W.kitx_str I.kIn True.intro e (λz=>nomatch z) h
 | flt y=>obtain⟨t,q⟩:=(show ∃ t,u=Value.float y t from rx); cases q; exact kia_one PySem.W.kitx_float I.kIn True.intro e (λz=>nomatch z) h
 | @lst a xs ea =>
  cases (show u=Value.ref a from rx)
  obtain⟨_,_,n,_,h1⟩:=(show ZW X.prog X.w H s.heap a (.lst xs) from I.hok a _ ea)
  exact kia_one kitx_list I.kIn ⟨_,h1,rfl⟩ e (λz=>nomatch z) h
 | @frz a ob xs ea =>
  cases (show u=Value.ref a from rx)
  obtain⟨_,_,_,n,_,h1⟩:=(show ZW X.prog X.w H s.heap a (.frz ob (.lst xs)) from I.hok a _ ea)
  exact kia_one kitx_list I.kIn ⟨_,h1,rfl⟩ e (λz=>nomatch z) h
 | @tup a xs ea =>
  cases (show u=Value.ref a from rx)
  obtain⟨_,_,_,p⟩:=(show ZW X.prog X.w H s.heap a (.tup xs) from I.hok a _ ea)
  obtain⟨o,h1,h2,_⟩:=p
  exact kia_one PySem.W.kitx_tuple I.kIn ⟨o,h1,h2⟩ e (λz=>nomatch z) h
 | @dK a kvs ea =>
  cases (show u=Value.ref a from rx)
  obtain⟨_,_,vs,_,p⟩:=(show ZW X.prog X.w H s.heap a (.dK kvs) from I.hok a _ ea)
  obtain⟨o,es,ep,h1,h2,_⟩:=p
  exact kia_one kitx_dict I.kIn ⟨o,h1,h2.1⟩ e (λz=>nomatch z) h
 | @dT a kvs ea =>
  cases (show u=Value.ref a from rx)
  obtain⟨_,_,xs,_,o,es,ep,h1,h2,_⟩:=(show ZW X.prog X.w H s.heap a (.dT kvs) from I.hok a _ ea)
  exact kia_one kitx_dict I.kIn ⟨o,h1,h2.1⟩ e (λz=>nomatch z) h
 | @ins a C dx fs ea cl ha hn htk hm =>
  cases (show u=Value.ref a from rx)
  obtain⟨mA,O,_⟩:=ZfG I.hok ea
  obtain⟨od,J,_⟩:=O.look
  exact kia_one (PySem.W.kitx_own (cl.get _) cl.hd ha hn htk hm) I.kIn J e (λz=>nomatch z) h
end
structure Room(k:Nat)(A:Around):Prop where
 hd:A.handled=none
 dp:A.depth + 3 * k + 5 < recursionLimit
 un:A.units + 16 * k + 200 < cLine
theorem Room.mono{j k:Nat}(r:Room k A)(h:j<=k):Room j A:=⟨r.hd,by have:=r.dp; omega,by have:=r.un; omega⟩
variable {k:Nat}
theorem Room.deeper(r:Room (k + 1) A)(env:Env):Room k (A.deeper env) :=
 ⟨r.hd,by have:=r.dp; show A.depth + 1 + 3 * k + 5 < _; omega,by have:=r.un; show A.units + 3 + 16 * k + 200 < _; omega⟩
theorem Room.in1(r:Room (k + 1) A):Room k A.in1 :=
 ⟨r.hd,by have:=r.dp; show A.depth + 3 * k + 5 < _; omega,by have:=r.un; show A.units + 1 + 16 * k + 200 < _; omega⟩
def Zi7{C:Addr}{kw:List (Str × Value)}:(A.under (.builtin "type.__call__" ⟨.ref C :: us,kw⟩)).depth=A.depth + 1:=by
 first | rfl | simp [Around.under,Code.weight,Code.isCreation,Code.isGuard,Code.isCaller,Code.frames,Code.isFrame,guardIds]
def ZiH{C:Addr}{kw:List (Str × Value)}:(A.under (.builtin "type.__call__" ⟨.ref C :: us,kw⟩)).units=A.units + 1:=by
 first | rfl | simp [Around.under,Code.cUnits,Code.frames,Code.isFrame]
def Room.make(r:Room (k + 1) A)(C:Addr)(us:List Value)(kw:List (Str × Value)):Room k (A.under (.builtin "type.__call__" ⟨.ref C :: us,kw⟩)) :=
 ⟨r.hd,by have:=r.dp; rw [Zi7]; omega,by have:=r.un; rw [ZiH]; omega⟩
def Room.depth(r:Room k A):A.depth < recursionLimit:=by have:=r.dp; omega
theorem Room.units(r:Room k A):A.units + 64 < cLine:=by have:=r.un; omega
def Zou:TA:=λ_ H Q=>Q [] H
def Zhv(ta:TE)(tr:TA):TA:=λσ H Q=>ta σ H λx H1=>tr σ H1 λxs H2=>Q (x :: xs) H2
section
variable {X:Cx}{e:Expr}{es:List Expr}{te:TE}{t:TA}{pos:Pos}
def ZoD:PA X [] Zou:=λ_ _ _ _ H Q I h=>Calls.spliced_nil ⟨[],H,I,.nil,h⟩
def Zkc(ha:PE X e te)(hr:PA X es t)(hs:starEach (e :: es) X.env=(false,eval e X.env) :: starEach es X.env:=by rfl):PA X (e :: es) (Zhv te t):=by
 intro pos pins s σ H Q I h
 rw [hs]
 show wpAny _ _ (spliced ((false,eval e X.env) :: backTo pos (starEach es X.env))) _ _ s
 refine Calls.spliced_cons (ZZ (ha pins s σ H _ I h) λu s1 ⟨x,H1,I1,r1,q1⟩=>?_)
 exact ZZ (hr pos pins s1 σ H1 _ I1 q1) λus s2 ⟨xs,H2,I2,r2,q2⟩=>⟨x :: xs,H2,I2,.cons r1 r2,q2⟩
end
abbrev Sp:=List V->Hp->VK->XK->Prop
abbrev CXT:=List Env->Hp->Shared->XK->Value->Shared->Prop
structure Env0(P:Program)(w:World)(K:PySem.W.Frag)(mg:Str->Option Value)(base:Heap)(A:Around)(outer:List Env)(s:Shared)(H:Hp):Prop where
 frames:A.frames=some outer
 mod:Mod K mg base
 bs:∀ b o,base.get? b=some o->s.heap.get? b=some o/\H b=none
 bsz:base.objs.size<=s.heap.objs.size
 funs:s.heap.FunFrames base outer
 frf:∀ b∈frs outer,H b=none
 hok:HOk P w H s.heap
 bare:AllBare s.gens
def CE(outer:List Env)(P:Program)(w:World)(H:Hp)(s:Shared)(Q:VK)(u:Value)(s':Shared):Prop :=
 ∃ v H',s'.os=s.os/\AllBare s'.gens/\Un (frs outer) [] H H' s.heap s'.heap/\HOk P w H' s'.heap/\ZF v u/\Q v H'
def CR(CX:CXT)(outer:List Env)(P:Program)(w:World)(H:Hp)(s:Shared)(Q:VK)(E:XK)(r:Result)(s':Shared):Prop :=
 match r with
 | .ok (.ret u)=>CE outer P w H s Q u s'
 | .ok _=>False
 | .error e=>CX outer H s E e s'
structure FnOk(P:Program)(w:World)(K:PySem.W.Frag)(mg:Str->Option Value)(base:Heap)(CX:CXT)(k:Nat)(f:Addr)(fd:FuncData)(ps:List Str)(sp:Sp):Prop where
 len:∀ vs H Q E,sp vs H Q E->vs.length=ps.length
 run:∀ (A:Around) (outer:List Env) (s:Shared) (H:Hp) (args:Args) (us:List Value) (vs:List V) (Q:VK) (E:XK),Room k A->Env0 P w K mg base A outer s H->BindsTo s fd args (ps.zip us)->Zw vs us->sp vs H Q E ->
  codeAny (model P w) A (.call (.ref f) args) (CR CX outer P w H s Q E) s
variable {mg:Str->Option Value}
theorem FnOk.mono{base:Heap}{CX:CXT}{j k:Nat}{f:Addr}{fd:FuncData}{ps:List Str}{sp:Sp}(F:FnOk P w K mg base CX j f fd ps sp)(h:j<=k) :
  FnOk P w K mg base CX k f fd ps sp:=⟨F.len,λA outer s H args us vs Q E hr=>F.run A outer s H args us vs Q E (hr.mono h)⟩
theorem FnOk.imp{base:Heap}{CX:CXT}{f:Addr}{fd:FuncData}{ps:List Str}{sp sp':Sp}(F:FnOk P w K mg base CX k f fd ps sp)
  (h:∀ vs H Q E,sp' vs H Q E->sp vs H Q E):FnOk P w K mg base CX k f fd ps sp' :=
 ⟨λvs H Q E q=>F.len vs H Q E (h _ _ _ _ q),λA outer s H args us vs Q E hr he hb hv hs=>F.run A outer s H args us vs Q E hr he hb hv (h _ _ _ _ hs)⟩
def Env0.make{base:Heap}{outer:List Env}(e:Env0 P w K mg base A outer s H)(C:Addr)(us:List Value)(kw:List (Str × Value)) :
  Env0 P w K mg base (A.under (.builtin "type.__call__" ⟨.ref C :: us,kw⟩)) outer s H:=⟨by first | exact e.frames | (simpa [Around.under,Code.envs,Code.isFrame,pushEnvs] using e.frames),e.mod,e.bs,e.bsz,e.funs,e.frf,e.hok,e.bare⟩
theorem Env0.in1{base:Heap}{outer:List Env}(e:Env0 P w K mg base A outer s H) :
  Env0 P w K mg base A.in1 outer s H:=⟨e.frames,e.mod,e.bs,e.bsz,e.funs,e.frf,e.hok,e.bare⟩
section
variable {X:Cx}{pins:List (Addr × Obj)}{σ:St}{H:Hp}{s s':Shared}
def Inv.env0(I:Inv X pins σ H s):Env0 X.prog X.w X.K X.mg X.base X.A X.stack s H :=
 ⟨I.ok.frames,I.ok.mod,I.bs,Yj I.ok.bsz I.sz,I.stack,I.stkFree,I.hok,I.bare⟩
def Inv.after{Q:VK}(I:Inv X pins σ H s)(h:CE X.stack X.prog X.w H s Q u s'):EP X pins σ Q u s':=by
 obtain⟨v,H',os,bare,un,hok,r,q⟩:=h
 obtain⟨hh,g,d,t,os'⟩:=s'
 obtain rfl:os'=s.os:=os
 exact⟨v,H',I.call (h':=hh) (g':=g) (d':=d) (t':=t) (ch:=[]) un hok bare (λb z=>absurd z (by simp)),r,q⟩
end
def ZgI(sp:Sp)(dvs:List V)(E:XK)(t:TA):TE:=λσ H Q=>t σ H λvs H1=>sp (vs ++ dvs) H1 Q E
def Zi9(C:Addr)(m:Str)(sp:Sp)(dvs:List V)(E:XK)(ta:TE)(t:TA):TE:=λσ H Q=>ta σ H λx H1=>∃ a dx fs,x=.ref a/\H1 a=some (.ins C dx fs)/\fs.lookup m=none /\
 t σ H1 λvs H2=>sp (x :: (vs ++ dvs)) H2 Q E
def Zmn(C:Addr)(sp:Sp)(dvs:List V)(E:XK)(t:TA):TE:=λσ H Q=>t σ H λvs H1=>∀ x dx,H1 x=none->H1 dx=none->dx ≠ x ->
 sp (.ref x :: (vs ++ dvs)) (upd (upd H1 dx (.own x)) x (.ins C dx [])) (λv H2=>v=.non/\Q (.ref x) H2) E
def Z7(K:PySem.W.Frag)(fd:FuncData)(ps:List Str)(ds:List Value):Prop :=
 ∀ (s:Shared) (us:List Value),K.In s.heap->(us ++ ds).length=ps.length->BindsTo s fd ⟨us,[]⟩ (ps.zip (us ++ ds))
def Z7.all{fd:FuncData}{ps:List Str}(h:∀ us:List Value,us.length=ps.length->bindArgs fd ⟨us,[]⟩=pure (ps.zip us)):Z7 K fd ps []:=λs us _ hl=>by
 rw [Y5] at hl ⊢
 exact .of_eq (h us hl)
def Zei(CX:CXT)(X:Cx)(E:XK):Prop:=∀ (pins:List (Addr × Obj)) (σ:St) (H:Hp) (s:Shared) (e:Value) (s':Shared),Inv X pins σ H s->CX X.stack H s E e s'->X.xe e s'
section
variable {X:Cx}{CX:CXT}{k:Nat}{f C:Addr}{fd:FuncData}{ps:List Str}{sp:Sp}{dvs:List V}{ds:List Value}{E:XK}{x m:Str}{p pos apos:Pos}{e o:Expr}{es:List Expr}{ta:TE}{t:TA}
def ZjE{Q:VK}{vs:List V}(F:FnOk X.prog X.w X.K X.mg X.base CX k f fd ps sp)(hr:Room k X.A)(hb:Z7 X.K fd ps ds)(hd:Zw dvs ds)(hx:Zei CX X E)
  (I:Inv X pins σ H s) (r:Zw vs us) (h:sp (vs ++ dvs) H Q E):wpAny (model X.prog X.w) X.A (call (.ref f) us) (EP X pins σ Q) X.xe s:=by
 have r2:Zw (vs ++ dvs) (us ++ ds):=r.append hd
 have hl:(us ++ ds).length=ps.length:=by rw [<- r2.length]; exact F.len _ _ _ _ h
 refine wpAny_call (Y2 (F.run X.A X.stack s H ⟨us,[]⟩ (us ++ ds) (vs ++ dvs) Q E hr I.env0 (hb s us I.kIn hl) r2 h) λr s' hq=>?_)
 cases r with
 | error e=>exact hx pins σ H s e s' I hq
 | ok fl =>
  cases fl with
  | ret u=>exact I.after hq
  | next=>exact False.elim hq
  | brk=>exact False.elim hq
  | cont=>exact False.elim hq
def ZjZ(F:FnOk X.prog X.w X.K X.mg X.base CX k f fd ps sp)(hr:Room k X.A)(hg:Gl X x)(hm:X.mg x=some (.ref f))(hk:keepIn X.K (.ref f)=true)(hb:Z7 X.K fd ps ds)(hd:Zw dvs ds)(hx:Zei CX X E)
  (ha:PA X (e :: es) t) (hdb:(x == ("__debug__":Str))=false:=by decide) (he:starEach (e :: es) X.env=(false,eval e X.env) :: starEach es X.env:=by rfl) (hpl:(backTo pos (starEach es X.env)).any (·.1)=false:=by rfl) :
  PE X (.Call (.Name x p) (e :: es) [] pos) (ZgI sp dvs E t):=by
 intro pins s σ H Q I h
 refine Vg (ZhG I hg hm ?_ hdb)
 refine callWith_K (h₀:=X.base) I.ok.mod.kin hk (ZZ (ha pos pins s σ H _ I h) λus s1 ⟨vs,H1,I1,r,q⟩=>⟨I1.kIn,?_⟩) he hpl
 exact ZjE F hr hb hd hx I1 r q
def Zp2{pl:Sem Bool}(he:PE X o ta)(c:Cls X.K C)(hm:Meth X.K C m f)(F:FnOk X.prog X.w X.K X.mg X.base CX k f fd ps sp)(hr:Room k X.A)(hb:Z7 X.K fd ps ds)(hd:Zw dvs ds)(hx:Zei CX X E)(ha:PA X (e :: es) t)
  (hst:starEach (e :: es) X.env=(false,eval e X.env) :: starEach es X.env:=by rfl) (hpl:(backTo pos (starEach es X.env)).any (·.1)=false:=by rfl)
  (ht:eval (.Call (.Attribute o m apos) (e :: es) [] pos) X.env=(do
   let ov <- eval o X.env
   standAt apos.atName
   let (f,first) <- holding [ov] (getMethod ov m pl)
   callWith pos f first (backTo pos (starEach (e :: es) X.env)) (backToKw pos (keywordEach [] X.env))):=by rfl) :
  PE X (.Call (.Attribute o m apos) (e :: es) [] pos) (Zi9 C m sp dvs E ta t):=by
 intro pins s σ H Q I h
 refine methodCall_KW (pl:=pl) (ZZ (he pins s σ H _ I h) λu s1 ⟨x,H1,I1,rx,a,dx,fs,ex,ea,l,q⟩=>?_) ht
 subst ex
 obtain rfl:u=Value.ref a:=rx
 refine Zfa I1 ea c hm l ?_
 refine callWith_K (first:=[.ref a]) (h₀:=X.base) I.ok.mod.kin hm.kp (ZZ (ha pos pins s1 σ H1 _ I1 q) λus s2 ⟨vs,H2,I2,r,q2⟩=>⟨I2.kIn,?_⟩) hst hpl
 exact ZjE (us:=.ref a :: us) (vs:=.ref a :: vs) F hr hb hd hx I2 (.cons rfl r) q2
def ZmY{pl:Sem Bool}(he:PE X o ta)(c:Cls X.K C)(hm:Meth X.K C m f)(F:FnOk X.prog X.w X.K X.mg X.base CX k f fd ps sp)(hr:Room k X.A)(hb:Z7 X.K fd ps ds)(hd:Zw dvs ds)(hx:Zei CX X E)
  (ht:eval (.Call (.Attribute o m apos) [] [] pos) X.env=(do
   let ov <- eval o X.env
   standAt apos.atName
   let (f,first) <- holding [ov] (getMethod ov m pl)
   callWith pos f first (backTo pos (starEach [] X.env)) (backToKw pos (keywordEach [] X.env))):=by rfl) :
  PE X (.Call (.Attribute o m apos) [] [] pos) (Zi9 C m sp dvs E ta Zou):=by
 intro pins s σ H Q I h
 refine methodCall_KW (pl:=pl) (ZZ (he pins s σ H _ I h) λu s1 ⟨x,H1,I1,rx,a,dx,fs,ex,ea,l,q⟩=>?_) ht
 subst ex
 obtain rfl:u=Value.ref a:=rx
 refine Zfa I1 ea c hm l ?_
 exact PySem.W.callWith_K0 (first:=[.ref a]) I1.kIn hm.kp (ZjE (us:=[.ref a]) (vs:=[.ref a]) F hr hb hd hx I1 (.cons rfl .nil) q)
structure Mk(K:PySem.W.Frag)(C f:Addr):Prop where
 makes:makesIn K C=true
 init:PySem.W.findIn K (.ref C) "__init__"=some (some (.ref f))
 fn:isFn K (.ref f)=true
 kp:keepIn K (.ref C)=true
def ZmT{Q:VK}{vs:List V}(M:Mk X.K C f)(F:FnOk X.prog X.w X.K X.mg X.base CX k f fd ps sp)(hr:Room (k + 1) X.A)(hb:Z7 X.K fd ps ds)(hd:Zw dvs ds)
  (hx:Zei CX X E) (I:Inv X pins σ H s) (r:Zw vs us)
  (h:∀ x dx,H x=none->H dx=none->dx ≠ x->sp (.ref x :: (vs ++ dvs)) (upd (upd H dx (.own x)) x (.ins C dx [])) (λv H2=>v=.non/\Q (.ref x) H2) E) :
  wpAny (model X.prog X.w) X.A (call (.ref C) us) (EP X pins σ Q) X.xe s:=by
 have hq:=h (s.heap.objs.size + 1) s.heap.objs.size (I.hok.fresh (Vv _)) (I.hok.fresh (Yd _)) (Ym (VR _))
 have I2:=Inv.made (C:=C) I
 have r2:Zw (V.ref (s.heap.objs.size + 1) :: (vs ++ dvs)) (Value.ref (s.heap.objs.size + 1) :: (us ++ ds)):=.cons rfl (r.append hd)
 have hl:(Value.ref (s.heap.objs.size + 1) :: us ++ ds).length=ps.length:=by
  have e:=r2.length
  rw [F.len _ _ _ _ hq] at e
  exact e.symm
 refine wpAny_call (Znf (f:=f) I.kIn M.makes M.init (beq_iff_eq.mp M.fn) (Y2 (F.run _ X.stack _ _ ⟨Value.ref (s.heap.objs.size + 1) :: us,[]⟩ (Value.ref (s.heap.objs.size + 1) :: (us ++ ds)) _ _ E (hr.make C us [])
  (I2.env0.make C us []) (hb _ (Value.ref (s.heap.objs.size + 1) :: us) I2.kIn hl) r2 hq) λr s' hq'=>?_))
 cases r with
 | error e=>exact hx pins σ _ _ e s' I2 hq'
 | ok fl =>
  cases fl with
  | ret u =>
   obtain⟨v,H',I3,rv,ev,q3⟩:=I2.after hq'
   subst ev
   exact⟨rv,⟨V.ref (s.heap.objs.size + 1),H',I3,rfl,q3⟩⟩
  | next=>exact False.elim hq'
  | brk=>exact False.elim hq'
  | cont=>exact False.elim hq'
def Zpo(M:Mk X.K C f)(F:FnOk X.prog X.w X.K X.mg X.base CX k f fd ps sp)(hr:Room (k + 1) X.A)(hg:Gl X x)(hm:X.mg x=some (.ref C))(hb:Z7 X.K fd ps ds)(hd:Zw dvs ds)(hx:Zei CX X E)
  (ha:PA X (e :: es) t) (hdb:(x == ("__debug__":Str))=false:=by decide) (he:starEach (e :: es) X.env=(false,eval e X.env) :: starEach es X.env:=by rfl) (hpl:(backTo pos (starEach es X.env)).any (·.1)=false:=by rfl) :
  PE X (.Call (.Name x p) (e :: es) [] pos) (Zmn C sp dvs E t):=by
 intro pins s σ H Q I h
 refine Vg (ZhG I hg hm ?_ hdb)
 refine callWith_K (h₀:=X.base) I.ok.mod.kin M.kp (ZZ (ha pos pins s σ H _ I h) λus s1 ⟨vs,H1,I1,r,q⟩=>⟨I1.kIn,?_⟩) he hpl
 exact ZmT M F hr hb hd hx I1 r q
end
def PK(X:Cx)(kws:List Keyword)(t:TA):Prop :=
 ∀ (pos:Pos) (pins:List (Addr × Obj)) (s:Shared) (σ:St) (H:Hp) (Q:List V->Hp->Prop),Inv X pins σ H s->t σ H Q->wpAny (model X.prog X.w) X.A (evalAll ((backToKw pos (keywordEach kws X.env)).map (·.2))) (AP X pins σ Q) X.xe s
section
variable {X:Cx}{CX:CXT}{k:Nat}{f C:Addr}{fd:FuncData}{ps ks:List Str}{sp:Sp}{E:XK}{x m:Str}{p pos apos kpos:Pos}{e o:Expr}{es:List Expr}{kws:List Keyword}{te ta:TE}{t tk:TA}{nm:Option Str}
def ZqY:PK X [] Zou:=λ_ _ _ _ H Q I h=>wpAny_evalAll_nil ⟨[],H,I,.nil,h⟩
def Zlb(ha:PE X e te)(hr:PK X kws t):PK X (⟨nm,e,kpos⟩ :: kws) (Zhv te t):=by
 intro pos pins s σ H Q I h
 show wpAny _ _ (evalAll ((do let v <- eval e X.env; standAt pos; pure v) :: (backToKw pos (keywordEach kws X.env)).map (·.2))) _ _ s
 refine wpAny_evalAll_cons (Ya (ZZ (ha pins s σ H _ I h) λu s1 ⟨x,H1,I1,r1,q1⟩=>Ya (Yag (Yb ?_))))
 exact ZZ (hr pos pins s1 σ H1 _ I1 q1) λus s2 ⟨xs,H2,I2,r2,q2⟩=>⟨x :: xs,H2,I2,.cons r1 r2,q2⟩
structure KBinds(K:PySem.W.Frag)(fd:FuncData)(ps ks:List Str)(g:List Value->List Value->List Value)(gV:List V->List V->List V):Prop where
 to:∀ (s:Shared) (us ws:List Value),K.In s.heap->(g us ws).length=ps.length->BindsTo s fd ⟨us,ks.zip ws⟩ (ps.zip (g us ws))
 rel:∀ {vs:List V}{us:List Value}{zs:List V}{ws:List Value},Zw vs us->Zw zs ws->Zw (gV vs zs) (g us ws)
variable {g:List Value->List Value->List Value}{gV:List V->List V->List V}
end
structure FnScope(N P:List Str)(sc:Scope):Prop where
 kind:sc.kind=.function
 co:sc.isCoroutine=false
 gen:sc.isGenerator=false
 nd:N.Nodup
 pre:N.take P.length=P
 par:∀ x∈P,sc.names.lookup x=some .local\/sc.names.lookup x=some .cell
 nofree:∀ y∈sc.names,y.2 ≠ .free
variable {kindOf:Str->Option NameKind}{x:Str}
def Zgv:∀ {binds:List (Str × Value)}{m:Str->Option Value},(∀ v,(x,v) ∉ binds)->bindL kindOf binds m x=m x
 | [],_,_=>rfl
 | (n,v) :: r,m,h=>by
  unfold bindL
  rw [Zgv λw hw=>h w (Y7 _ hw)]
  split
  ·have:x ≠ n:=by rintro rfl; exact h v Vf
   simp [this]
  ·rfl
def ZgF:∀ {binds:List (Str × Value)}{m:Str->Option Value},(∀ v,(x,v) ∉ binds)->bindC kindOf binds m x=m x
 | [],_,_=>rfl
 | (n,v) :: r,m,h=>by
  unfold bindC
  rw [ZgF λw hw=>h w (Y7 _ hw)]
  split
  ·rfl
  ·have:x ≠ n:=by rintro rfl; exact h v Vf
   simp [this]
theorem ZgU{v:Value}:∀ {P:List Str}{vs:List Value}{i:Nat}{m:Str->Option Value},P.Nodup->P[i]?=some x->vs[i]?=some v->kindOf x=some .local ->
  bindL kindOf (P.zip vs) m x=some v
 | [],_,_,_,_,h,_,_=>by simp at h
 | _ :: _,[],_,_,_,_,h,_=>by simp at h
 | p :: P,w :: vs,0,m,nd,h1,h2,hk=>by
  simp at h1 h2; subst h1; subst h2
  show bindL kindOf ((p,w) :: P.zip vs) m p=_
  unfold bindL
  rw [Zgv λv hv=>(Y4.mp nd).1 (VS hv).1,if_pos hk]
  simp
 | p :: P,w :: vs,i + 1,m,nd,h1,h2,hk=>by
  show bindL kindOf ((p,w) :: P.zip vs) m x=_
  unfold bindL
  exact ZgU (i:=i) (List.nodup_cons.mp nd).2 (by simpa using h1) (by simpa using h2) hk
theorem Zgm{v:Value}:∀ {P:List Str}{vs:List Value}{i:Nat}{m:Str->Option Value},P.Nodup->P[i]?=some x->vs[i]?=some v->kindOf x ≠ some .local ->
  bindC kindOf (P.zip vs) m x=some v
 | [],_,_,_,_,h,_,_=>by simp at h
 | _ :: _,[],_,_,_,_,h,_=>by simp at h
 | p :: P,w :: vs,0,m,nd,h1,h2,hk=>by
  simp at h1 h2; subst h1; subst h2
  show bindC kindOf ((p,w) :: P.zip vs) m p=_
  unfold bindC
  rw [ZgF λv hv=>(Y4.mp nd).1 (VS hv).1,if_neg hk]
  simp
 | p :: P,w :: vs,i + 1,m,nd,h1,h2,hk=>by
  show bindC kindOf ((p,w) :: P.zip vs) m x=_
  unfold bindC
  exact Zgm (i:=i) (List.nodup_cons.mp nd).2 (by simpa using h1) (by simpa using h2) hk
def Zz(N:List Str)(vs:List V):St:=vs.map some ++ List.replicate (N.length - vs.length) none
def Zjg(CX:CXT)(P:Program)(w:World)(K:PySem.W.Frag)(mg:Str->Option Value)(base:Heap)(N:List Str)(qual:Str)(scope:Scope)(f:Addr)(cd:Value)(A:Around)(outer:List Env)(s:Shared)(H:Hp)(E:XK):Cx where
 prog:=P
 w:=w
 K:=K
 mg:=mg
 base:=base
 A:=A.deeper (envOfC qual scope s.heap.objs.size f cd)
 N:=N
 s₀:=s
 H₀:=H
 env:=envOfC qual scope s.heap.objs.size f cd
 outer:=outer
 stack:=envOfC qual scope s.heap.objs.size f cd :: outer
 ex:=[]
 calm:=true
 fn:=λ_=>true
 pn:=[]
 xe:=λe s'=>wpAny (model P w) (A.deeper (envOfC qual scope s.heap.objs.size f cd)) (leaving (envOfC qual scope s.heap.objs.size f cd) e) (λ_ s''=>CX outer H s E e s'') (λe' s''=>CX outer H s E e' s'') s'
def Ziu{sc:Scope}{n:Nat}(h:sc.names.lookup x=some .cell):∃ c,(cellsFrom n sc.names []).lookup x=some c:=by
 have q:=cellsFrom_some sc.names n [] (.inl h)
 exact Option.isSome_iff_exists.mp q
def ZjR{CX:CXT}{base:Heap}{N ps:List Str}{qual:Str}{scope:Scope}{f:Addr}{cd:Value}{outer:List Env}{s s1:Shared}{E:XK}{vs:List V}
  (S:FnScope N ps scope) (hd:A.handled=none) (e0:Env0 P w K mg base A outer s H) (hl:vs.length=ps.length) (r:Zw vs us)
  (x:InCallC s s.heap.objs.size (bindL (envOfC qual scope s.heap.objs.size f cd).kindOf (ps.zip us) λ_=>none) (cellsFrom (s.heap.objs.size + 1) scope.names []) (bindC (envOfC qual scope s.heap.objs.size f cd).kindOf (ps.zip us) λ_=>none) s1) :
  Inv (Zjg CX P w K mg base N qual scope f cd A outer s H E) [] (Zz N vs) H s1:=by
 have hpl:ps.length<=N.length:=by have:=congrArg List.length S.pre; rw [YE] at this; omega
 obtain⟨h1,tk,rfl,hk⟩:=x.done
 have noA:∀ b:Addr,b ∉ (Zjg CX P w K mg base N qual scope f cd A outer s H E).ex:=λb z=>absurd (show b∈([]:List Addr) from z) (by simp)
 refine⟨⟨e0.mod,S.kind,rfl,rfl,Yd _,λy z c h1 h2=>?_,λy hy=>?_,λy c _ h=>?_,λ_=>hd,Around.frames_deeper e0.frames,.inr ⟨rfl,rfl⟩,λb z=>absurd z (noA b),e0.bs,e0.bsz,λb _ _=>noA b,λb z=>absurd z (noA b),e0.funs,e0.frf⟩,
  rfl,e0.bare,Un.kept hk,⟨_,x.toInCall.ns,λi y v h1 h2 h3=>?_⟩,λy c h=>⟨_,x.cell y c h⟩,e0.hok.fresh (Nat.le_refl _),λy c h=>?_,λp hp=>absurd (show p∈([]:List (Addr × Obj)) from hp) (by simp),e0.hok.kept hk,?_⟩
 ·exact name_of_addr x.apart (Vd h1) (Vd h2)
 ·have hy:scope.names.lookup y=some .cell\/scope.names.lookup y=some .free:=hy
  rcases hy with hy | hy
  ·exact Ziu hy
  ·exact absurd rfl (S.nofree _ (Vd hy))
 ·exact Yt (x.above y c (Vd h))
 ·have hi:i < vs.length:=by
   unfold Zz at h2
   by_cases hi:i < vs.length
   ·exact hi
   ·rw [List.getElem?_append_right (by simpa using hi)] at h2
    rw [List.getElem?_replicate] at h2
    split at h2 <;> cases h2
  have ha:vs[i]?=some v:=by
   unfold Zz at h2
   rw [List.getElem?_append_left (by simpa using hi),List.getElem?_map] at h2
   cases e:vs[i]? with
   | none=>rw [e] at h2; cases h2
   | some a=>rw [e] at h2; cases h2; rfl
  obtain⟨u,hu,rv⟩:=r.get ha
  have hp:ps[i]?=some y:=by
   rw [<- S.pre,List.getElem?_take_of_lt (by omega)]; exact h1
  have ndP:ps.Nodup:=by rw [<- S.pre]; exact S.nd.sublist (Vp _ _)
  refine⟨u,rv,?_⟩
  rcases S.par y (Yl hp) with k | k
  ·exact .inl ⟨k,ZgU ndP hp hu k⟩
  ·obtain⟨c,e⟩:=Ziu (n:=s.heap.objs.size + 1) k
   refine .inr ⟨.inl k,c,e,?_⟩
   have q:=x.cell y c e
   rw [Zgm ndP hp hu (by show scope.names.lookup y ≠ _; rw [k]; decide)] at q
   exact q
 ·exact e0.hok.fresh (Yt (x.above y c (Vd h)))
 ·unfold Zz
  show _=N.length
  rw [YV,Ye,List.length_replicate]
  omega
def Zpn{CX:CXT}{base:Heap}{f:Addr}{name qual:Str}{params:Arguments}{body:List Stmt}{scope:Scope}{dV kV doc pm cdv ct oc:Value}{an od:Option Addr}
  {osl:Array (Option Value)}{N ps:List Str}{sp:Sp}(lk:K.lookup f=some ⟨oc,od,.func (fnOf name qual params body scope dV kV doc pm an cdv ct),osl⟩) (hcd:codeIn K cdv qual=true) (S:FnScope N ps scope)
  (len:∀ vs H Q E,sp vs H Q E->vs.length=ps.length)
  (hbody:∀ (A:Around) (outer:List Env) (s:Shared) (H:Hp) (vs:List V) (Q:VK) (E:XK),Room k (A.deeper (envOfC qual scope s.heap.objs.size f cdv))->sp vs H Q E ->
   ∃ t,PSs (Zjg CX P w K mg base N qual scope f cdv A outer s H E) body t/\t { nx:=λ_ H'=>Q .non H',rt:=Q } (Zz N vs) H) :
  FnOk P w K mg base CX (k + 1) f (fnOf name qual params body scope dV kV doc pm an cdv ct) ps sp:=by
 refine⟨len,λA outer s H args us vs Q E hr e0 hb r hsp=>?_⟩
 have hl:=len _ _ _ _ hsp
 have KX:K.In s.heap:=e0.mod.kin.keeps λb o e=>(e0.bs b o e).1
 have lim:s.heap.NoLimit:=e0.mod.nolimit.keeps λb o e=>(e0.bs b o e).1
 have hkind:∀ y∈ps.zip us,scope.names.lookup y.1=some .local\/(scope.names.lookup y.1=some .cell/\((cellsFrom (s.heap.objs.size + 1) scope.names []).lookup y.1).isSome=true):=λ⟨n,v⟩ hy=>by
  rcases S.par n (VS hy).1 with q | q
  ·exact .inl q
  ·exact .inr ⟨q,cellsFrom_some _ _ _ (.inl q)⟩
 refine codeAny_call_function hr.depth (KX _ _ lk) rfl S.co S.gen rfl (PySem.W.codeRec_of KX hcd) (hb _ _ _ _ ?_)
 refine wpAny_newFunctionEnv_cells S.kind hkind λenv he s1 x=>?_
 subst he
 refine⟨lim.keeps x.toInCall.keep,codeAny_func ?_⟩
 obtain⟨t,ht,hq⟩:=hbody A outer s H vs Q E (hr.deeper _) hsp
 have I:Inv (Zjg CX P w K mg base N qual scope f cdv A outer s H E) [] (Zz N vs) H s1:=ZjR S hr.hd e0 hl r x
 refine Yz (ht [] s1 (Zz N vs) H _ I hq) (λfl s' hs=>?_) λe s' hs=>hs
 have fin:∀ {σ':St}{H':Hp}{v:V}{u:Value},Inv (Zjg CX P w K mg base N qual scope f cdv A outer s H E) [] σ' H' s'->ZF v u->Q v H'->CE outer P w H s Q u s' :=
  λ{σ' H' v u} J rv q=>⟨v,H',J.os,J.bare,J.base,J.hok,rv,q⟩
 cases fl with
 | ret u =>
  obtain⟨v,σ',H',J,rv,q⟩:=hs
  exact fin J rv q
 | next =>
  obtain⟨σ',H',J,q⟩:=hs
  exact fin (v:=V.non) (u:=Value.none) J rfl q
 | brk =>
  obtain⟨_,_,_,q⟩:=hs
  exact False.elim q
 | cont =>
  obtain⟨_,_,_,q⟩:=hs
  exact False.elim q
section
variable {X:Cx}{x:Str}{p pos:Pos}{e:Expr}{es:List Expr}{t:TA}{id T:String}{r:List V->Hp->VK->Prop}
def tCB(r:List V->Hp->VK->Prop)(t:TA):TE:=λσ H Q=>t σ H λvs H1=>r vs H1 Q
def Zbo(hc:Jn X (.builtin id) r)(hg:Gl X x)(hm:X.mg x=none)(hv:bootBuiltins x=some (.builtin id))(ha:PA X (e :: es) t)(hn:x ≠ "__name__":=by decide)(hdb:(x == ("__debug__":Str))=false:=by decide)
  (he:starEach (e :: es) X.env=(false,eval e X.env) :: starEach es X.env:=by rfl) (hpl:(backTo pos (starEach es X.env)).any (·.1)=false:=by rfl):PE X (.Call (.Name x p) (e :: es) [] pos) (tCB r t):=by
 intro pins s σ H Q I h
 refine Vg (Zbq I hg hm hv ?_ hn hdb)
 exact PyProof.Rows.callWith_builtin1 (ZZ (ha pos pins s σ H _ I h) λus s1 ⟨vs,H1,I1,r1,q1⟩=>hc pins s1 σ H1 vs us Q I1 r1 q1) he hpl
def Zb7(hc:Jn X (.type T) r)(hg:Gl X x)(hm:X.mg x=none)(hv:bootBuiltins x=some (.type T))(ha:PA X (e :: es) t)(hn:x ≠ "__name__":=by decide)(hdb:(x == ("__debug__":Str))=false:=by decide)
  (he:starEach (e :: es) X.env=(false,eval e X.env) :: starEach es X.env:=by rfl) (hpl:(backTo pos (starEach es X.env)).any (·.1)=false:=by rfl):PE X (.Call (.Name x p) (e :: es) [] pos) (tCB r t):=by
 intro pins s σ H Q I h
 refine Vg (Zbq I hg hm hv ?_ hn hdb)
 exact Vb (ZZ (ha pos pins s σ H _ I h) λus s1 ⟨vs,H1,I1,r1,q1⟩=>hc pins s1 σ H1 vs us Q I1 r1 q1) he hpl
end
end L2
namespace HT
open PySem PyProof.Rows
section
open PySem.SeqAt
open PySem.AutoSeq1 (wpAny_loadPart')
open PySem.MeetsSeq PySem.MeetsSeq2 PySem.MeetsSeq3
end
section
variable {prog:Program}{w:World}{A:Around}{E:VSP}{s:Shared}
def sIx(n d:Nat):Option Int->Nat
 | none=>d
 | some v=>if v < 0 then (v + (n:Int)).toNat else min v.toNat n
def Zrt(n d:Nat)(hd:d<=n)(o:Option Int):sIx n d o<=n:=by
 cases o with
 | none=>exact hd
 | some v =>
  show (if v < 0 then (v + (n:Int)).toNat else min v.toNat n)<=n
  by_cases hv:v < 0
  ·rw [if_pos hv]; omega
  ·rw [if_neg hv]; exact Nat.min_le_right _ _
def ZlI(v:Int)(n d:Nat):(if v < 0 then max (v + (n:Int)) 0 else min v (n:Int))=((sIx n d (some v):Nat):Int):=by
 show (if v < 0 then max (v + (n:Int)) 0 else min v (n:Int))=(((if v < 0 then (v + (n:Int)).toNat else min v.toNat n):Nat):Int)
 by_cases hv:v < 0
 ·simp only [if_pos hv]; omega
 ·simp only [if_neg hv]; omega
def ZiU(lo hi:Option Int)(n:Nat):Builtin.Slice.sliceAdjust lo hi 1 (n:Int)=(((sIx n 0 lo:Nat):Int),((sIx n n hi:Nat):Int)):=by
 have h1:¬ ((1:Int) < 0):=by omega
 unfold Builtin.Slice.sliceAdjust
 simp only [h1,if_false]
 refine Prod.ext ?_ ?_
 ·cases lo with
  | none=>rfl
  | some v=>exact ZlI v n 0
 ·cases hi with
  | none=>rfl
  | some v=>exact ZlI v n n
def Zi0(i j:Nat):Builtin.Slice.slicePlaces (i:Int) (j:Int) 1=j - i:=by
 unfold Builtin.Slice.slicePlaces
 have h1:(1:Int) > 0:=by omega
 simp only [h1,if_true,Int.ediv_one]
 split <;> omega
def Zff{v:Value}{o:Option Int}{Q:Option Int->Shared->Prop}(p:IsPart v o)(h:Q o s):wpAny (model prog w) A (Builtin.Slice.slicePartIndex v) Q E s:=by
 cases p with
 | none=>exact slicePart_none h
 | int i t=>exact slicePart_int h
def ZdF{sl:Addr}{vl vu:Value}{lo hi:Option Int}{n:Nat}{Q:Int × Int × Nat->Shared->Prop}(hs:s.heap.IsSliceOf sl vl vu .none)(pl:IsPart vl lo)(pu:IsPart vu hi)
  (h:Q (((sIx n 0 lo:Nat):Int),1,sIx n n hi - sIx n 0 lo) s):wpAny (model prog w) A (Builtin.Slice.sliceApplied (.ref sl) (pure (n:Int))) Q E s:=by
 obtain⟨os,hos,hcs,hds⟩:=id hs
 unfold Builtin.Slice.sliceApplied Builtin.Slice.sliceFields
 refine Ya (Ya (wpAny_field hos hds (x:=vl) rfl (Ya (wpAny_field hos hds (x:=vu) rfl (Ya (wpAny_field hos hds (x:=.none) rfl (Yb ?_)))))))
 refine Ya (slicePart_none ?_)
 show wpAny _ _ (if ((1:Int) == 0)=true then _ else _) _ _ s
 rw [if_neg (by decide)]
 refine Ya (Zff pl (Ya (Zff pu (Ya (Yb ?_)))))
 show wpAny _ _ (match Builtin.Slice.sliceAdjust lo hi 1 (n:Int) with | (lo,hi)=>pure (lo,(1:Int),Builtin.Slice.slicePlaces lo hi 1)) _ _ s
 rw [ZiU lo hi n]
 show wpAny _ _ (pure (((sIx n 0 lo:Nat):Int),(1:Int),Builtin.Slice.slicePlaces ((sIx n 0 lo:Nat):Int) ((sIx n n hi:Nat):Int) 1)) _ _ s
 rw [Zi0]
 exact Yb h
def Zl5(xs:Array Value)(i k:Nat):((List.range k).filterMap λ(m:Nat)=>xs[((i:Int) + (m:Int) * 1).toNat]?).toArray=((xs.toList.drop i).take k).toArray:=by
 have e:(λ(m:Nat)=>xs[((i:Int) + (m:Int) * 1).toNat]?)=λm=>xs[i + m]?:=by
  funext m
  have:((i:Int) + (m:Int) * 1).toNat=i + m:=by omega
  rw [this]
 rw [e]
 have:=pick_run xs i k
 rw [List.filterMap_map] at this
 have e2:((λx=>xs[x]?) ∘ λx=>i + x)=λm=>xs[i + m]?:=rfl
 rw [e2] at this
 rw [this]
def getItem_tuple_cut{t sl:Addr}{items:Array Value}{vl vu:Value}{lo hi:Option Int}{Q:VSP}(ht:IsTup s.heap t items)(hs:s.heap.IsSliceOf sl vl vu .none)(pl:IsPart vl lo)(pu:IsPart vu hi)
  (hw:¬ (sIx items.size 0 lo=0/\sIx items.size items.size hi=items.size))
  (h:Q (.ref s.heap.objs.size) { s with heap:=s.heap.push { cls:=.type "tuple",data:=.seq ((items.toList.drop (sIx items.size 0 lo)).take (sIx items.size items.size hi - sIx items.size 0 lo)).toArray } })
  (hsz:items.size<=sizeLine):wpAny (model prog w) A (getItem (.ref t) (.ref sl)) Q E s:=by
 have htake:sizeOk (.seq ((items.toList.drop (sIx items.size 0 lo)).take (sIx items.size items.size hi - sIx items.size 0 lo)).toArray):=by
  show ((items.toList.drop (sIx items.size 0 lo)).take (sIx items.size items.size hi - sIx items.size 0 lo)).toArray.size<=sizeLine
  rw [YH,YE,List.length_drop,YK]
  omega
 have hj:sIx items.size items.size hi<=items.size:=Zrt _ _ (Yd _) hi
 obtain⟨os,hos,hcs,hds⟩:=id hs
 have hTs:s.TypeIs (.ref sl) "slice":=⟨os,hos,hcs⟩
 unfold getItem
 try with_reducible refine YM ?_
 first | refine Ya (Yb ?_) | skip
 refine Ya (wpAny_sequenceKey ht.typeIs (by decide) ?_)
 refine Ya (V3 (name:=Str.ofString "__getitem__") ht.typeIs PyProof.Rows.slot_tuple_getitem
  (YX PyProof.Rows.slot_tuple_getitem ht.typeIs entry_tuple_getitem ?_ (args_tuple_getitem _ _)))
 show wpAny _ _ (Builtin.Tuple.tupleItemsOf (.ref t) >>= _) _ _ s
 refine Ya (tupleItemsOf_ ht ?_)
 refine Ya (wpAny_typeOf hTs ?_)
 rw [if_pos (by decide)]
 refine Ya (ZdF hs pl pu ?_)
 have hno:¬ ((((sIx items.size 0 lo:Nat):Int) == 0 && (1:Int) == 1 && (sIx items.size items.size hi - sIx items.size 0 lo) == items.size)=true):=by
  intro q
  rw [VD,VD] at q
  have q1:((sIx items.size 0 lo:Nat):Int)=0:=eq_of_beq q.1.1
  have q2:sIx items.size items.size hi - sIx items.size 0 lo=items.size:=eq_of_beq q.2
  exact hw ⟨by omega,by omega⟩
 show wpAny _ _ (if (((sIx items.size 0 lo:Nat):Int) == 0 && (1:Int) == 1 && (sIx items.size items.size hi - sIx items.size 0 lo) == items.size)=true then _ else _) _ _ s
 rw [if_neg hno,Zl5]
 first
  | exact Ya (m:=Builtin.Tuple.tupleExact _) (YW (Yb ⟨_,rfl,Yb h⟩) htake)
  | exact Ya (m:=Builtin.Tuple.tupleExact _) (YW (Ya (Yb (Yb ⟨_,rfl,Yb h⟩))) htake)
  | exact Ya (Ya (m:=Builtin.Tuple.tupleExact _) (YW (Yb (Yb ⟨_,rfl,Yb h⟩)) htake))
  | exact Ya (Ya (m:=Builtin.Tuple.tupleExact _) (YW (Yb ⟨_,rfl,Yb h⟩) htake))
end
end HT
namespace L2
open PySem PySem.Spec PyProof.Rows
abbrev TO:=St->Hp->(Option Int->Hp->Prop)->Prop
def PO(X:Cx)(e:Option Expr)(t:TO):Prop :=
 ∀ (pins:List (Addr × Obj)) (s:Shared) (σ:St) (H:Hp) (Q:Option Int->Hp->Prop),Inv X pins σ H s->t σ H Q ->
  wpAny (model X.prog X.w) X.A (evalPart e X.env) (λu s'=>∃ o H',Inv X pins σ H' s'/\IsPart u o/\Q o H') X.xe s
def ZeU:TO:=λ_ H Q=>Q none H
def ZjC(t:TE):TO:=λσ H Q=>t σ H λx H1=>∃ i,x=.int i/\Q (some i) H1
section
variable {X:Cx}{e:Expr}{te:TE}{lo hi:Option Expr}{tl th:TO}{pos p2:Pos}
def ZkN:PO X none ZeU:=by
 intro pins s σ H Q I h
 rw [evalPart_none]
 exact Yb ⟨none,H,I,.none,h⟩
def Zk8(h:PE X e te):PO X (some e) (ZjC te):=by
 intro pins s σ H Q I hw
 rw [evalPart_some]
 refine ZZ (h pins s σ H _ I hw) λu s1 ⟨x,H1,I1,r1,q1⟩=>?_
 obtain⟨i,rfl,q⟩:=q1
 obtain⟨t,rfl⟩:=r1
 exact⟨some i,H1,I1,.int i t,q⟩
def SlR(X:Cx)(r:V->Option Int->Option Int->Hp->VK->Prop):Prop :=
 ∀ (pins:List (Addr × Obj)) (s:Shared) (σ:St) (H:Hp) (x:V) (v vl vu:Value) (lo hi:Option Int) (sl:Addr) (Q:VK),Inv X pins σ H s->ZF x v->s.heap.IsSliceOf sl vl vu .none->IsPart vl lo->IsPart vu hi->r x lo hi H Q ->
  ∃ T id,typeLookup (.type T) "__getitem__"=pure (some (.builtin id))/\s.TypeIs v T/\wpAny (model X.prog X.w) X.A (getItem v (.ref sl)) (EP X pins σ Q) X.xe s
def SlR.or{r r':V->Option Int->Option Int->Hp->VK->Prop}(h:SlR X r)(h':SlR X r'):SlR X (λx lo hi H Q=>r x lo hi H Q\/r' x lo hi H Q):=by
 intro pins s σ H x v vl vu lo hi sl Q I rx hs pl pu q
 rcases q with q | q
 ·exact h pins s σ H x v vl vu lo hi sl Q I rx hs pl pu q
 ·exact h' pins s σ H x v vl vu lo hi sl Q I rx hs pl pu q
def tSl(r:V->Option Int->Option Int->Hp->VK->Prop)(te:TE)(tl th:TO):TE:=λσ H Q=>te σ H λx H1=>tl σ H1 λl H2=>th σ H2 λu H3=>r x l u H3 Q
def ZiA{r:V->Option Int->Option Int->Hp->VK->Prop}(hr:SlR X r)(he:PE X e te)(hl:PO X lo tl)(hu:PO X hi th):PE X (.Subscript e (.Slice lo hi none p2) pos) (tSl r te tl th):=by
 intro pins s σ H Q I h
 refine Subscript_ (ZZ (he pins s σ H _ I h) λv s1 ⟨x,H1,I1,r1,q1⟩=>?_)
 refine wpAny_Slice (ZZ (hl pins s1 σ H1 _ I1 q1) λvl s2 ⟨l,H2,I2,pl,q2⟩=>ZZ (hu pins s2 σ H2 _ I2 q2) λvu s3 ⟨u,H3,I3,pu,q3⟩=>?_)
 rw [evalPart_none]
 refine Yb ?_
 have I4:Inv X pins σ H3 { s3 with heap:=s3.heap.push { cls:=.type "slice",data:=.fields #[vl,vu,.none] } }:=I3.kept (t':=s3.toks) λb ob q=>Yh _ q
 obtain⟨T,id,hT,ht,hg⟩:=hr pins { s3 with heap:=s3.heap.push { cls:=.type "slice",data:=.fields #[vl,vu,.none] } } σ H3 x v vl vu l u s3.heap.objs.size Q I4 r1 (Heap.IsSliceOf.new ..) pl pu q3
 show wpAny (model X.prog X.w) X.A (subscriptTail e (.Slice lo hi none p2) v (.ref s3.heap.objs.size)) (EP X pins σ Q) X.xe { s3 with heap:=s3.heap.push { cls:=.type "slice",data:=.fields #[vl,vu,.none] } }
 exact tail_any (ops:=[.ref s3.heap.objs.size,v]) ht hT hg (by with_unfolding_all rfl)
def Zq9(xs:List V)(lo hi:Option Int):List V:=(xs.drop (HT.sIx xs.length 0 lo)).take (HT.sIx xs.length xs.length hi - HT.sIx xs.length 0 lo)
def Zhu(xs:List V)(lo hi:Option Int):(Zq9 xs lo hi).length<=xs.length:=by
 unfold Zq9
 rw [YE,List.length_drop]
 omega
def Zst(K:PySem.W.Frag):V->Option Int->Option Int->Hp->VK->Prop:=λx lo hi H Q=>∃ a xs,x=.ref a/\SqT K H a xs /\
 ¬ (HT.sIx xs.length 0 lo=0/\HT.sIx xs.length xs.length hi=xs.length)/\∀ p,H p=none->Q (.ref p) (upd H p (.tup (Zq9 xs lo hi)))
def Zsg:SlR X (Zst X.K):=by
 intro pins s σ H x v vl vu lo hi sl Q I rx hs pl pu h
 obtain⟨a,xs,rfl,hx,hw,q⟩:=h
 cases rx
 obtain⟨its,r,ht,hz⟩:=I.tuple hx
 have hlen:its.toArray.size=xs.length:=by rw [YH]; exact r.length.symm
 refine⟨"tuple",_,PyProof.Rows.slot_tuple_getitem.lookup,ht.typeIs,?_⟩
 refine HT.getItem_tuple_cut ht hs pl pu (by rw [hlen]; exact hw) ?_ (by rw [hlen]; exact hz)
 rw [hlen]
 refine⟨.ref s.heap.objs.size,_,I.laid (t':=s.toks) (o:=.tup (Zq9 xs lo hi)) (λb ob q=>Yh _ q) (Yd _) ?_,rfl,q _ (I.hok.fresh (Yd _))⟩
 exact⟨Yj (Zhu xs lo hi) hz,_,(r.drop (HT.sIx xs.length 0 lo)).take (HT.sIx xs.length xs.length hi - HT.sIx xs.length 0 lo),IsTup.new _ _⟩
end
def ixN(n:Nat)(i:Int):Option Nat:=if 0<=i then (if i < n then some i.toNat else none) else if -(n:Int)<=i then some (i + n).toNat else none
def atI{α:Type}(xs:List α)(i:Int):Option α:=(ixN xs.length i).bind λj=>xs[j]?
def ZkZ{n:Nat}{i:Int}{j:Nat}(h:ixN n i=some j):seqIndex? i n=some j/\j < n/\-(n:Int)<=i/\i < n:=by
 unfold ixN at h
 by_cases h0:0<=i
 ·rw [if_pos h0] at h
  by_cases h1:i < n
  ·rw [if_pos h1] at h
   have e:i.toNat=j:=YT h
   exact⟨by rw [seqIndex_of h0 h1,e],by omega,by omega,h1⟩
  ·rw [if_neg h1] at h; cases h
 ·rw [if_neg h0] at h
  by_cases h1:-(n:Int)<=i
  ·rw [if_pos h1] at h
   have e:(i + n).toNat=j:=YT h
   exact⟨by rw [seqIndex_neg (by omega) h1,e],by omega,h1,by omega⟩
  ·rw [if_neg h1] at h; cases h
def Zhd{α:Type}{xs:List α}{i:Int}{v:α}(h:atI xs i=some v):∃ j,seqIndex? i xs.length=some j/\xs[j]?=some v/\j < xs.length/\-(xs.length:Int)<=i/\i < xs.length:=by
 unfold atI at h
 cases e:ixN xs.length i with
 | none=>rw [e] at h; cases h
 | some j =>
  rw [e] at h
  obtain⟨h1,h2,h3,h4⟩:=ZkZ e
  exact⟨j,h1,h,h2,h3,h4⟩
theorem ZM{α:Type}{xs:List α}{j:Nat}{v:α}(h:xs[j]?=some v):atI xs (j:Int)=some v:=by
 have hj:j < xs.length:=(Yi.mp h).1
 have e:ixN xs.length (j:Int)=some j:=by
  unfold ixN
  rw [if_pos (by omega),if_pos (by omega)]; simp
 unfold atI; rw [e]; exact h
def ZeR(b:Expr):Prop:=∀ o i,subscripted b false o i=operate [o,i] (getItem o i)
def IxR(X:Cx)(r:R2):Prop :=
 ∀ (value slice:Expr) (pins:List (Addr × Obj)) (s:Shared) (σ:St) (H:Hp) (x y:V) (v u:Value) (Q:VK),Inv X pins σ H s->ZF x v->ZF y u->r x y H Q ->
  subscripted slice false v u=operate [v,u] (getItem v u)->wpAny (model X.prog X.w) X.A (subscriptTail value slice v u) (EP X pins σ Q) X.xe s
def MtR(X:Cx)(id:String)(r:V->List V->Hp->VK->Prop):Prop :=
 ∀ (pins:List (Addr × Obj)) (s:Shared) (σ:St) (H:Hp) (x:V) (xs:List V) (v:Value) (us:List Value) (Q:VK),Inv X pins σ H s->ZF x v->Zw xs us->r x xs H Q ->
  wpAny (model X.prog X.w) X.A (call (.builtin id) (v :: us)) (EP X pins σ Q) X.xe s
section
variable {X:Cx}{a b:Expr}{ta tb:TE}{pos:Pos}
def IxR.or{r r':R2}(h:IxR X r)(h':IxR X r'):IxR X (λx y H Q=>r x y H Q\/r' x y H Q):=by
 intro value slice pins s σ H x y v u Q I rx ry q hs
 rcases q with q | q
 ·exact h value slice pins s σ H x y v u Q I rx ry q hs
 ·exact h' value slice pins s σ H x y v u Q I rx ry q hs
def MtR.or{id:String}{r r':V->List V->Hp->VK->Prop}(h:MtR X id r)(h':MtR X id r'):MtR X id (λx xs H Q=>r x xs H Q\/r' x xs H Q):=by
 intro pins s σ H x xs v us Q I rx rs q
 rcases q with q | q
 ·exact h pins s σ H x xs v us Q I rx rs q
 ·exact h' pins s σ H x xs v us Q I rx rs q
def Zm7{r:R2}(hr:IxR X r)(ha:PE X a ta)(hb:PE X b tb)(hs:ZeR b):PE X (.Subscript a b pos) (tOp r ta tb):=by
 intro pins s σ H Q I h
 exact Subscript_ (Zto ha hb I h λv u s2 x y H2 I2 rx ry q=>hr a b pins s2 σ H2 x y v u Q I2 rx ry q (hs _ _))
def Zss(K:PySem.W.Frag):R2:=λx y H Q=>∃ p xs i v,x=.ref p/\y=.int i/\Jw K H p xs/\atI xs i=some v/\Q v H
def Zt0(K:PySem.W.Frag):R2:=λx y H Q=>∃ p xs i v,x=.ref p/\y=.int i/\SqT K H p xs/\atI xs i=some v/\Q v H
def ZsC:R2:=λx y H Q=>∃ z i c,x=.str z/\y=.int i/\z.length<=sizeLine/\atI z.cps.toList i=some c/\Q (.str ⟨#[c]⟩) H
def ZjD:IxR X (Zss X.K):=by
 intro value slice pins s σ H x y v u Q I rx ry h hs
 obtain⟨p,xs,i,z,rfl,rfl,hq,he,q⟩:=h
 cases rx
 obtain⟨t,rfl⟩:=ry
 obtain⟨its,r,pl,hz⟩:=I.list hq
 obtain⟨j,h1,h2,h3,h4,h5⟩:=Zhd he
 obtain⟨w,ew,rw'⟩:=r.get h2
 have hl:=r.length
 have hn:=ZgT
 have fin:EP X pins σ Q w s:=⟨z,H,I,rw',q⟩
 by_cases h0:0<=i
 ·have hj:i.toNat=j:=by
   rw [seqIndex_of h0 h5] at h1
   exact YT h1
  exact item_listR pl.isList h0 (by omega) (by rw [hj]; simpa using ew) fin hs
 ·have hj:(i + (its.toArray.size:Int)).toNat=j:=by
   rw [seqIndex_neg (by omega) h4] at h1
   rw [YH,<- hl]
   exact YT h1
  exact subscriptTail_builtinR (x:=w) pl.isList.typeIs slot_list_getitem.lookup
   (wpAny_getItem_list_neg (Q:=λr s'=>r=w/\EP X pins σ Q r s') pl.isList (by omega) (by rw [List.size_toArray] <;> omega) (by omega) (by rw [hj]; simpa using ew) ⟨rfl,fin⟩) hs
def ZqA:IxR X (Zt0 X.K):=by
 intro value slice pins s σ H x y v u Q I rx ry h hs
 obtain⟨p,xs,i,z,rfl,rfl,hq,he,q⟩:=h
 cases rx
 obtain⟨t,rfl⟩:=ry
 obtain⟨its,r,pl,hz⟩:=I.tuple hq
 obtain⟨j,h1,h2,h3,h4,h5⟩:=Zhd he
 obtain⟨w,ew,rw'⟩:=r.get h2
 have hl:=r.length
 have hn:=ZgT
 have fin:EP X pins σ Q w s:=⟨z,H,I,rw',q⟩
 exact subscriptTail_builtinR (x:=w) pl.typeIs slot_tuple_getitem.lookup
  (getItem_tuple (j:=j) (Q:=λr s'=>r=w/\EP X pins σ Q r s') pl (by omega) (by omega) (by rw [List.size_toArray,<- hl]; exact h1) (by simpa using ew) ⟨rfl,fin⟩) hs
def ZrP:IxR X ZsC:=by
 intro value slice pins s σ H x y v u Q I rx ry h hs
 obtain⟨z,i,c,rfl,rfl,hz,he,q⟩:=h
 obtain⟨t,rfl⟩:=rx
 obtain⟨t',rfl⟩:=ry
 obtain⟨j,h1,h2,h3,h4,h5⟩:=Zhd he
 have hl:z.cps.toList.length=z.length:=by simp [Str.length]
 rw [hl] at h1 h4 h5
 have hn:=ZgT
 exact tail_any (typeIs_str s z t) slot_str_getitem.lookup (getItem_str (c:=c) (by
  have e1:decide (i < -(2 ^ 63:Int))=false:=YY (by omega)
  have e2:decide (i >= 2 ^ 63)=false:=YY (by omega)
  rw [e1,e2,Bool.or_false]) (by rw [h1]; simpa using h2) ⟨.str ⟨#[c]⟩,H,I.tok _,⟨_,rfl⟩,q⟩) hs
def Zi5(its:List Value)(n j:Nat)(u:Value):Obj.mapSeq (·.setIfInBounds j u) { cls:=.type "list",data:=.seq its.toArray n }={ cls:=.type "list",data:=.seq (its.set j u).toArray n }:=by
 simp [Obj.mapSeq]
theorem Inv.lst{pins:List (Addr × Obj)}{σ:St}{H:Hp}{s:Shared}{p:Addr}{xs:List V}(I:Inv X pins σ H s)(h:H p=some (.lst xs)) :
  ∃ (its:List Value) (n:Nat),Zw xs its/\s.heap.get? p=some { cls:=.type "list",data:=.seq its.toArray n }/\xs.length<=sizeLine:=by
 obtain⟨z,its,n,r,e⟩:=I.hok p _ h
 exact⟨its,n,r,e,z⟩
def Inv.lstUpd{pins:List (Addr × Obj)}{σ:St}{H:Hp}{s:Shared}{p:Addr}{xs ys:List V}{its its':List Value}{n n':Nat}{f:Obj->Obj}(I:Inv X pins σ H s)(h:H p=some (.lst xs))
  (ho:s.heap.get? p=some { cls:=.type "list",data:=.seq its.toArray n }) (hf:f { cls:=.type "list",data:=.seq its.toArray n }={ cls:=.type "list",data:=.seq its'.toArray n' }) (r:Zw ys its') (hz:ys.length<=sizeLine) (t:Nat) :
  Inv X pins σ (upd H p (.lst ys)) { s with heap:=s.heap.update p f,toks:=t }:=by
 have e:(s.heap.update p f).get? p=some { cls:=.type "list",data:=.seq its'.toArray n' }:=by
  rw [Yar f ho (by rw [hf] <;> rfl),hf]
 refine I.write (x:=p) (e:=p) (by rw [h]; trivial) (.inl rfl) (λb u hb q=>(Vo _ _ (Ne.symm hb)).trans q) ⟨_,e⟩ ?_
 exact⟨hz,its',n',r,e⟩
def Zl6:V->V->V->Hp->(Hp->Prop)->Prop:=λo i v H Q=>∃ p xs k j,o=.ref p/\i=.int k/\H p=some (.lst xs)/\ixN xs.length k=some j/\Q (upd H p (.lst (xs.set j v)))
def ZmU:ZtM X Zl6:=by
 intro pins s σ H o i v ov iv u Q I ro ri rv h
 obtain⟨p,xs,k,j,rfl,rfl,hp,hj,q⟩:=h
 cases ro
 obtain⟨t,rfl⟩:=ri
 obtain⟨its,n,r,ho,hz⟩:=I.lst hp
 obtain⟨h1,h2,h3,h4⟩:=ZkZ hj
 have hl:=r.length
 have hn:=ZgT
 have I':Inv X pins σ (upd H p (.lst (xs.set j v))) { s with heap:=s.heap.update p (Obj.mapSeq (·.setIfInBounds j u)) } :=
  I.lstUpd hp ho (Zi5 its n j u) (r.set rv j) (by rw [List.length_set]; exact hz) s.toks
 by_cases h0:0<=k
 ·have hk:k.toNat=j:=by
   rw [seqIndex_of h0 h4] at h1
   exact YT h1
  exact PySem.W.ki_setAt ho h0 (by omega) (by rw [YH,<- hl]; exact h4) (by rw [hk]; exact⟨_,I',q⟩)
 ·have hk:(k + (its.toArray.size:Int)).toNat=j:=by
   rw [seqIndex_neg (by omega) h3] at h1
   rw [YH,<- hl]
   exact YT h1
  exact PySem.W.ki_setBack ho (by omega) (by rw [YH,<- hl]; exact h3) (by omega) (by rw [hk]; exact⟨_,I',q⟩)
def Zdd:V->Bool
 | .non=>true
 | .bl _=>true
 | .int _=>true
 | .str _=>true
 | _=>false
def eqV:V->V->Bool
 | .non,.non=>true
 | .bl a,.bl b=>a == b
 | .bl a,.int b=>(if a then 1 else 0) == b
 | .int a,.bl b=>a == (if b then 1 else 0)
 | .int a,.int b=>a == b
 | .str a,.str b=>a == b
 | _,_=>false
def Zks{A:Around}{s:Shared}{y x:V}{u v:Value}(ry:ZF y u)(rx:ZF x v)(fy:Zdd y=true)(fx:Zdd x=true):SeqAt.EqAt A s u v (eqV y x):=by
 cases y with
 | non =>
  cases ry
  cases x with
  | non=>cases rx; exact SeqAt.EqAt.same _
  | bl b=>cases rx; exact SeqAt.EqAt.none_bool b
  | int b=>obtain⟨t,rfl⟩:=rx; exact SeqAt.EqAt.none_int b t
  | str b=>obtain⟨t,rfl⟩:=rx; exact SeqAt.EqAt.none_str b t
  | _=>exact absurd (show false=true from fx) YC
 | bl a =>
  cases ry
  cases x with
  | non=>cases rx; exact SeqAt.EqAt.bool_none a
  | bl b=>cases rx; exact SeqAt.EqAt.bool_bool a b
  | int b=>obtain⟨t,rfl⟩:=rx; exact SeqAt.EqAt.bool_int a b t
  | str b=>obtain⟨t,rfl⟩:=rx; exact SeqAt.EqAt.bool_str a b t
  | _=>exact absurd (show false=true from fx) YC
 | int a =>
  obtain⟨t',rfl⟩:=ry
  cases x with
  | non=>cases rx; exact SeqAt.EqAt.int_none a t'
  | bl b=>cases rx; exact SeqAt.EqAt.int_bool a t' b
  | int b=>obtain⟨t,rfl⟩:=rx; exact SeqAt.EqAt.int_int a t' b t
  | str b=>obtain⟨t,rfl⟩:=rx; exact SeqAt.EqAt.int_str a t' b t
  | _=>exact absurd (show false=true from fx) YC
 | str a =>
  obtain⟨t',rfl⟩:=ry
  cases x with
  | non=>cases rx; exact SeqAt.EqAt.str_none a t'
  | bl b=>cases rx; exact SeqAt.EqAt.str_bool a t' b
  | int b=>obtain⟨t,rfl⟩:=rx; exact SeqAt.EqAt.str_int a t' b t
  | str b=>obtain⟨t,rfl⟩:=rx; exact SeqAt.EqAt.str_str a t' b t
  | _=>exact absurd (show false=true from fx) YC
 | _=>exact absurd (show false=true from fy) YC
def eqU(x:V)(u:Value):Bool:=match u with
 | .none=>eqV .non x
 | .bool b=>eqV (.bl b) x
 | .int i _=>eqV (.int i) x
 | .str z _=>eqV (.str z) x
 | _=>false
def Zoh{x y:V}{u:Value}(r:ZF y u)(f:Zdd y=true):eqU x u=eqV y x:=by
 cases y with
 | non=>cases r; rfl
 | bl b=>cases r; rfl
 | int i=>obtain⟨t,rfl⟩:=r; rfl
 | str z=>obtain⟨t,rfl⟩:=r; rfl
 | _=>exact absurd (show false=true from f) YC
theorem ZeX{x:V}:∀ {xs:List V}{us:List Value},Zw xs us->xs.all Zdd=true->us.any (eqU x)=xs.any λy=>eqV y x
 | _,_,.nil,_=>rfl
 | y :: xs,u :: us,.cons r t,f=>by
  rw [List.all_cons,VD] at f
  rw [VX,VX,Zoh r f.1,ZeX t f.2]
theorem Zc1{A:Around}{s:Shared}{x:V}{v:Value}(rx:ZF x v)(fx:Zdd x=true):∀ {xs:List V}{us:List Value},Zw xs us->xs.all Zdd=true->∀ u∈us,SeqAt.EqAt A s u v (eqU x u)
 | _,_,.nil,_=>λu hu=>by cases hu
 | y :: xs,u :: us,.cons r t,f=>λu' hu=>by
  rw [List.all_cons,VD] at f
  rcases Yn.mp hu with rfl | hu
  ·rw [Zoh r f.1]; exact Zks r rx f.1 fx
  ·exact Zc1 rx fx t f.2 u' hu
def inV(x:V)(xs:List V):Bool:=xs.any λy=>eqV y x
def rIn(K:PySem.W.Frag)(neg:Bool):R2:=λx y H Q=>∃ p xs,y=.ref p/\(Jw K H p xs\/SqT K H p xs)/\Zdd x=true/\xs.all Zdd=true/\Q (.bl (if neg then !inV x xs else inV x xs)) H
theorem Zld:OpR X (compareOp .In) (rIn X.K false):=by
 intro pins s σ H x y v u Q I rx ry h
 obtain⟨p,xs,rfl,hq,fx,fs,q⟩:=h
 cases ry
 rcases hq with hq | hq
 ·obtain⟨its,r,pl,hz⟩:=I.list hq
  refine SeqAt.in_listAt (eqU x) pl.isList (λw hw=>Zc1 rx fx r fs w (by simpa using hw)) ⟨.bl _,H,I,rfl,?_⟩
  rw [show its.toArray.any (eqU x)=its.any (eqU x) by simp,ZeX r fs]
  exact q
 ·obtain⟨its,r,pl,hz⟩:=I.tuple hq
  refine SeqAt.in_tupleAt (eqU x) pl (λw hw=>Zc1 rx fx r fs w (by simpa using hw)) ⟨.bl _,H,I,rfl,?_⟩
  rw [show its.toArray.any (eqU x)=its.any (eqU x) by simp,ZeX r fs]
  exact q
theorem Zdu:OpR X (compareOp .NotIn) (rIn X.K true):=by
 intro pins s σ H x y v u Q I rx ry h
 obtain⟨p,xs,rfl,hq,fx,fs,q⟩:=h
 cases ry
 rcases hq with hq | hq
 ·obtain⟨its,r,pl,hz⟩:=I.list hq
  refine SeqAt.notIn_listAt (eqU x) pl.isList (λw hw=>Zc1 rx fx r fs w (by simpa using hw)) ⟨.bl _,H,I,rfl,?_⟩
  rw [show its.toArray.any (eqU x)=its.any (eqU x) by simp,ZeX r fs]
  exact q
 ·obtain⟨its,r,pl,hz⟩:=I.tuple hq
  refine SeqAt.notIn_tupleAt (eqU x) pl (λw hw=>Zc1 rx fx r fs w (by simpa using hw)) ⟨.bl _,H,I,rfl,?_⟩
  rw [show its.toArray.any (eqU x)=its.any (eqU x) by simp,ZeX r fs]
  exact q
def Zdz:Jn X (.builtin "len") (λxs H Q=>∃ p ys,xs=[.ref p]/\(Jw X.K H p ys\/SqT X.K H p ys)/\Q (.int ys.length) H):=by
 intro pins s σ H xs us Q I r h
 obtain⟨p,ys,rfl,hq,q⟩:=h
 obtain⟨u,rfl,rx⟩:=JE r
 cases rx
 have hn:=ZgT
 rcases hq with hq | hq
 ·obtain⟨its,r',pl,hz⟩:=I.list hq
  have hlen:=r'.length
  exact Calls.call_len_list pl.isList (by simp only [List.size_toArray] <;> omega) ⟨.int ys.length,H,I.tok _,⟨s.toks + 1,by rw [List.size_toArray,hlen]⟩,q⟩
 ·obtain⟨its,r',pl,hz⟩:=I.tuple hq
  have hlen:=r'.length
  exact len_tuple pl (by simp only [List.size_toArray] <;> omega) ⟨.int ys.length,H,I.tok _,⟨s.toks + 1,by rw [List.size_toArray,hlen]⟩,q⟩
def Jn.or{f:Value}{r r':List V->Hp->VK->Prop}(h:Jn X f r)(h':Jn X f r'):Jn X f (λxs H Q=>r xs H Q\/r' xs H Q):=by
 intro pins s σ H xs us Q I rs q
 rcases q with q | q
 ·exact h pins s σ H xs us Q I rs q
 ·exact h' pins s σ H xs us Q I rs q
def ZdD:Jn X (.type "list") (λxs H Q=>∃ p ys,xs=[.ref p]/\(Jw X.K H p ys\/SqT X.K H p ys)/\∀ l,H l=none->Q (.ref l) (upd H l (.lst ys))):=by
 intro pins s σ H xs us Q I r h
 obtain⟨p,ys,rfl,hq,q⟩:=h
 obtain⟨u,rfl,rx⟩:=JE r
 cases rx
 have fin:∀ (its:List Value),Zw ys its->ys.length<=sizeLine->∀ (h':Heap) (c':Nat),(∀ b o',s.heap.get? b=some o'->h'.get? b=some o') ->
   h'.get? s.heap.objs.size=some { cls:=.type "list",dict:=none,data:=.seq its.toArray c',slots:=#[] }->EP X pins σ Q (.ref s.heap.objs.size) { s with heap:=h' }:=λits r' hz h' c' kp e =>
  ⟨.ref s.heap.objs.size,_,I.laid (t':=s.toks) kp (Yd _) (show ZW X.prog X.w _ h' _ (.lst ys) from ⟨hz,its,c',r',e⟩),rfl,q _ (I.hok.fresh (Yd _))⟩
 rcases hq with hq | hq
 ·obtain⟨its,r',pl,hz⟩:=I.list hq
  have hlen:=r'.length
  obtain⟨o,ho,hc,n,hd⟩:=pl.isList
  exact call_list_seq p (.inl rfl) ho hc hd (λh' c' kp e=>fin its r' hz h' c' kp e) (by simp only [List.size_toArray] <;> omega)
 ·obtain⟨its,r',pl,hz⟩:=I.tuple hq
  have hlen:=r'.length
  obtain⟨o,ho,hc,n,hd⟩:=pl
  exact call_list_seq p (.inr rfl) ho hc hd (λh' c' kp e=>fin its r' hz h' c' kp e) (by simp only [List.size_toArray] <;> omega)
def tyV(K:PySem.W.Frag)(T:String)(x:V)(H:Hp):Prop:=match x with
 | .str _=>T="str"
 | .int _=>T="int"
 | .ref p=>(T="list"/\∃ xs,Jw K H p xs)\/(T="tuple"/\∃ o,K.lookup p=some o/\o.cls=.type "tuple"/\o.dict=none) \/
   (T="dict"/\((∃ kvs,H p=some (.dK kvs))\/∃ kvs,H p=some (.dT kvs)))\/(T="set"/\∃ S n,H p=some (.set S n))
 | _=>False
def Zka{pins:List (Addr × Obj)}{σ:St}{H:Hp}{s:Shared}{T:String}{x:V}{v:Value}(I:Inv X pins σ H s)(r:ZF x v)(ty:tyV X.K T x H) :
  s.TypeIs v T/\∀ a,v=.ref a->∃ ob,s.heap.get? a=some ob/\ob.dict=none:=by
 cases x with
 | str z =>
  obtain⟨t,rfl⟩:=r
  cases (show T="str" from ty)
  exact⟨typeIs_str s z t,λ_ e=>nomatch e⟩
 | int i =>
  obtain⟨t,rfl⟩:=r
  cases (show T="int" from ty)
  exact⟨typeIs_int s i t,λ_ e=>nomatch e⟩
 | ref p =>
  cases r
  rcases ty with ⟨rfl,xs,hq⟩ | ⟨rfl,o,hk,hc,hd⟩ | ⟨rfl,hk⟩ | ⟨rfl,S,n,hk⟩
  ·obtain⟨its,_,pl,_⟩:=I.list hq
   refine⟨pl.isList.typeIs,λa e=>?_⟩
   cases e
   obtain⟨o,n,e,c,hd,_⟩:=pl
   exact⟨o,e,hd⟩
  ·refine⟨⟨o,I.kIn p o hk,hc⟩,λa e=>?_⟩
   cases e
   exact⟨o,I.kIn _ o hk,hd⟩
  ·have z:∃ o,s.heap.get? p=some o/\o.ExactDict:=by
    rcases hk with ⟨kvs,hk⟩ | ⟨kvs,hk⟩
    ·obtain⟨_,_,_,_,o,_,_,e,ex,_⟩:=I.hok p _ hk
     exact⟨o,e,ex⟩
    ·obtain⟨_,_,_,_,o,_,_,e,ex,_⟩:=I.hok p _ hk
     exact⟨o,e,ex⟩
   obtain⟨o,e,ex⟩:=z
   refine⟨⟨o,e,ex.1⟩,λa e2=>?_⟩
   cases e2
   exact⟨o,e,ex.2.1⟩
  ·obtain⟨o,_,_,_,e,ex,_⟩:=I.hok p _ hk
   refine⟨⟨o,e,ex.1⟩,λa e2=>?_⟩
   cases e2
   exact⟨o,e,ex.2.1⟩
 | _=>exact False.elim ty
def tBM(K:PySem.W.Frag)(T:String)(r:V->List V->Hp->VK->Prop)(to:TE)(t:TA):TE:=λσ H Q=>to σ H λx H1=>tyV K T x H1/\t σ H1 λxs H2=>r x xs H2 Q
variable {o e:Expr}{es:List Expr}{to:TE}{t:TA}{name:Str}{apos cpos:Pos}{T id:String}{r:V->List V->Hp->VK->Prop}
end
def MtM(X:Cx)(id:String)(r:V->List V->Hp->VK->Prop):Prop :=
 ∀ (pins:List (Addr × Obj)) (s:Shared) (σ:St) (H:Hp) (x:V) (xs:List V) (v:Value) (us:List Value) (Q:VK),Inv X pins σ H s->ZF x v->Zw xs us->r x xs H Q ->
  wpAny (model X.prog X.w) X.A (call (.builtin id) (v :: us)) (EP X pins σ Q) X.xe s
def Zw.one:∀ {x:V}{us:List Value},Zw [x] us->∃ u,us=[u]/\ZF x u
 | _,_,.cons r .nil=>⟨_,rfl,r⟩
theorem Zw.zero:∀ {us:List Value},Zw [] us->us=[]
 | _,.nil=>rfl
theorem Zw.dropLast{xs:List V}{us:List Value}(h:Zw xs us):Zw xs.dropLast us.dropLast:=by
 induction h with
 | nil=>exact .nil
 | cons r t ih =>
  cases t with
  | nil=>exact .nil
  | cons q t'=>exact .cons r ih
def Zw.eraseIdx:∀ {xs:List V}{us:List Value}(i:Nat),Zw xs us->Zw (xs.eraseIdx i) (us.eraseIdx i)
 | _,_,_,.nil=>.nil
 | _,_,0,.cons _ t=>t
 | _,_,i + 1,.cons r t=>.cons r (Zw.eraseIdx i t)
def Zw.reverse{xs:List V}{us:List Value}(h:Zw xs us):Zw xs.reverse us.reverse:=by
 induction h with
 | nil=>exact .nil
 | cons r t ih=>rw [List.reverse_cons,List.reverse_cons]; exact Zw.append ih (.cons r .nil)
def ZiO{α:Type}(l:List α):l.eraseIdx (l.length - 1)=l.dropLast:=by
 induction l with
 | nil=>rfl
 | cons a r ih =>
  cases r with
  | nil=>rfl
  | cons b r =>
   have e:(a :: b :: r).length - 1=((b :: r).length - 1) + 1:=by
    have h1:(a :: b :: r).length=r.length + 2:=rfl
    have h2:(b :: r).length=r.length + 1:=rfl
    omega
   rw [e,List.eraseIdx_cons_succ,ih]
   all_goals rfl
section
variable {X:Cx}{pins:List (Addr × Obj)}{σ:St}{H:Hp}{s:Shared}{l b:Addr}{xs ys zs:List V}
theorem Inv.lset{its its':List Value}{n:Nat}{f:Array Value->Array Value}{t':Nat}(I:Inv X pins σ H s)(hH:H l=some (.lst xs))
  (e:s.heap.get? l=some { cls:=.type "list",data:=.seq its.toArray n }) (hf:f its.toArray=its'.toArray) (hv:Zw ys its') (hz:ys.length<=sizeLine) :
  Inv X pins σ (upd H l (.lst ys)) { s with heap:=s.heap.update l (Obj.mapSeq f),toks:=t' }:=by
 have q:=PySem.IsL.update e f
 rw [hf] at q
 refine I.write (x:=l) (e:=l) (by rw [hH]; exact trivial) (.inl rfl) (λb' u hb hu=>(Vo s.heap (Obj.mapSeq f) (Ne.symm hb)).trans hu) ⟨_,q⟩ ?_
 exact⟨hz,its',_,hv,q⟩
def Inv.lnew{its:List Value}{t':Nat}(I:Inv X pins σ H s)(hv:Zw ys its)(hz:ys.length<=sizeLine) :
  Inv X pins σ (upd H s.heap.objs.size (.lst ys)) { s with heap:=s.heap.push { cls:=.type "list",data:=.seq its.toArray },toks:=t' } :=
 I.laid (λ_ _ q=>Yh _ q) (Yd _) ⟨hz,its,0,hv,Yo _ rfl⟩
theorem Inv.fresh(I:Inv X pins σ H s):H s.heap.objs.size=none:=I.hok.fresh (Yd _)
def Inv.lstM(I:Inv X pins σ H s)(hH:H l=some (.lst xs)):xs.length<=sizeLine/\∃ (its:List Value) (n:Nat),Zw xs its/\xs.length=its.length/\s.heap.get? l=some { cls:=.type "list",data:=.seq its.toArray n }:=by
 obtain⟨z,its,n,r,e⟩:=I.hok l _ hH
 exact⟨z,its,n,r,r.length,e⟩
def Zmv{n:Nat}(h:n<=sizeLine):Builtin.List.listTooLong n=false:=by
 unfold Builtin.List.listTooLong
 exact YY (by omega)
end
section
variable {X:Cx}
def ZgZ:V->List V->Hp->VK->Prop:=λx vs H Q=>∃ l xs y,x=.ref l/\vs=[y]/\H l=some (.lst xs)/\xs.length < sizeLine/\Q .non (upd H l (.lst (xs ++ [y])))
def ZgR:MtM X "list.append" ZgZ:=by
 intro pins s σ H x vs v us Q I rx rv h
 obtain⟨l,xs,y,rfl,rfl,hH,hz,q⟩:=h
 cases rx
 obtain⟨u,rfl,ru⟩:=rv.one
 obtain⟨z,its,n,r,hl,e⟩:=I.lstM hH
 refine call_meets F.slot_list_append ⟨_,e,rfl⟩ F.entry_list_append (F.args_list_append_2 _ _) (PySem.list_append l its.toArray n u (by rw [YH]; omega)) ⟨e,?_⟩
 refine⟨.non,_,I.lset (its':=its ++ [u]) hH e (by simp) (r.append (.cons ru .nil)) ?_,rfl,q⟩
 rw [YV,List.length_singleton]
 omega
def Zf1:V->List V->Hp->VK->Prop:=λx vs H Q=>∃ l b xs zs,x=.ref l/\vs=[.ref b]/\H l=some (.lst xs)/\H b=some (.lst zs)/\xs.length + zs.length<=sizeLine/\Q .non (upd H l (.lst (xs ++ zs)))
def Zk3:MtM X "list.extend" Zf1:=by
 intro pins s σ H x vs v us Q I rx rv h
 obtain⟨l,b,xs,zs,rfl,rfl,hH,hB,hz,q⟩:=h
 cases rx
 obtain⟨u,rfl,ru⟩:=rv.one
 cases ru
 obtain⟨z,its,n,r,hl,e⟩:=I.lstM hH
 obtain⟨z2,its2,n2,r2,hl2,e2⟩:=I.lstM hB
 have hsz:its.toArray.size + its2.toArray.size<=sizeLine:=by rw [YH,YH]; omega
 have hlong:¬ (!its.toArray.isEmpty && Builtin.List.listTooLong (its.toArray.size + its2.toArray.size))=true:=by
  rw [Zmv hsz,Bool.and_false]
  exact YC
 refine call_meets F.slot_list_extend ⟨_,e,rfl⟩ F.entry_list_extend (F.args_list_extend_2 _ _)
  (AutoSeq1.list_extend_list_list_0 l its.toArray n b its2.toArray n2 hlong (by rw [YH]; omega) (by omega)) ⟨e,e2,?_⟩
 refine⟨.non,_,I.lset (its':=its ++ its2) hH e (by simp) (r.append r2) ?_,rfl,q⟩
 rw [YV]
 omega
def ZsG:V->List V->Hp->VK->Prop:=λx vs H Q=>∃ l xs y,x=.ref l/\vs=[]/\H l=some (.lst xs)/\xs[xs.length - 1]?=some y/\Q y (upd H l (.lst xs.dropLast))
def ZrB:MtM X "list.pop" ZsG:=by
 intro pins s σ H x vs v us Q I rx rv h
 obtain⟨l,xs,y,rfl,rfl,hH,hy,q⟩:=h
 cases rx
 have hus:=rv.zero
 subst hus
 obtain⟨z,its,n,r,hl,e⟩:=I.lstM hH
 obtain⟨u,hu,ru⟩:=r.get hy
 have hy':its.toArray[its.toArray.size - 1]?=some u:=by
  show its.toArray[its.length - 1]?=some u
  rw [<- YJ,<- hl]
  exact hu
 refine call_meets F.slot_list_pop ⟨_,e,rfl⟩ F.entry_list_pop (F.args_list_pop_1 _) (MeetsSeq.list_pop_last l its.toArray n u hy' (by rw [YH]; omega)) ⟨e,?_⟩
 refine⟨y,_,I.lset (its':=its.dropLast) hH e ?_ r.dropLast ?_,ru,q⟩
 ·show its.toArray.eraseIdxIfInBounds (its.toArray.size - 1)=its.dropLast.toArray
  rw [YH,List.eraseIdxIfInBounds_toArray,ZiO]
 ·rw [List.length_dropLast]
  omega
def ZhW:V->List V->Hp->VK->Prop:=λx vs H Q=>∃ l xs,x=.ref l/\vs=[]/\H l=some (.lst xs)/\Q .non (upd H l (.lst xs.reverse))
def Zos:V->List V->Hp->VK->Prop:=λx vs H Q=>∃ l xs,x=.ref l/\vs=[]/\H l=some (.lst xs)/\Q .non (upd H l (.lst []))
def ZqP:R2:=λx y H Q=>∃ l b xs zs,x=.ref l/\y=.ref b/\H l=some (.lst xs)/\H b=some (.lst zs)/\xs.length + zs.length<=sizeLine/\∀ p,H p=none->Q (.ref p) (upd H p (.lst (xs ++ zs)))
def Zqx:OpR X (binaryOp .Add) ZqP:=by
 intro pins s σ H x y v u Q I rx ry h
 obtain⟨l,b,xs,zs,rfl,rfl,hH,hB,hz,q⟩:=h
 cases rx
 cases ry
 obtain⟨z,its,n,r,hl,e⟩:=I.lstM hH
 obtain⟨z2,its2,n2,r2,hl2,e2⟩:=I.lstM hB
 refine PySem.P.add_list e e2 ?_ (by rw [YH,YH]; omega)
 have ea:its.toArray ++ its2.toArray=(its ++ its2).toArray:=by simp
 rw [ea]
 exact⟨.ref _,_,I.lnew (t':=s.toks) (r.append r2) (by rw [YV]; omega),rfl,q _ I.fresh⟩
end
section
variable {prog:Program}{w:World}{A:Around}{E:VSP}{s:Shared}
end
section
variable {X:Cx}
end
end L2
namespace Att
open PySem PySem.W PySem.Calls PyProof.Rows
def ZeS{P:Params}{h:Heap}:∀ (ns:List Int) (vs:List Value),WellAll P h vs (ns.map WData.int)->IntsAre vs ns:=by
 intro ns
 induction ns with
 | nil =>
  intro vs w
  rw [List.map_nil] at w
  cases w
  exact .nil
 | cons n ns ih =>
  intro vs w
  rw [Yr] at w
  cases w with
  | cons a b =>
   cases a
   exact .cons _ _ (ih _ b)
def ZlK{l:OpenLaw}{n:Nat}(hn:l.most=some n){P:Params}{h:Heap}{args:List WData}{vals:List Value}
  (hpre:l.row.toRowW.claim.pre args=true) (hwl:WellAll P h vals args) :
  ∃ a vs ns,vals=[Value.ref a]/\args=[WData.list (ns.map WData.int)]/\h.get? a=some { cls:=.type "list",data:=.seq vs.toArray }/\IntsAre vs ns/\ns.length<=n:=by
 have hsh:WShape.hasAll [] args [.list .int]=true:=(pre_splitW hpre).1
 have hc:l.pre.holds [] { args:=args }=true:=(pre_splitW hpre).2
 obtain⟨d,r,rfl,h1,h2⟩:=hasAllW_cons hsh
 obtain rfl:=hasAllW_nil h2
 obtain⟨xs,rfl,h3⟩:=hasW_list h1
 obtain⟨ns,rfl⟩:=items_int h3
 have hlen:ns.length<=n:=by
  unfold OpenLaw.pre at hc
  have h4:(WTm.not (.lt (.lit (.int (n:Int))) (.len (.arg 0)))).holds [] { args:=[.list (ns.map .int)] }=true:=by
   have h4:=(holds_andW hc).1
   rw [hn] at h4
   exact h4
  have h5:=condW_of h4 (w_not (w_lt w_lit (w_len_list (w_arg rfl))))
  rw [Ye] at h5
  refine Nat.le_of_not_lt λq=>?_
  have q':(n:Int) < ((ns.length:Nat):Int):=by omega
  first
   | (rw [YL q'] at h5; exact absurd h5 (by decide))
   | (simp at h5; omega)
 cases hwl with
 | cons w1 w2 =>
  cases w2
  cases w1 with
  | list ho hall=>exact⟨_,_,ns,rfl,rfl,ho,ZeS ns _ hall,hlen⟩
def Zj9(l:OpenLaw)(args:List WData):l.row.toRowW.claim.post args (.bool true) args=true :=
 postW_of (r:=l.row.toRowW) (X:=(true == true))
  (show WShape.has [] (.bool true) .bool=true by first | rfl | decide | simp [WShape.has,WShape.arms,WShape.armsAll])
  (show (WTm.eq .res (.lit (.bool true))).value [] { args:=args,res:=some (.bool true),after:=args }=some (.bool (true == true)) from w_eq_bool (w_res rfl) w_lit) rfl
def attach_call{l:OpenLaw}{n:Nat}{q:Program}{loose:List Str}{XP:(Str->Option Value)->Heap->Prop}{YP:World->Heap->Prop}{d:DefRec}
  (hn:l.most=some n) (hdf:d.params.defaults=[])
  (call:∀ (w:World) (s₀ s₁:Shared) (mg mb:Str->Option Value) (fa:Addr) (o:Obj) (pm cd doc:Value) (a:Addr) (vs:List Value) (ns:List Int),
   Ground q loose [] XP w s₀ mg mb s₁.heap->YP w s₁.heap ->
   s₁.heap.get? fa=some o->o.data=.func (docDef d.name d.params d.body d.scope pm cd doc)->s₁.heap.CodeRec cd d.name->mg d.name=some (.ref fa) ->
   s₁.heap.get? a=some { cls:=.type "list",data:=.seq vs.toArray }->IntsAre vs ns->ns.length<=n->s₁.gens=#[] ->
   codeAny (model l.prog w) callerA (.call (.ref fa) ⟨[.ref a],[]⟩) (λr s'=>r=.ok (.ret (.bool true))/\OldK s₁.heap s'.heap/\s'.os=s₁.os/\AllBare s'.gens) s₁) :
  WalkO q loose XP YP l.row.toRowW d [] (λf vs=>PySem.call f vs):=by
 intro w s₀ s₁ mg mb G Y fa o pm cd doc dV kV ho hd hcd hD hmg hg args vals as hpre hlay hrd hwl hlo
 obtain rfl:dV=.none:=Dflts.none hD hdf
 obtain rfl:kV=.none:=Dflts.noKw hD
 obtain⟨a,vs,ns,rfl,rfl,hobj,hints,hlen⟩:=ZlK hn hpre hwl
 refine enter_call (Y2 (call w s₀ s₁ mg mb fa o pm cd doc a vs ns G Y ho (fd_plain hd) hcd hmg hobj hints hlen hg) λr s' hq=>?_)
 obtain⟨rfl,h2,h3,h4⟩:=hq
 exact⟨.inl ⟨.bool true,.bool true,[],rfl,λ_=>rfl,.bool true,Zj9 l _,λ_=>⟨List.Pairwise.nil,λ_ hm=>(nomatch hm)⟩⟩,h2,h3,h4⟩
section
variable {prog:Program}{w:World}{A:Around}{E:VSP}{s:Shared}{K:Frag}
def noObjs(h:Heap):Heap:={ h with objs:=#[] }
theorem noObjs_get(h:Heap)(b:Addr):(noObjs h).get? b=none:=by
 cases e:(noObjs h).get? b with
 | none=>rfl
 | some o=>exact absurd (Yf e) (V9 _)
def fr_all{h:Heap}{L:Addr}{m:Str->Option Value}(n:h.Ns L m):Fr (noObjs h) L h m :=
 ⟨n,λb o e=>(by rw [noObjs_get] at e; cases e),YD _⟩
end
end Att
namespace L2
open PySem PySem.Spec PyProof.Rows
def Zb6:∀ {vs:List Value}{ns:List Int},IntsAre vs ns->Zw (ns.map V.int) vs
 | _,_,.nil=>.nil
 | _,_,.cons n t h=>.cons ⟨t,rfl⟩ (Zb6 h)
def Zct(s:Stmt)(j:Nat):Stmt:=match s with
 | .ClassDef _ _ _ body _ _ _ _ _ _ _=>body.getD j (.Pass ⟨0,0,0,0⟩)
 | _=>.Pass ⟨0,0,0,0⟩
def ZH(s:Stmt):Arguments:=match s with
 | .FunctionDef _ a _ _ _ _ _ _ _ _=>a
 | _=>{ posonlyargs:=[],args:=[],vararg:=none,kwonlyargs:=[],kw_defaults:=[],kwarg:=none,defaults:=[] }
def ZB(s:Stmt):List Stmt:=match s with
 | .FunctionDef _ _ b _ _ _ _ _ _ _=>b
 | _=>[]
def Zc(s:Stmt):Scope:=match s with
 | .FunctionDef _ _ _ _ _ _ sc _ _ _=>sc
 | _=>{ kind:=.function,names:=[],isGenerator:=false,isCoroutine:=false }
abbrev ZD:CXT:=λ_ _ _ _ _ _=>False
abbrev E0:XK:=λ_ _ _=>False
def Zk2{X:Cx}:Zei ZD X E0:=λ_ _ _ _ _ _ _ h=>h.elim
structure Fun(K:PySem.W.Frag)(x qual:Str)(st:Stmt)(f:Addr)(fd:FuncData):Prop where
 ex:∃ (oc:Value) (od:Option Addr) (kV doc pm:Value) (an:Option Addr) (cdv ct:Value) (osl:Array (Option Value)),
  fd=fnOf x qual (ZH st) (ZB st) (Zc st) .none kV doc pm an cdv ct/\K.lookup f=some ⟨oc,od,.func fd,osl⟩/\codeIn K cdv qual=true
 kp:keepIn K (.ref f)=true
section
variable {P:Program}{w:World}{K:PySem.W.Frag}{mg:Str->Option Value}{base:Heap}
theorem Fun.ok{x qual:Str}{st:Stmt}{f:Addr}{fd:FuncData}{N ps:List Str}{k:Nat}{sp:Sp}(F:Fun K x qual st f fd)(S:FnScope N ps (Zc st))(len:∀ vs H Q E,sp vs H Q E->vs.length=ps.length)
  (hbody:∀ (cdv:Value) (A:Around) (outer:List Env) (s:Shared) (H:Hp) (vs:List V) (Q:VK) (E:XK),Room k (A.deeper (envOfC qual (Zc st) s.heap.objs.size f cdv))->sp vs H Q E ->
   ∃ t,PSs (Zjg ZD P w K mg base N qual (Zc st) f cdv A outer s H E).nox (ZB st) t/\t { nx:=λ_ H'=>Q .non H',rt:=Q } (Zz N vs) H):FnOk P w K mg base ZD (k + 1) f fd ps sp:=by
 obtain⟨oc,od,kV,doc,pm,an,cdv,ct,osl,rfl,lk,hcd⟩:=F.ex
 refine Zpn lk hcd S len λA outer s H vs Q E hr hsp=>?_
 obtain⟨t,h,q⟩:=hbody cdv A outer s H vs Q E hr hsp
 exact⟨t,h.nox,q⟩
def Fun.binds{x qual:Str}{st:Stmt}{f:Addr}{fd:FuncData}{ps:List Str}(F:Fun K x qual st f fd)
  (h:∀ (kV doc pm:Value) (an:Option Addr) (cdv ct:Value) (us:List Value),us.length=ps.length->bindArgs (fnOf x qual (ZH st) (ZB st) (Zc st) .none kV doc pm an cdv ct) ⟨us,[]⟩=pure (ps.zip us)):Z7 K fd ps []:=by
 obtain⟨oc,od,kV,doc,pm,an,cdv,ct,osl,rfl,lk,hcd⟩:=F.ex
 exact .all (h kV doc pm an cdv ct)
def Zco{x qual:Str}{st:Stmt}{f:Addr}{oc:Value}{od an:Option Addr}{osl:Array (Option Value)}{kV doc pm cdv ct:Value}(l:K.lookup f=some ⟨oc,od,.func (fnOf x qual (ZH st) (ZB st) (Zc st) .none kV doc pm an cdv ct),osl⟩)
  (c:codeIn K cdv qual=true) (k:keepIn K (.ref f)=true):Fun K x qual st f (fnOf x qual (ZH st) (ZB st) (Zc st) .none kV doc pm an cdv ct):=⟨⟨oc,od,kV,doc,pm,an,cdv,ct,osl,rfl,l,c⟩,k⟩
end
def Z9{A:Around}{k:Nat}(hr:Room k A):A.units + 1 < cLine:=YA (Nat.add_le_add_left (by decide:1<=64) _) hr.units
def Zgp{n:Nat}(h:n<=1000):n < sizeLine:=YA h (by decide)
section
variable {X:Cx}
def pv(i:Nat){x:Str}{pos:Pos}(hN:X.N[i]?=some x:=by rfl)(hv:Vis X.env.scope x:=by first | exact Or.inl rfl | exact Or.inr (Or.inl rfl) | exact Or.inr (Or.inr rfl))(hd:(x == ("__debug__":Str))=false:=by decide)
  (hcd:(x == ("__classdict__":Str))=false:=by decide):PE X (.Name x pos) (ZnQ i):=Zog hN hv hd hcd
end
theorem JZ{c A B:Prop}[Decidable c](h1:c->A)(h2:¬ c->B):if c then A else B:=by
 by_cases h:c
 ·rw [if_pos h]
  exact h1 h
 ·rw [if_neg h]
  exact h2 h
def Zk(H H':Hp):Prop:=∀ b o,H b=some o->H' b=some o
theorem Zk.refl(H:Hp):Zk H H:=λ_ _ h=>h
theorem Zk.trans{H H1 H2:Hp}(a:Zk H H1)(b:Zk H1 H2):Zk H H2:=λc o h=>b c o (a c o h)
theorem Zk.free{H H':Hp}(e:Zk H H'){l:Addr}(h:H' l=Option.none):H l=Option.none:=by
 cases q:H l with
 | none=>rfl
 | some o =>
  rw [e l o q] at h
  cases h
theorem Zk.seq{K:PySem.W.Frag}{H H':Hp}{a:Addr}{xs:List V}(e:Zk H H')(h:Jw K H a xs):Jw K H' a xs:=by
 rcases h with (h | ⟨o,h⟩) | h
 ·exact .inl (.inl (e _ _ h))
 ·exact .inl (.inr ⟨o,e _ _ h⟩)
 ·exact .inr h
section
variable {κ:Type}[DecidableEq κ]
def JI(kvs:List (κ × V))(k:κ):Option V:=(kvs.find? λkv=>decide (kv.1=k)).map (·.2)
def Jh(kvs:List (κ × V))(k:κ)(v:V):List (κ × V) :=
 if (kvs.any λkv=>decide (kv.1=k))=true then kvs.map (λkv=>if kv.1=k then (kv.1,v) else kv) else kvs ++ [(k,v)]
def Zsm(kvs:List (κ × V))(k:κ):List (κ × V):=kvs.filter λkv=>decide (kv.1 ≠ k)
theorem ZcW{p:κ × V}{r:List (κ × V)}{k:κ}(e:p.1=k):JI (p :: r) k=some p.2:=by simp [JI,List.find?_cons,e]
theorem ZcS{p:κ × V}{r:List (κ × V)}{k:κ}(e:¬ p.1=k):JI (p :: r) k=JI r k:=by simp [JI,List.find?_cons,e]
def ZfR(k:κ):∀ kvs:List (κ × V),(kvs.any λkv=>decide (kv.1=k))=(JI kvs k).isSome
 | []=>rfl
 | p :: r=>by
  rw [VX]
  by_cases e:p.1=k
  ·simp only [ZcW e,decide_eq_true e,Bool.true_or,Option.isSome_some]
  ·rw [ZcS e,YY e,Bool.false_or]; exact ZfR k r
def Zcx(kvs:List (κ × V))(k:κ)(v:V):(Jh kvs k v).length<=kvs.length + 1:=by
 unfold Jh
 split
 ·rw [Ye]; omega
 ·rw [YV,YR,List.length_nil]; omega
def Znm{kvs:List (κ × V)}{k:κ}(v:V)(h:JI kvs k=none):Jh kvs k v=kvs ++ [(k,v)]:=by
 unfold Jh
 rw [ZfR,h]
 exact if_neg (by decide)
def J0.isSome_eq{o:Option V}{u:Option Value}(r:J0 o u):o.isSome=u.isSome:=by
 cases o with
 | none=>cases u with
  | none=>rfl
  | some _=>exact (show False from r).elim
 | some _=>cases u with
  | none=>exact (show False from r).elim
  | some _=>rfl
theorem J0.getD{o:Option V}{u:Option Value}{d:V}{d':Value}(r:J0 o u)(rd:ZF d d'):ZF (o.getD d) (u.getD d'):=by
 cases o with
 | none=>cases u with
  | none=>exact rd
  | some _=>exact (show False from r).elim
 | some _=>cases u with
  | none=>exact (show False from r).elim
  | some _=>exact r
def KV.val{kvs:List (κ × V)}{vs:List (κ × Value)}(r:KV kvs vs)(k:κ):J0 (JI kvs k) (valueAt vs k):=by
 unfold KV at r
 induction r with
 | nil=>exact True.intro
 | @cons p q ps qs h t ih =>
  obtain⟨h1,h2⟩:=h
  by_cases e:p.1=k
  ·have e':q.1=k:=h1.symm.trans e
   have b:valueAt (q :: qs) k=some q.2:=by simp [valueAt,List.find?_cons,e']
   rw [ZcW e,b]; exact h2
  ·have e':¬ q.1=k:=λz=>e (h1.trans z)
   have b:valueAt (q :: qs) k=valueAt qs k:=by simp [valueAt,List.find?_cons,e']
   rw [ZcS e,b]; exact ih
theorem KV.any{kvs:List (κ × V)}{vs:List (κ × Value)}(r:KV kvs vs)(k:κ):(kvs.any λkv=>decide (kv.1=k))=vs.any λkv=>decide (kv.1=k):=by
 unfold KV at r
 induction r with
 | nil=>rfl
 | cons h t ih=>rw [VX,VX,ih,h.1]
def KV.repl{kvs:List (κ × V)}{vs:List (κ × Value)}(r:KV kvs vs)(k:κ){y:V}{u:Value}(ry:ZF y u) :
  KV (kvs.map λkv=>if kv.1=k then (kv.1,y) else kv) (vs.map λkv=>if kv.1=k then (kv.1,u) else kv):=by
 unfold KV at r ⊢
 induction r with
 | nil=>exact .nil
 | @cons p q ps qs h t ih =>
  rw [Yr,Yr]
  refine .cons ?_ ih
  obtain⟨h1,h2⟩:=h
  by_cases e:p.1=k
  ·rw [if_pos e,if_pos (h1.symm.trans e)]; exact⟨h1,ry⟩
  ·rw [if_neg e,if_neg (λz=>e (h1.trans z))]; exact⟨h1,h2⟩
def KV.put{kvs:List (κ × V)}{vs:List (κ × Value)}(r:KV kvs vs)(k:κ){y:V}{u:Value}(ry:ZF y u):KV (Jh kvs k y) (stored vs k u):=by
 unfold Jh stored
 rw [r.any k]
 by_cases e:(vs.any λkv=>decide (kv.1=k))=true
 ·rw [if_pos e,if_pos e]; exact r.repl k ry
 ·rw [if_neg e,if_neg e]; exact Paired.snoc r ⟨rfl,ry⟩
def KV.drop{kvs:List (κ × V)}{vs:List (κ × Value)}(r:KV kvs vs)(k:κ):KV (Zsm kvs k) (without vs k):=by
 unfold KV at r ⊢
 unfold Zsm without
 induction r with
 | nil=>exact .nil
 | @cons p q ps qs h t ih =>
  obtain⟨h1,h2⟩:=h
  rw [List.filter_cons,List.filter_cons]
  by_cases e:p.1=k
  ·have a:¬ decide (p.1 ≠ k)=true:=by simp [e]
   have b:¬ decide (q.1 ≠ k)=true:=by simp [h1.symm.trans e]
   rw [if_neg a,if_neg b]; exact ih
  ·have e':¬ q.1=k:=λz=>e (h1.trans z)
   have a:decide (p.1 ≠ k)=true:=by simp [e]
   have b:decide (q.1 ≠ k)=true:=by simp [e']
   rw [if_pos a,if_pos b]; exact .cons ⟨h1,h2⟩ ih
theorem KV.keys{kvs:List (κ × V)}{vs:List (κ × Value)}(r:KV kvs vs):kvs.map (·.1)=vs.map (·.1):=by
 unfold KV at r
 induction r with
 | nil=>rfl
 | cons h t ih=>rw [Yr,Yr,ih,h.1]
theorem KV.length{kvs:List (κ × V)}{vs:List (κ × Value)}(r:KV kvs vs):kvs.length=vs.length:=Paired.length r
end
def Znr{P:Program}{w:World}{k:ZU}{u:Value}(r:ZF (kV k) u):(ZY P w).is k u=true:=by
 cases k with
 | inl i=>obtain⟨t,e⟩:=(show ∃ t,u=Value.int i t from r); subst e; exact Zg4 P w i t
 | inr x=>obtain⟨t,e⟩:=(show ∃ t,u=Value.str x t from r); subst e; exact Zg6 P w x t
theorem Zgy{P:Program}{w:World}:∀ {ks:List ZU}{us:List Value},Zw (ks.map kV) us->ItemsAre (ZY P w) ks us
 | [],_,r=>by rw [List.map_nil] at r; cases r; exact .nil
 | k :: ks,_,r=>by
  rw [Yr] at r
  cases r with
  | cons h t=>exact .cons (Znr h) (Zgy t)
abbrev KT(H:Hp):List (List ZU × V)->List (List ZU × Addr × Value)->Prop:=Paired λp q=>p.1=q.1/\H q.2.1=some (.tup (p.1.map kV))/\ZF p.2 q.2.2
variable {H:Hp}{xs:List (List ZU × Addr × Value)}
def KT.val{kvs:List (List ZU × V)}(r:KT H kvs xs)(k:List ZU):J0 (JI kvs k) ((atKey xs k).map (·.2)):=by
 induction r with
 | nil=>exact True.intro
 | @cons p q ps qs h t ih =>
  obtain⟨h1,_,h2⟩:=h
  by_cases e:p.1=k
  ·have e':q.1=k:=h1.symm.trans e
   have b:atKey (q :: qs) k=some q.2:=by simp [atKey,List.find?_cons,e']
   rw [ZcW e,b]; exact h2
  ·have e':¬ q.1=k:=λz=>e (h1.trans z)
   have b:atKey (q :: qs) k=atKey qs k:=by simp [atKey,List.find?_cons,e']
   rw [ZcS e,b]; exact ih
def KT.repl{kvs:List (List ZU × V)}(r:KT H kvs xs)(k:List ZU){y:V}{u:Value}(ry:ZF y u) :
  KT H (kvs.map λkv=>if kv.1=k then (kv.1,y) else kv) (xs.map (putAt k u)):=by
 induction r with
 | nil=>exact .nil
 | @cons p q ps qs h t ih =>
  rw [Yr,Yr]
  refine .cons ?_ ih
  obtain⟨h1,h2,h3⟩:=h
  unfold putAt
  by_cases e:p.1=k
  ·rw [if_pos e,if_pos (h1.symm.trans e)]; exact⟨h1,h2,ry⟩
  ·rw [if_neg e,if_neg (λz=>e (h1.trans z))]; exact⟨h1,h2,h3⟩
def KT.put{kvs:List (List ZU × V)}(r:KT H kvs xs)(k:List ZU){b:Addr}{y:V}{u:Value}(hb:H b=some (.tup (k.map kV)))(ry:ZF y u) :
  KT H (Jh kvs k y) (storedH xs k b u):=by
 have e:(kvs.any λkv=>decide (kv.1=k))=(atKey xs k).isSome:=by
  rw [ZfR,(r.val k).isSome_eq,Option.isSome_map]
 unfold Jh storedH
 rw [e]
 by_cases q:(atKey xs k).isSome=true
 ·rw [if_pos q,if_pos q]; exact r.repl k ry
 ·rw [if_neg q,if_neg q]; exact Paired.snoc r ⟨rfl,hb,ry⟩
def KT.keeps{H H':Hp}{kvs:List (List ZU × V)}(r:KT H kvs xs)(ht:∀ b ys,H b=some (.tup ys)->H' b=some (.tup ys)):KT H' kvs xs :=
 Paired.mapP r λ_ _ z=>⟨z.1,ht _ _ z.2.1,z.2.2⟩
section
variable {P:Program}{w:World}{H:Hp}{h:Heap}{a:Addr}
def Zq5{u:HO}(ok:HOk P w H h)(e:Rd H a u):ZW P w H h a u:=e.ok ok
def ZcR{kvs:List (ZU × V)}(ok:HOk P w H h)(e:Rd H a (.dK kvs)):kvs.length<=sizeLine/\(a == sysModules)=false/\∃ vs,KV kvs vs/\h.DictOf (ZY P w) a vs :=
 show ZW P w H h a (.dK kvs) from Zq5 ok e
def Zra{kvs:List (ZU × V)}(ok:HOk P w H h)(e:H a=some (.dK kvs)):kvs.length<=sizeLine/\(a == sysModules)=false/\∃ vs,KV kvs vs/\h.DictOf (ZY P w) a vs:=ZcR ok (.inl e)
def Zh7{ks:List ZU}(ok:HOk P w H h)(e:H a=some (.tup (ks.map kV))):(tupleKind (ZY P w)).is h ks a:=by
 obtain⟨_,its,r,o,h1,h2,n,h3⟩:=(show ZW P w H h a (.tup (ks.map kV)) from ok a _ e)
 exact⟨o,its.toArray,n,h1,h2,h3,by simpa using Zgy r⟩
def ZkY{kvs:List (List ZU × V)}(ok:HOk P w H h)(e:Rd H a (.dT kvs)):kvs.length<=sizeLine/\(a == sysModules)=false /\
  ∃ xs,KT H kvs xs/\h.DictOfH (tupleKind (ZY P w)) a xs:=by
 obtain⟨z,y,xs,r,o,es,ep,h1,h2,h3,h4,h5⟩:=(show ZW P w H h a (.dT kvs) from Zq5 ok e)
 refine⟨z,y,xs,r,o,es,ep,h1,h2,h3,h4,λx hx=>?_,h5⟩
 have all:∀ {l:List (List ZU × V)}{m:List (List ZU × Addr × Value)},KT H l m->∀ x∈m,(tupleKind (ZY P w)).is h x.1 x.2.1:=by
  intro l m q
  induction q with
  | nil=>intro x hx; exact nomatch hx
  | @cons p q ps qs hq t ih =>
   intro x hx
   rcases Yn.mp hx with e | hx
   ·subst e
    exact Zh7 ok (by rw [<- hq.1]; exact hq.2.1)
   ·exact ih x hx
 exact all r x hx
def ZsW{kvs:List (List ZU × V)}(ok:HOk P w H h)(e:H a=some (.dT kvs)):kvs.length<=sizeLine/\(a == sysModules)=false /\
  ∃ xs,KT H kvs xs/\h.DictOfH (tupleKind (ZY P w)) a xs:=ZkY ok (.inl e)
end
def Znk(H:Hp)(a:Addr)(y:V)(r:Option V):Prop :=
 (∃ kvs k,Rd H a (.dK kvs)/\y=kV k/\r=JI kvs k)\/∃ kvs k b,Rd H a (.dT kvs)/\y=.ref b/\H b=some (.tup (k.map kV))/\r=JI kvs k
def Zqv(H:Hp)(a:Addr)(y v:V)(H':Hp):Prop :=
 (∃ kvs k,H a=some (.dK kvs)/\y=kV k/\kvs.length < sizeLine/\H'=upd H a (.dK (Jh kvs k v))) \/
 ∃ kvs k b,H a=some (.dT kvs)/\y=.ref b/\H b=some (.tup (k.map kV))/\kvs.length < sizeLine/\H'=upd H a (.dT (Jh kvs k v))
theorem Znk.k{a:Addr}{kvs:List (ZU × V)}{k:ZU}(e:H a=some (.dK kvs)):Znk H a (kV k) (JI kvs k):=.inl ⟨kvs,k,.inl e,rfl,rfl⟩
theorem Znk.t{a b:Addr}{kvs:List (List ZU × V)}{k:List ZU}(e:H a=some (.dT kvs))(eb:H b=some (.tup (k.map kV))):Znk H a (.ref b) (JI kvs k):=.inr ⟨kvs,k,b,.inl e,rfl,eb,rfl⟩
theorem Zqv.k{a:Addr}{kvs:List (ZU × V)}{k:ZU}{v:V}(e:H a=some (.dK kvs))(hl:kvs.length < sizeLine):Zqv H a (kV k) v (upd H a (.dK (Jh kvs k v))):=.inl ⟨kvs,k,e,rfl,hl,rfl⟩
theorem Zqv.t{a b:Addr}{kvs:List (List ZU × V)}{k:List ZU}{v:V}(e:H a=some (.dT kvs))(eb:H b=some (.tup (k.map kV)))(hl:kvs.length < sizeLine) :
  Zqv H a (.ref b) v (upd H a (.dT (Jh kvs k v))):=.inr ⟨kvs,k,b,e,rfl,eb,hl,rfl⟩
section
variable {X:Cx}{pins:List (Addr × Obj)}{σ:St}{H:Hp}{s:Shared}{a:Addr}{y v:V}{u r:Value}{o:Option V}{A:Around}{E:VSP}
def Inv.big(I:Inv X pins σ H s):sysModules < s.heap.objs.size:=by
 have h:mainGlobals < s.heap.objs.size:=(I.mod.glob.keeps I.bk).lt
 exact Nat.lt_trans (by decide) h
def Zkf{Q:VSP}(hu:A.units + 1 < cLine)(I:Inv X pins σ H s)(g:Znk H a y (some v))(ry:ZF y u)(h:∀ w' s',Inv X pins σ H s'->ZF v w'->Q w' s') :
  wpAny (model X.prog X.w) A (getItem (.ref a) u) Q E s:=by
 rcases g with ⟨kvs,k,e,ey,l⟩ | ⟨kvs,k,b,e,ey,eb,l⟩
 ·subst ey
  obtain⟨z,hd,vs,rel,dd⟩:=ZcR I.hok e
  obtain⟨w',hw,rw'⟩:=J0.some_of (v:=v) (o:=valueAt vs k) (by rw [l]; exact rel.val k)
  exact wpAny_getItem_of (Znr ry) dd.mapOf hw (h w' _ (I.tok _) rw')
 ·subst ey
  cases (show u=Value.ref b from ry)
  obtain⟨z,hd,xs,rel,dd⟩:=ZkY I.hok e
  obtain⟨w',hw,rw'⟩:=J0.some_of (v:=v) (o:=(atKey xs k).map (·.2)) (by rw [l]; exact rel.val k)
  obtain⟨p,hp,hp2⟩:=Yx.mp hw
  refine wpAny_getItem_heap (tupleKind_room_in1 hu) (Zh7 I.hok eb) dd hp ?_
  rw [hp2]
  exact h w' _ (I.tok _) rw'
theorem Zp0{Q:VSP}(hu:A.units + 1 < cLine)(I:Inv X pins σ H s)(g:Znk H a y o)(ry:ZF y u)(h:∀ s',Inv X pins σ H s'->Q (.bool (!o.isSome)) s') :
  wpAny (model X.prog X.w) A (compareOp .NotIn u (.ref a)) Q E s:=by
 rcases g with ⟨kvs,k,e,ey,l⟩ | ⟨kvs,k,b,e,ey,eb,l⟩
 ·subst ey
  obtain⟨z,hd,vs,rel,dd⟩:=ZcR I.hok e
  refine wpAny_notIn_of (Znr ry) hd dd.mapOf ?_
  rw [<- (rel.val k).isSome_eq,<- l]
  exact h _ (I.tok _)
 ·subst ey
  cases (show u=Value.ref b from ry)
  obtain⟨z,hd,xs,rel,dd⟩:=ZkY I.hok e
  refine wpAny_notIn_heap (tupleKind_room_in1 hu) (Zh7 I.hok eb) hd dd ?_
  have q:=(rel.val k).isSome_eq
  rw [Option.isSome_map] at q
  rw [<- q,<- l]
  exact h _ (I.tok _)
def Zkj{h':Heap}{t':Nat}{ob:HO}(I:Inv X pins σ H s)(mu:Mut (H a))(hs:Heap.SameBut a s.heap h')(he:∃ q,h'.get? a=some q)(new:ZW X.prog X.w (upd H a ob) h' a ob) :
  Inv X pins σ (upd H a ob) { s with heap:=h',toks:=t' } :=
 I.write (x:=a) (e:=a) mu (.inl rfl) (λb q hb z=>(hs.2 b hb).trans z) he new
def Zoy{P:Program}{w:World}{H':Hp}{h':Heap}{kvs:List (ZU × V)}{vs:List (ZU × Value)}(z:kvs.length<=sizeLine)(hd:(a == sysModules)=false)(rel:KV kvs vs)(dd:h'.DictOf (ZY P w) a vs) :
  ZW P w H' h' a (.dK kvs):=⟨z,hd,vs,rel,dd⟩
def ZkM{H':Hp}{Q:Unit->Shared->Prop}(hu:A.units + 1 < cLine)(I:Inv X pins σ H s)(g:Zqv H a y v H')(ry:ZF y u)(rv:ZF v r)(h:∀ s',Inv X pins σ H' s'->Q () s') :
  wpAny (model X.prog X.w) A (setItem (.ref a) u r) Q E s:=by
 rcases g with ⟨kvs,k,e,ey,l,eH⟩ | ⟨kvs,k,b,e,ey,eb,l,eH⟩
 ·subst ey eH
  obtain⟨z,hd,vs,rel,dd⟩:=Zra I.hok e
  have hz:vs.length<=sizeLine:=by rw [<- rel.length]; exact z
  have hl:(Jh kvs k v).length<=sizeLine:=by have:=Zcx kvs k v; omega
  refine wpAny_setItem_pairs (hsz:=hz) (Znr ry) dd λh' dd' hs=>h _ ?_
  have he:∃ q,h'.get? a=some q:=let ⟨q,_,_,hq,_⟩:=dd'; ⟨q,hq⟩
  exact Zkj I (by rw [e]; exact True.intro) hs he (Zoy hl hd (rel.put k rv) dd')
 ·subst ey eH
  cases (show u=Value.ref b from ry)
  obtain⟨z,hd,xs,rel,dd⟩:=ZsW I.hok e
  have hz:xs.length<=sizeLine:=by rw [<- Paired.length rel]; exact z
  have hl:(Jh kvs k v).length<=sizeLine:=by have:=Zcx kvs k v; omega
  refine wpAny_setItem_heap (hsz:=hz) (tupleKind_room_in1 hu) (Zh7 I.hok eb) dd λh' dd' hs=>h _ ?_
  obtain⟨q,es,ep,hq,h2,h3,h4,_,h5⟩:=dd'
  refine Zkj I (by rw [e]; exact True.intro) hs ⟨q,hq⟩ ⟨hl,hd,_,(rel.put k eb rv).keeps λc ys ec=>?_,q,es,ep,hq,h2,h3,h4,h5⟩
  rw [Zg (Jk ec e (λz=>nomatch z))]
  exact ec
end
section
variable {X:Cx}{pins:List (Addr × Obj)}{σ:St}{H:Hp}{s:Shared}{a:Addr}{kvs:List (ZU × V)}{k:ZU}{u:Value}{A:Around}{E:VSP}
def Zth{Q:VSP}(I:Inv X pins σ H s)(e:Rd H a (.dK kvs))(h:∀ t s',Inv X pins σ H s'->Q (.int kvs.length t) s'):wpAny (model X.prog X.w) A (call (.builtin "len") [.ref a]) Q E s:=by
 obtain⟨z,hd,vs,rel,dd⟩:=ZcR I.hok e
 refine call_len_dict hd dd (by rw [<- rel.length]; rw [YI] at z; omega) ?_
 rw [<- rel.length]
 exact h _ _ (I.tok _)
end
def ZtG(i:Expr):Prop:=∀ ov iv,subscripted i false ov iv=operate [ov,iv] (getItem ov iv)
def ZoM{prog:Program}{w:World}{A:Around}{E:VSP}{s:Shared}{env:Env}{value slice:Expr}{pos:Pos}{T id:String}{Q:VSP}
  (hl:typeLookup (.type T) "__getitem__"=pure (some (.builtin id))) (hs:ZtG slice)
  (h:wpAny (model prog w) A (eval value env) (λo s₁=>wpAny (model prog w) A (eval slice env) (λi s₂=>s₂.TypeIs o T/\wpAny (model prog w) A (getItem o i) Q E s₂) E s₁) E s) :
  wpAny (model prog w) A (eval (.Subscript value slice pos) env) Q E s:=by
 refine Subscript_ (Yz h (λo s₁ h₁=>Yz h₁ (λi s₂ h₂=>?_) λ_ _ x=>x) λ_ _ x=>x)
 obtain⟨hT,h₂⟩:=h₂
 unfold subscriptTail
 refine Ya ?_
 rw [getitemInPython_of_ne hT.not_modules]
 refine Ya (wpAny_specialOf hT hl ?_)
 have fin:wpAny (model prog w) A (subscripted slice false o i) (λr s₃=>wpAny (model prog w) A (letTemporaryGo value o r >>= λ_=>pure r) Q E s₃) E s₂:=by
  rw [hs o i]
  exact wpAny_operating (Yz h₂ (λr s₃ h₃=>Ya (wpAny_letTemporaryGo (Yb h₃))) λ_ _ x=>x)
 first
  | exact Yb (Ya fin)
  | exact Ya (Yb (Ya fin))
  | exact Ya fin
def Zhk{X:Cx}{pins:List (Addr × Obj)}{σ:St}{s:Shared}{a:Addr}{y:V}{o:Option V}(I:Inv X pins σ H s)(g:Znk H a y o):s.TypeIs (.ref a) "dict":=by
 rcases g with ⟨kvs,k,e,_,_⟩ | ⟨kvs,k,b,e,_,_,_⟩
 ·obtain⟨_,_,vs,_,dd⟩:=ZcR I.hok e
  exact dd.typeIs
 ·obtain⟨_,_,xs,_,dd⟩:=ZkY I.hok e
  exact dd.typeIs
section
variable {X:Cx}{o i e value:Expr}{pos pos' tpos:Pos}{td ty tv:TE}
end
def Zms{P:Program}{w:World}(h:Heap)(hb:sysModules < h.objs.size):ZW P w H (h.push { cls:=.type "dict",data:=.dict #[] }) h.objs.size (.dK []) :=
 ⟨YD _,VM.mpr (Ne.symm (Ym hb)),[],.nil,Heap.DictOf.new h⟩
def ZrZ:TE:=λ_ H Q=>∀ p,H p=none->Q (.ref p) (upd H p (.dK []))
section
variable {X:Cx}{pos:Pos}
def Zmu:PE X (.Dict [] [] pos) ZrZ:=λpins s σ H Q I h =>
 wpAny_Dict_empty ⟨.ref s.heap.objs.size,_,I.laid (a:=s.heap.objs.size) (o:=.dK []) (t':=s.toks) (λ_ _ q=>Yh _ q) (Yd _) (Zms s.heap I.big),rfl,h _ (I.hok.fresh (Yd _))⟩
end
structure M1(X:Cx)(o:Expr)(m:Str)(apos:Pos)(e:Expr)(cpos:Pos):Prop where
 base:attributeBase o m X.env (eval o X.env)=eval o X.env
 few:((backTo cpos (starEach [e] X.env)).all (λx=>!x.1) && (backToKw cpos (keywordEach [] X.env)).all (λx=>x.1.isSome)
  && decide (([e]:List Expr).length + ([]:List Keyword).length + (if ([]:List Keyword).isEmpty then 0 else 1) < 30))=true
 line:(apos.endLine == cpos.line)=true
 trees:backTo cpos (starEach [e] X.env)=[(false,eval e X.env)]
structure M2(X:Cx)(o:Expr)(m:Str)(apos:Pos)(e f:Expr)(cpos:Pos):Prop where
 base:attributeBase o m X.env (eval o X.env)=eval o X.env
 few:((backTo cpos (starEach [e,f] X.env)).all (λx=>!x.1) && (backToKw cpos (keywordEach [] X.env)).all (λx=>x.1.isSome)
  && decide (([e,f]:List Expr).length + ([]:List Keyword).length + (if ([]:List Keyword).isEmpty then 0 else 1) < 30))=true
 line:(apos.endLine == cpos.line)=true
 trees:backTo cpos (starEach [e,f] X.env)=[(false,eval e X.env),(false,eval f X.env)]
def IsD(H:Hp)(a:Addr):Prop:=(∃ kvs,Rd H a (.dK kvs))\/∃ kvs,Rd H a (.dT kvs)
def ZrM{X:Cx}{pins:List (Addr × Obj)}{σ:St}{s:Shared}{a:Addr}(I:Inv X pins σ H s)(d:IsD H a) :
  s.TypeIs (.ref a) "dict"/\(∀ b,Value.ref a=.ref b->∃ ob,s.heap.get? b=some ob/\ob.dict=none)/\(a == sysModules)=false:=by
 rcases d with ⟨kvs,e⟩ | ⟨kvs,e⟩
 ·obtain⟨_,hd,vs,_,dd⟩:=ZcR I.hok e
  refine⟨dd.typeIs,λb q=>?_,hd⟩
  cases q
  obtain⟨ob,_,_,h1,h2,_⟩:=dd
  exact⟨ob,h1,h2.2.1⟩
 ·obtain⟨_,hd,xs,_,dd⟩:=ZkY I.hok e
  refine⟨dd.typeIs,λb q=>?_,hd⟩
  cases q
  obtain⟨ob,_,_,h1,h2,_⟩:=dd
  exact⟨ob,h1,h2.2.1⟩
section
variable {X:Cx}{pins:List (Addr × Obj)}{σ:St}{H:Hp}{s:Shared}{a:Addr}{y d:V}{u r:Value}{o:Option V}{A:Around}{E:VSP}
end
def Zox(td ty tx:TE):TE:=λσ H Q=>td σ H λx H1=>∃ a,x=.ref a/\IsD H1 a/\ty σ H1 λy H2=>tx σ H2 λz H3=>∃ o,Znk H3 a y o/\Q (o.getD z) H3
section
variable {X:Cx}{o e f:Expr}{apos cpos:Pos}{td ty tx:TE}
end
section
variable {X:Cx}{pins:List (Addr × Obj)}{σ:St}{H:Hp}{s:Shared}{a:Addr}{kvs:List (ZU × V)}{A:Around}{E:VSP}
def Zh3{Q:VSP}(I:Inv X pins σ H s)(e:Rd H a (.dK kvs))(h:∀ p s',H p=none->Inv X pins σ (upd H p (.dK kvs)) s'->Q (.ref p) s'):wpAny (model X.prog X.w) A (call (.type "dict") [.ref a]) Q E s:=by
 obtain⟨z,hd,vs,rel,dd⟩:=ZcR I.hok e
 refine kt_call_dict hd dd (by rw [<- rel.length]; exact z) λh' dd' hs=>?_
 refine h _ _ (I.hok.fresh (Yd _)) (I.laid (a:=s.heap.objs.size) (o:=.dK kvs) (t':=s.toks) (λb q hq=>?_) (Yd _) (Zoy z (VM.mpr (Ne.symm (Ym I.big))) rel dd'))
 exact (hs.2 b (Ym (Yf hq))).trans (Yh _ hq)
end
section
variable {X:Cx}{pins:List (Addr × Obj)}{σ:St}{H:Hp}{s:Shared}{a:Addr}{y:V}{u:Value}{A:Around}{E:VSP}
end
end L2
namespace My
def Zic{a b:Int}:Int.gcd b (a % b)=Int.gcd a b:=by
 rw [Int.emod_def,Int.gcd_comm a b]
 exact Int.gcd_sub_mul_left_right b a (a / b)
def ZeG{a b:Int}(hb:0 < b):(a % b).toNat < b.toNat:=by
 have h1:=Y0 a (Int.ne_of_gt hb)
 have h2:=Y9 a hb
 omega
theorem Zlz(i:Int):(if i < 0 then -i else i)=(i.natAbs:Int):=by
 split <;> omega
def ZlY(a b:Int):Int.gcd (a.natAbs:Int) (b.natAbs:Int)=Int.gcd a b:=by
 simp [Int.gcd]
def Ja(t b:Int):Int:=if b < 0 then -(Int.gcd t b:Int) else (Int.gcd t b:Int)
def Zg8{t b:Int}(hb:b ≠ 0):Ja t b ≠ 0:=by
 have h:=Yai t hb
 unfold Ja
 split <;> omega
def Zbb(t b:Int):Ja t b ∣ t:=by
 unfold Ja
 split
 ·exact Int.neg_dvd.mpr (Int.gcd_dvd_left t b)
 ·exact Int.gcd_dvd_left t b
def ZaG(t b:Int):Ja t b ∣ b:=by
 unfold Ja
 split
 ·exact Int.neg_dvd.mpr (Int.gcd_dvd_right t b)
 ·exact Int.gcd_dvd_right t b
def Zh1(t b:Int):(Ja t b).natAbs=Int.gcd t b:=by
 unfold Ja
 split <;> simp
def ZbQ{a d:Int}(h:d ∣ a):a.fdiv d=a / d:=by
 rw [Int.fdiv_eq_ediv_of_dvd h]
def ZnC{t b:Int}(hb:b ≠ 0):0 < b / Ja t b:=by
 have hg:=Yai t hb
 obtain⟨k,hk⟩:=ZaG t b
 have e:b / Ja t b=k:=Int.ediv_eq_of_eq_mul_right (Zg8 hb) hk
 rw [e]
 unfold Ja at hk
 generalize hG:(Int.gcd t b:Int)=g at hk
 have hg':0 < g:=by omega
 by_cases h:0 < k
 ·exact h
 ·exfalso
  have h2:0<=g * (-k):=Int.mul_nonneg (by omega) (by omega)
  have h3:g * (-k)=-(g * k):=Int.mul_neg g k
  split at hk
  ·have h4:-g * k=-(g * k):=Int.neg_mul g k
   omega
  ·omega
def Zt9{t b:Int}(hb:b ≠ 0):Int.gcd (t / Ja t b) (b / Ja t b)=1:=by
 rw [Int.gcd_ediv (Zbb t b) (ZaG t b),Zh1]
 exact Nat.div_self (Yai t hb)
def Zbe{t b:Int}(hb:b ≠ 0):t / Ja t b=(Rat.divInt t b).num/\b / Ja t b=((Rat.divInt t b).den:Int):=by
 have hp:=ZnC (t:=t) hb
 have hc:=Zt9 (t:=t) hb
 have hn:=Zg8 (t:=t) hb
 have e1:t=Ja t b * (t / Ja t b):=(Int.mul_ediv_cancel' (Zbb t b)).symm
 have e2:b=Ja t b * (b / Ja t b):=(Int.mul_ediv_cancel' (ZaG t b)).symm
 have hden:(b / Ja t b).toNat ≠ 0:=by omega
 have hcop:(t / Ja t b).natAbs.Coprime (b / Ja t b).toNat:=by
  have:(b / Ja t b).natAbs=(b / Ja t b).toNat:=by omega
  rw [<- this]; exact hc
 have key:Rat.divInt t b=⟨t / Ja t b,(b / Ja t b).toNat,hden,hcop⟩:=by
  have:Rat.divInt (t / Ja t b) (((b / Ja t b).toNat:Nat):Int)=⟨t / Ja t b,(b / Ja t b).toNat,hden,hcop⟩:=by
   rw [Rat.divInt_ofNat]
   exact Rat.mkRat_self ⟨t / Ja t b,(b / Ja t b).toNat,hden,hcop⟩
  rw [<- this]
  rw [Rat.divInt_eq_divInt_iff hb (by omega)]
  have e3:(((b / Ja t b).toNat:Nat):Int)=b / Ja t b:=by omega
  rw [e3]
  conv=>lhs; rw [e1]
  conv=>rhs; rw [e2]
  grind
 constructor
 ·rw [key]
 ·rw [key]; show b / Ja t b=(((b / Ja t b).toNat:Nat):Int); omega
def Zay{x y:Int}{a b:Nat}(hx:x.natAbs < 2 ^ a)(hy:y.natAbs < 2 ^ b):(x * y).natAbs < 2 ^ (a + b):=by
 rw [Int.natAbs_mul,Vi]
 exact Nat.mul_lt_mul'' hx hy
def Z3{a c n:Nat}(h:n < 2 ^ a)(hac:a<=c):n < 2 ^ c:=Yu h (YO (by decide) hac)
def Zjn{x y:Int}{a b c:Nat}(hx:x.natAbs < 2 ^ a)(hy:y.natAbs < 2 ^ b)(ha:a<=c)(hb:b<=c):(x + y).natAbs < 2 ^ (c + 1):=by
 have h1:=Z3 hx ha
 have h2:=Z3 hy hb
 rw [Nat.pow_succ]
 omega
def ZfY{t b:Int}(hb:b ≠ 0):(Rat.divInt t b).num.natAbs<=t.natAbs:=by
 rw [<- (Zbe hb).1]
 exact Int.natAbs_ediv_le_natAbs _ _
def Zfw{t b:Int}(hb:b ≠ 0):(Rat.divInt t b).den<=b.natAbs:=by
 have h:((Rat.divInt t b).den:Int).natAbs<=b.natAbs:=by
  rw [<- (Zbe (t:=t) hb).2]
  exact Int.natAbs_ediv_le_natAbs _ _
 simpa using h
def ZbI{n k:Nat}(h:n < 2 ^ k)(hk:0 < k):n.log2 < k:=by
 by_cases h0:n=0
 ·rw [h0]; simpa using hk
 ·exact (Nat.log2_lt h0).mpr h
def Zfe{t b:Int}(hb:b ≠ 0):Int.gcd t b<=b.natAbs:=Nat.le_of_dvd (by omega) (Nat.gcd_dvd_right _ _)
def Jo(n:Nat)(q:Rat):Prop:=q.num.natAbs < 2 ^ n/\q.den < 2 ^ n
theorem Jo.mono{n m:Nat}{q:Rat}(h:Jo n q)(hm:n<=m):Jo m q:=⟨Z3 h.1 hm,Z3 h.2 hm⟩
theorem Jo.of{n:Nat}{t b:Int}(hb:b ≠ 0)(ht:t.natAbs < 2 ^ n)(hb2:b.natAbs < 2 ^ n):Jo n (Rat.divInt t b) :=
 ⟨YA (ZfY hb) ht,YA (Zfw hb) hb2⟩
def Zcj(q:Rat):(q.den:Int) ≠ 0:=by have:=q.den_pos; omega
def Zfc(p q:Rat):p + q=Rat.divInt (p.num * q.den + q.num * p.den) (p.den * q.den):=by
 conv=>lhs; rw [<- Ve p,<- Ve q]
 exact Rat.divInt_add_divInt _ _ (Zcj p) (Zcj q)
def Ze7(p q:Rat):(p.den:Int) * q.den ≠ 0:=Int.mul_ne_zero (Zcj p) (Zcj q)
end My
set_option Elab.async false
set_option maxRecDepth 100000
namespace My
open PySem PySem.Spec L2
open PyProof.Rows hiding St
def Zu:Expr->Bool
 | .Starred ..=>false
 | _=>true
def Zq{e:Expr}{es:List Expr}{env:Env}(h:Zu e=true):starEach (e :: es) env=(false,eval e env) :: starEach es env:=by
 cases e <;> first | rfl | cases h
def Zev{env:Env}{pos:Pos}:∀ {es:List Expr},es.all Zu=true->(backTo pos (starEach es env)).any (·.1)=false
 | [],_=>rfl
 | e :: es,h=>by
  rw [List.all_cons,VD] at h
  rw [Zq h.1]
  have:=Zev (env:=env) (pos:=pos) h.2
  unfold backTo at this ⊢
  simpa using this
section
variable {X:Cx}{e:Expr}{es:List Expr}{te:TE}{t:TA}{pos p:Pos}{x:Str}{id T:String}{r:List V->Hp->VK->Prop}
def ZtQ(ha:PE X e te)(hr:PA X es t)(hp:Zu e=true:=by rfl):PA X (e :: es) (Zhv te t):=Zkc ha hr (Zq hp)
def ZaM{e:Expr}{es:List Expr}(h:(e :: es).all Zu=true):Zu e=true/\es.all Zu=true:=by
 rw [List.all_cons,VD] at h
 exact h
def Zn4(hc:Jn X (.builtin id) r)(hg:Gl X x)(hm:X.mg x=none)(hv:bootBuiltins x=some (.builtin id))(ha:PA X (e :: es) t)(hp:(e :: es).all Zu=true:=by rfl)(hn:x ≠ "__name__":=by decide)(hdb:(x == ("__debug__":Str))=false:=by decide) :
  PE X (.Call (.Name x p) (e :: es) [] pos) (tCB r t):=Zbo hc hg hm hv ha hn hdb (Zq (ZaM hp).1) (Zev (ZaM hp).2)
def Zsa(hc:Jn X (.type T) r)(hg:Gl X x)(hm:X.mg x=none)(hv:bootBuiltins x=some (.type T))(ha:PA X (e :: es) t)(hp:(e :: es).all Zu=true:=by rfl)(hn:x ≠ "__name__":=by decide)(hdb:(x == ("__debug__":Str))=false:=by decide) :
  PE X (.Call (.Name x p) (e :: es) [] pos) (tCB r t):=Zb7 hc hg hm hv ha hn hdb (Zq (ZaM hp).1) (Zev (ZaM hp).2)
end
structure Fn(P:Program)(w:World)(K:PySem.W.Frag)(mg:Str->Option Value)(base:Heap)(CX:CXT)(k:Nat)(x:Str)(ps:List Str)(sp:Sp):Prop where
 ex:∃ (f:Addr) (fd:FuncData),FnOk P w K mg base CX k f fd ps sp/\Z7 K fd ps []/\keepIn K (.ref f)=true/\mg x=some (.ref f)
section
variable {X:Cx}{CX:CXT}{j k:Nat}{x:Str}{ps:List Str}{sp:Sp}{p pos:Pos}{e:Expr}{es:List Expr}{t:TA}
def Ztd(F:Fn X.prog X.w X.K X.mg X.base ZD j x ps sp)(hr:Room k X.A)(hj:j<=k)(hg:Gl X x)(ha:PA X (e :: es) t)(hp:(e :: es).all Zu=true:=by rfl)(hdb:(x == ("__debug__":Str))=false:=by decide) :
  PE X (.Call (.Name x p) (e :: es) [] pos) (ZgI sp [] E0 t):=by
 obtain⟨f,fd,G,b,kp,m⟩:=F.ex
 exact ZjZ G (hr.mono hj) hg m kp b .nil Zk2 ha hdb (Zq (ZaM hp).1) (Zev (ZaM hp).2)
end
section
variable {X:Cx}
def Zl9:OpR X (binaryOp .FloorDiv) (rI (λ_ j=>j ≠ 0/\j.natAbs.log2 < 9000) λi j=>.int (i.fdiv j)) :=
 opI λ_ _ _ _ _ _ _ hc q=>floordiv_int hc.1 q (.inl (PyProof.noPylong_of_log2 hc.2))
def Zm9:OpR X (binaryOp .FloorDiv) (rI (λ_ j=>0 < j/\j.natAbs.log2 < 9000) λi j=>.int (i / j)) :=
 opI λi j _ _ _ _ _ hc q=>floordiv_int (Int.ne_of_gt hc.1) (by rw [Yaj i (Int.le_of_lt hc.1)]; exact q) (.inl (PyProof.noPylong_of_log2 hc.2))
def ZoY:OpR X (binaryOp .Mult) (rI IntMulOk λi j=>.int (i * j)):=opI λ_ _ _ _ _ _ _ hc q=>mul_int q hc
end
def JD(H:Hp):V->Option String
 | .non=>some "NoneType"
 | .bl _=>some "bool"
 | .int _=>some "int"
 | .str _=>some "str"
 | .ref a=>match H a with
  | some (.lst _)=>some "list"
  | some (.tup _)=>some "tuple"
  | some (.dK _)=>some "dict"
  | _=>none
 | _=>none
def Zqt:List String:=["NoneType","bool","int","str","list","tuple","dict"]
def ZjP:List String:=["bool","int","str","list","tuple","dict"]
def isA(t n:String):Bool:=t == n || (t == "bool" && n == "int")
def Zpm(H:Hp)(x:Bool):JD H (.bl x)=some "bool":=rfl
def Zmo(H:Hp)(i:Int):JD H (.int i)=some "int":=rfl
theorem ZhR{H:Hp}{a:Addr}{xs:List V}(h:H a=some (.tup xs)):JD H (.ref a)=some "tuple":=by unfold JD; dsimp only; rw [h]
theorem ZnM{H:Hp}{a:Addr}{xs:List V}(h:H a=some (.lst xs)):JD H (.ref a)=some "list":=by unfold JD; dsimp only; rw [h]
def Zpv:("int"∈ZjP)=True:=eq_true (by decide)
def Zmc:("bool"∈ZjP)=True:=eq_true (by decide)
def Zko:("tuple"∈ZjP)=True:=eq_true (by decide)
def ZnJ:("list"∈ZjP)=True:=eq_true (by decide)
def Zqr:("str"∈ZjP)=True:=eq_true (by decide)
def Zsc:isA "bool" "bool"=true:=by decide
def ZqQ:isA "bool" "int"=true:=by decide
def ZrD:isA "int" "int"=true:=by decide
def ZrO:isA "int" "bool"=false:=by decide
def ZqU:isA "tuple" "tuple"=true:=by decide
def Zq4:isA "list" "list"=true:=by decide
def ZnR{K:PySem.W.Frag}{H:Hp}{x:V}{t:String}(e:JD H x=some t):TyOf K H x (.type t)/\t∈Zqt:=by
 unfold JD at e
 split at e
 ·cases e; exact⟨.non,by decide⟩
 ·cases e; exact⟨.bl _,by decide⟩
 ·cases e; exact⟨.int _,by decide⟩
 ·cases e; exact⟨.str _,by decide⟩
 ·split at e
  ·cases e; exact⟨.lst (by assumption),by decide⟩
  ·cases e; exact⟨.tup (by assumption),by decide⟩
  ·cases e; exact⟨.dK (by assumption),by decide⟩
  ·cases e
 ·cases e
def ZkQ(K:PySem.W.Frag):∀ t∈Zqt,∀ n∈ZjP,kitOne K (.type t) (.type n)=some (isA t n):=by
 intro t ht n hn
 simp only [Zqt,ZjP,List.mem_cons,List.not_mem_nil,or_false] at ht hn
 rcases ht with rfl | rfl | rfl | rfl | rfl | rfl | rfl <;> rcases hn with rfl | rfl | rfl | rfl | rfl | rfl <;> rfl
section
variable {X:Cx}
def ZjO:Jn X (.builtin "isinstance") (λxs H Q=>∃ x n t,xs=[x,.ty n]/\JD H x=some t/\n∈ZjP/\Q (.bl (isA t n)) H):=by
 intro pins s σ H xs us Q I r h
 obtain⟨x,n,t,rfl,e,hn,q⟩:=h
 obtain⟨u,v,rfl,ru,rv⟩:=ZlU r
 cases (show v=Value.type n from rv)
 obtain⟨ty,ht⟩:=ZnR (K:=X.K) e
 exact Zlx I ru ty (ZkQ X.K t ht n hn) λtk=>⟨.bl (isA t n),H,I.tok tk,rfl,q⟩
def ZsX{x:Str}{T:String}{pos:Pos}(hg:Gl X x)(hm:X.mg x=none)(hv:bootBuiltins x=some (.type T))(hn:x ≠ "__name__":=by decide)(hd:(x == ("__debug__":Str))=false:=by decide):PE X (.Name x pos) (tC (.ty T)) :=
 ZoT hg hm hv rfl hn hd
end
section
variable {X:Cx}{e:Expr}{es:List Expr}{te:TE}{t:TA}{pos:Pos}
theorem ZO{H:Hp}{p:Addr}(h:H p=none)(o:HO):Zk H (upd H p o):=λb u q=>by rw [Zg (Zn q h)]; exact q
def Zm2(t:TA):TE:=λσ H Q=>t σ H λxs H1=>xs.length<=1000/\∀ p H2,H1 p=none->Zk H1 H2->H2 p=some (.tup xs)->Q (.ref p) H2
def Zly(t:TA):TE:=λσ H Q=>t σ H λxs H1=>xs.length<=1000/\∀ p H2,H1 p=none->Zk H1 H2->H2 p=some (.lst xs)->Q (.ref p) H2
theorem ZgW{n:Nat}(h:n<=1000):n<=sizeLine:=Yt (Zgp h)
def ZpS{x1}(h:PA X es t):PE X (.Tuple es x1 pos) (Zm2 t):=by
 intro pins s σ H Q I hq
 refine wpAny_Tuple_spliced (ZZ (h pos pins s σ H _ I hq) λus s1 ⟨xs,H1,I1,r,z,q⟩=>⟨by rw [<- r.length]; exact ZgW z,?_⟩)
 have hf:H1 s1.heap.objs.size=none:=I1.hok.fresh (Yd _)
 refine⟨.ref s1.heap.objs.size,upd H1 s1.heap.objs.size (.tup xs),I1.laid (t':=s1.toks) (λb u e=>Yh _ e) (Yd _) ?_,rfl,q _ _ hf (ZO hf _) Zf⟩
 exact⟨ZgW z,us,r,⟨_,Yo _ rfl,rfl,_,rfl⟩⟩
def Zpe(h:PA X es t):PE X (.List es pos) (Zly t):=by
 intro pins s σ H Q I hq
 refine wpAny_List_spliced (ZZ (h pos pins s σ H _ I hq) λus s1 ⟨xs,H1,I1,r,z,q⟩=>⟨by rw [<- r.length]; exact ZgW z,?_⟩)
 have hf:H1 s1.heap.objs.size=none:=I1.hok.fresh (Yd _)
 refine⟨.ref s1.heap.objs.size,upd H1 s1.heap.objs.size (.lst xs),I1.laid (t':=s1.toks) (λb u e=>Yh _ e) (Yd _) ?_,rfl,q _ _ hf (ZO hf _) Zf⟩
 exact⟨ZgW z,us,0,r,Yo _ rfl⟩
def Zn9{r r':R2}(h:IxR X r)(i:∀ x y H Q,r' x y H Q->r x y H Q):IxR X r' :=
 λvalue slice pins s σ H x y v u Q I rx ry q hs=>h value slice pins s σ H x y v u Q I rx ry (i x y H Q q) hs
def Zmh:R2:=λx y H Q=>∃ p xs i v,x=.ref p/\y=.int i/\H p=some (.tup xs)/\atI xs i=some v/\Q v H
def Znj:R2:=λx y H Q=>∃ p xs i v,x=.ref p/\y=.int i/\H p=some (.lst xs)/\atI xs i=some v/\Q v H
def ZpB:IxR X Zmh:=Zn9 ZqA λ_ _ _ _ ⟨p,xs,i,v,h1,h2,h3,h4,q⟩=>⟨p,xs,i,v,h1,h2,SqT.of h3,h4,q⟩
def Zp9:IxR X Znj:=Zn9 ZjD λ_ _ _ _ ⟨p,xs,i,v,h1,h2,h3,h4,q⟩=>⟨p,xs,i,v,h1,h2,Jw.of h3,h4,q⟩
def ZkW:Jn X (.builtin "len") (λxs H Q=>∃ p ys,xs=[.ref p]/\(H p=some (.lst ys)\/H p=some (.tup ys))/\Q (.int ys.length) H) :=
 λpins s σ H xs us Q I r ⟨p,ys,h1,h2,q⟩=>Zdz pins s σ H xs us Q I r ⟨p,ys,h1,h2.imp Jw.of SqT.of,q⟩
def ZsH(to:TE)(t:TA):TE:=λσ H Q=>to σ H λx H1=>∃ l zs,x=.ref l/\H1 l=some (.lst zs)/\t σ H1 λvs H2=>∃ y xs,vs=[y]/\H2 l=some (.lst xs)/\xs.length < 1000000/\Q .non (upd H2 l (.lst (xs ++ [y])))
def ZtD{n:Nat}(h:n < 1000000):n < sizeLine:=Nat.lt_trans h (by decide)
def ZkB{o:Expr}{to:TE}{apos cpos:Pos}(ho:PE X o to)(ha:PA X (e :: es) t)
  (hbase:attributeBase o "append" X.env (eval o X.env)=eval o X.env:=by rfl)
  (hfew:((backTo cpos (starEach (e :: es) X.env)).all (λx=>!x.1) && (backToKw cpos (keywordEach [] X.env)).all (λx=>x.1.isSome)
   && decide ((e :: es).length + ([]:List Keyword).length + (if ([]:List Keyword).isEmpty then 0 else 1) < 30))=true:=by rfl)
  (hline:(apos.endLine == cpos.line)=true:=by rfl) (hs:starEach (e :: es) X.env=(false,eval e X.env) :: starEach es X.env:=by rfl) (hplain:(backTo cpos (starEach es X.env)).any (·.1)=false:=by rfl) :
  PE X (.Call (.Attribute o "append" apos) (e :: es) [] cpos) (ZsH to t):=by
 intro pins s σ H Q I h
 refine wpAny_Call_method_late hbase hfew hline rfl (ZZ (ho pins s σ H _ I h) λv s1 ⟨x,H1,I1,r1,l,zs,e1,e2,q1⟩=>?_)
 obtain⟨h1,h2⟩:=Zka (T:="list") I1 r1 (by rw [e1]; exact .inl ⟨rfl,zs,Jw.of e2⟩)
 refine⟨"list","list.append",PySem.F.plainAttrs_list,PySem.F.slot_list_append,PySem.F.type_list_append,h1,h2,?_⟩
 have hA:=ha cpos pins s1 σ H1 _ I1 q1
 rw [hs] at hA ⊢
 refine V4 (by show (false || (backTo cpos (starEach es X.env)).any (·.1))=false; rw [hplain] <;> rfl) (Calls.evalArgs_plain ?_)
 exact ZZ hA λus s2 ⟨vs,H2,I2,r2,y,xs,e3,e4,z,q2⟩=>ZgR pins s2 σ H2 x vs v us Q I2 r1 r2 ⟨l,xs,y,e1,e3,e4,ZtD z,q2⟩
theorem Zt{H H':Hp}{p:Addr}{o:HO}(hp:H p=none)(hs:Zk H H'):Zk H (upd H' p o):=λb u q=>by rw [Zg (Zn q hp)]; exact hs b u q
def ZmF(n:Nat)(t:TGs):TG:=λv σ H Q=>∃ a xs,v=.ref a/\H a=some (.tup xs)/\xs.length=n/\t xs σ H Q
def Zpd{es:List Expr}{k:Nat}{t:TGs}{n:Nat}(hc:X.calm=true)(h:PGs X es t)
  (hn:(assignEach es X.env).length=n:=by rfl) (hst:(assignEach es X.env).findIdx? (·.1)=none:=by rfl):PG X (.Tuple es k pos) (ZmF n t) :=
 λpins s σ H v u Q I r ⟨a,xs,h1,h2,h3,q⟩=>Zrh hc h hn hst pins s σ H v u Q I r ⟨a,xs,h1,SqT.of h2,h3,q⟩
end
def ZtZ{α:Type}(x:α)(xs:List α):atI (x :: xs) 0=some x:=ZM (j:=0) rfl
def Zt5{α:Type}(x y:α)(xs:List α):atI (x :: y :: xs) 1=some y:=ZM (j:=1) rfl
def Zuc{α:Type}(x y z:α)(xs:List α):atI (x :: y :: z :: xs) 2=some z:=ZM (j:=2) rfl
def Zt8{α:Type}(x y z u:α)(xs:List α):atI (x :: y :: z :: u :: xs) 3=some u:=ZM (j:=3) rfl
def Zqa{α:Type}{xs:List α}{i:Int}(h0:0<=i)(h1:i < (xs.length:Int)):∃ v,atI xs i=some v/\v∈xs:=by
 have hk:i.toNat < xs.length:=by omega
 refine⟨xs[i.toNat],?_,YG hk⟩
 have e:i=((i.toNat:Nat):Int):=by omega
 conv=>lhs; rw [e]
 exact ZM (Yc hk)
def cellOf(ns:List Int)(k:Nat):Int:=ns.getD k (2 * (k:Int) + 1)
def Zp3{ns:List Int}{k:Nat}(h:k < ns.length):atI (ns.map V.int) (k:Int)=some (.int (cellOf ns k)):=by
 refine ZM ?_
 rw [Yg,Yc h]
 simp [cellOf,List.getD,List.getElem?_eq_getElem h]
def Znc{ns:List Int}{k:Nat}(h:¬ k < ns.length):cellOf ns k=2 * (k:Int) + 1:=by
 unfold cellOf
 rw [List.getD,Y6 (by omega)]
 rfl
def ZmW(σ:St)(i:Nat):Int:=match σ[i]? with
 | some (some (.int m))=>m
 | _=>0
def ZfZ{c:TT}{tb:TS}{D:Ends}{σ:St}{H:Hp}(Pv:St->Hp->Prop)(μ:St->Hp->Nat)(h0:Pv σ H)
  (hs:∀ σ H,Pv σ H->c σ H λb H1=>if b=true then ∃ N:St->Hp->Prop,(∀ σ' H',N σ' H'->∃ m',m' < μ σ H/\(m'=μ σ' H'/\Pv σ' H'))/\tb { D with nx:=N,ct:=N,bk:=D.nx } σ H1 else D.nx σ H1):ZkX c tb D σ H:=by
 refine⟨λm σ H=>m=μ σ H/\Pv σ H,⟨_,rfl,h0⟩,?_⟩
 rintro m σ H ⟨rfl,p⟩
 exact hs σ H p
structure QE(X:Cx)(e:Expr)(t:TE):Prop where
 h:PE X e t
structure QT(X:Cx)(e:Expr)(t:TT):Prop where
 h:PT X e t
structure QW(X:Cx)(e:Expr)(t:TT):Prop where
 h:PW X e t
structure QA(X:Cx)(es:List Expr)(t:TA):Prop where
 h:PA X es t
structure QS(X:Cx)(st:Stmt)(t:TS):Prop where
 h:PS X st t
structure QB(X:Cx)(sts:List Stmt)(t:TS):Prop where
 h:PSs X sts t
structure QI(X:Cx)(tg it:Expr)(t:TI):Prop where
 h:PI X tg it t
structure QG(X:Cx)(tg:Expr)(t:TG):Prop where
 h:PG X tg t
structure QGs(X:Cx)(tgs:List Expr)(t:TGs):Prop where
 h:PGs X tgs t
section
variable {X:Cx}{a b c e:Expr}{es rest:List Expr}{ta tb tc te:TE}{tA tB':TT}{t:TA}{pos p:Pos}{x:Str}
theorem Ze(i:Nat)(hN:X.N[i]?=some x:=by rfl)(hv:Vis X.env.scope x:=by first | exact Or.inl rfl | exact Or.inr (Or.inl rfl) | exact Or.inr (Or.inr rfl))(hd:(x == ("__debug__":Str))=false:=by decide)
  (hcd:(x == ("__classdict__":Str))=false:=by decide):QE X (.Name x pos) (ZnQ i):=⟨Zog hN hv hd hcd⟩
def Zb{i j}:QE X (.Constant (.int i) j pos) (tC (.int i)):=⟨ZqC⟩
theorem JX{k j}:QE X (.Constant (.bool k) j pos) (tC (.bl k)):=⟨Ztt⟩
def ZfT{y j}:QE X (.Constant (.str y) j pos) (tC (.str y)):=⟨Zru⟩
def J2{T:String}(hg:Gl X x)(hm:X.mg x=none)(hv:bootBuiltins x=some (.type T))(hn:x ≠ "__name__":=by decide)(hd:(x == ("__debug__":Str))=false:=by decide):QE X (.Name x pos) (tC (.ty T)):=⟨ZsX hg hm hv hn hd⟩
def Jy(ha:QE X a ta)(hb:QE X b tb):QE X (.BinOp a .Add b pos) (tOp (rI0 λi j=>.int (i + j)) ta tb):=⟨ZdZ Zq3 ha.h hb.h⟩
def JP(ha:QE X a ta)(hb:QE X b tb):QE X (.BinOp a .Sub b pos) (tOp (rI0 λi j=>.int (i - j)) ta tb):=⟨ZdZ Zr1 ha.h hb.h⟩
def Zj2(ha:QE X a ta)(hb:QE X b tb):QE X (.BinOp a .Mult b pos) (tOp (rI ZpW λi j=>.int (i * j)) ta tb):=⟨ZdZ Zq7 ha.h hb.h⟩
def Ji(ha:QE X a ta)(hb:QE X b tb):QE X (.BinOp a .Mult b pos) (tOp (rI IntMulOk λi j=>.int (i * j)) ta tb):=⟨ZdZ ZoY ha.h hb.h⟩
def Z8(ha:QE X a ta)(hb:QE X b tb):QE X (.BinOp a .Mod b pos) (tOp (rI (λ_ j=>0 < j) λi j=>.int (i % j)) ta tb):=⟨ZdZ ZqH ha.h hb.h⟩
def Zbl(ha:QE X a ta)(hb:QE X b tb):QE X (.BinOp a .FloorDiv b pos) (tOp (rI Zsy λi j=>.int (i / j)) ta tb):=⟨ZdZ Zo9 ha.h hb.h⟩
def Zhh(ha:QE X a ta)(hb:QE X b tb):QE X (.BinOp a .FloorDiv b pos) (tOp (rI (λ_ j=>0 < j/\j.natAbs.log2 < 9000) λi j=>.int (i / j)) ta tb):=⟨ZdZ Zm9 ha.h hb.h⟩
def Zdp(ha:QE X a ta)(hb:QE X b tb):QE X (.BinOp a .FloorDiv b pos) (tOp (rI (λ_ j=>j ≠ 0/\j.natAbs.log2 < 9000) λi j=>.int (i.fdiv j)) ta tb):=⟨ZdZ Zl9 ha.h hb.h⟩
def Zhm(ha:QE X a ta)(hb:QE X b tb):QE X (.BinOp a .Pow b pos) (tOp (rI Zsw λi j=>.int (i ^ j.toNat)) ta tb):=⟨ZdZ ZqI ha.h hb.h⟩
def Zq0(ha:QE X a ta)(hb:QE X b tb):QE X (.BinOp a .Add b pos) (tOp ZqP ta tb):=⟨ZdZ Zqx ha.h hb.h⟩
def Zr0(ha:QE X a ta)(hb:QE X b tb):QE X (.BinOp a .Add b pos) (tOp (λx y H Q=>∃ i j,x=.str i/\y=.str j/\i.length + j.length<=sizeLine/\Q (.str (i ++ j)) H) ta tb):=⟨ZdZ ZiX ha.h hb.h⟩
def Ztl(ha:QE X a ta):QE X (.UnaryOp .USub a pos) (tUn (rU λi=>.int (-i)) ta):=⟨Zs1 Zr3 ha.h⟩
def Zs6(ha:QE X a ta):QE X (.UnaryOp .Not a pos) (Zni ta):=⟨Zr4 ha.h⟩
def Zgn{op}(ha:QE X a ta):QE X (.BoolOp op [a] pos) ta:=⟨Zrg ha.h⟩
def Zfo(ha:QE X a ta)(hb:QE X (.BoolOp .And (b :: rest) pos) tb):QE X (.BoolOp .And (a :: b :: rest) pos) (Zm1 ta tb):=⟨Zrr ha.h hb.h⟩
def Ztm(hc:QT X c tA)(ha:QE X a ta)(hb:QE X b tb):QE X (.IfExp c a b pos) (tIf tA ta tb):=⟨ZnS hc.h ha.h hb.h⟩
def ZsB(ha:QE X a ta)(hb:QE X b tb):QE X (.Compare a [.Eq] [b] pos) (tOp rEq ta tb):=⟨Zdf Zq6 ha.h hb.h (Zbp _)⟩
def ZtW(ha:QE X a ta)(hb:QE X b tb):QE X (.Compare a [.Lt] [b] pos) (tOp (rI0 λi j=>.bl (decide (i < j))) ta tb):=⟨Zdf ZpJ ha.h hb.h (Zbp _)⟩
def Ztw(ha:QE X a ta)(hb:QE X b tb):QE X (.Compare a [.Gt] [b] pos) (tOp (rI0 λi j=>.bl (decide (j < i))) ta tb):=⟨Zdf Zr2 ha.h hb.h (Zbp _)⟩
def ZtA(ha:QE X a ta)(hb:QE X b tb):QE X (.Compare a [.GtE] [b] pos) (tOp (rI0 λi j=>.bl (decide (j<=i))) ta tb):=⟨Zdf Zsd ha.h hb.h (Zbp _)⟩
def Jg(ha:QE X e te)(he:∀ whole,isTrue e X.env whole=(do let v <- whole; standAt e.pos; holding [v] (truthy v)):=by intro _; rfl):QT X e (tB te):=⟨ZqV ha.h he⟩
def JC(ha:QT X a tA):QT X (.UnaryOp .Not a pos) (ZsF tA):=⟨Zr7 ha.h⟩
def Zda(ha:QT X a tA):QW X (.BoolOp .Or [a] pos) tA:=⟨Zr5 ha.h⟩
def JW(ha:QT X a tA)(hb:QW X (.BoolOp .Or (b :: rest) pos) tB'):QW X (.BoolOp .Or (a :: b :: rest) pos) (tOr tA tB'):=⟨ZsU ha.h hb.h⟩
def t_w(h:QW X e tA):QT X e tA:=⟨h.h.pt⟩
def Zoa(ha:QE X a ta)(hb:QE X b tb):QT X (.Compare a [.Eq] [b] pos) (Zc4 (tOp rEq ta tb)):=⟨Zbd Zq6 ha.h hb.h (Zbp _)⟩
def Zny(ha:QE X a ta)(hb:QE X b tb):QT X (.Compare a [.NotEq] [b] pos) (Zc4 (tOp rNe ta tb)):=⟨Zbd Zs8 ha.h hb.h (Zbp _)⟩
def ZpL(ha:QE X a ta)(hb:QE X b tb):QT X (.Compare a [.Lt] [b] pos) (Zc4 (tOp (rI0 λi j=>.bl (decide (i < j))) ta tb)):=⟨Zbd ZpJ ha.h hb.h (Zbp _)⟩
def ZtT(ha:QE X a ta)(hb:QE X b tb):QT X (.Compare a [.LtE] [b] pos) (Zc4 (tOp (rI0 λi j=>.bl (decide (i<=j))) ta tb)):=⟨Zbd Zsi ha.h hb.h (Zbp _)⟩
def ZsO(ha:QE X a ta)(hb:QE X b tb):QT X (.Compare a [.Gt] [b] pos) (Zc4 (tOp (rI0 λi j=>.bl (decide (j < i))) ta tb)):=⟨Zbd Zr2 ha.h hb.h (Zbp _)⟩
def ZtX(ha:QE X a ta)(hb:QE X b tb):QT X (.Compare a [.GtE] [b] pos) (Zc4 (tOp (rI0 λi j=>.bl (decide (j<=i))) ta tb)):=⟨Zbd Zsd ha.h hb.h (Zbp _)⟩
theorem Za:QA X [] Zou:=⟨ZoD⟩
theorem Zi(ha:QE X e te)(hr:QA X es t)(hp:Zu e=true:=by rfl):QA X (e :: es) (Zhv te t):=⟨ZtQ ha.h hr.h hp⟩
def JS{x1}(h:QA X es t):QE X (.Tuple es x1 pos) (Zm2 t):=⟨ZpS h.h⟩
def ZcD(h:QA X es t):QE X (.List es pos) (Zly t):=⟨Zpe h.h⟩
def ZA(ha:QE X a ta)(hb:QE X b tb)(hs:ZeR b:=by intro _ _; rfl):QE X (.Subscript a b pos) (tOp Zmh ta tb):=⟨Zm7 ZpB ha.h hb.h hs⟩
def Jx(ha:QE X a ta)(hb:QE X b tb)(hs:ZeR b:=by intro _ _; rfl):QE X (.Subscript a b pos) (tOp Znj ta tb):=⟨Zm7 Zp9 ha.h hb.h hs⟩
def Zts(ha:QE X a ta)(hb:QE X b tb)(hs:ZeR b:=by intro _ _; rfl):QE X (.Subscript a b pos) (tOp (Zss X.K) ta tb):=⟨Zm7 ZjD ha.h hb.h hs⟩
theorem Ju(hg:Gl X "len")(hm:X.mg "len"=none)(ha:QA X (e :: es) t)(hp:(e :: es).all Zu=true:=by rfl) :
  QE X (.Call (.Name "len" p) (e :: es) [] pos) (tCB (λxs H Q=>∃ p ys,xs=[.ref p]/\(H p=some (.lst ys)\/H p=some (.tup ys))/\Q (.int ys.length) H) t):=⟨Zn4 ZkW hg hm PySem.boot_len ha.h hp⟩
def ZqD(hg:Gl X "len")(hm:X.mg "len"=none)(ha:QA X (e :: es) t)(hp:(e :: es).all Zu=true:=by rfl) :
  QE X (.Call (.Name "len" p) (e :: es) [] pos) (tCB (λxs H Q=>∃ p ys,xs=[.ref p]/\(Jw X.K H p ys\/SqT X.K H p ys)/\Q (.int ys.length) H) t):=⟨Zn4 Zdz hg hm PySem.boot_len ha.h hp⟩
def ZpR(hg:Gl X "abs")(hm:X.mg "abs"=none)(ha:QA X (e :: es) t)(hp:(e :: es).all Zu=true:=by rfl) :
  QE X (.Call (.Name "abs" p) (e :: es) [] pos) (tCB (λxs H Q=>∃ i,xs=[.int i]/\Q (.int (if i < 0 then -i else i)) H) t):=⟨Zn4 ZnY hg hm (by rfl) ha.h hp⟩
def Jv(hg:Gl X "isinstance")(hm:X.mg "isinstance"=none)(ha:QA X (e :: es) t)(hp:(e :: es).all Zu=true:=by rfl) :
  QE X (.Call (.Name "isinstance" p) (e :: es) [] pos) (tCB (λxs H Q=>∃ x n t,xs=[x,.ty n]/\JD H x=some t/\n∈ZjP/\Q (.bl (isA t n)) H) t):=⟨Zn4 ZjO hg hm (by rfl) ha.h hp⟩
def ZrF(hg:Gl X "int")(hm:X.mg "int"=none)(ha:QA X (e :: es) t)(hp:(e :: es).all Zu=true:=by rfl) :
  QE X (.Call (.Name "int" p) (e :: es) [] pos) (tCB (λxs H Q=>(∃ i,xs=[.int i]/\Q (.int i) H)\/∃ k,xs=[.bl k]/\Q (.int (if k then 1 else 0)) H) t):=⟨Zsa ZlP hg hm (by rfl) ha.h hp⟩
variable {j k:Nat}{ps:List Str}{sp:Sp}
theorem ZtU(F:Fn X.prog X.w X.K X.mg X.base ZD j x ps sp)(hr:Room k X.A)(hj:j<=k)(hg:Gl X x)(ha:QA X (e :: es) t)(hp:(e :: es).all Zu=true:=by rfl)(hdb:(x == ("__debug__":Str))=false:=by decide) :
  QE X (.Call (.Name x p) (e :: es) [] pos) (ZgI sp [] E0 t):=⟨Ztd F hr hj hg ha.h hp hdb⟩
theorem Jb(F:Fn X.prog X.w X.K X.mg X.base ZD j x ps sp)(hr:Room k X.A)(ha:QA X (e :: es) t)(hj:j<=k:=by decide)(hg:Gl X x:=by rfl)(hp:(e :: es).all Zu=true:=by rfl)(hdb:(x == ("__debug__":Str))=false:=by decide):QE X (.Call (.Name x p) (e :: es) [] pos) (ZgI sp [] E0 t):=ZtU F hr hj hg ha hp hdb
def ZgC{o:Expr}{to:TE}{apos cpos:Pos}(ho:QE X o to)(ha:QA X [e] t)(hbase:attributeBase o "append" X.env (eval o X.env)=eval o X.env:=by rfl)(hline:(apos.endLine == cpos.line)=true:=by rfl)(hp:Zu e=true:=by rfl) :
  QE X (.Call (.Attribute o "append" apos) [e] [] cpos) (ZsH to t) :=
 ⟨ZkB ho.h ha.h hbase (by rw [Zq hp]; rfl) hline (Zq hp) rfl⟩
end
section
variable {X:Cx}{st:Stmt}{rest a b body:List Stmt}{t u tb:TS}{e c tg it:Expr}{te:TE}{tc:TT}{pos:Pos}{g:TG}{wi:TI}
def ZV:QB X [] ZnE:=⟨Zpz⟩
def Zd(h1:QS X st t)(h2:QB X rest u):QB X (st :: rest) (Zrm t u):=⟨Zl7 h1.h h2.h⟩
theorem Zh(h1:QS X st t):QB X [st] t:=⟨Zpa h1.h⟩
def Zbv:QS X st Zod:=⟨Znn⟩
theorem Zy(he:QE X e te):QS X (.Return (some e) pos) (Zsr te):=⟨Zsp he.h⟩
def Zrl:QS X (.Return none pos) ZmJ:=⟨ZoO⟩
def Jm(hc:QT X c tc)(ha:QB X a t)(hb:QB X b u):QS X (.If c a b pos) (Zse tc t u):=⟨Ztg hc.h ha.h hb.h⟩
def Js(he:QE X e te)(hs:swapsWith e none pos.line X.env=pure false:=by rfl):QS X (.Expr e pos) (Zmj te):=⟨ZpP he.h hs⟩
def Zs{x:Str}{pos':Pos}(i:Nat)(hN:X.N.Nodup)(he:QE X e te)(hi:X.N[i]?=some x:=by rfl)(hx:Loc X.env.scope x:=by first | exact Or.inl rfl | exact Or.inr rfl)(hs:swapsWith e (some (.Name x pos')) pos.line X.env=pure false:=by rfl)
  (hf:X.fn x=true\/X.env.scope.names.lookup x=some .local:=by first | exact .inl rfl | exact .inr rfl | assumption):QS X (.Assign [.Name x pos'] e pos) (Zl3 te (JR i)):=⟨Zsl hN hi hx he.h hs hf⟩
def ZsR{x y:Str}{c d:Expr}{ta:TA}{px py pt:Pos}{kt k2 pt2}(i j:Nat)(hN:X.N.Nodup)(ha:QA X [c,d] ta)(hc:X.calm=true:=by rfl)(hi:X.N[i]?=some x:=by rfl)(hj:X.N[j]?=some y:=by rfl)(hij:i ≠ j:=by decide)
  (hx:X.env.scope.names.lookup x=some .local:=by rfl) (hy:X.env.scope.names.lookup y=some .local:=by rfl)
  (hw:swappedStores [.Tuple [.Name x px,.Name y py] kt pt] (.Tuple [c,d] k2 pt2) X.env=pure (some [x,y]):=by rfl)
  (hs:swapsWithSole [.Tuple [.Name x px,.Name y py] kt pt] (.Tuple [c,d] k2 pt2) pos.line X.env=pure false:=by rfl) :
  QS X (.Assign [.Tuple [.Name x px,.Name y py] kt pt] (.Tuple [c,d] k2 pt2) pos) (Zsx i j ta):=⟨ZrU hc hN hi hj hij hx hy ha.h hw hs⟩
def Zn1(he:QE X e te)(hg:QG X tg g)(hs:swapsWithSole [tg] e pos.line X.env=pure false:=by rfl)(hw:swappedStores [tg] e X.env=pure none:=by rfl)(h1:(assignEach [tg] X.env).map (·.2)=[assign tg X.env]:=by rfl):QS X (.Assign [tg] e pos) (Zl3 te g):=⟨Zq1 he.h hg.h hs hw h1⟩
def Zr{x:Str}(i:Nat)(hN:X.N.Nodup)(hi:X.N[i]?=some x:=by rfl)(hx:Loc X.env.scope x:=by first | exact Or.inl rfl | exact Or.inr rfl)(hf:X.fn x=true\/X.env.scope.names.lookup x=some .local:=by first | exact .inl rfl | exact .inr rfl | assumption) :
  QG X (.Name x pos) (JR i):=⟨Zpg hN hi hx hf⟩
def Zd6:QGs X [] ZsI:=⟨Zo5⟩
def ZaP{es:List Expr}{v:TGs}(h1:QG X e g)(h2:QGs X es v)(hs:(assignEach (e :: es) X.env).map (·.2)=assign e X.env :: (assignEach es X.env).map (·.2):=by rfl):QGs X (e :: es) (Znh g v):=⟨ZmG h1.h h2.h hs⟩
def ZhN{es:List Expr}{k:Nat}{v:TGs}{n:Nat}(h:QGs X es v)(hc:X.calm=true:=by rfl)(hn:(assignEach es X.env).length=n:=by rfl)(hst:(assignEach es X.env).findIdx? (·.1)=none:=by rfl) :
  QG X (.Tuple es k pos) (ZmF n v):=⟨Zpd hc h.h hn hst⟩
def ZfI(hp:PassesOwn (model X.prog X.w) X.A X.env X.xe)(hc:QT X c tc)(hb:QB X body tb):QS X (.While c body [] pos) (ZkX tc tb):=⟨Zmq hp hc.h hb.h⟩
def Je(hp:PassesOwn (model X.prog X.w) X.A X.env X.xe)(hi:QI X tg it wi)(hg:QG X tg g)(hb:QB X body tb)(hc:X.calm=true:=by rfl)(hs:∀ x,foldedSetIterable it X.env x=pure x:=by intro _; rfl) :
  QS X (.For tg it body [] pos) (Zl1 wi g tb):=⟨ZqR hp hc hi.h hg.h hb.h hs⟩
def Z6(hl:QE X e te):QI X tg e (Zc6 X.K te):=⟨ZpU hl.h⟩
def ZsP(hl:QE X e te):QI X tg e (Zs5 X.K te):=⟨ZrC hl.h⟩
def Zey{c:Expr}{ta:TA}{p:Pos}(hg:Gl X "range")(hm:X.mg "range"=none)(ha:QA X [c] ta)(hp:Zu c=true:=by rfl):QI X tg (.Call (.Name "range" p) [c] [] pos) (ZiV ta):=⟨Zj7 hg hm ha.h (Zq hp)⟩
def ZrE{c d:Expr}{ta:TA}{p:Pos}(hg:Gl X "range")(hm:X.mg "range"=none)(ha:QA X [c,d] ta)(hp:Zu c=true:=by rfl)(hq:Zu d=true:=by rfl) :
  QI X tg (.Call (.Name "range" p) [c,d] [] pos) (Zpl ta):=⟨ZlS hg hm ha.h (by rw [Zq hp,Zq hq]; rfl) (Zq hq)⟩
end
def okQ{P:Program}{w:World}{K:PySem.W.Frag}{mg:Str->Option Value}{base:Heap}{x qual:Str}{st:Stmt}{f:Addr}{fd:FuncData}{N ps:List Str}{k:Nat}{sp:Sp}(F:Fun K x qual st f fd)(S:FnScope N ps (Zc st))(len:∀ vs H Q E,sp vs H Q E->vs.length=ps.length)
  (hbody:∀ (cdv:Value) (A:Around) (outer:List Env) (s:Shared) (H:Hp) (vs:List V) (Q:VK) (E:XK),Room k (A.deeper (envOfC qual (Zc st) s.heap.objs.size f cdv))->sp vs H Q E ->
   ∃ t,QB (Zjg ZD P w K mg base N qual (Zc st) f cdv A outer s H E).nox (ZB st) t/\t { nx:=λ_ H'=>Q .non H',rt:=Q } (Zz N vs) H):FnOk P w K mg base ZD (k + 1) f fd ps sp :=
 F.ok S len λcdv A outer s H vs Q E hr h=>by
  obtain⟨t,q,r⟩:=hbody cdv A outer s H vs Q E hr h
  exact⟨t,q.h,r⟩
def ZmX{P:Program}{w:World}{H:Hp}{h:Heap}{a:Addr}{o:HO}(x:ZW P w H h a o):∃ u,h.get? a=some u:=by
 cases o with
 | lst xs=>obtain⟨_,_,_,_,e⟩:=x; exact⟨_,e⟩
 | tup xs=>obtain⟨_,_,_,u,e,_⟩:=x; exact⟨_,e⟩
 | dK kvs=>obtain⟨_,_,_,_,u,_,_,e,_⟩:=x; exact⟨u,e⟩
 | dT kvs=>obtain⟨_,_,_,_,u,_,_,e,_⟩:=x; exact⟨u,e⟩
 | set S n=>obtain⟨u,_,_,_,e,_⟩:=x; exact⟨_,e⟩
 | ins C dx fs=>obtain⟨_,_,_,e,_⟩:=x; exact⟨_,e⟩
 | own y=>exact x
 | xd fs=>obtain⟨_,⟨u,_,_,e,_⟩,_⟩:=x; exact⟨_,e⟩
 | rng lo hi=>obtain⟨_,_,_,e⟩:=x; exact⟨_,e⟩
 | frz ob u=>exact⟨_,x.1⟩
 | tbl ps=>obtain⟨_,e,_⟩:=x; exact⟨_,e⟩
 | met f y=>exact⟨_,x⟩
 | ext φ=>exact x.2.1
structure Cv(X:Cx)(pins:List (Addr × Obj))(B:Heap)(H:Hp):Prop where
 old:∀ b o,X.s₀.heap.get? b=some o->b ∉ frs X.stack->∃ o',B.get? b=some o'
 trk:∀ b o,H b=some o->∃ o',B.get? b=some o'
 cel:∀ x c,X.env.cells.lookup x=some c->∃ o',B.get? c=some o'
 pin:∀ p∈X.pn ++ pins,∃ o',B.get? p.1=some o'
section
variable {X:Cx}{pins:List (Addr × Obj)}{σ:St}{H:Hp}{s:Shared}
end
def CX1(P:Program)(w:World):CXT:=λouter H s E e s'=>∃ (ea C:Addr) (a0:Value) (B:Heap) (H':Hp),e=.ref ea/\s'.os=s.os/\AllBare s'.gens/\Un (frs outer) [] H H' s.heap s'.heap/\HOk P w H' s'.heap /\
 Heap.FlyingW B outer ea (.ref C) a0 s'.heap/\(∀ b o,s.heap.get? b=some o->b ∉ frs outer->∃ o',B.get? b=some o')/\(∀ b o,H' b=some o->∃ o',B.get? b=some o')/\E (.ref C) none H'
structure Body(X:Cx):Prop where
 st:X.stack=X.env :: X.outer
 fr:X.env.frame=some X.env.locals
 ex:X.ex=[]
 fn:∀ x,X.fn x=true
structure Goes(X:Cx)(E:XK):Prop extends Body X where
 xe:∀ e s',wpAny (model X.prog X.w) X.A (leaving X.env e) (λ_ s''=>CX1 X.prog X.w X.outer X.H₀ X.s₀ E e s'') (λe' s''=>CX1 X.prog X.w X.outer X.H₀ X.s₀ E e' s'') s'->X.xe e s'
section
variable {X:Cx}{E:XK}{pins:List (Addr × Obj)}{σ:St}{H:Hp}{s:Shared}
def Body.apart(b:Body X)(I:Inv X pins σ H s):(∀ x c,X.env.cells.lookup x=some c->(∃ o,s.heap.get? c=some o)/\c ∉ frs X.stack)/\(∀ p∈X.pn ++ pins,s.heap.get? p.1=some p.2/\p.1 ∉ frs X.stack) /\
  (∀ a o,X.s₀.heap.get? a=some o->∃ o',s.heap.get? a=some o')/\(∀ a o,H a=some o->(∃ o',s.heap.get? a=some o')/\a ∉ frs X.stack):=by
 refine⟨λx c e=>?_,λp hp=>?_,λa o e=>?_,λa o e=>?_⟩
 ·obtain⟨v,o,ho,hd⟩:=I.cell x c e
  refine⟨⟨o,ho⟩,λz=>?_⟩
  rcases Yn.mp (I.stkSub c z) with q | q
  ·exact I.cne x c e q
  ·obtain⟨_,o',e',_⟩:=I.ok.funs.mem q
   exact absurd (Yu (Yf e') (I.ok.cab x c (b.fn x) e)) (Y1 _)
 ·obtain⟨e,n,ne,nf,d⟩:=I.pin p hp
  exact⟨e,λz=>(Yn.mp (I.stkSub _ z)).elim ne nf⟩
 ·exact I.base.there a o e (by rw [b.ex]; exact List.not_mem_nil)
 ·exact⟨ZmX (I.hok a o e),λz=>by rw [I.stkFree a z] at e; cases e⟩
end
section
variable {X:Cx}{E:XK}{x:Str}{C:Addr}{np cpos pos:Pos}{e₀:Expr}{rest:List Expr}{t:TA}
def ZoE(C:Addr)(E:XK)(t:TA):TS:=λ_ σ H=>t σ H λvs H1=>vs.length<=1000/\E (.ref C) none H1
end
def XP(X:Cx)(pins:List (Addr × Obj))(σ:St)(EX:XK)(e:Value)(s':Shared):Prop :=
 ∃ (ea C:Addr) (a0:Value) (B:Heap) (H':Hp),e=.ref ea/\Inv X pins σ H' s'/\Heap.FlyingW B X.stack ea (.ref C) a0 s'.heap/\Cv X pins B H'/\EX (.ref C) none H'
abbrev TEX:=St->Hp->VK->XK->Prop
def PEX(X:Cx)(e:Expr)(t:TEX):Prop :=
 ∀ (pins:List (Addr × Obj)) (s:Shared) (σ:St) (H:Hp) (Q:VK) (EX:XK),Inv X pins σ H s->t σ H Q EX->wpAny (model X.prog X.w) X.A (eval e X.env) (EP X pins σ Q) (XP X pins σ EX) s
abbrev TSX:=Ends->(St->XK)->St->Hp->Prop
def Zt1(X:Cx)(sts:List Stmt)(t:TSX):Prop :=
 ∀ (pins:List (Addr × Obj)) (s:Shared) (σ:St) (H:Hp) (D:Ends) (EX:St->XK),Inv X pins σ H s->t D EX σ H ->
  wpAny (model X.prog X.w) X.A (execs sts X.env) (SP X pins D) (λe s'=>∃ σ',XP X pins σ' (EX σ') e s') s
section
variable {X:Cx}{j k:Nat}{x:Str}{ps:List Str}{sp:Sp}{p pos:Pos}{e:Expr}{es:List Expr}{t:TA}{f:Addr}{fd:FuncData}{ds:List Value}{dvs:List V}
def Zoe(sp:Sp)(dvs:List V)(t:TA):TEX:=λσ H Q EX=>t σ H λvs H1=>sp (vs ++ dvs) H1 Q EX
end
section
variable {X:Cx}{pins:List (Addr × Obj)}{σ:St}{H:Hp}{s:Shared}{ea:Addr}
def Zte(C ea:Addr)(h:Heap):Prop:=∃ o,h.get? ea=some o/\o.cls=.ref C
def Zs0(C ea:Addr):HO:=.ext (Zte C ea)
end
def Ztf(K:PySem.W.Frag)(D:Addr)(i:Nat)(th:Addr->TS)(En:Ends)(σ:St):XK:=λc _ H'=>∃ C,c=.ref C/\exmOne K (.ref C) (.ref D)=some true/\∀ ea,H' ea=none ->
 th ea { nx:=λσ2 H2=>En.nx (σ2.set i none) H2,rt:=En.rt,bk:=λσ2 H2=>En.bk (σ2.set i none) H2,ct:=λσ2 H2=>En.ct (σ2.set i none) H2 } (σ.set i (some (.ref ea))) (upd H' ea (Zs0 C ea))
def ZtC(K:PySem.W.Frag)(tb:TSX)(D:Addr)(i:Nat)(th:Addr->TS):TS:=λEn σ H=>tb En (Ztf K D i th En) σ H
section
variable {X:Cx}{body:List Stmt}{x n:Str}{np hpos pos:Pos}{b₀:Stmt}{suite:List Stmt}{tb:TSX}{th:Addr->TS}{D:Addr}{i:Nat}
end
end My
namespace My
open PySem PySem.Spec L2 PySem.W PySem.Builtin PySem.Builtin.ObjectAttr PySem.Builtin.Getset_descriptor
open PyProof.Rows hiding St
section
variable {prog:Program}{w:World}{A:Around}{E:VSP}{s:Shared}{K:Frag}{x D:Addr}
structure ExcK(K:Frag)(D:Addr):Prop where
 cl:(clsIn K D).isSome=true
 ga:findIn K (.ref D) "__getattribute__"=some (some (.builtin "BaseException.__getattribute__"))
 no:findIn K (.ref D) "__getattr__"=some none
 ha:findIn K (.ref D) "__class__"=some (some (.builtin "object.__class__"))
 hn:specialIn K (.builtin "object.__class__") "__get__"=some (some (.builtin "getset_descriptor.__get__"))
 tk:takesIn K (.builtin "object.__class__")=some true
 mo:mroIn K D (.type "object")=some true
 mb:mroIn K D (.type "BaseException")=some true
end
end My
namespace My
open PySem PySem.Spec L2
open PyProof.Rows hiding St
section
variable {X:Cx}{e:Expr}{es:List Expr}{t:TA}{pos p:Pos}
end
structure FunD(K:PySem.W.Frag)(x qual:Str)(st:Stmt)(dV:Value)(f:Addr)(fd:FuncData):Prop where
 ex:∃ (oc:Value) (od:Option Addr) (kV doc pm:Value) (an:Option Addr) (cdv ct:Value) (osl:Array (Option Value)),
  fd=fnOf x qual (ZH st) (ZB st) (Zc st) dV kV doc pm an cdv ct/\K.lookup f=some ⟨oc,od,.func fd,osl⟩/\codeIn K cdv qual=true
 kp:keepIn K (.ref f)=true
variable {K:PySem.W.Frag}
def Zqe{x qual:Str}{st:Stmt}{dV:Value}{f:Addr}{oc:Value}{od an:Option Addr}{osl:Array (Option Value)}{kV doc pm cdv ct:Value}(l:K.lookup f=some ⟨oc,od,.func (fnOf x qual (ZH st) (ZB st) (Zc st) dV kV doc pm an cdv ct),osl⟩)
  (c:codeIn K cdv qual=true) (k:keepIn K (.ref f)=true):FunD K x qual st dV f (fnOf x qual (ZH st) (ZB st) (Zc st) dV kV doc pm an cdv ct):=⟨⟨oc,od,kV,doc,pm,an,cdv,ct,osl,rfl,l,c⟩,k⟩
section
variable {P:Program}{w:World}{K:PySem.W.Frag}{mg:Str->Option Value}{base:Heap}{x qual:Str}{st:Stmt}{dV:Value}{f:Addr}{fd:FuncData}{N ps:List Str}{k:Nat}{sp:Sp}
def Zt4(F:FunD K x qual st dV f fd)(S:FnScope N ps (Zc st))(len:∀ vs H Q E,sp vs H Q E->vs.length=ps.length)
  (hbody:∀ (cdv:Value) (A:Around) (outer:List Env) (s:Shared) (H:Hp) (vs:List V) (Q:VK) (E:XK),Room k (A.deeper (envOfC qual (Zc st) s.heap.objs.size f cdv))->sp vs H Q E ->
   ∃ t,QB (Zjg ZD P w K mg base N qual (Zc st) f cdv A outer s H E).nox (ZB st) t/\t { nx:=λ_ H'=>Q .non H',rt:=Q } (Zz N vs) H):FnOk P w K mg base ZD (k + 1) f fd ps sp:=by
 obtain⟨oc,od,kV,doc,pm,an,cdv,ct,osl,rfl,lk,hcd⟩:=F.ex
 refine Zpn lk hcd S len λA outer s H vs Q E hr hsp=>?_
 obtain⟨t,h,q⟩:=hbody cdv A outer s H vs Q E hr hsp
 exact⟨t,h.h.nox,q⟩
end
def JG{x y:Int}{a b:Nat}(hx:x.natAbs < 2 ^ a)(hy:y.natAbs < 2 ^ b)(h:a + b<=1000000):IntMulOk x y:=by
 have key:∀ {z:Int}{n:Nat},z.natAbs < 2 ^ n->Builtin.Int.intBits z<=n:=λ{z n} hz=>by
  unfold Builtin.Int.intBits
  split
  ·exact YD _
  ·rename_i h0
   have h1:z.natAbs ≠ 0:=by
    intro q
    apply h0
    have:z=0:=by omega
    simp [this]
   have:=(Nat.log2_lt h1).mpr hz
   omega
 exact IntMulOk.of_le (key hx) (key hy) (by omega)
structure FnD(P:Program)(w:World)(K:PySem.W.Frag)(mg:Str->Option Value)(base:Heap)(CX:CXT)(k:Nat)(x:Str)(ps:List Str)(dvs:List V)(sp:Sp):Prop where
 ex:∃ (f:Addr) (fd:FuncData) (ds:List Value),FnOk P w K mg base CX k f fd ps sp/\Z7 K fd ps ds/\Zw dvs ds/\keepIn K (.ref f)=true/\mg x=some (.ref f)
structure QX(X:Cx)(e:Expr)(t:TEX):Prop where
 h:PEX X e t
structure QSX(X:Cx)(sts:List Stmt)(t:TSX):Prop where
 h:Zt1 X sts t
section
variable {X:Cx}{E:XK}{j k:Nat}{x:Str}{ps:List Str}{sp:Sp}{p pos:Pos}{e:Expr}{es:List Expr}{t:TA}{dvs:List V}{C:Addr}
def ZsQ(F:FnD X.prog X.w X.K X.mg X.base ZD j x ps dvs sp)(hr:Room k X.A)(hj:j<=k)(hg:Gl X x)(ha:QA X (e :: es) t)(hp:(e :: es).all Zu=true:=by rfl)(hdb:(x == ("__debug__":Str))=false:=by decide) :
  QE X (.Call (.Name x p) (e :: es) [] pos) (ZgI sp dvs E0 t):=by
 obtain⟨f,fd,ds,G,b,v,kp,m⟩:=F.ex
 exact⟨ZjZ G (hr.mono hj) hg m kp b v Zk2 ha.h hdb (Zq (ZaM hp).1) (Zev (ZaM hp).2)⟩
def tXE(te:TEX):TSX:=λD EX σ H=>te σ H (λ_ H1=>D.nx σ H1) (EX σ)
def tXS(i:Nat)(te:TEX):TSX:=λD EX σ H=>te σ H (λv H1=>D.nx (σ.set i (some v)) H1) (EX σ)
end
inductive EqD (H:Hp):V->V->Bool->Nat->Prop where
 | flat {x y:V}(fx:Zdd x=true) (fy:Zdd y=true):EqD H x y (eqV x y) 0
 | tup {a b:Addr}{xs ys:List V}{e:Nat->Bool}{n:Nat}(ha:H a=some (.tup xs)) (hb:H b=some (.tup ys)) (h:∀ j x y,xs[j]?=some x->ys[j]?=some y->EqD H x y (e j) n) :
   EqD H (.ref a) (.ref b) ((List.range (min xs.length ys.length)).all e && xs.length == ys.length) (n + 1)
 | lst {a b:Addr}{xs ys:List V}{e:Nat->Bool}{n:Nat}(ha:H a=some (.lst xs)) (hb:H b=some (.lst ys)) (hl:xs.length=ys.length) (h:∀ j x y,xs[j]?=some x->ys[j]?=some y->EqD H x y (e j) n) :
   EqD H (.ref a) (.ref b) ((List.range xs.length).all e) (n + 1)
 | lstNe {a b:Addr}{xs ys:List V}{n:Nat}(ha:H a=some (.lst xs)) (hb:H b=some (.lst ys)) (hl:xs.length ≠ ys.length):EqD H (.ref a) (.ref b) false (n + 1)
 | up {x y:V}{b:Bool}{n:Nat}(h:EqD H x y b n):EqD H x y b (n + 1)
def ZdQ{x:V}(h:Zdd x=true):eqV x x=true:=by
 cases x
 case non=>rfl
 case bl b=>simp [eqV]
 case int i=>simp [eqV]
 case str y=>simp [eqV]
 all_goals exact absurd (show false=true from h) (by decide)
def ZdW{n:Nat}{e:Nat->Bool}(h:∀ j,j < n->e j=true):(List.range n).all e=true:=List.all_eq_true.mpr λj hj=>h j (Vk.mp hj)
variable {H:Hp}
def EqD.self{x y:V}{b:Bool}{n:Nat}(h:EqD H x y b n):x=y->b=true:=by
 induction h with
 | flat fx fy=>intro e; subst e; exact ZdQ fx
 | @tup a b xs ys e n ha hb h ih =>
  intro q
  injection q with q
  subst q
  rw [ha] at hb
  injection hb with hb
  injection hb with hb
  subst hb
  rw [ZdW,Bool.true_and,beq_self_eq_true]
  intro j hj
  rw [Nat.min_self] at hj
  exact ih j _ _ (Yc hj) (Yc hj) rfl
 | @lst a b xs ys e n ha hb hl h ih =>
  intro q
  injection q with q
  subst q
  rw [ha] at hb
  injection hb with hb
  injection hb with hb
  subst hb
  exact ZdW λj hj=>ih j _ _ (Yc hj) (Yc hj) rfl
 | up h ih=>exact ih
 | lstNe ha hb hl =>
  intro q
  injection q with q
  subst q
  rw [ha] at hb
  injection hb with hb
  injection hb with hb
  subst hb
  exact absurd rfl hl
section
variable {X:Cx}{pins:List (Addr × Obj)}{σ:St}{H:Hp}{s:Shared}
theorem EqD.at(I:Inv X pins σ H s){x y:V}{b:Bool}{n:Nat}(h:EqD H x y b n):∀ {A:Around}{u v:Value},ZF x u->ZF y v->A.units + n < cLine ->
  SeqAt.EqAt A s u v b/\((∃ a c,x=.ref a/\y=.ref c)->SeqAt.RcAt A s u v b):=by
 induction h with
 | flat fx fy =>
  intro A u v r1 r2 _
  refine⟨Zks r1 r2 fx fy,?_⟩
  rintro⟨a,c,rfl,_⟩
  cases fx
 | @tup a b xs ys e n ha hb h ih =>
  intro A u v r1 r2 hu
  cases r1
  cases r2
  obtain⟨its,v1,t1,_⟩:=I.tuple (SqT.of ha)
  obtain⟨jts,v2,t2,_⟩:=I.tuple (SqT.of hb)
  have rc:SeqAt.RcAt A s (.ref a) (.ref b) ((List.range (min xs.length ys.length)).all e && xs.length == ys.length):=by
   have z:=SeqAt.RcAt.tuples (A:=A) (s:=s) (e:=e) t1 t2 (by omega) λj h1 h2=>by
    have k1:j < xs.length:=by rw [v1.length]; simpa using h1
    have k2:j < ys.length:=by rw [v2.length]; simpa using h2
    obtain⟨u1,q1,w1⟩:=v1.get (Yc k1)
    obtain⟨u2,q2,w2⟩:=v2.get (Yc k2)
    have g1:its.toArray[j]=u1:=by
     have:=Yi.mp q1
     obtain⟨hh,this⟩:=this
     simpa using this
    have g2:jts.toArray[j]=u2:=by
     have:=Yi.mp q2
     obtain⟨hh,this⟩:=this
     simpa using this
    rw [g1,g2]
    exact (ih j _ _ (Yc k1) (Yc k2) w1 w2 (by show A.units + 1 + n < cLine; omega)).1
   simpa [v1.length,v2.length] using z
  refine⟨?_,λ_=>rc⟩
  by_cases q:a=b
  ·have:=(EqD.tup ha hb h).self (by rw [q])
   rw [this,q]
   exact SeqAt.EqAt.same _
  ·exact SeqAt.EqAt.of_refs q rc
 | @lst a b xs ys e n ha hb hl h ih =>
  intro A u v r1 r2 hu
  cases r1
  cases r2
  obtain⟨its,v1,t1,_⟩:=I.list (Jw.of ha)
  obtain⟨jts,v2,t2,_⟩:=I.list (Jw.of hb)
  have rc:SeqAt.RcAt A s (.ref a) (.ref b) ((List.range xs.length).all e):=by
   have z:=SeqAt.RcAt.lists (A:=A) (s:=s) (e:=e) t1.isList t2.isList (by simp [<- v1.length,<- v2.length,hl]) (by omega) λj h1 h2=>by
    have k1:j < xs.length:=by rw [v1.length]; simpa using h1
    have k2:j < ys.length:=by rw [v2.length]; simpa using h2
    obtain⟨u1,q1,w1⟩:=v1.get (Yc k1)
    obtain⟨u2,q2,w2⟩:=v2.get (Yc k2)
    have g1:its.toArray[j]=u1:=by
     have:=Yi.mp q1
     obtain⟨hh,this⟩:=this
     simpa using this
    have g2:jts.toArray[j]=u2:=by
     have:=Yi.mp q2
     obtain⟨hh,this⟩:=this
     simpa using this
    rw [g1,g2]
    exact (ih j _ _ (Yc k1) (Yc k2) w1 w2 (by show A.units + 1 + n < cLine; omega)).1
   simpa [v1.length,v2.length] using z
  refine⟨?_,λ_=>rc⟩
  by_cases q:a=b
  ·have:=(EqD.lst ha hb hl h).self (by rw [q])
   rw [this,q]
   exact SeqAt.EqAt.same _
  ·exact SeqAt.EqAt.of_refs q rc
 | up h ih =>
  intro A u v r1 r2 hu
  exact ih r1 r2 (by omega)
 | @lstNe a b xs ys n ha hb hl =>
  intro A u v r1 r2 hu
  cases r1
  cases r2
  obtain⟨its,v1,t1,_⟩:=I.list (Jw.of ha)
  obtain⟨jts,v2,t2,_⟩:=I.list (Jw.of hb)
  have rc:SeqAt.RcAt A s (.ref a) (.ref b) false:=SeqAt.RcAt.lists_lengths t1.isList t2.isList (by simp [<- v1.length,<- v2.length]; exact hl) (by omega)
  have ne:a ≠ b:=λq=>by
   subst q
   rw [ha] at hb
   injection hb with hb
   injection hb with hb
   subst hb
   exact hl rfl
  exact⟨SeqAt.EqAt.of_refs ne rc,λ_=>rc⟩
end
section
variable {X:Cx}{a b:Expr}{ta tb:TE}{pos:Pos}{k:Nat}
def ZtB:R2:=λx y H Q=>∃ t n p c,x=.ref p/\y=.ref c/\EqD H x y t n/\n<=60/\Q (.bl t) H
def Zri(hr:Room k X.A):OpR X (compareOp .Eq) ZtB:=by
 intro pins s σ H x y v u Q I rx ry h
 obtain⟨t,n,p,c,e1,e2,h,hn,q⟩:=h
 have hu:=hr.units
 exact ((h.at I rx ry (by omega)).2 ⟨p,c,e1,e2⟩) _ _ _ _ ⟨.bl t,H,I,rfl,q⟩
def ZrV(hr:Room k X.A)(ha:QE X a ta)(hb:QE X b tb):QE X (.Compare a [.Eq] [b] pos) (tOp ZtB ta tb):=⟨Zdf (Zri hr) ha.h hb.h (Zbp _)⟩
end
section
variable {X:Cx}{pins:List (Addr × Obj)}{σ:St}{H:Hp}{s:Shared}{h':Heap}
def ZeL{t':Nat}{ch:List Addr}{o:HO}(I:Inv X pins σ H s)(k:∀ b u,b ∉ ch->s.heap.get? b=some u->h'.get? b=some u)(hf:∀ b∈ch,JL X pins H b)(new:ZW X.prog X.w (upd H s.heap.objs.size o) h' s.heap.objs.size o) :
  Inv X pins σ (upd H s.heap.objs.size o) { s with heap:=h',toks:=t' }:=by
 have hn:H s.heap.objs.size=none:=I.hok.fresh (Yd _)
 have nch:∀ b u,H b=some u->b ∉ ch:=λb u e z=>by rw [(hf b z).1] at e; cases e
 have old:∀ b u,H b=some u->upd H s.heap.objs.size o b=some u:=λb u e=>by rw [Zg (Zn e hn)]; exact e
 refine I.step (g':=s.gens) (d':=s.drawn) (ch:=ch) (λb hb=>⟨(hf b hb).2.2.2.1,(hf b hb).2.1,(hf b hb).2.2.2.2.1,(hf b hb).2.2.2.2.2⟩) (λb u _ _ hc e _=>k b u hc e) (λb u _ _ hc e _=>⟨u.slots,k b u hc e⟩)
  (λb u hc e n=>by rw [Zg (Nat.ne_of_lt (Heap.lt_size e))]; exact n) (λb u hc e=>⟨u,k b u hc e⟩) (λb xs e=>old b _ e) (λb x u e=>old b _ e) (λb ps e=>⟨#[],by rw [old b _ e]; simp⟩) (λm hm=>?_) (λb u e=>?_) I.bare
 ·obtain⟨u,es,ep,ho,r⟩:=hm
  exact⟨u,es,ep,k _ u (λz=>(hf _ z).2.1 rfl) ho,r⟩
 ·by_cases hb:b=s.heap.objs.size
  ·subst hb; rw [Zf] at e; cases e; exact new
  ·rw [Zg hb] at e
   refine (I.hok b u e).stay (λc v hc q=>k c v ?_ q) (λc q=>old c _ q) (λc xs q=>old c _ q) λc o q=>old c _ q
   rcases hc with z | z
   ·rw [z]; exact nch b u e
   ·exact nch c _ z
theorem ZkK{t':Nat}{ch:List Addr}(I:Inv X pins σ H s)(k:∀ b u,b ∉ ch->s.heap.get? b=some u->h'.get? b=some u)(hf:∀ b∈ch,JL X pins H b):Inv X pins σ H { s with heap:=h',toks:=t' }:=by
 have nch:∀ b u,H b=some u->b ∉ ch:=λb u e z=>by rw [(hf b z).1] at e; cases e
 refine I.step (g':=s.gens) (d':=s.drawn) (ch:=ch) (λb hb=>⟨(hf b hb).2.2.2.1,(hf b hb).2.1,(hf b hb).2.2.2.2.1,(hf b hb).2.2.2.2.2⟩) (λb u _ _ hc e _=>k b u hc e) (λb u _ _ hc e _=>⟨u.slots,k b u hc e⟩)
  (λb u hc e n=>n) (λb u hc e=>⟨u,k b u hc e⟩) (λb xs e=>e) (λb x u e=>e) (λb ps e=>⟨#[],by rw [e]; simp⟩) (λm hm=>?_) (λb u e=>?_) I.bare
 ·obtain⟨u,es,ep,ho,r⟩:=hm
  exact⟨u,es,ep,k _ u (λz=>(hf _ z).2.1 rfl) ho,r⟩
 ·refine (I.hok b u e).stay (λc v hc q=>k c v ?_ q) (λc q=>q) λc xs q=>q
  rcases hc with z | z
  ·rw [z]; exact nch b u e
  ·exact nch c _ z
def Ite(K:PySem.W.Frag)(a:Addr):It :=
 ⟨λi H=>∃ xs x,Jw K H a xs/\xs[i]?=some x,λi H x H'=>∃ p y,x=.ref p/\H p=none/\Zk H H'/\H' p=some (.tup [.int i,y])/\∀ xs,Jw K H a xs->xs[i]?=some y,λi H=>∃ xs,Jw K H a xs/\xs.length<=i⟩
def Zlf{P:Program}{w:World}{es:List Expr}{x1}{pos:Pos}(a it e:Addr)(hne:e ≠ it):Turn P w K (.Tuple es x1 pos) (Ite K a) [it,e] e (λi h=>(∃ old,IsEnum h e it (i:Nat) old)/\h.IsListIter it a i) where
 mem:=by simp
 obj:=λi h st b hb=>by
  obtain⟨⟨old,he⟩,o,eo,c,d⟩:=st
  rcases Yn.mp hb with z | z
  ·subst z; exact⟨o,eo,λv z=>by rw [d] at z; cases z⟩
  ·have z:b=e:=by simpa using z
   subst z; exact⟨_,he,λv z=>by cases z⟩
 keep:=λi h h' st k=>⟨⟨st.1.choose,k e (by simp) _ st.1.choose_spec⟩,st.2.at λo x=>k it (by simp) o x⟩
 item:=by
  intro X hP hw hK hc i pins s σ H E I hf st hg
  subst hP hw hK
  obtain⟨⟨old,he⟩,hit⟩:=st
  obtain⟨xs,x,hq,hx⟩:=hg
  obtain⟨its,rv,p,hz⟩:=I.list hq
  obtain⟨u,hu,ru⟩:=rv.get hx
  have hn:H s.heap.objs.size=none:=I.hok.fresh (Yd _)
  refine wpAny_pyNext_enum_item he hit p.isList (x:=u) (by simpa using hu) hne λh' eo st' ht hsz kk=>?_
  refine⟨_,rfl,wpAny_letOwnedTupleGo_enum (s:={ s with heap:=h',toks:=s.toks + 1 }) eo λh2 he2 sb=>?_⟩
  have sb2:∀ b,b ≠ e->h2.get? b=h'.get? b:=sb.2
  have hel:s.heap.objs.size ≠ e:=Vm (Yf he)
  have kt:h2.get? s.heap.objs.size=some { cls:=.type "tuple",data:=.seq #[.int i s.toks,u] }:=(sb2 _ hel).trans ht
  have I1:Inv X pins σ (upd H s.heap.objs.size (.tup [.int i,x])) { s with heap:=h2,toks:=s.toks + 1 }:=by
   refine ZeL (ch:=[it,e]) I (λb o hb q=>?_) hf ?_
   ·have hb':b ≠ it/\b ≠ e:=by simpa using hb
    rw [sb2 b hb'.2]
    exact kk b o hb'.2 hb'.1 q
   ·exact⟨by show 2<=sizeLine; decide,[.int i s.toks,u],.cons ⟨_,rfl⟩ (.cons ru .nil),⟨_,kt,rfl,_,rfl⟩⟩
  refine⟨.ref s.heap.objs.size,_,I1,rfl,⟨_,x,rfl,hn,ZO hn _,Zf,λys hy=>by rw [I.list_inj hy hq]; exact hx⟩,⟨⟨u,?_⟩,?_⟩,λb hb=>?_⟩
  ·exact he2
  ·obtain⟨o,q,r⟩:=st'
   exact⟨o,(sb2 it (Ne.symm hne)).trans q,r⟩
  ·have hb1:=(hf b hb).1
   have:b ≠ s.heap.objs.size:=λz=>by
    rcases Yn.mp hb with y | y
    ·obtain⟨o,q,_⟩:=hit
     exact Y1 _ (by have:=Yf q; rw [<- y,z] at this; exact this)
    ·have y:b=e:=by simpa using y
     exact hel (z.symm.trans y)
   rw [Zg this]
   exact hb1
 done:=by
  intro X hP hw hK hc i pins s σ H E I hf st hg
  subst hP hw hK
  obtain⟨⟨old,he⟩,hit⟩:=st
  obtain⟨xs,hq,hx⟩:=hg
  obtain⟨its,rv,p,hz⟩:=I.list hq
  have hl:=rv.length
  refine wpAny_pyNext_enum_end (I.ok.hd hc) he hit p.isList (by simp; omega) λh' eb=>⟨rfl,ZkK (t':=s.toks) (ch:=[it,e]) I (λb o hb q=>eb b o (λz=>hb (by simp [z])) q) hf⟩
 self:=λ_ _ _ _ _ st h=>wpAny_pyIter_enum st.1.choose_spec h
def Zpu(K:PySem.W.Frag)(ta:TA):TI:=λσ H R=>ta σ H λvs H1=>∃ a,vs=[.ref a]/\(∃ xs,Jw K H1 a xs)/\R (Ite K a) H1
def ZpH{l:Expr}{ta:TA}{p pos pos':Pos}{es:List Expr}{x1}(hg:Gl X "enumerate")(hm:X.mg "enumerate"=none)(ha:PA X [l] ta)(hs:starEach [l] X.env=[(false,eval l X.env)]:=by rfl):PI X (.Tuple es x1 pos') (.Call (.Name "enumerate" p) [l] [] pos) (Zpu X.K ta):=by
 intro pins s σ H R I h
 refine Call_ (Zbq I hg hm boot_enumerate (Vb (ZZ (ha pos pins s σ H _ I h) λus s1 ⟨vs,H1,I1,r1,q1⟩=>?_) hs rfl))
 obtain⟨a,e,⟨xs,hq⟩,q⟩:=q1
 subst e
 cases r1 with
 | cons r rr =>
  cases rr
  cases r
  obtain⟨its,rv,pl,hz⟩:=I1.list hq
  refine call_enumerate_list pl.isList λh' he hit hsz kk=>?_
  have I2:Inv X pins σ H1 { s1 with heap:=h' }:=I1.kept (t':=s1.toks) kk
  refine wpAny_pyIter_enum (s:={ s1 with heap:=h' }) he ⟨_,[s1.heap.objs.size,s1.heap.objs.size + 1],_,_,H1,rfl,I2,Zlf a _ _ (Nat.succ_ne_self _),⟨⟨.none,he⟩,hit⟩,λb hb=>?_,q⟩
  have hb':s1.heap.objs.size<=b:=by
   rcases Yn.mp hb with z | z
   ·exact Vu z.symm
   ·have z:b=s1.heap.objs.size + 1:=by simpa using z
    rw [z]; exact Vv _
  exact I1.fpOk hb' (I1.hok.fresh hb')
theorem Zej:∀ {xs:List V}{us:List Value},xs.length=us.length->(∀ (i:Nat) x u,xs[i]?=some x->us[i]?=some u->ZF x u)->Zw xs us
 | [],[],_,_=>.nil
 | x :: xs,u :: us,hl,h=>.cons (h 0 x u rfl rfl) (Zej (by simpa using hl) λi x u h1 h2=>h (i + 1) x u h1 h2)
def Zok(lo hi:Int):List V:=(List.range (hi - lo).toNat).map λk:Nat=>V.int (lo + (k:Int))
theorem Zf5{lo hi:Int}:(Zok lo hi).length=(hi - lo).toNat:=by simp [Zok]
def Zl8{lo hi:Int}{i:Nat}(h:i < (hi - lo).toNat):(Zok lo hi)[i]?=some (.int (lo + i)):=by
 unfold Zok
 rw [Yg,Yaq h]
 rfl
def Zqj(ta:TA):TE:=λσ H Q=>ta σ H λvs H1=>∃ i j:Int,vs=[.int i,.int j]/\∀ p H2,H1 p=none->Zk H1 H2->H2 p=some (.rng i j)->Q (.ref p) H2
def ZpA{a b:Expr}{ta:TA}{p pos:Pos}(hg:Gl X "range")(hm:X.mg "range"=none)(ha:PA X [a,b] ta)(hs:starEach [a,b] X.env=[(false,eval a X.env),(false,eval b X.env)]:=by rfl)(hs2:starEach [b] X.env=[(false,eval b X.env)]:=by rfl) :
  PE X (.Call (.Name "range" p) [a,b] [] pos) (Zqj ta):=by
 intro pins s σ H R I h
 refine Call_ (Zbq I hg hm boot_range (Vb (ZZ (ha pos pins s σ H _ I h) λus s1 ⟨vs,H1,I1,r1,q1⟩=>?_) (by rw [hs,hs2]) (by rw [hs2]; rfl)))
 obtain⟨i,j,e,q⟩:=q1
 subst e
 obtain⟨u,v,rfl,⟨t,rfl⟩,t',rfl⟩:=ZlU r1
 have hf:H1 s1.heap.objs.size=none:=I1.hok.fresh (Yd _)
 exact call_range_2 ⟨.ref s1.heap.objs.size,upd H1 s1.heap.objs.size (.rng i j),I1.laid (λb u e=>Yh _ e) (Yd _) ⟨_,_,_,Yo _ rfl⟩,rfl,q _ _ hf (ZO hf _) Zf⟩
def Zhl(K:PySem.W.Frag):List V->Hp->VK->Prop:=λxs H Q=>∃ p ys,xs=[.ref p]/\(Jw K H p ys\/SqT K H p ys\/∃ lo hi,H p=some (.rng lo hi)/\-(2 ^ 62)<=lo/\lo < 2 ^ 62/\-(2 ^ 62)<=hi/\hi < 2 ^ 62/\ys=Zok lo hi/\hi - lo<=1000000) /\
 ∀ l H2,H l=none->Zk H H2->H2 l=some (.lst ys)->Q (.ref l) H2
def Zjq(hc:X.calm=true):Jn X (.type "list") (Zhl X.K):=by
 intro pins s σ H xs us Q I r h
 obtain⟨p,ys,rfl,hq,q⟩:=h
 have old:∀ l,H l=none->Q (.ref l) (upd H l (.lst ys)):=λl hl=>q l _ hl (ZO hl _) Zf
 rcases hq with hq | hq | ⟨lo,hi,hq,h1,h2,h3,h4,rfl,h5⟩
 ·exact ZdD pins s σ H [.ref p] us Q I r ⟨p,ys,rfl,.inl hq,old⟩
 ·exact ZdD pins s σ H [.ref p] us Q I r ⟨p,ys,rfl,.inr hq,old⟩
 ·obtain⟨u,rfl,rx⟩:=JE r
  cases rx
  obtain⟨t,u,v,hr⟩:=I.hok p _ hq
  have hn:Builtin.Range.rangeSize lo hi 1=((hi - lo).toNat:Int):=by rw [rangeSize_one]; split <;> omega
  refine call_list_range (I.ok.hd hc) hr (small_one h1 h2 h3 h4) hn (by omega) λh' tk acc' c' kk hl ⟨hs,hacc⟩=>?_
  have hf:H s.heap.objs.size=none:=I.hok.fresh (Yd _)
  refine⟨.ref s.heap.objs.size,_,I.laid kk (Nat.le_refl _) (show ZW X.prog X.w _ h' _ (.lst (Zok lo hi)) from ⟨?_,acc'.toList,c',Zej ?_ λi x u e1 e2=>?_,by simpa using hl⟩),rfl,old _ hf⟩
  ·rw [Zf5]; exact Yj (m:=1000000) (by omega) (by decide)
  ·rw [Zf5]; simpa using hs.symm
  ·have hi:i < (hi - lo).toNat:=by rw [<- Zf5]; exact (Yi.mp e1).1
   rw [Zl8 hi] at e1
   cases e1
   obtain⟨t,rfl⟩:=hacc i u (by simpa using e2)
   exact⟨t,by rw [Int.mul_one]⟩
end
def Zk6(X:Cx)(N:List Str)(sc:Scope)(cl:List (Str × Addr))(fn:Str->Bool)(s:Shared)(H:Hp)(fp:List Addr):Cx where
 prog:=X.prog
 w:=X.w
 K:=X.K
 mg:=X.mg
 base:=X.base
 A:=X.A
 N:=N
 s₀:=s
 H₀:=H
 env:=compEnvC sc cl s.heap.objs.size X.env
 outer:=X.stack
 stack:=X.stack
 ex:=fp
 calm:=X.calm
 fn:=fn
 pn:=[]
 xe:=λ_ _=>False
abbrev blk(X:Cx)(N:List Str)(sc:Scope)(cl:List (Str × Addr))(s:Shared)(H:Hp)(fp:List Addr):Cx:=Zk6 X N sc cl (λ_=>false) s H fp
def Jq(σ:St)(caps:List Nat):St:=caps.map λi=>(σ[i]?).join
structure Blk(X:Cx)(ts:List Str)(caps:List Nat)(cs:List Str)(sc:Scope)(cl:List (Str × Addr)):Prop where
 clos:closureFor sc X.env=pure cl
 kind:sc.kind=.function
 cell:∀ x∈sc.names,x.2 ≠ .cell
 loc:∀ x∈sc.names,x.2=.local->sc.names.lookup x.1=some .local
 sub:∀ x c,cl.lookup x=some c->X.env.cells.lookup x=some c
 has:∀ x,((relabel sc X.env).names.lookup x=some .cell\/(relabel sc X.env).names.lookup x=some .free)->∃ c,cl.lookup x=some c
 len:caps.length=cs.length
 cap:∀ (k:Nat) i x,caps[k]?=some i->cs[k]?=some x->X.N[i]?=some x/\(X.env.kindOf x=some .cell\/X.env.kindOf x=some .free)
 capK:∀ x∈cs,(relabel sc X.env).names.lookup x=some .cell\/(relabel sc X.env).names.lookup x=some .free
section
variable {X:Cx}{pins:List (Addr × Obj)}{σ:St}{H:Hp}{s:Shared}{ts cs:List Str}{caps:List Nat}{sc:Scope}{cl:List (Str × Addr)}{fp:List Addr}
theorem Zoo(B:Blk X ts caps cs sc cl)(I:Inv X pins σ H s)(hf:∀ b∈fp,JL X pins H b)(hlt:∀ b∈fp,b < s.heap.objs.size):(blk X (ts ++ cs) sc cl s H fp).Ok where
 mod:=I.ok.mod
 kind:=B.kind
 glob:=I.ok.glob
 blt:=I.ok.blt
 above:=Yd _
 inj:=λx y c h1 h2=>I.ok.inj x y c (B.sub x c h1) (B.sub y c h2)
 has:=λx h=>B.has x h
 cab:=λx c h _=>by cases h
 hd:=I.ok.hd
 frames:=I.ok.frames
 stk:=.inl rfl
 exf:=λb hb=>⟨Ym (hlt b hb),λx c h=>(hf b hb).2.2.2.2.1 x c (B.sub x c h)⟩
 bs:=I.bs
 bsz:=Yj I.ok.bsz I.sz
 noex:=λb o e hb=>by
  rcases (hf b hb).2.2.2.1 with z | z
  ·exact I.ok.noex b o e z
  ·exact Y1 _ (Yu (Yf (I.ok.bs b o e).1) z)
 exfs:=λb hb z=>by
  rcases Yn.mp (I.stkSub b z) with e | e
  ·exact (hf b hb).2.1 e
  ·exact (hf b hb).2.2.1 e
 funs:=I.stack
 frf:=I.stkFree
def Zo2(B:Blk X ts caps cs sc cl)(I:Inv X pins σ H s)(hf:∀ b∈fp,JL X pins H b)(hlt:∀ b∈fp,b < s.heap.objs.size){h₁:Heap}{t':Nat}(hn:h₁.Ns s.heap.objs.size λ_=>none)(kk:∀ b o,s.heap.get? b=some o->h₁.get? b=some o) :
  Inv (blk X (ts ++ cs) sc cl s H fp) [] (List.replicate ts.length none ++ Jq σ caps) H { s with heap:=h₁,toks:=t' }:=by
 have hfr:H s.heap.objs.size=none:=I.hok.fresh (Yd _)
 refine⟨Zoo B I hf hlt,rfl,I.bare,Un.kept kk,⟨_,hn,λi x v h1 h2 h3=>?_⟩,λx c e=>?_,hfr,λx c e=>I.freeC x c (B.sub x c e),λp hp=>absurd (show p∈([]:List (Addr × Obj)) from hp) (by simp),I.hok.kept kk,?_⟩
 ·have hi:¬ i < ts.length:=λhi=>by
   rw [List.getElem?_append_left (by simpa using hi),List.getElem?_replicate,if_pos hi] at h2
   cases h2
  have h1':(ts ++ cs)[i]?=some x:=h1
  rw [YN (by omega)] at h1'
  rw [List.getElem?_append_right (by simp; omega),List.length_replicate] at h2
  unfold Jq at h2
  rw [Yg] at h2
  cases e:caps[i - ts.length]? with
  | none=>rw [e] at h2; cases h2
  | some j =>
   rw [e] at h2
   have h2':(σ[j]?).join=some v:=by simpa using h2
   have h2'':σ[j]?=some (some v):=by
    cases q:σ[j]? with
    | none=>rw [q] at h2'; cases h2'
    | some o=>rw [q] at h2'; cases h2'; rfl
   obtain⟨hN,hk⟩:=B.cap _ _ _ e h1'
   obtain⟨m,hm,hl⟩:=I.loc
   obtain⟨u,r,l⟩:=hl j x v hN h2'' (.inr hk)
   refine⟨u,r,?_⟩
   rcases l with ⟨l,_⟩ | ⟨_,c,hc,⟨o,ho,hd⟩⟩
   ·rcases hk with z | z <;> (rw [z] at l; cases l)
   ·have ck:=B.capK x (Yl h1')
    obtain⟨c',hc'⟩:=B.has x ck
    have:=B.sub x c' hc'
    rw [hc] at this
    cases this
    exact .inr ⟨ck,c,hc',o,kk c o ho,hd⟩
 ·obtain⟨v,o,ho,hd⟩:=I.cell x c (B.sub x c e)
  exact⟨v,o,kk c o ho,hd⟩
 ·show (List.replicate ts.length (none:Option V) ++ Jq σ caps).length=(ts ++ cs).length
  rw [YV,YV,List.length_replicate]
  unfold Jq
  rw [Ye,B.len]
def Zlh(ifs:List Expr)(env:Env):Sem Bool:=forIn ifs true λc r=>if r=true then do let ok <- isTrue c env (eval c env); pure (ForInStep.yield ok) else pure (ForInStep.yield r)
def PTs(X:Cx)(ifs:List Expr)(t:TT):Prop :=
 ∀ (pins:List (Addr × Obj)) (s:Shared) (σ:St) (H:Hp) (Q:Bool->Hp->Prop),Inv X pins σ H s->t σ H Q->wpAny (model X.prog X.w) X.A (Zlh ifs X.env) (TP X pins σ Q) X.xe s
def Zoi:TT:=λ_ H Q=>Q true H
def Zke:PTs X [] Zoi:=λ_ _ _ H _ I h=>wpAny_tests_nil ⟨H,I,h⟩
def ZoX{c:Expr}{t:TT}(h:PT X c t):PTs X [c] t:=λpins s σ H Q I hq=>wpAny_tests_one (h pins s σ H Q I hq)
def ZjQ{prog:Program}{w:World}{A:Around}{R:Result->Shared->Prop}{s:Shared}{elt target iter:Expr}{ifs:List Expr}{scope:Scope}{pos:Pos}{it acc:Value}{env:Env}(I:Nat->Shared->Prop)
  (turn:∀ n s,I n s->wpAny (model prog w) A (pyNext it) (λr s₁=>match r with
   | none=>R (.ok .next) s₁
   | some v=>wpAny (model prog w) A (letOwnedTupleGo target it v) (λ_ s₁'=>wpAny (model prog w) A (assign target env v) (λ_ s₂=>wpAny (model prog w) A (Zlh ifs env) (λok s₃ =>
     if ok=true then wpAny (model prog w) A (eval elt env) (λx s₄ =>
      wpAny (model prog w) A (call (.builtin "list.append") [acc,x]) (λ_ s₅=>∃ m,m < n/\I m s₅) (notedBy (model prog w) A env λe s'=>R (.error e) s') s₄) (notedBy (model prog w) A env λe s'=>R (.error e) s') s₃
     else ∃ m,m < n/\I m s₃) (notedBy (model prog w) A env λe s'=>R (.error e) s') s₂) (notedBy (model prog w) A env λe s'=>R (.error e) s') s₁') (notedBy (model prog w) A env λe s'=>R (.error e) s') s₁) (notedBy (model prog w) A env λe s'=>R (.error e) s') s)
  (n:Nat) (h:I n s):codeAny (model prog w) A (.compLoop (.ListComp elt [⟨target,iter,ifs,0⟩] scope pos) 0 it acc env) R s:=by
 refine codeAny_loop rfl I (λn s hI=>?_) n h
 show wpAny _ _ ((compTurn (.ListComp elt [⟨target,iter,ifs,0⟩] scope pos) 0 it acc env).onRaise (λx=>do noteFrame x env; theTreesLotGoes x)) _ _ s
 refine wpAny_noted ?_
 rw [compTurn_list]
 refine Ya (Yag (Ya (Yz (turn n s hI) (λr s₁ h₁=>?_) λ_ _ h'=>h')))
 cases r with
 | none=>exact Yb h₁
 | some v =>
  refine Ya (Yz h₁ (λ_ s₁' h₁'=>?_) λ_ _ h'=>h')
  refine Ya (Yz h₁' (λ_ s₂ h₂=>Ya (Yz h₂ (λok s₃ h₃=>?_) λ_ _ h'=>h')) λ_ _ h'=>h')
  cases ok with
  | false=>exact Yb ⟨rfl,h₃⟩
  | true=>exact Ya (Ya (Yz h₃ (λx s₄ h₄=>Ya (Yz h₄ (λ_ s₅ h₅=>Yb (Yb ⟨rfl,h₅⟩)) λ_ _ h'=>h')) λ_ _ h'=>h'))
def Zf6(nt:Nat)(cp:St)(J:It)(g:TG)(tt:TT)(te:TE)(H1:Hp)(Q:VK):Prop:=∀ acc H2,H1 acc=none->Zk H1 H2->H2 acc=some (.lst []) ->
 ∃ W:Nat->Nat->List V->Hp->Prop,(∃ m,W 0 m [] H2)/\∀ i m ys H,W i m ys H->H acc=some (.lst ys)/\((J.stop i H/\Q (.ref acc) H)\/(J.go i H/\ys.length < 1000000/\∃ N:List V->Hp->Prop,(∀ ys' H',N ys' H'->∃ m',m' < m/\W (i + 1) m' ys' H') /\
  ∀ os x H',os.length=nt->J.yld i H x H'->g x (os ++ cp) H' λτ H3=>∃ os',os'.length=nt/\τ=os' ++ cp/\tt τ H3 λb H4=>if b=true then te τ H4 λv H5=>H5 acc=some (.lst ys)/\N (ys ++ [v]) (upd H5 acc (.lst (ys ++ [v]))) else N ys H4))
def Zl4(nt:Nat)(cp:St)(J:It)(g:TG)(te:TE)(H1:Hp)(Q:VK):Prop:=Zf6 nt cp J g Zoi te H1 Q
def Zdv(nt:Nat)(caps:List Nat)(wi:TI)(g:TG)(tt:TT)(te:TE):TE:=λσ H Q=>wi σ H λJ H1=>Zf6 nt (Jq σ caps) J g tt te H1 Q
def JQ(nt:Nat)(caps:List Nat)(wi:TI)(g:TG)(te:TE):TE:=λσ H Q=>wi σ H λJ H1=>Zl4 nt (Jq σ caps) J g te H1 Q
def ZhM(X:Cx)(pins:List (Addr × Obj))(σ:St)(Q:VK)(acc:Value)(C:Addr)(r:Result)(s':Shared):Prop :=
 r=.ok .next/\∃ a H',acc=.ref a/\Inv X pins σ H' s'/\JL X pins H' C/\(∃ m,s'.heap.Ns C m)/\Q (.ref a) H'
def Zp7{elt target iter:Expr}{ifs:List Expr}{pos:Pos}{g:TG}{tt:TT}{te:TE}{it acc:Addr}{tn:Nat->Heap->Prop}{J:It}{Q:VK}{cells:List (Str × Addr)}{fn:Str->Bool}{s3 s4:Shared}{H3:Hp}{W:Nat->Nat->List V->Hp->Prop}{m0:Nat}(hc:X.calm=true)
  (hg:PG (Zk6 X (ts ++ cs) sc cells fn s3 H3 fp) target g) (ht:PTs (Zk6 X (ts ++ cs) sc cells fn s3 H3 fp) ifs tt) (he:PE (Zk6 X (ts ++ cs) sc cells fn s3 H3 fp) elt te) (ok:(Zk6 X (ts ++ cs) sc cells fn s3 H3 fp).Ok)
  (I3:Inv X pins σ H3 s3) (f3:∀ b∈fp,JL X pins H3 b) (hlt3:∀ b∈fp,b < s3.heap.objs.size) (T:Turn X.prog X.w X.K target J fp it tn) (J4:Inv (Zk6 X (ts ++ cs) sc cells fn s3 H3 fp) [] (List.replicate ts.length none ++ Jq σ caps) H3 s4) (st4:tn 0 s4.heap) (w0:W 0 m0 [] H3)
  (step:∀ i m ys H,W i m ys H->H acc=some (.lst ys)/\((J.stop i H/\Q (.ref acc) H)\/(J.go i H/\ys.length < 1000000/\∃ N:List V->Hp->Prop,(∀ ys' H',N ys' H'->∃ m',m' < m/\W (i + 1) m' ys' H') /\
   ∀ os x H',os.length=ts.length->J.yld i H x H'->g x (os ++ Jq σ caps) H' λτ H3=>∃ os',os'.length=ts.length/\τ=os' ++ Jq σ caps/\tt τ H3 λb H4=>if b=true then te τ H4 λv H5=>H5 acc=some (.lst ys)/\N (ys ++ [v]) (upd H5 acc (.lst (ys ++ [v]))) else N ys H4))) :
  codeAny (model X.prog X.w) X.A (.compLoop (.ListComp elt [⟨target,iter,ifs,0⟩] sc pos) 0 (.ref it) (.ref acc) (compEnvC sc cells s3.heap.objs.size X.env)) (ZhM X pins σ Q (.ref acc) s3.heap.objs.size) s4:=by
 have stat:∀ {H':Hp},(∀ b∈fp,H' b=none)->∀ b∈fp,JL (Zk6 X (ts ++ cs) sc cells fn s3 H3 fp) [] H' b:=λhn b hb =>
  ⟨hn b hb,Nat.ne_of_lt (hlt3 b hb),ok.exfs b hb,.inl hb,ok.exf b hb |>.2,λp hp=>absurd (show p∈([]:List (Addr × Obj)) from hp) (by simp)⟩
 refine ZjQ (λn s'=>∃ i os ys H',os.length=ts.length/\Inv (Zk6 X (ts ++ cs) sc cells fn s3 H3 fp) [] (os ++ Jq σ caps) H' s'/\tn i s'.heap/\(∀ b∈fp,H' b=none)/\W i n ys H') ?_ m0
  ⟨0,List.replicate ts.length none,[],_,by simp,J4,st4,λb hb=>(f3 b hb).1,w0⟩
 rintro n s5 ⟨i,os,ys,H5,ol,J5,st5,fr5,w5⟩
 obtain⟨ha,hcase⟩:=step i n ys H5 w5
 rcases hcase with ⟨stop,q⟩ | ⟨go,hys,N,hN,turn⟩
 ·refine ZZ (T.done (Zk6 X (ts ++ cs) sc cells fn s3 H3 fp) rfl rfl rfl hc i [] s5 _ H5 _ J5 (stat fr5) st5 stop) λr s6 ⟨hr,J6⟩=>?_
  subst hr
  have hf6:H5 s3.heap.objs.size=none:=J6.free
  obtain⟨m6,hm6,_⟩:=J6.loc
  exact⟨rfl,_,H5,rfl,I3.call' (J6.os) J6.base J6.hok J6.bare (λb hb=>⟨(f3 b hb).2.2.2.1,(f3 b hb).2.1,(f3 b hb).2.2.2.2.1,(f3 b hb).2.2.2.2.2⟩),I3.fpOk (Yd _) hf6,⟨m6,hm6⟩,q⟩
 ·refine ZZ (T.item (Zk6 X (ts ++ cs) sc cells fn s3 H3 fp) rfl rfl rfl hc i [] s5 _ H5 _ J5 (stat fr5) st5 go) λr s6 ⟨u,hr,h6⟩=>?_
  subst hr
  refine ZZ h6 λ_ s7 ⟨x,H7,J7,r7,y7,st7,fr7⟩=>?_
  have J7':=J7.pinned (stat fr7) (T.obj _ _ st7)
  refine Yz (hg _ s7 _ H7 x u _ J7' r7 (turn os x H7 ol y7)) (λ_ s8 ⟨σ8,H8,J8,os',ol',e8,q8⟩=>?_) λ_ _ z=>z.elim
  subst e8
  refine Yz (ht _ s8 _ H8 _ J8 q8) (λb s8' ⟨H8',J8',q8'⟩=>?_) λ_ _ z=>z.elim
  cases b with
  | false =>
   rw [if_neg (by decide)] at q8' ⊢
   obtain⟨m',hm',w9⟩:=hN _ _ q8'
   refine⟨m',hm',i + 1,os',ys,_,ol',J8'.unpinned,T.keep _ _ _ st7 λb hb o e=>(J8'.pin (b,o) (Yy _ (Yy _ (Zbc hb e)))).1,λb hb=>?_,w9⟩
   obtain⟨o,e,d⟩:=T.obj _ _ st7 b hb
   exact (J8'.pin (b,o) (Yy _ (Yy _ (Zbc hb e)))).2.1
  | true =>
   rw [if_pos rfl] at q8' ⊢
   refine Yz (he _ s8' _ H8' _ J8' q8') (λv s9 ⟨v9,H9,J9,r9,ha9,n9⟩=>?_) λ_ _ z=>z.elim
   refine Yz (ZgR (X:=Zk6 X (ts ++ cs) sc cells fn s3 H3 fp) _ s9 _ H9 (.ref acc) [v9] (.ref acc) [v] (λ_ H'=>H'=upd H9 acc (.lst (ys ++ [v9]))) J9 rfl (.cons r9 .nil) ⟨_,ys,v9,rfl,rfl,ha9,ZtD hys,rfl⟩) (λ_ s10 ⟨_,H10,J10,_,e10⟩=>?_) λ_ _ z=>z.elim
   subst e10
   obtain⟨m',hm',w9⟩:=hN _ _ n9
   refine⟨m',hm',i + 1,os',ys ++ [v9],_,ol',J10.unpinned,T.keep _ _ _ st7 λb hb o e=>(J10.pin (b,o) (Yy _ (Yy _ (Zbc hb e)))).1,λb hb=>?_,w9⟩
   obtain⟨o,e,d⟩:=T.obj _ _ st7 b hb
   exact (J10.pin (b,o) (Yy _ (Yy _ (Zbc hb e)))).2.1
def Zj0{elt target iter:Expr}{ifs:List Expr}{pos:Pos}{g:TG}{tt:TT}{te:TE}{it:Addr}{tn:Nat->Heap->Prop}{J:It}{Q:VK}{E:VSP}(B:Blk X ts caps cs sc cl)(hc:X.calm=true)
  (hg:∀ s H fp,PG (blk X (ts ++ cs) sc cl s H fp) target g) (ht:∀ s H fp,PTs (blk X (ts ++ cs) sc cl s H fp) ifs tt) (he:∀ s H fp,PE (blk X (ts ++ cs) sc cl s H fp) elt te)
  (I2:Inv X pins σ H s) (T:Turn X.prog X.w X.K target J fp it tn) (st2:tn 0 s.heap) (f2:∀ b∈fp,JL X pins H b) (h:Zf6 ts.length (Jq σ caps) J g tt te H Q) :
  wpAny (model X.prog X.w) X.A (newList []) (λacc s₃=>wpAny (model X.prog X.w) X.A (newFunctionEnv sc X.env.globals cl [] X.env.qual none .none (some X.env)) (λcenv s₄ =>
   codeAny (model X.prog X.w) X.A (.compStart (.ListComp elt [⟨target,iter,ifs,0⟩] sc pos) 0 (.ref it) acc { cenv with scope:=relabel sc X.env }) (ZhM X pins σ Q acc cenv.locals) s₄) E s₃) E s:=by
 refine wpAny_newObj_type (wpAny_newFunctionEnv B.cell (by intro y hy; simp at hy) (λh₁ hns₁ hsb₁=>?_) B.kind)
 dsimp only at hns₁ hsb₁ ⊢
 have hnew:H s.heap.objs.size=none:=I2.hok.fresh (Yd _)
 have I3:Inv X pins σ (upd H s.heap.objs.size (.lst [])) { s with heap:=s.heap.push { cls:=.type "list",dict:=none,data:=.seq ([]:List Value).toArray } } :=
  I2.laid (t':=s.toks) (λb u e=>Yh _ e) (Yd _) ⟨YD _,[],0,.nil,Yo _ rfl⟩
 obtain⟨W,⟨m0,w0⟩,step⟩:=h s.heap.objs.size _ hnew (ZO hnew _) Zf
 have old2:∀ b o,s.heap.get? b=some o->(s.heap.push { cls:=.type "list",dict:=none,data:=.seq ([]:List Value).toArray }).get? b=some o:=λb o e=>Yh _ e
 generalize hs3:({ s with heap:=s.heap.push { cls:=.type "list",dict:=none,data:=.seq ([]:List Value).toArray } }:Shared)=s3 at I3
 have hh:s.heap.push { cls:=.type "list",dict:=none,data:=.seq ([]:List Value).toArray }=s3.heap:=by rw [<- hs3]
 rw [hh] at hns₁ hsb₁ old2
 have fpO:∀ b∈fp,∃ o,s.heap.get? b=some o:=λb hb=>let ⟨o,e,_⟩:=T.obj 0 _ st2 b hb; ⟨o,e⟩
 have f3:∀ b∈fp,JL X pins (upd H s.heap.objs.size (.lst [])) b:=λb hb=>⟨by
  obtain⟨o,e⟩:=fpO b hb
  rw [Zg (Ym (Yf e))]; exact (f2 b hb).1,(f2 b hb).2⟩
 have hlt3:∀ b∈fp,b < s3.heap.objs.size:=λb hb=>let ⟨o,e⟩:=fpO b hb; Yf (old2 b o e)
 have kk:∀ b o,s3.heap.get? b=some o->h₁.get? b=some o:=λb o e=>hsb₁.extBut b o (Ym (Yf e)) (Yh _ e)
 have J4:=Zo2 (t':=s.toks + ([]:List (Str × Value)).length) B I3 f3 hlt3 (h₁:=h₁) hns₁ kk
 have st4:tn 0 h₁:=T.keep _ _ _ st2 λb hb o e=>kk b o (old2 b o e)
 have key:∀ s4:Shared,s4={ s3 with heap:=h₁,toks:=s.toks + ([]:List (Str × Value)).length } ->
   codeAny (model X.prog X.w) X.A (.compLoop (.ListComp elt [⟨target,iter,ifs,0⟩] sc pos) 0 (.ref it) (.ref s.heap.objs.size) (compEnvC sc cl s3.heap.objs.size X.env)) (ZhM X pins σ Q (.ref s.heap.objs.size) s3.heap.objs.size) s4:=by
  rintro s4 rfl
  exact Zp7 hc (hg _ _ _) (ht _ _ _) (he _ _ _) (Zoo B I3 f3 hlt3) I3 f3 hlt3 T J4 st4 w0 step
 have key2:=key { s with heap:=h₁,toks:=s.toks + ([]:List (Str × Value)).length } (by rw [<- hs3])
 rw [hh]
 exact codeAny_compStart_list key2 (T.self _ 0 _ _ _ st4 key2)
def Zh5{elt target iter:Expr}{ifs:List Expr}{pos:Pos}{wi:TI}{g:TG}{tt:TT}{te:TE}(B:Blk X ts caps cs sc cl)(hi:PI X target iter wi)
  (hg:∀ s H fp,PG (blk X (ts ++ cs) sc cl s H fp) target g) (ht:∀ s H fp,PTs (blk X (ts ++ cs) sc cl s H fp) ifs tt) (he:∀ s H fp,PE (blk X (ts ++ cs) sc cl s H fp) elt te) (hc:X.calm=true:=by rfl) (hs:∀ x,foldedSetIterable iter X.env x=pure x:=by intro _; rfl) :
  PE X (.ListComp elt [⟨target,iter,ifs,0⟩] sc pos) (Zdv ts.length caps wi g tt te):=by
 intro pins s σ H Q I h
 rw [eval_ListComp]
 refine wpAny_comprehension_free (use:=none) rfl hs B.clos B.kind B.loc (ZZ (hi pins s σ H _ I h) λv s1 h1=>ZZ h1 λitv s2 h2=>?_)
 obtain⟨it,fp,tn,J,H2,e,I2,T,st2,f2,hq⟩:=h2
 subst e
 refine ZZ (Zj0 B hc hg ht he I2 T st2 f2 hq) λacc s3 h3=>ZZ h3 λcenv s4 h4=>Y2 h4 λr s' hp=>?_
 obtain⟨rfl,a,H',rfl,I',fC,⟨m,hm⟩,q⟩:=hp
 exact⟨m,hm,λh' sb=>⟨.ref a,H',I'.turned (t':=s'.toks) (λb o hb e=>sb.extBut b o hb e) fC.1 fC.2.1 fC.2.2.2.1 fC.2.2.2.2.1 fC.2.2.2.2.2,rfl,q⟩⟩
def Zeq{elt target iter:Expr}{ifs:List Expr}{x:Str}{px pos spos:Pos}{wi:TI}{g:TG}{tt:TT}{te:TE}(i:Nat)(B:Blk X ts caps cs sc cl)(hi:PI X target iter wi)
  (hg:∀ s H fp,PG (blk X (ts ++ cs) sc cl s H fp) target g) (ht:∀ s H fp,PTs (blk X (ts ++ cs) sc cl s H fp) ifs tt) (he:∀ s H fp,PE (blk X (ts ++ cs) sc cl s H fp) elt te) (hx:PG X (.Name x px) (JR i))
  (hsw:swapsWith (.ListComp elt [⟨target,iter,ifs,0⟩] sc pos) (some (.Name x px)) spos.line X.env=pure true) (hc:X.calm=true:=by rfl) (hs:∀ x,foldedSetIterable iter X.env x=pure x:=by intro _; rfl) :
  PS X (.Assign [.Name x px] (.ListComp elt [⟨target,iter,ifs,0⟩] sc pos) spos) (Zl3 (Zdv ts.length caps wi g tt te) (JR i)):=by
 intro pins s σ H D I h
 rw [exec_Assign_Name_used _ _ _ _ hsw]
 refine Ya (Yag (Ya ?_))
 show wpAny _ X.A (do let _ <- comprehension (.ListComp elt [⟨target,iter,ifs,0⟩] sc pos) sc X.env _ (newList []) false (eval iter X.env) (some (assign (.Name x px) X.env))) _ _ s
 refine Ya (Yz (wpAny_comprehension_free (use:=some (assign (.Name x px) X.env)) (Q:=λ_ s'=>SP X pins D .next s') rfl hs B.clos B.kind B.loc
  (ZZ (hi pins s σ H _ I h) λv s1 h1=>ZZ h1 λitv s2 h2=>?_)) (λ_ s' hq=>Yb (Yb hq)) λ_ _ e=>e)
 obtain⟨it,fp,tn,J,H2,e,I2,T,st2,f2,hq⟩:=h2
 subst e
 refine ZZ (Zj0 B hc hg ht he I2 T st2 f2 hq) λacc s3 h3=>ZZ h3 λcenv s4 h4=>Y2 h4 λr s' hp=>?_
 obtain⟨rfl,a,H',rfl,I',fC,⟨m,hm⟩,q⟩:=hp
 obtain⟨oC,esC,epC,hoC,hdC,rC⟩:=id hm
 have Ip:Inv X (pins ++ [(cenv.locals,oC)]) σ H' s':=I'.pins_of λp hp=>by
  rcases Yw.mp hp with z | z
  ·exact I'.pin p (Yy _ z)
  ·have z:p=(cenv.locals,oC):=by simpa using z
   subst z
   exact⟨hoC,fC.1,fC.2.1,fC.2.2.1,λv z=>by rw [show oC.data=_ from hdC] at z; cases z⟩
 refine ZZ (hx _ s' σ H' (.ref a) (.ref a) _ Ip rfl q) λ_ s5 ⟨σ5,H5,I5,q5⟩=>?_
 have pC:=I5.pin (cenv.locals,oC) (List.mem_append_right _ (List.mem_append_right _ (by simp)))
 refine⟨m,⟨oC,esC,epC,pC.1,hdC,rC⟩,λh' sb=>⟨σ5,H5,I5.unpinned.turned (t':=s5.toks) (λb o hb e=>sb.extBut b o hb e) pC.2.1 fC.2.1 fC.2.2.2.1 fC.2.2.2.2.1 fC.2.2.2.2.2,q5⟩⟩
def Zp4{elt target iter:Expr}{pos:Pos}{wi:TI}{g:TG}{te:TE}(B:Blk X ts caps cs sc cl)(hi:PI X target iter wi)
  (hg:∀ s H fp,PG (blk X (ts ++ cs) sc cl s H fp) target g) (he:∀ s H fp,PE (blk X (ts ++ cs) sc cl s H fp) elt te) (hc:X.calm=true:=by rfl) (hs:∀ x,foldedSetIterable iter X.env x=pure x:=by intro _; rfl) :
  PE X (.ListComp elt [⟨target,iter,[],0⟩] sc pos) (JQ ts.length caps wi g te):=Zh5 B hi hg (λ_ _ _=>Zke) he hc hs
def Zjl{elt target iter:Expr}{x:Str}{px pos spos:Pos}{wi:TI}{g:TG}{te:TE}(i:Nat)(B:Blk X ts caps cs sc cl)(hi:PI X target iter wi)
  (hg:∀ s H fp,PG (blk X (ts ++ cs) sc cl s H fp) target g) (he:∀ s H fp,PE (blk X (ts ++ cs) sc cl s H fp) elt te) (hx:PG X (.Name x px) (JR i))
  (hsw:swapsWith (.ListComp elt [⟨target,iter,[],0⟩] sc pos) (some (.Name x px)) spos.line X.env=pure true) (hc:X.calm=true:=by rfl) (hs:∀ x,foldedSetIterable iter X.env x=pure x:=by intro _; rfl) :
  PS X (.Assign [.Name x px] (.ListComp elt [⟨target,iter,[],0⟩] sc pos) spos) (Zl3 (JQ ts.length caps wi g te) (JR i)):=Zeq i B hi hg (λ_ _ _=>Zke) he hx hsw hc hs
end
section
variable {X:Cx}{tg e elt it c d:Expr}{te:TE}{ta:TA}{wi:TI}{g:TG}{pos p:Pos}{ts cs:List Str}{caps:List Nat}{sc:Scope}{cl:List (Str × Addr)}
def Zon{es:List Expr}{x1}{pos':Pos}(hg:Gl X "enumerate")(hm:X.mg "enumerate"=none)(ha:QA X [c] ta)(hp:Zu c=true:=by rfl):QI X (.Tuple es x1 pos') (.Call (.Name "enumerate" p) [c] [] pos) (Zpu X.K ta):=⟨ZpH hg hm ha.h (Zq hp)⟩
def Zre(hg:Gl X "range")(hm:X.mg "range"=none)(ha:QA X [c,d] ta)(hp:Zu c=true:=by rfl)(hq:Zu d=true:=by rfl):QE X (.Call (.Name "range" p) [c,d] [] pos) (Zqj ta):=⟨ZpA hg hm ha.h (by rw [Zq hp,Zq hq]; rfl) (Zq hq)⟩
def ZgB(hg:Gl X "list")(hm:X.mg "list"=none)(ha:QA X [c] ta)(hp:Zu c=true:=by rfl)(hc:X.calm=true:=by rfl):QE X (.Call (.Name "list" p) [c] [] pos) (tCB (Zhl X.K) ta):=⟨Zb7 (Zjq hc) hg hm (by decide +kernel) ha.h (by decide) (by decide) (Zq hp) rfl⟩
def Ztr(hg:Gl X "min")(hm:X.mg "min"=none)(ha:QA X [c,d] ta)(hp:Zu c=true:=by rfl)(hq:Zu d=true:=by rfl)(hc:X.calm=true:=by rfl) :
  QE X (.Call (.Name "min" p) [c,d] [] pos) (tCB (λxs H Q=>∃ i j,xs=[.int i,.int j]/\Q (.int (if j < i then j else i)) H) ta):=⟨Zbo (ZjH hc) hg hm (by decide +kernel) ha.h (by decide) (by decide) (Zq hp) (by rw [Zq hq]; rfl)⟩
def ZkS{o i:Expr}{to ti:TE}(ho:QE X o to)(hi:QE X i ti) (ha:∀ v,assign (.Subscript o i pos) X.env v=(do
      let ov <- holding [v] (eval o X.env)
      let iv <- holding [v,ov] (eval i X.env)
      standAt pos
      holding [v,ov,iv] (setItem ov iv v)
      release [v,ov,iv] []):=by intro _; rfl):QG X (.Subscript o i pos) (Zsu to ti Zl6):=⟨Zqw ho.h hi.h ZmU ha⟩
def Ztq(ts:List Str)(hk:sc.kind=.function:=by rfl)(h:(sc.names.all λx=>x.2 != .free && x.2 != .cell && (x.2 != .local || sc.names.lookup x.1 == some .local))=true:=by decide +kernel):Blk X ts [] [] sc []:=by
 have hh:∀ x∈sc.names,x.2 ≠ .free/\x.2 ≠ .cell/\(x.2=.local->sc.names.lookup x.1=some .local):=λx hx=>by
  have q:=List.all_eq_true.mp h x hx
  simp only [Bool.and_eq_true,bne_iff_ne,ne_eq,Bool.or_eq_true,beq_iff_eq] at q
  exact⟨q.1.1,q.1.2,λz=>q.2.elim (λy=>absurd z y) id⟩
 have rl:relabel sc X.env=sc:=by
  unfold relabel
  rw [map_eq_self λx hx=>by
   have q:(x.2 == NameKind.free)=false:=by simpa using (hh x hx).1
   obtain⟨n,k⟩:=x
   simp only at q
   simp [q]]
 refine⟨closureFor_none λx hx=>(hh x hx).1,hk,λx hx=>(hh x hx).2.1,λx hx=>(hh x hx).2.2,λx c e=>by simp at e,λx e=>?_,rfl,λk i x e=>by simp at e,λx e=>by simp at e⟩
 rw [rl] at e
 rcases e with e | e
 ·exact absurd rfl (hh _ (Vd e)).2.1
 ·exact absurd rfl (hh _ (Vd e)).1
def ZfF(cells:List (Str × Addr)):List (Str × NameKind)->List (Str × Addr)->Option (List (Str × Addr))
 | [],acc=>some acc
 | (n,k) :: r,acc=>if k == .free then (match cells.lookup n with | some c=>ZfF cells r ((n,c) :: acc) | none=>none) else ZfF cells r acc
def ZfU{env:Env}:∀ {ns:List (Str × NameKind)}{acc cl:List (Str × Addr)},ZfF env.cells ns acc=some cl ->
  (forIn ns acc λx r=>(match x with | (name,kind)=>if (kind == NameKind.free)=true then do let c <- PySem.cellOf env name; pure (ForInStep.yield ((name,c) :: r)) else pure (ForInStep.yield r):Sem (ForInStep (List (Str × Addr)))))=(pure cl:Sem _)
 | [],acc,cl,h=>by cases h; rfl
 | (n,k) :: r,acc,cl,h=>by
  unfold ZfF at h
  rw [List.forIn_cons]
  dsimp only
  split at h
  ·rename_i hk
   rw [if_pos hk]
   split at h
   ·rename_i c hc
    have e:PySem.cellOf env n=pure c:=by unfold PySem.cellOf; rw [hc]
    rw [e]
    exact ZfU h
   ·cases h
  ·rename_i hk
   rw [if_neg hk]
   exact ZfU h
def Zem{cells:List (Str × Addr)}:∀ {ns:List (Str × NameKind)}{acc cl:List (Str × Addr)},ZfF cells ns acc=some cl->(∀ p∈acc,cells.lookup p.1=some p.2)->∀ p∈cl,cells.lookup p.1=some p.2
 | [],acc,cl,h,ha=>by cases h; exact ha
 | (n,k) :: r,acc,cl,h,ha=>by
  unfold ZfF at h
  split at h
  ·split at h
   ·rename_i c hc
    exact Zem h λp hp=>by
     rcases Yn.mp hp with rfl | hp
     ·exact hc
     ·exact ha p hp
   ·cases h
  ·exact Zem h ha
def ZeA{cells:List (Str × Addr)}{x:Str}:∀ {ns:List (Str × NameKind)}{acc cl:List (Str × Addr)},ZfF cells ns acc=some cl->((x,NameKind.free)∈ns\/∃ c,(x,c)∈acc)->∃ c,(x,c)∈cl
 | [],acc,cl,h,ha=>by
  cases h
  rcases ha with z | z
  ·cases z
  ·exact z
 | (n,k) :: r,acc,cl,h,ha=>by
  unfold ZfF at h
  split at h
  ·split at h
   ·rename_i c hc
    refine ZeA h ?_
    rcases ha with z | ⟨c',z⟩
    ·rcases Yn.mp z with e | z
     ·cases e; exact .inr ⟨c,Vf⟩
     ·exact .inl z
    ·exact .inr ⟨c',Y7 _ z⟩
   ·cases h
  ·rename_i hk
   refine ZeA h ?_
   rcases ha with z | z
   ·rcases Yn.mp z with e | z
    ·cases e; exact absurd rfl hk
    ·exact .inl z
   ·exact .inr z
def ZcQ{x:Str}{c:Addr}:∀ {l:List (Str × Addr)},(x,c)∈l->∃ c',l.lookup x=some c'
 | [],h=>by cases h
 | (n,d) :: r,h=>by
  rw [List.lookup_cons]
  cases e:x == n with
  | true=>exact⟨d,rfl⟩
  | false =>
   rcases Yn.mp h with z | z
   ·cases z; simp at e
   ·exact ZcQ z
def ZcX{env:Env}{x:Str}{k:NameKind}(h:(relabel sc env).names.lookup x=some k):(x,k)∈sc.names\/(k=.cell/\(x,NameKind.free)∈sc.names):=by
 have m:=Vd h
 unfold relabel at m
 obtain⟨⟨n,k'⟩,hm,e⟩:=Yk.mp m
 dsimp only at e
 split at e
 ·rename_i hc
  cases e
  simp only [Bool.and_eq_true,beq_iff_eq] at hc
  rw [hc.1.1] at hm
  exact .inr ⟨rfl,hm⟩
 ·cases e
  exact .inl hm
theorem Zb8{env:Env}{x:Str}:∀ {ns:List (Str × NameKind)},ns.lookup x=some NameKind.free ->
  (ns.map λ(n,k)=>if (k == NameKind.free && env.scope.kind == .function && env.kindOf n == some .cell) then (n,NameKind.cell) else (n,k)).lookup x=some .cell \/
  (ns.map λ(n,k)=>if (k == NameKind.free && env.scope.kind == .function && env.kindOf n == some .cell) then (n,NameKind.cell) else (n,k)).lookup x=some .free
 | [],h=>by cases h
 | (n,k) :: r,h=>by
  rw [List.lookup_cons] at h
  rw [Yr]
  dsimp only
  cases e:x == n with
  | true =>
   rw [e] at h
   cases h
   split <;> simp [List.lookup_cons,e]
  | false =>
   rw [e] at h
   split
   ·simp only [List.lookup_cons,e]; exact Zb8 h
   ·simp only [List.lookup_cons,e]; exact Zb8 h
def ZiM(ts:List Str)(caps:List Nat)(cs:List Str)(hcl:ZfF X.env.cells sc.names []=some cl:=by rfl)(hcap:caps.map (λi=>X.N[i]?)=cs.map some:=by rfl)(hck:(cs.all λx=>X.env.kindOf x == some .cell || X.env.kindOf x == some .free)=true:=by rfl)
  (hcf:cs.map (λx=>sc.names.lookup x)=cs.map (λ_=>some NameKind.free):=by rfl) (hk:sc.kind=.function:=by rfl) (h:(sc.names.all λx=>x.2 != .cell && (x.2 != .local || sc.names.lookup x.1 == some .local))=true:=by decide +kernel):Blk X ts caps cs sc cl:=by
 have hh:∀ x∈sc.names,x.2 ≠ .cell/\(x.2=.local->sc.names.lookup x.1=some .local):=λx hx=>by
  have q:=List.all_eq_true.mp h x hx
  simp only [Bool.and_eq_true,bne_iff_ne,ne_eq,Bool.or_eq_true,beq_iff_eq] at q
  exact⟨q.1,λz=>q.2.elim (λy=>absurd z y) id⟩
 have len:caps.length=cs.length:=by have:=congrArg List.length hcap; simpa using this
 refine⟨?_,hk,λx hx=>(hh x hx).1,λx hx=>(hh x hx).2,λx c e=>?_,λx e=>?_,len,λk i x e1 e2=>?_,λx hx=>?_⟩
 ·simp only [closureFor]
  rw [ZfU hcl]
  rfl
 ·exact Zem hcl (λp hp=>by cases hp) _ (Vd e)
 ·have m:(x,NameKind.free)∈sc.names:=by
   rcases e with e | e
   ·rcases ZcX e with z | ⟨_,z⟩
    ·exact absurd rfl (hh _ z).1
    ·exact z
   ·rcases ZcX e with z | ⟨z,_⟩
    ·exact z
    ·cases z
  obtain⟨c,hc⟩:=ZeA hcl (.inl m)
  exact ZcQ hc
 ·have h1:=congrArg (·[k]?) hcap
  simp only [List.getElem?_map,e1,e2,Option.map_some,Option.some.injEq] at h1
  have h2:=List.all_eq_true.mp hck x (Yl e2)
  simp only [Bool.or_eq_true,beq_iff_eq] at h2
  exact⟨h1,h2⟩
 ·obtain⟨k,hk'⟩:=Vy hx
  have h1:=congrArg (·[k]?) hcf
  simp only [List.getElem?_map,hk',Option.map_some,Option.some.injEq] at h1
  exact Zb8 h1
structure QTs(X:Cx)(ifs:List Expr)(t:TT):Prop where
 h:PTs X ifs t
def ZhY{tt:TT}(h:QT X c tt):QTs X [c] tt:=⟨ZoX h.h⟩
def Zhz{ifs:List Expr}{tt:TT}(B:Blk X ts caps cs sc cl)(hi:QI X tg it wi)(hg:∀ s H fp,QG (blk X (ts ++ cs) sc cl s H fp) tg g)(ht:∀ s H fp,QTs (blk X (ts ++ cs) sc cl s H fp) ifs tt)(he:∀ s H fp,QE (blk X (ts ++ cs) sc cl s H fp) elt te)(hc:X.calm=true:=by rfl)(hs:∀ x,foldedSetIterable it X.env x=pure x:=by intro _; rfl) :
  QE X (.ListComp elt [⟨tg,it,ifs,0⟩] sc pos) (Zdv ts.length caps wi g tt te):=⟨Zh5 B hi.h (λs H fp=>(hg s H fp).h) (λs H fp=>(ht s H fp).h) (λs H fp=>(he s H fp).h) hc hs⟩
def Zjf{ifs:List Expr}{tt:TT}{x:Str}{px spos:Pos}(i:Nat)(B:Blk X ts caps cs sc cl)(hi:QI X tg it wi)(hg:∀ s H fp,QG (blk X (ts ++ cs) sc cl s H fp) tg g)(ht:∀ s H fp,QTs (blk X (ts ++ cs) sc cl s H fp) ifs tt)(he:∀ s H fp,QE (blk X (ts ++ cs) sc cl s H fp) elt te)(hx:QG X (.Name x px) (JR i))
  (hsw:swapsWith (.ListComp elt [⟨tg,it,ifs,0⟩] sc pos) (some (.Name x px)) spos.line X.env=pure true:=by rfl) (hc:X.calm=true:=by rfl) (hs:∀ x,foldedSetIterable it X.env x=pure x:=by intro _; rfl) :
  QS X (.Assign [.Name x px] (.ListComp elt [⟨tg,it,ifs,0⟩] sc pos) spos) (Zl3 (Zdv ts.length caps wi g tt te) (JR i)):=⟨Zeq i B hi.h (λs H fp=>(hg s H fp).h) (λs H fp=>(ht s H fp).h) (λs H fp=>(he s H fp).h) hx.h hsw hc hs⟩
def Zdx(B:Blk X ts caps cs sc cl)(hi:QI X tg it wi)(hg:∀ s H fp,QG (blk X (ts ++ cs) sc cl s H fp) tg g)(he:∀ s H fp,QE (blk X (ts ++ cs) sc cl s H fp) elt te)(hc:X.calm=true:=by rfl)(hs:∀ x,foldedSetIterable it X.env x=pure x:=by intro _; rfl) :
  QE X (.ListComp elt [⟨tg,it,[],0⟩] sc pos) (JQ ts.length caps wi g te):=⟨Zp4 B hi.h (λs H fp=>(hg s H fp).h) (λs H fp=>(he s H fp).h) hc hs⟩
def ZcG{x:Str}{px spos:Pos}(i:Nat)(B:Blk X ts caps cs sc cl)(hi:QI X tg it wi)(hg:∀ s H fp,QG (blk X (ts ++ cs) sc cl s H fp) tg g)(he:∀ s H fp,QE (blk X (ts ++ cs) sc cl s H fp) elt te)(hx:QG X (.Name x px) (JR i))
  (hsw:swapsWith (.ListComp elt [⟨tg,it,[],0⟩] sc pos) (some (.Name x px)) spos.line X.env=pure true:=by rfl) (hc:X.calm=true:=by rfl) (hs:∀ x,foldedSetIterable it X.env x=pure x:=by intro _; rfl) :
  QS X (.Assign [.Name x px] (.ListComp elt [⟨tg,it,[],0⟩] sc pos) spos) (Zl3 (JQ ts.length caps wi g te) (JR i)):=⟨Zjl i B hi.h (λs H fp=>(hg s H fp).h) (λs H fp=>(he s H fp).h) hx.h hsw hc hs⟩
end
section
variable {X:Cx}{a b c e:Expr}{ta tb tc te:TE}{pos:Pos}{st:Stmt}
theorem ZrR(ha:QE X a ta)(hb:QE X b tb)(hc:QE X c tc)(hm:lastMarks [CmpOp.LtE,CmpOp.Lt] [b,c]=false:=by with_unfolding_all rfl):QE X (.Compare a [.LtE,.Lt] [b,c] pos) (Zix (rI0 λi j=>.bl (decide (i<=j))) (rI0 λi j=>.bl (decide (i < j))) ta tb tc):=⟨Zmb Zsi ZpJ ha.h hb.h hc.h hm⟩
theorem ZqE(ha:QE X a ta)(hb:QE X b tb)(hm:behindInMarks .NotIn b=false:=by with_unfolding_all rfl):QT X (.Compare a [.NotIn] [b] pos) (Zc4 (tOp (rIn X.K true) ta tb)):=⟨Zbd Zdu ha.h hb.h hm⟩
def Zry{x:Str}{i:Int}{tk:Tok}(hg:Gl X x)(hm:X.mg x=some (.int i tk))(hd:(x == ("__debug__":Str))=false:=by decide):QE X (.Name x pos) (tC (.int i)):=⟨Zp5 hg hm ⟨_,rfl⟩ hd⟩
end
def ZqM(K:PySem.W.Frag)(g:TG)(tb:TS)(D:Ends)(σ:St):List V->Hp->Prop:=λvs H1=>∃ a,vs=[.ref a]/\(∃ xs,Jw K H1 a xs)/\∃ W:Nat->Nat->St->Hp->Prop,(∃ m,W 0 m σ H1)/\∀ i m σ H,W i m σ H ->
 ((Ite K a).stop i H/\D.nx σ H)\/((Ite K a).go i H/\∃ N:St->Hp->Prop,(∀ σ' H',N σ' H'->∃ m',m' < m/\W (i + 1) m' σ' H')/\∀ x H',(Ite K a).yld i H x H'->g x σ H' λσ2 H2=>tb { D with nx:=N,ct:=N,bk:=D.nx } σ2 H2)
variable {g:TG}{tb:TS}{D:Ends}{σ:St}
theorem ZgO{ta:TA}:Zl1 (Zpu K ta) g tb D σ H=ta σ H (ZqM K g tb D σ):=rfl
def ZiB{a:Addr}{xs:List V}(Pv:Nat->St->Hp->Prop)(h0:Pv 0 σ H)(hl:∀ i σ H,i<=xs.length->Pv i σ H->Jw K H a xs)
  (hs:∀ i x σ H p H',xs[i]?=some x->Pv i σ H->H p=none->Zk H H'->H' p=some (.tup [.int i,x])->g (.ref p) σ H' λσ2 H2=>tb { D with nx:=Pv (i + 1),ct:=Pv (i + 1),bk:=D.nx } σ2 H2) (hd:∀ σ H,Pv xs.length σ H->D.nx σ H) :
  ZqM K g tb D σ [.ref a] H:=by
 refine⟨a,rfl,⟨xs,hl 0 σ H (Nat.zero_le _) h0⟩,λi m σ H=>m=xs.length - i/\i<=xs.length/\Pv i σ H,⟨xs.length,by simp,Nat.zero_le _,h0⟩,?_⟩
 rintro i m σ H ⟨rfl,hi,p⟩
 have q:=hl i σ H hi p
 by_cases hlt:i < xs.length
 ·refine .inr ⟨⟨xs,xs[i],q,by simp [hlt]⟩,Pv (i + 1),λσ' H' p'=>⟨xs.length - (i + 1),by omega,rfl,hlt,p'⟩,λx H' y=>?_⟩
  obtain⟨b,y,rfl,hn,sm,e,hy⟩:=y
  exact hs i y σ H b H' (hy xs q) p hn sm e
 ·have e:i=xs.length:=by omega
  subst e
  exact .inl ⟨⟨xs,q,Yd _⟩,hd _ _ p⟩
variable {tt:TT}{te:TE}
def Zim{lo:Int}{n nt:Nat}{cp:St}{H1:Hp}{Q:VK}(Pv:Addr->Nat->List V->Hp->Prop)(h0:∀ acc H2,H1 acc=none->Zk H1 H2->H2 acc=some (.lst [])->Pv acc 0 [] H2)
  (hl:∀ acc i ys H,Pv acc i ys H->H acc=some (.lst ys)/\ys.length < 1000000)
  (hs:∀ acc i ys H os,H1 acc=none->i < n->Pv acc i ys H->os.length=nt->g (.int (lo + (i:Nat))) (os ++ cp) H λτ H3=>∃ os',os'.length=nt/\τ=os' ++ cp/\tt τ H3 λb H4=>if b=true then te τ H4 λv H5=>H5 acc=some (.lst ys)/\Pv acc (i + 1) (ys ++ [v]) (upd H5 acc (.lst (ys ++ [v]))) else Pv acc (i + 1) ys H4)
  (hd:∀ acc ys H,H1 acc=none->Pv acc n ys H->Q (.ref acc) H):Zf6 nt cp (Itr lo n) g tt te H1 Q:=by
 intro acc H2 hn sm e
 refine⟨λi m ys H=>m=n - i/\i<=n/\Pv acc i ys H,⟨n,by simp,Nat.zero_le _,h0 acc H2 hn sm e⟩,?_⟩
 rintro i m ys H ⟨rfl,hi,p⟩
 obtain⟨q1,q2⟩:=hl acc i ys H p
 refine⟨q1,?_⟩
 by_cases hlt:i < n
 ·refine .inr ⟨hlt,q2,Pv acc (i + 1),λys' H' p'=>⟨n - (i + 1),by omega,rfl,hlt,p'⟩,λos x H' ol y=>?_⟩
  obtain⟨rfl,rfl⟩:=y
  exact hs acc i ys _ os hn hlt p ol
 ·have e:i=n:=by omega
  subst e
  exact .inl ⟨Yd _,hd _ _ _ hn p⟩
def ZkG{lo:Int}{n nt:Nat}{cp:St}{H1:Hp}{Q:VK}(Pv:Addr->Nat->List V->Hp->Prop)(h0:∀ acc H2,H1 acc=none->Zk H1 H2->H2 acc=some (.lst [])->Pv acc 0 [] H2)
  (hl:∀ acc i ys H,Pv acc i ys H->H acc=some (.lst ys)/\ys.length < 1000000)
  (hs:∀ acc i ys H os,H1 acc=none->i < n->Pv acc i ys H->os.length=nt->g (.int (lo + (i:Nat))) (os ++ cp) H λτ H3=>∃ os',os'.length=nt/\τ=os' ++ cp/\te τ H3 λv H4=>H4 acc=some (.lst ys)/\Pv acc (i + 1) (ys ++ [v]) (upd H4 acc (.lst (ys ++ [v]))))
  (hd:∀ acc ys H,H1 acc=none->Pv acc n ys H->Q (.ref acc) H):Zl4 nt cp (Itr lo n) g te H1 Q:=by
 refine Zim (tt:=Zoi) Pv h0 hl (λacc i ys H os a b c d=>?_) hd
 have h:=hs acc i ys H os a b c d
 have e:(λτ H3=>∃ os',os'.length=nt/\τ=os' ++ cp/\Zoi τ H3 λb H4=>if b=true then te τ H4 λv H5=>H5 acc=some (.lst ys)/\Pv acc (i + 1) (ys ++ [v]) (upd H5 acc (.lst (ys ++ [v]))) else Pv acc (i + 1) ys H4) =
   (λτ H3=>∃ os',os'.length=nt/\τ=os' ++ cp/\te τ H3 λv H4=>H4 acc=some (.lst ys)/\Pv acc (i + 1) (ys ++ [v]) (upd H4 acc (.lst (ys ++ [v])))):=by
  funext τ H3
  simp only [Zoi,if_true]
 rw [e]
 exact h
def Ztn(lo:Int)(n:Nat)(g:TG)(tb:TS)(D:Ends)(σ:St):Hp->Prop:=λH1=>∃ W:Nat->Nat->St->Hp->Prop,(∃ m,W 0 m σ H1)/\∀ i m σ H,W i m σ H ->
 ((Itr lo n).stop i H/\D.nx σ H)\/((Itr lo n).go i H/\∃ N:St->Hp->Prop,(∀ σ' H',N σ' H'->∃ m',m' < m/\W (i + 1) m' σ' H')/\∀ x H',(Itr lo n).yld i H x H'->g x σ H' λσ2 H2=>tb { D with nx:=N,ct:=N,bk:=D.nx } σ2 H2)
theorem ZcI{ta:TA}:Zl1 (ZiV ta) g tb D σ H=ta σ H λvs H1=>∃ j:Int,vs=[.int j]/\-(2 ^ 62)<=j/\j < 2 ^ 62/\Ztn 0 j.toNat g tb D σ H1:=rfl
def Zk0{ta:TA}:Zl1 (Zpl ta) g tb D σ H=ta σ H λvs H1=>∃ i j:Int,vs=[.int i,.int j]/\(-(2 ^ 62)<=i/\i < 2 ^ 62/\-(2 ^ 62)<=j/\j < 2 ^ 62)/\Ztn i (j - i).toNat g tb D σ H1:=rfl
theorem Zee{lo:Int}{n:Nat}(Pv:Nat->St->Hp->Prop)(h0:Pv 0 σ H)(hs:∀ i σ H,i < n->Pv i σ H->g (.int (lo + (i:Nat))) σ H λσ2 H2=>tb { D with nx:=Pv (i + 1),ct:=Pv (i + 1),bk:=D.nx } σ2 H2)
  (hd:∀ σ H,Pv n σ H->D.nx σ H):Ztn lo n g tb D σ H:=by
 refine⟨λi m σ H=>m=n - i/\i<=n/\Pv i σ H,⟨n,by simp,Nat.zero_le _,h0⟩,?_⟩
 rintro i m σ H ⟨rfl,hi,p⟩
 by_cases hlt:i < n
 ·refine .inr ⟨hlt,Pv (i + 1),λσ' H' p'=>⟨n - (i + 1),by omega,rfl,hlt,p'⟩,λx H' y=>?_⟩
  obtain⟨rfl,rfl⟩:=y
  exact hs i σ _ hlt p
 ·have e:i=n:=by omega
  subst e
  exact .inl ⟨Yd _,hd _ _ p⟩
def ZqZ(K:PySem.W.Frag)(g:TG)(tb:TS)(D:Ends)(σ:St):V->Hp->Prop:=λx H1=>∃ a,x=.ref a/\(∃ xs,Jw K H1 a xs)/\∃ W:Nat->Nat->St->Hp->Prop,(∃ m,W 0 m σ H1)/\∀ i m σ H,W i m σ H ->
 ((Itl K a).stop i H/\D.nx σ H)\/((Itl K a).go i H/\∃ N:St->Hp->Prop,(∀ σ' H',N σ' H'->∃ m',m' < m/\W (i + 1) m' σ' H')/\∀ x H',(Itl K a).yld i H x H'->g x σ H' λσ2 H2=>tb { D with nx:=N,ct:=N,bk:=D.nx } σ2 H2)
theorem Zaq:Zl1 (Zc6 K te) g tb D σ H=te σ H (ZqZ K g tb D σ):=rfl
theorem Zaz{a:Addr}{xs:List V}(Pv:Nat->St->Hp->Prop)(h0:Pv 0 σ H)(hl:∀ i σ H,i<=xs.length->Pv i σ H->Jw K H a xs)
  (hs:∀ i x σ H,xs[i]?=some x->Pv i σ H->g x σ H λσ2 H2=>tb { D with nx:=Pv (i + 1),ct:=Pv (i + 1),bk:=D.nx } σ2 H2) (hd:∀ σ H,Pv xs.length σ H->D.nx σ H):ZqZ K g tb D σ (.ref a) H :=
 ⟨a,rfl,⟨xs,hl 0 σ H (YD _) h0⟩,ZiD Pv h0 hl hs hd⟩
def ZtK(K:PySem.W.Frag)(g:TG)(tb:TS)(D:Ends)(σ:St):V->Hp->Prop:=λx H1=>∃ a,x=.ref a/\(∃ xs,SqT K H1 a xs)/\∃ W:Nat->Nat->St->Hp->Prop,(∃ m,W 0 m σ H1)/\∀ i m σ H,W i m σ H ->
 ((Itt K a).stop i H/\D.nx σ H)\/((Itt K a).go i H/\∃ N:St->Hp->Prop,(∀ σ' H',N σ' H'->∃ m',m' < m/\W (i + 1) m' σ' H')/\∀ x H',(Itt K a).yld i H x H'->g x σ H' λσ2 H2=>tb { D with nx:=N,ct:=N,bk:=D.nx } σ2 H2)
theorem ZmE:Zl1 (Zs5 K te) g tb D σ H=te σ H (ZtK K g tb D σ):=rfl
def ZoQ{a:Addr}{xs:List V}(Pv:Nat->St->Hp->Prop)(h0:Pv 0 σ H)(hl:∀ i σ H,i<=xs.length->Pv i σ H->SqT K H a xs)
  (hs:∀ i x σ H,xs[i]?=some x->Pv i σ H->g x σ H λσ2 H2=>tb { D with nx:=Pv (i + 1),ct:=Pv (i + 1),bk:=D.nx } σ2 H2) (hd:∀ σ H,Pv xs.length σ H->D.nx σ H):ZtK K g tb D σ (.ref a) H:=by
 refine⟨a,rfl,⟨xs,hl 0 σ H (Nat.zero_le _) h0⟩,λi m σ H=>m=xs.length - i/\i<=xs.length/\Pv i σ H,⟨xs.length,by simp,Nat.zero_le _,h0⟩,?_⟩
 rintro i m σ H ⟨rfl,hi,p⟩
 have q:=hl i σ H hi p
 by_cases hlt:i < xs.length
 ·refine .inr ⟨⟨xs,xs[i],q,by simp [hlt]⟩,Pv (i + 1),λσ' H' p'=>⟨xs.length - (i + 1),by omega,rfl,hlt,p'⟩,λx H' y=>?_⟩
  obtain⟨rfl,hy⟩:=y
  exact hs i x σ _ (hy xs q) p
 ·have e:i=xs.length:=by omega
  subst e
  exact .inl ⟨⟨xs,q,Yd _⟩,hd _ _ p⟩
structure Mth(P:Program)(w:World)(K:PySem.W.Frag)(mg:Str->Option Value)(base:Heap)(CX:CXT)(k:Nat)(C:Addr)(m:Str)(ps:List Str)(sp:Sp):Prop where
 ex:∃ (f:Addr) (fd:FuncData),FnOk P w K mg base CX k f fd ps sp/\Z7 K fd ps []/\Meth K C m f/\Cls K C
structure Mkr(P:Program)(w:World)(K:PySem.W.Frag)(mg:Str->Option Value)(base:Heap)(CX:CXT)(k:Nat)(C:Addr)(x:Str)(ps:List Str)(sp:Sp):Prop where
 ex:∃ (f:Addr) (fd:FuncData),FnOk P w K mg base CX k f fd ps sp/\Z7 K fd ps []/\Mk K C f/\mg x=some (.ref C)
section
variable {X:Cx}{CX:CXT}{j k:Nat}{C:Addr}{x m fl:Str}{ps:List Str}{sp:Sp}{p pos apos:Pos}{e o value:Expr}{es:List Expr}{t:TA}{ta tv:TE}{E:XK}
theorem Zcs{pl:Sem Bool}(F:Mth X.prog X.w X.K X.mg X.base ZD j C m ps sp)(hr:Room k X.A)(hj:j<=k)(ho:QE X o ta)(ha:QA X (e :: es) t)(hp:(e :: es).all Zu=true:=by rfl)
  (ht:eval (.Call (.Attribute o m apos) (e :: es) [] pos) X.env=(do
   let ov <- eval o X.env
   standAt apos.atName
   let (f,first) <- holding [ov] (getMethod ov m pl)
   callWith pos f first (backTo pos (starEach (e :: es) X.env)) (backToKw pos (keywordEach [] X.env))):=by rfl) :
  QE X (.Call (.Attribute o m apos) (e :: es) [] pos) (Zi9 C m sp [] E0 ta t):=by
 obtain⟨f,fd,G,b,hm,c⟩:=F.ex
 exact⟨Zp2 ho.h c hm G (hr.mono hj) b .nil Zk2 ha.h (Zq (ZaM hp).1) (Zev (ZaM hp).2) ht⟩
def Zkh{pl:Sem Bool}(F:Mth X.prog X.w X.K X.mg X.base ZD j C m ps sp)(hr:Room k X.A)(hj:j<=k)(ho:QE X o ta)
  (ht:eval (.Call (.Attribute o m apos) [] [] pos) X.env=(do
   let ov <- eval o X.env
   standAt apos.atName
   let (f,first) <- holding [ov] (getMethod ov m pl)
   callWith pos f first (backTo pos (starEach [] X.env)) (backToKw pos (keywordEach [] X.env))):=by rfl) :
  QE X (.Call (.Attribute o m apos) [] [] pos) (Zi9 C m sp [] E0 ta Zou):=by
 obtain⟨f,fd,G,b,hm,c⟩:=F.ex
 exact⟨ZmY ho.h c hm G (hr.mono hj) b .nil Zk2 ht⟩
def Zrd(F:Mkr X.prog X.w X.K X.mg X.base ZD j C x ps sp)(hr:Room (k + 1) X.A)(hj:j<=k)(hg:Gl X x)(ha:QA X (e :: es) t)(hp:(e :: es).all Zu=true:=by rfl)(hdb:(x == ("__debug__":Str))=false:=by decide) :
  QE X (.Call (.Name x p) (e :: es) [] pos) (Zmn C sp [] E0 t):=by
 obtain⟨f,fd,G,b,M,hm⟩:=F.ex
 exact⟨Zpo M (G.mono hj) hr hg hm b .nil Zk2 ha.h hdb (Zq (ZaM hp).1) (Zev (ZaM hp).2)⟩
def Zql(ho:QE X e ta)(hb:attributeBase e fl X.env (eval e X.env)=eval e X.env:=by rfl):QE X (.Attribute e fl pos) (Zr6 X.K ta fl):=⟨ZoG ho.h hb⟩
def ZrN{pos':Pos}(ho:QE X o ta)(hv:QE X value tv)(hs:swapsWith value (some (.Attribute o fl pos')) pos.line X.env=pure false:=by rfl):QS X (.Assign [.Attribute o fl pos'] value pos) (Zsv X.K ta tv fl):=⟨Zr9 ho.h hv.h hs⟩
def ZrK(K:PySem.W.Frag)(ho:QE X e ta)(hK:X.K=K:=by rfl)(hb:attributeBase e fl X.env (eval e X.env)=eval e X.env:=by rfl):QE X (.Attribute e fl pos) (Zr6 K ta fl):=by subst hK; exact⟨ZoG ho.h hb⟩
theorem ZkF(K:PySem.W.Frag)(ha:QE X o ta)(hb:QE X e tv)(hK:X.K=K:=by rfl)(hm:behindInMarks .In e=false:=by with_unfolding_all rfl):QT X (.Compare o [.In] [e] pos) (Zc4 (tOp (rIn K false) ta tv)):=by subst hK; exact⟨Zbd Zld ha.h hb.h hm⟩
theorem Zp8(K:PySem.W.Frag)(ha:QE X o ta)(hb:QE X e tv)(hK:X.K=K:=by rfl)(hm:behindInMarks .NotIn e=false:=by with_unfolding_all rfl):QT X (.Compare o [.NotIn] [e] pos) (Zc4 (tOp (rIn K true) ta tv)):=by subst hK; exact⟨Zbd Zdu ha.h hb.h hm⟩
def Zov(C:Addr)(m:Str)(sp:Sp)(ta:TE)(t:TA):TEX:=λσ H Q EX=>ta σ H λx H1=>∃ a dx fs,x=.ref a/\H1 a=some (.ins C dx fs)/\fs.lookup m=none/\t σ H1 λvs H2=>sp (x :: vs) H2 Q EX
end
section
variable {M:Model}{A:Around}{E:VSP}{s:Shared}{B:Heap}{env:Env}{outer:List Env}{L e:Addr}{cls a0:Value}
end
section
variable {X:Cx}{E:XK}{pins:List (Addr × Obj)}{σ:St}{H:Hp}{s:Shared}
variable {ts cs:List Str}{caps:List Nat}{sc:Scope}{cl:List (Str × Addr)}{fp:List Addr}
end
section
variable {X:Cx}{E:XK}{j k:Nat}{x:Str}{ps:List Str}{sp:Sp}{p pos:Pos}{e elt tg it:Expr}{es:List Expr}{t:TA}{ts cs:List Str}{caps:List Nat}{sc:Scope}{cl:List (Str × Addr)}{wi:TI}{g:TG}{te:TE}
end
def ZjX(K:PySem.W.Frag)(D:Addr)(th:Addr->TS)(En:Ends)(σ:St):XK:=λc _ H'=>∃ C,c=.ref C/\exmOne K (.ref C) (.ref D)=some true/\∀ ea,th ea { nx:=En.nx,rt:=En.rt,bk:=En.bk,ct:=En.ct } σ H'
def ZqB(K:PySem.W.Frag)(tb:TSX)(D:Addr)(th:Addr->TS):TS:=λEn σ H=>tb En (ZjX K D th En) σ H
section
variable {X:Cx}{body:List Stmt}{x:Str}{np hpos pos:Pos}{b₀:Stmt}{suite:List Stmt}{tb:TSX}{th:Addr->TS}{D:Addr}
end
def ZoC(C:Addr)(sp:Sp)(t:TA):TEX:=λσ H Q EX=>t σ H λvs H1=>∀ x dx,H1 x=none->H1 dx=none->dx ≠ x->sp (.ref x :: vs) (upd (upd H1 dx (.own x)) x (.ins C dx [])) (λv H2=>v=.non/\Q (.ref x) H2) EX
section
variable {X:Cx}{j k:Nat}{C:Addr}{x:Str}{ps:List Str}{sp:Sp}{p pos:Pos}{e:Expr}{es:List Expr}{t:TA}
end
section
variable {X:Cx}{e:Expr}{te:TE}{p1 p2 p3 pos:Pos}{c1 c2:Str}{k1 k2:Nat}
def tFs(te:TE):TE:=λσ H Q=>te σ H λx H1=>∃ i:Int,x=.int i/\i.natAbs < 2 ^ 30/\∀ z,Q (.str z) H1
end
section
variable {X:Cx}{e:Expr}{t:TA}{p pos:Pos}
end
section
variable {X:Cx}{pins:List (Addr × Obj)}{σ:St}{H:Hp}{s:Shared}
def EqD.neAt(I:Inv X pins σ H s){x y:V}{b:Bool}{n:Nat}(h:EqD H x y b n):∀ {A:Around}{u v:Value},ZF x u->ZF y v->A.units + n < cLine->(∃ a c,x=.ref a/\y=.ref c)->SeqAt.RcNeAt A s u v (!b):=by
 induction h with
 | flat fx fy =>
  rintro A u v r1 r2 _ ⟨a,c,rfl,_⟩
  cases fx
 | up h ih =>
  intro A u v r1 r2 hu w
  exact ih r1 r2 (by omega) w
 | @tup a b xs ys e n ha hb h ih =>
  intro A u v r1 r2 hu _
  cases r1
  cases r2
  obtain⟨its,v1,t1,_⟩:=I.tuple (SqT.of ha)
  obtain⟨jts,v2,t2,_⟩:=I.tuple (SqT.of hb)
  have z:=SeqAt.RcNeAt.tuples (A:=A) (s:=s) (e:=e) t1 t2 (by omega) λj h1 h2=>by
   have k1:j < xs.length:=by rw [v1.length]; simpa using h1
   have k2:j < ys.length:=by rw [v2.length]; simpa using h2
   obtain⟨u1,q1,w1⟩:=v1.get (Yc k1)
   obtain⟨u2,q2,w2⟩:=v2.get (Yc k2)
   have g1:its.toArray[j]=u1:=by
    have:=Yi.mp q1
    obtain⟨hh,this⟩:=this
    simpa using this
   have g2:jts.toArray[j]=u2:=by
    have:=Yi.mp q2
    obtain⟨hh,this⟩:=this
    simpa using this
   rw [g1,g2]
   exact ((h j _ _ (Yc k1) (Yc k2)).at I w1 w2 (by show A.units + 1 + n < cLine; omega)).1
  simpa [v1.length,v2.length] using z
 | @lst a b xs ys e n ha hb hl h ih =>
  intro A u v r1 r2 hu _
  cases r1
  cases r2
  obtain⟨its,v1,t1,_⟩:=I.list (Jw.of ha)
  obtain⟨jts,v2,t2,_⟩:=I.list (Jw.of hb)
  have z:=SeqAt.RcNeAt.lists (A:=A) (s:=s) (e:=e) t1.isList t2.isList (by simp [<- v1.length,<- v2.length,hl]) (by omega) λj h1 h2=>by
   have k1:j < xs.length:=by rw [v1.length]; simpa using h1
   have k2:j < ys.length:=by rw [v2.length]; simpa using h2
   obtain⟨u1,q1,w1⟩:=v1.get (Yc k1)
   obtain⟨u2,q2,w2⟩:=v2.get (Yc k2)
   have g1:its.toArray[j]=u1:=by
    have:=Yi.mp q1
    obtain⟨hh,this⟩:=this
    simpa using this
   have g2:jts.toArray[j]=u2:=by
    have:=Yi.mp q2
    obtain⟨hh,this⟩:=this
    simpa using this
   rw [g1,g2]
   exact ((h j _ _ (Yc k1) (Yc k2)).at I w1 w2 (by show A.units + 1 + n < cLine; omega)).1
  simpa [v1.length,v2.length] using z
 | @lstNe a b xs ys n ha hb hl =>
  intro A u v r1 r2 hu _
  cases r1
  cases r2
  obtain⟨its,v1,t1,_⟩:=I.list (Jw.of ha)
  obtain⟨jts,v2,t2,_⟩:=I.list (Jw.of hb)
  exact SeqAt.RcNeAt.lists_lengths t1.isList t2.isList (by simp [<- v1.length,<- v2.length]; exact hl) (by omega)
end
section
variable {X:Cx}{a b:Expr}{ta tb:TE}{pos:Pos}{k:Nat}
def ZtE:R2:=λx y H Q=>∃ t n p c,x=.ref p/\y=.ref c/\EqD H x y t n/\n<=60/\Q (.bl (!t)) H
def Zqz(hr:Room k X.A):OpR X (compareOp .NotEq) ZtE:=by
 intro pins s σ H x y v u Q I rx ry h
 obtain⟨t,n,p,c,e1,e2,h,hn,q⟩:=h
 have hu:=hr.units
 exact (h.neAt I rx ry (by omega) ⟨p,c,e1,e2⟩) _ _ _ _ ⟨.bl (!t),H,I,rfl,q⟩
def ZrQ(hr:Room k X.A)(ha:QE X a ta)(hb:QE X b tb):QT X (.Compare a [.NotEq] [b] pos) (Zc4 (tOp ZtE ta tb)):=⟨Zbd (Zqz hr) ha.h hb.h (Zbp _)⟩
end
section
variable {X:Cx}{o e:Expr}{es:List Expr}{to:TE}{t:TA}{name:Str}{apos cpos:Pos}{id:String}{r:V->List V->Hp->VK->Prop}
def ZsD(r:V->List V->Hp->VK->Prop)(to:TE):TE:=λσ H Q=>to σ H λx H1=>r x [] H1 Q
def tLm(r:V->List V->Hp->VK->Prop)(to:TE)(t:TA):TE:=λσ H Q=>to σ H λx H1=>∃ l zs,x=.ref l/\H1 l=some (.lst zs)/\t σ H1 λvs H2=>r x vs H2 Q
def ZrS(slot:Slot "list" name id)(hty:typeOf (.builtin id)=pure (.type "method_descriptor"))(hm:MtM X id r)(hr:∀ x H Q,r x [] H Q->∃ l zs,x=.ref l/\H l=some (.lst zs))(ho:PE X o to)
  (hbase:attributeBase o name X.env (eval o X.env)=eval o X.env:=by rfl) (hline:(apos.endLine == cpos.line)=true:=by rfl):PE X (.Call (.Attribute o name apos) [] [] cpos) (ZsD r to):=by
 intro pins s σ H Q I h
 refine wpAny_Call_method0_late hbase hline (ZZ (ho pins s σ H _ I h) λv s1 ⟨x,H1,I1,r1,q1⟩=>?_)
 obtain⟨l,zs,e1,e2⟩:=hr _ _ _ q1
 obtain⟨h1,h2⟩:=Zka (T:="list") I1 r1 (by rw [e1]; exact .inl ⟨rfl,zs,Jw.of e2⟩)
 exact⟨"list",id,PySem.F.plainAttrs_list,slot,hty,h1,h2,V4 rfl (PySem.evalArgs_none (hm pins s1 σ H1 x [] v [] Q I1 r1 .nil q1))⟩
def ZqJ(slot:Slot "list" name id)(hty:typeOf (.builtin id)=pure (.type "method_descriptor"))(hm:MtM X id r)(ho:PE X o to)(ha:PA X (e :: es) t)
  (hbase:attributeBase o name X.env (eval o X.env)=eval o X.env:=by rfl)
  (hfew:((backTo cpos (starEach (e :: es) X.env)).all (λx=>!x.1) && (backToKw cpos (keywordEach [] X.env)).all (λx=>x.1.isSome)
   && decide ((e :: es).length + ([]:List Keyword).length + (if ([]:List Keyword).isEmpty then 0 else 1) < 30))=true:=by rfl)
  (hline:(apos.endLine == cpos.line)=true:=by rfl) (hs:starEach (e :: es) X.env=(false,eval e X.env) :: starEach es X.env:=by rfl) (hplain:(backTo cpos (starEach es X.env)).any (·.1)=false:=by rfl) :
  PE X (.Call (.Attribute o name apos) (e :: es) [] cpos) (tLm r to t):=by
 intro pins s σ H Q I h
 refine wpAny_Call_method_late hbase hfew hline rfl (ZZ (ho pins s σ H _ I h) λv s1 ⟨x,H1,I1,r1,l,zs,e1,e2,q1⟩=>?_)
 obtain⟨h1,h2⟩:=Zka (T:="list") I1 r1 (by rw [e1]; exact .inl ⟨rfl,zs,Jw.of e2⟩)
 refine⟨"list",id,PySem.F.plainAttrs_list,slot,hty,h1,h2,?_⟩
 have hA:=ha cpos pins s1 σ H1 _ I1 q1
 rw [hs] at hA ⊢
 refine V4 (by show (false || (backTo cpos (starEach es X.env)).any (·.1))=false; rw [hplain] <;> rfl) (Calls.evalArgs_plain ?_)
 exact ZZ hA λus s2 ⟨vs,H2,I2,r2,q2⟩=>hm pins s2 σ H2 x vs v us Q I2 r1 r2 q2
def ZrJ(ho:QE X o to)(hbase:attributeBase o "pop" X.env (eval o X.env)=eval o X.env:=by rfl)(hline:(apos.endLine == cpos.line)=true:=by rfl):QE X (.Call (.Attribute o "pop" apos) [] [] cpos) (ZsD ZsG to) :=
 ⟨ZrS PySem.F.slot_list_pop PySem.F.type_list_pop ZrB (λ_ _ _ ⟨l,zs,_,h1,_,h2,_⟩=>⟨l,zs,h1,h2⟩) ho.h hbase hline⟩
def Zso(ho:QE X o to)(ha:QA X [e] t)(hbase:attributeBase o "extend" X.env (eval o X.env)=eval o X.env:=by rfl)(hline:(apos.endLine == cpos.line)=true:=by rfl)(hp:Zu e=true:=by rfl) :
  QE X (.Call (.Attribute o "extend" apos) [e] [] cpos) (tLm Zf1 to t) :=
 ⟨ZqJ PySem.F.slot_list_extend PySem.F.type_list_extend Zk3 ho.h ha.h hbase (by rw [Zq hp]; rfl) hline (Zq hp) rfl⟩
end
def ZmB{P:Program}{w:World}{k:ZU}{u:Value}(h:(ZY P w).is k u=true):ZF (kV k) u:=by
 rcases Zar h with ⟨i,t,rfl,rfl⟩ | ⟨x,t,rfl,rfl⟩ <;> exact⟨t,rfl⟩
section
variable {X:Cx}{pins:List (Addr × Obj)}{σ:St}{H:Hp}{s:Shared}{a:Addr}{kvs:List (ZU × V)}
def Zol(I:Inv X pins σ H s)(e:H a=some (.dK kvs)):∃ o,Inv X pins σ (upd H a (.frz o (.dK kvs))) s:=by
 obtain⟨z,hd,vs,rel,o,es,ep,ho,r⟩:=Zra I.hok e
 refine⟨o,?_⟩
 exact I.write (x:=a) (e:=a) (o:=.frz o (.dK kvs)) (h':=s.heap) (t':=s.toks) (by rw [e]; exact trivial) (.inl rfl) (λb u _ q=>q) ⟨o,ho⟩ ⟨ho,z,hd,vs,rel,o,es,ep,ho,r⟩
def Zt7(i:Nat)(t:TS):TS:=λD σ H=>∃ a kvs,σ[i]?=some (some (.ref a))/\H a=some (.dK kvs)/\∀ o,t D σ (upd H a (.frz o (.dK kvs)))
def Zsk{sts:List Stmt}{t:TS}(i:Nat)(h:QB X sts t):QB X sts (Zt7 i t):=⟨λpins s σ H D I ⟨_,_,_,e,q⟩=>let ⟨o,I'⟩:=Zol I e; h.h pins s σ _ D I' (q o)⟩
end
def Itd(a:Addr)(o:Obj)(kvs:List (ZU × V)):It:=⟨λi H=>H a=some (.frz o (.dK kvs))/\i < kvs.length,λi H x H'=>H'=H/\∃ kv,kvs[i]?=some kv/\x=kV kv.1,λi H=>H a=some (.frz o (.dK kvs))/\kvs.length<=i⟩
def ZoJ{P:Program}{w:World}{h:Heap}{a:Addr}{o:Obj}{kvs:List (ZU × V)}{es}{ep:Nat}(ok:HOk P w H h)(e:H a=some (.frz o (.dK kvs)))(hep:o.data=.dict es ep) :
  (a == sysModules)=false/\kvs.length<=sizeLine/\∃ vs,KV kvs vs/\h.DictAt (ZY P w) a vs ep:=by
 obtain⟨ho,z,hd,vs,rel,o',es',ep',ho',h1,h2,h3⟩:=(show ZW P w H h a (.frz o (.dK kvs)) from ok a _ e)
 rw [ho] at ho'
 cases ho'
 rw [hep] at h2
 cases h2
 exact⟨hd,z,vs,rel,o,es,ho,h1,hep,h3⟩
def ZjY{kvs:List (ZU × V)}{vs:List (ZU × Value)}(r:KV kvs vs){i:Nat}(hi:i < kvs.length):∃ kv v,kvs[i]?=some kv/\vs[i]?=some (kv.1,v):=by
 have hl:i < vs.length:=by rw [<- r.length]; exact hi
 have hk:=congrArg (·[i]?) r.keys
 simp only [List.getElem?_map,List.getElem?_eq_getElem hi,List.getElem?_eq_getElem hl,Option.map_some,Option.some.injEq] at hk
 exact⟨kvs[i],vs[i].2,Yc hi,by rw [Yc hl,hk]⟩
def Zln{P:Program}{w:World}{tg:Expr}(a it:Addr)(o:Obj)(kvs:List (ZU × V)){es}{ep:Nat}(hep:o.data=.dict es ep):Turn P w K tg (Itd a o kvs) [it] it (λi h=>h.IsKeyIter it a i kvs.length ep) where
 mem:=by simp
 obj:=λi h st b hb=>by
  have e:b=it:=by simpa using hb
  subst e
  obtain⟨o,e,c,d⟩:=st
  exact⟨o,e,λv z=>by rw [d] at z; cases z⟩
 keep:=λi h h' st k=>st.at λo e=>k it (by simp) o e
 item:=by
  intro X hP hw hK hc i pins s σ H E I hf st hg
  subst hP hw hK
  obtain⟨e,hi⟩:=hg
  obtain⟨_,_,vs,rel,at_⟩:=ZoJ I.hok e hep
  obtain⟨kv,v,g1,g2⟩:=ZjY rel hi
  obtain⟨f0,f1,f2,f3,f4,f5⟩:=hf it (by simp)
  rw [rel.length] at st
  refine wpAny_pyNext_dict_item st at_ g2 λkey h' hk st' sb=>?_
  have I1:Inv X pins σ H { s with heap:=h' }:=I.turned (t':=s.toks) (λb o hb e=>(sb.2 b hb).trans e) f0 f1 f3 f4 f5
  obtain⟨ob,e',c,d⟩:=id st'
  rw [<- rel.length] at st'
  exact⟨key,rfl,Znb (s:={ s with heap:=h' }) e' c d (by decide) ⟨kV kv.1,H,I1,ZmB hk,⟨rfl,kv,g1,rfl⟩,st',λb hb=>(hf b hb).1⟩⟩
 done:=by
  intro X hP hw hK hc i pins s σ H E I hf st hg
  subst hP hw hK
  obtain⟨e,hi⟩:=hg
  obtain⟨_,_,vs,rel,at_⟩:=ZoJ I.hok e hep
  obtain⟨f0,f1,f2,f3,f4,f5⟩:=hf it (by simp)
  rw [rel.length] at st hi
  exact wpAny_pyNext_dict_end (I.ok.hd hc) st at_ (Y6 hi) λh' eb=>⟨rfl,I.turned (t':=s.toks) (λb o hb e=>eb b o hb e) f0 f1 f3 f4 f5⟩
 self:=λ_ _ _ _ _ st h=>wpAny_pyIter_keyiter st h
def ZhA(tl:TE):TI:=λσ H R=>tl σ H λx H1=>∃ a o kvs,x=.ref a/\H1 a=some (.frz o (.dK kvs))/\R (Itd a o kvs) H1
section
variable {X:Cx}{tg l o i e value:Expr}{tl td ty tv:TE}{t:TA}{pos pos' p:Pos}
def Zqo(hl:PE X l tl):PI X tg l (ZhA tl):=by
 intro pins s σ H R I h
 refine ZZ (hl pins s σ H _ I h) λv s1 ⟨x,H1,I1,r1,q1⟩=>?_
 obtain⟨a,o,kvs,e,hq,q⟩:=q1
 subst e
 cases r1
 obtain⟨ho,z,hd,vs,rel,o',es,ep,ho',h1,h2,h3⟩:=(show ZW X.prog X.w H1 s1.heap a (.frz o (.dK kvs)) from I1.hok a _ hq)
 rw [ho] at ho'
 cases ho'
 refine wpAny_pyIter_dict hd ⟨o,es,ho,h1,h2,h3⟩ ?_
 refine⟨s1.heap.objs.size,[s1.heap.objs.size],_,_,H1,rfl,I1.kept (t':=s1.toks) λb o e=>Yh _ e,Zln a _ o kvs h2,⟨_,Yo _ rfl,rfl,by rw [rel.length]; rfl⟩,λb hb=>?_,q⟩
 have e:b=s1.heap.objs.size:=by simpa using hb
 subst e
 exact I1.fpOk (Yd _) (I1.hok.fresh (Yd _))
def ZdB(hl:QE X l tl):QI X tg l (ZhA tl):=⟨Zqo hl.h⟩
def tDG(td ty:TE):TE:=λσ H Q=>td σ H λx H1=>ty σ H1 λy H2=>∃ a kvs k v,x=.ref a/\Rd H2 a (.dK kvs)/\y=kV k/\JI kvs k=some v/\Q v H2
def Jl(hu:X.A.units + 1 < cLine)(ho:QE X o td)(hi:QE X i ty)(hs:ZtG i:=by intro _ _; rfl):QE X (.Subscript o i pos) (tDG td ty):=⟨by
 intro pins s σ H Q I h
 refine ZoM PySem.F.slot_dict_getitem.lookup hs (ZZ (ho.h pins s σ H _ I h) λu s1 ⟨x,H1,I1,rx,q1⟩=>ZZ (hi.h pins s1 σ H1 _ I1 q1) λiv s2 ⟨y,H2,I2,ry,a,kvs,k,v,ex,g,ey,hv,q2⟩=>?_)
 subst ex
 obtain rfl:u=Value.ref a:=rx
 have g':Znk H2 a y (some v):=.inl ⟨kvs,k,g,ey,hv.symm⟩
 exact⟨Zhk I2 g',Zkf hu I2 g' ry λw' s3 I3 rw'=>⟨v,H2,I3,rw',q2⟩⟩⟩
def sDP(td ty tv:TE):TS:=λD σ H=>tv σ H λv H1=>td σ H1 λx H2=>ty σ H2 λy H3=>∃ a kvs k,x=.ref a/\H3 a=some (.dK kvs)/\y=kV k/\kvs.length < 1000/\D.nx σ (upd H3 a (.dK (Jh kvs k v)))
def ZcN(hu:X.A.units + 1 < cLine)(ho:QE X o td)(hi:QE X i ty)(hv:QE X value tv)(hs:swapsWith value (some (.Subscript o i pos')) pos.line X.env=pure false:=by rfl):QS X (.Assign [.Subscript o i pos'] value pos) (sDP td ty tv):=⟨by
 intro pins s σ H D I h
 refine wpAny_Assign_Subscript (ZZ (hv.h pins s σ H _ I h) λr s1 ⟨v,H1,I1,rv,q1⟩=>ZZ (ho.h pins s1 σ H1 _ I1 q1) λu s2 ⟨x,H2,I2,rx,q2⟩=>ZZ (hi.h pins s2 σ H2 _ I2 q2) λiv s3 ⟨y,H3,I3,ry,a,kvs,k,ex,g,ey,hl,q3⟩=>?_) hs
 subst ex ey
 obtain rfl:u=Value.ref a:=rx
 exact ZkM hu I3 (Zqv.k g (Zgp (Yt hl))) ry rv λs4 I4=>⟨σ,_,I4,q3⟩⟩
def tDI(neg:Bool)(ty td:TE):TE:=λσ H Q=>ty σ H λy H1=>td σ H1 λx H2=>∃ a kvs k,x=.ref a/\Rd H2 a (.dK kvs)/\y=kV k/\Q (.bl (if neg=true then !(JI kvs k).isSome else (JI kvs k).isSome)) H2
theorem Zo7(hu:X.A.units + 1 < cLine)(hi:PE X i ty)(ho:PE X o td):PC X .NotIn i o (tDI true ty td):=by
 intro pins s σ H Q I h
 refine ZZ (hi pins s σ H _ I h) λiv s1 ⟨y,H1,I1,ry,q1⟩=>ZZ (ho pins s1 σ H1 _ I1 q1) λu s2 ⟨x,H2,I2,rx,a,kvs,k,ex,g,ey,q2⟩=>?_
 subst ex
 obtain rfl:u=Value.ref a:=rx
 exact Zp0 hu I2 (.inl ⟨kvs,k,g,ey,rfl⟩) ry λs3 I3=>⟨.bl _,H2,I3,rfl,by simpa using q2⟩
theorem ZoK(hu:X.A.units + 1 < cLine)(hi:QE X i ty)(ho:QE X o td)(hm:behindInMarks .NotIn o=false:=by with_unfolding_all rfl):QT X (.Compare i [.NotIn] [o] pos) (tB (tDI true ty td)):=⟨Zop (Zo7 hu hi.h ho.h) hm⟩
def ZhV:QE X (.Dict [] [] pos) (λ_ H Q=>∀ p H2,H p=none->Zk H H2->H2 p=some (.dK [])->Q (.ref p) H2):=⟨λpins s σ H Q I h=>Zmu pins s σ H Q I λp hp=>h p _ hp (ZO hp _) Zf⟩
def ZiZ:Jn X (.builtin "len") (λxs H Q=>∃ a kvs,xs=[.ref a]/\Rd H a (.dK kvs)/\Q (.int kvs.length) H):=by
 intro pins s σ H xs us Q I r h
 obtain⟨a,kvs,rfl,e,q⟩:=h
 obtain⟨u,rfl,ru⟩:=JE r
 cases ru
 exact Zth I e λt s' I'=>⟨.int kvs.length,H,I',⟨t,rfl⟩,q⟩
def ZrH(hg:Gl X "len")(hm:X.mg "len"=none)(ha:QA X [e] t)(hp:Zu e=true:=by rfl):QE X (.Call (.Name "len" p) [e] [] pos) (tCB (λxs H Q=>∃ a kvs,xs=[.ref a]/\Rd H a (.dK kvs)/\Q (.int kvs.length) H) t) :=
 ⟨Zbo ZiZ hg hm PySem.boot_len ha.h (by decide) (by decide) (Zq hp) rfl⟩
def ZoB:List V->Hp->VK->Prop:=λxs H Q=>∃ a kvs,xs=[.ref a]/\Rd H a (.dK kvs)/\∀ p o H2,H p=none->Zk H H2->H2 p=some (.frz o (.dK kvs))->Q (.ref p) H2
def Zoj:List V->Hp->VK->Prop:=λxs H Q=>∃ a kvs,xs=[.ref a]/\Rd H a (.dK kvs)/\∀ p H2,H p=none->Zk H H2->H2 p=some (.dK kvs)->Q (.ref p) H2
def Zje:Jn X (.type "dict") Zoj:=by
 intro pins s σ H xs us Q I r h
 obtain⟨a,kvs,rfl,e,q⟩:=h
 obtain⟨u,rfl,ru⟩:=JE r
 cases ru
 exact Zh3 I e λp s' hp I'=>⟨.ref p,_,I',rfl,q p _ hp (ZO hp _) Zf⟩
def ZiR:Jn X (.type "dict") ZoB:=by
 intro pins s σ H xs us Q I r h
 obtain⟨a,kvs,rfl,e,q⟩:=h
 obtain⟨u,rfl,ru⟩:=JE r
 cases ru
 refine Zh3 I e λp s' hp I'=>?_
 obtain⟨o,I2⟩:=Zol I' (a:=p) (kvs:=kvs) Zf
 rw [Zp1] at I2
 exact⟨.ref p,_,I2,rfl,q p o _ hp (ZO hp _) Zf⟩
def ZpV(hg:Gl X "dict")(hm:X.mg "dict"=none)(ha:QA X [e] t)(hp:Zu e=true:=by rfl):QE X (.Call (.Name "dict" p) [e] [] pos) (tCB ZoB t):=⟨Zb7 ZiR hg hm (by decide +kernel) ha.h (by decide) (by decide) (Zq hp) rfl⟩
def Zkm(hg:Gl X "dict")(hm:X.mg "dict"=none)(ha:QA X [e] t)(hp:Zu e=true:=by rfl):QE X (.Call (.Name "dict" p) [e] [] pos) (tCB Zoj t):=⟨Zb7 Zje hg hm (by decide +kernel) ha.h (by decide) (by decide) (Zq hp) rfl⟩
def Zn8:List V->Hp->VK->Prop:=λxs H Q=>∃ a kvs,xs=[.ref a]/\Rd H a (.dK kvs)/\∀ l H2,H l=none->Zk H H2->H2 l=some (.lst (kvs.map λkv=>kV kv.1))->Q (.ref l) H2
def Zjv(hc:X.calm=true):Jn X (.type "list") Zn8:=by
 intro pins s σ H xs us Q I r h
 obtain⟨a,kvs,rfl,e,q⟩:=h
 obtain⟨u,rfl,ru⟩:=JE r
 cases ru
 obtain⟨z,hd,vs,rel,dd⟩:=ZcR I.hok e
 obtain⟨ep,at_⟩:=dd.dictAt
 have hf:H s.heap.objs.size=none:=I.hok.fresh (Yd _)
 refine kdl_call (kdl_dict hd) (I.ok.hd hc) at_ (by rw [<- rel.length]; exact z) λh' tk acc' c' kk hl ⟨hs,hacc⟩=>?_
 refine⟨.ref s.heap.objs.size,_,I.laid (o:=.lst (kvs.map λkv=>kV kv.1)) kk (Nat.le_refl _) (show ZW X.prog X.w _ h' _ (.lst (kvs.map λkv=>kV kv.1)) from ⟨by rw [List.length_map]; exact z,acc'.toList,c',Zej ?_ λi x u e1 e2=>?_,by simpa using hl⟩),rfl,q _ _ hf (ZO hf _) Zf⟩
 ·rw [List.length_map,rel.length]; simpa using hs.symm
 ·obtain⟨k,x',g1,g2⟩:=hacc i u (by simpa using e2)
  have hi:i < kvs.length:=by have:=(List.getElem?_eq_some_iff.mp e1).1; simpa using this
  obtain⟨kv,v,g3,g4⟩:=ZjY rel hi
  rw [g1] at g4
  cases g4
  rw [Yg,g3] at e1
  cases e1
  exact ZmB g2
theorem ZfJ(hg:Gl X "list")(hm:X.mg "list"=none)(ha:QA X [e] t)(hp:Zu e=true:=by rfl)(hc:X.calm=true:=by rfl):QE X (.Call (.Name "list" p) [e] [] pos) (tCB Zn8 t):=⟨Zb7 (Zjv hc) hg hm (by decide +kernel) ha.h (by decide) (by decide) (Zq hp) rfl⟩
end
def Zsb(g:TG)(tb:TS)(D:Ends)(σ:St):V->Hp->Prop:=λx H1=>∃ a o kvs,x=.ref a/\H1 a=some (.frz o (.dK kvs))/\∃ W:Nat->Nat->St->Hp->Prop,(∃ m,W 0 m σ H1)/\∀ i m σ H,W i m σ H ->
 ((Itd a o kvs).stop i H/\D.nx σ H)\/((Itd a o kvs).go i H/\∃ N:St->Hp->Prop,(∀ σ' H',N σ' H'->∃ m',m' < m/\W (i + 1) m' σ' H')/\∀ x H',(Itd a o kvs).yld i H x H'->g x σ H' λσ2 H2=>tb { D with nx:=N,ct:=N,bk:=D.nx } σ2 H2)
theorem ZcZ:Zl1 (ZhA te) g tb D σ H=te σ H (Zsb g tb D σ):=rfl
theorem ZdL{a:Addr}{o:Obj}{kvs:List (ZU × V)}(Pv:Nat->St->Hp->Prop)(h0:Pv 0 σ H)(hl:∀ i σ H,i<=kvs.length->Pv i σ H->H a=some (.frz o (.dK kvs)))
  (hs:∀ i kv σ H,kvs[i]?=some kv->Pv i σ H->g (kV kv.1) σ H λσ2 H2=>tb { D with nx:=Pv (i + 1),ct:=Pv (i + 1),bk:=D.nx } σ2 H2) (hd:∀ σ H,Pv kvs.length σ H->D.nx σ H):Zsb g tb D σ (.ref a) H:=by
 refine⟨a,o,kvs,rfl,hl 0 σ H (Nat.zero_le _) h0,λi m σ H=>m=kvs.length - i/\i<=kvs.length/\Pv i σ H,⟨kvs.length,by simp,Nat.zero_le _,h0⟩,?_⟩
 rintro i m σ H ⟨rfl,hi,p⟩
 have q:=hl i σ H hi p
 by_cases hlt:i < kvs.length
 ·refine .inr ⟨⟨q,hlt⟩,Pv (i + 1),λσ' H' p'=>⟨kvs.length - (i + 1),by omega,rfl,hlt,p'⟩,λx H' y=>?_⟩
  obtain⟨rfl,kv,hkv,rfl⟩:=y
  exact hs i kv σ _ hkv p
 ·have e:i=kvs.length:=by omega
  subst e
  exact .inl ⟨⟨q,Yd _⟩,hd _ _ p⟩
def Zgb{a:Addr}{o:Obj}{kvs:List (ZU × V)}{nt:Nat}{cp:St}{H1:Hp}{Q:VK}(Pv:Addr->Nat->List V->Hp->Prop)(h0:∀ acc H2,H1 acc=none->Zk H1 H2->H2 acc=some (.lst [])->Pv acc 0 [] H2)
  (hl:∀ acc i ys H,Pv acc i ys H->H acc=some (.lst ys)/\ys.length < 1000000/\H a=some (.frz o (.dK kvs)))
  (hs:∀ acc i kv ys H os,H1 acc=none->kvs[i]?=some kv->Pv acc i ys H->os.length=nt->g (kV kv.1) (os ++ cp) H λτ H3=>∃ os',os'.length=nt/\τ=os' ++ cp/\tt τ H3 λb H4=>if b=true then te τ H4 λv H5=>H5 acc=some (.lst ys)/\Pv acc (i + 1) (ys ++ [v]) (upd H5 acc (.lst (ys ++ [v]))) else Pv acc (i + 1) ys H4)
  (hd:∀ acc ys H,H1 acc=none->Pv acc kvs.length ys H->Q (.ref acc) H):Zf6 nt cp (Itd a o kvs) g tt te H1 Q:=by
 intro acc H2 hn sm e
 refine⟨λi m ys H=>m=kvs.length - i/\i<=kvs.length/\Pv acc i ys H,⟨kvs.length,by simp,Nat.zero_le _,h0 acc H2 hn sm e⟩,?_⟩
 rintro i m ys H ⟨rfl,hi,p⟩
 obtain⟨q1,q2,q3⟩:=hl acc i ys H p
 refine⟨q1,?_⟩
 by_cases hlt:i < kvs.length
 ·refine .inr ⟨⟨q3,hlt⟩,q2,Pv acc (i + 1),λys' H' p'=>⟨kvs.length - (i + 1),by omega,rfl,hlt,p'⟩,λos x H' ol y=>?_⟩
  obtain⟨rfl,kv,hkv,rfl⟩:=y
  exact hs acc i kv ys _ os hn hkv p ol
 ·have e:i=kvs.length:=by omega
  subst e
  exact .inl ⟨⟨q3,Yd _⟩,hd _ _ _ hn p⟩
def ZcF{a:Addr}{xs:List V}{nt:Nat}{cp:St}{H1:Hp}{Q:VK}(Pv:Addr->Nat->List V->Hp->Prop)(h0:∀ acc H2,H1 acc=none->Zk H1 H2->H2 acc=some (.lst [])->Pv acc 0 [] H2)
  (hl:∀ acc i ys H,H1 acc=none->Pv acc i ys H->H acc=some (.lst ys)/\ys.length < 1000000/\Jw K H a xs)
  (hs:∀ acc i x ys H os,H1 acc=none->xs[i]?=some x->Pv acc i ys H->os.length=nt->g x (os ++ cp) H λτ H3=>∃ os',os'.length=nt/\τ=os' ++ cp/\tt τ H3 λb H4=>if b=true then te τ H4 λv H5=>H5 acc=some (.lst ys)/\Pv acc (i + 1) (ys ++ [v]) (upd H5 acc (.lst (ys ++ [v]))) else Pv acc (i + 1) ys H4)
  (hd:∀ acc ys H,H1 acc=none->Pv acc xs.length ys H->Q (.ref acc) H):Zf6 nt cp (Itl K a) g tt te H1 Q:=by
 intro acc H2 hn sm e
 refine⟨λi m ys H=>m=xs.length - i/\i<=xs.length/\Pv acc i ys H,⟨xs.length,by simp,Nat.zero_le _,h0 acc H2 hn sm e⟩,?_⟩
 rintro i m ys H ⟨rfl,hi,p⟩
 obtain⟨q1,q2,q3⟩:=hl acc i ys H hn p
 refine⟨q1,?_⟩
 by_cases hlt:i < xs.length
 ·refine .inr ⟨⟨xs,xs[i],q3,by simp [hlt]⟩,q2,Pv acc (i + 1),λys' H' p'=>⟨xs.length - (i + 1),by omega,rfl,hlt,p'⟩,λos x H' ol y=>?_⟩
  obtain⟨rfl,hy⟩:=y
  exact hs acc i x ys _ os hn (hy xs q3) p ol
 ·have e:i=xs.length:=by omega
  subst e
  exact .inl ⟨⟨xs,q3,Yd _⟩,hd _ _ _ hn p⟩
def Itz(K:PySem.W.Frag)(a b:Addr):It :=
  ⟨λi H=>∃ xs ys x y,Jw K H a xs/\Jw K H b ys/\xs[i]?=some x/\ys[i]?=some y,λi H x H'=>∃ p u v,x=.ref p/\H p=none/\Zk H H'/\H' p=some (.tup [u,v])/\(∀ xs,Jw K H a xs->xs[i]?=some u)/\∀ ys,Jw K H b ys->ys[i]?=some v,
   λi H=>∃ xs ys,Jw K H a xs/\Jw K H b ys/\(xs.length<=i\/ys.length<=i)⟩
variable {pos:Pos}
def ZmP{P:Program}{w:World}{es:List Expr}{x1}(a b z TI TO i1 i2:Addr)(D:ZipApart z TI TO i1 i2 a b) :
  Turn P w K (.Tuple es x1 pos) (Itz K a b) [z,TI,TO,i1,i2] z (λi h=>IsZip h z TI TO .none/\IsPair h TI (.ref i1) (.ref i2)/\(∃ u v,IsPair h TO u v)/\h.IsListIter i1 a i/\h.IsListIter i2 b i) where
 mem:=by simp
 obj:=λi h st c hc=>by
  obtain⟨hz,hTI,⟨u,v,hTO⟩,⟨o1,e1,c1,d1⟩,o2,e2,c2,d2⟩:=st
  simp only [List.mem_cons,List.not_mem_nil,or_false] at hc
  rcases hc with rfl | rfl | rfl | rfl | rfl
  ·exact⟨_,hz,λv z=>by cases z⟩
  ·exact⟨_,hTI,λv z=>by cases z⟩
  ·exact⟨_,hTO,λv z=>by cases z⟩
  ·exact⟨_,e1,λv z=>by rw [d1] at z; cases z⟩
  ·exact⟨_,e2,λv z=>by rw [d2] at z; cases z⟩
 keep:=λi h h' st k=>by
  obtain⟨hz,hTI,⟨u,v,hTO⟩,h1,h2⟩:=st
  exact⟨k z (by simp) _ hz,k TI (by simp) _ hTI,⟨u,v,k TO (by simp) _ hTO⟩,h1.at λo x=>k i1 (by simp) o x,h2.at λo x=>k i2 (by simp) o x⟩
 item:=by
  intro X hP hw hK hc i pins s σ H E I hf st hg
  subst hP hw hK
  obtain⟨hz,hTI,⟨u0,v0,hTO⟩,h1,h2⟩:=st
  obtain⟨xs,ys,x,y,hqa,hqb,hx,hy⟩:=hg
  obtain⟨its,rv,p,_⟩:=I.list hqa
  obtain⟨its2,rv2,p2,_⟩:=I.list hqb
  obtain⟨u,hu,ru⟩:=rv.get hx
  obtain⟨v,hv,rv'⟩:=rv2.get hy
  have hn:H s.heap.objs.size=none:=I.hok.fresh (Yd _)
  have lt:∀ c∈[z,TI,TO,i1,i2],c < s.heap.objs.size:=λc hc=>by
   obtain⟨o1,e1,_⟩:=h1
   obtain⟨o2,e2,_⟩:=h2
   simp only [List.mem_cons,List.not_mem_nil,or_false] at hc
   rcases hc with rfl | rfl | rfl | rfl | rfl
   ·exact Yf hz
   ·exact Yf hTI
   ·exact Yf hTO
   ·exact Yf e1
   ·exact Yf e2
  refine wpAny_pyNext_zip_item D hz hTI hTO h1 h2 p.isList p2.isList (x:=u) (y:=v) (by simpa using hu) (by simpa using hv) λh' a1 a2 a3 a4 a5 a6 kk=>?_
  refine⟨_,rfl,wpAny_letOwnedTupleGo_zip (s:={ s with heap:=h' }) a1 λh2' hz2 sb=>?_⟩
  have sb2:∀ c,c ≠ z->h2'.get? c=h'.get? c:=sb.2
  have nz:s.heap.objs.size ≠ z:=Nat.ne_of_gt (lt z (by simp))
  have kt:h2'.get? s.heap.objs.size=some { cls:=.type "tuple",data:=.seq #[u,v] }:=(sb2 _ nz).trans a5
  have I1:Inv X pins σ (upd H s.heap.objs.size (.tup [x,y])) { s with heap:=h2',toks:=s.toks }:=by
   refine ZeL (ch:=[z,TI,TO,i1,i2]) I (λc o hb q=>?_) hf ?_
   ·simp only [List.mem_cons,List.not_mem_nil,or_false,not_or] at hb
    rw [sb2 c hb.1]
    exact kk c o hb.1 hb.2.2.1 hb.2.2.2.1 hb.2.2.2.2 q
   ·exact⟨by show 2<=sizeLine; decide,[u,v],.cons ru (.cons rv' .nil),⟨_,kt,rfl,_,rfl⟩⟩
  refine⟨.ref s.heap.objs.size,_,I1,rfl,⟨_,x,y,rfl,hn,ZO hn _,Zf,λzs hz=>by rw [I.list_inj hz hqa]; exact hx,λzs hz=>by rw [I.list_inj hz hqb]; exact hy⟩,⟨hz2,(sb2 _ D.TIz).trans (kk _ _ D.TIz D.TITO D.TIi1 D.TIi2 hTI),⟨u,v,(sb2 _ D.TOz).trans a2⟩,?_,?_⟩,λc hc=>?_⟩
  ·obtain⟨o,q,r⟩:=a3
   exact⟨o,(sb2 _ D.i1z).trans q,r⟩
  ·obtain⟨o,q,r⟩:=a4
   exact⟨o,(sb2 _ D.i2z).trans q,r⟩
  ·rw [Zg (Ym (lt c hc))]
   exact (hf c hc).1
 done:=by
  intro X hP hw hK hc i pins s σ H E I hf st hg
  subst hP hw hK
  obtain⟨hz,hTI,⟨u0,v0,hTO⟩,h1,h2⟩:=st
  obtain⟨xs,ys,hqa,hqb,he⟩:=hg
  obtain⟨its,rv,p,_⟩:=I.list hqa
  obtain⟨its2,rv2,p2,_⟩:=I.list hqb
  have l1:=rv.length
  have l2:=rv2.length
  refine wpAny_pyNext_zip_end (I.ok.hd hc) D hz hTI hTO h1 h2 p.isList p2.isList (he.imp (λz=>by simp; omega) λz=>by simp; omega) λh' eb=>⟨rfl,ZkK (t':=s.toks) (ch:=[z,TI,TO,i1,i2]) I (λc o hb q=>?_) hf⟩
  simp only [List.mem_cons,List.not_mem_nil,or_false,not_or] at hb
  exact eb c o hb.1 hb.2.2.1 hb.2.2.2.1 hb.2.2.2.2 q
 self:=λ_ _ _ _ _ st h=>wpAny_pyIter_zip st.1 h
def ZkL(n a b:Nat)(ha:a < n)(hb:b < n):ZipApart (n + 4) (n + 2) (n + 3) n (n + 1) a b:=by
 constructor <;> (intro z; have z':=Vu z; have z'':=Vu z.symm; omega)
def ZsS(K:PySem.W.Frag)(ta:TA):TI:=λσ H R=>ta σ H λvs H1=>∃ a b,vs=[.ref a,.ref b]/\(∃ xs,Jw K H1 a xs)/\(∃ ys,Jw K H1 b ys)/\R (Itz K a b) H1
def Zn3:bootBuiltins "zip"=some (.type "zip"):=by decide +kernel
section
variable {X:Cx}{l m:Expr}{ta:TA}{p pos pos':Pos}{es:List Expr}
def Zrx{x1}(hg:Gl X "zip")(hm:X.mg "zip"=none)(ha:PA X [l,m] ta)(hs:starEach [l,m] X.env=[(false,eval l X.env),(false,eval m X.env)]:=by rfl)(hs2:starEach [m] X.env=[(false,eval m X.env)]:=by rfl):PI X (.Tuple es x1 pos') (.Call (.Name "zip" p) [l,m] [] pos) (ZsS X.K ta):=by
 intro pins s σ H R I h
 refine Call_ (Zbq I hg hm Zn3 (Vb (ZZ (ha pos pins s σ H _ I h) λus s1 ⟨vs,H1,I1,r1,q1⟩=>?_) (by rw [hs,hs2]) (by rw [hs2]; rfl)))
 obtain⟨a,b,e,⟨xs,hqa⟩,⟨ys,hqb⟩,q⟩:=q1
 subst e
 obtain⟨u,v,rfl,ru,rv⟩:=ZlU r1
 cases ru
 cases rv
 obtain⟨its,_,pl,_⟩:=I1.list hqa
 obtain⟨its2,_,pl2,_⟩:=I1.list hqb
 have la:a < s1.heap.objs.size:=by obtain⟨o,n,e,_⟩:=pl; exact Yf e
 have lb:b < s1.heap.objs.size:=by obtain⟨o,n,e,_⟩:=pl2; exact Yf e
 refine call_zip_2 pl.isList pl2.isList λh' hz hTI hTO g1 g2 hsz kk=>?_
 have I2:Inv X pins σ H1 { s1 with heap:=h' }:=I1.kept (t':=s1.toks) kk
 have D:=ZkL _ _ _ la lb
 refine wpAny_pyIter_zip (s:={ s1 with heap:=h' }) hz ⟨_,[s1.heap.objs.size + 4,s1.heap.objs.size + 2,s1.heap.objs.size + 3,s1.heap.objs.size,s1.heap.objs.size + 1],_,_,H1,rfl,I2,ZmP a b _ _ _ _ _ D,⟨hz,hTI,⟨_,_,hTO⟩,g1,g2⟩,λc hc=>?_,q⟩
 have hb':s1.heap.objs.size<=c:=by
  simp only [List.mem_cons,List.not_mem_nil,or_false] at hc
  rcases hc with rfl | rfl | rfl | rfl | rfl
  ·exact V8 _ _
  ·exact V8 _ _
  ·exact V8 _ _
  ·exact Yd _
  ·exact V8 _ _
 exact I1.fpOk hb' (I1.hok.fresh hb')
def Zrn{x1}(hg:Gl X "zip")(hm:X.mg "zip"=none)(ha:QA X [l,m] ta)(hp:Zu l=true:=by rfl)(hq:Zu m=true:=by rfl):QI X (.Tuple es x1 pos') (.Call (.Name "zip" p) [l,m] [] pos) (ZsS X.K ta) :=
 ⟨Zrx hg hm ha.h (by rw [Zq hp,Zq hq]; rfl) (Zq hq)⟩
end
def ZtH(K:PySem.W.Frag)(g:TG)(tb:TS)(D:Ends)(σ:St):List V->Hp->Prop:=λvs H1=>∃ a b,vs=[.ref a,.ref b]/\(∃ xs,Jw K H1 a xs)/\(∃ ys,Jw K H1 b ys)/\∃ W:Nat->Nat->St->Hp->Prop,(∃ m,W 0 m σ H1)/\∀ i m σ H,W i m σ H ->
 ((Itz K a b).stop i H/\D.nx σ H)\/((Itz K a b).go i H/\∃ N:St->Hp->Prop,(∀ σ' H',N σ' H'->∃ m',m' < m/\W (i + 1) m' σ' H')/\∀ x H',(Itz K a b).yld i H x H'->g x σ H' λσ2 H2=>tb { D with nx:=N,ct:=N,bk:=D.nx } σ2 H2)
theorem ZhS{ta:TA}:Zl1 (ZsS K ta) g tb D σ H=ta σ H (ZtH K g tb D σ):=rfl
theorem ZjL{a b:Addr}{xs ys:List V}(hxy:xs.length=ys.length)(Pv:Nat->St->Hp->Prop)(h0:Pv 0 σ H)(hl:∀ i σ H,i<=xs.length->Pv i σ H->Jw K H a xs/\Jw K H b ys)
  (hs:∀ i x y σ H p H',xs[i]?=some x->ys[i]?=some y->Pv i σ H->H p=none->Zk H H'->H' p=some (.tup [x,y])->g (.ref p) σ H' λσ2 H2=>tb { D with nx:=Pv (i + 1),ct:=Pv (i + 1),bk:=D.nx } σ2 H2) (hd:∀ σ H,Pv xs.length σ H->D.nx σ H) :
  ZtH K g tb D σ [.ref a,.ref b] H:=by
 refine⟨a,b,rfl,⟨xs,(hl 0 σ H (Nat.zero_le _) h0).1⟩,⟨ys,(hl 0 σ H (Nat.zero_le _) h0).2⟩,λi m σ H=>m=xs.length - i/\i<=xs.length/\Pv i σ H,⟨xs.length,by simp,Nat.zero_le _,h0⟩,?_⟩
 rintro i m σ H ⟨rfl,hi,p⟩
 obtain⟨qa,qb⟩:=hl i σ H hi p
 by_cases hlt:i < xs.length
 ·have hlt2:i < ys.length:=by omega
  refine .inr ⟨⟨xs,ys,xs[i],ys[i],qa,qb,by simp [hlt],by simp [hlt2]⟩,Pv (i + 1),λσ' H' p'=>⟨xs.length - (i + 1),by omega,rfl,hlt,p'⟩,λx H' y=>?_⟩
  obtain⟨c,u,v,rfl,hn,sm,e,hu,hv⟩:=y
  exact hs i u v σ H c H' (hu xs qa) (hv ys qb) p hn sm e
 ·have e:i=xs.length:=by omega
  subst e
  exact .inl ⟨⟨xs,ys,qa,qb,.inl (Yd _)⟩,hd _ _ p⟩
end My
namespace My
open PySem PySem.Spec
open PyProof.Rows hiding St
def Zl0(l:List Nat):Prop:=l.Pairwise (· < ·)
theorem Zl0.at{l:List Nat}(h:Zl0 l){i j:Nat}{x y:Nat}(hi:l[i]?=some x)(hj:l[j]?=some y)(hij:i < j):x < y:=by
 obtain⟨hi1,rfl⟩:=Yi.mp hi
 obtain⟨hj1,rfl⟩:=Yi.mp hj
 exact List.pairwise_iff_getElem.mp h i j hi1 hj1 hij
def ZmV(xs:Array Nat)(j:Nat)(h:Zl0 xs.toList):∀ (f lo hi:Nat),hi - lo<=f->lo<=hi->hi<=xs.size->(∀ i x,i < lo->xs[i]?=some x->x < j)->(∀ i x,hi<=i->xs[i]?=some x->j<=x) ->
  SetTable.below.go xs j f lo hi<=xs.size/\(∀ i x,i < SetTable.below.go xs j f lo hi->xs[i]?=some x->x < j)/\∀ i x,SetTable.below.go xs j f lo hi<=i->xs[i]?=some x->j<=x:=by
 intro f
 induction f with
 | zero =>
  intro lo hi h1 h2 h3 h4 h5
  have:lo=hi:=by omega
  subst this
  unfold SetTable.below.go
  exact⟨h3,h4,h5⟩
 | succ f ih =>
  intro lo hi h1 h2 h3 h4 h5
  unfold SetTable.below.go
  by_cases c:lo < hi
  ·rw [if_pos c]
   have hm:(lo + hi) / 2 < xs.size:=by omega
   have e:xs[(lo + hi) / 2]?=some xs[(lo + hi) / 2]:=Vc hm
   have e':xs.toList[(lo + hi) / 2]?=some xs[(lo + hi) / 2]:=by rw [YJ]; exact e
   dsimp only
   rw [VL,e,Option.getD_some]
   by_cases c2:xs[(lo + hi) / 2] < j
   ·rw [if_pos c2]
    refine ih _ _ (by omega) (by omega) h3 (λi x hi1 hx=>?_) h5
    by_cases c3:i=(lo + hi) / 2
    ·subst c3; rw [e] at hx; cases hx; exact c2
    ·have:=h.at (by rw [YJ]; exact hx) e' (show i < (lo + hi) / 2 by omega)
     omega
   ·rw [if_neg c2]
    refine ih _ _ (by omega) (by omega) (by omega) h4 λi x hi1 hx=>?_
    by_cases c3:i=(lo + hi) / 2
    ·subst c3; rw [e] at hx; cases hx; omega
    ·have:=h.at e' (by rw [YJ]; exact hx) (show (lo + hi) / 2 < i by omega)
     omega
  ·rw [if_neg c]
   have:lo=hi:=by omega
   subst this
   exact⟨h3,h4,h5⟩
def Ze6(xs:Array Nat)(j:Nat)(h:Zl0 xs.toList):SetTable.below xs j<=xs.size/\(∀ i x,i < SetTable.below xs j->xs[i]?=some x->x < j)/\∀ i x,SetTable.below xs j<=i->xs[i]?=some x->j<=x :=
 ZmV xs j h xs.size 0 xs.size (by omega) (YD _) (Yd _) (λi x hi=>absurd hi (V9 _)) λi x hi hx=>by
  rw [Array.getElem?_eq_none hi] at hx; cases hx
def Zm6{xs:Array Nat}{j:Nat}(h:Zl0 xs.toList)(hj:¬ xs[SetTable.below xs j]?=some j):Zl0 (SetTable.insertAt xs (SetTable.below xs j) j).toList:=by
 obtain⟨h1,h2,h3⟩:=Ze6 xs j h
 rw [SetTable.toList_insertAt]
 generalize hp:SetTable.below xs j=p at *
 have hd:∀ y∈xs.toList.drop p,j < y:=λy hy=>by
  obtain⟨i,hi⟩:=Vy hy
  rw [List.getElem?_drop,YJ] at hi
  have h4:=h3 _ _ (V8 p i) hi
  by_cases c:y=j
  ·subst c
   by_cases ci:i=0
   ·subst ci; exact absurd hi hj
   ·have hps:p < xs.size:=by
     have:=(Array.getElem?_eq_some_iff.mp hi).1
     omega
    have e:=Vc hps
    have h5:=h3 _ _ (Yd p) e
    have h6:=h.at (by rw [YJ]; exact e) (by rw [YJ]; exact hi) (show p < p + i by omega)
    omega
  ·omega
 have ht:∀ y∈xs.toList.take p,y < j:=λy hy=>by
  obtain⟨i,hi⟩:=Vy hy
  have hip:i < p:=by have:=(Yi.mp hi).1; rw [YE] at this; omega
  rw [List.getElem?_take,if_pos hip,YJ] at hi
  exact h2 _ _ hip hi
 refine List.pairwise_append.mpr ⟨h.sublist (Vp _ _),List.pairwise_cons.mpr ⟨hd,h.sublist (List.drop_sublist _ _)⟩,λa ha b hb=>?_⟩
 rcases Yn.mp hb with rfl | hb
 ·exact ht a ha
 ·exact Nat.lt_trans (ht a ha) (hd b hb)
def TOk(b:Bool)(t:SetTable):Prop:=Zl0 t.place.toList/\t.dummies=#[]/\t.led=b
def Zi8(n:Nat):Zl0 (Array.range n).toList:=by
 rw [Array.toList_range]
 exact List.pairwise_lt_range
variable {t:SetTable}
def TOk.standIn{b:Bool}(h:TOk b t)(n:Nat):TOk b (t.standIn n):=⟨Zi8 n,rfl,h.2.2⟩
theorem TOk.orStandIn{b:Bool}(h:TOk b t)(n:Nat):TOk b (t.orStandIn n):=by
 unfold SetTable.orStandIn
 split
 ·exact h
 ·exact h.standIn n
def ZpZ(j:Nat):SetTable.has #[] j=false:=rfl
def Zjz(h:t.dummies=#[])(j:Nat):(t.slot j=.empty/\¬ t.place[SetTable.below t.place j]?=some j)\/∃ i,t.slot j=.live i:=by
 unfold SetTable.slot
 dsimp only
 by_cases c:(t.place[SetTable.below t.place j]? == some j)=true
 ·rw [if_pos c]
  exact .inr ⟨_,rfl⟩
 ·rw [if_neg c,h,ZpZ]
  exact .inl ⟨rfl,λz=>c (by rw [z]; exact beq_self_eq_true _)⟩
def ZnB(h:t.dummies=#[])(ha:Nat->Int)(x:Int):∀ (f:Nat) (p:SetTable.Probe) (j:Nat) (d:Option Nat),p.dummy=none->SetTable.probe.go t ha x f p=some (.empty j d)->d=none/\¬ t.place[SetTable.below t.place j]?=some j:=by
 intro f
 induction f with
 | zero=>intro p j d _ e; unfold SetTable.probe.go at e; cases e
 | succ f ih =>
  intro p j d hp e
  unfold SetTable.probe.go at e
  have adv:(t.advance p).dummy=none:=by
   unfold SetTable.advance
   split
   ·exact hp
   ·exact hp
  rcases Zjz h p.j with ⟨c,c2⟩ | ⟨i,c⟩
  ·rw [c] at e
   cases e
   exact⟨hp,c2⟩
  ·rw [c] at e
   dsimp only at e
   split at e
   ·cases e
   ·exact ih _ _ _ adv e
def Zg7(h:t.dummies=#[]){x:Int}{j:Nat}{b:Bool}(e:t.freeSlot x=some (j,b)):b=false/\¬ t.place[SetTable.below t.place j]?=some j:=by
 unfold SetTable.freeSlot at e
 split at e
 ·rename_i j' d q
  obtain⟨rfl,h2⟩:=ZnB h _ _ _ _ _ _ rfl q
  cases e
  exact⟨rfl,h2⟩
 ·cases e
def TOk.lay{b:Bool}(h:TOk b t)(es:Array (Int × Value))(x:Int)(v:Value):TOk b (layNew t es x v).2.1:=by
 unfold layNew
 split
 ·rename_i j d q
  have h2:=(Zg7 h.2.1 q).2
  dsimp only
  have k:TOk b (t.put j).1:=⟨Zm6 h.1 h2,by show (if SetTable.has t.dummies j then _ else t.dummies)=#[]; rw [h.2.1]; rfl,h.2.2⟩
  exact k.orStandIn _
 ·exact h.standIn _
def TOk.relay{b:Bool}(h:TOk b t)(es:Array (Int × Value))(n:Nat):TOk b (relayAll t es n).2.1:=by
 unfold relayAll
 split
 ·rename_i t' order q
  dsimp only
  split
  ·unfold SetTable.relaid SetTable.laid at q
   cases ho:SetTable.layClean (SetTable.sizeAbove n - 1) (es.map (·.1)) with
   | none=>rw [ho] at q; cases q
   | some owner =>
    rw [ho] at q
    simp only [Option.bind_eq_bind,Option.bind_some,Option.pure_def,Option.some.injEq,Prod.mk.injEq] at q
    obtain⟨rfl,_⟩:=q
    refine⟨?_,rfl,h.2.2⟩
    show Zl0 (List.map (λq:Nat × Nat=>q.1) _).toArray.toList
    have key:∀ (g:Nat->Option Nat) (l:List Nat),l.Pairwise (· < ·)->((l.filterMap λj=>(g j).map (j,·)).map (·.1)).Sublist l:=by
     intro g l _
     induction l with
     | nil=>exact .slnil
     | cons a l ih =>
      rename_i hp
      rw [YaE]
      cases g a with
      | none=>exact (ih (List.pairwise_cons.mp hp).2).cons a
      | some y=>exact (ih (List.pairwise_cons.mp hp).2).cons₂ a
    exact List.pairwise_lt_range.sublist (key (λj=>owner.getD j none) _ List.pairwise_lt_range)
  ·exact h.standIn _
 ·exact h.standIn _
section
variable {prog:Program}{w:World}{A:Around}{E:VSP}{s:Shared}
def byT(w:World):Bool:=w.params.followText "set-order"
def JT(e:Int × Value):Int:=match e.2 with
 | .int k _=>k
 | _=>0
def Zh0(prog:Program)(w:World)(es:List (Int × Value)):Prop:=∀ e∈es,∃ (k:Int) (t:Tok),e.2=.int k t/\e.1=(intKind prog w).hash k
def Zh0.elems{es:List (Int × Value)}(h:Zh0 prog w es):ElemsOf (intKind prog w) es:=λe he=>by
 obtain⟨k,t,h1,h2⟩:=h e he
 rw [h1]
 exact⟨⟨k,intKind_is _ _ _ _,h2⟩,rfl⟩
def Zh0.perm{es es':List (Int × Value)}(h:Zh0 prog w es)(p:es'.Perm es):Zh0 prog w es':=λe he=>h e (p.mem_iff.mp he)
def Zh0.is{es:List (Int × Value)}(h:Zh0 prog w es){e:Int × Value}(he:e∈es)(k:Int):(intKind prog w).is k e.2=true ↔ k=JT e:=by
 obtain⟨k',t,h1,h2⟩:=h e he
 have h3:JT e=k':=by unfold JT; rw [h1]
 rw [h1,KeyKind.is_eq_decide (intKind_is _ _ k' t) k,Y3,h3]
def Jz(prog:Program)(w:World)(h:Heap)(a:Addr)(S:Int->Prop)(n:Nat):Prop :=
 ∃ o es ep t,h.get? a=some o/\o.ExactSet/\o.data=.set es ep t/\TOk (!byT w) t/\t.fits es.size=true/\Zh0 prog w es.toList/\(es.toList.map JT).Nodup/\(∀ k,k∈es.toList.map JT ↔ S k)/\es.size<=n
theorem Jz.keep{h h':Heap}{a:Addr}{S:Int->Prop}{n:Nat}(x:Jz prog w h a S n)(hk:∀ o,h.get? a=some o->h'.get? a=some o):Jz prog w h' a S n :=
 let ⟨o,es,ep,t,ho,r⟩:=x; ⟨o,es,ep,t,hk o ho,r⟩
theorem Jz.lt{h:Heap}{a:Addr}{S:Int->Prop}{n:Nat}(x:Jz prog w h a S n):a < h.objs.size:=let ⟨_,_,_,_,ho,_⟩:=x; Yf ho
def Jz.store{h:Heap}{a:Addr}{o:Obj}{es:Array (Int × Value)}{ep:Nat}{es':Array (Int × Value)}{t':SetTable}{S:Int->Prop}{n:Nat}(ho:h.get? a=some o)(hex:o.ExactSet)(hd:o.data=.set es ep t)
  (h1:TOk (!byT w) t') (h2:t'.fits es'.size=true) (h3:Zh0 prog w es'.toList) (h4:(es'.toList.map JT).Nodup) (h5:∀ k,k∈es'.toList.map JT ↔ S k) (h6:es'.size<=n) :
  (h.update a (Obj.putSet es' t')).get? a=some { o with data:=.set es' (ep + 1) t' }/\Jz prog w (h.update a (Obj.putSet es' t')) a S n:=by
 have hg:(h.update a (Obj.putSet es' t')).get? a=some { o with data:=.set es' (ep + 1) t' }:=by
  have:=Yar (Obj.putSet es' t') ho (by rw [putSet_of es' t' hd]; rfl)
  rw [putSet_of es' t' hd] at this; exact this
 exact⟨hg,_,es',ep + 1,t',hg,hex,rfl,h1,h2,h3,h4,h5,h6⟩
def Zkx{es:List (Int × Value)}(h:Zh0 prog w es){k:Int}(e:es.findIdx? (λe=>(intKind prog w).is k e.2)=none):k ∉ es.map JT:=λhm=>by
 obtain⟨x,hx,rfl⟩:=Yk.mp hm
 have:=List.findIdx?_eq_none_iff.mp e x hx
 rw [(h.is hx _).mpr rfl] at this
 cases this
def Zlo{es:List (Int × Value)}(h:Zh0 prog w es){k:Int}{j:Nat}(e:es.findIdx? (λe=>(intKind prog w).is k e.2)=some j):k∈es.map JT:=by
 obtain⟨hj,hp,_⟩:=List.findIdx?_eq_some_iff_getElem.mp e
 exact Yk.mpr ⟨_,YG hj,((h.is (YG hj) k).mp hp).symm⟩
def Zkz{g:Bool->Sem Unit}(hg:∀ (b:Bool) (s₁:Shared) (Q':Unit->Shared->Prop),Q' () s₁->wpAny (model prog w) A (g b) Q' E s₁){a:Addr}{o:Obj}{es:Array (Int × Value)}{ep:Nat}{t:SetTable}(ho:s.heap.get? a=some o)(hex:o.ExactSet)
  (hd:o.data=.set es ep t) {es1:Array (Int × Value)}{t2:SetTable}{S:Int->Prop}{n:Nat}(h1:TOk (!byT w) t2) (h2:t2.fits es1.size=true) (h3:Zh0 prog w es1.toList) (h4:(es1.toList.map JT).Nodup) (h5:∀ k,k∈es1.toList.map JT ↔ S k)
  (h6:es1.size<=n) (hn:n < scanBound) {c:Bool}{R:Option Bool->Shared->Prop}(h:∀ h',Heap.SameBut a s.heap h'->Jz prog w h' a S n->R (some true) { s with heap:=h' }) :
  wpAny (model prog w) A (do
    storeSet a es1 t2
    if c=true then do
      g (relayAll t2 es1 (SetTable.grown es1.size)).2.2
      storeSet a (relayAll t2 es1 (SetTable.grown es1.size)).1 (relayAll t2 es1 (SetTable.grown es1.size)).2.1
      pure (some true)
     else pure (some true)) R E s:=by
 have hs1:es1.size<=sizeLine:=fits_of_scanBound (YA h6 hn)
 refine Ya (wpAny_storeSet_of ho hd ?_ hs1)
 obtain⟨ho1,hS1⟩:=Jz.store (prog:=prog) (w:=w) ho hex hd h1 h2 h3 h4 h5 h6
 have sb1:=Yaw s.heap a (Obj.putSet es1 t2)
 cases c with
 | false =>
  rw [if_neg (by decide)]
  exact Yb (h _ sb1 hS1)
 | true =>
  rw [if_pos rfl]
  have hp:=relayAll_perm t2 es1 (SetTable.grown es1.size)
  have hf:=relayAll_fits t2 es1 (SetTable.grown es1.size)
  have ht:=h1.relay es1 (SetTable.grown es1.size)
  generalize relayAll t2 es1 (SetTable.grown es1.size)=Rl at hp hf ht ⊢
  obtain⟨es2,t3,gave⟩:=Rl
  dsimp only at hp hf ht ⊢
  have hz:es2.size=es1.size:=by rw [<- YK,hp.length_eq,YK]
  refine Ya (hg _ _ _ (Ya (wpAny_storeSet_of ho1 rfl ?_ (by rw [hz]; exact hs1))))
  have kp:=hp.map JT
  obtain⟨_,hS2⟩:=Jz.store (prog:=prog) (w:=w) (S:=S) (n:=n) ho1 hex rfl ht hf (h3.perm hp) (kp.nodup_iff.mpr h4) (λk=>(kp.mem_iff).trans (h5 k)) (by rw [hz]; exact h6)
  exact Yb (h _ (sb1.trans (Yaw _ a _)) hS2)
def ZlQ{a:Addr}{S:Int->Prop}{n:Nat}{k:Int}{tk:Tok}{Q:Bool->Shared->Prop}(hS:Jz prog w s.heap a S n)(hn:n + 1 < scanBound)(h:∀ h' r,Heap.SameBut a s.heap h'->Jz prog w h' a (λk'=>S k'\/k'=k) (n + 1)->Q r { s with heap:=h' }) :
  wpAny (model prog w) A (setAddHashed a (.int k tk) ((intKind prog w).hash k)) Q E s:=by
 obtain⟨o,es,ep,t,ho,hex,hd,hT,hf,hA,hN,hM,hz⟩:=hS
 have hb:es.size < scanBound:=by omega
 unfold setAddHashed setAddHashedIn
 refine YM (Ya (Vq ho hd hf ?_))
 dsimp only
 rw [byScan_of (x:=.int k tk) rfl hb hA.elems]
 simp only [↓reduceIte]
 unfold setAddByScan
 refine Ya (Ya (Vw (Ya (wpAny_setScan_of (intKind_is _ _ k tk) ho hd hf hA.elems ?_))))
 cases hr:List.findIdx? (λe=>(intKind prog w).is k e.2) es.toList with
 | some j =>
  dsimp only
  have hk:=Zlo hA hr
  refine Yb (Yb ?_)
  have:=h s.heap false (Heap.SameBut.refl a s.heap) ⟨o,es,ep,t,ho,hex,hd,hT,hf,hA,hN,λk'=>(hM k').trans ⟨.inl,λz=>z.elim id λe=>(hM k').mp (e ▸ hk)⟩,Nat.le_succ_of_le hz⟩
  exact this
 | none =>
  dsimp only
  have hk:=Zkx hA hr
  have hperm:=layNew_perm t es ((intKind prog w).hash k) (.int k tk)
  have hfits:=layNew_fits t es ((intKind prog w).hash k) (.int k tk)
  have htab:=hT.lay es ((intKind prog w).hash k) (.int k tk)
  generalize layNew t es ((intKind prog w).hash k) (.int k tk)=Ly at hperm hfits htab ⊢
  obtain⟨es1,t1,wasD,gave⟩:=Ly
  dsimp only at hperm hfits htab ⊢
  rw [Array.toList_push] at hperm
  have kp:(es1.toList.map JT).Perm (es.toList.map JT ++ [k]):=by have:=hperm.map JT; rw [YZ] at this; exact this
  have hA1:Zh0 prog w es1.toList:=λe he=>by
   rcases Yw.mp (hperm.mem_iff.mp he) with he | he
   ·exact hA e he
   ·rw [YF.mp he]; exact⟨k,tk,rfl,rfl⟩
  have hN1:(es1.toList.map JT).Nodup:=kp.nodup_iff.mpr (List.nodup_append.mpr ⟨hN,by simp,λx hx y hy=>by rw [List.mem_singleton.mp hy]; intro e; exact hk (e ▸ hx)⟩)
  have hM1:∀ k',k'∈es1.toList.map JT ↔ (S k'\/k'=k):=λk'=>by rw [kp.mem_iff,Yw,hM k',YF]
  have hz1:es1.size<=n + 1:=by rw [<- Array.length_toList,hperm.length_eq,List.length_append,Array.length_toList]; simpa using hz
  have gw:∀ (b:Bool) (s₁:Shared) (Q':Unit->Shared->Prop),Q' () s₁->wpAny (model prog w) A (match b with | true=>rule "set.scan.the-table-gave-way" | false=>pure ()) Q' E s₁ :=
   λb s₁ Q' hq=>by cases b <;> first | exact Yb hq | exact Vw hq
  refine Ya (gw _ _ _ ?_)
  have fin:∀ h',Heap.SameBut a s.heap h'->Jz prog w h' a (λk'=>S k'\/k'=k) (n + 1)->Q true { s with heap:=h' }:=λh'=>h h' true
  split
  ·refine Ya ?_
   rw [hashByValue_scannable 8 (x:=.int k tk) rfl]
   refine Yb ?_
   refine Zkz (λb s₁ Q' hq=>by cases b <;> first | exact Yb hq | exact Vw hq) ho hex hd (S:=λk'=>S k'\/k'=k) (n:=n + 1) ?_ ?_ hA1 hN1 hM1 hz1 hn λh' sb x=>Yb (fin h' sb x)
   ·exact htab
   ·exact hfits
  ·refine Ya (Yb ?_)
   simp only [↓reduceIte]
   exact Zkz (λb s₁ Q' hq=>by cases b <;> first | exact Yb hq | exact Vw hq) ho hex hd (S:=λk'=>S k'\/k'=k) (n:=n + 1) htab hfits hA1 hN1 hM1 hz1 hn λh' sb x=>Yb (fin h' sb x)
end
section
variable {prog:Program}{w:World}{A:Around}{R:Result->Shared->Prop}{I:Addr}{fp wr:List Addr}{G:Array GenState->Array GenState->Prop}{P:Nat->Value->Prop}{St:Nat->Shared->Prop}
def ZfX{ns:List Int}{i:Nat}{v k:Int}(h:ns[i]?=some v):k∈ns.take (i + 1) ↔ k∈ns.take i\/k=v:=by
 rw [Yp,h,Yw]
 simp
def Zn0{ns:List Int}(W:WalksS prog w A.in1 I fp wr G ns.length P St)(S:Addr)(hSf:S ∉ fp)(hval:∀ i v,P i v->∃ k t,ns[i]?=some k/\v=.int k t)(hb:ns.length + 1 < scanBound) :
  ∀ (k i:Nat) (s:Shared),ns.length - i=k->i<=ns.length->St i s->Jz prog w s.heap S (·∈ns.take i) i ->
   (∀ s',Moved (S :: wr) G s s'->Jz prog w s'.heap S (·∈ns) ns.length->R (.ok (.ret .none)) s')->codeAny (model prog w) A (.builtin "set.update.loop" ⟨[.ref S,.ref I],[]⟩) R s:=by
 have hSw:S ∉ wr:=λh=>hSf (W.sub _ h)
 have hsub:∀ b∈wr,b∈S :: wr:=λb hb=>Y7 _ hb
 intro k
 induction k with
 | zero =>
  intro i s hk hi hst hS hR
  obtain rfl:i=ns.length:=by omega
  refine Vj F.entry_set_update_loop ?_
  rw [VA F.plain_set_update_loop _]
  show wpAny _ A.in1 (pyNext (.ref I) >>= _) _ _ s
  refine Ya (W.done s _ _ hst λs' hm=>?_)
  show wpAny _ A.in1 (ret Value.none) _ _ s'
  rw [Yv] at hS
  exact Yb (hR s' (hm.mono hsub) (hS.keep λo ho=>hm.heap S _ hSw ho))
 | succ k ih =>
  intro i s hk hi hst hS hR
  have hlt:i < ns.length:=by omega
  refine Vj F.entry_set_update_loop ?_
  rw [VA F.plain_set_update_loop _]
  show wpAny _ A.in1 (pyNext (.ref I) >>= _) _ _ s
  refine Ya (W.item i s _ _ hlt hst λv s' hP hst' hm=>?_)
  obtain⟨z,t,hz,rfl⟩:=hval i v hP
  have hS':=hS.keep (λo ho=>hm.heap S _ hSw ho)
  show wpAny _ A.in1 (holding [Value.int z t] (setAdd S (.int z t)) >>= _) _ _ s'
  refine Ya (YM ?_)
  unfold setAdd
  refine YM (Ya ((intKind prog w).pyHash (k:=z) (intKind_is _ _ _ _) ?_))
  refine ZlQ (s:={ s' with toks:=s'.toks + 1 }) hS' (by omega) λh' r hsb hS2=>?_
  have hSi:Jz prog w h' S (·∈ns.take (i + 1)) (i + 1):=by
   rw [show (·∈ns.take (i + 1))=(λk'=>k'∈ns.take i\/k'=z) from funext λk'=>propext (ZfX hz)]
   exact hS2
  refine Yb ⟨V0 F.plain_set_update_loop _,ih (i + 1) _ (by omega) hlt (W.frame _ s' _ _ hst' (Vv _) λb hb o e=>?_) hSi λs'' hm'' hS''=>?_⟩
  ·rw [hsb.2 b (λh:b=S=>hSf (by rw [<- h]; exact hb))]; exact e
  ·refine hR s'' (Moved.trans W.gtrans ((hm.mono hsub).then_heap (Vv _) λb o hb e=>?_) hm'') hS''
   rw [hsb.2 b (λh:b=S=>hb (by rw [h]; exact Vf))]; exact e
end
section
variable {prog:Program}{w:World}{A:Around}{E:VSP}{s:Shared}
abbrev Z4(w:World):Obj:={ cls:=.type "set",dict:=none,data:=.set #[] 0 (.fresh 0 0 (!byT w)) }
def ZlO(a:Value){Q₁:VSP}(h:Q₁ (.ref s.heap.objs.size) { s with heap:=s.heap.push (Z4 w) }) :
  codeAny (model prog w) A (.call (.builtin "set.__new__") ⟨[.type "set",a],[]⟩) (wants Q₁ E) s:=by
 refine codeAny_of_tree ?_
 show wpAny _ A.in1 (do checkBuiltinCall "set.__new__" ⟨[.type "set",a],[]⟩; again (.builtin "set.__new__" ⟨[.type "set",a],[]⟩)) _ _ s
 refine Ya (wpAny_of_eq (F.newCall_set_1 a) (Yb ⟨V0 F.plain_set_new _,Vj F.entry_set_new ?_⟩))
 rw [VA F.plain_set_new _]
 unfold Builtin.«set.__new__» Builtin.Frozenset.newClass
 have hsub:=sub_set_self
 obtain⟨hp,g,d,tk,os⟩:=s
 dsimp only
 wp_walk
 refine wpAny_askSetting (Yb ?_)
 dsimp only
 simp only [newObj]
 exact Ya (wpAny_alloc (Yb (Yb h)))
theorem Jz.fresh{h:Heap}{a:Addr}(e:h.get? a=some (Z4 w)):Jz prog w h a (·∈([]:List Int)) 0 :=
 ⟨_,#[],0,_,e,⟨rfl,rfl,rfl⟩,rfl,⟨List.Pairwise.nil,rfl,rfl⟩,rfl,(λe he=>by simp at he),List.nodup_nil,λk=>by simp,Nat.le_refl _⟩
set_option maxHeartbeats 3200000 in
theorem Zg1{l:Addr}{items:Array Value}{ns:List Int}{Q:VSP}(hh:A.handled=none)(hl:s.heap.IsList l items)(hi:IntsAre items.toList ns)(hb:ns.length + 1 < scanBound)
  (h:∀ (h':Heap) (tk:Nat),Jz prog w h' s.heap.objs.size (·∈ns) ns.length->(∀ b o,s.heap.get? b=some o->h'.get? b=some o)->Q (.ref s.heap.objs.size) { s with heap:=h',toks:=tk }) :
  wpAny (model prog w) A (call (.type "set") [.ref l]) Q E s:=by
 obtain⟨c,tl,hmro⟩:=F.called_set.mro
 have hmade:=F.called_set.made
 have hsub:=F.called_set.sub
 refine wpAny_call (codeAny_of_tree ?_)
 show wpAny _ _ (callAny (.type "set") _) _ _ _
 refine Yb ⟨Code.quiet_builtin _ (by decide +kernel),Vj F.entry_type_call ?_⟩
 rw [Around.under_plain (weight_type_call_type "set" [.ref l] []) rfl]
 have h1:=F.called_set.notType
 have h2:=F.called_set.canCreate
 have hct:=F.typeCall_set_1 (.ref l)
 repeat (any_goals (first | assumption | wp_step))
 refine Y2 (ZlO (.ref l) (E:=E) (Q₁:=λobj s₁=>obj=.ref s.heap.objs.size/\s₁={ s with heap:=s.heap.push (Z4 w) }) ⟨rfl,rfl⟩) λr s₁ hr=>?_
 cases r with
 | error e=>exact hr
 | ok fl =>
  cases fl with
  | ret obj =>
   obtain⟨rfl,rfl⟩:=hr
   have hS:(s.heap.push (Z4 w)).get? s.heap.objs.size=some (Z4 w):=Yo _ rfl
   have hT:Shared.TypeIs { s with heap:=s.heap.push (Z4 w) } (.ref s.heap.objs.size) "set":=⟨_,hS,rfl⟩
   have hli:=F.called_set.init.lookup
   have hbi:=F.called_set.init.bind (.ref s.heap.objs.size)
   repeat (any_goals (first | assumption | wp_step))
   refine Y2 (codeAny_call_builtin (R:=wants (λr s₂=>r=.none/\∃ h' tk,s₂={ s with heap:=h',toks:=tk }/\Jz prog w h' s.heap.objs.size (·∈ns) ns.length/\(∀ b o,s.heap.get? b=some o->h'.get? b=some o)) E)
    F.called_set.init.plain F.entry_set_init (check_set_init_1 hT ?_)) λr₂ s₂ hr₂=>?_
   ·obtain⟨ol,hol,hcl,nl,hdl⟩:=hl
    obtain⟨ocls,odict,odata,oslots⟩:=ol
    simp only at hcl hdl
    subst hcl; subst hdl
    have hol':(s.heap.push (Z4 w)).get? l=some { cls:=.type "list",dict:=odict,data:=.seq items nl,slots:=oslots }:=Yh _ hol
    have hsls:=F.sub_list_set
    have hslf:=F.sub_list_frozenset
    have hne:(Value.type "list" == Value.type "dict")=false:=by decide
    have hl1:(s.heap.push (Z4 w)).IsList l items:=⟨_,hol',rfl,nl,rfl⟩
    have hsz:items.size=ns.length:=by rw [<- YK]; exact IntsAre.length hi
    unfold Builtin.«set.__init__» noKeywords Builtin.Frozenset.updateFrom
    generalize hPI:pyIter=PI
    wp_walk
    subst hPI
    refine wpAny_pyIter_list hl1 (Ya (wpAny_runValue ?_))
    have hlS:l < s.heap.objs.size:=Yf hol
    have hz1:(s.heap.push (Z4 w)).objs.size=s.heap.objs.size + 1:=Yad ..
    have hneI:l ≠ (s.heap.push (Z4 w)).objs.size:=by rw [hz1]; exact Ym (Va hlS)
    have hSf:s.heap.objs.size ∉ [(s.heap.push (Z4 w)).objs.size,l]:=by
     rw [hz1]; simp only [List.mem_cons,List.not_mem_nil,or_false,not_or]; exact⟨Nat.ne_of_lt (Nat.lt_succ_self _),Nat.ne_of_gt hlS⟩
    have W:=(Walks.list (prog:=prog) (w:=w) (A:=A.in1.in1.in1) (by simp [hh]) _ l hneI items).toS
    rw [hsz] at W
    refine Zn0 W s.heap.objs.size hSf (λi v hv=>?_) hb ns.length 0 _ (by omega) (YD _) ⟨⟨_,Yo _ rfl,rfl,rfl⟩,(hl1.push _)⟩ (Jz.fresh (Yh _ hS)) λs' hm hS'=>?_
    ·have hlt:i < ns.length:=by rw [<- hsz]; exact (Array.getElem?_eq_some_iff.mp hv).1
     obtain⟨t,e⟩:=IntsAre.int_at hi i v (by rw [YJ]; exact hv)
     exact⟨ns[i],t,Yc hlt,by rw [e,List.getD_eq_getElem?_getD,Yc hlt]; rfl⟩
    ·obtain⟨h',g',d',tk',os'⟩:=s'
     have eg:g'=s.gens:=hm.gens
     have ed:d'=s.drawn:=hm.drawn
     have eo:os'=s.os:=hm.os
     subst eg; subst ed; subst eo
     show wpAny _ _ _ _ _ _
     refine Yb ?_
     show wpAny _ _ (ret Value.none) _ _ _
     refine Yb ⟨rfl,h',tk',rfl,hS',λb o e=>?_⟩
     have hb:=Yf e
     exact hm.heap b o (by rw [hz1]; simp only [List.mem_cons,List.not_mem_nil,or_false,not_or]; exact⟨Nat.ne_of_lt hb,Nat.ne_of_lt (Nat.lt_succ_of_lt hb)⟩) (Heap.get?_push_of_some _ (Heap.get?_push_of_some _ e))
   ·cases r₂ with
    | error e=>exact hr₂
    | ok fl₂ =>
     cases fl₂ with
     | ret r =>
      obtain⟨rfl,h',tk,rfl,hS',hk'⟩:=hr₂
      repeat (any_goals (first | assumption | wp_step))
      exact h _ _ hS' hk'
     | _=>exact hr₂.elim
  | _=>exact hr.elim
end
theorem ZeQ:Manifest.owners.lookup (String.ofList ['r','o','t','a','r','e','t','i','_','t','e','s'].reverse)=some Manifest.sig_set_iterator:=by kernel_rfl
def Zag:Slot "set_iterator" "__next__" "set_iterator.__next__" :=
 .of (owner:="set_iterator") (n:="__next__") (by rw [typeLookup_type,builtinLookup_eq_fast]; kernel_rfl) (by decide +kernel) (by decide +kernel) (by decide +kernel)
  (by first | exact .inl (by decide +kernel) | exact .inr (by decide +kernel)) (by rw [isSubtype_type]; kernel_rfl)
def ZaN:entryFor table "set_iterator.__next__"=some Builtin.«set_iterator.__next__»:=entryFor_of_tree (by kernel_rfl)
def ZaS(a:Value):argsOk "set_iterator.__next__" ⟨[a],[]⟩:=by
 unfold argsOk; rw [signature?_of (id:="set_iterator.__next__") (n:=['_','_','t','x','e','n','_','_']) (o:=['r','o','t','a','r','e','t','i','_','t','e','s']) (by kernel_rfl) ZeQ]; kernel_rfl
def Zch:Slot "set_iterator" "__iter__" "set_iterator.__iter__" :=
 .of (owner:="set_iterator") (n:="__iter__") (by rw [typeLookup_type,builtinLookup_eq_fast]; kernel_rfl) (by decide +kernel) (by decide +kernel) (by decide +kernel)
  (by first | exact .inl (by decide +kernel) | exact .inr (by decide +kernel)) (by rw [isSubtype_type]; kernel_rfl)
def Ze4:entryFor table "set.__iter__"=some Builtin.«frozenset.__iter__» :=
 entryFor_alias (id':="frozenset.__iter__") (by kernel_rfl) rfl (by decide +kernel) (by kernel_rfl)
def ZdJ:entryFor table "set_iterator.__iter__"=some Builtin.«dict_keyiterator.__iter__» :=
 entryFor_alias (id':="dict_keyiterator.__iter__") (by kernel_rfl) rfl (by decide +kernel) (by kernel_rfl)
def Zet(a:Value):argsOk "set_iterator.__iter__" ⟨[a],[]⟩:=by
 unfold argsOk; rw [signature?_of (id:="set_iterator.__iter__") (n:=['_','_','r','e','t','i','_','_']) (o:=['r','o','t','a','r','e','t','i','_','t','e','s']) (by kernel_rfl) ZeQ]; kernel_rfl
def Ze9{α:Type}{l:List α}{i:Nat}(h:i < l.length):(l[i] :: l.eraseIdx i).Perm l:=by
 rw [List.eraseIdx_eq_take_drop_succ]
 have e:l=l.take i ++ l[i] :: l.drop (i + 1):=by rw [List.getElem_cons_drop,Yao]
 conv=>rhs; rw [e]
 exact List.perm_middle.symm
section
variable {prog:Program}{w:World}{A:Around}{E:VSP}{s:Shared}
theorem Zk5{src:Source}{n:Nat}{Q:Nat->Shared->Prop}(hn:n ≠ 0)(h:∀ k d,k < n->Q k { s with drawn:=d }):wpAny (model prog w) A (choose src n) Q E s :=
 λ_ _ _=>⟨hn,h _ _ (Nat.mod_lt _ (Nat.pos_of_ne_zero hn))⟩
def ZcU{Q:Bool->Shared->Prop}(h:Q (byT w) s):wpAny (model prog w) A setsByText Q E s:=by
 unfold setsByText
 exact Ya (wpAny_askSetting (Yb h))
theorem Zgx{α:Type}:∀ (n:Nat) (xs:List α) (s:Shared) {Q:List α->Shared->Prop},xs.length<=n->(∀ ys d,ys.Perm xs->Q ys { s with drawn:=d })->wpAny (model prog w) A (drawOrder n xs) Q E s:=by
 intro n
 induction n with
 | zero =>
  intro xs s Q hl h
  have:xs=[]:=V1.mp (by omega)
  subst this
  unfold drawOrder
  exact Yb (h [] s.drawn .nil)
 | succ n ih =>
  intro xs s Q hl h
  cases xs with
  | nil=>unfold drawOrder; exact wpAny_pure (h [] s.drawn .nil)
  | cons x xs =>
   unfold drawOrder
   refine wpAny_bind (Zk5 (by simp) λk d hk=>?_)
   have e:=Yc hk
   rw [e]
   dsimp only
   refine wpAny_bind (ih _ _ (by rw [List.length_eraseIdx,if_pos hk]; simp at hl ⊢; omega) λys d' hp=>?_)
   exact Yb (h _ d' ((hp.cons _).trans (Ze9 hk)))
theorem ZoU{α:Type}(f:Nat->Nat):∀ (n k:Nat) (xs:List α) (out:Array α),xs.length<=n->(pickOrder.go f n k xs out).toList.Perm (out.toList ++ xs):=by
 intro n
 induction n with
 | zero =>
  intro k xs out hl
  have:xs=[]:=V1.mp (by omega)
  subst this
  unfold pickOrder.go
  simp
 | succ n ih =>
  intro k xs out hl
  unfold pickOrder.go
  cases xs with
  | nil=>simp
  | cons x xs =>
   have hk:f k % (x :: xs).length < (x :: xs).length:=Nat.mod_lt _ (by simp)
   rw [Yc hk]
   dsimp only
   refine (ih _ _ _ (by rw [List.length_eraseIdx,if_pos hk]; simp at hl ⊢; omega)).trans ?_
   rw [Array.toList_push,List.append_assoc]
   exact List.Perm.append_left _ (Ze9 hk)
def ZlC{α:Type}(f:Nat->Nat)(xs:Array α):(pickOrder f xs).toList.Perm xs.toList:=by
 unfold pickOrder
 exact (ZoU f _ _ _ _ (by simp)).trans (by simp)
def SN(prog:Program)(w:World)(a:Addr)(o:Obj)(ep:Nat)(f:Nat->Nat)(L:List Value):Prop :=
 ∀ (A:Around) (E:VSP) (s:Shared) (Q:Option (Value × Nat)->Shared->Prop) (i:Nat),i<=L.length->s.heap.get? a=some o->Q ((L[i]?).map λv=>(v,f (i + 1))) s->wpAny (model prog w) A (setNext a (f i) i ep) Q E s
def Zqq{a:Addr}{o:Obj}{es:Array (Int × Value)}{ep:Nat}(hd:o.data=.set es ep t)(hf:t.fits es.size=true)(hb:byT w=true):SN prog w a o ep (λ_=>0) ((pickOrder (w.params.setOrder a ep) es).toList.map (·.2)):=by
 intro A E s Q i hi ho h
 unfold setNext
 refine Ya (Vq ho hd hf ?_)
 dsimp only
 refine Ya (ZcU ?_)
 rw [hb,if_pos rfl,if_neg (by simp)]
 unfold setWalk
 refine Ya (Ya (Vq ho hd hf ?_))
 dsimp only
 refine Ya (ZcU ?_)
 rw [hb,if_pos rfl]
 refine Ya (wpAny_askSetting (Yb (Yb ?_)))
 rw [Yg,YJ,Option.map_map] at h
 exact h
def ZdA(p:Array Nat)(i:Nat):Nat:=match i with
 | 0=>0
 | i + 1=>p.getD i 0 + 1
theorem Zgf{p:Array Nat}(h:Zl0 p.toList){i:Nat}(hi:i<=p.size):SetTable.below p (ZdA p i)=i:=by
 obtain⟨h1,h2,h3⟩:=Ze6 p (ZdA p i) h
 generalize SetTable.below p (ZdA p i)=b at h1 h2 h3
 rcases Nat.lt_trichotomy b i with c | c | c
 ·have hb:b < p.size:=by omega
  have e:=Vc hb
  have h4:=h3 _ _ (Yd b) e
  cases i with
  | zero=>omega
  | succ i =>
   have hi':i < p.size:=by omega
   have e2:=Vc hi'
   have hs:ZdA p (i + 1)=p[i] + 1:=by show p.getD i 0 + 1=_; rw [VL,e2]; rfl
   rw [hs] at h4
   by_cases c2:b=i
   ·subst c2; omega
   ·have:=h.at (by rw [YJ]; exact e) (by rw [YJ]; exact e2) (show b < i by omega)
    omega
 ·exact c
 ·have hi':i < p.size:=by omega
  have e:=Vc hi'
  have h4:=h2 _ _ c e
  cases i with
  | zero=>exact absurd h4 (V9 _)
  | succ i =>
   have hi2:i < p.size:=by omega
   have e2:=Vc hi2
   have hs:ZdA p (i + 1)=p[i] + 1:=by show p.getD i 0 + 1=_; rw [VL,e2]; rfl
   rw [hs] at h4
   have:=h.at (by rw [YJ]; exact e2) (by rw [YJ]; exact e) (VR i)
   omega
def Zns{a:Addr}{o:Obj}{es:Array (Int × Value)}{ep:Nat}(hd:o.data=.set es ep t)(hf:t.fits es.size=true)(hT:TOk (!byT w) t)(hb:byT w=false)(hp:(!t.plain && decide (es.size > 1))=false) :
  SN prog w a o ep (ZdA t.place) (es.toList.map (·.2)):=by
 intro A E s Q i hi ho h
 have hz:t.place.size=es.size:=by simp only [SetTable.fits,Bool.and_eq_true,beq_iff_eq] at hf; exact hf.1
 have hl:t.led=true:=by rw [hT.2.2,hb]; rfl
 unfold setNext
 refine Ya (Vq ho hd hf ?_)
 dsimp only
 refine Ya (ZcU ?_)
 rw [hb,if_neg (by decide)]
 refine VU (λc=>absurd (hp.symm.trans c) (by decide)) (λ_=>?_)
 refine Ya ?_
 show wpAny _ _ (if (!t.led && !es.isEmpty)=true then unsupported _ else pure ()) _ _ _
 rw [hl,if_neg (by simp)]
 refine Yb (Yb ?_)
 rw [Zgf hT.1 (by rw [hz]; simpa using hi)]
 rw [Yg,YJ] at h
 by_cases c:i < es.size
 ·have e:=Vc c
  have e2:=Vc (show i < t.place.size by rw [hz]; exact c)
  rw [e,e2]
  rw [e] at h
  have hs:ZdA t.place (i + 1)=t.place[i] + 1:=by show t.place.getD i 0 + 1=_; rw [VL,e2]; rfl
  rw [hs] at h
  exact h
 ·rw [Array.getElem?_eq_none (by omega)] at h ⊢
  exact h
abbrev Ze1(f:Value)(i:Nat)(a:Addr)(n ep:Nat):Obj:={ cls:=.type "set_iterator",dict:=none,data:=.fields #[f,.int i 0,.ref a,.int n 0,.int ep 0],slots:=#[] }
def Zk7{I a:Addr}{o:Obj}{es:Array (Int × Value)}{ep:Nat}{f:Nat->Nat}{L:List Value}{i:Nat}{v:Value}{Q:Option Value->Shared->Prop}(hne:I ≠ a)(hd:o.data=.set es ep t)(hf:t.fits es.size=true)(hsn:SN prog w a o ep f L)(hl:L.length=es.size)
  (hit:s.heap.get? I=some (Ze1 (.int (f i) 0) i a es.size ep)) (ho:s.heap.get? a=some o) (hi:L[i]?=some v)
  (h:∀ h',h'.get? I=some (Ze1 (.int (f (i + 1)) 0) (i + 1) a es.size ep)->Heap.SameBut I s.heap h'->Q (some v) { s with heap:=h' }):wpAny (model prog w) A (pyNext (.ref I)) Q E s:=by
 have hty:s.TypeIs (.ref I) "set_iterator":=⟨_,hit,rfl⟩
 unfold pyNext
 refine Ya (Yah (V3 (name:=Str.ofString "__next__") hty Zag (YX Zag hty ZaN ?_ (ZaS _))))
 unfold Builtin.«set_iterator.__next__»
 refine Ya (Yb ?_)
 refine Ya (wpAny_fieldsOf hit rfl ?_)
 dsimp only
 refine Ya (Y8 ho hd hf ?_)
 rw [if_neg (by simp)]
 have hil:i < L.length:=(Yi.mp hi).1
 refine Ya (hsn _ _ s _ i (Yt hil) ho ?_)
 rw [hi]
 dsimp only [Option.map]
 refine wpAny_bind (wpAny_setField_rec hit (by simp) λh1 g1 sb1=>?_)
 refine wpAny_bind (wpAny_setField_rec (s:={ s with heap:=h1 }) g1 (by simp) λh2 g2 sb2=>?_)
 refine Yb ⟨_,rfl,Yb (h h2 ?_ (sb1.trans sb2))⟩
 rw [g2]
 simp [rawInt]
def Zm0{I a:Addr}{o:Obj}{es:Array (Int × Value)}{ep:Nat}{f:Nat->Nat}{L:List Value}{Q:Option Value->Shared->Prop}(hh:A.handled=none)(hd:o.data=.set es ep t)(hf:t.fits es.size=true)(hsn:SN prog w a o ep f L)(hl:L.length=es.size)
  (hit:s.heap.get? I=some (Ze1 (.int (f L.length) 0) L.length a es.size ep)) (ho:s.heap.get? a=some o) (h:∀ h',Heap.ExtBut I s.heap h'->Q none { s with heap:=h' }):wpAny (model prog w) A (pyNext (.ref I)) Q E s:=by
 have hty:s.TypeIs (.ref I) "set_iterator":=⟨_,hit,rfl⟩
 unfold pyNext
 refine Ya (Yah (V3 (name:=Str.ofString "__next__") hty Zag (YX Zag hty ZaN ?_ (ZaS _))))
 unfold Builtin.«set_iterator.__next__»
 refine Ya (Yb ?_)
 refine Ya (wpAny_fieldsOf hit rfl ?_)
 dsimp only
 refine Ya (Y8 ho hd hf ?_)
 rw [if_neg (by simp)]
 refine Ya (hsn _ _ s _ L.length (Yd _) ho ?_)
 rw [Y6 (Yd _)]
 dsimp only [Option.map]
 refine wpAny_bind (wpAny_setField_rec hit (by simp) λh1 g1 sb1=>?_)
 refine Ya ?_
 simp only [newExc,newTuple]
 refine Ya (YW ?_ (by size_fits))
 refine wpAny_bind (m:=firstArgMember _ _) (wpAny_of_eq (a:=Value.none) (by first | rfl | (simp only [firstArgMember]; rfl)) ?_)
 refine YW ?_ (by size_fits)
 simp only [raiseNew]
 refine Ya (wpAny_handled ?_)
 rw [show A.in1.handled=none from hh]
 refine Ya (Yb (wpAny_throw ?_))
 refine Ya (VE (T:="StopIteration") (b:=true) ⟨_,Yo _ rfl,rfl⟩ isSubtype_stop ?_)
 exact Yb (h _ ((sb1.extBut.push _).push _))
def ZlJ{I a:Addr}{f:Value}{i n ep:Nat}{Q:VSP}(hit:s.heap.get? I=some (Ze1 f i a n ep))(h:Q (.ref I) s):wpAny (model prog w) A (pyIter (.ref I)) Q E s:=by
 have hty:s.TypeIs (.ref I) "set_iterator":=⟨_,hit,rfl⟩
 refine wpAny_pyIter_slot hty Zch (YX Zch hty ZdJ ?_ (Zet _))
 show wpAny _ _ (ret (.ref I)) _ _ s
 exact Yb ⟨_,rfl,"set_iterator",_,hty,Zag.lookup,h⟩
def Zmg(hh:A.handled=none){I a:Addr}{o:Obj}{es:Array (Int × Value)}{ep:Nat}{t:SetTable}{f:Nat->Nat}{L:List Value}(hne:I ≠ a)(hd:o.data=.set es ep t)(hf:t.fits es.size=true)(hsn:SN prog w a o ep f L)(hl:L.length=es.size) :
  Walks prog w A I [I,a] [I] L.length (λi v=>L[i]?=some v) (λi h=>h.get? I=some (Ze1 (.int (f i) 0) i a es.size ep)/\h.get? a=some o) where
 sub:=λb hb=>by simp only [List.mem_singleton] at hb; subst hb; simp
 frame:=λi h h' ⟨h1,h2⟩ hk=>⟨hk I (by simp) _ h1,hk a (by simp) _ h2⟩
 item:=λi s Q E hi ⟨h1,h2⟩ hQ=>Zk7 hne hd hf hsn hl h1 h2 (Yc hi) λh' g sb=>by
  have:=hQ _ h' s.toks (List.getElem?_eq_getElem hi) ⟨g,by rw [sb.2 a (λz=>hne z.symm)]; exact h2⟩ λb o hb e=>by rw [sb.2 b (λz=>hb (by rw [z]; simp))]; exact e
  exact this
 done:=λs Q E ⟨h1,h2⟩ hQ=>Zm0 hh hd hf hsn hl h1 h2 λh' x=>by
  have:=hQ h' s.toks λb o hb e=>x b o (λz=>hb (by rw [z]; simp)) e
  exact this
 self:=λi s Q E ⟨h1,h2⟩ hQ=>ZlJ h1 hQ
def Zjj{I a T:Addr}{o oT:Obj}{es:Array (Int × Value)}{ep c:Nat}{ps:List Nat}{i p:Nat}{x:Int × Value}{Q:Option Value->Shared->Prop}(hd:o.data=.set es ep t)(hf:t.fits es.size=true)(hT:oT.data=.seq (ps.map λk:Nat=>rawInt k).toArray c)
  (hit:s.heap.get? I=some (Ze1 (.ref T) i a es.size ep)) (ho:s.heap.get? a=some o) (hoT:s.heap.get? T=some oT) (hi:ps[i]?=some p) (hx:es[p]?=some x)
  (h:∀ h',h'.get? I=some (Ze1 (.ref T) (i + 1) a es.size ep)->Heap.SameBut I s.heap h'->Q (some x.2) { s with heap:=h' }):wpAny (model prog w) A (pyNext (.ref I)) Q E s:=by
 have hty:s.TypeIs (.ref I) "set_iterator":=⟨_,hit,rfl⟩
 unfold pyNext
 refine Ya (Yah (V3 (name:=Str.ofString "__next__") hty Zag (YX Zag hty ZaN ?_ (ZaS _))))
 unfold Builtin.«set_iterator.__next__»
 refine Ya (Yb ?_)
 refine Ya (wpAny_fieldsOf hit rfl ?_)
 dsimp only
 refine Ya (Y8 ho hd hf ?_)
 rw [if_neg (by simp)]
 unfold seqItems?
 dsimp only
 refine Ya (Ya (VI hoT ?_))
 rw [hT]
 refine Yb ?_
 dsimp only
 rw [List.getElem?_toArray,Yg,VQ,hi]
 dsimp only [Option.map,rawInt]
 refine Ya ?_
 unfold setNextDrawn
 refine Ya (Vq ho hd hf ?_)
 dsimp only
 rw [if_neg (by simp),Int.toNat_natCast,hx]
 refine Yb ?_
 refine wpAny_bind (wpAny_setField_rec hit (by simp) λh1 g1 sb1=>?_)
 refine Yb ⟨_,rfl,Yb (h h1 ?_ sb1)⟩
 rw [g1]
 simp
def ZlW{I a T:Addr}{o oT:Obj}{es:Array (Int × Value)}{ep c:Nat}{ps:List Nat}{Q:Option Value->Shared->Prop}(hh:A.handled=none)(hd:o.data=.set es ep t)(hf:t.fits es.size=true)(hT:oT.data=.seq (ps.map λk:Nat=>rawInt k).toArray c)
  (hit:s.heap.get? I=some (Ze1 (.ref T) ps.length a es.size ep)) (ho:s.heap.get? a=some o) (hoT:s.heap.get? T=some oT) (h:∀ h',Heap.ExtBut I s.heap h'->Q none { s with heap:=h' }):wpAny (model prog w) A (pyNext (.ref I)) Q E s:=by
 have hty:s.TypeIs (.ref I) "set_iterator":=⟨_,hit,rfl⟩
 unfold pyNext
 refine Ya (Yah (V3 (name:=Str.ofString "__next__") hty Zag (YX Zag hty ZaN ?_ (ZaS _))))
 unfold Builtin.«set_iterator.__next__»
 refine Ya (Yb ?_)
 refine Ya (wpAny_fieldsOf hit rfl ?_)
 dsimp only
 refine Ya (Y8 ho hd hf ?_)
 rw [if_neg (by simp)]
 unfold seqItems?
 dsimp only
 refine Ya (Ya (VI hoT ?_))
 rw [hT]
 refine Yb ?_
 dsimp only
 rw [List.getElem?_toArray,Yg,VQ,Y6 (Yd _)]
 dsimp only [Option.map]
 refine wpAny_bind (wpAny_setField_rec hit (by simp) λh0 g0 sb0=>?_)
 refine wpAny_bind (wpAny_setField_rec (s:={ s with heap:=h0 }) g0 (by simp) λh1 g1 sb1=>?_)
 refine Ya ?_
 simp only [newExc,newTuple]
 refine Ya (YW ?_ (by size_fits))
 refine wpAny_bind (m:=firstArgMember _ _) (wpAny_of_eq (a:=Value.none) (by first | rfl | (simp only [firstArgMember]; rfl)) ?_)
 refine YW ?_ (by size_fits)
 simp only [raiseNew]
 refine Ya (wpAny_handled ?_)
 rw [show A.in1.handled=none from hh]
 refine Ya (Yb (wpAny_throw ?_))
 refine Ya (VE (T:="StopIteration") (b:=true) ⟨_,Yo _ rfl,rfl⟩ isSubtype_stop ?_)
 exact Yb (h _ (((sb0.trans sb1).extBut.push _).push _))
def ZhJ(hh:A.handled=none){I a T:Addr}{o oT:Obj}{es:Array (Int × Value)}{ep c:Nat}{t:SetTable}{ps:List Nat}(hne:I ≠ a)(hnT:I ≠ T)(hd:o.data=.set es ep t)(hf:t.fits es.size=true)(hT:oT.data=.seq (ps.map λk:Nat=>rawInt k).toArray c)
  (hps:∀ (i p:Nat),ps[i]?=some p->p < es.size) :
  Walks prog w A I [I,a,T] [I] ps.length (λi v=>∃ p x,ps[i]?=some p/\es[p]?=some x/\v=x.2) (λi h=>h.get? I=some (Ze1 (.ref T) i a es.size ep)/\h.get? a=some o/\h.get? T=some oT) where
 sub:=λb hb=>by simp only [List.mem_singleton] at hb; subst hb; simp
 frame:=λi h h' ⟨h1,h2,h3⟩ hk=>⟨hk I (by simp) _ h1,hk a (by simp) _ h2,hk T (by simp) _ h3⟩
 item:=λi s Q E hi ⟨h1,h2,h3⟩ hQ=>by
  have e:=Yc hi
  have e2:=Vc (hps i _ e)
  refine Zjj hd hf hT h1 h2 h3 e e2 λh' g sb=>?_
  have:=hQ _ h' s.toks ⟨_,_,e,e2,rfl⟩ ⟨g,by rw [sb.2 a (λz=>hne z.symm)]; exact h2,by rw [sb.2 T (λz=>hnT z.symm)]; exact h3⟩ λb o hb e=>by rw [sb.2 b (λz=>hb (by rw [z]; simp))]; exact e
  exact this
 done:=λs Q E ⟨h1,h2,h3⟩ hQ=>ZlW hh hd hf hT h1 h2 h3 λh' x=>by
  have:=hQ h' s.toks λb o hb e=>x b o (λz=>hb (by rw [z]; simp)) e
  exact this
 self:=λi s Q E ⟨h1,h2⟩ hQ=>ZlJ h1 hQ
def ZjG:∀ {es:List (Int × Value)},Zh0 prog w es->IntsAre (es.map (·.2)) (es.map JT)
 | [],_=>.nil
 | e :: es,h=>by
  obtain⟨k,t,h1,_⟩:=h e (Vf ..)
  have h3:JT e=k:=by unfold JT; rw [h1]
  rw [Yr,Yr,h1,h3]
  exact .cons k t (ZjG λx hx=>h x (Y7 _ hx))
theorem ZoA{es:Array (Int × Value)}:∀ {ps:List Nat},(∀ (i p:Nat),ps[i]?=some p->p < es.size)->∀ vs:List Value,vs.length=ps.length->(∀ (i:Nat) v,vs[i]?=some v->∃ p x,ps[i]?=some p/\es[p]?=some x/\v=x.2)->vs=(ps.filterMap (es[·]?)).map (·.2)
 | [],_,vs,hl,_=>by rw [V1.mp hl]; rfl
 | p :: ps,hps,vs,hl,hv=>by
  cases vs with
  | nil=>cases hl
  | cons v vs =>
   obtain⟨p',x,e1,e2,rfl⟩:=hv 0 v rfl
   cases e1
   rw [YaE,e2]
   dsimp only
   rw [List.map_cons,<- ZoA (λi p h=>hps (i + 1) p h) vs (by simpa using hl) λi v h=>hv (i + 1) v h]
def Zmm{a:Addr}{S:Int->Prop}{n:Nat}{Q:VSP}(hh:A.handled=none)(hS:Jz prog w s.heap a S n)(hn:n < scanBound)
  (h:∀ (h':Heap) d (I:Addr) (fp:List Addr) (m:Nat) (P:Nat->Value->Prop) (St:Nat->Heap->Prop),(∀ b o,s.heap.get? b=some o->h'.get? b=some o)->Walks prog w A I fp [I] m P St->St 0 h'->s.heap.objs.size<=I->(∀ b∈fp,b=a\/s.heap.objs.size<=b)->(∀ b∈fp,b < h'.objs.size) ->
   m<=n->(∀ vs:List Value,vs.length=m->(∀ (i:Nat) v,vs[i]?=some v->P i v)->∃ ks:List Int,IntsAre vs ks/\ks.Nodup/\∀ k,k∈ks ↔ S k)->Q (.ref I) { s with heap:=h',drawn:=d }) :
  wpAny (model prog w) A (pyIter (.ref a)) Q E s:=by
 obtain⟨o,es,ep,t,ho,hex,hd,hT,hf,hA,hN,hM,hz⟩:=id hS
 have hty:s.TypeIs (.ref a) "set":=⟨_,ho,hex.1⟩
 refine wpAny_pyIter_slot hty F.slot_set_iter (YX F.slot_set_iter hty Ze4 ?_ (F.args_set_iter_1 _))
 unfold Builtin.«frozenset.__iter__» Builtin.Frozenset.slot0 Builtin.Frozenset.sizeOf
 refine Ya (Ya (Yb (Yb ?_)))
 refine Ya (Ya (Y8 ho hd hf (Yb ?_)))
 unfold setDrawn
 refine Ya (Ya (Vq ho hd hf ?_))
 dsimp only
 refine Ya (ZcU (Yb ?_))
 have hlt:a < s.heap.objs.size:=Yf ho
 have told:∀ (es':List (Int × Value)),es'.Perm es.toList->∀ vs:List Value,vs=es'.map (·.2)->∃ ks:List Int,IntsAre vs ks/\ks.Nodup/\∀ k,k∈ks ↔ S k:=λes' hp vs hv =>
  ⟨es'.map JT,by rw [hv]; exact ZjG (hA.perm hp),(hp.map JT).nodup_iff.mpr hN,λk=>((hp.map JT).mem_iff).trans (hM k)⟩
 have plain:∀ (f:Nat->Nat) (es':List (Int × Value)),es'.Perm es.toList->f 0=0->SN prog w a o ep f (es'.map (·.2))->wpAny (model prog w) A.in1 (do
   let first <- pure (rawInt 0)
   let __do_lift <- setEpoch a
   let __do_lift <- newFields "set_iterator" [first,rawInt 0,Value.ref a,rawInt ↑es.size,rawInt ↑__do_lift]
   ret __do_lift) (λfin s'=>∃ v,fin=Fin.done (Flow.ret v)/\∃ T' r,s'.TypeIs v T'/\typeLookup (Value.type T') (Str.ofString "__next__")=pure (some r)/\Q v s') E s:=by
  intro f es' hp hf0 hsn
  refine Ya (Yb (Ya (Yaz ho hd hf (Ya ?_))))
  unfold newFields
  refine YW (Yb ⟨_,rfl,"set_iterator",_,⟨_,Yo _ rfl,rfl⟩,Zag.lookup,?_⟩)
  have hl:(es'.map (·.2)).length=es.size:=by rw [Ye,hp.length_eq,YK]
  have key:=h (s.heap.push (Ze1 (.int (f 0) 0) 0 a es.size ep)) s.drawn s.heap.objs.size [s.heap.objs.size,a] _ _ _ (λb o e=>Yh _ e) (Zmg hh (Vm hlt) hd hf hsn hl) ⟨Yo _ rfl,Yh _ ho⟩ (Yd _)
   (λb hb=>by simp only [List.mem_cons,List.not_mem_nil,or_false] at hb; rcases hb with rfl | rfl; exact .inr (Nat.le_refl _); exact .inl rfl)
   (λb hb=>by rw [Heap.size_push]; simp only [List.mem_cons,List.not_mem_nil,or_false] at hb; rcases hb with rfl | rfl; exact Nat.lt_succ_self _; exact Nat.lt_succ_of_lt hlt)
   (by rw [hl]; exact hz) (λvs hvl hv=>told es' hp vs (Yav λi=>by
    by_cases c:i < vs.length
    ·rw [Yc c,hv i _ (Yc c)]
    ·rw [Y6 (by omega),Y6 (by omega)]))
  rw [hf0] at key
  exact key
 cases hb:byT w with
 | true =>
  rw [if_neg (by simp)]
  exact plain (λ_=>0) _ (ZlC (w.params.setOrder a ep) es) rfl (Zqq hd hf hb)
 | false =>
  refine VU (λc=>?_) (λc=>?_)
  ·refine wpAny_bind (Zgx _ _ _ (by simp) λps d hp=>?_)
   have hpl:ps.length=es.size:=by rw [hp.length_eq,List.length_range]
   have hz2:(ps.map λi:Nat=>rawInt i).length<=sizeLine:=by rw [Ye,hpl]; exact fits_of_scanBound (YA hz hn)
   refine Ya (wpAny_newTuple ?_ hz2)
   refine Ya (Yaz (Yh _ ho) hd hf (Ya ?_))
   unfold newFields
   refine YW (Yb ⟨_,rfl,"set_iterator",_,⟨_,Yo _ rfl,rfl⟩,Zag.lookup,?_⟩)
   have hps:∀ (i p:Nat),ps[i]?=some p->p < es.size:=λi p e=>Vk.mp (hp.mem_iff.mp (Yl e))
   have hz1:(s.heap.push { cls:=.type "tuple",data:=.seq (ps.map λi:Nat=>rawInt i).toArray }).objs.size=s.heap.objs.size + 1:=Yad ..
   refine h _ d (s.heap.push _).objs.size [(s.heap.push _).objs.size,a,s.heap.objs.size] _ _ _ (λb o e=>Yh _ (Yh _ e)) (ZhJ hh (ps:=ps) (c:=0) ?_ ?_ hd hf rfl hps) ⟨Yo _ rfl,Yh _ (Yh _ ho),Yh _ (Yo _ rfl)⟩ ?_ ?_ ?_ (by rw [hpl]; exact hz) λvs hvl hv=>?_
   ·rw [hz1]; exact Vm (Va hlt)
   ·rw [hz1]; exact Nat.succ_ne_self _
   ·rw [hz1]; exact Vv _
   ·intro b hb
    rw [hz1] at hb
    simp only [List.mem_cons,List.not_mem_nil,or_false] at hb
    rcases hb with rfl | rfl | rfl
    ·exact .inr (Vv _)
    ·exact .inl rfl
    ·exact .inr (Yd _)
   ·intro b hb
    rw [hz1] at hb
    rw [Yad,hz1]
    simp only [List.mem_cons,List.not_mem_nil,or_false] at hb
    rcases hb with rfl | rfl | rfl
    ·exact VR _
    ·exact Va (Va hlt)
    ·exact Va (VR _)
   ·refine told (ps.filterMap (es[·]?)) ((hp.filterMap _).trans (by rw [filterMap_getElem?_range])) vs ?_
    exact ZoA hps vs hvl hv
  ·exact plain (ZdA t.place) es.toList (.refl _) rfl (Zns hd hf hT hb (by cases q:(!t.plain && decide (es.size > 1)) with | false=>rfl | true=>exact absurd (show (!false && (!t.plain && decide (es.size > 1)))=true by rw [q]; rfl) c))
def ZnH{r:Addr}{Q:Bool->Shared->Prop}(hT:s.TypeIs (.ref r) "set")(h:Q false s):wpAny (model prog w) A (Builtin.List.listLengthHint (.ref r)) Q E s:=by
 unfold Builtin.List.listLengthHint
 refine Ya (wpAny_specialOf hT (show typeLookup (.type "set") "__len__"=pure (some (.builtin "set.__len__")) from by rw [typeLookup_type,builtinLookup_eq_fast]; kernel_rfl) ?_)
 generalize hid:("set.__len__":String)=id0
 wp_delta
 rw [show splitId id0=some ("set","__len__") from by subst hid; decide +kernel]
 subst hid
 refine Ya (VE (T:="set") (b:=true) hT (by rw [isSubtype_type]; kernel_rfl) ?_)
 refine VU (λhab=>absurd hab (by decide)) (λ_=>?_)
 refine VU (λ_=>?_) (λhab=>absurd (by decide +kernel) hab)
 refine Ya (wpAny_typeOf hT ?_)
 exact Yb h
theorem Jz.type{a:Addr}{S:Int->Prop}{n:Nat}(x:Jz prog w s.heap a S n):s.TypeIs (.ref a) "set":=let ⟨o,_,_,_,ho,hex,_⟩:=x; ⟨o,ho,hex.1⟩
abbrev Zd2(c:Nat):Obj:={ cls:=.type "list",data:=.seq #[] c }
def ZjA{a L:Addr}{S:Int->Prop}{n c₀:Nat}{res:Value}{R:Result->Shared->Prop}(hh:A.handled=none)(hS:Jz prog w s.heap a S n)(hn:n < scanBound)(hLa:L ≠ a)(hL:s.heap.get? L=some (Zd2 c₀))
  (hR:∀ h' d tk (acc:Array Value) (ks:List Int) c',(∀ b o,b ≠ L->s.heap.get? b=some o->h'.get? b=some o)->h'.get? L=some { cls:=.type "list",dict:=none,data:=.seq acc c',slots:=#[] }->IntsAre acc.toList ks->ks.Nodup->(∀ k,k∈ks ↔ S k)->acc.size<=n ->
   R (.ok (.ret res)) { s with heap:=h',drawn:=d,toks:=tk }) :
  wpAny (model prog w) A.in1 (Builtin.List.listExtendWith (.ref L) (.ref a) res)
   (λfin s'=>match fin with | .done f=>R (.ok f) s' | .again c'=>c'.quiet=true/\codeAny (model prog w) A c' R s') (λe s'=>R (.error e) s') s:=by
 unfold Builtin.List.listExtendWith
 refine Ya (wpAny_typeOf (T:="set") hS.type ?_)
 have h1:Builtin.List.listSameRef (.ref L) (.ref a)=false:=by simp [Builtin.List.listSameRef,hLa]
 have h2:(Value.type "set" == Value.type "list")=false:=by decide
 have h3:(Value.type "set" == Value.type "tuple")=false:=by decide
 simp only [h1,h2,h3,Bool.or_false,Bool.false_eq_true,if_false]
 have hLlt:=Yf hL
 refine Ya (Zmm (A:=A.in1) hh hS hn λh' d I fp m P St hk W hst hI hfp hfp2 hm told=>?_)
 have hLf:L ∉ fp:=λz=>by
  rcases hfp L z with e | e
  ·exact hLa e
  ·exact absurd hLlt (Nat.not_lt.mpr e)
 have hL1:h'.get? L=some (Zd2 c₀):=hk _ _ hL
 have key:∀ (h1:Heap) (c₁:Nat),(∀ b o,b ≠ L->h'.get? b=some o->h1.get? b=some o)->h1.get? L=some (Zd2 c₁)->codeAny (model prog w) A (.builtin "list.extend.loop" ⟨[.ref L,.ref I,res],[]⟩) R { s with heap:=h1,drawn:=d }:=by
  intro h1 c₁ k1 g1
  refine codeAny_extend_loopS W.toS (fits_of_scanBound (YA hm hn)) L hLf res m 0 _ #[] c₁ rfl (YD _) (W.frame 0 h' h1 hst λb hb o e=>k1 b o (λz=>hLf (z ▸ hb)) e) g1 (ItemsOf.nil _) λs' acc' c' hmv g' hacc=>?_
  rw [Moved.eq_with hmv]
  obtain⟨ks,i1,i2,i3⟩:=told acc'.toList (by rw [YK]; exact hacc.1) λj v e=>hacc.2 j v (by rw [<- YJ]; exact e)
  refine hR s'.heap d s'.toks acc' ks c' (λb o hb e=>hmv.heap b o (λz=>?_) (k1 b o hb (hk b o e))) g' i1 i2 i3 (by rw [hacc.1]; exact hm)
  rcases Yn.mp z with z | z
  ·exact hb z
  ·rw [YF.mp z] at e
   exact absurd (Yf e) (Nat.not_lt.mpr hI)
 have hS':Jz prog w h' a S n:=hS.keep λo e=>hk _ _ e
 refine Ya (YM (ZnH (s:={ s with heap:=h',drawn:=d }) hS'.type ?_))
 refine VU (λ_=>?_) (λ_=>Yb ⟨V0 F.plain_extend_loop _,key h' c₀ (λb o _ e=>e) hL1⟩)
 refine Ya (Vw (Ya ?_))
 show wpAny _ _ (updateSeq L (·.push .none) >>= λ_=>updateSeq L (·.pop)) _ _ _
 refine Ya (wpAny_updateSeq hL1 rfl ?_)
 have g2:=Yar (Obj.mapSeq (·.push Value.none)) hL1 rfl
 refine wpAny_updateSeq (hz:=by seq_fits) g2 rfl ?_
 have g3:=Yar (Obj.mapSeq (·.pop)) g2 rfl
 exact Yb ⟨V0 F.plain_extend_loop _,key _ _ (λb o hb e=>(Vo _ _ (Ne.symm hb)).trans ((Vo _ _ (Ne.symm hb)).trans e)) g3⟩
def Zhn{a:Addr}{S:Int->Prop}{n:Nat}{Q:List Value->Shared->Prop}(hh:A.handled=none)(hS:Jz prog w s.heap a S n)(hn:n < scanBound)
  (h:∀ h' d tk (vs:List Value) (ks:List Int),(∀ b o,s.heap.get? b=some o->h'.get? b=some o)->IntsAre vs ks->ks.Nodup->(∀ k,k∈ks ↔ S k)->vs.length<=n->s.heap.objs.size<=h'.objs.size->Q vs { s with heap:=h',drawn:=d,toks:=tk }) :
  wpAny (model prog w) A (collect (.ref a)) Q E s:=by
 unfold collect
 refine Ya (wpAny_runValue (Vj entry_proto_collect' ?_))
 rw [VA F.plain_proto_collect _]
 show wpAny _ A.in1 (newList [] >>= λl=>again (.builtin "list.__iadd__" ⟨[l,.ref a],[]⟩)) _ _ s
 refine Ya (YW ?_)
 refine Yb ⟨V0 YaD _,Vj entry_list_iadd' ?_⟩
 rw [VA YaD _]
 show wpAny _ A.in1 (Builtin.List.listExtendWith (.ref s.heap.objs.size) (.ref a) (.ref s.heap.objs.size)) _ _ _
 have key:=ZjA (A:=A) (s:={ s with heap:=s.heap.push (Zd2 0) }) (L:=s.heap.objs.size) (c₀:=0) (res:=.ref s.heap.objs.size) (n:=n) (S:=S)
  (R:=λ(q:Result) (s':Shared)=>∃ (h':Heap) (d:Drawn) (tk:Nat) (acc:Array Value) (ks:List Int) (c':Nat),q=.ok (.ret (.ref s.heap.objs.size))/\s'={ s with heap:=h',drawn:=d,toks:=tk }/\(∀ b o,s.heap.get? b=some o->h'.get? b=some o) /\
   h'.get? s.heap.objs.size=some { cls:=.type "list",dict:=none,data:=.seq acc c',slots:=#[] }/\IntsAre acc.toList ks/\ks.Nodup/\(∀ k,k∈ks ↔ S k)/\acc.size<=n)
  hh (hS.keep λo e=>Yh _ e) hn (Vm hS.lt) (Yo _ rfl)
  (λh' d tk acc ks c' hk g i1 i2 i3 i4=>⟨h',d,tk,acc,ks,c',rfl,rfl,λb o e=>hk b o (Ym (Yf e)) (Yh _ e),g,i1,i2,i3,i4⟩)
 refine Yz key (λfin s' x=>?_) λe s' x=>?_
 ·cases fin with
  | done f =>
   obtain⟨h',d,tk,acc,ks,c',e,rfl,hk,g,i1,i2,i3,i4⟩:=x
   cases e
   show wpAny _ A (load s.heap.objs.size >>= _) _ _ _
   exact Ya (VI g (Yb (h h' d tk acc.toList ks hk i1 i2 i3 (by rw [YK]; exact i4) (Yt (Yf g)))))
  | again c₁ =>
   refine⟨x.1,Y2 x.2 λq s₂ y=>?_⟩
   obtain⟨h',d,tk,acc,ks,c',rfl,rfl,hk,g,i1,i2,i3,i4⟩:=y
   show wpAny _ A (load s.heap.objs.size >>= _) _ _ _
   exact Ya (VI g (Yb (h h' d tk acc.toList ks hk i1 i2 i3 (by rw [YK]; exact i4) (Yt (Yf g)))))
 ·obtain⟨_,_,_,_,_,_,e',_⟩:=x
  cases e'
def ZeZ{ks:List Int}(h:ks.Pairwise (·<=·))(hn:ks.Nodup):ks.Pairwise (· < ·):=by
 have:=List.Pairwise.and h hn
 exact this.imp λ⟨h1,h2⟩=>Int.lt_iff_le_and_ne.mpr ⟨h1,h2⟩
theorem ZbY{h:Heap}{a b:Addr}{o:Obj}{vs:List Value}{out:Array Value}(hb:b ≠ a)(e:h.get? b=some o):(sortedHeap h a vs out).get? b=some o:=by
 unfold sortedHeap
 exact (Vo _ _ (Ne.symm hb)).trans (Yh _ (Yh _ ((Vo _ _ (Ne.symm hb)).trans e)))
def ZcO{h:Heap}{a:Addr}{vs:List Value}{n:Nat}{out:Array Value}(e:h.get? a=some (seqObj "list" vs.toArray n)):∃ c,(sortedHeap h a vs out).get? a=some { cls:=.type "list",dict:=none,data:=.seq out c,slots:=#[] }:=by
 unfold sortedHeap
 exact⟨_,Yaf (Yh _ (Yh _ (Yaf e λ_=>#[]))) λ_=>out⟩
def Zjx{a:Addr}{S:Int->Prop}{n:Nat}{Q:VSP}(hh:A.handled=none)(hS:Jz prog w s.heap a S n)(hn:n < 64)
  (h:∀ (h':Heap) d tk (D:Addr) (out:Array Value) (ks:List Int) c,(∀ b o,s.heap.get? b=some o->h'.get? b=some o)->s.heap.objs.size<=D->h'.get? D=some { cls:=.type "list",dict:=none,data:=.seq out c,slots:=#[] }->IntsAre out.toList ks->ks.Pairwise (· < ·)->(∀ k,k∈ks ↔ S k) ->
   Q (.ref D) { s with heap:=h',drawn:=d,toks:=tk }):wpAny (model prog w) A (call (.builtin "sorted") [.ref a]) Q E s:=by
 refine Calls.call_function_entry kind_sorted plain_sorted entry_sorted (args_sorted1 _) ?_
 unfold Builtin.«sorted»
 refine Ya (m:=checkCount "sorted" 1 1 _) (Yb ?_)
 refine Ya (Zhn (A:=A.in1) hh hS (Nat.lt_trans hn (by decide)) λh' d tk vs ks hk i1 i2 i3 i4 hle=>?_)
 have hv:vs.length < 64:=by omega
 refine Ya (VZ ?_ (Yj (Yt hv) (by decide)))
 have hoL:(h'.push (seqObj "list" vs.toArray 0)).get? h'.objs.size=some (seqObj "list" vs.toArray 0):=Yo _ rfl
 refine Ya (YM (YX slot_list_sort ⟨_,hoL,rfl⟩ entry_list_sort (list_sort_tree hoL i1 hv λout ks' a1 a2 a3=>⟨_,rfl,?_⟩) (args_list_sort _)))
 obtain⟨c,e1⟩:=ZcO hoL (out:=out)
 refine Yb ⟨_,rfl,h _ d tk h'.objs.size out ks' c (λb o e=>?_) hle e1 a1 (ZeZ a3 (a2.nodup_iff.mpr i2)) λk=>(a2.mem_iff).trans (i3 k)⟩
 exact ZbY (Ym (Yu (Yf e) hle)) (Yh _ (hk b o e))
end
end My
namespace My
open PySem PySem.Spec L2
open PyProof.Rows hiding St
def Zb6:∀ {ns:List Int}{us:List Value},Zw (ns.map V.int) us->IntsAre us ns
 | [],us,h=>by cases h; exact .nil
 | n :: ns,us,h=>by
  cases h with
  | cons h1 h2 =>
   obtain⟨t,rfl⟩:=h1
   exact .cons n t (Zb6 h2)
theorem Zgo:∀ {ns:List Int}{us:List Value},IntsAre us ns->Zw (ns.map V.int) us
 | _,_,.nil=>.nil
 | _,_,.cons n t h=>.cons ⟨t,rfl⟩ (Zgo h)
section
variable {X:Cx}{e:Expr}{t:TA}{p p' pos pos':Pos}
theorem ZhD{pins:List (Addr × Obj)}{σ:St}{H:Hp}{s:Shared}(I:Inv X pins σ H s)(d:Drawn):Inv X pins σ H { s with drawn:=d }:=⟨I.ok,I.os,I.bare,I.base,I.loc,I.cell,I.free,I.freeC,I.pin,I.hok,I.len⟩
theorem Jz.few{prog:Program}{w:World}{h:Heap}{a:Addr}{S:Int->Prop}{n:Nat}(x:Jz prog w h a S n)(hb:∀ k,S k->0<=k/\k < 60):Jz prog w h a S 60:=by
 obtain⟨o,es,ep,t,ho,hex,hd,hT,hf,hA,hN,hM,hz⟩:=x
 refine⟨o,es,ep,t,ho,hex,hd,hT,hf,hA,hN,hM,?_⟩
 have hs:es.toList.map JT ⊆ (List.range 60).map λk:Nat=>(k:Int):=λk hk=>by
  obtain⟨h1,h2⟩:=hb k ((hM k).mp hk)
  exact Yk.mpr ⟨k.toNat,Vk.mpr (by omega),by omega⟩
 have:=VJ hN hs
 simpa using this
def Zf0:List V->Hp->VK->Prop:=λxs H Q=>∃ (a:Addr) (ns:List Int),xs=[.ref a]/\H a=some (.lst (ns.map V.int))/\ns.length < 4000/\(∀ k∈ns,0<=k/\k < 60) /\
 ∀ l H2 (ks:List Int),H l=none->Zk H H2->H2 l=some (.lst (ks.map V.int))->ks.Pairwise (· < ·)->(∀ k,k∈ks ↔ k∈ns)->Q (.ref l) H2
def Zlc(hg:Gl X "sorted")(hm:X.mg "sorted"=none)(hg2:Gl X "set")(hm2:X.mg "set"=none)(ha:QA X [e] t)(hp:Zu e=true:=by rfl)(hc:X.calm=true:=by rfl) :
  QE X (.Call (.Name "sorted" p) [.Call (.Name "set" p') [e] [] pos'] [] pos) (tCB Zf0 t):=⟨by
 intro pins s σ H Q I h
 refine Vg (Zbq I hg hm (show bootBuiltins "sorted"=some (.builtin "sorted") by decide +kernel) ?_ (by decide) (by decide))
 refine PyProof.Rows.callWith_builtin1 ?_ rfl rfl
 show wpAny _ _ (spliced ((false,eval (.Call (.Name "set" p') [e] [] pos') X.env) :: [])) _ _ s
 refine Calls.spliced_cons ?_
 refine Vg (Zbq I hg2 hm2 (show bootBuiltins "set"=some (.type "set") by decide +kernel) ?_ (by decide) (by decide))
 refine Vb (ZZ (ha.h pos' pins s σ H _ I h) λus s1 ⟨vs,H1,I1,r1,q1⟩=>?_) (Zq hp) rfl
 obtain⟨a,ns,rfl,e1,hl,hb,q⟩:=q1
 obtain⟨u,rfl,ru⟩:=JE r1
 cases ru
 obtain⟨_,its,n,hv,g⟩:=I1.hok a _ e1
 have hi:=Zb6 hv
 refine Zg1 (I1.ok.hd hc) ⟨_,g,rfl,n,rfl⟩ (by simpa using hi) (by have:scanBound=4096:=rfl; omega) λh' tk hS hk=>Calls.spliced_nil ?_
 refine Zjx (s:={ s1 with heap:=h',toks:=tk }) (I1.ok.hd hc) (hS.few λk hk=>hb k hk) (by decide) λh2 d tk2 D out ks c hk2 hle g2 i1 i2 i3=>?_
 have hD:s1.heap.objs.size<=D:=Yj (Yt hS.lt) hle
 have hf:H1 D=none:=I1.hok.fresh hD
 have hkl:ks.length<=sizeLine:=by
  have hs:ks ⊆ (List.range 60).map λk:Nat=>(k:Int):=λk hk=>by
   obtain⟨h1,h2⟩:=hb k ((i3 k).mp hk)
   exact Yk.mpr ⟨k.toNat,Vk.mpr (by omega),by omega⟩
  have hnd:ks.Nodup:=i2.imp λh e=>by rw [e] at h; exact Int.lt_irrefl _ h
  have:=VJ hnd hs
  exact Nat.le_trans (by simpa using this) (show 60<=sizeLine by decide)
 exact⟨.ref D,upd H1 D (.lst (ks.map V.int)),ZhD (I1.laid (t':=tk2) (o:=.lst (ks.map V.int)) (λb u e=>hk2 b u (hk b u e)) hD (show ZW X.prog X.w _ h2 _ (.lst (ks.map V.int)) from ⟨by simpa using hkl,out.toList,c,Zgo i1,by simpa using g2⟩)) d,rfl,q D _ ks hf (ZO hf _) Zf i2 i3⟩⟩
end
section
variable {X:Cx}{a b o e:Expr}{es:List Expr}{ta tb to te:TE}{t:TA}{name:Str}{apos cpos pos p p2:Pos}{id:String}{r:V->List V->Hp->VK->Prop}
def Zr8(ha:QE X a ta)(hb:QE X b tb)(hs:ZeR b:=by intro _ _; rfl):QE X (.Subscript a b pos) (tOp ZsC ta tb):=⟨Zm7 ZrP ha.h hb.h hs⟩
def ZsA:V->Option Int->Option Int->Hp->VK->Prop:=λx lo hi H Q=>∃ z,x=.str z/\z.length<=1000/\Q (.str (Txt.slice z lo hi)) H
def Zil:Value->Option (Int × Tok)
 | .int i t=>some (i,t)
 | _=>none
def ZlA{v:Value}{o:Option Int}(h:IsPart v o):partValue (Zil v)=v/\(Zil v).map (·.1)=o:=by
 cases h with
 | none=>exact⟨rfl,rfl⟩
 | int i t=>exact⟨rfl,rfl⟩
def Zqy:SlR X ZsA:=by
 intro pins s σ H x v vl vu lo hi sl Q I rx hs pl pu h
 obtain⟨z,rfl,hz,q⟩:=h
 obtain⟨t,rfl⟩:=rx
 obtain⟨e1,e2⟩:=ZlA pl
 obtain⟨e3,e4⟩:=ZlA pu
 obtain⟨os,g1,g2,g3⟩:=hs
 have hz2:z.length<=sizeLine:=Yj hz (by decide)
 refine⟨"str",_,F.slot_str_getitem.lookup,typeIs_str _ _ _,?_⟩
 refine wpAny_getItem_str_slice (l:=Zil vl) (u:=Zil vu) (st:=none) ⟨os,g1,g2,by rw [e1,e3]; exact g3⟩ rfl ?_
 subst e2
 subst e4
 exact post_val_or_str ⟨Yj (Txt.slice_le z _ _) hz2,λt' k=>⟨.str _,H,I.tok _,⟨_,rfl⟩,q⟩⟩
def ZqL(ha:QE X a ta)(hb:QE X b tb):QE X (.Subscript a (.Slice none (some b) none p2) pos) (tSl ZsA ta ZeU (ZjC tb)):=⟨ZiA Zqy ha.h ZkN (Zk8 hb.h)⟩
def tXm(r:V->List V->Hp->VK->Prop)(to:TE)(t:TA):TE:=λσ H Q=>to σ H λx H1=>∃ z,x=.str z/\t σ H1 λvs H2=>r x vs H2 Q
def ZrW(slot:Slot "str" name id)(hty:typeOf (.builtin id)=pure (.type "method_descriptor"))(hm:MtM X id r)(ho:PE X o to)(ha:PA X (e :: es) t)
  (hbase:attributeBase o name X.env (eval o X.env)=eval o X.env:=by rfl)
  (hfew:((backTo cpos (starEach (e :: es) X.env)).all (λx=>!x.1) && (backToKw cpos (keywordEach [] X.env)).all (λx=>x.1.isSome)
   && decide ((e :: es).length + ([]:List Keyword).length + (if ([]:List Keyword).isEmpty then 0 else 1) < 30))=true:=by rfl)
  (hline:(apos.endLine == cpos.line)=true:=by rfl) (hs:starEach (e :: es) X.env=(false,eval e X.env) :: starEach es X.env:=by rfl) (hplain:(backTo cpos (starEach es X.env)).any (·.1)=false:=by rfl) :
  PE X (.Call (.Attribute o name apos) (e :: es) [] cpos) (tXm r to t):=by
 intro pins s σ H Q I h
 refine wpAny_Call_method_late hbase hfew hline rfl (ZZ (ho pins s σ H _ I h) λv s1 ⟨x,H1,I1,r1,z,e1,q1⟩=>?_)
 subst e1
 obtain⟨tk,rfl⟩:=r1
 refine⟨"str",id,PySem.F.plainAttrs_str,slot,hty,typeIs_str _ _ _,(λ_ e=>nomatch e),?_⟩
 have hA:=ha cpos pins s1 σ H1 _ I1 q1
 rw [hs] at hA ⊢
 refine V4 (by show (false || (backTo cpos (starEach es X.env)).any (·.1))=false; rw [hplain] <;> rfl) (Calls.evalArgs_plain ?_)
 exact ZZ hA λus s2 ⟨vs,H2,I2,r2,q2⟩=>hm pins s2 σ H2 (.str z) vs _ us Q I2 ⟨tk,rfl⟩ r2 q2
def ZnI:V->List V->Hp->VK->Prop:=λx vs H Q=>∃ z y,x=.str z/\vs=[.str y]/\Q (.int (Txt.find z y)) H
def ZpD:MtM X "str.find" ZnI:=by
 intro pins s σ H x vs v us Q I rx rv h
 obtain⟨z,y,rfl,rfl,q⟩:=h
 obtain⟨t,rfl⟩:=rx
 obtain⟨u,rfl,ru⟩:=JE rv
 obtain⟨t2,rfl⟩:=ru
 exact SC.find ⟨.int _,H,I.tok _,⟨_,rfl⟩,q⟩
def Zsq(ho:QE X o to)(ha:QA X [e] t)(hbase:attributeBase o "find" X.env (eval o X.env)=eval o X.env:=by rfl)(hline:(apos.endLine == cpos.line)=true:=by rfl)(hp:Zu e=true:=by rfl) :
  QE X (.Call (.Attribute o "find" apos) [e] [] cpos) (tXm ZnI to t):=⟨ZrW F.slot_str_find F.type_str_find ZpD ho.h ha.h hbase (by rw [Zq hp]; rfl) hline (Zq hp) rfl⟩
theorem ZcJ:∀ {ss:List Str}{us:List Value},Zw (ss.map V.str) us->StrsAre us ss
 | [],us,h=>by cases h; exact .nil
 | x :: ss,us,h=>by
  cases h with
  | cons h1 h2 =>
   obtain⟨t,rfl⟩:=h1
   exact .cons x t (ZcJ h2)
theorem ZeF:∀ {ss:List Str}{us:List Value},StrsAre us ss->Zw (ss.map V.str) us
 | _,_,.nil=>.nil
 | _,_,.cons x t h=>.cons ⟨t,rfl⟩ (ZeF h)
def ZnT:V->List V->Hp->VK->Prop:=λx vs H Q=>∃ z a ss,x=.str z/\vs=[.ref a]/\H a=some (.lst (List.map V.str ss))/\z.length<=16/\(ss.map (·.length)).sum + ss.length<=1048576/\Q (.str (Txt.join z ss)) H
def ZoV:MtM X "str.join" ZnT:=by
 intro pins s σ H x vs v us Q I rx rv h
 obtain⟨z,a,ss,rfl,rfl,e,h1,h2,q⟩:=h
 obtain⟨t,rfl⟩:=rx
 obtain⟨u,rfl,ru⟩:=JE rv
 cases ru
 obtain⟨_,its,n,hv,g⟩:=I.hok a _ e
 exact join_listW ⟨_,g,rfl,n,rfl⟩ (by simpa using ZcJ hv) h1 h2 λt' k=>⟨.str _,H,I.tok _,⟨_,rfl⟩,q⟩
def Zrw(ho:QE X o to)(ha:QA X [e] t)(hbase:attributeBase o "join" X.env (eval o X.env)=eval o X.env:=by rfl)(hline:(apos.endLine == cpos.line)=true:=by rfl)(hp:Zu e=true:=by rfl) :
  QE X (.Call (.Attribute o "join" apos) [e] [] cpos) (tXm ZnT to t):=⟨ZrW F.slot_str_join F.type_str_join ZoV ho.h ha.h hbase (by rw [Zq hp]; rfl) hline (Zq hp) rfl⟩
def ZmC(z:Str)(ss:List Str):(Txt.join z ss).length<=(ss.map (·.length)).sum + ss.length * z.length:=by
 show (Builtin.Str.glued z ss).length<=_
 rw [StrLaws.glued_eq_join]
 exact StrLaws.join_length_le z ss
end
def leS(a b:Str):Prop:=a.cps.toList<=b.cps.toList
def ZrY{a b:Str}(h:(!ltCps b.cps.toList a.cps.toList)=true):leS a b:=by
 rw [ltCps_eq,Bool.not_eq_true',decide_eq_false_iff_not] at h
 exact List.not_lt.mp h
def Zno{a b:Str}(h1:leS a b)(h2:leS b a):a=b:=by
 have:=List.le_antisymm h1 h2
 cases a; cases b
 exact congrArg Str.mk (Array.toList_inj.mp this)
def Zgr:∀ (p:Str) (l:List Str),risingS p l=true->(p :: l).Pairwise leS
 | p,[],_=>List.pairwise_singleton ..
 | p,x :: l,h=>by
  unfold risingS at h
  rw [VD] at h
  have ih:=Zgr x l h.2
  have hx:=ZrY h.1
  refine List.pairwise_cons.mpr ⟨λy hy=>?_,ih⟩
  rcases Yn.mp hy with rfl | hy
  ·exact hx
  ·exact List.le_trans hx ((List.pairwise_cons.mp ih).1 y hy)
theorem ZgS:∀ {l:List Str},sortedS l=true->l.Pairwise leS
 | [],_=>List.Pairwise.nil
 | x :: l,h=>Zgr x l h
def ZhO{l m:List Str}(h1:l.Pairwise leS)(h2:m.Pairwise leS)(p:l.Perm m):l=m:=List.Perm.eq_of_pairwise (λ_ _ _ _=>Zno) h1 h2 p
section
variable {X:Cx}{e:Expr}{t:TA}{p pos:Pos}
def ZdM:List V->Hp->VK->Prop:=λxs H Q=>∃ (a:Addr) (ss:List Str),xs=[.ref a]/\H a=some (.lst (ss.map V.str))/\ss.length < 64/\∀ l H2 (ts:List Str),H l=none->Zk H H2->H2 l=some (.lst (ts.map V.str))->ts.Pairwise leS->ts.Perm ss->Q (.ref l) H2
def Zgi:Jn X (.builtin "sorted") ZdM:=by
 intro pins s σ H xs us Q I r h
 obtain⟨a,ss,rfl,e,hl,q⟩:=h
 obtain⟨u,rfl,ru⟩:=JE r
 cases ru
 obtain⟨_,its,n,hv,g⟩:=I.hok a _ e
 have hi:=ZcJ hv
 have hil:its.length=ss.length:=by rw [<- hv.length,Ye]
 refine sorted_strs (vs:=its) ⟨_,g,rfl,n,rfl⟩ hi (by omega) λout ts o1 o2 o3=>?_
 have hD:s.heap.objs.size<=s.heap.objs.size + 1:=Vv _
 have hf:H (s.heap.objs.size + 1)=none:=I.hok.fresh hD
 have hz1:((s.heap.push (seqObj "list" #[] 0)).update s.heap.objs.size (Obj.mapSeq (· ++ its.toArray))).objs.size=s.heap.objs.size + 1:=by rw [Yaa,size_push']
 have hk:∀ b o,s.heap.get? b=some o->(sortedAll s.heap its out).get? b=some o:=λb o eb=>by
  have hb:=Yf eb
  unfold sortedAll
  exact ZbY (Ym (Va hb)) (Yh _ ((Vo _ _ (Vm hb)).trans (Yh _ eb)))
 obtain⟨c,e1⟩:∃ c,(sortedAll s.heap its out).get? (s.heap.objs.size + 1)=some { cls:=.type "list",dict:=none,data:=.seq out c,slots:=#[] }:=by
  unfold sortedAll
  refine ZcO (n:=0) ?_
  rw [<- hz1]
  exact Yo _ rfl
 have hol:ts.length<=sizeLine:=by rw [o2.length_eq]; exact Yj (Yt hl) (by decide)
 exact⟨.ref (s.heap.objs.size + 1),upd H (s.heap.objs.size + 1) (.lst (ts.map V.str)),I.laid (t':=s.toks) (o:=.lst (ts.map V.str)) hk hD (show ZW X.prog X.w _ _ _ (.lst (ts.map V.str)) from ⟨by simpa using hol,out.toList,c,ZeF o1,by simpa using e1⟩),rfl,q _ _ ts hf (ZO hf _) Zf (ZgS o3) o2⟩
def ZeH(hg:Gl X "sorted")(hm:X.mg "sorted"=none)(ha:QA X [e] t)(hp:Zu e=true:=by rfl):QE X (.Call (.Name "sorted" p) [e] [] pos) (tCB ZdM t) :=
 ⟨Zbo Zgi hg hm (by decide +kernel) ha.h (by decide) (by decide) (Zq hp) rfl⟩
end
section
variable {prog:Program}{w:World}{A:Around}{E:VSP}{s:Shared}
def Zl2(prog:Program)(w:World)(A:Around)(s:Shared)(u v:Value):Prop:=∀ (E:VSP) (Q:Bool->Shared->Prop),Q true s->wpAny (model prog w) A (eqBool u v) Q E s
theorem Zl2.of{A:Around}{u v:Value}(h:SeqAt.EqAt A s u v true):Zl2 prog w A s u v:=λE Q q=>h prog w E Q q
def Zl2.refs{a b:Addr}(h:∀ (E:VSP) (Q:VSP),Q (.bool true) s->wpAny (model prog w) A (richCompare .Eq (.ref a) (.ref b)) Q E s):Zl2 prog w A s (.ref a) (.ref b):=λE Q q=>by
 unfold eqBool
 refine YM ?_
 refine VU (λ_=>Ya (Vw (Yb q))) (λ_=>?_)
 exact Ya (h E _ (VC q))
def Znt{l b:Addr}{items items2:Array Value}{Q:VSP}(hl:s.heap.IsTuple l items)(hb:s.heap.IsTuple b items2)(hz:items.size=items2.size)(hu:A.units < cLine)
  (he:∀ j (h1:j < items.size) (h2:j < items2.size),Zl2 prog w A.in1 s items[j] items2[j]) (h:Q (.bool false) s):wpAny (model prog w) A (richCompare .NotEq (.ref l) (.ref b)) Q E s:=by
 obtain⟨o1,g1,c1,n1,d1⟩:=id hl
 obtain⟨o2,g2,c2,n2,d2⟩:=id hb
 have t1:s.TypeIs (.ref l) "tuple":=⟨o1,g1,c1⟩
 have t2:s.TypeIs (.ref b) "tuple":=⟨o2,g2,c2⟩
 refine wpAny_richCompare_same_room (op:=.NotEq) t1 t2 F.slot_tuple_ne (YX F.slot_tuple_ne t1 F.entry_tuple_ne ?_ (F.args_tuple_ne_2 _ _)) hu
 show wpAny _ _ (slotArgs "__ne__" 1 ⟨[.ref l,.ref b],[]⟩ >>= _) _ _ s
 refine Ya (Yb ?_)
 dsimp only
 refine Ya (VE (T:="tuple") (b:=true) t2 AutoSeq1.sub_tuple_tuple ?_)
 rw [if_neg (by decide)]
 refine Ya (Yax g1 d1 (Ya (Yax g2 d2 ?_)))
 refine Ya (VT _ (λrest b s'=>b.1=none/\s'=s/\∃ i,rest=(items.toList.zip items2.toList).drop i) _ ?_ ?_ _ _ ⟨rfl,rfl,0,rfl⟩)
 ·rintro⟨y,x⟩ rest b' s' ⟨hb',rfl,i,hi⟩
  have hlt:i < (items.toList.zip items2.toList).length:=by
   rcases Nat.lt_or_ge i (items.toList.zip items2.toList).length with h' | h'
   ·exact h'
   ·rw [List.drop_of_length_le h'] at hi; cases hi
  have hlt':=hlt
  rw [Vh,YK,YK] at hlt'
  have k1:i < items.size:=by omega
  have k2:i < items2.size:=by omega
  rw [Yak hlt] at hi
  injection hi with hyx hrest
  have hy:y=items[i]:=by have:=congrArg Prod.fst hyx; simpa using this
  have hx:x=items2[i]:=by have:=congrArg Prod.snd hyx; simpa using this
  subst hy hx
  refine Ya (he i k1 k2 _ _ ?_)
  rw [if_neg (by decide)]
  exact Yb ⟨rfl,rfl,i + 1,hrest⟩
 ·rintro⟨b1,b2⟩ s' ⟨hb',rfl,_⟩
  simp only at hb'
  subst hb'
  dsimp only
  refine Yb ⟨_,rfl,?_⟩
  rw [show Builtin.Tuple.tupleCompareSizes CmpOp.NotEq items.size items2.size=Value.bool false by rw [hz]; simp [Builtin.Tuple.tupleCompareSizes]]
  exact⟨(λz=>nomatch z),h⟩
def Znz{l b:Addr}{items items2:Array Value}{Q:VSP}(hl:s.heap.IsTuple l items)(hb:s.heap.IsTuple b items2)(hz:items.size=items2.size)(hu:A.units < cLine)
  (he:∀ j (h1:j < items.size) (h2:j < items2.size),Zl2 prog w A.in1 s items[j] items2[j]) (h:Q (.bool true) s):wpAny (model prog w) A (richCompare .Eq (.ref l) (.ref b)) Q E s:=by
 obtain⟨o1,g1,c1,n1,d1⟩:=id hl
 obtain⟨o2,g2,c2,n2,d2⟩:=id hb
 have t1:s.TypeIs (.ref l) "tuple":=⟨o1,g1,c1⟩
 have t2:s.TypeIs (.ref b) "tuple":=⟨o2,g2,c2⟩
 refine wpAny_richCompare_same_room (op:=.Eq) t1 t2 F.slot_tuple_eq (YX F.slot_tuple_eq t1 F.entry_tuple_eq ?_ (F.args_tuple_eq_2 _ _)) hu
 show wpAny _ _ (slotArgs "__eq__" 1 ⟨[.ref l,.ref b],[]⟩ >>= _) _ _ s
 refine Ya (Yb ?_)
 dsimp only
 refine Ya (VE (T:="tuple") (b:=true) t2 AutoSeq1.sub_tuple_tuple ?_)
 rw [if_neg (by decide)]
 refine Ya (Yax g1 d1 (Ya (Yax g2 d2 ?_)))
 refine Ya (VT _ (λrest b s'=>b.1=none/\s'=s/\∃ i,rest=(items.toList.zip items2.toList).drop i) _ ?_ ?_ _ _ ⟨rfl,rfl,0,rfl⟩)
 ·rintro⟨y,x⟩ rest b' s' ⟨hb',rfl,i,hi⟩
  have hlt:i < (items.toList.zip items2.toList).length:=by
   rcases Nat.lt_or_ge i (items.toList.zip items2.toList).length with h' | h'
   ·exact h'
   ·rw [List.drop_of_length_le h'] at hi; cases hi
  have hlt':=hlt
  rw [Vh,YK,YK] at hlt'
  have k1:i < items.size:=by omega
  have k2:i < items2.size:=by omega
  rw [Yak hlt] at hi
  injection hi with hyx hrest
  have hy:y=items[i]:=by have:=congrArg Prod.fst hyx; simpa using this
  have hx:x=items2[i]:=by have:=congrArg Prod.snd hyx; simpa using this
  subst hy hx
  refine Ya (he i k1 k2 _ _ ?_)
  rw [if_neg (by decide)]
  exact Yb ⟨rfl,rfl,i + 1,hrest⟩
 ·rintro⟨b1,b2⟩ s' ⟨hb',rfl,_⟩
  simp only at hb'
  subst hb'
  dsimp only
  refine Yb ⟨_,rfl,?_⟩
  rw [show Builtin.Tuple.tupleCompareSizes CmpOp.Eq items.size items2.size=Value.bool true by rw [hz]; simp [Builtin.Tuple.tupleCompareSizes]]
  exact⟨(λz=>nomatch z),h⟩
end
section
variable {X:Cx}{pins:List (Addr × Obj)}{σ:St}{H:Hp}{s:Shared}{a b:Expr}{ta tb:TE}{pos:Pos}{k:Nat}
def Zq2{kvs:List (ZU × V)}{vs:List (ZU × Value)}(r:KV kvs vs){i:Nat}{kv:ZU × V}{k:ZU}{v:Value}(h1:kvs[i]?=some kv)(h2:vs[i]?=some (k,v)):kv.1=k/\ZF kv.2 v:=by
 induction r generalizing i with
 | nil=>simp at h1
 | cons h _ ih =>
  cases i with
  | zero =>
   simp at h1 h2
   subst h1
   subst h2
   exact h
  | succ i=>exact ih (by simpa using h1) (by simpa using h2)
inductive EqP (H:Hp):V->V->Nat->Prop where
 | deep {x y:V}{n:Nat}(h:EqD H x y true n):EqP H x y n
 | dct {a b:Addr}{ka kb:List (ZU × V)}{n:Nat}(ha:Rd H a (.dK ka)) (hb:Rd H b (.dK kb)) (hl:ka.length=kb.length) (h:∀ (j:Nat) x y,ka[j]?=some x->kb[j]?=some y->x.1=y.1/\EqD H x.2 y.2 true n) (hN:(ka.map (·.1)).Nodup):EqP H (.ref a) (.ref b) (n + 2)
 | tup {a b:Addr}{xs ys:List V}{n:Nat}(ha:H a=some (.tup xs)) (hb:H b=some (.tup ys)) (hl:xs.length=ys.length) (h:∀ (j:Nat) x y,xs[j]?=some x->ys[j]?=some y->EqP H x y n):EqP H (.ref a) (.ref b) (n + 2)
theorem ZcP:∀ {vs:List (ZU × Value)}{j:Nat}{k:ZU}{y:Value},(vs.map (·.1)).Nodup->vs[j]?=some (k,y)->valueAt vs k=some y
 | [],j,k,y,_,h=>by simp at h
 | (k',y') :: vs,0,k,y,_,h=>by
  simp at h
  obtain⟨rfl,rfl⟩:=h
  simp [valueAt]
 | (k',y') :: vs,j + 1,k,y,hN,h=>by
  rw [Yr,Y4] at hN
  have hm:(k,y)∈vs:=List.mem_of_getElem? (by simpa using h)
  have hne:k' ≠ k:=λe=>hN.1 (Yk.mpr ⟨_,hm,e.symm⟩)
  have ih:=ZcP hN.2 (show vs[j]?=some (k,y) by simpa using h)
  unfold valueAt at ih ⊢
  rw [List.find?_cons_of_neg (by simpa using hne)]
  exact ih
def ZkT{A:Around}{vb:List (ZU × Value)}(hN:(vb.map (·.1)).Nodup):∀ {va:List (ZU × Value)}(i:Nat),(∀ (j:Nat) k v,va[j]?=some (k,v)->∃ y,vb[i + j]?=some (k,y)/\SeqAt.EqAt A s v y true)->KeqHits A s vb va true
 | [],_,_=>.nil
 | (k,v) :: va,i,h=>by
  obtain⟨y,h1,h2⟩:=h 0 k v rfl
  exact .hit (e:=true) (ZcP hN h1) h2 (ZkT hN (i + 1) λj k v e=>by
   have:=h (j + 1) k v e
   rw [show i + 1 + j=i + (j + 1) by omega]
   exact this)
theorem EqP.at(I:Inv X pins σ H s){x y:V}{n:Nat}(h:EqP H x y n):∀ {A:Around}{u v:Value},ZF x u->ZF y v->A.units + n < cLine->Zl2 X.prog X.w A s u v/\((∃ a c,x=.ref a/\y=.ref c) ->
  (∀ (E:VSP) (Q:VSP),Q (.bool true) s->wpAny (model X.prog X.w) A (richCompare .Eq u v) Q E s)/\∀ (E:VSP) (Q:VSP),Q (.bool false) s->wpAny (model X.prog X.w) A (richCompare .NotEq u v) Q E s):=by
 induction h with
 | deep h =>
  intro A u v r1 r2 hu
  obtain⟨z1,z2⟩:=h.at I r1 r2 hu
  exact⟨.of z1,λw=>⟨λE Q q=>z2 w _ _ E Q q,λE Q q=>h.neAt I r1 r2 hu w _ _ E Q q⟩⟩
 | @dct a b ka kb n ha hb hl h hN =>
  intro A u v r1 r2 hu
  cases r1
  cases r2
  obtain⟨_,n1,va,kv1,d1⟩:=ZcR I.hok ha
  obtain⟨_,n2,vb,kv2,d2⟩:=ZcR I.hok hb
  have hkeys:ka.map (·.1)=kb.map (·.1):=Yav λj=>by
   rw [Yg,Yg]
   by_cases c:j < ka.length
   ·have c2:j < kb.length:=by omega
    rw [Yc c,Yc c2]
    exact congrArg some (h j _ _ (Yc c) (Yc c2)).1
   ·rw [Y6 (by omega),Y6 (by omega)]
  have hNb:(vb.map (·.1)).Nodup:=by rw [<- kv2.keys,<- hkeys]; exact hN
  have lA:va.length=ka.length:=kv1.length.symm
  have lB:vb.length=kb.length:=kv2.length.symm
  have hits:∀ A:Around,A.units + n < cLine->KeqHits A s vb va true:=λA hA=>ZkT hNb 0 λj k v e=>by
   have hj:j < ka.length:=by rw [<- lA]; exact (Yi.mp e).1
   have hj2:j < kb.length:=by omega
   obtain⟨p1,r1⟩:=Zq2 kv1 (Yc hj) e
   obtain⟨q,e2⟩:∃ q,vb[j]?=some q:=⟨_,Yc (by omega)⟩
   obtain⟨p2,r2⟩:=Zq2 kv2 (Yc hj2) (show vb[j]?=some (q.1,q.2) from e2)
   obtain⟨p3,hd⟩:=h j _ _ (Yc hj) (Yc hj2)
   refine⟨q.2,?_,(hd.at I r1 r2 hA).1⟩
   rw [Nat.zero_add,e2,<- p1,p3,p2]
  have e1:∀ (E:VSP) (Q:VSP),Q (.bool true) s->wpAny (model X.prog X.w) A (richCompare .Eq (.ref a) (.ref b)) Q E s:=λE Q q =>
   PySem.W.keq_eq (A:=A) n1 n2 d1 d2 (by omega) (r:=true) (λ_=>hits _ (by show A.units + 1 + n < cLine; omega)) (by rw [show (va.length == vb.length && true)=true by rw [lA,lB,hl]; simp]; exact q)
  refine⟨Zl2.refs e1,λ_=>⟨e1,λE Q q=>?_⟩⟩
  exact PySem.W.keq_ne (A:=A) n1 n2 d1 d2 (by omega) (r:=true) (λ_=>hits _ (by show A.units + 1 + n < cLine; omega)) (by rw [show (!(va.length == vb.length && true))=false by rw [lA,lB,hl]; simp]; exact q)
 | @tup a b xs ys n ha hb hl h ih =>
  intro A u v r1 r2 hu
  cases r1
  cases r2
  obtain⟨its,v1,t1,_⟩:=I.tuple (SqT.of ha)
  obtain⟨jts,v2,t2,_⟩:=I.tuple (SqT.of hb)
  have he:∀ j (h1:j < its.toArray.size) (h2:j < jts.toArray.size),Zl2 X.prog X.w A.in1 s its.toArray[j] jts.toArray[j]:=λj h1 h2=>by
   have k1:j < xs.length:=by rw [v1.length]; simpa using h1
   have k2:j < ys.length:=by rw [v2.length]; simpa using h2
   obtain⟨u1,q1,w1⟩:=v1.get (Yc k1)
   obtain⟨u2,q2,w2⟩:=v2.get (Yc k2)
   have g1:its.toArray[j]=u1:=by obtain⟨hh,this⟩:=List.getElem?_eq_some_iff.mp q1; simpa using this
   have g2:jts.toArray[j]=u2:=by obtain⟨hh,this⟩:=List.getElem?_eq_some_iff.mp q2; simpa using this
   rw [g1,g2]
   exact (ih j _ _ (Yc k1) (Yc k2) w1 w2 (by show A.units + 1 + n < cLine; omega)).1
  have hz:its.toArray.size=jts.toArray.size:=by simp [<- v1.length,<- v2.length,hl]
  have e1:∀ (E:VSP) (Q:VSP),Q (.bool true) s->wpAny (model X.prog X.w) A (richCompare .Eq (.ref a) (.ref b)) Q E s:=λE Q q=>Znz t1 t2 hz (by omega) he q
  exact⟨Zl2.refs e1,λ_=>⟨e1,λE Q q=>Znt t1 t2 hz (by omega) he q⟩⟩
def ZsK:R2:=λx y H Q=>∃ n a c,x=.ref a/\y=.ref c/\EqP H x y n/\n<=60/\Q (.bl true) H
def Ztu:R2:=λx y H Q=>∃ n a c,x=.ref a/\y=.ref c/\EqP H x y n/\n<=60/\Q (.bl false) H
def Zrj(hr:Room k X.A):OpR X (compareOp .Eq) ZsK:=by
 intro pins s σ H x y v u Q I rx ry h
 obtain⟨n,p,c,e1,e2,h,hn,q⟩:=h
 have hu:=hr.units
 exact ((h.at I rx ry (by omega)).2 ⟨p,c,e1,e2⟩).1 _ _ ⟨.bl true,H,I,rfl,q⟩
def Zta(hr:Room k X.A)(ha:QE X a ta)(hb:QE X b tb):QE X (.Compare a [.Eq] [b] pos) (tOp ZsK ta tb):=⟨Zdf (Zrj hr) ha.h hb.h (Zbp _)⟩
end
structure BlkM(X:Cx)(ts:List Str)(caps:List Nat)(cs:List Str)(sc:Scope)(cl:List (Str × Addr))(x:Str):Prop where
 clos:closureFor sc X.env=pure cl
 kind:sc.kind=.function
 own:∀ n,cellsFrom n sc.names cl=(x,n) :: cl
 own0:∀ n,cellsFrom n sc.names []=[(x,n)]
 loc:∀ y∈sc.names,y.2=.local->sc.names.lookup y.1=some .local
 sub:∀ y c,cl.lookup y=some c->X.env.cells.lookup y=some c
 has:∀ y,((relabel sc X.env).names.lookup y=some .cell\/(relabel sc X.env).names.lookup y=some .free)->y=x\/∃ c,cl.lookup y=some c
 len:caps.length=cs.length
 cap:∀ (k:Nat) i y,caps[k]?=some i->cs[k]?=some y->X.N[i]?=some y/\(X.env.kindOf y=some .cell\/X.env.kindOf y=some .free)
 capK:∀ y∈cs,(relabel sc X.env).names.lookup y=some .cell\/(relabel sc X.env).names.lookup y=some .free
 capX:∀ y∈cs,y ≠ x
section
variable {X:Cx}{pins:List (Addr × Obj)}{σ:St}{H:Hp}{s:Shared}{ts cs:List Str}{caps:List Nat}{sc:Scope}{cl:List (Str × Addr)}{fp:List Addr}{x:Str}
variable {tg it elt:Expr}{pos:Pos}{wi:TI}{g:TG}{te:TE}
end
section
variable {prog:Program}{w:World}{A:Around}{E:VSP}{s:Shared}
def Zhq{T:String}{r d:Addr}{n:Nat}{Pi:Nat->Value->Prop}{OK:Heap->Prop}{Q:List Value->Shared->Prop}(Ks:PySem.W.KdlSrc prog w T r d n Pi OK)(hh:A.handled=none)(hok:OK s.heap)(hn:n<=sizeLine)
  (h:∀ h' tk (acc:Array Value),(∀ b o,s.heap.get? b=some o->h'.get? b=some o)->ItemsOf Pi acc n->s.heap.objs.size<=h'.objs.size->Q acc.toList { s with heap:=h',toks:=tk }) :
  wpAny (model prog w) A (collect (.ref r)) Q E s:=by
 unfold collect
 refine Ya (wpAny_runValue (Vj entry_proto_collect' ?_))
 rw [VA F.plain_proto_collect _]
 show wpAny _ A.in1 (newList [] >>= λl=>again (.builtin "list.__iadd__" ⟨[l,.ref r],[]⟩)) _ _ s
 refine Ya (YW ?_)
 refine Yb ⟨V0 YaD _,Vj entry_list_iadd' ?_⟩
 rw [VA YaD _]
 show wpAny _ A.in1 (Builtin.List.listExtendWith (.ref s.heap.objs.size) (.ref r) (.ref s.heap.objs.size)) _ _ _
 have lt:=Ks.there _ hok
 have key:=PySem.W.kdl_extend (A:=A) (s:={ s with heap:=s.heap.push (Zd2 0) })
  (R:=λ(q:Result) (s':Shared)=>∃ (h':Heap) (tk:Nat) (acc:Array Value) (c':Nat),q=.ok (.ret (.ref s.heap.objs.size))/\s'={ s with heap:=h',toks:=tk }/\(∀ b o,s.heap.get? b=some o->h'.get? b=some o) /\
   h'.get? s.heap.objs.size=some { cls:=.type "list",dict:=none,data:=.seq acc c',slots:=#[] }/\ItemsOf Pi acc n)
  Ks hh (Ks.keep _ _ hok λb _ o e=>Yh _ e) s.heap.objs.size (Vm lt.1) (Vm lt.2) (.ref s.heap.objs.size) 0 (Yo _ rfl)
  (λh' tk acc c' hk g i1=>⟨h',tk,acc,c',rfl,rfl,λb o e=>hk b o (Ym (Yf e)) (Yh _ e),g,i1⟩) hn
 refine Yz key (λfin s' x=>?_) λe s' x=>?_
 ·cases fin with
  | done f =>
   obtain⟨h',tk,acc,c',e,rfl,hk,g,i1⟩:=x
   cases e
   show wpAny _ A (load s.heap.objs.size >>= _) _ _ _
   exact Ya (VI g (Yb (h h' tk acc hk i1 (Yt (Yf g)))))
  | again c₁ =>
   refine⟨x.1,Y2 x.2 λq s₂ y=>?_⟩
   obtain⟨h',tk,acc,c',rfl,rfl,hk,g,i1⟩:=y
   show wpAny _ A (load s.heap.objs.size >>= _) _ _ _
   exact Ya (VI g (Yb (h h' tk acc hk i1 (Yt (Yf g)))))
 ·obtain⟨_,_,_,_,e',_⟩:=x
  cases e'
end
section
variable {X:Cx}{c d:Expr}{p pos:Pos}{ta:TA}
def Zs9(hg:Gl X "max")(hm:X.mg "max"=none)(ha:QA X [c,d] ta)(hp:Zu c=true:=by rfl)(hq:Zu d=true:=by rfl)(hc:X.calm=true:=by rfl) :
  QE X (.Call (.Name "max" p) [c,d] [] pos) (tCB (λxs H Q=>∃ i j,xs=[.int i,.int j]/\Q (.int (if j > i then j else i)) H) ta):=⟨Zbo (Zlk hc) hg hm (by decide +kernel) ha.h (by decide) (by decide) (Zq hp) (by rw [Zq hq]; rfl)⟩
def Zoz{a b:Expr}{p2:Pos}{tx tb:TE}(ha:QE X a tx)(hb:QE X b tb):QE X (.Subscript a (.Slice none (some b) none p2) pos) (tSl (Zst X.K) tx ZeU (ZjC tb)):=⟨ZiA Zsg ha.h ZkN (Zk8 hb.h)⟩
def ZiC:List V->Hp->VK->Prop:=λxs H Q=>∃ (a:Addr) (kvs:List (ZU × V)) (ss:List Str),xs=[.ref a]/\Rd H a (.dK kvs)/\(kvs.map λkv=>kV kv.1)=ss.map V.str/\ss.length < 64/\∀ l H2 (ts:List Str),H l=none->Zk H H2->H2 l=some (.lst (ts.map V.str))->ts.Pairwise leS->ts.Perm ss->Q (.ref l) H2
def ZiL(hc:X.calm=true):Jn X (.builtin "sorted") ZiC:=by
 intro pins s σ H xs us Q I r h
 obtain⟨a,kvs,ss,rfl,e,hss,hl,q⟩:=h
 obtain⟨u,rfl,ru⟩:=JE r
 cases ru
 obtain⟨z,hd,vs,rel,dd⟩:=ZcR I.hok e
 obtain⟨ep,at_⟩:=dd.dictAt
 have hkl:kvs.length=ss.length:=by have:=congrArg List.length hss; simpa using this
 refine Calls.call_function_entry kind_sorted plain_sorted entry_sorted (args_sorted1 _) ?_
 unfold Builtin.«sorted»
 refine Ya (m:=checkCount "sorted" 1 1 _) (Yb ?_)
 refine Ya (Zhq (A:=X.A.in1) (kdl_dict hd) (I.ok.hd hc) at_ (by rw [<- rel.length]; exact z) λh' tk acc hk hacc hD=>?_)
 obtain⟨hs,hacc⟩:=hacc
 have hsz:acc.size=ss.length:=by rw [hs,<- rel.length,hkl]
 have hv:Zw (ss.map V.str) acc.toList:=by
  rw [<- hss]
  refine Zej ?_ λi x u e1 e2=>?_
  ·rw [Ye,hkl,YK]; exact hsz.symm
  ·obtain⟨k,x',g1,g2⟩:=hacc i u (by simpa using e2)
   have hi:i < kvs.length:=by have:=(List.getElem?_eq_some_iff.mp e1).1; simpa using this
   obtain⟨kv,v,g3,g4⟩:=ZjY rel hi
   rw [g1] at g4
   cases g4
   rw [Yg,g3] at e1
   cases e1
   exact ZmB g2
 have hS:=ZcJ hv
 have hal:acc.toList.length < 64:=by rw [YK,hsz]; exact hl
 refine Ya (VZ ?_ (Yj (Yt hal) (by decide)))
 have hoL:(h'.push (seqObj "list" acc.toList.toArray 0)).get? h'.objs.size=some (seqObj "list" acc.toList.toArray 0):=Yo _ rfl
 refine Ya (YM (YX slot_list_sort ⟨_,hoL,rfl⟩ entry_list_sort (list_sort_treeK strKind_oneLt hoL hS.keysOf (λv₁ v₂ rest e=>keyKind_strs (by rw [<- e]; exact hS)) hal λst' hp hs'=>⟨_,rfl,?_⟩) (args_list_sort _)))
 obtain⟨ts,h1,h2,h3⟩:=sorted_out_str hS hp hs'
 obtain⟨c,e1⟩:=ZcO hoL (out:=(arrOf st').map (·.2))
 have hf:H h'.objs.size=none:=I.hok.fresh hD
 have hol:ts.length<=sizeLine:=by rw [h2.length_eq]; exact Yj (Yt hl) (by decide)
 refine Yb ⟨_,rfl,?_⟩
 exact⟨.ref h'.objs.size,upd H h'.objs.size (.lst (ts.map V.str)),I.laid (t':=tk) (o:=.lst (ts.map V.str)) (λb o eb=>ZbY (Nat.ne_of_lt (Nat.lt_of_lt_of_le (Heap.lt_size eb) hD)) (Heap.get?_push_of_some _ (hk b o eb))) hD (show ZW X.prog X.w _ _ _ (.lst (ts.map V.str)) from ⟨by simpa using hol,((arrOf st').map (·.2)).toList,c,ZeF h1,by rw [Array.toArray_toList]; exact e1⟩),rfl,q _ _ ts hf (ZO hf _) Zf (ZgS h3) h2⟩
def ZpN{e:Expr}{t:TA}(hg:Gl X "sorted")(hm:X.mg "sorted"=none)(ha:QA X [e] t)(hp:Zu e=true:=by rfl)(hc:X.calm=true:=by rfl):QE X (.Call (.Name "sorted" p) [e] [] pos) (tCB ZiC t) :=
 ⟨Zbo (ZiL hc) hg hm (by decide +kernel) ha.h (by decide) (by decide) (Zq hp) rfl⟩
end
def Zfg:∀ {ns:List Int}{us:List Value},Zw (ns.map V.int) us->∃ ps:List (Int × Tok),us=ps.map (λp=>Value.int p.1 p.2)/\ps.map (·.1)=ns
 | [],us,h=>by cases h; exact⟨[],rfl,rfl⟩
 | n :: ns,us,h=>by
  cases h with
  | cons h1 h2 =>
   obtain⟨t,rfl⟩:=h1
   obtain⟨ps,rfl,e⟩:=Zfg h2
   exact⟨(n,t) :: ps,rfl,by rw [Yr,e]⟩
def Zed{ps:List (Int × Tok)}:∀ i,i<=ps.length->preSum (numAt ps.toArray) i=((ps.map (·.1)).take i).sum
 | 0,_=>rfl
 | i + 1,h=>by
  have hi:i < ps.length:=h
  show preSum (numAt ps.toArray) i + numAt ps.toArray i=_
  rw [Zed i (Yt hi),Yp,Yg,Yc hi]
  simp [numAt,hi]
section
variable {X:Cx}{e:Expr}{t:TA}{p pos:Pos}
def ZmZ:List V->Hp->VK->Prop:=λxs H Q=>∃ (a:Addr) (ns:List Int),xs=[.ref a]/\H a=some (.lst (ns.map V.int))/\Q (.int ns.sum) H
def ZlE(hc:X.calm=true):Jn X (.builtin "sum") ZmZ:=by
 intro pins s σ H xs us Q I r h
 obtain⟨a,ns,rfl,e,q⟩:=h
 obtain⟨u,rfl,ru⟩:=JE r
 cases ru
 obtain⟨_,its,n,hv,g⟩:=I.hok a _ e
 obtain⟨ps,rfl,ens⟩:=Zfg hv
 have hL:s.heap.IsList a (intItems ps.toArray):=⟨_,g,rfl,n,by simp [intItems]⟩
 refine call_sum_walkG (iter_intList hL λs₂ es st hfp hlI=>?_)
 subst es
 refine⟨_,_,_,_,_,_,numAt ps.toArray,rfl,Walks.list (A:=X.A.in1) (I.ok.hd hc) _ a hlI (intItems ps.toArray),st,hfp,(λ_ _=>intItems_at),λh' tk t' hk=>?_⟩
 have hsz:(intItems ps.toArray).size=ps.length:=by simp [intItems]
 rw [hsz,Zed _ (Yd _),ens,List.take_of_length_le (by rw [<- ens,Ye]; exact Yd _)]
 exact⟨.int ns.sum,H,I.kept (old_kept hk),⟨t',rfl⟩,q⟩
def Zlr(hg:Gl X "sum")(hm:X.mg "sum"=none)(ha:QA X [e] t)(hp:Zu e=true:=by rfl)(hc:X.calm=true:=by rfl):QE X (.Call (.Name "sum" p) [e] [] pos) (tCB ZmZ t) :=
 ⟨Zbo (ZlE hc) hg hm (by decide +kernel) ha.h (by decide) (by decide) (Zq hp) rfl⟩
end
section
variable {X:Cx}{pins:List (Addr × Obj)}{σ:St}{H:Hp}{s:Shared}{a:Addr}{kvs:List (ZU × V)}
end
section
variable {X:Cx}{o e f:Expr}{apos cpos:Pos}{td ty tx:TE}
end
section
variable {X:Cx}{a b:Expr}{p2 pos:Pos}{tx tb:TE}
end
end My
set_option maxHeartbeats 4000000
namespace L2
open PySem PySem.Spec PyProof.Rows PySem.W
def ZhL(H:Hp)(P:Addr)(q:Str):Prop:=∃ t,H P=some (.tbl #[.str q t])
def ZeN(mg:Str->Option Value)(h:Heap):Prop:=∃ bm o,mg "__builtins__"=some (.ref bm)/\bm ≠ builtinsNs/\h.get? bm=some o/\o.cls=.type "module"/\o.dict=some builtinsNs/\o.data=.plain
def ZlR{P:Program}{w:World}{K:PySem.W.Frag}{mg mb:Str->Option Value}{CX:CXT}{k:Nat}{fa a:Addr}{fd:FuncData}{x:Str}{sp:Sp}{s₁:Shared}{vs:List Value}{ns:List Int}{T:Addr->Option Str}
  (KX:K.In s₁.heap) (hns:s₁.heap.Ns mainGlobals mg) (hb:s₁.heap.Ns builtinsNs mb) (hbb:∀ x:Str,x ≠ "__name__"->mb x=bootBuiltins x) (hlim:s₁.heap.NoLimit) (hg:s₁.gens=#[])
  (ha:s₁.heap.get? a=some { cls:=.type "list",data:=.seq vs.toArray }) (hi:IntsAre vs ns) (hl:ns.length<=sizeLine) (hr:Room k callerA)
  (hT:∀ b q,T b=some q->(∃ c,CodeHd s₁.heap c b)/\s₁.heap.get? b=some (tabObj #[])) (hKT:∀ b q,T b=some q->K.lookup b=none)
  (hB:ZeN mg s₁.heap) (F:∀ base:Heap,K.In base->base.Ns mainGlobals mg->ZeN mg base->FnOk P w K mg base CX k fa fd [x] sp) (hbind:∀ (s:Shared) (u:Value),BindsTo s fd ⟨[u],[]⟩ [(x,u)])
  (hsp:∀ H:Hp,(∀ b q,T b=some q->ZhL H b q)->Jw K H a (ns.map V.int)->sp [.ref a] H (λv _=>v=.bl true) λ_ _ _=>False)
  (hCX:∀ H e s',CX [] H s₁ (λ_ _ _=>False) e s'->False) :
  codeAny (model P w) callerA (.call (.ref fa) ⟨[.ref a],[]⟩) (λr s'=>r=.ok (.ret (.bool true))/\OldK s₁.heap s'.heap/\s'.os=s₁.os/\AllBare s'.gens) s₁:=by
 have rv:=Zb6 hi
 have lenV:=hi.length
 let so:Obj:={ cls:=.type "list",data:=.seq vs.toArray }
 have hTa:T a=none:=by
  cases q:T a with
  | none=>rfl
  | some z =>
   have e:=(hT a z q).2
   rw [ha] at e
   cases e
 -- what may be tracked: the script,or a table
 have core:∀ H:Hp,(∀ b u,H b=some u->(b=a/\K.lookup a=none/\u=.frz so (.lst (ns.map V.int)))\/∃ q,T b=some q/\u=.tbl #[.str q 0])->(∀ b q,T b=some q->ZhL H b q)->Jw K H a (ns.map V.int) ->
   codeAny (model P w) callerA (.call (.ref fa) ⟨[.ref a],[]⟩) (λr s'=>r=.ok (.ret (.bool true))/\OldK s₁.heap s'.heap/\s'.os=s₁.os/\AllBare s'.gens) s₁:=by
  intro H hO hTH hS
  have hok:HOk P w H s₁.heap:=λb u e=>by
   rcases hO b u e with ⟨rfl,_,rfl⟩ | ⟨q,hq,rfl⟩
   ·exact⟨ha,by rw [Ye]; exact hl,vs,_,rv,ha⟩
   ·exact⟨#[],(hT b q hq).2,trivial,λpos v z=>by cases z⟩
  have free:∀ {b:Addr}{o:Obj},s₁.heap.get? b=some o->(∀ xs n,o.data ≠ .seq xs n)->(∀ ps,o.data ≠ .fields ps)->H b=none:=λ{b o} e d1 d2=>by
   cases q:H b with
   | none=>rfl
   | some u =>
    rcases hO b u q with ⟨rfl,_,_⟩ | ⟨z,hz,_⟩
    ·rw [ha] at e; cases e; exact absurd rfl (d1 _ _)
    ·rw [(hT b z hz).2] at e; cases e; exact absurd rfl (d2 _)
  have nsK:∀ {b:Addr}{m:Str->Option Value},s₁.heap.Ns b m->(Zme s₁.heap H).Ns b m:=λ{b m} ⟨o,es,ep,e,d,r⟩ =>
   ⟨o,es,ep,Zfz e (free e (λ_ _ z=>by rw [d] at z; cases z) λ_ z=>by rw [d] at z; cases z),d,r⟩
  have hKb:K.In (Zme s₁.heap H):=λb o e=>Zfz (KX b o e) (by
   cases q:H b with
   | none=>rfl
   | some u =>
    rcases hO b u q with ⟨rfl,z,_⟩ | ⟨z,hz,_⟩
    ·rw [z] at e; cases e
    ·rw [hKT b z hz] at e; cases e)
  have hM:Mod K mg (Zme s₁.heap H):=⟨hKb,nsK hns,⟨mb,nsK hb,hbb⟩,let ⟨mc,h1,h2⟩:=hlim; ⟨mc,nsK h1,h2⟩⟩
  have hBb:ZeN mg (Zme s₁.heap H):=by
   obtain⟨bm,o,b1,b2,b3,b4,b5,b6⟩:=hB
   exact⟨bm,o,b1,b2,Zfz b3 (free b3 (λ_ _ z=>by rw [b6] at z; cases z) λ_ z=>by rw [b6] at z; cases z),b4,b5,b6⟩
  have e0:Env0 P w K mg (Zme s₁.heap H) callerA [] s₁ H:=⟨rfl,hM,λb o e=>Zqh e,Nat.le_of_eq (ZjU _ _),trivial,λb hb=>absurd (show b∈([]:List Addr) from hb) (by simp),hok,.of_eq hg⟩
  refine Y2 ((F _ hKb (nsK hns) hBb).run callerA [] s₁ H ⟨[.ref a],[]⟩ [.ref a] [.ref a] _ _ hr e0 (hbind s₁ (.ref a)) (.cons rfl .nil) (hsp H hTH hS)) λr s' h=>?_
  match r,h with
  | .error e,h=>exact (hCX H e s' h).elim
  | .ok .next,h=>exact False.elim h
  | .ok .brk,h=>exact False.elim h
  | .ok .cont,h=>exact False.elim h
  | .ok (.ret u),h =>
   obtain⟨v,H',os,bare,un,hok',r',q⟩:=h
   have q':v=.bl true:=q
   subst q'
   obtain rfl:u=Value.bool true:=r'
   have kept:∀ b o,s₁.heap.get? b=some o->s'.heap.get? b=some o\/∃ ps,o=tabObj #[]/\isCodeTable s₁.heap b/\s'.heap.get? b=some (tabObj ps):=λb o e=>by
    cases q:H b with
    | none=>exact .inl (un.keep b o e q (by intro z; exact absurd (show b∈([]:List Addr) from z) (by simp)) (by simp))
    | some u =>
     rcases hO b u q with ⟨rfl,_,rfl⟩ | ⟨z,hz,rfl⟩
     ·obtain⟨e2,_⟩:=hok' b _ (un.frzs b _ _ q)
      rw [ha] at e
      cases e
      exact .inl e2
     ·obtain⟨more,q2⟩:=un.tbls b _ q
      obtain⟨ps,e2,_⟩:=hok' b _ q2
      obtain⟨⟨c,hc⟩,e3⟩:=hT b z hz
      rw [e3] at e
      cases e
      exact .inr ⟨ps,rfl,(hc.tab e3).isCodeTable,e2⟩
   refine⟨rfl,⟨λb o e=>?_,λb o e=>?_⟩,os,bare⟩
   ·rcases kept b o e with z | ⟨ps,rfl,ht,z⟩
    ·exact .inl z
    ·exact .inr (.inl ⟨ht,rfl,#[],ps,rfl,by rw [Array.empty_append]; exact z⟩)
   ·rcases kept b o e with z | ⟨ps,rfl,ht,z⟩
    ·exact⟨o,z⟩
    ·exact⟨_,z⟩
 cases hk:K.lookup a with
 | some o =>
  have e:=KX a o hk
  rw [ha] at e
  cases e
  refine core (λb=>(T b).map λq=>.tbl #[.str q 0]) (λb u z=>?_) (λb q z=>⟨0,by simp [z]⟩) (.inr ⟨_,vs.toArray,_,hk,rfl,rfl,rfl,by rw [List.size_toArray,lenV]; exact hl,by simpa using rv⟩)
  obtain⟨q,h1,h2⟩:=Yx.mp z
  exact .inr ⟨q,h1,h2.symm⟩
 | none =>
  refine core (λb=>if b=a then some (.frz so (.lst (ns.map V.int))) else (T b).map λq=>.tbl #[.str q 0]) (λb u z=>?_) (λb q z=>⟨0,?_⟩) (.inl (.inr ⟨so,if_pos rfl⟩))
  ·by_cases hb:b=a
   ·have z':=(if_pos hb).symm.trans z
    cases z'
    exact .inl ⟨hb,hk,rfl⟩
   ·have z':=(if_neg hb).symm.trans z
    obtain⟨q,h1,h2⟩:=Yx.mp z'
    exact .inr ⟨q,h1,h2.symm⟩
  ·have hb:b ≠ a:=λe=>by rw [e,hTa] at z; cases z
   show (if b=a then some (HO.frz so (.lst (ns.map V.int))) else (T b).map λq=>.tbl #[.str q 0])=_
   rw [if_neg hb,z]
   rfl
def ZiI(pos pos':Pos)(c:Value)(l:List Value)(h:TriplesOk l)(v:Value)(e:codeAmong pos' (l ++ [rawInt pos.line,rawInt pos.col,c])=some v):codeAmong pos' l=some v\/v=c:=by
 fun_induction TriplesOk l with
 | case1 =>
  simp only [List.nil_append,codeAmong,rawInt] at e
  split at e
  ·cases e; exact .inr rfl
  ·cases e
 | case2 a t b u x rest ih =>
  simp only [List.cons_append,codeAmong] at e ⊢
  split at e
  ·rename_i q
   rw [if_pos q]
   exact .inl e
  ·rename_i q
   rw [if_neg q]
   exact ih h e
 | case3=>exact h.elim
def Zt6(P:Addr)(q:Str)(clos:List (Str × Addr))(params:Arguments)(body:Expr)(scope:Scope):TE:=λ_ H Q =>
 ∃ t,H P=some (.tbl #[.str q t])/\∀ (f c':Addr) (oc:Obj) (pm ctv:Value) (vs:Array Value) (t':Tok) (H2:Hp),H f=none->H2 f=some (.frz (kla_obj "<lambda>" q params body scope clos pm c' ctv) (.own P)) ->
  H2 c'=some (.frz oc (.own P))->oc.data=.fields vs->vs[1]?=some (.str q t')->Zk H H2->Q (.ref f) H2
def Zsh{X:Cx}{params:Arguments}{body:Expr}{scope:Scope}{pos:Pos}{c P:Addr}{q:Str}{clos:List (Str × Addr)}(hdef:defaultsOf params X.env=([],[]))(hcl:closureFor scope X.env=pure clos)(hcode:X.env.code=.ref c)
  (hC:CodeHd X.base c P) (hb:X.base.BuiltinsAt X.mg P) (hq:X.env.qual ++ "<lambda>"=q):PE X (.Lambda params body scope pos) (Zt6 P q clos params body scope):=by
 intro pins s σ H Q I ⟨t,hP,k⟩
 subst hq
 obtain⟨qs,e,ht,hf⟩:=I.hok P _ hP
 have hgs:s.heap.Ns mainGlobals X.mg:=I.ok.mod.glob.keeps I.bk
 obtain⟨bm,ob,b1,b2,b3,b4,b5,b6⟩:=hb
 have hb':s.heap.BuiltinsAt X.mg P:=⟨bm,ob,b1,b2,b3,b4,I.bk _ _ b5,b6⟩
 have hgP:mainGlobals ≠ P:=λz=>by
  obtain⟨o,es,ep,e1,_⟩:=I.ok.mod.glob
  have:=(I.bs _ _ e1).2
  rw [z,hP] at this
  cases this
 have same:∀ {f:Addr}{u:HO},H f=none->Zk H (upd H f u):=λh b o z=>by rw [Zg (Zn z h)]; exact z
 cases hn:codeAmong pos qs.toList with
 | some v =>
  obtain⟨c',oc,vs,q0,t0,t1,rfl,h1,h2,h3,h4⟩:=hf pos v hn
  have hq0:q0=X.env.qual ++ "<lambda>":=by
   have h5:some (Value.str (X.env.qual ++ "<lambda>") t)=some (.str q0 t1):=h4
   cases h5
   rfl
  subst hq0
  refine kla_eval hdef (kla_makeFunctionHit (mg:=X.mg) hcl I.ok.glob hgs hcode (hC.keeps I.bk) e ht hn hb' λctv h' tk hk hsz=>?_)
  have hF:H h'.objs.size=none:=I.hok.fresh hsz
  refine⟨.ref h'.objs.size,upd H h'.objs.size (.frz _ (.own P)),I.laid (t':=tk) (λb o z=>Yh _ (hk b o z)) hsz ⟨Yo _ rfl,⟨_,Yo _ rfl⟩⟩,rfl,?_⟩
  exact k _ c' oc _ ctv vs t0 _ hF Zf (same hF _ _ h1) h2 h3 (same hF)
 | none =>
  refine kla_eval hdef (kla_makeFunction (mg:=X.mg) hcl I.ok.glob hgs hcode (hC.keeps I.bk) e ht hn hgP hb' λc' ctv h' tk hx hge hlt hrec htb=>?_)
  obtain⟨c2,oc,vs,t2,e2,hoc,hd,hv⟩:=hrec
  cases e2
  have hc:H c'=none:=I.hok.fresh hge
  have hF0:s.heap.objs.size<=h'.objs.size:=Yj hge (Yt hlt)
  have hF:H h'.objs.size=none:=I.hok.fresh hF0
  have hne:c' ≠ h'.objs.size:=Ym hlt
  let fo:Obj:=kla_obj "<lambda>" (X.env.qual ++ "<lambda>") params body scope clos ((X.mg "__name__").getD .none) c' ctv
  let H1:Hp:=upd H c' (.frz oc (.own P))
  let H2:Hp:=upd H1 h'.objs.size (.frz fo (.own P))
  have hF1:H1 h'.objs.size=none:=by show upd H c' _ _=_; rw [Zg (Ne.symm hne)]; exact hF
  have old:∀ b o,H b=some o->H2 b=some o:=λb o z=>by
   show upd H1 _ _ b=_
   rw [Zg (Zn (same hc b o z) hF1)]
   exact same hc b o z
  have keep:∀ b u,b ≠ P->s.heap.get? b=some u->(h'.push fo).get? b=some u:=λb u hb z=>Yh _ (hx b u hb z)
  have neP:∀ b,H b=none->b ≠ P:=λb z w=>by rw [w,hP] at z; cases z
  have atc:H2 c'=some (.frz oc (.own P)):=by show upd H1 _ _ c'=_; rw [Zg hne]; exact Zf
  have tab:(h'.push fo).get? P=some (tabObj (qs ++ #[rawInt pos.line,rawInt pos.col,.ref c'])):=Yh _ htb
  have un:Un X.fs [] H H2 s.heap (h'.push fo):=⟨λb o z n _ _=>keep b o (neP b n) z,λb o z n _ _=>⟨o.slots,keep b o (neP b n) z⟩,λb o z n _=>by
    have hlt:b < s.heap.objs.size:=Yf z
    show upd H1 _ _ b=_
    rw [Zg (Ym (Yu hlt hF0))]
    show upd H _ _ b=_
    rw [Zg (Ym (Yu hlt hge))]
    exact n,λb o z _=>by
    by_cases w:b=P
    ·subst w; exact⟨_,tab⟩
    ·exact⟨o,keep b o w z⟩,λb xs z=>old b _ z,λb o u z=>old b _ z,λb ps z=>⟨#[],by rw [Array.append_empty]; exact old b _ z⟩⟩
  have hok:HOk X.prog X.w H2 (h'.push fo):=λb u z=>by
   by_cases w1:b=h'.objs.size
   ·subst w1
    have z':some (HO.frz fo (.own P))=some u:=Zf.symm.trans z
    cases z'
    exact⟨Yo _ rfl,⟨_,Yo _ rfl⟩⟩
   ·by_cases w2:b=c'
    ·subst w2
     rw [atc] at z
     cases z
     exact⟨Yh _ hoc,⟨_,Yh _ hoc⟩⟩
    ·have z':H b=some u:=by
      have z2:upd H1 h'.objs.size (.frz fo (.own P)) b=some u:=z
      rw [Zg w1] at z2
      have z3:upd H c' (.frz oc (.own P)) b=some u:=z2
      rw [Zg w2] at z3
      exact z3
     by_cases w3:b=P
     ·subst w3
      rw [hP] at z'
      cases z'
      refine⟨_,tab,?_,λpos' v g=>?_⟩
      ·rw [Array.toList_append]; exact TriplesOk_snoc _ _ _ _ ht
      ·rw [Array.toList_append] at g
       rcases ZiI pos pos' _ _ ht v g with g | g
       ·obtain⟨c3,o3,v3,q3,t3,t4,g1,g2,g3⟩:=hf pos' v g
        exact⟨c3,o3,v3,q3,t3,t4,g1,old _ _ g2,g3⟩
       ·exact⟨c',oc,vs,_,t2,t,g,atc,hd,hv,rfl⟩
     ·refine (I.hok b u z').stay (λx v hxx g=>keep x v (λw=>?_) g) (λx g=>old x _ g) (λx xs g=>old x _ g) λx o g=>old x _ g
      rcases hxx with w4 | w4
      ·exact w3 (w4.symm.trans w)
      ·rw [w,hP] at w4
       cases w4
  exact⟨.ref h'.objs.size,H2,I.un (t':=tk) un hok,rfl,k _ c' oc _ ctv vs t2 H2 hF Zf atc hd hv old⟩
theorem Zcq{u:Value}{y:Str}:∀ {ps:List Str}{us:List Value}{i:Nat},ps.Nodup->us.length=ps.length->ps[i]?=some y->us[i]?=some u->(ps.zip us).reverse.lookup y=some u
 | [],_,_,_,_,h,_=>by simp at h
 | _ :: _,[],_,_,h,_,_=>by simp at h
 | p :: ps,v :: us,0,nd,_,h1,h2=>by
  simp at h1 h2
  subst h1 h2
  rw [List.zip_cons_cons,List.reverse_cons]
  have:(ps.zip us).reverse.lookup p=none:=by
   rw [List.lookup_eq_none_iff]
   intro z hz
   have hz':=(VS (a:=z.1) (b:=z.2) (List.mem_reverse.mp hz)).1
   simp only [beq_eq_false_iff_ne,ne_eq,Bool.not_eq_true,bne_iff_ne]
   intro e
   exact (Y4.mp nd).1 (by rw [e]; exact hz')
  rw [List.lookup_append,this]
  simp
 | p :: ps,v :: us,i + 1,nd,hl,h1,h2=>by
  rw [List.zip_cons_cons,List.reverse_cons,List.lookup_append,Zcq (List.nodup_cons.mp nd).2 (by simpa using hl) (by simpa using h1) (by simpa using h2)]
  rfl
def ZmD(CX:CXT)(P:Program)(w:World)(K:PySem.W.Frag)(mg:Str->Option Value)(base:Heap)(N:List Str)(q:Str)(scope:Scope)(f c':Addr)(clos:List (Str × Addr))(A:Around)(outer:List Env)(s:Shared)(H:Hp)(E:XK):Cx where
 prog:=P
 w:=w
 K:=K
 mg:=mg
 base:=base
 A:=A.deeper (envX q scope s.heap.objs.size f (.ref c') clos)
 N:=N
 s₀:=s
 H₀:=H
 env:=envX q scope s.heap.objs.size f (.ref c') clos
 outer:=outer
 stack:=envX q scope s.heap.objs.size f (.ref c') clos :: outer
 ex:=[]
 calm:=true
 fn:=λ_=>false
 pn:=[]
 xe:=λe s'=>wpAny (model P w) (A.deeper (envX q scope s.heap.objs.size f (.ref c') clos)) (leaving (envX q scope s.heap.objs.size f (.ref c') clos) e) (λ_ s''=>CX outer H s E e s'') (λe' s''=>CX outer H s E e' s'') s'
structure LamScope(ps fs:List Str)(sc:Scope)(clos:List (Str × Addr)):Prop where
 kind:sc.kind=.function
 co:sc.isCoroutine=false
 gen:sc.isGenerator=false
 nd:(ps ++ fs).Nodup
 par:∀ x∈ps,sc.names.lookup x=some .local
 fre:∀ x∈fs,sc.names.lookup x=some .free
 nocell:∀ y∈sc.names,y.2 ≠ .cell
 has:∀ y,sc.names.lookup y=some .free->∃ c,clos.lookup y=some c
structure Frees(fs:List Str)(ws:List V)(clos:List (Str × Addr))(outer:List Env)(H:Hp)(h:Heap):Prop where
 len:fs.length=ws.length
 val:∀ (i:Nat) (x:Str) (v:V),fs[i]?=some x->ws[i]?=some v->∃ c u,clos.lookup x=some c/\ZF v u/\h.IsCell c (some u)
 cell:∀ x c,clos.lookup x=some c->(∃ v,h.IsCell c v)/\H c=none
 inj:∀ x y c,clos.lookup x=some c->clos.lookup y=some c->x=y
def Zro{CX:CXT}{P:Program}{w:World}{K:PySem.W.Frag}{mg:Str->Option Value}{base:Heap}{k:Nat}{f c':Addr}{q:Str}{params:Arguments}{body:Expr}{scope:Scope}{clos:List (Str × Addr)}{pm ctv:Value}{ps fs:List Str}
  {A:Around}{outer:List Env}{s:Shared}{H:Hp}{args:Args}{us:List Value}{vs ws:List V}{Q:VK}{E:XK}{t:TE}
  (hr:Room (k + 1) A) (e0:Env0 P w K mg base A outer s H) (ho:s.heap.get? f=some (kla_obj "<lambda>" q params body scope clos pm c' ctv)) (hcd:s.heap.CodeRec (.ref c') q)
  (hbind:bindArgs (kla_fn "<lambda>" q params body scope clos pm (.ref c') ctv) args=pure (ps.zip us)) (hl:vs.length=ps.length) (r:Zw vs us) (S:LamScope ps fs scope clos) (W:Frees fs ws clos outer H s.heap)
  (hbody:PE (ZmD CX P w K mg base (ps ++ fs) q scope f c' clos A outer s H E) body t) (hq:t ((vs ++ ws).map some) H Q):codeAny (model P w) A (.call (.ref f) args) (CR CX outer P w H s Q E) s:=by
 have lim:s.heap.NoLimit:=e0.mod.nolimit.keeps λb o e=>(e0.bs b o e).1
 have hlu:us.length=ps.length:=by rw [<- r.length]; exact hl
 refine kla_callFunE (by have:=hr.dp; omega) ho rfl S.co S.gen rfl hcd ?_
 rw [hbind]
 refine Yb (wpAny_newFunctionEnv S.nocell (λy hy=>S.par _ (VS hy).1) (λh₁ hns hsb=>⟨lim.fresh _ hsb,?_⟩) S.kind)
 show codeAny _ _ (.expr body (envX q scope s.heap.objs.size f (.ref c') clos)) _ _
 have hk:∀ b o,s.heap.get? b=some o->h₁.get? b=some o:=λb o e=>hsb.extBut b o (Ym (Yf e)) (Yh _ e)
 have I:Inv (ZmD CX P w K mg base (ps ++ fs) q scope f c' clos A outer s H E) [] ((vs ++ ws).map some) H { s with heap:=h₁,toks:=s.toks + (ps.zip us).length }:=by
  have noA:∀ b:Addr,b ∉ (ZmD CX P w K mg base (ps ++ fs) q scope f c' clos A outer s H E).ex:=λb z=>absurd (show b∈([]:List Addr) from z) (by simp)
  refine⟨⟨e0.mod,S.kind,rfl,rfl,Yd _,W.inj,λy hy=>?_,λy c z _=>absurd z YC,λ_=>hr.hd,Around.frames_deeper e0.frames,.inr ⟨rfl,rfl⟩,λb z=>absurd z (noA b),e0.bs,e0.bsz,λb _ _=>noA b,λb z=>absurd z (noA b),e0.funs,e0.frf⟩,
   rfl,e0.bare,Un.kept hk,⟨_,hns,λi y v h1 h2 h3=>?_⟩,λy c h=>?_,e0.hok.fresh (Nat.le_refl _),λy c h=>(W.cell y c h).2,λp hp=>absurd (show p∈([]:List (Addr × Obj)) from hp) (by simp),e0.hok.kept hk,?_⟩
  ·have hy:scope.names.lookup y=some .cell\/scope.names.lookup y=some .free:=hy
   rcases hy with hy | hy
   ·exact absurd rfl (S.nocell _ (Vd hy))
   ·exact S.has y hy
  ·have h1:(ps ++ fs)[i]?=some y:=h1
   rw [Yg] at h2
   obtain⟨v',h2,h4⟩:=Yx.mp h2
   cases h4
   by_cases hi:i < ps.length
   ·rw [YS hi] at h1
    rw [YS (by omega)] at h2
    obtain⟨u,hu,rv⟩:=r.get h2
    refine⟨u,rv,.inl ⟨S.par y (Yl h1),?_⟩⟩
    have nd:ps.Nodup:=(Yau.mp S.nd).1
    exact Zcq nd hlu h1 hu
   ·rw [YN (by omega)] at h1
    rw [YN (by omega),hl] at h2
    obtain⟨c,u,g1,g2,g3⟩:=W.val _ y v h1 h2
    obtain⟨o,g4,g5⟩:=g3
    exact⟨u,g2,.inr ⟨.inr (S.fre y (Yl h1)),c,g1,o,hk _ _ g4,g5⟩⟩
  ·obtain⟨⟨v,o,g1,g2⟩,_⟩:=W.cell y c h
   exact⟨v,o,hk _ _ g1,g2⟩
  ·show ((vs ++ ws).map some).length=(ps ++ fs).length
   rw [Ye,YV,YV,hl,W.len]
 refine kla_codeExpr (Yz (hbody [] _ _ H Q I hq) (λv s' hs=>?_) λe s' hs=>hs)
 obtain⟨x,H',J,rv,g⟩:=hs
 exact⟨x,H',J.os,J.bare,J.base,J.hok,rv,g⟩
end L2
namespace My
open PySem PySem.Spec L2
open PyProof.Rows hiding St
def Ztp(h:Heap)(ex:List Addr):List (Addr × Obj):=(List.range h.objs.size).filterMap λa=>if a∈ex then none else (h.get? a).map λo=>(a,o)
theorem ZdR{h:Heap}{ex:List Addr}{a:Addr}{o:Obj}:(a,o)∈Ztp h ex ↔ a ∉ ex/\h.get? a=some o:=by
 unfold Ztp
 rw [List.mem_filterMap]
 constructor
 ·rintro⟨b,_,e⟩
  split at e
  ·cases e
  ·rename_i hb
   obtain⟨o',ho,e'⟩:=Yx.mp e
   cases e'
   exact⟨hb,ho⟩
 ·rintro⟨n1,ho⟩
  refine⟨a,Vk.mpr (Yf ho),?_⟩
  rw [if_neg n1,ho] <;> rfl
def Zer(b:Bool)(ks:List Int)(xs ys:List V):Prop:=∃ ps:List (Int × V),ps.Perm (ks.zip xs)/\ys=ps.map Prod.snd/\ps.Pairwise (λp q=>if b then q.1<=p.1 else p.1<=q.1)
def ZlD{zs:List (Int × V)}{ws ps:List (Int × Value)}(h:Paired (λ(p:Int × V) (q:Int × Value)=>p.1=q.1/\ZF p.2 q.2) zs ws)(p:ps.Perm ws):∃ qs:List (Int × V),qs.Perm zs/\Paired (λ(p:Int × V) (q:Int × Value)=>p.1=q.1/\ZF p.2 q.2) qs ps:=by
 induction p generalizing zs with
 | nil=>exact⟨zs,.refl _,h⟩
 | @cons x l1 l2 _ ih =>
  cases h with
  | @cons a b as bs h1 h2 =>
   obtain⟨qs,g1,g2⟩:=ih h2
   exact⟨_ :: qs,.cons _ g1,.cons h1 g2⟩
 | @swap x y l =>
  cases h with
  | @cons a b as bs h1 h2 =>
   cases h2 with
   | @cons c d cs ds h3 h4=>exact⟨_,.swap _ _ _,.cons h3 (.cons h1 h4)⟩
 | @trans l1 l2 l3 _ _ ih1 ih2 =>
  obtain⟨q2,g1,g2⟩:=ih2 h
  obtain⟨q1,g3,g4⟩:=ih1 g2
  exact⟨q1,g3.trans g1,g4⟩
def Ziw:∀ {ks:List Int}{xs:List V}{vs:List Value},Zw xs vs->Paired (λ(p:Int × V) (q:Int × Value)=>p.1=q.1/\ZF p.2 q.2) (ks.zip xs) (ks.zip vs)
 | [],_,_,_=>by rw [List.zip_nil_left,List.zip_nil_left]; exact .nil
 | _ :: _,_,_,.nil=>.nil
 | k :: ks,_,_,.cons h1 h2=>.cons ⟨rfl,h1⟩ (Ziw h2)
def ZmS{b:Bool}{ks:List Int}{xs:List V}{vs out:List Value}(hv:Zw xs vs)(h:KskOut b ks vs out):∃ ys,Zw ys out/\Zer b ks xs ys:=by
 obtain⟨ps,h1,rfl,h3⟩:=h
 obtain⟨qs,g1,g2⟩:=ZlD (Ziw (ks:=ks) hv) h1
 refine⟨qs.map Prod.snd,?_,qs,g1,rfl,?_⟩
 ·clear h1 h3 g1
  induction g2 with
  | nil=>exact .nil
  | cons h _ ih=>exact .cons h.2 ih
 ·clear h1 g1
  induction g2 with
  | nil=>exact .nil
  | @cons p q ps' qs' h t ih =>
   rw [List.pairwise_cons] at h3 ⊢
   refine⟨λx hx=>?_,ih h3.2⟩
   have:∃ y∈qs',x.1=y.1:=by
    clear ih h3
    induction t with
    | nil=>cases hx
    | cons h' _ ih' =>
     rcases Yn.mp hx with rfl | hx
     ·exact⟨_,Vf ..,h'.1⟩
     ·obtain⟨y,hy,e⟩:=ih' hx
      exact⟨y,Y7 _ hy,e⟩
   obtain⟨y,hy,e⟩:=this
   have:=h3.1 y hy
   rw [h.1,e]
   exact this
section
variable {X:Cx}{pins:List (Addr × Obj)}{σ:St}{H:Hp}{s:Shared}{l:Addr}{xs:List V}{ks:List Int}{b:Bool}{f:Value}{kw:List (Str × Value)}{E:VSP}{Q:VSP}
def Znu{D kS:Addr}{oK oD:Obj}{H1:Hp}{s1:Shared}{h':Heap}{tk c:Nat}{out:Array Value}{ys:List V}(I:Inv X (pins ++ [(kS,oK),(D,oD)]) σ H1 s1)(fD:JL X pins H1 D)(fK:JL X pins H1 kS)
  (ns:∀ m,s1.heap.Ns X.env.locals m->h'.Ns X.env.locals m) (kp:∀ a o,a ≠ X.env.locals->a ≠ kS->a ≠ D->s1.heap.get? a=some o->h'.get? a=some o) (eD:h'.get? D=some (seqObj "list" out c)) (hz:ys.length<=sizeLine) (hv:Zw ys out.toList) :
  Inv X pins σ (upd H1 D (.lst ys)) { s1 with heap:=h',toks:=tk }:=by
 have I0:Inv X pins σ H1 s1:=I.unpinned
 have ne:∀ {a:Addr}{o:HO},H1 a=some o->a ≠ D/\a ≠ kS:=λe=>⟨Zn e fD.1,Zn e fK.1⟩
 have off:∀ {a:Addr}{o:HO},H1 a=some o->upd H1 D (.lst ys) a=some o:=λe=>by rw [Zg (ne e).1]; exact e
 refine I0.step (g':=s1.gens) (d':=s1.drawn) (t':=tk) (ch:=[kS,D]) (λa ha=>?_) (λa o h1 _ hc e _=>?_) (λa o h1 _ hc e _=>?_) (λa o hc e n=>?_) (λa o hc e=>?_) (λa zs e=>off e) (λa o u e=>off e) (λa ps e=>⟨#[],by rw [Array.append_empty]; exact off e⟩) ns (λa u e=>?_) I0.bare
 ·rcases Yn.mp ha with rfl | ha
  ·exact⟨fK.2.2.2.1,fK.2.1,fK.2.2.2.2.1,fK.2.2.2.2.2⟩
  ·rw [YF.mp ha]
   exact⟨fD.2.2.2.1,fD.2.1,fD.2.2.2.2.1,fD.2.2.2.2.2⟩
 ·exact kp a o h1 (λz=>hc (by simp [z])) (λz=>hc (by simp [z])) e
 ·exact⟨o.slots,kp a o h1 (λz=>hc (by simp [z])) (λz=>hc (by simp [z])) e⟩
 ·rw [Zg (λz=>hc (by simp [z]))]
  exact n
 ·by_cases z:a=X.env.locals
  ·subst z
   obtain⟨m,hn,_⟩:=I0.loc
   obtain⟨o',_,_,e',_⟩:=ns m hn
   exact⟨o',e'⟩
  ·exact⟨o,kp a o z (λz=>hc (by simp [z])) (λz=>hc (by simp [z])) e⟩
 ·by_cases z:a=D
  ·subst z
   rw [Zf] at e
   cases e
   exact⟨hz,out.toList,c,hv,by simpa using eD⟩
  ·rw [Zg z] at e
   have trk:∀ c':Addr,(c'=a\/H1 c'=some (.own a))->c' ≠ X.env.locals/\c' ≠ kS/\c' ≠ D:=λc' hc=>by
    have:∃ o',H1 c'=some o':=by
     rcases hc with rfl | hc
     ·exact⟨_,e⟩
     ·exact⟨_,hc⟩
    obtain⟨o',e'⟩:=this
    exact⟨(λw=>by rw [w,I0.free] at e'; cases e'),(ne e').2,(ne e').1⟩
   refine (I0.hok a u e).stay (λc' v hc q=>?_) (λc' q=>off q) (λc' zs q=>off q) λc' o q=>off q
   obtain⟨n1,n2,n3⟩:=trk c' hc
   exact kp c' v n1 n2 n3 q
def Zmf{D kS:Addr}{e1:Nat}{vs:List Value}{P:PySem.Fin->Shared->Prop}{s0:Shared}{H0:Hp}(I:Inv X (pins ++ [(kS,seqObj "list" #[] 0),(D,seqObj "list" #[] e1)]) σ H0 s0)(sH:Zk H H0)(hHD:H D=none)(fD:JL X pins H0 D)(fK:JL X pins H0 kS)(hDK:kS ≠ D)(hv:Zw xs vs)(hlen:ks.length=xs.length)(h64:xs.length < 64)
  (turn:∀ (i:Nat) (x:V) (k:Int),xs[i]?=some x->ks[i]?=some k->∀ (pins':List (Addr × Obj)) (H':Hp) (s':Shared) (u:Value),Inv X pins' σ H' s'->Zk H H'->ZF x u ->
   wpAny (model X.prog X.w) X.A.in1.in1 (call f [u]) (λv s''=>∃ t H'',v=.int k t/\Inv X pins' σ H'' s''/\Zk H' H'') (λ_ _=>False) s')
  (h:∀ (H':Hp) (s':Shared) (ys:List V),Inv X pins σ H' s'->Zk H H'->H' D=some (.lst ys)->Zer b ks xs ys->P (.done (.ret .none)) s') :
  wpAny (model X.prog X.w) X.A.in1.in1 (ksk_rest D f b vs.toArray e1 (.ref kS)) P E s0:=by
 have hvl:vs.length=xs.length:=hv.length.symm
 have mK:∀ {oK oD:Obj},(kS,oK)∈X.pn ++ (pins ++ [(kS,oK),(D,oD)]):=Yy _ (Yy _ (.head _))
 have mD:∀ {oK oD:Obj},(D,oD)∈X.pn ++ (pins ++ [(kS,oK),(D,oD)]):=Yy _ (Yy _ (.tail _ (.head _)))
 unfold ksk_rest
 refine Ya (Vw ?_)
 first
  | rw [List.forIn_toArray]
  | (rw [<- Array.forIn_toList]; simp only [List.toList_toArray])
  | rw [<- Array.forIn_toList]
 refine wpAny_bind (ksk_fold (λi s'=>∃ kA e H',Inv X (pins ++ [(kS,seqObj "list" kA e),(D,seqObj "list" #[] e1)]) σ H' s'/\Zk H H'/\IntsAre kA.toList (ks.take i)) vs 0 s0 ⟨#[],0,H0,I,sH,by simpa using IntsAre.nil⟩ ?step ?done)
 case step =>
  rintro j x s' hx ⟨kA,e,H1,I1,sH1,hk⟩
  simp only [Nat.zero_add] at hk ⊢
  have hj:j < vs.length:=(Yi.mp hx).1
  obtain⟨k,hkj⟩:∃ k,ks[j]?=some k:=⟨_,Yc (by omega)⟩
  have hxj:xs[j]?=some xs[j]:=Yc (by omega)
  obtain⟨u,hu,rv⟩:=hv.get hxj
  rw [hx] at hu
  cases hu
  have hz:kA.size<=vs.length:=by
   have h1:=hk.length
   rw [YK,YE] at h1
   omega
  refine Ya (Yah (Yz (turn j _ k hxj hkj _ H1 s' x I1 sH1 rv) (λv s'' he=>?_) λ_ _ hF=>hF.elim))
  obtain⟨t,H2,rfl,I2,sH2⟩:=he
  try dsimp only
  have nk:=I2.pin (kS,seqObj "list" kA e) mK
  have na:=I2.pin (D,seqObj "list" #[] e1) mD
  have s1:=Yaw s''.heap kS (Obj.mapSeq (·.push (.int k t)))
  obtain⟨c2,hc2⟩:∃ c2,(s''.heap.update kS (Obj.mapSeq (·.push (.int k t)))).get? kS=some (seqObj "list" (kA.push (.int k t)) c2):=⟨_,Yaf nk.1 (·.push (.int k t))⟩
  have ek:ks.take (j + 1)=ks.take j ++ [k]:=by rw [List.take_add_one,hkj]; simp
  have ea:(kA.push (Value.int k t)).toList=kA.toList ++ [Value.int k t]:=by simp
  refine Ya (listUpdate_at nk.1 rfl ?_ (by rw [YI]; omega) (Yj (Vu (Array.size_push ..)) (by rw [YI]; omega)))
  have I3:Inv X pins σ H2 s'':=I2.unpinned
  have I4:Inv X pins σ H2 { s'' with heap:=s''.heap.update kS (Obj.mapSeq (·.push (.int k t))),toks:=s''.toks }:=I3.turned (λb o hb q=>(s1.2 b hb).trans q) nk.2.1 fK.2.1 fK.2.2.2.1 fK.2.2.2.2.1 fK.2.2.2.2.2
  refine Yb ⟨rfl,kA.push (.int k t),c2,H2,I4.pins_of λp hp=>?_,sH1.trans sH2,by rw [ea,ek]; exact ksk_snoc hk⟩
  rcases Yw.mp hp with hp | hp
  ·exact I4.pin p (Yy _ hp)
  ·rcases Yn.mp hp with rfl | hp
   ·exact⟨hc2,nk.2.1,nk.2.2.1,nk.2.2.2.1,λv z=>by cases z⟩
   ·rw [YF.mp hp]
    exact⟨(s1.2 D hDK.symm).trans na.1,na.2.1,na.2.2.1,na.2.2.2.1,λv z=>by cases z⟩
 case done =>
  rintro s' ⟨kA,e,H1,I1,sH1,hk⟩
  have hk':IntsAre kA.toList ks:=by
   have e3:ks.take (0 + vs.length)=ks:=List.take_of_length_le (by omega)
   rw [e3] at hk
   exact hk
  have nk:=I1.pin (kS,seqObj "list" kA e) mK
  have na:=I1.pin (D,seqObj "list" #[] e1) mD
  obtain⟨m0,hn,_⟩:=id I1.loc
  try dsimp only
  refine Ya (listItems_at nk.1 rfl ?_)
  have N:News (Att.noObjs s'.heap) X.env.locals s'.heap (Ztp s'.heap [X.env.locals,kS,D] ++ [(kS,seqObj "list" kA e),(D,seqObj "list" #[] e1)]):=by
   rintro⟨a,o⟩ hp
   rcases Yw.mp hp with hp | hp
   ·obtain⟨g1,g2⟩:=ZdR.mp hp
    exact⟨g2,λz=>g1 (by simp [show a=X.env.locals from z]),Att.noObjs_get _ _⟩
   ·rcases Yn.mp hp with q | hp
    ·cases q
     exact⟨nk.1,fK.2.1,Att.noObjs_get _ _⟩
    ·cases YF.mp hp
     exact⟨na.1,fD.2.1,Att.noObjs_get _ _⟩
  refine ksk_end_ (h₀:=Att.noObjs s'.heap) (L:=X.env.locals) (m:=m0) (Att.fr_all hn) N hDK (λp hp z=>?_) (λp hp z=>?_) hk' (by omega) (by omega) λh3 tk3 out c F3 N3 k3=>?_
  ·obtain⟨a,o⟩:=p
   exact (ZdR.mp hp).1 (by simp [show a=kS from z])
  ·obtain⟨a,o⟩:=p
   exact (ZdR.mp hp).1 (by simp [show a=D from z])
  ·obtain⟨ys,hys,hsk⟩:=ZmS hv k3
   have hyl:ys.length=xs.length:=by
    obtain⟨ps,g1,g2,_⟩:=hsk
    rw [g2,Ye,g1.length_eq,Vh]
    omega
   have fD1:JL X pins H1 D:=⟨na.2.1,fD.2⟩
   have fK1:JL X pins H1 kS:=⟨nk.2.1,fK.2⟩
   refine h _ _ ys (Znu (tk:=tk3) (c:=c) (out:=out) I1 fD1 fK1 (λm hm=>?_) (λa o n1 n2 n3 q=>?_) (N3 (D,seqObj "list" out c) (Vf ..)).1 (by rw [hyl,YI]; omega) hys) (Zt hHD sH1) Zf hsk
   ·rw [hm.eq_nsMap,<- hn.eq_nsMap]
    exact F3.ns
   ·exact (N3 (a,o) (List.mem_cons_of_mem _ (ZdR.mpr ⟨by simp [n1,n2,n3],q⟩))).1
def Zjd(I:Inv X pins σ H s)(hl:H l=some (.lst xs))(h64:xs.length < 64)
  (ha1:argsOk "sorted" ⟨[.ref l],kw⟩) (ha2:∀ x,argsOk "list.sort" ⟨[.ref x],kw⟩) (ht:∀ x,Builtin.«list.sort» ⟨[.ref x],kw⟩=ksk_tree x f b)
  (rest:∀ (D kS:Addr) (e1:Nat) (vs:List Value) (s0:Shared) (P:PySem.Fin->Shared->Prop),Inv X (pins ++ [(kS,seqObj "list" #[] 0),(D,seqObj "list" #[] e1)]) σ H s0->H D=none->JL X pins H D->JL X pins H kS->kS ≠ D->Zw xs vs ->
   (∀ s',Q (.ref D) s'->P (.done (.ret .none)) s')->wpAny (model X.prog X.w) X.A.in1.in1 (ksk_rest D f b vs.toArray e1 (.ref kS)) P E s0) :
  wpAny (model X.prog X.w) X.A (call (.builtin "sorted") [.ref l] kw) Q E s:=by
 obtain⟨hz,vs,n,hv,hvl,e⟩:=I.lstM hl
 have hvl':vs.length=xs.length:=by omega
 refine call_function_entry_kw kind_sorted plain_sorted entry_sorted ha1 ?_
 unfold Builtin.«sorted»
 refine Ya (m:=checkCount "sorted" 1 1 _) (Yb ?_)
 refine Ya (collect_list (vs:=vs) ⟨_,e,rfl,n,rfl⟩ ?_ (by rw [YI]; omega))
 refine Ya (VZ ?_ (by rw [YI]; omega))
 have hsz:((s.heap.push (seqObj "list" #[] 0)).update s.heap.objs.size (Obj.mapSeq (· ++ vs.toArray))).objs.size=s.heap.objs.size + 1:=by
  rw [Yaa,size_push']
 have hoL:(((s.heap.push (seqObj "list" #[] 0)).update s.heap.objs.size (Obj.mapSeq (· ++ vs.toArray))).push (seqObj "list" vs.toArray 0)).get? (s.heap.objs.size + 1)=some (seqObj "list" vs.toArray 0):=by
  rw [<- hsz]; exact Yo _ rfl
 have keep:∀ b o,s.heap.get? b=some o->(((s.heap.push (seqObj "list" #[] 0)).update s.heap.objs.size (Obj.mapSeq (· ++ vs.toArray))).push (seqObj "list" vs.toArray 0)).get? b=some o:=λb o q=>by
  have hlt:b < s.heap.objs.size:=Yf q
  rw [YaC _ _ _ (by rw [hsz]; exact Ym (Va hlt)),Heap.get?_update_ne _ _ _ _ (Ym hlt),YaC _ _ _ (Ym hlt)]
  exact q
 have hsz3:(((s.heap.push (seqObj "list" #[] 0)).update s.heap.objs.size (Obj.mapSeq (· ++ vs.toArray))).push (seqObj "list" vs.toArray 0)).objs.size=s.heap.objs.size + 2:=by rw [size_push',hsz]
 show wpAny _ _ _ _ _ { s with heap:=((s.heap.push (seqObj "list" #[] 0)).update s.heap.objs.size (Obj.mapSeq (· ++ vs.toArray))).push (seqObj "list" vs.toArray 0) }
 rw [hsz]
 generalize hh3:((s.heap.push (seqObj "list" #[] 0)).update s.heap.objs.size (Obj.mapSeq (· ++ vs.toArray))).push (seqObj "list" vs.toArray 0)=h3 at hoL keep hsz3 ⊢
 clear hh3 hsz
 refine Ya (YM (wpAny_call_entry_kw slot_list_sort ⟨_,hoL,rfl⟩ entry_list_sort ?body (ha2 _)))
 case body =>
  have ht':=ht (s.heap.objs.size + 1)
  show wpAny (model X.prog X.w) X.A.in1.in1 (Builtin.«list.sort» ⟨[.ref (s.heap.objs.size + 1)],kw⟩) _ _ _
  rw [ht']
  generalize hD:s.heap.objs.size + 1=D at hoL ⊢
  obtain⟨e1,ho1⟩:∃ e1,(h3.update D (Obj.mapSeq λ_=>(#[]:Array Value))).get? D=some (seqObj "list" #[] e1):=⟨_,Yaf hoL λ_=>#[]⟩
  have s1:=Yaw h3 D (Obj.mapSeq λ_=>(#[]:Array Value))
  have hsz4:(h3.update D (Obj.mapSeq λ_=>(#[]:Array Value))).objs.size=s.heap.objs.size + 2:=by rw [Yaa,hsz3]
  have keep4:∀ b o,s.heap.get? b=some o->(h3.update D (Obj.mapSeq λ_=>(#[]:Array Value))).get? b=some o:=λb o q=>(s1.2 b (Ym (hD ▸ Va (Yf q)))).trans (keep b o q)
  unfold ksk_tree
  refine Ya (listItems_at hoL rfl ?_)
  refine Ya (listUpdate_at hoL rfl ?_ (by rw [YH,YI]; omega) (YD _))
  refine Ya (seqEpoch_at ho1 rfl ?_)
  refine Ya (wpAny_newTuple ?_ (by show vs.length<=_; rw [YI]; omega))
  refine Ya (VZ ?_ (YD _))
  refine YM ?_
  have hkS:((h3.update D (Obj.mapSeq λ_=>(#[]:Array Value))).push (seqObj "tuple" vs.toArray 0)).objs.size=s.heap.objs.size + 3:=by rw [size_push',hsz4]
  have keep5:∀ b o,s.heap.get? b=some o->(((h3.update D (Obj.mapSeq λ_=>(#[]:Array Value))).push (seqObj "tuple" vs.toArray 0)).push (seqObj "list" #[] 0)).get? b=some o:=λb o q=>Yh _ (Yh _ (keep4 b o q))
  have fD:JL X pins H D:=I.fpOk (by omega) (I.hok.fresh (by omega))
  have fK:JL X pins H (s.heap.objs.size + 3):=I.fpOk (by omega) (I.hok.fresh (by omega))
  have I5:Inv X (pins ++ [(s.heap.objs.size + 3,seqObj "list" #[] 0),(D,seqObj "list" #[] e1)]) σ H { s with heap:=((h3.update D (Obj.mapSeq λ_=>(#[]:Array Value))).push (seqObj "tuple" vs.toArray 0)).push (seqObj "list" #[] 0),toks:=s.toks }:=by
   refine (I.kept (t':=s.toks) keep5).pins_of λp hp=>?_
   rcases Yw.mp hp with hp | hp
   ·exact (I.kept (t':=s.toks) keep5).pin p (Yy _ hp)
   ·rcases Yn.mp hp with rfl | hp
    ·exact⟨by rw [<- hkS]; exact Yo _ rfl,fK.1,fK.2.1,fK.2.2.1,λv z=>by cases z⟩
    ·rw [YF.mp hp]
     exact⟨Yh _ (Yh _ ho1),fD.1,fD.2.1,fD.2.2.1,λv z=>by cases z⟩
  show wpAny (model X.prog X.w) X.A.in1.in1 (ksk_rest D f b vs.toArray e1 (.ref ((h3.update D (Obj.mapSeq λ_=>(#[]:Array Value))).push (seqObj "tuple" vs.toArray 0)).objs.size)) _ E { s with heap:=((h3.update D (Obj.mapSeq λ_=>(#[]:Array Value))).push (seqObj "tuple" vs.toArray 0)).push (seqObj "list" #[] 0),toks:=s.toks }
  rw [hkS]
  exact rest D _ e1 vs _ _ I5 fD.1 fD fK (λz=>absurd (hD.trans z.symm) (by omega)) hv λs' hq=>⟨_,rfl,Yb ⟨_,rfl,hq⟩⟩
def Zs7(I:Inv X pins σ H s)(hl:H l=some (.lst xs))(hlen:ks.length=xs.length)(h64:xs.length < 64)
  (ha1:argsOk "sorted" ⟨[.ref l],kw⟩) (ha2:∀ x,argsOk "list.sort" ⟨[.ref x],kw⟩) (ht:∀ x,Builtin.«list.sort» ⟨[.ref x],kw⟩=ksk_tree x f b)
  (turn:∀ (i:Nat) (x:V) (k:Int),xs[i]?=some x->ks[i]?=some k->∀ (pins':List (Addr × Obj)) (H':Hp) (s':Shared) (u:Value),Inv X pins' σ H' s'->Zk H H'->ZF x u ->
   wpAny (model X.prog X.w) X.A.in1.in1 (call f [u]) (λv s''=>∃ t H'',v=.int k t/\Inv X pins' σ H'' s''/\Zk H' H'') (λ_ _=>False) s')
  (h:∀ (D:Addr) (H':Hp) (s':Shared) (ys:List V),H D=none->Inv X pins σ H' s'->Zk H H'->H' D=some (.lst ys)->Zer b ks xs ys->Q (.ref D) s') :
  wpAny (model X.prog X.w) X.A (call (.builtin "sorted") [.ref l] kw) Q E s:=by
 refine Zjd I hl h64 ha1 ha2 ht λD kS e1 vs s0 P I5 hD fD fK hDK hv hP=>?_
 exact Zmf I5 (λ_ _ q=>q) hD fD fK hDK hv hlen h64 turn λH' s' ys I' sH' e' hsk=>hP _ (h D H' s' ys hD I' sH' e' hsk)
end
end My
namespace My
open PySem PySem.W PySem.Calls PyProof.Rows
structure KaOrd(lt:Nat->Nat->Bool):Prop where
 refl:∀ a,lt a a=false
 trans:∀ a b c,lt b a=false->lt c b=false->lt c a=false
 asym:∀ a b,lt a b=true->lt b a=false
section
variable {lt:Nat->Nat->Bool}{cmp:Nat->Nat->(Bool->Shared->Prop)->Shared->Prop}{I:Shared->Prop}{N:Nat}
def ZfC(lt:Nat->Nat->Bool)(cmp:Nat->Nat->(Bool->Shared->Prop)->Shared->Prop)(I:Shared->Prop)(N:Nat):Prop :=
 ∀ i j,i < N->j < N->∀ (C:Bool->Shared->Prop) s,I s->(∀ s',I s'->C (lt i j) s')->cmp i j C s
def JJ(N:Nat)(p:Array Nat):Prop:=p.Perm (List.range N).toArray
theorem JJ.size{p:Array Nat}(h:JJ N p):p.size=N:=by
 have:=(Array.perm_iff_toList_perm.mp h).length_eq
 simpa using this
def JJ.blw{p:Array Nat}(h:JJ N p){i:Nat}(hi:i < N):p.getD i 0 < N:=by
 have hs:=h.size
 have hm:p.getD i 0∈p.toList:=by
  rw [Array.getD,dif_pos (hs ▸ hi)]
  exact Array.getElem_mem_toList _
 have:=(List.Perm.mem_iff (Array.perm_iff_toList_perm.mp h)).mp hm
 simpa using this
def JJ.rev{p:Array Nat}(h:JJ N p)(i j:Nat):JJ N (kas_rev p i j):=(mirror_perm p i j _).trans h
def JJ.bub{p:Array Nat}(h:JJ N p)(i j:Nat):JJ N (bubble p i j):=(bubble_perm p i j).trans h
def ZdX{p q:Array Nat}{i j:Nat}(h:p[i]?=q[j]?):p.getD i 0=q.getD j 0:=by
 rw [VL,VL,h]
def Zh8{p:Array Nat}{i j:Nat}(hj:j<=p.size)(k:Nat):(kas_rev p i j).getD k 0=if i<=k/\k < j then p.getD (i + j - 1 - k) 0 else p.getD k 0:=by
 have e:=getElem?_mirror_all (i:=i) hj k
 unfold kas_rev
 by_cases h1:i<=k/\k < j
 ·rw [if_pos h1] at e ⊢; exact ZdX e
 ·rw [if_neg h1] at e ⊢; exact ZdX e
def Zof{p:Array Nat}{src d:Nat}(hs:src < p.size)(hd:d<=src)(k:Nat):(bubble p src d).getD k 0=if k=src - d then p.getD src 0 else if src - d < k/\k<=src then p.getD (k - 1) 0 else p.getD k 0:=by
 have e:=getElem?_bubble hs d hd k
 by_cases h1:k=src - d
 ·rw [if_pos h1] at e ⊢; exact ZdX e
 ·rw [if_neg h1] at e ⊢
  by_cases h2:src - d < k/\k<=src
  ·rw [if_pos h2] at e ⊢; exact ZdX e
  ·rw [if_neg h2] at e ⊢; exact ZdX e
def ZhH(lt:Nat->Nat->Bool)(p:Array Nat)(k:Nat):Prop:=∀ i j,i<=j->j < k->lt (p.getD j 0) (p.getD i 0)=false
def Zcr(lt:Nat->Nat->Bool)(p:Array Nat)(k:Nat):Prop:=∀ i j,i<=j->j < k->lt (p.getD i 0) (p.getD j 0)=false
def ZoR(O:KaOrd lt){p:Array Nat}{k:Nat}(h1:1<=k)(h:ZhH lt p k)(e:lt (p.getD k 0) (p.getD (k - 1) 0)=false):ZhH lt p (k + 1):=by
 intro i j hij hj
 by_cases hk:j < k
 ·exact h i j hij hk
 ·have:j=k:=by omega
  subst this
  by_cases hi:i=j
  ·rw [hi]; exact O.refl _
  ·exact O.trans _ _ _ (h i (j - 1) (by omega) (by omega)) e
def ZcV(O:KaOrd lt){p:Array Nat}{k:Nat}(h1:1<=k)(h:Zcr lt p k)(e:lt (p.getD (k - 1) 0) (p.getD k 0)=false):Zcr lt p (k + 1):=by
 intro i j hij hj
 by_cases hk:j < k
 ·exact h i j hij hk
 ·have:j=k:=by omega
  subst this
  by_cases hi:i=j
  ·rw [hi]; exact O.refl _
  ·exact O.trans _ _ _ e (h i (j - 1) (by omega) (by omega))
def Zli(O:KaOrd lt)(hc:ZfC lt cmp I N){p:Array Nat}(hp:JJ N p):∀ (f k:Nat) {Q:Nat->Shared->Prop}{s:Shared},I s->1<=k->k + f=N->ZhH lt p k ->
  (∀ m s',I s'->k<=m->m<=N->ZhH lt p m->(m < N->lt (p.getD m 0) (p.getD (m - 1) 0)=true)->Q m s')->(kas_asc p f k).kasWp cmp Q s
 | 0,k,Q,s,hi,h1,hf,hu,q=>q k s hi (Yd _) (by omega) hu λh=>absurd h (by omega)
 | f + 1,k,Q,s,hi,h1,hf,hu,q=>by
  refine hc _ _ (hp.blw (by omega)) (hp.blw (by omega)) _ s hi λs' hi'=>?_
  cases hl:lt (p.getD k 0) (p.getD (k - 1) 0) with
  | true =>
   dsimp only
   rw [if_pos rfl]
   exact q k s' hi' (Yd _) (by omega) hu λ_=>hl
  | false =>
   dsimp only
   rw [if_neg (by simp)]
   exact Zli O hc hp f (k + 1) hi' (by omega) (by omega) (ZoR O h1 hu hl) λm s2 i2 g1 g2=>q m s2 i2 (by omega) g2
def Zfs{p:Array Nat}{k a b:Nat}(hb:b<=p.size)(hbk:b<=k)(h:Zcr lt p k)(he:∀ i j,a<=i->i < b->a<=j->j < b->lt (p.getD i 0) (p.getD j 0)=false):Zcr lt (kas_rev p a b) k:=by
 intro i j hij hj
 rw [Zh8 hb,Zh8 hb]
 split
 ·split
  ·exact he _ _ (by omega) (by omega) (by omega) (by omega)
  ·exact h _ _ (by omega) (by omega)
 ·split
  ·exact h _ _ (by omega) (by omega)
  ·exact h _ _ hij hj
def ZfP(O:KaOrd lt)(hc:ZfC lt cmp I N):∀ (f:Nat) (p:Array Nat) (k q:Nat) {Q:Array Nat × Nat × Nat->Shared->Prop}{s:Shared},JJ N p->I s->1<=k->q + 1<=k->k + f=N->Zcr lt p k ->
  (∀ i j,k - (q + 1)<=i->i < k->k - (q + 1)<=j->j < k->lt (p.getD i 0) (p.getD j 0)=false) ->
  (∀ p' m r s',JJ N p'->I s'->1<=m->m<=N->r + 1<=m->Zcr lt p' m->(∀ i j,m - (r + 1)<=i->i < m->m - (r + 1)<=j->j < m->lt (p'.getD i 0) (p'.getD j 0)=false)->Q (p',m,r) s') ->
  (kas_desc f p k q).kasWp cmp Q s
 | 0,p,k,q,Q,s,hp,hi,h1,hq,hf,hd,he,g=>g p k q s hp hi h1 (by omega) hq hd he
 | f + 1,p,k,q,Q,s,hp,hi,h1,hq,hf,hd,he,g=>by
  have hs:=hp.size
  refine hc _ _ (hp.blw (by omega)) (hp.blw (by omega)) _ s hi λs' hi'=>?_
  cases hl:lt (p.getD k 0) (p.getD (k - 1) 0) with
  | true =>
   dsimp only
   rw [if_pos rfl]
   have hd':Zcr lt p (k + 1):=ZcV O h1 hd (O.asym _ _ hl)
   have one:∀ (p':Array Nat) i j,k + 1 - (0 + 1)<=i->i < k + 1->k + 1 - (0 + 1)<=j->j < k + 1->lt (p'.getD i 0) (p'.getD j 0)=false:=by
    intro p' i j a b c d
    have e1:i=k:=by omega
    have e2:j=k:=by omega
    rw [e1,e2]; exact O.refl _
   split
   ·exact ZfP O hc f _ (k + 1) 0 (hp.rev _ _) hi' (by omega) (by omega) (by omega) (Zfs (by omega) (by omega) hd' he) (one _) g
   ·exact ZfP O hc f _ (k + 1) 0 hp hi' (by omega) (by omega) (by omega) hd' (one _) g
  | false =>
   dsimp only
   rw [if_neg (by simp)]
   refine hc _ _ (hp.blw (by omega)) (hp.blw (by omega)) _ s' hi' λs2 hi2=>?_
   cases hm:lt (p.getD (k - 1) 0) (p.getD k 0) with
   | true =>
    dsimp only
    rw [if_pos rfl]
    exact g p k q s2 hp hi2 h1 (by omega) hq hd he
   | false =>
    dsimp only
    rw [if_neg (by simp)]
    refine ZfP O hc f p (k + 1) (q + 1) hp hi2 (by omega) (by omega) (by omega) (ZcV O h1 hd hm) (λi j a b c d=>?_) g
    by_cases e1:i=k
    ·by_cases e2:j=k
     ·rw [e1,e2]; exact O.refl _
     ·rw [e1]; exact O.trans _ _ _ (he (k - 1) j (by omega) (by omega) (by omega) (by omega)) hl
    ·by_cases e2:j=k
     ·rw [e2]; exact O.trans _ _ _ hm (he i (k - 1) (by omega) (by omega) (by omega) (by omega))
     ·exact he i j (by omega) (by omega) (by omega) (by omega)
def Zif(O:KaOrd lt)(hc:ZfC lt cmp I N){p:Array Nat}{k:Nat}{Q:Nat × Array Nat->Shared->Prop}{s:Shared}(hp:JJ N p)(hi:I s)(h1:1<=k)(hk:k<=N)(hd:Zcr lt p k)
  (g:∀ m p' s',JJ N p'->I s'->1<=m->m<=N->ZhH lt p' m->Q (m,p') s'):(kas_tail3 k N p).kasWp cmp Q s:=by
 have hs:=hp.size
 unfold kas_tail3
 rw [Yac]
 refine Zli O hc (hp.rev 0 k) (N - k) k hi h1 (by omega) (λi j a b=>?_) λm s' i' a b c _=>g m _ s' (hp.rev _ _) i' (by omega) b c
 rw [Zh8 (by omega),Zh8 (by omega),if_pos ⟨by omega,by omega⟩,if_pos ⟨by omega,by omega⟩]
 exact hd _ _ (by omega) (by omega)
def ZdY(O:KaOrd lt)(hc:ZfC lt cmp I N){p:Array Nat}{k:Nat}{Q:Nat × Array Nat->Shared->Prop}{s:Shared}(hp:JJ N p)(hi:I s)(h1:1<=k)(hk:k + 1<=N)(hd:Zcr lt p (k + 1))
  (g:∀ m p' s',JJ N p'->I s'->1<=m->m<=N->ZhH lt p' m->Q (m,p') s'):(kas_descPart k N p).kasWp cmp Q s:=by
 unfold kas_descPart
 rw [Yac]
 refine ZfP O hc (N - (k + 1)) p (k + 1) 0 hp hi (by omega) (by omega) (by omega) hd (λi j a b c d=>?_) λp' m r s' hp' i' g1 g2 g3 g4 g5=>?_
 ·have e1:i=k:=by omega
  have e2:j=k:=by omega
  rw [e1,e2]; exact O.refl _
 ·have hs:=hp'.size
  show KasT.kasWp cmp (if r > 0 then kas_tail3 m N (kas_rev p' (m - (r + 1)) m) else kas_tail3 m N p') Q s'
  split
  ·exact Zif O hc (hp'.rev _ _) i' g1 g2 (Zfs (by omega) (Yd _) g4 g5) g
  ·exact Zif O hc hp' i' g1 g2 g4 g
def Zmt(O:KaOrd lt)(hc:ZfC lt cmp I N){p:Array Nat}{Q:Nat × Array Nat->Shared->Prop}{s:Shared}(hN:1<=N)(hp:JJ N p)(hi:I s)
  (g:∀ m p' s',JJ N p'->I s'->1<=m->m<=N->ZhH lt p' m->Q (m,p') s'):(kas_count N p).kasWp cmp Q s:=by
 have hs:=hp.size
 unfold kas_count
 rw [Yac]
 refine Zli O hc hp (N - 1) 1 hi (Yd _) (by omega) (λi j a b=>?_) λm s' i' g1 g2 g3 g4=>?_
 ·have e1:i=0:=by omega
  have e2:j=0:=by omega
  rw [e1,e2]; exact O.refl _
 ·by_cases e:m=N
  ·rw [if_pos (by simp [e])]
   exact g m p s' hp i' g1 g2 g3
  ·rw [if_neg (by simp [e])]
   have hl:=g4 (by omega)
   split
   ·refine hc _ _ (hp.blw (by omega)) (hp.blw (by omega)) _ s' i' λs2 i2=>?_
    cases hm:lt (p.getD 0 0) (p.getD (m - 1) 0) with
    | true =>
     dsimp only
     rw [if_pos rfl]
     exact g m p s2 hp i2 g1 g2 g3
    | false =>
     dsimp only
     rw [if_neg (by simp)]
     have heq:∀ i j,i < m->j < m->lt (p.getD i 0) (p.getD j 0)=false:=λi j a b =>
      O.trans _ _ _ (g3 j (m - 1) (by omega) (by omega)) (O.trans _ _ _ hm (g3 0 i (by omega) a))
     have hd:Zcr lt p (m + 1):=ZcV O g1 (λi j _ b=>heq i j (by omega) b) (O.asym _ _ hl)
     exact ZdY O hc (hp.rev _ _) i2 g1 (by omega) (Zfs (by omega) (by omega) hd λi j _ b _ d=>heq i j b d) g
   ·have e1:m=1:=by omega
    subst e1
    refine ZdY O hc hp i' g1 (by omega) (ZcV O g1 (λi j a b=>?_) (O.asym _ _ hl)) g
    have e1:i=0:=by omega
    have e2:j=0:=by omega
    rw [e1,e2]; exact O.refl _
def ZfB(O:KaOrd lt)(hc:ZfC lt cmp I N){p:Array Nat}{k:Nat}(hp:JJ N p)(hk:k < N)(hu:ZhH lt p k):∀ (f l r:Nat) {Q:Nat->Shared->Prop}{s:Shared},I s->l<=r->r<=k->r - l<=f ->
  (∀ i,i < l->lt (p.getD k 0) (p.getD i 0)=false)->(∀ i,r<=i->i < k->lt (p.getD k 0) (p.getD i 0)=true) ->
  (∀ m s',I s'->m<=k->(∀ i,i < m->lt (p.getD k 0) (p.getD i 0)=false)->(∀ i,m<=i->i < k->lt (p.getD k 0) (p.getD i 0)=true)->Q m s')->(kas_place p k f l r).kasWp cmp Q s
 | 0,l,r,Q,s,hi,h1,h2,hf,a,b,g=>g l s hi (by omega) a λi x y=>b i (by omega) y
 | f + 1,l,r,Q,s,hi,h1,h2,hf,a,b,g=>by
  unfold kas_place
  by_cases e:l >= r
  ·rw [if_pos e]
   exact g l s hi (by omega) a λi x y=>b i (by omega) y
  ·rw [if_neg e]
   refine hc _ _ (hp.blw hk) (hp.blw (by omega)) _ s hi λs' i'=>?_
   cases hl:lt (p.getD k 0) (p.getD ((l + r) / 2) 0) with
   | true =>
    dsimp only
    rw [if_pos rfl]
    refine ZfB O hc hp hk hu f l ((l + r) / 2) i' (by omega) (by omega) (by omega) a (λi x y=>?_) g
    cases hx:lt (p.getD k 0) (p.getD i 0) with
    | true=>rfl
    | false=>exact absurd (O.trans _ _ _ (hu _ _ x y) hx) (by rw [hl]; simp)
   | false =>
    dsimp only
    rw [if_neg (by simp)]
    exact ZfB O hc hp hk hu f ((l + r) / 2 + 1) r i' (by omega) h2 (by omega) (λi x=>O.trans _ _ _ (hu i _ (by omega) (by omega)) hl) b g
def Zn7(O:KaOrd lt)(hc:ZfC lt cmp I N):∀ (f:Nat) (p:Array Nat) (k:Nat) {Q:Array Nat->Shared->Prop}{s:Shared},JJ N p->I s->k + f=N->ZhH lt p k ->
  (∀ p' s',JJ N p'->I s'->ZhH lt p' N->Q p' s')->(kas_bin f p k).kasWp cmp Q s
 | 0,p,k,Q,s,hp,hi,hf,hu,g=>g p s hp hi (by rw [show N=k by omega]; exact hu)
 | f + 1,p,k,Q,s,hp,hi,hf,hu,g=>by
  have hs:=hp.size
  unfold kas_bin
  rw [Yac]
  refine ZfB O hc hp (by omega) hu k 0 k hi (by omega) (Yd _) (by omega) (λi x=>absurd x (by omega)) (λi x y=>absurd x (by omega)) λm s' i' g1 g2 g3=>?_
  refine Zn7 O hc f _ (k + 1) (hp.bub _ _) i' (by omega) (λi j a b=>?_) g
  have ek:k - (k - m)=m:=by omega
  rw [Zof (by omega) (by omega),Zof (by omega) (by omega),ek]
  repeat' split
  all_goals first
   | exact O.refl _
   | exact hu _ _ (by omega) (by omega)
   | exact g2 _ (by omega)
   | exact O.asym _ _ (g3 _ (by omega) (by omega))
   | (exfalso; omega)
def Zo3(O:KaOrd lt)(hc:ZfC lt cmp I N){Q:Array Nat->Shared->Prop}{s:Shared}(hN:1<=N)(hi:I s)(g:∀ p s',JJ N p->I s'->ZhH lt p N->Q p s'):(kas_sort N).kasWp cmp Q s:=by
 unfold kas_sort
 rw [Yac]
 refine Zmt O hc hN (Array.Perm.refl _) hi λm p' s' hp' i' g1 g2 g3=>?_
 show KasT.kasWp cmp (if m < N then kas_bin (N - max m 1) p' (max m 1) else .ret p') Q s'
 have e:max m 1=m:=by omega
 rw [e]
 split
 ·exact Zn7 O hc (N - m) p' m hp' i' (by omega) g3 g
 ·exact g p' s' hp' i' (by rw [show N=m by omega]; exact g3)
end
end My
namespace My
open PySem PySem.SeqAt PySem.MeetsSeq PySem.MeetsSeq2 PySem.MeetsSeq3 PyProof.Rows
open AutoSeq1 (wpAny_loadPart')
end My
namespace My
open PySem PySem.Spec L2
open PyProof.Rows hiding St
open PySem.W (kat_end kas_ask KatFin KasFin katRev)
def Zj1{xs:List V}{vs:List Value}(h:Zw xs vs)(i:Nat):ZF (xs.getD i .non) (vs.getD i Value.none):=by
 induction h generalizing i with
 | nil=>exact rfl
 | cons h1 _ ih =>
  cases i with
  | zero=>exact h1
  | succ i=>exact ih i
def Zie{xs:List V}{vs:List Value}(h:Zw xs vs):∀ l:List Nat,Zw (l.map λi=>xs.getD i .non) (l.map λi=>vs.getD i Value.none)
 | []=>.nil
 | i :: l=>.cons (Zj1 h i) (Zie h l)
section
variable {X:Cx}{pins:List (Addr × Obj)}{σ:St}{H:Hp}{s:Shared}{l:Addr}{xs:List V}{f:Value}{kw:List (Str × Value)}{E:VSP}{Q:VSP}{KeyIs:Nat->Hp->Value->Prop}{lt:Nat->Nat->Bool}{κ:SortKind}
end
end My
namespace My
open PySem PySem.Spec L2
open PyProof.Rows hiding St
open PySem.W (kat_lt kat_cons kat_nil kat_yes kat_no kat_one kat_kind KatTups KatLex KatGo)
structure Sto{α:Type}(r:α->α->Bool):Prop where
 irr:∀ a,r a a=false
 tr:∀ a b c,r a b=true->r b c=true->r a c=true
 tri:∀ a b,r a b=false->r b a=false->a=b
def Sto.asym{α:Type}{r:α->α->Bool}(h:Sto r){a b:α}(e:r a b=true):r b a=false:=by
 cases q:r b a with
 | false=>rfl
 | true=>have:=h.tr _ _ _ e q; rw [h.irr] at this; cases this
def Sto.ka{α:Type}{r:α->α->Bool}(h:Sto r)(f:Nat->α):KaOrd λi j=>r (f i) (f j) where
 refl a:=h.irr _
 trans a b c h1 h2:=by
  cases q:r (f c) (f a) with
  | false=>rfl
  | true =>
   exfalso
   cases q2:r (f b) (f c) with
   | true=>have:=h.tr _ _ _ q2 q; rw [h1] at this; cases this
   | false =>
    have e:=h.tri _ _ q2 h2
    rw [e,q] at h1
    cases h1
 asym a b e:=h.asym e
def ZfW:Sto λx y:Str=>decide (x.cps.toList < y.cps.toList) where
 irr a:=YY (List.lt_irrefl _)
 tr a b c h1 h2:=YL (List.lt_trans (VP h1) (VP h2))
 tri a b h1 h2:=by
  have e:a.cps.toList=b.cps.toList:=List.le_antisymm (Yas h2) (Yas h1)
  cases a; cases b
  simpa using e
def Zqf(xs:List Str):List V:=xs.map V.str
section
variable {X:Cx}{pins:List (Addr × Obj)}{σ:St}{H:Hp}{s:Shared}{E:VSP}
end
end My
namespace My
open PySem PySem.Spec L2
open PyProof.Rows hiding St
def ZtJ(q:V->Hp->Prop):List V->Hp->Prop
 | [v],H=>q v H
 | _,_=>False
def Zqn{q:V->Hp->Prop}{vs:List V}{H:Hp}(h:ZtJ q vs H):∃ v,vs=[v]/\q v H:=by
 match vs,h with
 | [v],h=>exact⟨v,rfl,h⟩
section
variable {X:Cx}{p pos kp:Pos}{e ek:Expr}{te tk:TE}{k:Nat}
end
section
variable {X:Cx}{j k:Nat}{x y:Str}{sp:Sp}{p:Pos}
def Zrk{pins:List (Addr × Obj)}{σ:L2.St}{H:Hp}{s:Shared}{Q:VK}{us:List Value}{f:Addr}(I:Inv X pins σ H s)(h:codeAny (model X.prog X.w) X.A.in1.in1 (.call (.ref f) ⟨us,[]⟩) (CR ZD X.stack X.prog X.w H s Q E0) s) :
  wpAny (model X.prog X.w) X.A.in1.in1 (call (.ref f) us) (EP X pins σ Q) (λ_ _=>False) s:=by
 refine wpAny_call (Y2 h λr s' hq=>?_)
 cases r with
 | error e=>exact hq
 | ok fl =>
  cases fl with
  | ret u=>exact I.after hq
  | next=>exact False.elim hq
  | brk=>exact False.elim hq
  | cont=>exact False.elim hq
def ZtP{P:Program}{w:World}{K:PySem.W.Frag}{mg:Str->Option Value}{base:Heap}{x qual:Str}{st:Stmt}{f c:Addr}{fd:FuncData}{N ps:List Str}{k:Nat}{sp:Sp}(F:Fun K x qual st f fd)(hc:fd.code=.ref c)(S:FnScope N ps (Zc st))(len:∀ vs H Q E,sp vs H Q E->vs.length=ps.length)
  (hbody:∀ (A:Around) (outer:List Env) (s:Shared) (H:Hp) (vs:List V) (Q:VK) (E:XK),Room k (A.deeper (envOfC qual (Zc st) s.heap.objs.size f (.ref c)))->sp vs H Q E ->
   ∃ t,QB (Zjg ZD P w K mg base N qual (Zc st) f (.ref c) A outer s H E).nox (ZB st) t/\t { nx:=λ_ H'=>Q .non H',rt:=Q } (Zz N vs) H):FnOk P w K mg base ZD (k + 1) f fd ps sp:=by
 obtain⟨oc,od,kV,doc,pm,an,cdv,ct,osl,rfl,lk,hcd⟩:=F.ex
 have hc:cdv=.ref c:=hc
 subst hc
 refine Zpn lk hcd S len λA outer s H vs Q E hr hsp=>?_
 obtain⟨t,h,q⟩:=hbody A outer s H vs Q E hr hsp
 exact⟨t,h.h.nox,q⟩
end
end My
namespace L2
open PySem PySem.Spec PyProof.Rows PySem.W
def Zkq{l:PySem.W.OpenLaw}{n k:Nat}{q:Program}{loose:List Str}{XP:(Str->Option Value)->Heap->Prop}{YP:World->Heap->Prop}{d:DefRec}{K:Params->PySem.W.Frag}{CX:CXT}{sp:PySem.W.Frag->Sp}{x:Str}(T:Addr->Option Str)
  (hn:l.most=some n) (hn2:n<=sizeLine) (hdf:d.params.defaults=[]) (hr:Room k callerA)
  (hY:∀ (w:World) (h:Heap),YP w h->(K w.params).In h)
  (hT:∀ (w:World) (h:Heap),YP w h->∀ b q,T b=some q->(∃ c,CodeHd h c b)/\h.get? b=some (tabObj #[])) (hKT:∀ (w:World) b q,T b=some q->(K w.params).lookup b=none)
  (F:∀ (w:World) (mg:Str->Option Value) (fa:Addr) (h:Heap),(K w.params).In h->h.Ns mainGlobals mg->mg d.name=some (.ref fa) ->
   ∃ fd:FuncData,(∀ (s:Shared) (u:Value),BindsTo s fd ⟨[u],[]⟩ [(x,u)]) /\
    ∀ base:Heap,(K w.params).In base->base.Ns mainGlobals mg->ZeN mg base->FnOk l.prog w (K w.params) mg base CX k fa fd [x] (sp (K w.params)))
  (hsp:∀ (K:PySem.W.Frag) (H:Hp) (a:Addr) (ns:List Int),ns.length<=n->(∀ b q,T b=some q->ZhL H b q)->Jw K H a (ns.map V.int)->sp K [.ref a] H (λv _=>v=.bl true) λ_ _ _=>False)
  (hCX:∀ (H:Hp) (s:Shared) (e:Value) (s':Shared),CX [] H s (λ_ _ _=>False) e s'->False) :
  PySem.W.WalkO q loose XP YP l.row.toRowW d [] (λf vs=>PySem.call f vs):=by
 refine Att.attach_call hn hdf λw s₀ s₁ mg mb fa o pm cd doc a vs ns G Y ho hd hcd hmg hobj hints hlen hg=>?_
 have KX:=hY w _ Y
 obtain⟨fd,hb,hF⟩:=F w mg fa _ KX G.T.g hmg
 exact ZlR (T:=T) KX G.T.g G.T.b G.T.builtins G.T.nolimit hg hobj hints (Yj hlen hn2) hr (hT w _ Y) (hKT w) (by obtain⟨bm,o,b1,b2,b3,b4,b5,b6⟩:=G.T.bmain; exact⟨bm,o,b1,b2,b3,b4,b5,b6⟩) hF hb (λH hO hS=>hsp (K w.params) H a ns hlen hO hS) λH e s'=>hCX H s₁ e s'
end L2
namespace My
open PySem PySem.Spec L2
open PyProof.Rows hiding St
instance (a b:Str):Decidable (leS a b):=inferInstanceAs (Decidable (a.cps.toList<=b.cps.toList))
def stp(gs:List (List Str))(x:Str):List (List Str):=gs ++ gs.map (· ++ [x])
def J3(l:List Str):List (List Str):=l.foldl stp [[]]
def Zft:∀ (l pre:List Str) (gs:List (List Str)),(∀ g∈gs,g.Sublist pre)->∀ g∈l.foldl stp gs,g.Sublist (pre ++ l)
 | [],pre,gs,h=>by rw [Y5]; exact h
 | x :: l,pre,gs,h=>by
  rw [List.foldl_cons,show pre ++ x :: l=(pre ++ [x]) ++ l by simp]
  refine Zft l (pre ++ [x]) _ λg hg=>?_
  rcases Yw.mp hg with hg | hg
  ·exact (h g hg).trans (List.sublist_append_left _ _)
  ·obtain⟨g',hg',rfl⟩:=Yk.mp hg
   exact (h g' hg').append (List.Sublist.refl _)
theorem ZoZ(gs:List (List Str))(x:Str):(stp gs x).length=2 * gs.length:=by unfold stp; rw [List.length_append,List.length_map]; omega
theorem Zia:∀ (l:List Str) (gs:List (List Str)),(l.foldl stp gs).length=2 ^ l.length * gs.length
 | [],gs=>by simp
 | x :: l,gs=>by rw [List.foldl_cons,Zia l,ZoZ,List.length_cons,Nat.pow_succ]; simp [Nat.mul_assoc,Nat.mul_comm,Nat.mul_left_comm]
theorem Znw(l:List Str):(J3 l).length=2 ^ l.length:=by unfold J3; rw [Zia]; simp
def ZoH(X:Cx)(σ:L2.St)(H:Hp)(ky:V->Int)(xs:List V)(fv:V):Prop:=∃ f,fv=.ref f/\∀ (pins:List (Addr × Obj)) (H':Hp) (s':Shared) (x:V) (u:Value),x∈xs->Inv X pins σ H' s'->Zk H H'->ZF x u ->
 wpAny (model X.prog X.w) X.A.in1.in1 (call (.ref f) [u]) (λv s''=>∃ t H'',v=.int (ky x) t/\Inv X pins σ H'' s''/\Zk H' H'') (λ_ _=>False) s'
def ZpK(X:Cx)(σ:L2.St)(Q:VK)(v:V):V->Hp->Prop:=λfv H2=>∃ a xs ky,v=.ref a/\H2 a=some (.lst xs)/\xs.length < 64/\ZoH X σ H2 ky xs fv/\∀ D H3 ys,H2 D=none->Zk H2 H3->H3 D=some (.lst ys)->Zer true (xs.map ky) xs ys->Q (.ref D) H3
def Zoc(X:Cx)(te tk:TE):TE:=λσ H Q=>te σ H λv H1=>tk σ H1 (ZpK X σ Q v)
def Zty(q:V->Hp->Prop):List V->Hp->Prop
 | [v,.bl true],H=>q v H
 | _,_=>False
def Zqp{q:V->Hp->Prop}{vs:List V}{H:Hp}(h:Zty q vs H):∃ v,vs=[v,.bl true]/\q v H:=by
 match vs,h with
 | [v,.bl true],h=>exact⟨v,rfl,h⟩
section
variable {X:Cx}{p pos kp kp2:Pos}{e ek eb:Expr}{te tk:TE}
def Zmd(hg:Gl X "sorted")(hm:X.mg "sorted"=none)(ha:PE X e te)(hk:PE X ek tk)(hb:PE X eb (tC (.bl true)))(hs:starEach [e] X.env=[(false,eval e X.env)]:=by rfl)
  (hks:(backToKw pos (keywordEach [⟨some "key",ek,kp⟩,⟨some "reverse",eb,kp2⟩] X.env)).filterMap (·.1)=[Str.ofString "key",Str.ofString "reverse"]:=by rfl) :
  PE X (.Call (.Name "sorted" p) [e] [⟨some "key",ek,kp⟩,⟨some "reverse",eb,kp2⟩] pos) (Zoc X te tk):=by
 intro pins s σ H Q I h
 refine Vg (Zbq I hg hm (show bootBuiltins "sorted"=some (.builtin "sorted") from rfl) ?_ (by decide) (by decide))
 refine callWith_kw ?_ (by rw [hs]; rfl) (by rw [hs]; rfl)
 refine ZZ (Zkc ha ZoD hs pos pins s σ H (ZtJ λv H1=>tk σ H1 (ZpK X σ Q v)) I h) ?_
 rintro us s1 ⟨vs,H1,I1,r1,q⟩
 obtain⟨v,rfl,q⟩:=Zqn q
 refine ZZ (Zlb (kws:=[⟨some "reverse",eb,kp2⟩]) hk (Zlb hb ZqY) pos pins s1 σ H1 (Zty (ZpK X σ Q v)) I1 q) ?_
 rintro ws s2 ⟨zs,H2,I2,r2,q2⟩
 obtain⟨fv,rfl,q2⟩:=Zqp q2
 obtain⟨a,xs,ky,rfl,hl,h64,⟨f,rfl,hf⟩,q3⟩:=q2
 cases r1 with
 | cons r1 r1' =>
  cases r1'
  cases r1
  cases r2 with
  | cons r2 r2' =>
   cases r2' with
   | cons r3 r3' =>
    cases r3'
    cases r2
    cases r3
    rw [hks]
    refine Zs7 (b:=true) (f:=.ref f) (ks:=xs.map ky) I2 hl (Ye ..) h64 (ksk_s2 _ _ _) (λx=>ksk_l2 _ _ _) (λx=>ksk_t2 _ _ _) (λi x k hx hki pins' H' s' u I' sm r=>?_) λD H' s' ys hD I' sm e' hs=>⟨.ref D,H',I',rfl,q3 D H' ys hD sm e' hs⟩
    rw [Yg,hx] at hki
    cases hki
    exact hf pins' H' s' x u (Yl hx) I' sm r
def Zmi(X:Cx)(P:Addr)(q:Str)(i:Nat)(t:TE):TE:=λσ H Q=>ZhL H P q/\∃ w,σ[i]?=some (some w)/\∀ fv H2,Zk H H2->(∀ (xs:List V) (ky:V->Int),(∀ x∈xs,∀ (H':Hp) (k:VK),Zk H2 H'->(∀ H'',Zk H' H''->k (.int (ky x)) H'')->t [some x,some w] H' k)->ZoH X σ H2 ky xs fv)->Q fv H2
theorem Zjc{params:Arguments}{body:Expr}{scope:Scope}{c P cz:Addr}{q y z:Str}{t:TE}{i k:Nat}(hdef:defaultsOf params X.env=([],[]))(hcl:closureFor scope X.env=pure [(z,cz)])(hcz:X.env.cells.lookup z=some cz)(hcode:X.env.code=.ref c)
  (hC:codeHdIn X.K c P=true) (hB:ZeN X.mg X.base) (hq:X.env.qual ++ "<lambda>"=q) (hr:Room (k + 3) X.A) (S:LamScope [y] [z] scope [(z,cz)]) (hN:X.N[i]?=some z) (hv:Vis X.env.scope z) (hloc:X.env.scope.names.lookup z ≠ some .local)
  (hbind:∀ (pm ctv u:Value) (c':Addr),bindArgs (PySem.W.kla_fn "<lambda>" q params body scope [(z,cz)] pm (.ref c') ctv) ⟨[u],[]⟩=pure [(y,u)])
  (hbody:∀ (f c':Addr) (s:Shared) (H:Hp),QE (ZmD ZD X.prog X.w X.K X.mg X.base [y,z] q scope f c' [(z,cz)] X.A.in1.in1 X.stack s H E0) body t) :
  PE X (.Lambda params body scope pos) (Zmi X P q i t):=by
 intro pins s σ H Q I ⟨⟨tk,hP⟩,w,hw,h⟩
 have hb:X.base.BuiltinsAt X.mg P:=by
  obtain⟨bm,o,b1,b2,b3,b4,b5,b6⟩:=hB
  refine⟨bm,o,b1,b2,λz=>?_,λz=>?_,b3,b4,b5,b6⟩
  ·obtain⟨o',es,ep,e,d,_⟩:=I.ok.mod.glob
   rw [z,e] at b3
   cases b3
   rw [d] at b6
   cases b6
  ·have:=(I.bs _ _ b3).2
   rw [z,hP] at this
   cases this
 refine Zsh hdef hcl hcode (codeHd_of_K I.ok.mod.kin hC) hb hq pins s σ H Q I ⟨tk,hP,λf c' oc pm ctv vs t' H2 hf hf2 hc2 hd hv' sm=>h _ H2 sm λxs ky hx=>⟨f,rfl,λpins' H' s' x u hxm I' sm' r=>?_⟩⟩
 have ho:=(I'.hok f _ (sm' _ _ hf2)).1
 have hoc:=(I'.hok c' _ (sm' _ _ hc2)).1
 refine ZZ (Zrk (Q:=λv H''=>v=.int (ky x)/\Zk H' H'') I' (Zro (k:=k) (ps:=[y]) (fs:=[z]) (ws:=[w]) (vs:=[x]) (us:=[u]) hr.in1.in1 ?_ ho ⟨c',oc,vs,t',rfl,hoc,hd,hv'⟩ (hbind _ _ _ _) rfl (.cons r .nil) S ?_ (hbody f c' s' H').h (hx x hxm H' _ sm' λH'' sm2=>⟨rfl,sm2⟩))) ?_
 ·exact⟨I'.ok.frames,I'.ok.mod,I'.bs,Yj I'.ok.bsz I'.sz,I'.stack,I'.stkFree,I'.hok,I'.bare⟩
 ·have hcell:∀ x c0,List.lookup x [(z,cz)]=some c0->x=z/\c0=cz:=λx c0 e=>by
   simp only [List.lookup] at e
   split at e
   ·rename_i hh
    cases e
    exact⟨by simpa using hh,rfl⟩
   ·cases e
  refine⟨rfl,λj x v e1 e2=>?_,λx c0 e=>?_,λx x' c0 e e'=>by rw [(hcell _ _ e).1,(hcell _ _ e').1]⟩
  ·match j with
   | 0 =>
    cases e1
    cases e2
    obtain⟨m,_,hl⟩:=I'.loc
    obtain⟨u',ru,lk⟩:=hl i z w hN hw hv
    rcases lk with ⟨hl',_⟩ | ⟨_,c0,hc0,hce⟩
    ·exact absurd hl' hloc
    ·have:c0=cz:=YT (hc0.symm.trans hcz)
     subst this
     exact⟨c0,u',by simp,ru,hce⟩
   | j + 1=>cases e1
  ·obtain⟨rfl,rfl⟩:=hcell x c0 e
   exact⟨I'.cell _ _ hcz,I'.freeC _ _ hcz⟩
 ·rintro v s'' ⟨w',H'',I'',r'',rfl,sm2⟩
  obtain⟨t2,rfl⟩:=r''
  exact⟨t2,H'',rfl,I'',sm2⟩
theorem ZpX(hg:Gl X "sorted")(hm:X.mg "sorted"=none)(ha:QE X e te)(hk:QE X ek tk)(hb:QE X eb (tC (.bl true)))(hp:Zu e=true:=by rfl):QE X (.Call (.Name "sorted" p) [e] [⟨some "key",ek,kp⟩,⟨some "reverse",eb,kp2⟩] pos) (Zoc X te tk) :=
 ⟨Zmd hg hm ha.h hk.h hb.h (Zq hp) rfl⟩
end
section
variable {prog:Program}{w:World}{A:Around}{E:VSP}{s:Shared}{κ:Type}[DecidableEq κ]{knd:KeyKind prog w κ}
end
section
variable {prog:Program}{w:World}{A:Around}{E:VSP}{s:Shared}
end
section
variable {X:Cx}{l m:Expr}{ta:TA}{p pos pos':Pos}{es:List Expr}
end
section
variable {prog:Program}{w:World}{A:Around}{E:VSP}{s:Shared}{κ:Type}[DecidableEq κ]{knd:KeyKind prog w κ}
def ZmM(mask finger moves:Nat)(led plain:Bool):SetTable.laid mask finger moves led plain #[]=some ({ mask,place:=#[],dummies:=#[],finger,led,moves,plain },#[]):=by
 unfold SetTable.laid SetTable.layClean
 simp
 intro j hj
 simp [hj]
def ZnF:∀ m < 65,SetTable.sizeAbove m<=128:=by decide +kernel
def Zpw{a:Addr}{o:Obj}{ep:Nat}{t:SetTable}{n:Nat}{Q:Unit->Shared->Prop}(ho:s.heap.get? a=some o)(hex:o.ExactSet)(hd:o.data=.set #[] ep t)(hf:t.fits 0=true)(hp:t.place=#[])(hn:n<=30)
  (q:∀ h',Heap.SameBut a s.heap h'->h'.SetOf knd a (λ_=>false) 0->Q () { s with heap:=h' }):wpAny (model prog w) A (setRoomFor a n) Q E s:=by
 have h0:s.heap.SetOf knd a (λ_=>false) 0:=⟨o,#[],ep,t,ho,hex,hd,λe he=>by simp at he,λk=>by simp,by decide,hf,rfl⟩
 unfold setRoomFor
 refine Ya (Vq ho hd hf ?_)
 dsimp only
 cases hr:t.roomFor n with
 | none=>exact Yb (q s.heap (Heap.SameBut.refl a s.heap) h0)
 | some wanted =>
  have hw:wanted < 65:=by
   unfold SetTable.roomFor at hr
   split at hr
   ·cases hr
    rw [hp]
    show (0 + n) * 2 < 65
    omega
   ·cases hr
  have hsz:=ZnF wanted hw
  unfold setRelay
  refine Ya (Vq ho hd hf ?_)
  dsimp only
  rw [if_neg (by rw [YI]; omega)]
  have er:t.relaid (Array.map (λx:Int × Value=>x.1) #[]) wanted=some ({ mask:=SetTable.sizeAbove wanted - 1,place:=#[],dummies:=#[],finger:=t.finger,led:=t.led,moves:=t.movedTo (SetTable.sizeAbove wanted - 1),plain:=t.plain },#[]):=by
   unfold SetTable.relaid
   rw [Array.map_empty]
   exact ZmM _ _ _ _ _
  rw [er]
  refine Ya (wpAny_of_eq (a:=((#[]:Array (Int × Value)),({ mask:=SetTable.sizeAbove wanted - 1,place:=#[],dummies:=#[],finger:=t.finger,led:=t.led,moves:=t.movedTo (SetTable.sizeAbove wanted - 1),plain:=t.plain }:SetTable))) rfl ?_)
  dsimp only
  refine wpAny_storeSet_of ho hd (q _ (Heap.SameBut.update _ _ _) ?_) (by simp)
  exact (SetOf_store (knd:=knd) ho hex hd (es':=#[]) (λe he=>by simp at he) (λk=>by simp) (by decide) (by simp [SetTable.fits,SetTable.fill])).2
def Zqd{d S:Addr}{es:Array DictEntry}{ep:Nat}{od:Obj}{kvs:List (κ × Value)}{nm:String}{Q:Unit->Shared->Prop}(hne:d ≠ S)(hod:s.heap.get? d=some od)(hdd:od.data=.dict es ep)(hko:KeysOf knd es)(hpo:Pairs knd es.toList kvs)(hno:(kvs.map (·.1)).Nodup)
    (hsc:∀ e∈es.toList,e.key.scannable=true) (hn:kvs.length<=30) (h0:s.heap.SetOf knd S (λ_=>false) 0) (q:∀ h',Heap.SameBut S s.heap h'->h'.SetOf knd S (λk=>decide (k∈kvs.map (·.1))) kvs.length->Q () { s with heap:=h' }) :
    wpAny (model prog w) A (do
          let __do_lift <- dictEntries d
          forIn [:__do_lift.size] PUnit.unit λi __s=>do
              let __do_lift <- dictEntries d
              match __do_lift[i]? with
                | some e=>do
                  let _ <- holding [e.key] (setAddHashed S e.key e.hash)
                  let __do_lift <- dictEpoch d
                  if (__do_lift != ep)=true then do
                      unsupported nm
                      pure (ForInStep.yield PUnit.unit)
                    else pure (ForInStep.yield PUnit.unit)
                | x=>do
                  unsupported "internal:set-from-dict"
                  pure (ForInStep.yield PUnit.unit)
          pure ()) Q E s:=by
  have hlen:kvs.length=es.size:=by rw [<- hpo.length]; simp
  refine Ya (wpAny_dictEntries hod hdd (Ya ?_))
  rw [Std.Legacy.Range.forIn_eq_forIn_range']
  simp only [Std.Legacy.Range.size,Nat.sub_zero,Nat.add_sub_cancel,Nat.div_one]
  refine VT _ (λrest _ s'=>∃ h' i,s'={ s with heap:=h' }/\rest=List.range' i (es.size - i)/\i<=es.size/\h'.SetOf knd S (λk=>decide (k∈(kvs.take i).map (·.1))) i/\h'.get? d=some od/\Heap.SameBut S s.heap h') _ ?_ ?_ _ _
    ⟨s.heap,0,rfl,by simp,Nat.zero_le _,by simpa using h0,hod,Heap.SameBut.refl _ _⟩
  · rintro x rest b s' ⟨h',i,rfl,hr,hi,hS,hod',sb⟩
    have hlt:i < es.size:=Nat.lt_of_le_of_ne hi λz=>by rw [z,Nat.sub_self] at hr; cases hr
    obtain⟨rfl,hrest⟩:x=i/\rest=List.range' (i + 1) (es.size - (i + 1)):=by
      rw [show es.size - i=(es.size - (i + 1)) + 1 by omega,List.range'_succ] at hr
      injection hr with a1 a2
      exact⟨a1,a2⟩
    refine Ya (wpAny_dictEntries hod' hdd ?_)
    rw [Vc hlt]
    have hltk:x < kvs.length:=by omega
    have hkv:=Yc hltk
    obtain⟨hkey,_⟩:=hpo.get? (e:=es[x]) (k:=kvs[x].1) (v:=kvs[x].2) (by simp [hlt]) hkv
    obtain⟨k',hk',hh⟩:=hko es[x] (Array.getElem_mem hlt)
    obtain rfl:k'=kvs[x].1:=knd.inj _ _ _ hk' hkey
    have hnew:kvs[x].1 ∉ (kvs.take x).map (·.1):=λhm=>by
      have h1:((kvs.take (x + 1)).map (·.1)).Nodup:=hno.sublist ((Vp _ _).map _)
      rw [Yp,hkv,YZ] at h1
      exact (List.nodup_append.mp h1).2.2 _ hm _ (by simp) rfl
    show wpAny _ _ (holding [es[x].key] (setAddHashed S es[x].key es[x].hash) >>= λ_=>_) _ _ _
    rw [hh]
    refine wpAny_bind (wpAny_holding (wpAny_setAddHashed_of hkey (hsc _ (by simp)) hS (by have:scanBound=4096:=rfl; omega) λh2 sb2 hS2=>?_))
    have hod2:h2.get? d=some od:=(sb2.2 d hne).trans hod'
    refine Ya (wpAny_dictEpoch hod2 hdd ?_)
    rw [if_neg (by simp)]
    refine Yb ⟨h2,x + 1,rfl,hrest,hlt,?_,hod2,sb.trans sb2⟩
    simp only [hnew,decide_false,if_false,Bool.false_eq_true] at hS2
    rw [Yp,hkv]
    have e:(λk'=>decide (k'∈(kvs.take x ++ (some kvs[x]).toList).map (·.1)))=λk'=>(decide (k'∈(kvs.take x).map (·.1)) || decide (k'=kvs[x].1)):=by
      funext k'
      rw [YZ,VF]
      simp only [Option.toList_some,List.map_cons,List.map_nil,List.mem_append,List.mem_singleton,Bool.or_eq_true,decide_eq_true_eq]
    rw [e]
    exact hS2
  · rintro b s' ⟨h',i,rfl,hr,hi,hS,hod',sb⟩
    have hin:i=es.size:=Nat.le_antisymm hi (Nat.le_of_not_lt λc=>by rw [show es.size - i=(es.size - (i + 1)) + 1 by omega,List.range'_succ] at hr; cases hr)
    rw [hin,<- hlen,Yv] at hS
    exact Yb (q h' sb hS)
set_option maxHeartbeats 3200000 in
theorem Zha{d:Addr}{kvs:List (κ × Value)}{Q:VSP}(hd0:(d == sysModules)=false)(hm:s.heap.DictOf knd d kvs)(hsc:∀ k u,knd.is k u=true->u.scannable=true)(hn:kvs.length<=30)
  (h:∀ (h':Heap),h'.SetOf knd s.heap.objs.size (λk=>decide (k∈kvs.map (·.1))) kvs.length->(∀ b o,s.heap.get? b=some o->h'.get? b=some o)->Q (.ref s.heap.objs.size) { s with heap:=h' }) :
  wpAny (model prog w) A (call (.type "set") [.ref d]) Q E s:=by
 obtain⟨c,tl,hmro⟩:=F.called_set.mro
 have hmade:=F.called_set.made
 have hsub:=F.called_set.sub
 refine wpAny_call (codeAny_of_tree ?_)
 show wpAny _ _ (callAny (.type "set") _) _ _ _
 refine Yb ⟨Code.quiet_builtin _ (by decide +kernel),Vj F.entry_type_call ?_⟩
 rw [Around.under_plain (weight_type_call_type "set" [.ref d] []) rfl]
 have h1:=F.called_set.notType
 have h2:=F.called_set.canCreate
 have hct:=F.typeCall_set_1 (.ref d)
 repeat (any_goals (first | assumption | wp_step))
 refine Y2 (ZlO (.ref d) (E:=E) (Q₁:=λobj s₁=>obj=.ref s.heap.objs.size/\s₁={ s with heap:=s.heap.push (Z4 w) }) ⟨rfl,rfl⟩) λr s₁ hr=>?_
 cases r with
 | error e=>exact hr
 | ok fl =>
  cases fl with
  | ret obj =>
   obtain⟨rfl,rfl⟩:=hr
   have hS:(s.heap.push (Z4 w)).get? s.heap.objs.size=some (Z4 w):=Yo _ rfl
   have hT:Shared.TypeIs { s with heap:=s.heap.push (Z4 w) } (.ref s.heap.objs.size) "set":=⟨_,hS,rfl⟩
   have hli:=F.called_set.init.lookup
   have hbi:=F.called_set.init.bind (.ref s.heap.objs.size)
   repeat (any_goals (first | assumption | wp_step))
   refine Y2 (codeAny_call_builtin (R:=wants (λr s₂=>r=.none/\∃ h',s₂={ s with heap:=h' }/\h'.SetOf knd s.heap.objs.size (λk=>decide (k∈kvs.map (·.1))) kvs.length/\(∀ b o,s.heap.get? b=some o->h'.get? b=some o)) E)
    F.called_set.init.plain F.entry_set_init (check_set_init_1 hT ?_)) λr₂ s₂ hr₂=>?_
   ·obtain⟨od,es,ep,hod,⟨hcl,hdc,hsl⟩,hdd,hko,hpo,hno⟩:=hm
    obtain⟨ocls,odict,odata,oslots⟩:=od
    simp only at hcl hdc hsl hdd
    subst hcl hdc hsl hdd
    have hod':(s.heap.push (Z4 w)).get? d=some { cls:=.type "dict",dict:=none,data:=.dict es ep,slots:=#[] }:=Yh _ hod
    have hsls:=F.sub_dict_set
    have hslf:=F.sub_dict_frozenset
    have hdS:d < s.heap.objs.size:=Yf hod
    unfold Builtin.«set.__init__» noKeywords Builtin.Frozenset.updateFrom
    generalize hPI:setRoomFor=PI
    wp_walk
    subst hPI
    have hlen:kvs.length=es.size:=by rw [<- hpo.length]; simp
    refine Zpw (knd:=knd) hS ⟨rfl,rfl,rfl⟩ rfl (by rfl) rfl (by omega) λh3 sb3 hS3=>?_
    have hne:d ≠ s.heap.objs.size:=Ym hdS
    refine Zqd (s:={ s with heap:=h3 }) hne ((sb3.2 d hne).trans hod') rfl hko hpo hno (λe he=>?_) hn hS3 λh4 sb4 hS4=>?_
    ·obtain⟨k,hk,_⟩:=hko e (by simpa using he)
     exact hsc k _ hk
    ·refine Yb ⟨rfl,h4,rfl,hS4,λb o e=>?_⟩
     have hb:b ≠ s.heap.objs.size:=Ym (Yf e)
     exact (sb4.2 b hb).trans ((sb3.2 b hb).trans (Yh _ e))
   ·cases r₂ with
    | error e=>exact hr₂
    | ok fl₂ =>
     cases fl₂ with
     | ret r =>
      obtain⟨rfl,h',rfl,hS',hk'⟩:=hr₂
      repeat (any_goals (first | assumption | wp_step))
      exact h _ hS' hk'
     | _=>exact hr₂.elim
  | _=>exact hr.elim
end
def ZgJ:entryFor table "set.__ne__"=some Builtin.«frozenset.__ne__» :=
 entryFor_alias (id':="frozenset.__ne__") (by kernel_rfl) (by first | rfl | decide +kernel | (unfold String.splitOn; simp +decide [String.splitOnAux])) (by decide +kernel) (by kernel_rfl)
section
variable {prog:Program}{w:World}{A:Around}{E:VSP}{s:Shared}{κ:Type}[DecidableEq κ]{knd:KeyKind prog w κ}
def ZdC{d:Addr}{kvs:List (κ × Value)}{Q:VSP}(hd0:(d == sysModules)=false)(hm:s.heap.DictOf knd d kvs)(hsc:∀ k u,knd.is k u=true->u.scannable=true)(hn:kvs.length<=30)
  (h:∀ (h':Heap) (S:κ->Bool),(∀ k,S k=true ↔ k∈kvs.map (·.1))->h'.SetOf knd s.heap.objs.size S kvs.length->(∀ b o,s.heap.get? b=some o->h'.get? b=some o)->Q (.ref s.heap.objs.size) { s with heap:=h' }) :
  wpAny (model prog w) A (call (.type "set") [.ref d]) Q E s:=Zha hd0 hm hsc hn λh' hS hk=>h h' _ (λk=>by simp) hS hk
def Zmr{x:Value}(h:x.scannable=true):Builtin.Frozenset.quietEq x=pure true:=by
 cases x <;> first | rfl | (simp [Value.scannable] at h)
def Zht:isSubtype (.type "set") (.type "frozenset")=pure false:=by rw [isSubtype_type]; kernel_rfl
def ZhK{a b:Addr}{oa ob:Obj}{es es':Array (Int × Value)}{ep ep':Nat}{t t':SetTable}{Q:List (Int × Value)->Shared->Prop}(hoa:s.heap.get? a=some oa)(hda:oa.data=.set es ep t)(hf:t.fits es.size=true)(hel:ElemsOf knd es.toList)
  (hob:s.heap.get? b=some ob) (hdb:ob.data=.set es' ep' t') (hf':t'.fits es'.size=true) (hel':ElemsOf knd es'.toList) (q:Q es.toList s):wpAny (model prog w) A (Builtin.Frozenset.walkUnseen a b) Q E s:=by
 unfold Builtin.Frozenset.walkUnseen
 refine Ya (Y8 hoa hda hf (Ya (Y8 hob hdb hf' (Ya ?_))))
 refine VT _ (λrest q' s'=>s'=s/\q'=(none,())/\∀ e∈rest,e.2.scannable=true) _ ?_ ?_ _ _ ⟨rfl,rfl,λe he=>?_⟩
 ·intro e rest q' s' h
  obtain⟨rfl,rfl,hs⟩:=h
  obtain⟨hh,x⟩:=e
  show wpAny _ _ (Builtin.Frozenset.quietEq x >>= λ_=>_) _ _ _
  exact Ya (wpAny_of_eq (Zmr (hs _ (.head _))) (Yb ⟨rfl,rfl,λe he=>hs e (.tail _ he)⟩))
 ·rintro q' s' ⟨rfl,rfl,_⟩
  exact Yb q
 ·rcases Yw.mp he with h | h
  ·exact (hel e h).2
  ·exact (hel' e h).2
def ZkU{a b:Addr}{S S':κ->Bool}{n m:Nat}{nm:String}{Q:Bool->Shared->Prop}(ha:s.heap.SetOf knd a S n)(hb:s.heap.SetOf knd b S' m)(hnm:n<=m)
  (q:∀ r:Bool,(r=true ↔ ∀ k,S k=true->S' k=true)->Q r s):wpAny (model prog w) A (Builtin.Frozenset.subsetOf nm a b) Q E s:=by
 obtain⟨oa,es,ep,t,hoa,_,hda,hel,hmem,hz,hf,hn⟩:=id ha
 obtain⟨ob,es',ep',t',hob,_,hdb,hel',hmem',hz',hf',hn'⟩:=id hb
 unfold Builtin.Frozenset.subsetOf Builtin.Frozenset.sizeOf
 refine Ya (Ya (Y8 hoa hda hf (Yb (Ya (Ya (Y8 hob hdb hf' (Yb ?_)))))))
 rw [if_neg (by omega)]
 refine Ya (Yaz hoa hda hf (Ya (ZhK hoa hda hf hel hob hdb hf' hel' (Ya ?_))))
 refine VT _ (λrest q' s'=>s'=s/\q'=(none,())/\∃ pre,es.toList=pre ++ rest/\∀ e∈pre,∃ k,knd.is k e.2=true/\S' k=true) _ ?_ ?_ _ _ ⟨rfl,rfl,[],rfl,λe he=>by cases he⟩
 ·rintro⟨hh,x⟩ rest q' s' ⟨rfl,rfl,pre,hpre,hin⟩
  have hx:(hh,x)∈es.toList:=by rw [hpre]; simp
  obtain⟨⟨k,hk,ehh⟩,hsc⟩:=hel _ hx
  dsimp only at hk ehh hsc ⊢
  rw [ehh]
  refine Ya (YM (wpAny_setFind_of hk hsc hb λr hr=>?_))
  cases r with
  | none =>
   have hS':S' k=false:=by rw [<- hr]; rfl
   dsimp only [Option.isNone]
   rw [if_pos rfl]
   refine Yb (Yb (q false ⟨(λz=>by cases z),λz=>?_⟩))
   have:=z k ((hmem k).mpr ⟨_,hx,hk⟩)
   rw [hS'] at this
   cases this
  | some j =>
   have hS':S' k=true:=by rw [<- hr]; rfl
   dsimp only [Option.isNone]
   rw [if_neg (by decide)]
   unfold Builtin.Frozenset.unchanged
   refine Ya (Ya (Yaz hoa hda hf ?_))
   rw [if_neg (by simp)]
   refine wpAny_pure (wpAny_pure ⟨rfl,rfl,pre ++ [(hh,x)],by rw [hpre]; simp,λe he=>?_⟩)
   rcases Yw.mp he with h | h
   ·exact hin e h
   ·rw [YF.mp h]; exact⟨k,hk,hS'⟩
 ·rintro q' s' ⟨rfl,rfl,pre,hpre,hin⟩
  rw [Y5] at hpre
  refine Yb (q true ⟨λ_ k hk=>?_,λ_=>rfl⟩)
  obtain⟨e,he,hke⟩:=(hmem k).mp hk
  rw [hpre] at he
  obtain⟨k',hk',hS'⟩:=hin e he
  obtain rfl:k'=k:=knd.inj _ _ _ hk' hke
  exact hS'
set_option maxHeartbeats 3200000 in
def Zrf{a b:Addr}{S S':κ->Bool}{n m:Nat}{Q:VSP}(ha:s.heap.SetOf knd a S n)(hb:s.heap.SetOf knd b S' m)(hu:A.units < cLine)
  (q:∀ r:Bool,(r=true ↔ (n=m/\∀ k,S k=true->S' k=true))->Q (.bool !r) s):wpAny (model prog w) A (compareOp .NotEq (.ref a) (.ref b)) Q E s:=by
 refine wpAny_richCompare_same_room (op:=.NotEq) ha.typeIs hb.typeIs PySem.F.slot_set_ne (YX PySem.F.slot_set_ne ha.typeIs ZgJ ?_ (PySem.F.args_set_ne_2 _ _)) hu
 obtain⟨oa,es,ep,t,hoa,⟨hc1,hc2,hc3⟩,hda,hel,hmem,hz,hf,hn⟩:=id ha
 obtain⟨ob,es',ep',t',hob,⟨hc1',hc2',hc3'⟩,hdb,hel',hmem',hz',hf',hn'⟩:=id hb
 have hs1:isSubtype (.type "set") (.type "set")=pure true:=F.called_set.sub
 show wpAny _ _ (Builtin.Frozenset.slot1 "__ne__" ⟨[.ref a,.ref b],[]⟩ >>= λ_=>_) _ _ s
 refine Ya ?_
 unfold Builtin.Frozenset.slot1
 refine Ya (wpAny_of_eq (a:=(Value.ref a,[Value.ref b])) rfl (Yb ?_))
 unfold Builtin.Frozenset.isAnySet
 refine Ya (Ya (VE hb.typeIs hs1 (Yb ?_)))
 rw [if_neg (by decide)]
 dsimp only
 refine Ya (Yb (Ya (Yb ?_)))
 unfold Builtin.Frozenset.sizeOf
 refine Ya (Ya (Y8 hoa hda hf (Yb (Ya (Ya (Y8 hob hdb hf' (Yb (Ya ?_))))))))
 have fin:∀ r:Bool,(r=true ↔ (n=m/\∀ k,S k=true->S' k=true))->wpAny (model prog w) A.in1 (ret (.bool !r)) (λfin s'=>∃ v,fin=.done (.ret v)/\(v ≠ .notImplemented/\Q v s')) E s:=λr hr=>Yb ⟨_,rfl,(λz=>by cases z),q r hr⟩
 by_cases e:es.size=es'.size
 ·rw [if_neg (by simp [e])]
  refine Ya (Ya (VE ha.typeIs Zht (Yb ?_)))
  rw [if_neg (by decide)]
  exact ZkU ha hb (by omega) λr hr=>fin r ⟨λz=>⟨by omega,hr.mp z⟩,λz=>hr.mpr z.2⟩
 ·rw [if_pos (by simpa using e)]
  exact Yb (fin false ⟨(λz=>by cases z),λz=>absurd (by omega) e⟩)
end
def Zkd(ta tb:TA):TE:=λσ H Q=>ta σ H λvs H1=>∃ a ka,vs=[.ref a]/\Rd H1 a (.dK ka)/\ka.length<=30/\tb σ H1 λus H2=>∃ b kb,us=[.ref b]/\Rd H2 b (.dK kb)/\kb.length<=30 /\
 ∀ r:Bool,(r=true ↔ (ka.length=kb.length/\∀ k∈ka.map (·.1),k∈kb.map (·.1)))->Q (.bl !r) H2
def ZhU{P:Program}{w:World}(k:ZU)(u:Value)(h:(ZY P w).is k u=true):u.scannable=true:=by
 have r:=ZmB h
 cases k with
 | inl i=>obtain⟨t,rfl⟩:=(show ∃ t,u=Value.int i t from r); rfl
 | inr z=>obtain⟨t,rfl⟩:=(show ∃ t,u=Value.str z t from r); rfl
section
variable {X:Cx}{e1 e2:Expr}{ta tb:TA}{p1 p2 q1 q2 pos:Pos}
def Inv.addPin{pins:List (Addr × Obj)}{σ:L2.St}{H:Hp}{s:Shared}{p:Addr × Obj}(I:Inv X pins σ H s)(h:s.heap.get? p.1=some p.2/\H p.1=none/\p.1 ≠ X.env.locals/\p.1 ∉ X.fs/\∀ v,p.2.data ≠ .cell v):Inv X (p :: pins) σ H s :=
 ⟨I.ok,I.os,I.bare,I.base,I.loc,I.cell,I.free,I.freeC,λx hx=>by
  rcases Yw.mp hx with hx | hx
  ·exact I.pin x (Vx _ hx)
  ·rcases Yn.mp hx with rfl | hx
   ·exact h
   ·exact I.pin x (Yy _ hx),I.hok,I.len⟩
def Inv.dropPin{pins:List (Addr × Obj)}{σ:L2.St}{H:Hp}{s:Shared}{p:Addr × Obj}(I:Inv X (p :: pins) σ H s):Inv X pins σ H s :=
 ⟨I.ok,I.os,I.bare,I.base,I.loc,I.cell,I.free,I.freeC,λx hx=>I.pin x (by
  rcases Yw.mp hx with hx | hx
  ·exact Vx _ hx
  ·exact Yy _ (Y7 _ hx)),I.hok,I.len⟩
def ZmO(hu:X.A.units < cLine)(hg:Gl X "set")(hm:X.mg "set"=none)(ha:QA X [e1] ta)(hb:QA X [e2] tb)(hp1:Zu e1=true:=by rfl)(hp2:Zu e2=true:=by rfl) :
  PC X .NotEq (.Call (.Name "set" p1) [e1] [] q1) (.Call (.Name "set" p2) [e2] [] q2) (Zkd ta tb):=by
 intro pins s σ H Q I h
 refine Vg (Zbq I hg hm (show bootBuiltins "set"=some (.type "set") by decide +kernel) ?_ (by decide) (by decide))
 refine Vb (ZZ (ha.h q1 pins s σ H _ I h) λus s1 ⟨vs,H1,I1,r1,qq⟩=>?_) (Zq hp1) rfl
 obtain⟨a,ka,rfl,ea,hla,h2⟩:=qq
 obtain⟨u,rfl,ru⟩:=JE r1
 cases ru
 obtain⟨_,hd0,va,rel,dd⟩:=ZcR I1.hok ea
 refine ZdC hd0 dd ZhU (by rw [<- rel.length]; exact hla) λh1 S1 eS1 hS1 hk1=>?_
 have hn1:H1 s1.heap.objs.size=none:=I1.hok.fresh (Yd _)
 have f1:=I1.fpOk (Yd _) hn1
 have I1':Inv X pins σ H1 { s1 with heap:=h1 }:=I1.kept (t':=s1.toks) hk1
 obtain⟨o1,es1,ep1,t1,ho1,hx1,hd1,hr1⟩:=id hS1
 have I2:Inv X ((s1.heap.objs.size,o1) :: pins) σ H1 { s1 with heap:=h1 }:=Inv.addPin I1' ⟨ho1,hn1,f1.2.1,f1.2.2.1,λv z=>by rw [hd1] at z; cases z⟩
 refine Vg (Zbq I2 hg hm (show bootBuiltins "set"=some (.type "set") by decide +kernel) ?_ (by decide) (by decide))
 refine Vb (ZZ (hb.h q2 _ _ σ H1 _ I2 h2) λus s2 ⟨vs,H2,I3,r2,qq⟩=>?_) (Zq hp2) rfl
 obtain⟨b,kb,rfl,eb,hlb,q⟩:=qq
 obtain⟨u,rfl,ru⟩:=JE r2
 cases ru
 obtain⟨_,hd0',vb,rel',dd'⟩:=ZcR I3.hok eb
 have hS1':s2.heap.SetOf (ZY X.prog X.w) s1.heap.objs.size S1 va.length:=⟨o1,es1,ep1,t1,(I3.pin _ (Yy _ (Vf ..))).1,hx1,hd1,hr1⟩
 refine ZdC hd0' dd' ZhU (by rw [<- rel'.length]; exact hlb) λh3 S2 eS2 hS2 hk2=>?_
 have hS1'':h3.SetOf (ZY X.prog X.w) s1.heap.objs.size S1 va.length:=let ⟨o,es,ep,t,ho,r⟩:=hS1'; ⟨o,es,ep,t,hk2 _ _ ho,r⟩
 have I4:Inv X pins σ H2 { s2 with heap:=h3 }:=(Inv.dropPin I3).kept (t':=s2.toks) hk2
 refine Zrf (s:={ s2 with heap:=h3 }) hS1'' hS2 hu λr hr=>⟨.bl !r,H2,I4,rfl,q r ?_⟩
 rw [hr,rel.length,rel'.length,rel.keys,rel'.keys]
 exact⟨λz=>⟨z.1,λk hk=>(eS2 k).mp (z.2 k ((eS1 k).mpr hk))⟩,λz=>⟨z.1,λk hk=>(eS2 k).mpr (z.2 k ((eS1 k).mp hk))⟩⟩
def Zo1(hu:X.A.units < cLine)(hg:Gl X "set")(hm:X.mg "set"=none)(ha:QA X [e1] ta)(hb:QA X [e2] tb)(hp1:Zu e1=true:=by rfl)(hp2:Zu e2=true:=by rfl) :
  QT X (.Compare (.Call (.Name "set" p1) [e1] [] q1) [.NotEq] [.Call (.Name "set" p2) [e2] [] q2] pos) (tB (Zkd ta tb)):=⟨Zop (ZmO hu hg hm ha hb hp1 hp2)⟩
end
def Zow(td:TE):TE:=λσ H Q=>td σ H λx H1=>∃ a kvs,x=.ref a/\Rd H1 a (.dK kvs)/\∀ l H2,H1 l=none->Zk H1 H2->H2 l=some (.lst (kvs.map (·.2)))->Q (.ref l) H2
def Zq8{kvs:List (ZU × V)}{vs:List (ZU × Value)}(r:KV kvs vs):∀ {i:Nat}{kv:ZU × V}{k:ZU}{u:Value},kvs[i]?=some kv->vs[i]?=some (k,u)->ZF kv.2 u:=by
 unfold KV at r
 induction r with
 | nil=>intro i kv k u h; simp at h
 | cons h t ih =>
  intro i kv k u h1 h2
  cases i with
  | zero=>simp at h1 h2; subst h1; rw [h2] at h; exact h.2
  | succ i=>exact ih (by simpa using h1) (by simpa using h2)
section
variable {X:Cx}{o:Expr}{td:TE}{p pos apos cpos:Pos}
def Zjk(hg:Gl X "list")(hm:X.mg "list"=none)(ho:QE X o td)(hbase:attributeBase o "values" X.env (eval o X.env)=eval o X.env:=by rfl)(hline:(apos.endLine == cpos.line)=true:=by rfl)(hc:X.calm=true:=by rfl) :
  QE X (.Call (.Name "list" p) [.Call (.Attribute o "values" apos) [] [] cpos] [] pos) (Zow td):=⟨by
 intro pins s σ H Q I h
 refine Vg (Zbq I hg hm (show bootBuiltins "list"=some (.type "list") by decide +kernel) ?_ (by decide) (by decide))
 refine Vb ?_ rfl rfl
 show wpAny _ _ (spliced ((false,eval (.Call (.Attribute o "values" apos) [] [] cpos) X.env) :: [])) _ _ s
 refine Calls.spliced_cons ?_
 refine wpAny_Call_method0_late hbase hline (ZZ (ho.h pins s σ H _ I h) λv s1 ⟨x,H1,I1,r1,a,kvs,ex,ea,q⟩=>?_)
 subst ex
 obtain rfl:v=Value.ref a:=r1
 obtain⟨t1,t2,_⟩:=ZrM I1 (.inl ⟨kvs,ea⟩)
 obtain⟨z,hd,vs,rel,dd⟩:=ZcR I1.hok ea
 refine⟨"dict","dict.values",PySem.F.plainAttrs_dict,PySem.F.slot_dict_values,PySem.F.type_dict_values,t1,t2,V4 rfl (PySem.evalArgs_none ?_)⟩
 refine call_meetsIn PySem.F.slot_dict_values dd.typeIs PySem.F.entry_dict_values (PySem.F.args_dict_values_1 _) (meets_dict_values (ZY X.prog X.w) a hd) ⟨⟨vs,dd⟩,Calls.spliced_nil ?_⟩
 have I2:Inv X pins σ H1 { s1 with heap:=s1.heap.push { cls:=.type "dict_values",data:=.fields #[.ref a] } }:=I1.kept (t':=s1.toks) λb o e=>Yh _ e
 obtain⟨ep,at_⟩:=dd.dictAt
 have hf:=I2.hok.fresh (Yd _)
 refine kdl_call (PySem.W.kdl_values (knd:=ZY X.prog X.w) (kvs:=vs) (ep:=ep)) (I1.ok.hd hc) ⟨⟨_,Yo _ rfl,rfl,rfl⟩,at_.push _⟩ (by rw [<- rel.length]; exact z) λh' tk acc' c' kk hl ⟨hs,hacc⟩=>?_
 refine⟨.ref _,_,I2.laid (o:=.lst (kvs.map (·.2))) kk (Nat.le_refl _) (show ZW X.prog X.w _ h' _ (.lst (kvs.map (·.2))) from ⟨by rw [List.length_map]; exact z,acc'.toList,c',Zej ?_ λi x u e1 e2=>?_,by simpa using hl⟩),rfl,q _ _ hf (ZO hf _) Zf⟩
 ·rw [List.length_map,rel.length]; simpa using hs.symm
 ·obtain⟨k,g1⟩:=hacc i u (by simpa using e2)
  rw [Yg] at e1
  obtain⟨kv,g3,rfl⟩:=Yx.mp e1
  exact Zq8 rel g3 g1⟩
end
end My
namespace My
open PySem PySem.Spec L2
open PyProof.Rows hiding St
open PySem.W (kat_lt kat_cons kat_nil kat_yes kat_no kat_one kat_kind kat_run kat_snds kas_item kas_ask KatTups KatLex KatGo)
section
variable {prog:Program}{w:World}{A:Around}{E:VSP}{s:Shared}
def Zfv{a:Addr}{vs:List Value}{n:Nat}{P:PySem.Fin->Shared->Prop}{lt:Nat->Nat->Bool}{κ:SortKind}(ho:s.heap.get? a=some (seqObj "list" vs.toArray n))(h64:vs.length < 64)(O:KaOrd lt)
  (kind:2<=vs.length->∀ h',(∀ b o,b ≠ a->s.heap.get? b=some o->h'.get? b=some o)->∀ C:SortKind->Shared->Prop,C κ { s with heap:=h' }->wpAny (model prog w) A (keyKind' vs.toArray) C E { s with heap:=h' })
  (cmp:∀ h',(∀ b o,b ≠ a->s.heap.get? b=some o->h'.get? b=some o)->∀ i j,i < vs.length->j < vs.length->∀ C:Bool->Shared->Prop,C (lt i j) { s with heap:=h' }->wpAny (model prog w) A (keyLt' κ (vs.getD i Value.none) (vs.getD j Value.none)) C (λ_ _=>False) { s with heap:=h' })
  (h:∀ p:Array Nat,JJ vs.length p->ZhH lt p vs.length->P (.done (.ret .none)) { s with heap:=sortedHeap s.heap a vs (List.toArray (p.toList.map λi=>vs.getD i Value.none)) }) :
  wpAny (model prog w) A (Builtin.«list.sort» ⟨[.ref a],[]⟩) P E s:=by
 rw [list_sort_plain]
 have ha:a < s.heap.objs.size:=Yf ho
 refine Ya (listItems_at ho rfl ?_)
 refine Ya (listUpdate_at ho rfl ?_ (by rw [YH,YI]; omega) (YD _))
 obtain⟨e1,ho1⟩:∃ e1,(s.heap.update a (Obj.mapSeq λ_=>#[])).get? a=some (seqObj "list" #[] e1):=⟨_,Yaf ho (λ_=>#[])⟩
 refine Ya (seqEpoch_at ho1 rfl ?_)
 refine Ya (wpAny_newTuple ?_ (by show vs.length<=_; rw [YI]; omega))
 refine Ya (VZ ?_ (YD _))
 refine YM ?_
 have ho6:(((s.heap.update a (Obj.mapSeq λ_=>#[])).push (seqObj "tuple" vs.toArray 0)).push (seqObj "list" #[] 0)).get? a=some (seqObj "list" #[] e1) :=
  Yh _ (Yh _ ho1)
 have kp:∀ b o,b ≠ a->s.heap.get? b=some o->(((s.heap.update a (Obj.mapSeq λ_=>#[])).push (seqObj "tuple" vs.toArray 0)).push (seqObj "list" #[] 0)).get? b=some o:=λb o hb e =>
  Yh _ (Yh _ ((Heap.get?_update_ne _ _ _ _ hb).trans e))
 show wpAny (model prog w) A _ P E { s with heap:=((s.heap.update a (Obj.mapSeq λ_=>#[])).push (seqObj "tuple" vs.toArray 0)).push (seqObj "list" #[] 0) }
 dsimp only
 by_cases h2:vs.toArray.size < 2
 ·rw [if_pos h2,if_pos h2]
  refine Ya (Yb ?_)
  rw [StateT.run_pure]
  refine Ya (Yb ?_)
  dsimp only
  refine Ya (seqEpoch_at ho6 rfl ?_)
  have hv:∀ l:List Value,l.length < 2->((l.toArray.zip l.toArray).map (·.2))=List.toArray ((List.toArray (List.range l.length)).toList.map λi=>l.getD i Value.none):=λl hl=>by
   match l,hl with
   | [],_=>simp
   | [v],_=>simp
  have hz:vs.length < 2:=by simpa using h2
  have e:(arrOf (SortSt.mk' general' (vs.toArray.zip vs.toArray) #[] 7 none)).map (·.2)=List.toArray ((List.toArray (List.range vs.length)).toList.map λi=>vs.getD i Value.none):=hv vs hz
  rw [e]
  refine wpAny_bind (listUpdate_at ho6 rfl ?_ (Nat.zero_le _) (by simp; rw [sizeLine_eq]; omega))
  simp only [bne_self_eq_false,Bool.false_eq_true,if_false]
  refine Yb (h (List.toArray (List.range vs.length)) (Array.Perm.refl _) λi j hij hj=>?_)
  have:i=j:=by omega
  subst this; exact O.refl _
 ·have hn:2<=vs.length:=by simpa using h2
  rw [if_neg h2,if_neg h2]
  refine Ya (kind hn _ kp _ ?_)
  refine Ya (Yz (kat_run (G:=λp s'=>JJ vs.length p/\ZhH lt p vs.length/\s'={ s with heap:=((s.heap.update a (Obj.mapSeq λ_=>#[])).push (seqObj "tuple" vs.toArray 0)).push (seqObj "list" #[] 0) })
   (Q:=λst' s'=>∃ p:Array Nat,p.size=vs.length/\arrOf st'=p.map (kas_item (vs.toArray.zip vs.toArray))/\failedOf st'=none/\JJ vs.length p/\ZhH lt p vs.length/\s'={ s with heap:=((s.heap.update a (Obj.mapSeq λ_=>#[])).push (seqObj "tuple" vs.toArray 0)).push (seqObj "list" #[] 0) })
   rfl hn h64 (λp' st' s' a1 a2 a3 ⟨a4,a5,a6⟩=>⟨p',a1,a2,a3,a4,a5,a6⟩) ?_) ?_ λ_ _ e=>e)
  ·have ZjP:ZfC lt (kas_ask prog w A κ vs) (λs2=>s2={ s with heap:=((s.heap.update a (Obj.mapSeq λ_=>#[])).push (seqObj "tuple" vs.toArray 0)).push (seqObj "list" #[] 0) }) vs.length:=by
    rintro i j hi hj C s2 rfl hC
    exact cmp _ kp i j hi hj C (hC _ rfl)
   exact Zo3 O ZjP (by omega) rfl λp s2 hp e2 hu=>⟨hp,hu,e2⟩
  rintro⟨⟨⟩,st'⟩ s' ⟨p,hp,har,hf,hin,hup,rfl⟩
  dsimp only
  have hout:=kat_snds rfl har
  rw [hout]
  have hsz:(List.toArray (p.toList.map λi=>vs.getD i Value.none)).size=vs.length:=by rw [YH,Ye,YK,hp]
  refine Ya (seqEpoch_at ho6 rfl ?_)
  refine Ya (listUpdate_at ho6 rfl ?_ (YD _) (Yj (Vu hsz) (by rw [YI]; omega)))
  rw [hf]
  simp only [bne_self_eq_false,Bool.false_eq_true,if_false]
  exact Yb (h p hin hup)
def Zjp{l:Addr}{vs:List Value}{Q:VSP}{lt:Nat->Nat->Bool}{κ:SortKind}(hl:s.heap.IsList l vs.toArray)(h64:vs.length < 64)(O:KaOrd lt)
  (kind:2<=vs.length->∀ h',(∀ b o,s.heap.get? b=some o->h'.get? b=some o)->∀ C:SortKind->Shared->Prop,C κ { s with heap:=h' }->wpAny (model prog w) A.in1.in1 (keyKind' vs.toArray) C (λ_ _=>False) { s with heap:=h' })
  (cmp:∀ h',(∀ b o,s.heap.get? b=some o->h'.get? b=some o)->∀ i j,i < vs.length->j < vs.length->∀ C:Bool->Shared->Prop,C (lt i j) { s with heap:=h' }->wpAny (model prog w) A.in1.in1 (keyLt' κ (vs.getD i Value.none) (vs.getD j Value.none)) C (λ_ _=>False) { s with heap:=h' })
  (h:∀ p:Array Nat,JJ vs.length p->ZhH lt p vs.length->Q (.ref (s.heap.objs.size + 1)) { s with heap:=sortedAll s.heap vs (List.toArray (p.toList.map λi=>vs.getD i Value.none)) }) :
  wpAny (model prog w) A (call (.builtin "sorted") [.ref l]) Q E s:=by
 refine Calls.call_function_entry kind_sorted plain_sorted entry_sorted (args_sorted1 _) ?_
 unfold Builtin.«sorted»
 refine Ya (m:=checkCount "sorted" 1 1 _) (Yb ?_)
 refine Ya (collect_list hl ?_ (by rw [YI]; omega))
 refine Ya (VZ ?_ (by rw [YI]; omega))
 have hsz:((s.heap.push (seqObj "list" #[] 0)).update s.heap.objs.size (Obj.mapSeq (· ++ vs.toArray))).objs.size=s.heap.objs.size + 1:=by
  rw [Yaa,size_push']
 have hoL:(((s.heap.push (seqObj "list" #[] 0)).update s.heap.objs.size (Obj.mapSeq (· ++ vs.toArray))).push (seqObj "list" vs.toArray 0)).get? (s.heap.objs.size + 1)=some (seqObj "list" vs.toArray 0):=by
  rw [<- hsz]; exact Yo _ rfl
 have keep:∀ b o,s.heap.get? b=some o->(((s.heap.push (seqObj "list" #[] 0)).update s.heap.objs.size (Obj.mapSeq (· ++ vs.toArray))).push (seqObj "list" vs.toArray 0)).get? b=some o:=λb o q=>by
  have hlt:b < s.heap.objs.size:=Yf q
  rw [YaC _ _ _ (by rw [hsz]; exact Ym (Va hlt)),Heap.get?_update_ne _ _ _ _ (Ym hlt),YaC _ _ _ (Ym hlt)]
  exact q
 show wpAny _ _ _ _ _ { s with heap:=((s.heap.push (seqObj "list" #[] 0)).update s.heap.objs.size (Obj.mapSeq (· ++ vs.toArray))).push (seqObj "list" vs.toArray 0) }
 rw [hsz]
 refine Ya (YM (YX slot_list_sort ⟨_,hoL,rfl⟩ entry_list_sort ?body (args_list_sort _)))
 case body =>
  have lt2:∀ {b o},s.heap.get? b=some o->b ≠ s.heap.objs.size + 1:=λe=>Ym (Va (Yf e))
  refine Zfv (s:={ s with heap:=((s.heap.push (seqObj "list" #[] 0)).update s.heap.objs.size (Obj.mapSeq (· ++ vs.toArray))).push (seqObj "list" vs.toArray 0) }) hoL h64 O
   (λh2 h' kp C q=>Yz (kind h2 h' (λb o e=>kp b o (lt2 e) (keep b o e)) C q) (λ_ _ x=>x) λ_ _ x=>x.elim) (λh' kp i j hi hj C q=>cmp h' (λb o e=>kp b o (lt2 e) (keep b o e)) i j hi hj C q) λp hp hu=>?_
  exact⟨_,rfl,Yb ⟨_,rfl,h p hp hu⟩⟩
end
def Jj(x y:Int × Str):Bool:=if x.1=y.1 then decide (x.2.cps.toList < y.2.cps.toList) else decide (x.1 < y.1)
def Zhg:Sto Jj where
 irr a:=by rw [Jj,if_pos rfl]; exact ZfW.irr _
 tr a b c h1 h2:=by
  unfold Jj at h1 h2 ⊢
  split at h1 <;> split at h2
  ·rw [if_pos (by omega)]; exact ZfW.tr _ _ _ h1 h2
  ·have:=VP h2
   rw [if_neg (by omega)]; exact YL (by omega)
  ·have:=VP h1
   rw [if_neg (by omega)]; exact YL (by omega)
  ·have:=VP h1
   have:=VP h2
   rw [if_neg (by omega)]; exact YL (by omega)
 tri a b h1 h2:=by
  unfold Jj at h1 h2
  split at h1
  ·rename_i e
   rw [if_pos e.symm] at h2
   exact Prod.ext e (ZfW.tri _ _ h1 h2)
  ·rename_i e
   rw [if_neg (Ne.symm e)] at h2
   have:=Yas h1
   have:=Yas h2
   omega
def Zn6(h:Heap)(k:Int × Str)(v:Value):Prop:=∃ (a:Addr) (o:Obj) (t u n:Nat) (r:Value),v=.ref a/\h.get? a=some o/\o.cls=.type "tuple"/\o.data=.seq #[.int k.1 t,.str k.2 u,r] n
theorem Zn6.kept{h h':Heap}{k:Int × Str}{v:Value}(kp:∀ b o,h.get? b=some o->h'.get? b=some o)(r:Zn6 h k v):Zn6 h' k v:=by
 obtain⟨a,o,t,u,n,r,h1,h2,h3⟩:=r
 exact⟨a,o,t,u,n,r,h1,kp _ _ h2,h3⟩
section
variable {prog:Program}{w:World}{A:Around}{E:VSP}{s:Shared}
def ZmN{ks:List Value}(h2:2<=ks.length)(h:∀ v∈ks,∃ k,Zn6 s.heap k v){C:SortKind->Shared->Prop}(q:C (tuples' true) s):wpAny (model prog w) A (keyKind' ks.toArray) C E s:=by
 have:∀ (l:List Value),(∀ v∈l,∃ k,Zn6 s.heap k v)->∃ fs:List Value,KatTups s.heap l fs/\fs.length=l.length/\∀ v∈fs,∃ n t,v=.int n t:=by
  intro l
  induction l with
  | nil=>intro _; exact⟨[],.nil,rfl,λv hv=>by cases hv⟩
  | cons v l ih =>
   intro hl
   obtain⟨k,a,o,t,u,n,r,rfl,ho,hc,hd⟩:=hl v (.head _)
   obtain⟨fs,g1,g2,g3⟩:=ih λw hw=>hl w (.tail _ hw)
   refine⟨.int k.1 t :: fs,.cons ho hc hd rfl g1,by simp [g2],λw hw=>?_⟩
   rcases Yn.mp hw with rfl | hw
   ·exact⟨_,_,rfl⟩
   ·exact g3 w hw
 obtain⟨fs,g1,g2,g3⟩:=this ks h
 refine kat_kind (T:=.type "int") g1 (by omega) (λv hv=>?_) rfl ?_
 ·obtain⟨n,t,rfl⟩:=g3 v hv
  exact .now
 ·exact q
def ZqN{k k':Int × Str}{v v':Value}(h:Zn6 s.heap k v)(h':Zn6 s.heap k' v')(hne:k=k'->v=v'){C:Bool->Shared->Prop}(q:C (Jj k k') s):wpAny (model prog w) A (keyLt' (tuples' true) v v') C E s:=by
 obtain⟨a,o,t,u,n,r,rfl,ho,hc,hd⟩:=h
 obtain⟨a',o',t',u',n',r',rfl,ho',hc',hd'⟩:=h'
 refine kat_lt ho hd ho' hd' ?_
 show KatLex prog w A true (decide (3 < 3)) C [(.int k.1 t,.int k'.1 t'),(.str k.2 u,.str k'.2 u'),(r,r')] 0 s
 refine kat_cons (wpAny_eqBool_int ?_)
 by_cases e:k.1=k'.1
 ·rw [show (k.1 == k'.1)=true by simp [e]]
  refine kat_yes (kat_cons (wpAny_eqBool_str ?_))
  rw [Jj,if_pos e] at q
  by_cases e2:k.2=k'.2
  ·rw [YL e2]
   have ea:a=a':=by have:=hne (Prod.ext e e2); cases this; rfl
   subst ea
   rw [ho] at ho'
   cases ho'
   rw [hd] at hd'
   have er:r=r':=by
    injection hd' with h1
    injection h1 with h1
    injection h1 with _ h1
    injection h1 with _ h1
    injection h1
   subst er
   refine kat_yes (kat_cons (SeqAt.EqAt.same _ _ _ _ _ ?_))
   refine kat_yes (kat_nil ?_)
   rw [e2,ZfW.irr] at q
   exact q
  ·rw [YY e2]
   exact kat_no (kat_one _ _ (PyProof.Rows.lt_str (show PySem.W.BoolBack C (.bool (decide (k.2.cps.toList < k'.2.cps.toList))) s from q)))
 ·rw [show (k.1 == k'.1)=false by simp [e]]
  rw [Jj,if_neg e] at q
  exact kat_no (oneLt_int q)
end
section
variable {X:Cx}{e:Expr}{t:TA}{p pos:Pos}
def ZgK:List V->Hp->VK->Prop:=λxs H Q=>∃ (a:Addr) (ps:List (V × Int × Str)),xs=[.ref a]/\H a=some (.lst (ps.map (·.1)))/\ps.length < 64/\(∀ x∈ps,∃ t r,x.1=.ref t/\H t=some (.tup [.int x.2.1,.str x.2.2,r]))/\(ps.map (·.2)).Nodup /\
 ∀ l H2 (qs:List (V × Int × Str)),H l=none->Zk H H2->H2 l=some (.lst (qs.map (·.1)))->qs.Perm ps->qs.Pairwise (λx y=>Jj x.2 y.2=true)->Q (.ref l) H2
def ZfQ:Jn X (.builtin "sorted") ZgK:=by
 intro pins s σ H xs us Q I r h
 obtain⟨a,ps,rfl,e,hl,hrow,hnd,q⟩:=h
 obtain⟨u,rfl,ru⟩:=JE r
 cases ru
 obtain⟨_,its,n,hv,g⟩:=I.hok a _ e
 have hil:its.length=ps.length:=by rw [<- hv.length,Ye]
 have hr:∀ i,(hi:i < ps.length)->Zn6 s.heap ps[i].2 (its.getD i Value.none):=λi hi=>by
  obtain⟨u,hu,rv⟩:=hv.get (i:=i) (x:=ps[i].1) (by rw [Yg,Yc hi]; rfl)
  have eu:its.getD i Value.none=u:=by rw [List.getD_eq_getElem?_getD,hu]; rfl
  rw [eu]
  obtain⟨t,r,e1,e2⟩:=hrow _ (YG hi)
  rw [e1] at rv
  cases rv
  obtain⟨_,its2,r2,⟨o,ho,hc,n2,hd⟩⟩:=I.hok t _ e2
  cases r2 with
  | @cons _ u1 _ us r1 r2 =>
   cases r2 with
   | @cons _ u2 _ us2 r2 r3 =>
    cases r3 with
    | @cons _ u3 _ us3 r3 r4 =>
     cases r4
     obtain⟨t1,rfl⟩:=r1
     obtain⟨t2,rfl⟩:=r2
     exact⟨t,o,t1,t2,n2,u3,rfl,ho,hc,hd⟩
 have hD:s.heap.objs.size<=s.heap.objs.size + 1:=Vv _
 have hf:H (s.heap.objs.size + 1)=none:=I.hok.fresh hD
 have hinj:∀ i j,(hi:i < ps.length)->(hj:j < ps.length)->ps[i].2=ps[j].2->i=j:=λi j hi hj e=>by
  have h1:=Yal hnd i (by rw [Ye]; exact hi)
  have h2:=Yal hnd j (by rw [Ye]; exact hj)
  rw [List.getElem_map] at h1 h2
  rw [e,h2] at h1
  exact h1.symm
 let kf:Nat->Int × Str:=λi=>(ps.getD i (.non,0,Str.empty)).2
 have hkf:∀ i,(hi:i < ps.length)->kf i=ps[i].2:=λi hi=>by show (ps.getD i _).2=_; simp [hi]
 refine Zjp (vs:=its) (lt:=λi j=>Jj (kf i) (kf j)) (κ:=tuples' true) ⟨_,g,rfl,n,rfl⟩ (by omega) (Zhg.ka kf) (λh2 h' kp C hC=>?_) (λh' kp i j hi hj C hC=>?_) λpp hpp hu=>?_
 ·refine ZmN h2 (λv hv=>?_) hC
  obtain⟨i,hi,ei⟩:=Vz hv
  have:=(hr i (by omega)).kept kp
  rw [List.getD_eq_getElem?_getD,Yc hi] at this
  exact⟨_,ei ▸ this⟩
 ·have hi':i < ps.length:=by omega
  have hj':j < ps.length:=by omega
  refine ZqN ((hr i hi').kept kp) ((hr j hj').kept kp) (λek=>?_) ?_
  ·rw [hinj i j hi' hj' ek]
  ·rw [<- hkf i hi',<- hkf j hj']; exact hC
 have hz1:((s.heap.push (seqObj "list" #[] 0)).update s.heap.objs.size (Obj.mapSeq (· ++ its.toArray))).objs.size=s.heap.objs.size + 1:=by rw [Yaa,size_push']
 have hk:∀ b o,s.heap.get? b=some o->(sortedAll s.heap its (List.toArray (pp.toList.map λi=>its.getD i Value.none))).get? b=some o:=λb o eb=>by
  have hb:=Yf eb
  unfold sortedAll
  exact ZbY (Ym (Va hb)) (Yh _ ((Vo _ _ (Vm hb)).trans (Yh _ eb)))
 obtain⟨c,e1⟩:∃ c,(sortedAll s.heap its (List.toArray (pp.toList.map λi=>its.getD i Value.none))).get? (s.heap.objs.size + 1)=some { cls:=.type "list",dict:=none,data:=.seq (List.toArray (pp.toList.map λi=>its.getD i Value.none)) c,slots:=#[] }:=by
  unfold sortedAll
  refine ZcO (n:=0) ?_
  rw [<- hz1]
  exact Yo _ rfl
 have hpl:pp.toList.Perm (List.range ps.length):=by rw [<- hil]; exact Array.perm_iff_toList_perm.mp hpp
 have hplt:∀ i∈pp.toList,i < ps.length:=λi hi=>Vk.mp (hpl.mem_iff.mp hi)
 let qs:List (V × Int × Str):=pp.toList.map λi=>ps.getD i (.non,0,Str.empty)
 have hq1:qs.map (·.1)=pp.toList.map λi=>(ps.map (·.1)).getD i .non:=by
  show (pp.toList.map _).map _=_
  rw [Ys]
  refine YQ λi hi=>?_
  have:=hplt i hi
  simp [this]
 have hvals:Zw (qs.map (·.1)) (pp.toList.map λi=>its.getD i Value.none):=by rw [hq1]; exact Zie hv _
 have hql:qs.length=ps.length:=by show (pp.toList.map _).length=_; rw [Ye,hpl.length_eq,List.length_range]
 have hqp:qs.Perm ps:=by
  have h1:qs.Perm ((List.range ps.length).map λi=>ps.getD i (.non,0,Str.empty)):=hpl.map _
  have h2:((List.range ps.length).map λi=>ps.getD i (.non,0,Str.empty))=ps:=List.ext_getElem (by simp) λi h1 h2=>by simp [h2]
  rw [h2] at h1
  exact h1
 have hpn:pp.toList.Nodup:=hpl.symm.nodup List.nodup_range
 have hpw:qs.Pairwise (λx y=>Jj x.2 y.2=true):=by
  refine VB.mpr (List.pairwise_iff_getElem.mpr λi j hi hj hij=>?_)
  have hs:=hpp.size
  have gi:pp.getD i 0=pp.toList[i]:=by simp at hi; simp [hi]
  have gj:pp.getD j 0=pp.toList[j]:=by simp at hj; simp [hj]
  have h1:=hu i j (by omega) (by simp at hj; omega)
  simp only [gi,gj] at h1
  show Jj (kf _) (kf _)=true
  cases h2:Jj (kf pp.toList[i]) (kf pp.toList[j]) with
  | true=>rfl
  | false =>
   have h3:=Zhg.tri _ _ h2 h1
   have l1:=hplt _ (YG hi)
   have l2:=hplt _ (YG hj)
   rw [hkf _ l1,hkf _ l2] at h3
   have h4:=hinj _ _ l1 l2 h3
   have h5:=Yal hpn i hi
   have h6:=Yal hpn j hj
   rw [h4,h6] at h5
   omega
 have hol:(qs.map (·.1)).length<=sizeLine:=by rw [Ye,hql]; exact Yj (Yt hl) (by decide)
 exact⟨.ref (s.heap.objs.size + 1),upd H (s.heap.objs.size + 1) (.lst (qs.map (·.1))),I.laid (t':=s.toks) (o:=.lst (qs.map (·.1))) hk hD (show ZW X.prog X.w _ _ _ (.lst (qs.map (·.1))) from ⟨hol,_,c,hvals,by simpa using e1⟩),rfl,q _ _ qs hf (ZO hf _) Zf hqp hpw⟩
def Zju(hg:Gl X "sorted")(hm:X.mg "sorted"=none)(ha:QA X [e] t)(hp:Zu e=true:=by rfl):QE X (.Call (.Name "sorted" p) [e] [] pos) (tCB ZgK t) :=
 ⟨Zbo ZfQ hg hm (by decide +kernel) ha.h (by decide) (by decide) (Zq hp) rfl⟩
end
end My
namespace My
open PySem PySem.SeqAt PySem.MeetsSeq PySem.MeetsSeq2 PySem.MeetsSeq3 PyProof.Rows
open AutoSeq1 (wpAny_loadPart')
def ZlB{prog:Program}{w:World}{A:Around}{E:VSP}{s:Shared}{x y:Str}{t u:Tok}{Q:VSP}(h:Q (.bool (!decide (y.cps.toList < x.cps.toList))) s):wpAny (model prog w) A (richCompare .LtE (.str x t) (.str y u)) Q E s:=by
 show wpAny (model prog w) A (compareOp .LtE (.str x t) (.str y u)) Q E s
 exact P.le_str h
def ZlM{prog:Program}{w:World}{A:Around}{E:VSP}{s:Shared}{x y:Int}{t u:Tok}{Q:VSP}(h:Q (.bool (decide (x<=y))) s):wpAny (model prog w) A (richCompare .LtE (.int x t) (.int y u)) Q E s:=by
 show wpAny (model prog w) A (compareOp .LtE (.int x t) (.int y u)) Q E s
 exact PyProof.Rows.le_int h
def Zja(l b:Addr)(n m:Int)(x y:Str)(t u t2 u2 k k2:Nat)(dd dd2:Option Addr)(sl sl2:Array (Option Value)) :
  Meets (Builtin.«tuple.__le__» ⟨[.ref l,.ref b],[]⟩)
   (λA R s=>s.heap.get? l=some { cls:=.type "tuple",dict:=dd,data:=.seq #[.int n t,.str x u] k,slots:=sl }/\s.heap.get? b=some { cls:=.type "tuple",dict:=dd2,data:=.seq #[.int m t2,.str y u2] k2,slots:=sl2 } /\
    R (.ok (.ret (.bool (!Jj (m,y) (n,x))))) s) :=
 .of_wp λprog w A R s h=>by
  obtain⟨hp,g,d,tk,os⟩:=s; obtain⟨hl,hb,h⟩:=h
  have f2:=AutoSeq1.sub_tuple_tuple
  wp_walk using wpAny_loadPart' hl,wpAny_loadPart' hb,VT _ (λrest b s'=>b.1=none/\s'=⟨hp,g,d,tk,os⟩/\(rest=[(.int n t,.int m t2),(.str x u,.str y u2)]\/(rest=[(.str x u,.str y u2)]/\n=m)\/(rest=[]/\n=m/\x=y))) _
  case turn =>
   rintro⟨a,c⟩ rest b s' ⟨hb',rfl,hz | ⟨hz,e⟩ | ⟨hz,_⟩⟩
   ·cases hz
    refine Ya (wpAny_eqBool_int ?_)
    by_cases q:n=m
    ·rw [show (n == m)=true by simp [q]]
     wp_walk
     exact⟨rfl,rfl,.inr (.inl ⟨rfl,q⟩)⟩
    ·rw [show (n == m)=false by simp [q]]
     rw [Jj,if_neg (Ne.symm q)] at h
     wp_walk using ZlM
     refine⟨_,rfl,?_⟩
     have e:(!decide ((m,y).fst < (n,x).fst))=decide (n<=m):=by
      rw [VF]
      simp
     rw [<- e]
     exact h
   ·cases hz
    refine Ya (wpAny_eqBool_str ?_)
    by_cases q:x=y
    ·rw [YL q]
     wp_walk
     exact⟨rfl,rfl,.inr (.inr ⟨rfl,e,q⟩)⟩
    ·rw [YY q]
     rw [Jj,if_pos e.symm] at h
     wp_walk using ZlB
     exact⟨_,rfl,h⟩
   ·cases hz
  case fin =>
   rintro⟨b1,b2⟩ s' ⟨hb',rfl,hz | ⟨hz,_⟩ | ⟨_,e1,e2⟩⟩
   ·cases hz
   ·cases hz
   ·simp only at hb'
    subst hb'
    rw [e1,e2,Zhg.irr] at h
    wp_walk
    exact⟨_,rfl,h⟩
  case h =>
   exact⟨rfl,rfl,.inl rfl⟩
def Zk1{A:Around}{s:Shared}{prog:Program}{w:World}{E:VSP}{Q:VSP}{l b:Addr}{o o':Obj}{n m:Int}{x y:Str}{t u t2 u2 k k2:Nat}(hl:s.heap.get? l=some o)(hc:o.cls=.type "tuple")(hd:o.data=.seq #[.int n t,.str x u] k)(hb:s.heap.get? b=some o')(hc2:o'.cls=.type "tuple")(hd2:o'.data=.seq #[.int m t2,.str y u2] k2)(hu:A.units < cLine)
  (h:Q (.bool (!Jj (m,y) (n,x))) s):wpAny (model prog w) A (richCompare .LtE (.ref l) (.ref b)) Q E s:=by
 obtain⟨cls,dd,data,sl⟩:=o
 obtain⟨cls2,dd2,data2,sl2⟩:=o'
 simp only at hc hd hc2 hd2
 subst hc hd hc2 hd2
 exact richCompare_meets_room (op:=.LtE) ⟨_,hl,rfl⟩ ⟨_,hb,rfl⟩ F.slot_tuple_le F.entry_tuple_le (F.args_tuple_le_2 _ _) (Zja l b n m x y t u t2 u2 k k2 dd dd2 sl sl2)
  ⟨hl,hb,show Value.bool (!Jj (m,y) (n,x)) ≠ Value.notImplemented/\Q (.bool (!Jj (m,y) (n,x))) s from ⟨(λx=>nomatch x),h⟩⟩ hu
end My
namespace My
open PySem PySem.Spec L2
open PyProof.Rows hiding St
section
variable {X:Cx}{a b:Expr}{ta tb:TE}{pos:Pos}{k:Nat}
def ZhQ{pins:List (Addr × Obj)}{σ:St}{H:Hp}{s:Shared}(I:Inv X pins σ H s){p:Addr}{n:Int}{z:Str}(h:H p=some (.tup [.int n,.str z])):∃ (o:Obj) (t u k:Nat),s.heap.get? p=some o/\o.cls=.type "tuple"/\o.data=.seq #[.int n t,.str z u] k:=by
 obtain⟨_,its2,r2,⟨o,ho,hc,n2,hd⟩⟩:=I.hok p _ h
 cases r2 with
 | @cons _ u1 _ us r1 r2 =>
  cases r2 with
  | @cons _ u2 _ us2 r2 r3 =>
   cases r3
   obtain⟨t1,rfl⟩:=r1
   obtain⟨t2,rfl⟩:=r2
   exact⟨o,t1,t2,n2,ho,hc,hd⟩
def ZtN:R2:=λx y H Q=>∃ p c n m z w,x=.ref p/\y=.ref c/\H p=some (.tup [.int n,.str z])/\H c=some (.tup [.int m,.str w])/\Q (.bl (!Jj (m,w) (n,z))) H
def Zrc(hr:Room k X.A):OpR X (compareOp .LtE) ZtN:=by
 intro pins s σ H x y v u Q I rx ry h
 obtain⟨p,c,n,m,z,w,rfl,rfl,h1,h2,q⟩:=h
 cases rx
 cases ry
 have hu:=hr.units
 obtain⟨o,t,u,k,g1,g2,g3⟩:=ZhQ I h1
 obtain⟨o',t',u',k',g1',g2',g3'⟩:=ZhQ I h2
 exact Zk1 g1 g2 g3 g1' g2' g3' (by omega) ⟨.bl _,H,I,rfl,q⟩
def ZsY(hr:Room k X.A)(ha:QE X a ta)(hb:QE X b tb):QT X (.Compare a [.LtE] [b] pos) (Zc4 (tOp ZtN ta tb)):=⟨Zbd (Zrc hr) ha.h hb.h (Zbp _)⟩
end
end My
set_option maxHeartbeats 4000000
namespace My
open PySem L2
theorem ZkV{i j:Int}:ZsE (.int i) (.int j)=true:=rfl
theorem Zlj{i j:Str}:ZsE (.str i) (.str j)=true:=rfl
end My
local macro_rules | `(tactic| walk_at "rd") => `(tactic| ((try dsimp only [L2.Zrm, L2.ZnE, L2.Zsr, L2.ZmJ, L2.Zse, L2.Zmj, L2.Zl3, L2.JR, L2.ZnQ, L2.tC, L2.tOp, L2.tUn, L2.rI, L2.rI0, L2.rU, L2.rEq, L2.rNe, L2.Zc4, L2.tB, L2.ZtF, L2.tOr, L2.ZsF, L2.Zm1, L2.Ztv, L2.Zni, L2.tIf, L2.ZgI, L2.tCB, L2.Zou, L2.Zhv, My.Zm2, My.Zly, L2.Zsx, My.ZmF, L2.Znh, L2.ZsI, My.Zmh, My.Znj, L2.Zss, L2.ZqP, L2.Zsw, L2.ZpW, L2.Zsy, L2.tBM, L2.ZgZ, List.getElem?_cons_zero, List.getElem?_cons_succ, List.set_cons_zero, List.set_cons_succ, List.cons_append, List.nil_append, My.ZkV, My.Zlj, Bool.not_true, Bool.not_false, List.length_cons, List.length_nil, My.ZsH, My.ZoC, My.ZqB, My.ZjX, My.tFs, My.ZsD, My.tLm, L2.ZhW, L2.Zos, L2.ZsG, L2.Zf1, My.tDG, My.sDP, My.tDI, L2.ZsC, L2.tSl, L2.ZeU, L2.ZjC, My.tXm, My.ZnI, My.ZnT, My.ZsA, My.Zf0, My.ZsK, My.Ztu, My.ZdM, My.ZiC, My.ZmZ, L2.Zox, My.Zov, L2.Zix, L2.Zsu, L2.Zl6, L2.Zi9, L2.Zmn, L2.Zr6, L2.Zsv, My.ZtC, My.tXE, My.tXS, My.Zoe, My.ZoE]); (try simp only [L2.Zrm, L2.ZnE, L2.Zsr, L2.ZmJ, L2.Zse, L2.Zmj, L2.Zl3, L2.JR, L2.ZnQ, L2.tC, L2.tOp, L2.tUn, L2.rI, L2.rI0, L2.rU, L2.rEq, L2.rNe, L2.Zc4, L2.tB, L2.ZtF, L2.tOr, L2.ZsF, L2.Zm1, L2.Ztv, L2.Zni, L2.tIf,
 L2.ZgI,L2.tCB,L2.Zou,L2.Zhv,My.Zm2,My.Zly,L2.Zsx,My.ZmF,L2.Znh,L2.ZsI,My.Zmh,My.Znj,L2.Zss,L2.ZqP,L2.Zsw,L2.ZpW,L2.Zsy,L2.tBM,L2.ZgZ,
 List.getElem?_cons_zero,List.getElem?_cons_succ,List.set_cons_zero,List.set_cons_succ,Y5,List.cons_append,List.nil_append,Option.some.injEq,Option.some_inj,exists_eq_left,exists_eq_left',exists_eq_right,exists_eq,exists_eq',exists_and_left,exists_and_right,exists_const,
 L2.V.int.injEq,L2.V.bl.injEq,L2.V.ref.injEq,L2.V.str.injEq,L2.V.ty.injEq,L2.HO.lst.injEq,L2.HO.tup.injEq,reduceCtorEq,List.cons.injEq,and_true,true_and,and_false,false_and,exists_false,or_false,false_or,My.ZkV,My.Zlj,Bool.not_true,Bool.not_false,Y3,Bool.false_eq_true,if_true,if_false,Bool.not_eq_true',decide_eq_false_iff_not,ite_self,ge_iff_le,gt_iff_lt,My.ZtZ,My.Zt5,My.Zuc,My.Zt8,YR,List.length_nil,Nat.zero_add,and_assoc,My.ZsH,My.ZoC,My.ZqB,My.ZjX,My.tFs,My.ZsD,My.tLm,L2.ZhW,L2.Zos,L2.ZsG,L2.Zf1,My.tDG,My.sDP,My.tDI,L2.ZsC,L2.tSl,L2.ZeU,L2.ZjC,My.tXm,My.ZnI,My.ZnT,My.ZsA,My.Zf0,My.ZsK,My.Ztu,My.ZdM,My.ZiC,My.ZmZ,L2.Zox,My.Zov,L2.Zix,L2.Zsu,L2.Zl6,L2.Zi9,L2.Zmn,L2.Zr6,L2.Zsv,My.ZtC,My.tXE,My.tXS,My.Zoe,My.ZoE,My.Zpm,My.Zmo,My.Zpv,My.Zmc,My.Zko,My.ZnJ,My.Zqr,My.Zsc,My.ZqQ,My.ZrD,My.ZrO,My.ZqU,My.Zq4,Bool.true_eq_false,Int.reduceToNat,Int.reducePow,Int.reduceLT,Int.reduceLE,Int.reduceNeg,Int.reduceAbs,Int.reduceSub,Int.reduceMul,Nat.reduceLT,Nat.reduceLeDiff,Nat.reducePow,Int.zero_add,true_or,or_true,eq_self])))
namespace My
open PySem PySem.Spec L2
open PyProof.Rows hiding St
theorem JN{N P:List Str}{sc:Scope}(a:sc.kind=.function:=by rfl)(b:sc.isCoroutine=false:=by rfl)(c:sc.isGenerator=false:=by rfl)(d:N.Nodup:=by decide +kernel)(e:N.take P.length=P:=by rfl)(f:∀ x∈P,sc.names.lookup x=some .local\/sc.names.lookup x=some .cell:=by decide +kernel)(g:∀ y∈sc.names,y.2 ≠ .free:=by decide +kernel):FnScope N P sc:=⟨a,b,c,d,e,f,g⟩
variable {K:PySem.W.Frag}{mg:Str->Option Value}{fd:FuncData}{k:Nat}
theorem JU{P:Program}{w:World}{base:Heap}{x qual:Str}{st:Stmt}{f:Addr}{N ps:List Str}{sp:Sp}(F:Fun K x qual st f fd)(S:FnScope N ps (Zc st))(hb:∀ (cdv:Value) (A:Around) (outer:List Env) (s:Shared) (H:Hp) (vs:List V) (Q:VK) (E:XK),Room k (A.deeper (envOfC qual (Zc st) s.heap.objs.size f cdv))->sp vs H Q E->∃ t,QB (Zjg ZD P w K mg base N qual (Zc st) f cdv A outer s H E).nox (ZB st) t/\t { nx:=λ_ H'=>Q .non H',rt:=Q } (Zz N vs) H)(len:∀ vs H Q E,sp vs H Q E->vs.length=ps.length:=by intro vs H Q E h; repeat (first | (obtain⟨e,_⟩:=h; subst e; rfl) | (obtain⟨_,h⟩:=h))):FnOk P w K mg base ZD (k + 1) f fd ps sp:=okQ F S len hb
def JO(i:Nat):Stmt:=PySem.Challenge.pw_roadshare_k34_whole_just_one_of_both.main.body.getD i (.Pass ⟨0,0,0,0⟩)
abbrev Zdb:Stmt:=JO 8
def Zho:FnScope ["thing"] ["thing"] (Zc Zdb):=JN
abbrev ZaR:Stmt:=JO 9
def Zak:FnScope ["one","other","larger","smaller","rest"] ["one","other"] (Zc ZaR):=JN
abbrev Zc9:Stmt:=JO 12
def ZcC:FnScope ["thing","top","bottom"] ["thing"] (Zc Zc9):=JN
abbrev Za8:Stmt:=JO 13
def Zf4:FnScope ["top","bottom","divisor"] ["top","bottom"] (Zc Za8):=JN
abbrev Za6:Stmt:=JO 10
def Zc5:FnScope ["one","other"] ["one","other"] (Zc Za6):=JN
abbrev ZeO:Stmt:=JO 14
def ZiQ:FnScope ["one","other"] ["one","other"] (Zc ZeO):=JN
abbrev ZeI:Stmt:=JO 15
def ZiG:FnScope ["one","other"] ["one","other"] (Zc ZeI):=JN
abbrev Zds:Stmt:=JO 16
def Zef:FnScope ["some","bottom"] ["some"] (Zc Zds):=JN
abbrev Zbg:Stmt:=JO 17
def ZaL:FnScope ["some","bottom","one"] ["some"] (Zc Zbg):=JN
abbrev Zdc:Stmt:=JO 18
def Zhs:FnScope ["one","bottom"] ["one","bottom"] (Zc Zdc):=JN
abbrev Zdj:Stmt:=JO 32
def ZgY:FnScope ["thing"] ["thing"] (Zc Zdj):=JN
abbrev ZeV:Stmt:=JO 33
def Zfn:FnScope ["thing","many","to"] ["thing","many"] (Zc ZeV):=JN
abbrev Zcf:Stmt:=JO 34
def Zb0:FnScope ["thing","many","road"] ["thing"] (Zc Zcf):=JN
abbrev Zc7:Stmt:=JO 35
def ZbU:FnScope ["roads","k","way","place"] ["roads","k"] (Zc Zc7):=JN
abbrev Zai:Stmt:=Zct (JO 36) 0
def ZdE:FnScope ["self","roads"] ["self","roads"] (Zc Zai):=JN
abbrev Zaw:Stmt:=Zct (JO 36) 2
def ZgA:FnScope ["self"] ["self"] (Zc Zaw):=JN
abbrev Zap:Stmt:=Zct (JO 36) 4
def Zfx:FnScope ["self","k"] ["self","k"] (Zc Zap):=JN
abbrev Zaa:Stmt:=Zct (JO 36) 7
def Zce:FnScope ["self","k"] ["self","k"] (Zc Zaa):=JN
abbrev Zah:Stmt:=Zct (JO 36) 8
def Zdk:FnScope ["self","k"] ["self","k"] (Zc Zah):=JN
abbrev ZaE:Stmt:=Zct (JO 36) 5
def ZhF:FnScope ["self","k"] ["self","k"] (Zc ZaE):=JN
abbrev Zal:Stmt:=Zct (JO 36) 6
def Zeo:FnScope ["self","k"] ["self","k"] (Zc Zal):=JN
abbrev ZfN:Stmt:=JO 20
def Zd3:FnScope ["tree","homes","group","roads","name"] ["tree","homes","group"] (Zc ZfN):=JN
abbrev Zan:Stmt:=JO 21
def ZcH:FnScope ["tree","homes"] ["tree","homes"] (Zc Zan):=JN
abbrev ZlG:Stmt:=JO 22
def ZpF:FnScope ["tree","homes","group"] ["tree","homes","group"] (Zc ZlG):=JN
abbrev ZbZ:Stmt:=JO 23
def Ze5:FnScope ["tree","homes"] ["tree","homes"] (Zc ZbZ):=JN
abbrev Zhj:Stmt:=JO 24
def Zit:FnScope ["tree","homes","k","places"] ["tree","homes","k"] (Zc Zhj):=JN
abbrev Zbw:Stmt:=JO 26
def ZeP:FnScope ["tree","homes","sharing"] ["tree","homes","sharing"] (Zc Zbw):=JN
abbrev Zf8:Stmt:=JO 27
def Za2:FnScope ["tree","homes","sharing","name","left","table","road","payers","amount"] ["tree","homes","sharing"] (Zc Zf8):=JN
abbrev Zfr:Stmt:=JO 28
def Zlv:FnScope ["homes","names"] ["homes","names"] (Zc Zfr):=JN
abbrev Zdr:Stmt:=JO 29
def ZaZ:FnScope ["price","payers","left","rows","due","name","amount"] ["price","payers","left"] (Zc Zdr):=JN
abbrev Zb1:Stmt:=JO 38
def Ze3:FnScope ["_law_script","_law_k"] ["_law_script","_law_k"] (Zc Zb1):=JN
abbrev ZcA:Stmt:=JO 39
def ZgP:FnScope ["_law_cell","_law_k"] ["_law_cell","_law_k"] (Zc ZcA):=JN
abbrev ZbX:Stmt:=JO 40
def ZaH:FnScope ["_law_cell","_law_many","_law_most","_law_made","_law_rest","_law_k"] ["_law_cell","_law_many","_law_most"] (Zc ZbX):=JN
abbrev ZeB:Stmt:=JO 41
def Zcl:FnScope ["_law_top","_law_bottom","_law_one","_law_other"] ["_law_top","_law_bottom"] (Zc ZeB):=JN
abbrev Zby:Stmt:=JO 42
def ZeY:FnScope ["_law_number","_law_wide"] ["_law_number","_law_wide"] (Zc Zby):=JN
abbrev Zas:Stmt:=JO 43
def Zv:FnScope ["_law_script","_law_most","_law_head","_law_many","_law_wide","_law_turned","_law_k","_law_number","_law_other","_law_roads","_law_prices","_law_to"] ["_law_script","_law_most"] (Zc Zas):=JN
abbrev Zbu:Stmt:=JO 44
def Zab:FnScope ["_law_cell","_law_many","_law_some","_law_word","_law_rest","_law_k","_law_spot","_law_at","_law_names","_law_made","_law_more"] ["_law_cell","_law_many"] (Zc Zbu):=JN
abbrev ZbG:Stmt:=JO 45
def Zav:FnScope ["_law_script","_law_many","_law_most","_law_head","_law_names","_law_homes","_law_name","_law_number"] ["_law_script","_law_many","_law_most"] (Zc ZbG):=JN
abbrev ZeC:Stmt:=JO 46
def Zde:FnScope ["_law_roads","_law_k","_law_way_here"] ["_law_roads","_law_k"] (Zc ZeC):=JN
abbrev Zea:Stmt:=JO 47
def Zjh:FnScope ["_law_one","_law_other"] ["_law_one","_law_other"] (Zc Zea):=JN
abbrev Zdt:Stmt:=JO 48
def Zg5:FnScope ["_law_one","_law_other"] ["_law_one","_law_other"] (Zc Zdt):=JN
abbrev Zcw:Stmt:=JO 49
def Zbr:FnScope ["_law_some","_law_total_here","_law_one"] ["_law_some"] (Zc Zcw):=JN
abbrev Zdi:Stmt:=JO 50
def ZbS:FnScope ["_law_roads","_law_homes","_law_group","_law_known","_law_name","_law_k"] ["_law_roads","_law_homes","_law_group"] (Zc Zdi):=JN
abbrev Zbm:Stmt:=JO 51
def Zac:FnScope ["_law_roads","_law_homes","_law_cell","_law_sharing","_law_name","_law_numbers_here","_law_k","_law_names","_law_parts","_law_part","_law_price"] ["_law_roads","_law_homes","_law_cell"] (Zc Zbm):=JN
abbrev Zbx:Stmt:=JO 52
def Zcc:FnScope ["_law_told","_law_number"] ["_law_told"] (Zc Zbx):=JN
abbrev Zcd:Stmt:=JO 53
def Za9:FnScope ["_law_table","_law_homes","_law_many","_law_last","_law_row"] ["_law_table","_law_homes","_law_many"] (Zc Zcd):=JN
abbrev ZaY:Stmt:=JO 54
theorem Zae:FnScope ["_law_roads","_law_homes","_law_sharing","_law_table","_law_paid","_law_shares","_law_name","_law_k","_law_amount"] ["_law_roads","_law_homes","_law_sharing","_law_table"] (Zc ZaY):=JN
abbrev ZaU:Stmt:=JO 55
theorem ZaQ:FnScope ["_law_roads","_law_homes","_law_sharing","_law_group","_law_name","_law_more"] ["_law_roads","_law_homes","_law_sharing","_law_group"] (Zc ZaU):=JN
abbrev Zbj:Stmt:=JO 56
def Zao:FnScope ["_law_sharing","_law_whole","_law_cell","_law_names","_law_one","_law_other","_law_amount"] ["_law_sharing","_law_whole","_law_cell"] (Zc Zbj):=JN
abbrev ZbW:Stmt:=JO 57
def Za1:FnScope ["_law_roads","_law_homes","_law_sharing","_law_groups","_law_name","_law_group"] ["_law_roads","_law_homes","_law_sharing"] (Zc ZbW):=JN
abbrev ZfM:Stmt:=JO 58
def Zeg:FnScope ["_law_script","_law_roads","_law_homes","_law_sharing","_law_whole","_law_k","_law_told"] ["_law_script"] (Zc ZfM):=JN
variable {H:Hp}
def Jt{c:TT}{a b:TS}{D:Ends}{σ:St}(h:∀ A:St->Hp->Prop,A=a D->∀ B:St->Hp->Prop,B=b D->c σ H λx H1=>if x=true then A σ H1 else B σ H1):Zse c a b D σ H:=h _ rfl _ rfl
def Zx{a b:TS}{D:Ends}{σ:St}(h:∀ B:St->Hp->Prop,B=b D->a { D with nx:=B } σ H):Zrm a b D σ H:=h _ rfl
def isW:V->Bool
 | .int _=>true
 | _=>false
def Th0(H:Hp)(x:V):Prop:=∃ t,JD H x=some t
def Zba:Sp:=λvs H Q _=>∃ x,vs=[x]/\Th0 H x/\Q (.bl (isW x)) H
def Zd4:Sp:=λvs H Q _=>∃ a b:Int,vs=[.int a,.int b]/\Q (.int (Int.gcd a b)) H
def ZbV(K:PySem.W.Frag):Sp:=λvs H Q _=>∃ (a:Addr) (ns:List Int) (k:Nat),vs=[.ref a,.int k]/\Jw K H a (ns.map V.int)/\Q (.int (cellOf ns k)) H
variable {P:Program}{w:World}{K:PySem.W.Frag}{mg:Str->Option Value}{base:Heap}{f:Addr}{fd:FuncData}{CT:Addr}{CNP:Addr}{pt:Addr}{c:Addr}
variable {x:V}
def Znd{t:String}(e:JD H x=some t):(isA t "int" && !isA t "bool")=isW x:=by
 unfold JD at e
 split at e
 ·cases e; rfl
 ·cases e; rfl
 ·cases e; rfl
 ·cases e; rfl
 ·split at e
  ·cases e; rfl
  ·cases e; rfl
  ·cases e; rfl
  ·cases e
 ·cases e
def Zg2(F:Fun K "is_whole" "is_whole" Zdb f fd)(Zj:mg "isinstance"=none)(ZdH:mg "int"=none)(Zc0:mg "bool"=none) :
  FnOk P w K mg base ZD 1 f fd ["thing"] Zba:=by
 refine JU F Zho λcdv A outer s H vs Q E hr h=>?_
 obtain⟨x,rfl,⟨t,ht⟩,q⟩:=h
 refine⟨_,(Zh (Zy (Zfo (Jv rfl Zj (Zi (Ze 0) (Zi (J2 rfl ZdH rfl) Za))) (Zgn (Zs6 (Jv rfl Zj (Zi (Ze 0) (Zi (J2 rfl Zc0 rfl) Za)))))))),?_⟩
 rw [show Zz ["thing"] [x]=[some (x)] from rfl]
 rw [<- Znd ht] at q
 refine⟨_,rfl,x,"int",t,rfl,ht,by decide,_,rfl,?_⟩
 refine JZ (λc=>?_) (λc=>?_)
 ·refine⟨_,rfl,x,"bool",t,rfl,ht,by decide,_,rfl,?_⟩
  rw [c] at q
  exact q
 ·rw [Bool.eq_false_iff.mpr c] at q
  exact q
def Pg(a b:Int)(H:Hp)(σ:St)(H':Hp):Prop:=∃ (l m:Int) (r:Option V),σ=[some (.int a),some (.int b),some (.int l),some (.int m),r]/\H'=H/\0<=l/\0<=m/\Int.gcd l m=Int.gcd a b
def ZqX(F:Fun K "greatest_divisor" "greatest_divisor" ZaR f fd)(Zhe:mg "abs"=none) :
  FnOk P w K mg base ZD 1 f fd ["one","other"] Zd4:=by
 refine JU F Zak λcdv A outer s H vs Q E hr h=>?_
 obtain⟨a,b,rfl,q⟩:=h
 refine⟨_,(Zd (Zs 2 Zak.nd (ZpR rfl Zhe (Zi (Ze 0) Za)))
   (Zd (Zs 3 Zak.nd (ZpR rfl Zhe (Zi (Ze 1) Za)))
   (Zd (ZfI Yq (Zny (Ze 3) Zb) (Zd (Zs 4 Zak.nd (Z8 (Ze 2) (Ze 3)))
   (Zd (Zs 2 Zak.nd (Ze 3))
   (Zh (Zs 3 Zak.nd (Ze 4))))))
   (Zh (Zy (Ze 2)))))),?_⟩
 rw [show Zz ["one","other","larger","smaller","rest"] [.int a,.int b]=[some (.int a),some (.int b),none,none,none] from rfl]
 walk_at "rd"
 simp only [Zlz]
 refine ZfZ (Pg a b H) (λσ _=>(ZmW σ 3).toNat) ⟨_,_,none,rfl,rfl,by omega,by omega,ZlY a b⟩ ?_
 rintro σ H' ⟨l,m,r,rfl,rfl,hl,hm,hg⟩
 walk_at "rd"
 refine JZ (λc=>?_) (λc=>?_)
 ·have hm':0 < m:=by omega
  refine⟨_,λσ' H' z=>z,hm',_,?_,rfl,m,l % m,some (.int (l % m)),rfl,rfl,hm,Y0 _ (by omega),?_⟩
  ·exact ZeG hm'
  ·rw [Zic]; exact hg
 ·have e:m=0:=by omega
  subst e
  have e2:(Int.gcd a b:Int)=l:=by rw [<- hg]; simp; omega
  rw [e2] at q
  exact q
def ZpO(F:Fun K "_law_cell_at" "_law_cell_at" Zb1 f fd)(ZC:mg "len"=none) :
  FnOk P w K mg base ZD 1 f fd ["_law_script","_law_k"] (ZbV K):=by
 refine JU F Ze3 λcdv A outer s H vs Q E hr h=>?_
 obtain⟨a,ns,k,rfl,hS,q⟩:=h
 refine⟨_,(Zd (Jm (ZpL (Ze 1) (ZqD rfl ZC (Zi (Ze 0) Za))) (Zh (Zy (Zts (Ze 0) (Ze 1)))) ZV)
   (Zh (Zy (Jy (Zj2 Zb (Ze 1)) Zb)))),?_⟩
 rw [show Zz ["_law_script","_law_k"] [.ref a,.int k]=[some (.ref a),some (.int k)] from rfl]
 walk_at "rd"
 refine⟨_,.inl hS,?_⟩
 rw [Ye]
 refine JZ (λc=>?_) (λc=>?_)
 ·exact⟨_,hS,_,Zp3 (by omega),q⟩
 ·rw [Znc (by omega)] at q
  exact q
def Zdg(i:Int):Th0 H (.int i):=⟨"int",rfl⟩
def ZR(H:Hp)(x:V)(q:Rat):Prop:=∃ p,x=.ref p/\H p=some (.tup [.int q.num,.int (q.den:Int)])
variable {q:Rat}
theorem ZR.same{H H':Hp}(h:ZR H x q)(s:Zk H H'):ZR H' x q:=by
 obtain⟨p,e,h⟩:=h
 exact⟨p,e,s _ _ h⟩
def Big(b:Int):Prop:=b.natAbs < 2 ^ 8000
variable {n:Nat}
theorem Big.of{b:Int}(h:b.natAbs < 2 ^ n)(hn:n<=8000):Big b:=Z3 h hn
def Zel{t b:Int}(hb:0 < b):t.fdiv (Int.gcd t b:Int)=(Rat.divInt t b).num/\b.fdiv (Int.gcd t b:Int)=((Rat.divInt t b).den:Int):=by
 have e:Ja t b=(Int.gcd t b:Int):=by unfold Ja; rw [if_neg (by omega)]
 have h:=Zbe (t:=t) (b:=b) (by omega)
 rw [<- e,ZbQ (Zbb t b),ZbQ (ZaG t b)]
 exact h
def ZbF:Sp:=λvs H Q _=>∃ t b:Int,vs=[.int t,.int b]/\Big b/\0 < b/\∀ r H',Zk H H'->ZR H' r (Rat.divInt t b)->Q r H'
def Zfp{x y:V}(hx:ZR H x q)(hy:ZR H y q):∃ p c,x=.ref p/\y=.ref c/\EqD H x y true 1:=by
 obtain⟨p,rfl,hp⟩:=hx
 obtain⟨c,rfl,hc⟩:=hy
 refine⟨p,c,rfl,rfl,?_⟩
 have h:=EqD.tup (e:=λ_=>true) (n:=0) hp hc λj x y h1 h2=>by
  rw [h1] at h2
  cases h2
  match j,h1 with
  | 0,h1=>cases h1; have z:=EqD.flat (H:=H) (x:=.int q.num) (y:=.int q.num) rfl rfl; rw [ZdQ rfl] at z; exact z
  | 1,h1=>cases h1; have z:=EqD.flat (H:=H) (x:=.int (q.den:Int)) (y:=.int (q.den:Int)) rfl rfl; rw [ZdQ rfl] at z; exact z
 exact h
def ZbJ:Sp:=λvs H Q _=>∃ t b:Int,vs=[.int t,.int b]/\Big b/\b ≠ 0/\∀ r H',Zk H H'->ZR H' r (Rat.divInt t b)->Q r H'
section
variable {P:Program}{w:World}{K:PySem.W.Frag}{mg:Str->Option Value}{base:Heap}{f:Addr}{fd:FuncData}{dV:Value}{cNF:Addr}
def ZnP(F:FunD K "ratio" "ratio" Za8 dV f fd)(Zam:Fn P w K mg base ZD 1 "is_whole" ["thing"] Zba)(Zad:Fn P w K mg base ZD 1 "greatest_divisor" ["one","other"] Zd4) :
  FnOk P w K mg base ZD 2 f fd ["top","bottom"] ZbJ:=by
 refine Zt4 F Zf4 (λvs H Q E h=>?_) (λcdv A outer s H vs Q E hr h=>?_)
 ·obtain⟨t,b,rfl,_⟩:=h; rfl
 obtain⟨t,b,rfl,hz,hb0,q⟩:=h
 refine⟨_,(Zd (Jm (t_w (JW (JC (Jg (Jb Zam hr (Zi (Ze 0) Za)))) (Zda (JC (Jg (Jb Zam hr (Zi (Ze 1) Za))))))) (Zh Zbv) ZV)
   (Zd (Jm (Zoa (Ze 1) Zb) (Zh Zbv) ZV)
   (Zd (Zs 2 Zf4.nd (Jb Zad hr (Zi (Ze 0) (Zi (Ze 1) Za))))
   (Zd (Jm (ZpL (Ze 1) Zb) (Zh (Zs 2 Zf4.nd (Ztl (Ze 2)))) ZV)
   (Zh (Zy (JS (Zi (Zdp (Ze 0) (Ze 2)) (Zi (Zdp (Ze 1) (Ze 2)) Za))))))))),?_⟩
 rw [show Zz ["top","bottom","divisor"] [.int t,.int b]=[some (.int t),some (.int b),none] from rfl]
 refine Zx λB hB=>?_
 refine Jt λA hA C hC=>?_
 walk_at "rd"
 simp only [Zba]
 walk_at "rd"
 refine⟨Zdg _,?_⟩
 rw [if_neg (by simp [isW])]
 refine⟨Zdg _,?_⟩
 rw [if_neg (by simp [isW])]
 subst hC
 walk_at "rd"
 subst hB
 try dsimp only
 refine Zx λB hB=>?_
 refine Jt λA hA C hC=>?_
 walk_at "rd"
 refine JZ (λc=>absurd c hb0) (λc=>?_)
 subst hC
 walk_at "rd"
 subst hB
 try dsimp only
 walk_at "rd"
 simp only [Zd4]
 walk_at "rd"
 have hne:=Zg8 (t:=t) c
 have hlog:(Ja t b).natAbs.log2 < 9000:=by rw [Zh1]; exact ZbI (Z3 (YA (Zfe c) hz) (by omega)) (by omega)
 have fin:∀ (p:Addr) (H2:Hp),H p=none->Zk H H2->H2 p=some (.tup [.int (t.fdiv (Ja t b)),.int (b.fdiv (Ja t b))])->Q (.ref p) H2:=λp H2 _ hs e=>q _ _ hs ⟨p,rfl,by
  rw [ZbQ (Zbb t b),ZbQ (ZaG t b),(Zbe c).1,(Zbe (t:=t) c).2] at e
  exact e⟩
 refine JZ (λcb=>?_) (λcb=>?_)
 ·have e:Ja t b=-(Int.gcd t b:Int):=by unfold Ja; rw [if_pos cb]
  rw [e] at hne hlog fin
  exact⟨hne,hlog,hne,hlog,fin⟩
 ·have e:Ja t b=(Int.gcd t b:Int):=by unfold Ja; rw [if_neg cb]
  rw [e] at hne hlog fin
  exact⟨hne,hlog,hne,hlog,fin⟩
end
theorem ZQ(h:Jo n q):(q.den:Int).natAbs < 2 ^ n:=by simpa using h.2
def JY(qs:List Rat)(i:Nat):Rat:=(qs.take i).foldl (· + ·) 0
variable {qs:List Rat}
def ZcK{i:Nat}(h:qs[i]?=some q):JY qs (i + 1)=JY qs i + q:=by
 unfold JY
 rw [Yp,h,List.foldl_append]
 rfl
def ZdI(H:Hp)(xs:List V)(qs:List Rat):Prop:=xs.length=qs.length/\∀ (i:Nat) x q,xs[i]?=some x->qs[i]?=some q->ZR H x q
theorem ZmL:ZdI H [] []:=⟨rfl,λi x q h _=>by simp at h⟩
theorem Zdh(h:n ≠ 0):Jo n 0:=⟨Vr n,Nat.one_lt_two_pow h⟩
theorem Jo.add{n m k:Nat}{p q:Rat}(hp:Jo n p)(hq:Jo m q)(h:n + m + 1<=k):Jo k (p + q):=by
 rw [Zfc]
 refine Jo.mono (Jo.of (n:=n + m + 1) (Ze7 p q) (Zjn (Zay hp.1 (ZQ hq)) (Zay hq.1 (ZQ hp)) (by omega) (by omega)) (Z3 (Zay (ZQ hp) (ZQ hq)) (by omega))) h
def ZiN(a b:Nat):Nat:=a / Nat.gcd a b * b
def Zps{a b:Nat}(ha:0 < a):∃ c d,a=Nat.gcd a b * c/\b=Nat.gcd a b * d/\ZiN a b=Nat.gcd a b * c * d:=by
 have hg:0 < Nat.gcd a b:=Nat.gcd_pos_of_pos_left _ ha
 obtain⟨c,hc⟩:=Yay a b
 obtain⟨d,hd⟩:=Nat.gcd_dvd_right a b
 refine⟨c,d,hc,hd,?_⟩
 unfold ZiN
 have e:a / Nat.gcd a b=c:=Nat.div_eq_of_eq_mul_right hg hc
 rw [e]
 conv=>lhs; rw [hd]
 rw [<- Nat.mul_assoc,Nat.mul_comm c]
def ZlF{a b:Nat}(ha:0 < a):a ∣ ZiN a b:=by
 obtain⟨c,d,h1,h2,h3⟩:=Zps (b:=b) ha
 rw [h3]
 conv=>lhs; rw [h1]
 exact Yat _ _
theorem Zjr{a b:Nat}(ha:0 < a):b ∣ ZiN a b:=by unfold ZiN; exact Nat.dvd_mul_left _ _
def Zh6{a b:Nat}(ha:0 < a)(hb:0 < b):0 < ZiN a b:=VH (Nat.div_pos (Nat.le_of_dvd ha (Yay a b)) (Nat.gcd_pos_of_pos_left _ ha)) hb
def Zin(qs:List Rat)(i:Nat):Nat:=(qs.take i).foldl (λb q=>ZiN b q.den) 1
def Zen{i:Nat}(h:qs[i]?=some q):Zin qs (i + 1)=ZiN (Zin qs i) q.den:=by
 unfold Zin
 rw [Yp,h,List.foldl_append]
 rfl
def ZfE(hz:∀ (i:Nat) q,qs[i]?=some q->Jo n q):∀ i,i<=qs.length->0 < Zin qs i/\Zin qs i<=2 ^ (n * i)/\∀ (j:Nat) q,j < i->qs[j]?=some q->q.den ∣ Zin qs i
 | 0,_=>⟨Nat.one_pos,Nat.one_le_two_pow,λj q h=>absurd h (V9 j)⟩
 | i + 1,h=>by
  obtain⟨h1,h2,h3⟩:=ZfE hz i (Yt h)
  have hq:=Yc h
  rw [Zen hq]
  refine⟨Zh6 h1 qs[i].den_pos,?_,λj q hj hq2=>?_⟩
  ·unfold ZiN
   refine Yj (Yab (Yj (YaB _ _) h2) (Yt (hz i _ hq).2)) ?_
   rw [<- Vi,Nat.mul_succ]
   exact Yd _
  ·by_cases c:j=i
   ·subst c
    rw [hq] at hq2
    cases hq2
    exact Zjr h1
   ·exact VV (h3 j q (by omega) hq2) (ZlF h1)
def Zsz(qs:List Rat):Prop:=(∀ (i:Nat) q,qs[i]?=some q->Jo 4000 q)/\∀ i,i<=qs.length->Zin qs i<=2 ^ 4000
def ZoS(hz:∀ (i:Nat) q,qs[i]?=some q->Jo n q)(hn:n * qs.length<=4000):Zsz qs :=
 ⟨λi q h=>(hz i q h).mono (Yj (Nat.le_mul_of_pos_right _ (YA (YD _) (Yi.mp h).1)) hn),λi hi=>Yj (ZfE hz i hi).2.1 (YO (by decide) (Yj (Nat.mul_le_mul_left _ hi) hn))⟩
def JV(B:Nat)(q:Rat):Int:=q.num * ((B:Int) / (q.den:Int))
variable {B:Nat}
def Zec(hB:0 < B)(h:q.den ∣ B):Rat.divInt (JV B q) (B:Int)=q:=by
 obtain⟨c,rfl⟩:=h
 have hd:=q.den_pos
 have hc:(c:Int) ≠ 0:=by
  intro z
  have:c=0:=by omega
  rw [this] at hB
  simp at hB
 unfold JV
 rw [Vt,Int.mul_ediv_cancel_left _ (by omega),V5 hc]
 exact Ve q
def ZdS{a b c:Int}(h:c ≠ 0):Rat.divInt a c + Rat.divInt b c=Rat.divInt (a + b) c:=by
 rw [Rat.divInt_add_divInt _ _ h h,<- Int.add_mul,V5 h]
def ZhT(hB:0 < B)(hd:∀ (j:Nat) q,qs[j]?=some q->q.den ∣ B):∀ i,i<=qs.length->JY qs i=Rat.divInt (((qs.take i).map (JV B)).sum) (B:Int)
 | 0,_=>by
  show (0:Rat)=Rat.divInt 0 (B:Int)
  rw [YaA]
 | i + 1,h=>by
  have hq:=Yc (show i < qs.length from h)
  rw [ZcK hq,ZhT hB hd i (Yt h),Yp,hq,YZ,List.sum_append]
  conv=>lhs; rw [<- Zec hB (hd i _ hq)]
  rw [ZdS (by omega)]
  simp
def Zkb:Sp:=λvs H Q _=>∃ a b:Nat,vs=[.int a,.int b]/\0 < a/\0 < b/\a<=2 ^ 4000/\b<=2 ^ 4000/\Q (.int (ZiN a b:Nat)) H
def ZgQ(K:PySem.W.Frag):Sp:=λvs H Q _=>∃ (a:Addr) (xs:List V) (qs:List Rat),vs=[.ref a]/\Jw K H a xs/\ZdI H xs qs/\Zsz qs/\Q (.int (Zin qs qs.length:Nat)) H
def Zkk:Sp:=λvs H Q _=>∃ (x:V) (q:Rat) (B:Nat),vs=[x,.int B]/\ZR H x q/\Jo 4000 q/\B<=2 ^ 4000/\Q (.int (JV B q)) H
def ZdP(K:PySem.W.Frag):Sp:=λvs H Q _=>∃ (a:Addr) (xs:List V) (qs:List Rat),vs=[.ref a]/\Jw K H a xs/\ZdI H xs qs/\Zsz qs/\qs.length<=1000/\∀ r H',Zk H H'->ZR H' r (JY qs qs.length)->Q r H'
def Zgl{a n:Nat}(h:a<=2 ^ n):((a:Nat):Int).natAbs < 2 ^ (n + 1):=by
 rw [VO,Nat.pow_succ]
 have:=Vr n
 omega
def Zsn(F:Fun K "least_multiple" "least_multiple" Za6 f fd)(Zad:Fn P w K mg base ZD 1 "greatest_divisor" ["one","other"] Zd4):FnOk P w K mg base ZD 2 f fd ["one","other"] Zkb:=by
 refine JU F Zc5 λcdv A outer s H vs Q E hr h=>?_
 obtain⟨a,b,rfl,ha,hb,za,zb,q⟩:=h
 refine⟨_,(Zh (Zy (Ji (Zdp (Ze 0) (Jb Zad hr (Zi (Ze 0) (Zi (Ze 1) Za)))) (Ze 1)))),?_⟩
 rw [show Zz ["one","other"] [.int a,.int b]=[some (.int a),some (.int b)] from rfl]
 walk_at "rd"
 simp only [Zd4]
 walk_at "rd"
 have eg:Int.gcd (a:Int) (b:Int)=Nat.gcd a b:=rfl
 have hg:0 < Nat.gcd a b:=Nat.gcd_pos_of_pos_left _ ha
 have hga:Nat.gcd a b<=a:=Nat.le_of_dvd ha (Yay a b)
 have ef:(a:Int).fdiv (Int.gcd (a:Int) (b:Int):Int)=((a / Nat.gcd a b:Nat):Int):=by
  rw [eg,Yaj _ (by omega)]
  rfl
 refine⟨by rw [eg]; omega,?_,?_,?_⟩
 ·rw [eg]
  exact ZbI (Z3 (Zgl (Yj hga za)) (by decide)) (by decide)
 ·rw [ef]
  exact JG (Zgl (Yj (YaB _ _) za)) (Zgl zb) (by decide)
 ·rw [ef,<- Vt]
  exact q
variable {a:Addr}{xs:List V}
def ZtS{g:TG}{tb:TS}{D:Ends}{σ:St}{te:TE}(hv:∀ R:V->Hp->Prop,R (.ref a) H->te σ H R)(hS:Jw K H a xs)(Pv:Nat->St->Hp->Prop)(h0:Pv 0 σ H)(hl:∀ i σ H,i<=xs.length->Pv i σ H->Jw K H a xs)
  (hs:∀ i x σ H,xs[i]?=some x->Pv i σ H->g x σ H λσ2 H2=>tb { D with nx:=Pv (i + 1),ct:=Pv (i + 1),bk:=D.nx } σ2 H2) (hd:∀ σ H,Pv xs.length σ H->D.nx σ H):Zl1 (Zc6 K te) g tb D σ H :=
 hv _ ⟨a,rfl,⟨xs,hS⟩,ZiD Pv h0 hl hs hd⟩
def Pcb(a:Addr)(qs:List Rat)(H0:Hp)(i:Nat)(σ:St)(H:Hp):Prop:=H=H0/\∃ o,σ=[some (.ref a),some (.int (Zin qs i:Nat)),o]
def Zla(F:Fun K "common_bottom" "common_bottom" Zbg f fd)(Za7:Fn P w K mg base ZD 2 "least_multiple" ["one","other"] Zkb):FnOk P w K mg base ZD 3 f fd ["some"] (ZgQ K):=by
 refine JU F ZaL λcdv A outer s H vs Q E hr h=>?_
 obtain⟨a,xs,qs,rfl,hS,hR,hz,q⟩:=h
 refine⟨_,(Zd (Zs 1 ZaL.nd Zb)
   (Zd (Je Yq (Z6 (Ze 0)) (Zr 2 ZaL.nd) (Zh (Zs 1 ZaL.nd (Jb Za7 hr (Zi (Ze 1) (Zi (ZA (Ze 2) Zb) Za))))))
   (Zh (Zy (Ze 1))))),?_⟩
 rw [show Zz ["some","bottom","one"] [.ref a]=[some (.ref a),none,none] from rfl]
 walk_at "rd"
 refine ZtS (xs:=xs) (λR h=>by first | exact⟨_,rfl,h⟩ | (walk_at "rd"; exact h)) hS (Pcb a qs H) ⟨rfl,_,rfl⟩ (λi σ H' _ h=>by rw [h.1]; exact hS) (λi x σ H' hx h=>?_) (λσ H' h=>?_)
 ·obtain⟨rfl,o,rfl⟩:=h
  have hi:i < qs.length:=by rw [<- hR.1]; exact (Yi.mp hx).1
  have hq:=Yc hi
  obtain⟨p,rfl,hp⟩:=hR.2 _ _ _ hx hq
  obtain⟨h1,_,_⟩:=ZfE hz.1 i (Yt hi)
  have h2:=hz.2 i (Yt hi)
  walk_at "rd"
  simp only [Zkb]
  walk_at "rd"
  refine⟨_,hp,_,rfl,Zin qs i,rfl,qs[i].den,rfl,h1,qs[i].den_pos,h2,Yt (hz.1 i _ hq).2,rfl,some (.ref p),by rw [Zen hq]⟩
 ·obtain⟨rfl,o,rfl⟩:=h
  rw [hR.1]
  walk_at "rd"
  exact q
def Zsf(F:Fun K "top_over" "top_over" Zdc f fd):FnOk P w K mg base ZD 1 f fd ["one","bottom"] Zkk:=by
 refine JU F Zhs λcdv A outer s H vs Q E hr h=>?_
 obtain⟨x,t,B,rfl,⟨p,rfl,hp⟩,z,zB,q⟩:=h
 refine⟨_,(Zh (Zy (Ji (ZA (Ze 0) Zb) (Zdp (Ze 1) (ZA (Ze 0) Zb))))),?_⟩
 rw [show Zz ["one","bottom"] [.ref p,.int B]=[some (.ref p),some (.int B)] from rfl]
 walk_at "rd"
 simp only [hp]
 walk_at "rd"
 have hd:=t.den_pos
 have ef:(B:Int).fdiv (t.den:Int)=(B:Int) / (t.den:Int):=Yaj _ (by omega)
 have en:(B:Int) / (t.den:Int)=((B / t.den:Nat):Int):=rfl
 refine⟨by omega,ZbI (Z3 (ZQ z) (by decide)) (by decide),?_,?_⟩
 ·rw [ef,en]
  exact JG z.1 (Zgl (Yj (YaB _ _) zB)) (by decide)
 ·rw [ef]
  exact q
def ZnN(F:Fun K "total_of" "total_of" Zds f fd)(Zhi:mg "sum"=none)(Zbn:Fn P w K mg base ZD 3 "common_bottom" ["some"] (ZgQ K))(Zdq:Fn P w K mg base ZD 1 "top_over" ["one","bottom"] Zkk)
  (Zeh:Fn P w K mg base ZD 2 "ratio" ["top","bottom"] ZbJ):FnOk P w K mg base ZD 4 f fd ["some"] (ZdP K):=by
 refine JU F Zef λcdv A outer s H vs Q E hr h=>?_
 obtain⟨a,xs,qs,rfl,hS,hR,hz,hlen,q⟩:=h
 refine⟨_,(Zd (Zs 1 Zef.nd (Jb Zbn hr (Zi (Ze 0) Za)))
   (Zh (Zy (Jb Zeh hr (Zi (Zlr rfl Zhi (Zi (Zdx (ZiM ["one"] [1] ["bottom"]) (Z6 (Ze 0)) (by exact λs H fp=>(Zr 0 (show List.Nodup (["one","bottom"]:List Str) from by decide +kernel))) (by exact λs H fp=>(Jb Zdq hr (Zi (Ze 0) (Zi (Ze 1) Za))))) Za)) (Zi (Ze 1) Za)))))),?_⟩
 rw [show Zz ["some","bottom"] [.ref a]=[some (.ref a),none] from rfl]
 refine Zx λR0 hR0=>?_
 walk_at "rd"
 refine⟨a,xs,qs,rfl,hS,hR,hz,?_⟩
 obtain⟨b1,b2,b3⟩:=ZfE hz.1 qs.length (Yd _)
 have b4:=hz.2 _ (Yd _)
 have b5:∀ (j:Nat) t,qs[j]?=some t->t.den ∣ Zin qs qs.length:=λj t h=>b3 j t (Yi.mp h).1 h
 generalize Zin qs qs.length=B at b1 b2 b3 b4 b5
 subst hR0
 try dsimp only
 walk_at "rd"
 simp only [JQ,Zc6]
 walk_at "rd"
 refine⟨⟨_,hS⟩,?_⟩
 rw [show Jq [some (V.ref a),some (V.int (B:Int))] [1]=[some (V.int (B:Int))] from rfl]
 unfold Zl4
 refine ZcF (xs:=xs) (λacc i ys H'=>Zk H H'/\H' acc=some (.lst ys)/\ys=((qs.take i).map (JV B)).map V.int/\i<=qs.length)
  (λacc H2 hn sm e=>⟨sm,e,rfl,YD _⟩) (λacc i ys H2 hn2 ⟨sm,e,ey,hi⟩=>⟨e,?_,sm.seq hS⟩) (λacc i y ys H2 os hn2 hi hP ol=>?_) (λacc ys H2 hn2 hP=>?_)
 ·rw [ey,Ye,Ye,YE]
  omega
 ·obtain⟨sm,e,ey,_⟩:=hP
  obtain⟨o,rfl⟩:∃ o,os=[o]:=by match os,ol with | [o],_=>exact⟨o,rfl⟩
  have hil:i < qs.length:=by rw [<- hR.1]; exact (Yi.mp hi).1
  have hq:=Yc hil
  walk_at "rd"
  refine⟨[some y],rfl,rfl,?_⟩
  simp only [Zoi]
  walk_at "rd"
  simp only [Zkk]
  walk_at "rd"
  refine⟨qs[i],B,rfl,(hR.2 _ _ _ hi hq).same sm,hz.1 i _ hq,b4,e,Zt hn2 sm,Zf,?_,hil⟩
  rw [ey,Yp,hq,YZ,YZ]
  rfl
 ·obtain⟨sm,e,ey,_⟩:=hP
  rw [hR.1,Yv] at ey
  rw [ey] at e
  walk_at "rd"
  refine⟨_,e,?_⟩
  simp only [ZbJ]
  walk_at "rd"
  refine⟨Big.of (Zgl b4) (by decide),by omega,λr H' hs v=>q r H' (sm.trans hs) ?_⟩
  rw [ZhT b1 b5 _ (Yd _),Yv]
  exact v
def num_nonneg{t b:Int}(ht:0<=t)(hb:0 < b):0<=(Rat.divInt t b).num:=by
 rw [<- (Zel hb).1]
 exact Int.fdiv_nonneg ht (by omega)
def ZcY(H:Hp)(x:V)(r:Nat × Rat):Prop:=∃ p y,x=.ref p/\H p=some (.tup [.int r.1,y])/\ZR H y r.2
def Jp(H:Hp)(xs:List V)(rs:List (Nat × Rat)):Prop:=xs.length=rs.length/\∀ (i:Nat) x r,xs[i]?=some x->rs[i]?=some r->ZcY H x r
def Zcp(rs:List (Nat × Rat)):Prop:=∃ rank:Nat->Nat,rank 0=0/\(∀ v,rank v<=rs.length)/\∀ (k:Nat) r,rs[k]?=some r->r.1<=rs.length/\rank r.1 < rank (k + 1)
def ZfK(K:PySem.W.Frag):Sp:=λvs H Q _=>∃ (a:Addr) (ns:List Int) (m:Int),vs=[.ref a,.int m]/\Jw K H a (ns.map V.int)/\0<=m/\m < 20/\∀ p H' xs rs,H p=none->Zk H H'->H' p=some (.lst xs)->Jp H' xs rs->Zcp rs->rs.length<=20->(∀ r∈rs,Jo 110 r.2/\0<=r.2.num)->Q (.ref p) H'
def ZlX(lo:Int)(n:Nat):List Int:=(List.range n).map λk:Nat=>lo + (k:Int)
theorem ZfS{lo:Int}:(ZlX lo n).length=n:=by simp [ZlX]
theorem Zm5{lo hi:Int}:Zok lo hi=(ZlX lo (hi - lo).toNat).map V.int:=by simp [Zok,ZlX]
def Zh9{lo:Int}{x:Int}(h:x∈ZlX lo n):lo<=x/\x < lo + n:=by
 obtain⟨k,hk,e⟩:=Yk.mp h
 have:=Vk.mp hk
 omega
def Zfb{lo:Int}:(ZlX lo n).Nodup:=by
 refine List.Pairwise.map _ (λa b h=>?_) List.nodup_range
 intro e
 exact h (by omega)
theorem ZgN{n i:Nat}(h:i < n):ixN n (i:Int)=some i:=by
 unfold ixN
 simp
 omega
def Pr(H0:Hp)(a p pn:Addr)(m c n:Int)(b:Bool)(zs:List V)(i:Nat)(σ:St)(H:Hp):Prop:=∃ (o1 o2 o3:Option V) (ts:List Int),σ=[some (.ref a),some (.int m),some (.int c),some (.int n),some (.bl b),some (.ref p),o1,o2,o3,none,none,none] /\
 Zk H0 H/\H p=some (.lst (ts.map V.int))/\H pn=some (.lst zs)/\ts.Perm (ZlX 1 n.toNat)
theorem Pr.at{H0:Hp}{a p pn:Addr}{m c n:Int}{b:Bool}{zs:List V}{i:Nat}{σ:St}(h:Pr H0 a p pn m c n b zs i σ H):Jw K H pn zs:=let ⟨_,_,_,_,_,_,_,e,_⟩:=h; .of e
def Ztz(H:Hp)(ts:List Int)(ys:List V)(j:Nat):Prop:=∃ (k:Nat) (x:V) (r:Nat × Rat),ts[j]?=some ((k:Int) + 1)/\ys[k]?=some x/\ZcY H x r/\Jo 110 r.2/\0<=r.2.num/\(r.1=0\/∃ j',j' < j/\ts[j']?=some (r.1:Int))
def Pq(H0:Hp)(a p acc pp pn:Addr)(m c n:Int)(b:Bool)(ts ps:List Int)(zs:List V)(i:Nat)(σ:St)(H:Hp):Prop:=∃ (o1 o2 o3 o4:Option V) (ys:List V),σ=[some (.ref a),some (.int m),some (.int c),some (.int n),some (.bl b),some (.ref p),o1,o2,o3,some (.ref acc),some (.ref pp),o4] /\
 Zk H0 H/\H p=some (.lst (ts.map V.int))/\H pp=some (.lst (ps.map V.int))/\H pn=some (.lst zs)/\H acc=some (.lst ys)/\(ys.length:Int)=n/\∀ j,j < i->Ztz H ts ys j
theorem Pq.at{H0:Hp}{a p acc pp pn:Addr}{m c n:Int}{b:Bool}{ts ps:List Int}{zs:List V}{i:Nat}{σ:St}(h:Pq H0 a p acc pp pn m c n b ts ps zs i σ H):Jw K H pn zs:=let ⟨_,_,_,_,_,_,_,_,_,e,_⟩:=h; .of e
theorem ZcY.same{H H':Hp}{r:Nat × Rat}(h:ZcY H x r)(s:Zk H H'):ZcY H' x r:=let ⟨p,y,e,h1,h2⟩:=h; ⟨p,y,e,s _ _ h1,h2.same s⟩
theorem ZcY.upd{r:Nat × Rat}{l:Addr}{ys:List V}{o:HO}(h:ZcY H x r)(hl:H l=some (.lst ys)):ZcY (upd H l o) x r:=by
 obtain⟨p,y,e,h1,z,e2,h3⟩:=h
 exact⟨p,y,e,by rw [Zg (Jk h1 hl (by intro z; cases z))]; exact h1,z,e2,by rw [Zg (Jk h3 hl (by intro z; cases z))]; exact h3⟩
variable {α:Type}
def Zhr[Inhabited α]{n:Nat}{P:Nat->α->Prop}(h:∀ k,k < n->∃ r,P k r):∃ rs:List α,rs.length=n/\∀ (k:Nat) r,rs[k]?=some r->P k r:=by
 induction n with
 | zero=>exact⟨[],rfl,λk r e=>by simp at e⟩
 | succ n ih =>
  obtain⟨rs,hl,hr⟩:=ih λk hk=>h k (by omega)
  obtain⟨r0,h0⟩:=h n (by omega)
  refine⟨rs ++ [r0],by simp [hl],λk r e=>?_⟩
  by_cases hk:k < rs.length
  ·rw [YS hk] at e; exact hr k r e
  ·rw [YN (by omega)] at e
   have hk2:k=n:=by
    have:=(Yi.mp e).1
    simp at this; omega
   subst hk2
   simp [hl] at e
   rw [<- e]; exact h0
open Classical in
noncomputable def rankOf(ts:List Int)(v:Nat):Nat:=if h:∃ j:Nat,ts[j]?=some (v:Int) then h.choose + 1 else 0
def Zhx{ts:List Int}(hnd:ts.Nodup){j v:Nat}(h:ts[j]?=some (v:Int)):rankOf ts v=j + 1:=by
 have hh:∃ j:Nat,ts[j]?=some (v:Int):=⟨j,h⟩
 unfold rankOf
 rw [dif_pos hh]
 have e:=hh.choose_spec
 have:=(List.getElem?_inj (Yi.mp e).1 hnd).mp (e.trans h.symm)
 omega
def ZpG{ts:List Int}{v:Nat}:rankOf ts v<=ts.length:=by
 unfold rankOf
 split
 ·rename_i hh
  exact (Yi.mp hh.choose_spec).1
 ·exact YD _
def ZnL{lo:Int}(h:k < n):lo + (k:Int)∈ZlX lo n:=Yk.mpr ⟨k,Vk.mpr h,rfl⟩
def ZnO{ts:List Int}{ys:List V}(hpm:ts.Perm (ZlX 1 n))(hy:ys.length=n)(h:∀ j,j < n->Ztz H ts ys j):∃ rs:List (Nat × Rat),Jp H ys rs/\Zcp rs/\rs.length=n/\∀ r∈rs,Jo 110 r.2/\0<=r.2.num:=by
 have hl:ts.length=n:=by rw [hpm.length_eq,ZfS]
 have hnd:ts.Nodup:=hpm.nodup_iff.mpr Zfb
 have hbd:∀ x∈ts,1<=x/\x<=n:=λx hx=>by have:=Zh9 (hpm.mem_iff.mp hx); omega
 obtain⟨rs,hrl,hr⟩:=Zhr (α:=Nat × Rat) (n:=n) (P:=λk r=>∃ x,ys[k]?=some x/\ZcY H x r/\Jo 110 r.2/\0<=r.2.num/\∃ j,ts[j]?=some (((k + 1:Nat)):Int)/\(r.1=0\/∃ j',j' < j/\ts[j']?=some (r.1:Int))) λk hk=>by
  have hm:(1:Int) + (k:Int)∈ts:=hpm.mem_iff.mpr (ZnL hk)
  obtain⟨j,hj⟩:=Vy hm
  obtain⟨k',x,r,g1,g2,g3,g4,g5,g6⟩:=h j (by rw [<- hl]; exact (Yi.mp hj).1)
  have hkk:k'=k:=by rw [hj] at g1; have:=YT g1; omega
  subst hkk
  exact⟨r,x,g2,g3,g4,g5,j,by rw [g1]; simp,g6⟩
 have rz:rankOf ts 0=0:=by
  unfold rankOf
  rw [dif_neg λ⟨j,hj⟩=>by have:=hbd _ (List.mem_of_getElem? hj); simp at this]
 refine⟨rs,⟨by omega,λi x r h1 h2=>?_⟩,⟨rankOf ts,rz,λv=>by rw [hrl,<- hl]; exact ZpG,λk r h1=>?_⟩,hrl,λr hm=>?_⟩
 ·obtain⟨x',g,g2,_⟩:=hr i r h2
  rw [h1] at g
  cases g
  exact g2
 ·obtain⟨x',_,_,_,_,j,hj,hc⟩:=hr k r h1
  rcases hc with z | ⟨j',hlt,hj'⟩
  ·exact⟨by omega,by rw [z,rz,Zhx hnd hj]; omega⟩
  ·have:=hbd _ (Yl hj')
   exact⟨by omega,by rw [Zhx hnd hj',Zhx hnd hj]; omega⟩
 ·obtain⟨k,hk⟩:=Vy hm
  obtain⟨_,_,_,g4,g5,_⟩:=hr k r hk
  exact⟨g4,g5⟩
theorem cxK{CX:CXT}{N:List Str}{qual:Str}{scope:Scope}{cd:Value}{A:Around}{outer:List Env}{s:Shared}{E:XK}:(Zjg CX P w K mg base N qual scope f cd A outer s H E).K=K:=rfl
inductive WayR (rs:List (Nat × Rat)):Nat->List Nat->Prop where
 | nil:WayR rs 0 []
 | cons {k:Nat}{r:Nat × Rat}{w:List Nat}(h:rs[k]?=some r) (hw:WayR rs r.1 w):WayR rs (k + 1) ((k + 1) :: w)
variable {rs:List (Nat × Rat)}
def WayR.uniq{w:List Nat}(h:WayR rs k w):∀ {w':List Nat},WayR rs k w'->w'=w:=by
 induction h with
 | nil=>intro w' h'; cases h'; rfl
 | cons h _ ih =>
  intro w' h'
  cases h' with
  | cons h2 hw2 =>
   rw [h] at h2
   cases h2
   rw [ih hw2]
def Zbs(T:Zcp rs){k:Nat}(hk:k<=rs.length):∃ w,WayR rs k w/\w.length<=rs.length:=by
 obtain⟨rank,r0,hb,hr⟩:=T
 have key:∀ m k,k<=rs.length->rank k<=m->∃ w,WayR rs k w/\w.length<=rank k:=by
  intro m
  induction m with
  | zero =>
   intro k hk hm
   cases k with
   | zero=>exact⟨[],.nil,YD _⟩
   | succ j =>
    have h2:=(hr j _ (Yc (l:=rs) (i:=j) (by omega))).2
    omega
  | succ m ih =>
   intro k hk hm
   cases k with
   | zero=>exact⟨[],.nil,YD _⟩
   | succ j =>
    have e:=Yc (l:=rs) (i:=j) (by omega)
    obtain⟨h1,h2⟩:=hr j _ e
    obtain⟨w,hw,hl⟩:=ih rs[j].1 h1 (by omega)
    exact⟨(j + 1) :: w,.cons e hw,by simp; omega⟩
 obtain⟨w,hw,hl⟩:=key _ k hk (Yd _)
 exact⟨w,hw,Yj hl (hb k)⟩
theorem WayR.mem{w:List Nat}(h:WayR rs k w):∀ x∈w,1<=x/\x<=rs.length:=by
 induction h with
 | nil=>intro x hx; cases hx
 | cons h _ ih =>
  intro x hx
  rcases Yn.mp hx with z | z
  ·have:=(Yi.mp h).1
   omega
  ·exact ih x z
open Classical in
noncomputable def wayM(rs:List (Nat × Rat))(k:Nat):Nat:=if h:∃ w,WayR rs k w then h.choose.length else 0
def ZfL{w:List Nat}(h:WayR rs k w):wayM rs k=w.length:=by
 have hh:∃ w,WayR rs k w:=⟨w,h⟩
 unfold wayM
 rw [dif_pos hh,h.uniq hh.choose_spec]
def ZN(w:List Nat):List V:=w.map λk:Nat=>V.int (k:Int)
theorem WayR.zero{w:List Nat}(h:WayR rs 0 w):w=[]:=by cases h; rfl
def Zfq:Sp:=λvs H Q _=>∃ c k:Int,vs=[.int c,.int k]/\0<=k/\k < 1000/\∀ v:Int,Q (.int v) H
def ZaA:Sp:=λvs H Q _=>∃ c n m:Int,vs=[.int c,.int n,.int m]/\0<=n/\n < 1000/\0 < m/\m.natAbs < 2 ^ 300/\∀ p H' (xs:List Int),H p=none->Zk H H'->H' p=some (.lst (xs.map V.int))->(xs.length:Int)=n->(∀ x∈xs,0<=x/\x < m)->Q (.ref p) H'
def Pn(H0:Hp)(p:Addr)(c n m:Int)(i:Nat)(σ:St)(H:Hp):Prop:=∃ (r:Int) (o:Option V) (xs:List Int),σ=[some (.int c),some (.int n),some (.int m),some (.ref p),some (.int r),o]/\Zk H0 H/\H p=some (.lst (xs.map V.int))/\xs.length=i/\∀ x∈xs,0<=x/\x < m
def Zma(F:Fun K "_law_mixed" "_law_mixed" ZcA f fd):FnOk P w K mg base ZD 1 f fd ["_law_cell","_law_k"] Zfq:=by
 refine JU F ZgP λcdv A outer s H vs Q E hr h=>?_
 obtain⟨c,k,rfl,h1,h2,q⟩:=h
 refine⟨_,(Zh (Zy (Jy (Zj2 (Jy (Z8 (Ze 0) (Zhm Zb Zb)) (Ji (Ze 1) (Ze 1))) Zb) (Zj2 (Jy (Ze 1) Zb) Zb)))),?_⟩
 rw [show Zz ["_law_cell","_law_k"] [.int c,.int k]=[some (.int c),some (.int k)] from rfl]
 walk_at "rd"
 exact⟨JG (a:=10) (b:=10) (by omega) (by omega) (by decide),q _⟩
def Zjw(F:Fun K "_law_numbers" "_law_numbers" ZbX f fd)(ZT:mg "range"=none)(Zcy:Fn P w K mg base ZD 1 "_law_mixed" ["_law_cell","_law_k"] Zfq):FnOk P w K mg base ZD 2 f fd ["_law_cell","_law_many","_law_most"] ZaA:=by
 refine JU F ZaH λcdv A outer s H vs Q E hr h=>?_
 obtain⟨c,n,m,rfl,h1,h2,h3,h4,q⟩:=h
 refine⟨_,(Zd (Zs 3 ZaH.nd (ZcD Za))
   (Zd (Zs 4 ZaH.nd (Ze 0))
   (Zd (Je Yq (Zey rfl ZT (Zi (Ze 1) Za)) (Zr 5 ZaH.nd) (Zh (Jm (ZpL (Ze 0) (Zhm Zb Zb)) (Zh (Js (ZgC (Ze 3) (Zi (Z8 (Zbl (Jb Zcy hr (Zi (Ze 0) (Zi (Ze 5) Za))) Zb) (Ze 2)) Za)))) (Zd (Js (ZgC (Ze 3) (Zi (Z8 (Ze 4) (Ze 2)) Za)))
   (Zh (Zs 4 ZaH.nd (Zhh (Ze 4) (Ze 2))))))))
   (Zh (Zy (Ze 3)))))),?_⟩
 rw [show Zz ["_law_cell","_law_many","_law_most","_law_made","_law_rest","_law_k"] [.int c,.int n,.int m]=[some (.int c),some (.int n),some (.int m),none,none,none] from rfl]
 walk_at "rd"
 intro p H1 hp s1 e1
 simp only [ZcI]
 walk_at "rd"
 refine⟨by omega,by omega,?_⟩
 refine Zee (Pn H p c n m) ⟨_,_,[],rfl,s1,e1,rfl,λx hx=>by cases hx⟩ (λi σ H2 hi hP=>?_) (λσ H2 hP=>?_)
 ·obtain⟨r,o,xs,rfl,s2,e2,hl,hx⟩:=hP
  walk_at "rd"
  simp only [Zfq]
  walk_at "rd"
  have step:∀ r' v:Int,0<=v->v < m->Pn H p c n m (i + 1) [some (V.int c),some (V.int n),some (V.int m),some (V.ref p),some (V.int r'),some (V.int (i:Int))] (upd H2 p (.lst (xs.map V.int ++ [.int v]))):=λr' v a b =>
   ⟨r',_,xs ++ [v],rfl,Zt hp s2,by rw [Zf,List.map_append]; rfl,by simp [hl],λx hm=>by
    rcases Yw.mp hm with z | z
    ·exact hx x z
    ·have z:x=v:=by simpa using z
     rw [z]; exact⟨a,b⟩⟩
  have hlen:(xs.map V.int).length < 1000000:=by rw [Ye]; omega
  refine JZ (λ_=>?_) (λ_=>?_)
  ·exact⟨⟨_,e2⟩,by omega,by omega,λv=>⟨h3,_,e2,hlen,step _ _ (Y0 _ (by omega)) (Y9 _ h3)⟩⟩
  ·exact⟨⟨_,e2⟩,h3,_,e2,hlen,h3,ZbI (Z3 h4 (by omega)) (by omega),step _ _ (Y0 _ (by omega)) (Y9 _ h3)⟩
 ·obtain⟨r,o,xs,rfl,s2,e2,hl,hx⟩:=hP
  walk_at "rd"
  exact q p H2 xs hp s2 e2 (by omega) hx
def Pl(a b:Int)(H:Hp)(σ:St)(H':Hp):Prop:=∃ l m:Int,σ=[some (.int a),some (.int b),some (.int l),some (.int m)]/\H'=H/\0<=l/\0<=m/\Int.gcd l m=Int.gcd a b
def Zqb(F:Fun K "_law_low" "_law_low" ZeB f fd)(Zhe:mg "abs"=none):FnOk P w K mg base ZD 1 f fd ["_law_top","_law_bottom"] ZbF:=by
 refine JU F Zcl λcdv A outer s H vs Q E hr h=>?_
 obtain⟨a,b,rfl,hz,hb,q⟩:=h
 refine⟨_,(Zd (Zs 2 Zcl.nd (ZpR rfl Zhe (Zi (Ze 0) Za)))
   (Zd (Zs 3 Zcl.nd (Ze 1))
   (Zd (ZfI Yq (ZsO (Ze 3) Zb) (Zh (ZsR 2 3 Zcl.nd (Zi (Ze 3) (Zi (Z8 (Ze 2) (Ze 3)) Za)))))
   (Zh (Zy (JS (Zi (Zdp (Ze 0) (Ze 2)) (Zi (Zdp (Ze 1) (Ze 2)) Za)))))))),?_⟩
 rw [show Zz ["_law_top","_law_bottom","_law_one","_law_other"] [.int a,.int b]=[some (.int a),some (.int b),none,none] from rfl]
 walk_at "rd"
 simp only [Zlz]
 refine ZfZ (Pl a b H) (λσ _=>(ZmW σ 3).toNat) ⟨_,_,rfl,rfl,by omega,by omega,by rw [<- ZlY a b,Int.natAbs_of_nonneg (Int.le_of_lt hb)]⟩ ?_
 rintro σ H' ⟨l,m,rfl,rfl,hl,hm,hg⟩
 walk_at "rd"
 refine JZ (λc=>?_) (λc=>?_)
 ·refine⟨_,λσ' H' z=>z,c,_,ZeG c,rfl,m,l % m,rfl,rfl,hm,Y0 _ (by omega),?_⟩
  rw [Zic]; exact hg
 ·have e:m=0:=by omega
  subst e
  have e2:l=(Int.gcd a b:Int):=by rw [<- hg]; simp; omega
  subst e2
  have h1:=Yai a (Int.ne_of_gt hb)
  have h3:(Int.gcd a b:Int).natAbs.log2 < 9000:=ZbI (Z3 (YA (Zfe (Int.ne_of_gt hb)) hz) (by omega)) (by omega)
  refine⟨by omega,h3,by omega,h3,λp H' _ hs e=>q _ H' hs ⟨p,rfl,?_⟩⟩
  rw [(Zel hb).1,(Zel (t:=a) hb).2] at e
  exact e
def Zf3:Sp:=λvs H Q _=>∃ (c:Int) (b:Bool),vs=[.int c,.bl b]/\∀ r H' q,Zk H H'->Jo 110 q->0<=q.num->ZR H' r q->Q r H'
def Zn2(F:Fun K "_law_price_by" "_law_price_by" Zby f fd)(ZI:Fn P w K mg base ZD 1 "_law_low" ["_law_top","_law_bottom"] ZbF):FnOk P w K mg base ZD 2 f fd ["_law_number","_law_wide"] Zf3:=by
 refine JU F ZeY λcdv A outer s H vs Q E hr h=>?_
 obtain⟨c,b,rfl,q⟩:=h
 refine⟨_,(Zd (Jm (Jg (Ze 1)) (Zh (Zy (Jb ZI hr (Zi (Z8 (Ze 0) (Zhm Zb Zb)) (Zi (Jy Zb (Z8 (Zhh (Ze 0) (Zhm Zb Zb)) (JP (Zhm Zb Zb) Zb))) Za))))) ZV)
   (Zh (Zy (Jb ZI hr (Zi (Z8 (Ze 0) Zb) (Zi (Jy Zb (Z8 (Zbl (Ze 0) Zb) Zb)) Za)))))),?_⟩
 rw [show Zz ["_law_number","_law_wide"] [.int c,.bl b]=[some (.int c),some (.bl b)] from rfl]
 walk_at "rd"
 simp only [ZbF]
 walk_at "rd"
 have fin:∀ t d:Int,0<=t->t.natAbs < 2 ^ 110->0 < d->d.natAbs < 2 ^ 110->Big d/\0 < d/\∀ (r:V) (H':Hp),Zk H H'->ZR H' r (Rat.divInt t d)->Q r H':=λt d h1 h2 h3 h4 =>
  ⟨Big.of h4 (by decide),h3,λr H' s v=>q r H' _ s (Jo.of (by omega) h2 h4) (num_nonneg h1 h3) v⟩
 refine JZ (λ_=>?_) (λ_=>?_)
 ·exact⟨by decide,fin _ _ (by omega) (by omega) (by omega) (by omega)⟩
 ·exact fin _ _ (by omega) (by omega) (by omega) (by omega)
def Zm8(F:Fun K "_law_roads_by" "_law_roads_by" Zas f fd)(ZG:mg "list"=none)(ZT:mg "range"=none)(ZbR:mg "enumerate"=none)(ZdH:mg "int"=none)(ZpM:mg "min"=none)
  (ZE:Fn P w K mg base ZD 1 "_law_cell_at" ["_law_script","_law_k"] (ZbV K)) (Zaf:Fn P w K mg base ZD 2 "_law_numbers" ["_law_cell","_law_many","_law_most"] ZaA) (ZbD:Fn P w K mg base ZD 2 "_law_price_by" ["_law_number","_law_wide"] Zf3):FnOk P w K mg base ZD 3 f fd ["_law_script","_law_most"] (ZfK K):=by
 refine JU F Zv λcdv A outer s H vs Q E hr h=>?_
 obtain⟨a,ns,m,rfl,hS,hm0,hm1,q⟩:=h
 obtain⟨t2,ht2,hr2⟩:∃ t,QB (Zjg ZD P w K mg base ["_law_script","_law_most","_law_head","_law_many","_law_wide","_law_turned","_law_k","_law_number","_law_other","_law_roads","_law_prices","_law_to"] "_law_roads_by" (Zc Zas) f cdv A outer s H E).nox ((ZB Zas).drop 6) t/\∀ (c n:Int) (b:Bool) (p:Addr) (o1 o2 o3:Option V) (ts:List Int) (H1:Hp),0<=n->n<=20->H p=none->Zk H H1->H1 p=some (.lst (ts.map V.int))->ts.Perm (ZlX 1 n.toNat) ->
   t { nx:=λ_ H'=>Q .non H',rt:=Q } [some (.ref a),some (.int m),some (.int c),some (.int n),some (.bl b),some (.ref p),o1,o2,o3,none,none,none] H1:=by
  refine⟨_,(Zd (ZcG 9 (Ztq ["_law_k"]) (Zey rfl ZT (Zi (Ze 3) Za)) (by exact λs H fp=>(Zr 0 (show List.Nodup (["_law_k"]:List Str) from by decide +kernel))) (by exact λs H fp=>(JS (Zi Zb (Zi (JS (Zi Zb (Zi Zb Za))) Za)))) (Zr 9 Zv.nd))
   (Zd (Zs 10 Zv.nd (Jb Zaf hr (Zi (Jb ZE hr (Zi (Ze 0) (Zi Zb Za))) (Zi (Ze 3) (Zi (Jx (ZcD (Zi Zb (Zi (Zhm Zb Zb) Za))) (ZrF rfl ZdH (Zi (Ze 4) Za))) Za)))))
   (Zd (Je Yq (Zon rfl ZbR (Zi (Jb Zaf hr (Zi (Jb ZE hr (Zi (Ze 0) (Zi Zb Za))) (Zi (Ze 3) (Zi Zb Za)))) Za)) (ZhN (n:=2) (ZaP (Zr 6 Zv.nd) (ZaP (Zr 7 Zv.nd) Zd6))) (Zd (Zs 11 Zv.nd (Jx (Zq0 (ZcD (Zi Zb Za)) (Ze 5)) (JP (Ze 6) (Z8 (Ze 7) (Ztr rfl ZpM (Zi (Jy (Ze 6) Zb) (Zi (Jy Zb (Z8 (Zbl (Ze 7) Zb) Zb)) Za)))))))
   (Zh (Zn1 (JS (Zi (Ze 11) (Zi (Jb ZbD hr (Zi (Jx (Ze 10) (Ze 6)) (Zi (Ze 4) Za))) Za))) (ZkS (Ze 9) (JP (Jx (Ze 5) (Ze 6)) Zb))))))
   (Zh (Zy (Ze 9)))))),λc n b p o1 o2 o3 ts H1 hn0 hn1 hp s1 e1 hpm=>?_⟩
  walk_at "rd"
  simp only [JQ,ZiV,cxK]
  walk_at "rd"
  refine⟨by omega,by omega,?_⟩
  refine ZkG (λacc i ys H'=>H acc=none/\Zk H H'/\p ≠ acc/\H' p=some (.lst (ts.map V.int))/\H' acc=some (.lst ys)/\ys.length=i/\i<=20) (λacc H2 hn sm e=>⟨s1.free hn,s1.trans sm,λz=>?_,sm _ _ e1,e,rfl,by omega⟩)
   (λacc i ys H2 h=>⟨h.2.2.2.2.1,by omega⟩) (λacc i ys H2 os hn hi h ol=>?_) (λacc ys H2 hn h=>?_)
  ·rw [<- z,e1] at hn; cases hn
  ·obtain⟨h0,sm,hne,hp2,ha,hy,_⟩:=h
   obtain⟨o,rfl⟩:∃ o,os=[o]:=List.length_eq_one_iff.mp ol
   walk_at "rd"
   exact⟨[_],rfl,rfl,λp1 H3 _ s3 _ p2 H4 _ s4 _=>⟨s4 _ _ (s3 _ _ ha),h0,Zt h0 (sm.trans (s3.trans s4)),hne,by rw [Zg hne]; exact s4 _ _ (s3 _ _ hp2),Zf,by simp [hy],by omega⟩⟩
  ·obtain⟨h0,sm,hne,hp2,ha,hy,_⟩:=h
   simp only [ZbV,ZaA,ZgO]
   walk_at "rd"
   obtain⟨mo,hmo,hat⟩:∃ mo:Int,(mo=78\/mo=1000000000000000000000000000000000000000000000000000000000000)/\atI [V.int 78,V.int 1000000000000000000000000000000000000000000000000000000000000] (if b=true then 1 else 0)=some (.int mo):=by
    cases b
    ·exact⟨_,.inl rfl,rfl⟩
    ·exact⟨_,.inr rfl,rfl⟩
   refine⟨⟨3,rfl⟩,⟨ns,sm.seq hS⟩,λpm H3 _ s3 e3=>⟨_,e3,_,hat,mo,rfl,hn0,by omega,by omega,Z3 (a:=200) (by omega) (by decide),λpp H4 ps hpp s4 e4 hl4 _=>?_⟩⟩
   simp only [ZbV,ZaA]
   walk_at "rd"
   refine⟨⟨2,rfl⟩,⟨ns,(sm.trans (s3.trans s4)).seq hS⟩,hn0,by omega,Z3 (a:=20) (by decide) (by decide),λpn H5 xs hpn s5 e5 hl5 hx5=>?_⟩
   have ha4:=s4 _ _ (s3 _ _ ha)
   have hpa:pp ≠ acc:=λz=>by rw [z,s3 _ _ ha] at hpp; cases hpp
   have hna:pn ≠ acc:=λz=>by rw [z,ha4] at hpn; cases hpn
   have hl:(ts.length:Int)=n:=by rw [hpm.length_eq,ZfS]; omega
   have hbd:∀ x∈ts,1<=x/\x<=n:=λx hx=>by have:=Zh9 (hpm.mem_iff.mp hx); omega
   have hnd:ts.Nodup:=hpm.nodup_iff.mpr Zfb
   refine ZiB (xs:=xs.map V.int) (Pq H a p acc pp pn m c n b ts ps (xs.map V.int)) ⟨_,_,_,_,ys,rfl,sm.trans (s3.trans (s4.trans s5)),s5 _ _ (s4 _ _ (s3 _ _ hp2)),s5 _ _ e4,e5,s5 _ _ ha4,by omega,λj hj=>absurd hj (V9 j)⟩ (λi σ H' _ h=>h.at) (λi x σ H6 pb H7 hx hP hb s7 e7=>?_) (λσ H6 hP=>?_)
   ·obtain⟨o1,o2,o3,o4,ys,rfl,sm6,et,ep,en,ea,hyl,hdone⟩:=hP
    have hi:i < xs.length:=by have:=(List.getElem?_eq_some_iff.mp hx).1; simpa using this
    have hxi:x=.int xs[i]:=by rw [Yg,Yc hi] at hx; exact (YT hx).symm
    subst hxi
    walk_at "rd"
    simp only [e7,Zf3]
    walk_at "rd"
    have hv:=hx5 xs[i] (YG hi)
    have hlt:i < ts.length:=by omega
    have hM1:0 < (if 1 + xs[i] / 41 % 41 < (i:Int) + 1 then 1 + xs[i] / 41 % 41 else (i:Int) + 1)/\(if 1 + xs[i] / 41 % 41 < (i:Int) + 1 then 1 + xs[i] / 41 % 41 else (i:Int) + 1)<=(i:Int) + 1:=by split <;> omega
    generalize (if 1 + xs[i] / 41 % 41 < (i:Int) + 1 then 1 + xs[i] / 41 % 41 else (i:Int) + 1)=M at hM1 ⊢
    have hq0:=Y0 xs[i] (b:=M) (by omega)
    have hq1:=Y9 xs[i] (b:=M) hM1.1
    obtain⟨e,he⟩:∃ e:Nat,(i:Int) - xs[i] % M=(e:Int):=⟨((i:Int) - xs[i] % M).toNat,by omega⟩
    simp only [he]
    obtain⟨to,hat2,hto⟩:∃ to:Nat,atI ([V.int 0] ++ ts.map V.int) (e:Int)=some (.int (to:Int))/\(to=0\/∃ j',j' < i/\ts[j']?=some (to:Int)):=by
     cases e with
     | zero=>exact⟨0,ZM (by simp),.inl rfl⟩
     | succ e =>
      have he':e < ts.length:=by omega
      have hb1:=hbd ts[e] (YG he')
      have h3:((ts[e].toNat:Nat):Int)=ts[e]:=V6 (by omega)
      exact⟨ts[e].toNat,ZM (by rw [h3]; simp [he']),.inr ⟨e,by omega,by rw [h3,List.getElem?_eq_getElem he']⟩⟩
    have hbi:=hbd ts[i] (YG hlt)
    obtain⟨k,hk⟩:∃ k:Nat,ts[i]=(k:Int) + 1:=⟨(ts[i] - 1).toNat,by omega⟩
    have hip:i < ps.length:=by omega
    refine λp8 H8 h8 s8 e8=>⟨_,e8,_,s8 _ _ (s7 _ _ et),ZgW (by simp; omega),λp9 hp9=>⟨hM1.1,_,Zf,_,hat2,_,ZO hp9 _ _ _ (s8 _ _ (s7 _ _ ep)),.int ps[i],ZM (by simp [hip]),⟨_,rfl⟩,λr H10 qr s10 zq hqn vr p11 H11 h11 s11 e11=>?_⟩⟩
    have S:Zk H6 H11:=s7.trans (s8.trans ((ZO hp9 _).trans (s10.trans s11)))
    have ea11:=S _ _ ea
    refine⟨_,S _ _ et,.int ts[i],ZM (by simp [hlt]),_,rfl,ys,ea11,k,?_,?_⟩
    ·rw [hk,Int.add_sub_cancel]; exact ZgN (by omega)
    ·refine⟨_,_,_,_,ys.set k (.ref p11),rfl,Zt h0 (sm6.trans S),by rw [Zg hne]; exact S _ _ et,by rw [Zg hpa]; exact S _ _ ep,by rw [Zg hna]; exact S _ _ en,Zf,by simpa using hyl,λj hj=>?_⟩
     by_cases hji:j=i
     ·subst hji
      exact⟨k,.ref p11,(to,qr),by rw [Yc hlt,hk],Yan (by omega),ZcY.upd ⟨p11,r,rfl,e11,vr.same s11⟩ ea11,zq,hqn,hto⟩
     ·obtain⟨k',x,r',g1,g2,g3,g4,g5,g6⟩:=hdone j (by omega)
      have hkk:k ≠ k':=λz=>by
       have g7:ts[j]?=ts[i]?:=by rw [g1,Yc hlt,hk,z]
       have hjl:j < ts.length:=(Yi.mp g1).1
       exact hji ((List.getElem?_inj hjl hnd).mp g7)
      exact⟨k',x,r',g1,by rw [Yap hkk]; exact g2,(g3.same S).upd ea11,g4,g5,g6⟩
   ·obtain⟨o1,o2,o3,o4,ys,rfl,sm6,et,ep,en,ea,hyl,hdone⟩:=hP
    walk_at "rd"
    obtain⟨rs,hR,hT,hlen,hz⟩:=ZnO (n:=n.toNat) hpm (by omega) λj hj=>hdone j (by rw [Ye]; omega)
    exact q acc H6 ys rs h0 sm6 ea hR hT (by omega) hz
 obtain⟨t1,ht1,hr1⟩:∃ t,QB (Zjg ZD P w K mg base ["_law_script","_law_most","_law_head","_law_many","_law_wide","_law_turned","_law_k","_law_number","_law_other","_law_roads","_law_prices","_law_to"] "_law_roads_by" (Zc Zas) f cdv A outer s H E).nox ((ZB Zas).drop 4) t/\∀ (c n:Int) (b:Bool),0<=n->n<=20 ->
   t { nx:=λ_ H'=>Q .non H',rt:=Q } [some (.ref a),some (.int m),some (.int c),some (.int n),some (.bl b),none,none,none,none,none,none,none] H:=by
  refine⟨_,(Zd (Zs 5 Zv.nd (ZgB rfl ZG (Zi (Zre rfl ZT (Zi Zb (Zi (Jy (Ze 3) Zb) Za))) Za)))
   (Zd (Je Yq (Zon rfl ZbR (Zi (Jb Zaf hr (Zi (Jb ZE hr (Zi (Ze 0) (Zi Zb Za))) (Zi (Ze 3) (Zi Zb Za)))) Za)) (ZhN (n:=2) (ZaP (Zr 6 Zv.nd) (ZaP (Zr 7 Zv.nd) Zd6))) (Zd (Zs 8 Zv.nd (Z8 (Ze 7) (Jy (Ze 6) Zb)))
   (Zh (Zn1 (JS (Zi (Jx (Ze 5) (Ze 8)) (Zi (Jx (Ze 5) (Ze 6)) Za))) (ZhN (n:=2) (ZaP (ZkS (Ze 5) (Ze 6)) (ZaP (ZkS (Ze 5) (Ze 8)) Zd6)))))))
   ht2)),λc n b hn0 hn1=>?_⟩
  walk_at "rd"
  simp only [Zqj,Zhl,cxK,ZgO]
  walk_at "rd"
  simp only [ZbV,ZaA]
  walk_at "rd"
  intro pr H1 hpr s1 e1
  refine⟨_,.inr (.inr ⟨1,n + 1,e1,by decide,by decide,by omega,by omega,rfl,by omega⟩),λp H2 hp s2 e2=>?_⟩
  have hpH:H p=none:=s1.free hp
  refine⟨⟨1,rfl⟩,⟨ns,(s1.trans s2).seq hS⟩,hn0,by omega,Z3 (a:=6) (by decide) (by decide),λpn H3 xs hpn s3 e3 hl3 hx3=>?_⟩
  have hne:pn ≠ p:=λz=>by rw [z,e2] at hpn; cases hpn
  refine ZiB (xs:=xs.map V.int) (Pr H a p pn m c n b (xs.map V.int)) ⟨_,_,_,ZlX 1 n.toNat,rfl,s1.trans (s2.trans s3),?_,e3,.refl _⟩ (λi σ H' _ h=>h.at) (λi x σ H4 pb H5 hx hP hb s5 e5=>?_) (λσ H4 hP=>?_)
  ·rw [s3 _ _ e2,Zm5]
   congr 4
   omega
  ·obtain⟨o1,o2,o3,ts,rfl,sm,e,ep,hpm⟩:=hP
   have hl:(ts.length:Int)=n:=by rw [hpm.length_eq,ZfS]; omega
   have hi:i < xs.length:=by have:=(List.getElem?_eq_some_iff.mp hx).1; simpa using this
   have hxi:x=.int xs[i]:=by rw [Yg,Yc hi] at hx; exact (YT hx).symm
   subst hxi
   walk_at "rd"
   simp only [e5]
   walk_at "rd"
   have hlt:i < ts.length:=by omega
   have hq0:=Y0 xs[i] (b:=(i:Int) + 1) (by omega)
   have hq1:=Y9 xs[i] (b:=(i:Int) + 1) (by omega)
   obtain⟨j,hj⟩:∃ j:Nat,xs[i] % ((i:Int) + 1)=(j:Int):=⟨_,(V6 hq0).symm⟩
   simp only [hj] at hq0 hq1 ⊢
   have hjl:j < ts.length:=by omega
   have at5:=s5 _ _ e
   refine⟨by omega,_,at5,.int ts[j],ZM (by simp [hjl]),_,at5,.int ts[i],ZM (by simp [hlt]),λpt H6 hpt s6 e6=>⟨_,e6,rfl,_,_,rfl,_,s6 _ _ at5,i,ZgN (by simp [hlt]),_,_,rfl,_,Zf,j,ZgN (by simp [hjl]),rfl,?_⟩⟩
   have pm:=List.set_set_perm (as:=ts) hlt hjl
   refine⟨_,_,_,(ts.set i ts[j]).set j ts[i],rfl,Zt hpH (Zt hpH (sm.trans (s5.trans s6))),by rw [Zf,List.map_set,List.map_set],by rw [Zg hne,Zg hne]; exact s6 _ _ (s5 _ _ ep),pm.trans hpm⟩
  ·obtain⟨o1,o2,o3,ts,rfl,sm,e,_,hpm⟩:=hP
   exact hr2 c n b p o1 o2 o3 ts H4 hn0 hn1 hpH sm e hpm
 refine⟨_,(Zd (Zs 2 Zv.nd (Jb ZE hr (Zi (Ze 0) (Zi Zb Za))))
   (Zd (Zs 3 Zv.nd (Z8 (Ze 2) (Jy (Ze 1) Zb)))
   (Zd (Zs 4 Zv.nd (ZsB (Z8 (Zbl (Ze 2) Zb) Zb) Zb))
   (Zd (Jm (Jg (Ze 4)) (Zh (Zs 3 Zv.nd (Z8 (Ze 3) Zb))) (Zh (Jm (Zoa (Z8 (Zbl (Ze 2) Zb) Zb) Zb) (Zh (Zs 3 Zv.nd (Z8 (Zbl (Ze 2) Zb) Zb))) ZV)))
   ht1)))),?_⟩
 rw [show Zz ["_law_script","_law_most","_law_head","_law_many","_law_wide","_law_turned","_law_k","_law_number","_law_other","_law_roads","_law_prices","_law_to"] [.ref a,.int m]=[some (.ref a),some (.int m),none,none,none,none,none,none,none,none,none,none] from rfl]
 walk_at "rd"
 simp only [ZbV]
 walk_at "rd"
 refine⟨ns,0,rfl,hS,by omega,?_⟩
 have h9:=Y0 (cellOf ns 0) (b:=m + 1) (by omega)
 have h8:=Y9 (cellOf ns 0) (b:=m + 1) (by omega)
 refine JZ (λc=>?_) (λc=>?_)
 ·exact hr1 _ _ _ (by omega) (by omega)
 ·refine JZ (λc2=>?_) (λc2=>?_)
  ·exact hr1 _ _ _ (by omega) (by omega)
  ·exact hr1 _ _ _ (by omega) (by omega)
def Ziq:Sp:=λvs H Q _=>∃ (a:Addr) (xs:List V) (rs:List (Nat × Rat)) (k:Nat) (w:List Nat),vs=[.ref a,.int k]/\H a=some (.lst xs)/\Jp H xs rs/\WayR rs k w/\w.length<=1000/\∀ p H',H p=none->Zk H H'->H' p=some (.lst (ZN w))->Q (.ref p) H'
def Pw(H0:Hp)(a p:Addr)(rs:List (Nat × Rat))(w0:List Nat)(σ:St)(H:Hp):Prop:=∃ (k:Nat) (pre w:List Nat),σ=[some (.ref a),some (.int k),some (.ref p)]/\Zk H0 H/\H p=some (.lst (ZN pre))/\WayR rs k w/\w0=pre ++ w
def ZqW(F:Fun K "_law_way" "_law_way" ZeC f fd):FnOk P w K mg base ZD 1 f fd ["_law_roads","_law_k"] Ziq:=by
 refine JU F Zde λcdv A outer s H vs Q E hr h=>?_
 obtain⟨a,xs,rs,k,w0,rfl,ha,hR,hw0,hwl,q⟩:=h
 refine⟨_,(Zd (Zs 2 Zde.nd (ZcD Za))
   (Zd (ZfI Yq (Zny (Ze 1) Zb) (Zd (Js (ZgC (Ze 2) (Zi (Ze 1) Za)))
   (Zh (Zs 1 Zde.nd (ZA (Jx (Ze 0) (JP (Ze 1) Zb)) Zb)))))
   (Zh (Zy (Ze 2))))),?_⟩
 rw [show Zz ["_law_roads","_law_k","_law_way_here"] [.ref a,.int k]=[some (.ref a),some (.int k),none] from rfl]
 walk_at "rd"
 intro p H1 hp s1 e1
 refine ZfZ (Pw H a p rs w0) (λσ _=>wayM rs (ZmW σ 1).toNat) ⟨k,[],w0,rfl,s1,e1,hw0,rfl⟩ ?_
 rintro σ H2 ⟨k,pre,w,rfl,s2,e2,hw,hw1⟩
 walk_at "rd"
 have hap:a ≠ p:=λz=>by rw [z,hp] at ha; cases ha
 refine JZ (λhc=>?_) (λhc=>?_)
 ·cases hw with
  | nil=>exact absurd rfl hc
  | @cons k r w h hw' =>
   have hkl:k < rs.length:=(Yi.mp h).1
   have hkx:k < xs.length:=by rw [hR.1]; exact hkl
   obtain⟨pr,y,ex,hpr,hy⟩:=hR.2 k _ r (Yc hkx) h
   have hrp:pr ≠ p:=λz=>by rw [z,hp] at hpr; cases hpr
   have hlen:(ZN pre).length < 1000000:=by
    have:=congrArg List.length hw1
    simp [ZN] at this ⊢
    omega
   refine⟨λσ' H'=>σ'=[some (.ref a),some (.int r.1),some (.ref p)]/\Pw H a p rs w0 σ' H',λσ' H' ⟨e,hP⟩=>⟨_,?_,rfl,hP⟩,⟨_,e2⟩,_,e2,hlen,xs,by rw [Zg hap]; exact s2 _ _ ha,xs[k],?_,pr,ex,_,by rw [Zg hrp]; exact s2 _ _ hpr,_,rfl,rfl,?_⟩
   ·subst e
    show wayM rs ((r.1:Nat):Int).toNat < wayM rs (((k + 1:Nat)):Int).toNat
    rw [VQ,VQ,ZfL hw',ZfL (.cons h hw')]
    simp
   ·rw [show (((k + 1:Nat)):Int) - 1=(k:Int) by omega]
    exact ZM (Yc hkx)
   ·exact⟨r.1,pre ++ [k + 1],w,rfl,Zt hp s2,by rw [Zf]; simp [ZN],hw',by simp [hw1]⟩
 ·have hk0:k=0:=by omega
  subst hk0
  have e:=hw.zero
  subst e
  rw [Y5] at hw1
  subst hw1
  exact q p H2 hp s2 e2
def PrP(H:Hp)(x:V):Prop:=∃ a t b,x=.ref a/\H a=some (.tup [.int t,.int b])/\1<=b/\Int.gcd t b=1/\0<=t
def RdP(H:Hp)(x:V)(n:Int):Prop:=∃ a t y,x=.ref a/\H a=some (.tup [.int t,y])/\0<=t/\t < n/\PrP H y
def Zqs:Sp:=λvs H Q _=>∃ x,vs=[x]/\PrP H x/\Q (.bl true) H
def Zdm:Sp:=λvs H Q _=>∃ x,vs=[x]/\PrP H x/\Q (.bl true) H
def ZeD:Sp:=λvs H Q _=>∃ x n,vs=[x,.int n]/\RdP H x n/\Q (.bl true) H
def ZhI(F:Fun K "is_ratio" "is_ratio" Zc9 f fd)(Zj:mg "isinstance"=none)(ZaO:mg "tuple"=none)(ZC:mg "len"=none)
  (Zam:Fn P w K mg base ZD 1 "is_whole" ["thing"] Zba) (Zad:Fn P w K mg base ZD 1 "greatest_divisor" ["one","other"] Zd4) :
  FnOk P w K mg base ZD 2 f fd ["thing"] Zqs:=by
 refine JU F ZcC λcdv A outer s H vs Q E hr h=>?_
 obtain⟨x,rfl,⟨a,t,b,rfl,ha,h1,h2,h3⟩,q⟩:=h
 refine⟨_,(Zd (Jm (t_w (JW (JC (Jg (Jv rfl Zj (Zi (Ze 0) (Zi (J2 rfl ZaO rfl) Za))))) (Zda (Zny (Ju rfl ZC (Zi (Ze 0) Za)) Zb)))) (Zh (Zy JX)) ZV)
   (Zd (Zs 1 ZcC.nd (ZA (Ze 0) Zb))
   (Zd (Zs 2 ZcC.nd (ZA (Ze 0) Zb))
   (Zd (Jm (t_w (JW (JC (Jg (Jb Zam hr (Zi (Ze 1) Za)))) (Zda (JC (Jg (Jb Zam hr (Zi (Ze 2) Za))))))) (Zh (Zy JX)) ZV)
   (Zh (Zy (Zfo (ZtA (Ze 2) Zb) (Zgn (ZsB (Jb Zad hr (Zi (Ze 1) (Zi (Ze 2) Za))) Zb))))))))),?_⟩
 rw [show Zz ["thing","top","bottom"] [.ref a]=[some (.ref a),none,none] from rfl]
 refine Zx λB hB=>?_
 refine Jt λA hA C hC=>?_
 walk_at "rd"
 simp only [ZhR ha,ha]
 walk_at "rd"
 rw [if_neg (by decide)]
 subst hC
 walk_at "rd"
 subst hB
 try dsimp only
 refine Zx λB hB=>?_
 walk_at "rd"
 refine⟨_,ha,_,rfl,?_⟩
 subst hB
 try dsimp only
 refine Zx λB hB=>?_
 walk_at "rd"
 refine⟨_,ha,_,rfl,?_⟩
 subst hB
 try dsimp only
 refine Zx λB hB=>?_
 refine Jt λA hA C hC=>?_
 walk_at "rd"
 simp only [Zba]
 walk_at "rd"
 refine⟨Zdg _,?_⟩
 rw [if_neg (show ¬ isW (V.int t)=false from nofun)]
 refine⟨Zdg _,?_⟩
 rw [if_neg (show ¬ isW (V.int b)=false from nofun)]
 subst hC
 walk_at "rd"
 subst hB
 try dsimp only
 walk_at "rd"
 simp only [Zd4]
 walk_at "rd"
 rw [if_pos h1,h2]
 exact q
def Zg3(F:Fun K "is_price" "is_price" Zdj f fd)(Zdl:Fn P w K mg base ZD 2 "is_ratio" ["thing"] Zqs):FnOk P w K mg base ZD 3 f fd ["thing"] Zdm:=by
 refine JU F ZgY λcdv A outer s H vs Q E hr h=>?_
 obtain⟨x,rfl,⟨a,t,b,rfl,ha,h1,h2,h3⟩,q⟩:=h
 refine⟨_,(Zh (Zy (Zfo (Jb Zdl hr (Zi (Ze 0) Za)) (Zgn (ZtA (ZA (Ze 0) Zb) Zb))))),?_⟩
 rw [show Zz ["thing"] [.ref a]=[some (.ref a)] from rfl]
 walk_at "rd"
 simp only [Zqs,ha]
 walk_at "rd"
 rw [YL h3]
 exact⟨⟨a,t,b,rfl,ha,h1,h2,h3⟩,q⟩
def Zjs(F:Fun K "is_road" "is_road" ZeV f fd)(Zj:mg "isinstance"=none)(ZaO:mg "tuple"=none)(ZC:mg "len"=none)(Zam:Fn P w K mg base ZD 1 "is_whole" ["thing"] Zba)
  (Zdn:Fn P w K mg base ZD 3 "is_price" ["thing"] Zdm):FnOk P w K mg base ZD 4 f fd ["thing","many"] ZeD:=by
 refine JU F Zfn λcdv A outer s H vs Q E hr h=>?_
 obtain⟨x,n,rfl,⟨a,t,y,rfl,ha,h1,h2,hp⟩,q⟩:=h
 refine⟨_,(Zd (Jm (t_w (JW (JC (Jg (Jv rfl Zj (Zi (Ze 0) (Zi (J2 rfl ZaO rfl) Za))))) (Zda (Zny (Ju rfl ZC (Zi (Ze 0) Za)) Zb)))) (Zh (Zy JX)) ZV)
   (Zd (Zs 2 Zfn.nd (ZA (Ze 0) Zb))
   (Zh (Zy (Zfo (Jb Zam hr (Zi (Ze 2) Za)) (Zfo (ZrR Zb (Ze 2) (Ze 1)) (Zgn (Jb Zdn hr (Zi (ZA (Ze 0) Zb) Za))))))))),?_⟩
 rw [show Zz ["thing","many","to"] [.ref a,.int n]=[some (.ref a),some (.int n),none] from rfl]
 refine Zx λB hB=>?_
 refine Jt λA hA C hC=>?_
 walk_at "rd"
 simp only [ZhR ha,ha]
 walk_at "rd"
 rw [if_neg (by decide)]
 subst hC
 walk_at "rd"
 subst hB
 try dsimp only
 refine Zx λB hB=>?_
 walk_at "rd"
 refine⟨_,ha,_,rfl,?_⟩
 subst hB
 try dsimp only
 walk_at "rd"
 simp only [Zba,Zdm,ha]
 walk_at "rd"
 refine⟨Zdg _,?_⟩
 rw [if_pos (show isW (V.int t)=true from rfl),if_pos h1,if_pos h2]
 exact⟨hp,q⟩
def Zg9:Sp:=λvs H Q _=>∃ (a:Addr) (xs:List V),vs=[.ref a]/\H a=some (.lst xs)/\xs.length<=40/\(∀ x∈xs,RdP H x (xs.length + 1))/\Q .non H
def Zk9:Sp:=λvs H Q _=>∃ (a:Addr) (xs:List V) (rs:List (Nat × Rat)) (k:Nat) (w:List Nat),vs=[.ref a,.int k]/\H a=some (.lst xs)/\Jp H xs rs/\WayR rs k w/\w.length<=rs.length/\rs.length<=40/\k<=rs.length/\(∀ r∈rs,r.1<=rs.length) /\
 ∀ p H',H p=none->Zk H H'->H' p=some (.lst (ZN w))->Q (.ref p) H'
def Plk(H0:Hp)(a:Addr)(n:Nat)(i:Nat)(σ:St)(H:Hp):Prop:=∃ o,σ=[some (.ref a),some (.int ((n:Int) + 1)),o]/\H=H0
def Zpx{tk:Tok}(F:Fun K "look_roads" "look_roads" Zcf f fd)(Zj:mg "isinstance"=none)(ZG:mg "list"=none)(ZC:mg "len"=none)(g_MOST_ROADS:mg "MOST_ROADS"=some (.int 40 tk))
  (Zep:Fn P w K mg base ZD 4 "is_road" ["thing","many"] ZeD):FnOk P w K mg base ZD 5 f fd ["thing"] Zg9:=by
 refine JU F Zb0 λcdv A outer s H vs Q E hr h=>?_
 obtain⟨a,xs,rfl,ha,hl,hx,q⟩:=h
 refine⟨_,(Zd (Jm (JC (Jg (Jv rfl Zj (Zi (Ze 0) (Zi (J2 rfl ZG rfl) Za))))) (Zh Zbv) ZV)
   (Zd (Jm (ZsO (Ju rfl ZC (Zi (Ze 0) Za)) (Zry rfl g_MOST_ROADS)) (Zh Zbv) ZV)
   (Zd (Zs 1 Zb0.nd (Jy (Ju rfl ZC (Zi (Ze 0) Za)) Zb))
   (Zh (Je Yq (Z6 (Ze 0)) (Zr 2 Zb0.nd) (Zh (Jm (JC (Jg (Jb Zep hr (Zi (Ze 2) (Zi (Ze 1) Za))))) (Zh Zbv) ZV))))))),?_⟩
 rw [show Zz ["thing","many","road"] [.ref a]=[some (.ref a),none,none] from rfl]
 refine Zx λB hB=>?_
 refine Jt λA hA C hC=>?_
 walk_at "rd"
 simp only [ZnM ha]
 walk_at "rd"
 subst hC
 walk_at "rd"
 subst hB
 try dsimp only
 refine Zx λB hB=>?_
 refine Jt λA hA C hC=>?_
 walk_at "rd"
 refine⟨xs,.inl ha,?_⟩
 rw [if_neg (by omega)]
 subst hC
 walk_at "rd"
 subst hB
 try dsimp only
 refine Zx λB hB=>?_
 walk_at "rd"
 refine⟨xs,.inl ha,?_⟩
 subst hB
 try dsimp only
 simp only [Zaq]
 walk_at "rd"
 refine Zaz (Plk H a xs.length) ⟨_,rfl,rfl⟩ (λi σ H' _ ⟨o,_,e⟩=>by rw [e]; exact .of ha) (λi x σ H' hi hP=>?_) (λσ H' hP=>?_)
 ·obtain⟨o,rfl,rfl⟩:=hP
  walk_at "rd"
  simp only [ZeD]
  walk_at "rd"
  exact⟨hx x (Yl hi),_,rfl,rfl⟩
 ·obtain⟨o,rfl,rfl⟩:=hP
  exact q
def Pwf(H0:Hp)(a p:Addr)(k0:Nat)(rs:List (Nat × Rat))(w0:List Nat)(σ:St)(H:Hp):Prop:=∃ (k:Nat) (pre w:List Nat),σ=[some (.ref a),some (.int k0),some (.ref p),some (.int k)]/\Zk H0 H/\H p=some (.lst (ZN pre))/\WayR rs k w/\w0=pre ++ w
def Zpf(F:Fun K "way_from" "way_from" Zc7 f fd)(ZC:mg "len"=none):FnOk P w K mg base ZD 1 f fd ["roads","k"] Zk9:=by
 refine JU F ZbU λcdv A outer s H vs Q E hr h=>?_
 obtain⟨a,xs,rs,k0,w0,rfl,ha,hR,hw0,hwl,hrl,_,_,q⟩:=h
 refine⟨_,(Zd (Zs 2 ZbU.nd (ZcD Za))
   (Zd (Zs 3 ZbU.nd (Ze 1))
   (Zd (ZfI Yq (Zny (Ze 3) Zb) (Zd (Jm (Zoa (Ju rfl ZC (Zi (Ze 2) Za)) (Ju rfl ZC (Zi (Ze 0) Za))) (Zh Zbv) ZV)
   (Zd (Js (ZgC (Ze 2) (Zi (Ze 3) Za)))
   (Zh (Zs 3 ZbU.nd (ZA (Jx (Ze 0) (JP (Ze 3) Zb)) Zb))))))
   (Zh (Zy (Ze 2)))))),?_⟩
 rw [show Zz ["roads","k","way","place"] [.ref a,.int k0]=[some (.ref a),some (.int k0),none,none] from rfl]
 walk_at "rd"
 intro p H1 hp s1 e1
 refine ZfZ (Pwf H a p k0 rs w0) (λσ _=>wayM rs (ZmW σ 3).toNat) ⟨k0,[],w0,rfl,s1,e1,hw0,rfl⟩ ?_
 rintro σ H2 ⟨k,pre,w,rfl,s2,e2,hw,hw1⟩
 walk_at "rd"
 have hap:a ≠ p:=λz=>by rw [z,hp] at ha; cases ha
 refine JZ (λhc=>?_) (λhc=>?_)
 ·cases hw with
  | nil=>exact absurd rfl hc
  | @cons k r w h hw' =>
   have hkl:k < rs.length:=(Yi.mp h).1
   have hkx:k < xs.length:=by rw [hR.1]; exact hkl
   obtain⟨pr,y,ex,hpr,hy⟩:=hR.2 k _ r (Yc hkx) h
   have hrp:pr ≠ p:=λz=>by rw [z,hp] at hpr; cases hpr
   have hpl:pre.length < rs.length:=by
    have:=congrArg List.length hw1
    simp at this
    omega
   have hlen:(ZN pre).length < 1000000:=by simp [ZN]; omega
   simp only [e2,s2 _ _ ha]
   walk_at "rd"
   refine⟨λσ' H'=>σ'=[some (.ref a),some (.int k0),some (.ref p),some (.int r.1)]/\Pwf H a p k0 rs w0 σ' H',λσ' H' ⟨e,hP⟩=>⟨_,?_,rfl,hP⟩,?_⟩
   ·subst e
    show wayM rs ((r.1:Nat):Int).toNat < wayM rs (((k + 1:Nat)):Int).toNat
    rw [VQ,VQ,ZfL hw',ZfL (.cons h hw')]
    simp
   rw [if_neg (by have:=hR.1; simp [ZN]; omega)]
   refine⟨hlen,xs,by rw [Zg hap]; exact s2 _ _ ha,xs[k],?_,pr,ex,_,by rw [Zg hrp]; exact s2 _ _ hpr,_,rfl,rfl,?_⟩
   ·rw [show (((k + 1:Nat)):Int) - 1=(k:Int) by omega]
    exact ZM (Yc hkx)
   ·exact⟨r.1,pre ++ [k + 1],w,rfl,Zt hp s2,by rw [Zf]; simp [ZN],hw',by simp [hw1]⟩
 ·have hk0:k=0:=by omega
  subst hk0
  have e:=hw.zero
  subst e
  rw [Y5] at hw1
  subst hw1
  exact q p H2 hp s2 e2
theorem ZR.keep{H H':Hp}(h:ZR H x q)(s:∀ b ys,H b=some (.tup ys)->H' b=some (.tup ys)):ZR H' x q:=let ⟨p,e,h1⟩:=h; ⟨p,e,s _ _ h1⟩
theorem ZcY.keep{H H':Hp}{r:Nat × Rat}(h:ZcY H x r)(s:∀ b ys,H b=some (.tup ys)->H' b=some (.tup ys)):ZcY H' x r:=let ⟨p,y,e,h1,h2⟩:=h; ⟨p,y,e,s _ _ h1,h2.keep s⟩
theorem Jp.keep{H H':Hp}(h:Jp H xs rs)(s:∀ b ys,H b=some (.tup ys)->H' b=some (.tup ys)):Jp H' xs rs:=⟨h.1,λi x r h1 h2=>(h.2 i x r h1 h2).keep s⟩
theorem Jp.same{H H':Hp}(h:Jp H xs rs)(s:Zk H H'):Jp H' xs rs:=h.keep λb ys=>s b _
def Ztb(H:Hp)(ws:List V)(rs:List (Nat × Rat)):Prop:=ws.length=rs.length + 1/\∀ (k:Nat) x,ws[k]?=some x->∃ p w,x=.ref p/\H p=some (.lst (ZN w))/\WayR rs k w/\w.length<=rs.length
def JK(C:Addr)(H:Hp)(x:V)(rs:List (Nat × Rat)):Prop:=∃ a dx la wa ls ws,x=.ref a/\H a=some (.ins C dx [("lanes",.ref la),("ways",.ref wa)])/\H la=some (.lst ls)/\Jp H ls rs/\H wa=some (.lst ws)/\Ztb H ws rs
theorem JK.same{C:Addr}{H H':Hp}(h:JK C H x rs)(s:Zk H H'):JK C H' x rs:=by
 obtain⟨a,dx,la,wa,ls,ws,e,h1,h2,h3,h4,h5,h6⟩:=h
 exact⟨a,dx,la,wa,ls,ws,e,s _ _ h1,s _ _ h2,h3.same s,s _ _ h4,h5,λk x hx=>let ⟨p,w,e,g1,g2⟩:=h6 k x hx; ⟨p,w,e,s _ _ g1,g2⟩⟩
def Zjb{r:Nat × Rat}{n:Int}(h:ZcY H x r)(h1:(r.1:Int) < n)(h2:0<=r.2.num):RdP H x n:=by
 obtain⟨p,y,rfl,hp,q,rfl,hq⟩:=h
 have hg:Int.gcd r.2.num (r.2.den:Int)=1:=by
  show Nat.gcd r.2.num.natAbs (Int.natAbs (r.2.den:Int))=1
  rw [VO]
  exact r.2.reduced
 have hd:1<=(r.2.den:Int):=by have:=r.2.den_pos; omega
 exact⟨p,_,_,rfl,hp,by omega,h1,q,_,_,rfl,hq,hd,hg,h2⟩
def ZlT(C:Addr):Sp:=λvs H Q _=>∃ (x dx a:Addr) (xs:List V) (rs:List (Nat × Rat)),vs=[.ref x,.ref a]/\H x=some (.ins C dx [])/\H a=some (.lst xs)/\Jp H xs rs/\Zcp rs/\rs.length<=40/\(∀ r∈rs,0<=r.2.num) /\
 ∀ H',(∀ b o,b ≠ x->H b=some o->H' b=some o)->JK C H' (.ref x) rs->(∀ l zs,H l=some (.lst zs)->∀ H'',Zk H' H''->∀ ys,JK C (upd H'' l (.lst ys)) (.ref x) rs)->Q .non H'
def Zpj(F:Fun K "__init__" "Tree.__init__" Zai f fd)(ZG:mg "list"=none)(ZC:mg "len"=none)(ZT:mg "range"=none)(ZL:Cls K CT)(Zci:Zb4 K CT "lanes")(Za5:Zb4 K CT "ways")
  (Zb5:Fn P w K mg base ZD 5 "look_roads" ["thing"] Zg9) (Zdo:Fn P w K mg base ZD 1 "way_from" ["roads","k"] Zk9):FnOk P w K mg base ZD 6 f fd ["self","roads"] (ZlT CT):=by
 refine JU F ZdE λcdv A outer s H vs Q E hr h=>?_
 obtain⟨x,dx,a,xs,rs,rfl,hx,ha,hR,hT,hl,hn,q⟩:=h
 refine⟨_,(Zd (Js (Jb Zb5 hr (Zi (Ze 1) Za)))
   (Zd (ZrN (Ze 0) (ZgB rfl ZG (Zi (Ze 1) Za)))
   (Zh (ZrN (Ze 0) (Zdx (ZiM ["k"] [1] ["roads"]) (Zey rfl ZT (Zi (Jy (Ju rfl ZC (Zi (Ze 1) Za)) Zb) Za)) (by exact λs H fp=>(Zr 0 (show List.Nodup (["k","roads"]:List Str) from by decide +kernel))) (by exact λs H fp=>(Jb Zdo hr (Zi (Ze 1) (Zi (Ze 0) Za))))))))),?_⟩
 rw [show Zz ["self","roads"] [.ref x,.ref a]=[some (.ref x),some (.ref a)] from rfl]
 walk_at "rd"
 simp only [Zg9,Zhl]
 walk_at "rd"
 refine⟨xs,ha,by rw [hR.1]; exact hl,λy hy=>?_,xs,.inl (.of ha),λl H1 hl1 s1 e1=>?_⟩
 ·obtain⟨i,hi⟩:=Vy hy
  have hi':i < rs.length:=by rw [<- hR.1]; exact (Yi.mp hi).1
  obtain⟨_,_,_,hT2⟩:=hT
  have h2:=hT2 i _ (Yc hi')
  exact Zjb (hR.2 i y _ hi (Yc hi')) (by rw [hR.1]; omega) (hn _ (YG hi'))
 refine⟨CT,dx,[],s1 _ _ hx,ZL,Zci,by decide,?_⟩
 have hax:a ≠ x:=Jk ha hx (by intro z; cases z)
 rw [show J1 (Str.ofString "lanes") (.ref l) []=[(Str.ofString "lanes",V.ref l)] from rfl]
 have k1:∀ b o,b ≠ x->H b=some o->upd H1 x (.ins CT dx [(Str.ofString "lanes",V.ref l)]) b=some o:=λb o hb e=>by rw [Zg hb]; exact s1 _ _ e
 have ha2:upd H1 x (.ins CT dx [(Str.ofString "lanes",V.ref l)]) a=some (.lst xs):=k1 _ _ hax ha
 have hl2:upd H1 x (.ins CT dx [(Str.ofString "lanes",V.ref l)]) l=some (.lst xs):=by rw [Zg (Jk e1 (s1 _ _ hx) (by intro z; cases z))]; exact e1
 have hx2:upd H1 x (.ins CT dx [(Str.ofString "lanes",V.ref l)]) x=some (.ins CT dx [(Str.ofString "lanes",V.ref l)]):=Zf
 generalize upd H1 x (.ins CT dx [(Str.ofString "lanes",V.ref l)])=H2 at k1 ha2 hl2 hx2 ⊢
 simp only [JQ,ZiV,cxK]
 walk_at "rd"
 have hxl:=hR.1
 have hto:∀ r∈rs,r.1<=rs.length:=λr hr=>by
  obtain⟨_,_,_,g⟩:=id hT
  obtain⟨i,hi⟩:=Vy hr
  exact (g i r hi).1
 refine⟨xs,.inl ha2,by omega,by omega,?_⟩
 rw [show Jq [some (V.ref x),some (V.ref a)] [1]=[some (V.ref a)] from rfl]
 have tk:∀ H3,Zk H2 H3->Jp H3 xs rs:=λH3 sm=>hR.keep λb ys e=>sm _ _ (k1 b _ (Jk e hx (by intro z; cases z)) e)
 refine ZkG (λacc i ys H'=>Zk H2 H'/\H' acc=some (.lst ys)/\ys.length=i/\i<=50/\∀ (k:Nat) y,ys[k]?=some y->∃ p w,y=.ref p/\p ≠ acc/\H2 p=none/\H' p=some (.lst (ZN w))/\WayR rs k w/\w.length<=rs.length)
  (λacc H3 hn sm e=>⟨sm,e,rfl,by omega,λk y hy=>by simp at hy⟩) (λacc i ys H3 ⟨_,e,hl,hi,_⟩=>⟨e,by omega⟩) (λacc i ys H3 os hn hi hP ol=>?_) (λacc ys H3 hn' hP=>?_)
 ·obtain⟨sm,e,hyl,hi2,hE⟩:=hP
  obtain⟨o,rfl⟩:∃ o,os=[o]:=by match os,ol with | [o],_=>exact⟨o,rfl⟩
  obtain⟨w,hw,hwl⟩:=Zbs hT (k:=i) (by omega)
  walk_at "rd"
  refine⟨[some (.int (i:Int))],rfl,rfl,?_⟩
  refine⟨a,xs,rs,i,w,rfl,sm _ _ ha2,tk _ sm,hw,hwl,by omega,by omega,hto,λp' H4 hp' s4 e4=>⟨s4 _ _ e,Zt hn (sm.trans s4),Zf,by simp [hyl],by omega,λk y hy=>?_⟩⟩
  by_cases hk:k < ys.length
  ·rw [YS hk] at hy
   obtain⟨p,w,e5,hpa,hpn,e6,e7⟩:=hE k y hy
   exact⟨p,e5,hpa,hpn,w,by rw [Zg hpa]; exact s4 _ _ e6,e7⟩
  ·have hk2:k=i:=by
    have:=(Yi.mp hy).1
    simp at this; omega
   subst hk2
   rw [YN (by omega),hyl] at hy
   have hy':V.ref p'=y:=by simpa using hy
   subst hy'
   have hpa:p' ≠ acc:=λz=>by rw [z,e] at hp'; cases hp'
   exact⟨p',rfl,hpa,sm.free hp',w,by rw [Zg hpa]; exact e4,hw,hwl⟩
 ·obtain⟨sm,e,hyl,hi2,hE⟩:=hP
  have nx:∀ b ys,H3 b=some (.lst ys)->b ≠ x:=λb ys e=>Jk e (sm _ _ hx2) (by intro z; cases z)
  have gen:∀ H5:Hp,H5 x=some (.ins CT dx [("lanes",.ref l),("ways",.ref acc)])->H5 l=some (.lst xs)->H5 acc=some (.lst ys)->(∀ p w,H2 p=none->H3 p=some (.lst (ZN w))->H5 p=some (.lst (ZN w)))->(∀ b zs,H3 b=some (.tup zs)->H5 b=some (.tup zs))->JK CT H5 (.ref x) rs:=by
   intro H5 g1 g2 g3 g4 g5
   refine⟨x,dx,l,acc,xs,ys,rfl,g1,g2,(tk _ sm).keep g5,g3,by omega,λk y hy=>?_⟩
   obtain⟨p,w,e5,_,hpn,e6,e7⟩:=hE k y hy
   exact⟨p,w,e5,g4 _ _ hpn e6,e7⟩
  refine⟨CT,dx,_,sm _ _ hx2,ZL,Za5,by show (1:Nat) < 1000; decide,q _ (λb o hb e=>by rw [Zg hb]; exact sm _ _ (k1 b o hb e)) ?_ (λl0 zs h0 H'' s'' us=>?_)⟩
  ·exact gen _ Zf (by rw [Zg (nx _ _ (sm _ _ hl2))]; exact sm _ _ hl2) (by rw [Zg (nx _ _ e)]; exact e) (λp w _ h=>by rw [Zg (nx _ _ h)]; exact h) (λb zs h=>by rw [Zg (Jk h (sm _ _ hx2) (by intro z; cases z))]; exact h)
  ·have n1:x ≠ l0:=Jk hx h0 (by intro z; cases z)
   have h2:H2 l0=some (.lst zs):=k1 _ _ (λz=>n1 z.symm) h0
   have h3:H'' l0=some (.lst zs):=s'' _ _ (by rw [Zg (λz=>n1 z.symm)]; exact sm _ _ h2)
   have keepL:∀ b ws,b ≠ l0->H3 b=some (.lst ws)->upd H'' l0 (.lst us) b=some (.lst ws):=λb ws hb h=>by
    rw [Zg hb]; exact s'' _ _ (by rw [Zg (nx _ _ h)]; exact h)
   have n2:l ≠ l0:=λz=>by rw [z,h0] at hl1; cases hl1
   have n3:acc ≠ l0:=λz=>by rw [z,h2] at hn'; cases hn'
   exact gen _ (by rw [Zg n1]; exact s'' _ _ Zf) (keepL _ _ n2 (sm _ _ hl2)) (keepL _ _ n3 e) (λp w hp h=>keepL _ _ (λz=>by rw [z,h2] at hp; cases hp) h)
    (λb zs' h=>by
     have hb:b ≠ l0:=Jk h (sm _ _ h2) (by intro z; cases z)
     rw [Zg hb]; exact s'' _ _ (by rw [Zg (Jk h (sm _ _ hx2) (by intro z; cases z))]; exact h))
def ZfH(C:Addr):Sp:=λvs H Q _=>∃ x rs,vs=[x]/\JK C H x rs/\Q (.int ((rs.length:Int) + 1)) H
def ZpC(F:Fun K "many" "Tree.many" Zaw f fd)(ZC:mg "len"=none)(ZL:Cls K CT)(Za5:Zb4 K CT "ways"):FnOk P w K mg base ZD 1 f fd ["self"] (ZfH CT):=by
 refine JU F ZgA λcdv A outer s H vs Q E hr h=>?_
 obtain⟨x,rs,rfl,⟨a,dx,la,wa,ls,ws,rfl,h1,h2,h3,h4,h5,h6⟩,q⟩:=h
 refine⟨_,(Zh (Zy (Ju rfl ZC (Zi (Zql (Ze 0)) Za)))),?_⟩
 rw [show Zz ["self"] [.ref a]=[some (.ref a)] from rfl]
 walk_at "rd"
 refine⟨CT,dx,_,h1,ZL,Za5,.ref wa,rfl,wa,rfl,ws,.inl h4,?_⟩
 rw [show ((ws.length:Nat):Int)=(rs.length:Int) + 1 by omega]
 exact q
def inT(rs:List (Nat × Rat))(k:Int):Prop:=0<=k/\k<=rs.length
def ZfA(C CNP:Addr):Sp:=λvs H Q E=>∃ x rs k,vs=[x,.int k]/\JK C H x rs/\(inT rs k->Q .non H)/\(¬ inT rs k->E (.ref CNP) none H)
def Zna(F:Fun K "look_crossing" "Tree.look_crossing" Zaa f fd)(Zam:Fn P w K mg base ZD 1 "is_whole" ["thing"] Zba)
  (Zfj:Mth P w K mg base ZD 1 CT "many" ["self"] (ZfH CT)):FnOk P w K mg base ZD 2 f fd ["self","k"] (λvs H Q _=>ZfA CT CNP vs H Q E0):=by
 refine JU F Zce λcdv A outer s H vs Q E hr h=>?_
 obtain⟨x,rs,k,rfl,hT,q1,q2⟩:=h
 have hin:inT rs k:=Vn λz=>q2 z
 refine⟨_,(Zh (Jm (t_w (JW (JC (Jg (Jb Zam hr (Zi (Ze 1) Za)))) (JW (ZpL (Ze 1) Zb) (Zda (ZtX (Ze 1) (Zkh Zfj hr (by decide) (Ze 0))))))) (Zh Zbv) ZV)),?_⟩
 rw [show Zz ["self","k"] [x,.int k]=[some (x),some (.int k)] from rfl]
 walk_at "rd"
 simp only [Zba,ZfH]
 walk_at "rd"
 refine⟨Zdg k,?_⟩
 rw [if_neg (by simp [isW])]
 refine JZ (λc=>absurd hin (by unfold inT; omega)) (λc=>?_)
 obtain⟨a,dx,la,wa,ls,ws,rfl,h1,_⟩:=id hT
 exact⟨a,rfl,dx,_,h1,rfl,rs,hT,JZ (λc2=>absurd hin (by unfold inT; omega)) (λc2=>q1 hin)⟩
def Zhc(C CNP:Addr):Sp:=λvs H Q E=>∃ x rs k,vs=[x,.int k]/\JK C H x rs/\(∀ (p:Addr) (H':Hp) (k':Nat) (w:List Nat),k=(k':Int)->H p=none->Zk H H'->H' p=some (.lst (ZN w))->WayR rs k' w->w.length<=rs.length->Q (.ref p) H')/\(¬ inT rs k->E (.ref CNP) none H)
def Zpt(F:Fun K "way" "Tree.way" ZaE f fd)(ZG:mg "list"=none)(ZL:Cls K CT)(Za5:Zb4 K CT "ways")
  (Zat:Mth P w K mg base ZD 2 CT "look_crossing" ["self","k"] (λvs H Q _=>ZfA CT CNP vs H Q E0)):FnOk P w K mg base ZD 3 f fd ["self","k"] (λvs H Q _=>Zhc CT CNP vs H Q E0):=by
 refine JU F ZhF λcdv A outer s H vs Q E hr h=>?_
 obtain⟨x,rs,k,rfl,hT,q1,q2⟩:=h
 have hin:inT rs k:=Vn λz=>q2 z
 refine⟨_,(Zd (Js (Zcs Zat hr (by decide) (Ze 0) (Zi (Ze 1) Za)))
   (Zh (Zy (ZgB rfl ZG (Zi (Jx (Zql (Ze 0)) (Ze 1)) Za))))),?_⟩
 rw [show Zz ["self","k"] [x,.int k]=[some (x),some (.int k)] from rfl]
 walk_at "rd"
 simp only [Zhl]
 walk_at "rd"
 obtain⟨a,dx,la,wa,ls,ws,rfl,h1,h2,h3,h4,h5,h6⟩:=id hT
 refine⟨a,rfl,dx,_,h1,rfl,.ref a,rs,k,rfl,hT,λ_=>?_,λz=>z hin⟩
 obtain⟨k',hk'⟩:∃ k':Nat,k=(k':Int):=⟨k.toNat,by unfold inT at hin; omega⟩
 subst hk'
 have hlt:k' < ws.length:=by unfold inT at hin; omega
 obtain⟨p,w,e5,e6,e7,e8⟩:=h6 k' _ (Yc hlt)
 exact⟨a,rfl,CT,dx,_,h1,ZL,Za5,.ref wa,rfl,wa,rfl,ws,h4,_,ZM (Yc hlt),p,e5,ZN w,.inl (.of e6),λl H2 hl s e=>q1 l H2 k' w rfl hl s e e7 e8⟩
def inR(rs:List (Nat × Rat))(k:Int):Prop:=1<=k/\k<=rs.length
def ZfV(C CNP:Addr):Sp:=λvs H Q E=>∃ x rs k,vs=[x,.int k]/\JK C H x rs/\(inR rs k->Q .non H)/\(¬ inR rs k->E (.ref CNP) none H)
def ZnX(F:Fun K "look_road" "Tree.look_road" Zah f fd)
  (Zat:Mth P w K mg base ZD 2 CT "look_crossing" ["self","k"] (λvs H Q _=>ZfA CT CNP vs H Q E0)):FnOk P w K mg base ZD 3 f fd ["self","k"] (λvs H Q _=>ZfV CT CNP vs H Q E0):=by
 refine JU F Zdk λcdv A outer s H vs Q E hr h=>?_
 obtain⟨x,rs,k,rfl,hT,q1,q2⟩:=h
 have hin:inR rs k:=Vn λz=>q2 z
 refine⟨_,(Zd (Js (Zcs Zat hr (by decide) (Ze 0) (Zi (Ze 1) Za)))
   (Zh (Jm (Zoa (Ze 1) Zb) (Zh Zbv) ZV))),?_⟩
 rw [show Zz ["self","k"] [x,.int k]=[some (x),some (.int k)] from rfl]
 walk_at "rd"
 obtain⟨a,dx,la,wa,ls,ws,rfl,h1,_⟩:=id hT
 refine⟨a,rfl,dx,_,h1,rfl,.ref a,rs,k,rfl,hT,λ_=>?_,λz=>z ⟨by unfold inR at hin; omega,by unfold inR at hin; omega⟩⟩
 exact JZ (λc=>absurd hin (by unfold inR; omega)) (λc=>q1 hin)
open Classical in
noncomputable def wayL(rs:List (Nat × Rat))(k:Nat):List Nat:=if h:∃ w,WayR rs k w then h.choose else []
theorem Zbf{w:List Nat}(h:WayR rs k w):wayL rs k=w:=by
 have hh:∃ w,WayR rs k w:=⟨w,h⟩
 unfold wayL
 rw [dif_pos hh]
 exact h.uniq hh.choose_spec
noncomputable def ben(rs:List (Nat × Rat))(k:Nat):List Nat:=(List.range (rs.length + 1)).filter λj=>decide (k∈wayL rs j)
def Zga{w:List Nat}:inV (.int (k:Int)) (ZN w)=decide (k∈w):=by
 unfold inV ZN
 rw [List.any_map,VF,List.any_eq_true,Y3]
 constructor
 ·rintro⟨y,hy,e⟩
  have e:(y:Int)=(k:Int):=by simpa [eqV] using e
  have:y=k:=by omega
  rw [<- this]; exact hy
 ·intro h
  exact⟨k,h,by simp [eqV]⟩
def ZdT{w:List Nat}:(ZN w).all Zdd=true:=by
 rw [List.all_eq_true]
 intro v hv
 obtain⟨k,_,rfl⟩:=Yk.mp hv
 rfl
def ZjS(C CNP:Addr):Sp:=λvs H Q E=>∃ x rs k,vs=[x,.int k]/\JK C H x rs/\rs.length<=100/\(∀ (p:Addr) (H':Hp) (k':Nat),k=(k':Int)->inR rs k->H p=none->Zk H H'->H' p=some (.lst (ZN (ben rs k')))->Q (.ref p) H')/\(¬ inR rs k->E (.ref CNP) none H)
def ZoN(F:Fun K "beneath" "Tree.beneath" Zal f fd)(ZT:mg "range"=none)(ZL:Cls K CT)(Za5:Zb4 K CT "ways")(Zfj:Mth P w K mg base ZD 1 CT "many" ["self"] (ZfH CT))
  (ZaV:Mth P w K mg base ZD 3 CT "look_road" ["self","k"] (λvs H Q _=>ZfV CT CNP vs H Q E0)):FnOk P w K mg base ZD 4 f fd ["self","k"] (λvs H Q _=>ZjS CT CNP vs H Q E0):=by
 refine JU F Zeo λcdv A outer s H vs Q E hr h=>?_
 obtain⟨x,rs,k,rfl,hT,hrl,q1,q2⟩:=h
 have hin:inR rs k:=Vn λz=>q2 z
 refine⟨_,(Zd (Js (Zcs ZaV hr (by decide) (Ze 0) (Zi (Ze 1) Za)))
   (Zh (Zy (Zhz (ZiM ["place"] [0,1] ["self","k"]) (Zey rfl ZT (Zi (Zkh Zfj hr (by decide) (Ze 0)) Za)) (by exact λs H fp=>(Zr 0 (show List.Nodup (["place","self","k"]:List Str) from by decide +kernel))) (by exact λs H fp=>ZhY (ZkF K (Ze 2) (Jx (ZrK K (Ze 1)) (Ze 0)))) (by exact λs H fp=>(Ze 0)))))),?_⟩
 rw [show Zz ["self","k"] [x,.int k]=[some (x),some (.int k)] from rfl]
 walk_at "rd"
 obtain⟨a,dx,la,wa,ls,ws,rfl,h1,h2,h3,h4,h5,h6⟩:=id hT
 refine⟨a,rfl,dx,_,h1,rfl,.ref a,rs,k,rfl,hT,λ_=>?_,λz=>z hin⟩
 obtain⟨k',hk'⟩:∃ k':Nat,k=(k':Int):=⟨k.toNat,by unfold inR at hin; omega⟩
 subst hk'
 simp only [Zdv,ZiV]
 walk_at "rd"
 refine⟨dx,_,h1,rfl,.ref a,rs,rfl,hT,_,rfl,by omega,by omega,?_⟩
 rw [show Jq [some (V.ref a),some (V.int (k':Int))] [0,1]=[some (V.ref a),some (V.int (k':Int))] from rfl,show ((rs.length:Int) + 1).toNat=rs.length + 1 by omega]
 refine Zim (λacc i ys H'=>Zk H H'/\H' acc=some (.lst ys)/\ys=ZN ((List.range i).filter λj=>decide (k'∈wayL rs j))/\i<=rs.length + 1) (λacc H2 hn sm e=>⟨sm,e,rfl,by omega⟩) (λacc i ys H2 ⟨_,e,ey,hi⟩=>⟨e,?_⟩) (λacc i ys H2 os hn hi hP ol=>?_) (λacc ys H2 hn hP=>?_)
 ·rw [ey]
  have:=YU (λj=>decide (k'∈wayL rs j)) (List.range i)
  simp [ZN] at this ⊢
  omega
 ·obtain⟨sm,e,ey,hi2⟩:=hP
  obtain⟨o,rfl⟩:∃ o,os=[o]:=by match os,ol with | [o],_=>exact⟨o,rfl⟩
  have hlt:i < ws.length:=by omega
  obtain⟨p,w,e5,e6,e7,e8⟩:=h6 i _ (Yc hlt)
  walk_at "rd"
  refine⟨[some (.int (i:Int))],rfl,rfl,?_⟩
  simp only [rIn]
  walk_at "rd"
  refine⟨CT,dx,_,sm _ _ h1,ZL,Za5,.ref wa,rfl,wa,rfl,ws,sm _ _ h4,_,ZM (Yc hlt),p,e5,ZN w,.inl (.of (sm _ _ e6)),rfl,ZdT,?_⟩
  rw [Zga]
  have ew:wayL rs i=w:=Zbf e7
  refine JZ (λc=>⟨e,Zt hn sm,Zf,?_,by omega⟩) (λc=>⟨sm,e,?_,by omega⟩)
  ·rw [List.range_succ,VN,Yam (by show decide (k'∈wayL rs i)=true; rw [ew]; exact c),List.filter_nil,ey]
   simp [ZN]
  ·rw [List.range_succ,VN,V2 (by show ¬ decide (k'∈wayL rs i)=true; rw [ew]; exact c),List.filter_nil,Y5,ey]
 ·obtain⟨sm,e,ey,hi2⟩:=hP
  subst ey
  exact q1 acc H2 k' rfl hin hn sm e
def Zd1(C CNP:Addr):Sp:=λvs H Q E=>∃ x rs k,vs=[x,.int k]/\JK C H x rs/\(∀ (k':Nat) r y,k=(k':Int) + 1->rs[k']?=some r->ZR H y r.2->Q y H)/\(¬ inR rs k->E (.ref CNP) none H)
def ZkA(F:Fun K "price" "Tree.price" Zap f fd)(ZL:Cls K CT)(Zci:Zb4 K CT "lanes")
  (ZaV:Mth P w K mg base ZD 3 CT "look_road" ["self","k"] (λvs H Q _=>ZfV CT CNP vs H Q E0)):FnOk P w K mg base ZD 4 f fd ["self","k"] (λvs H Q _=>Zd1 CT CNP vs H Q E0):=by
 refine JU F Zfx λcdv A outer s H vs Q E hr h=>?_
 obtain⟨x,rs,k,rfl,hT,q1,q2⟩:=h
 have hin:inR rs k:=Vn λz=>q2 z
 refine⟨_,(Zd (Js (Zcs ZaV hr (by decide) (Ze 0) (Zi (Ze 1) Za)))
   (Zh (Zy (ZA (Jx (Zql (Ze 0)) (JP (Ze 1) Zb)) Zb)))),?_⟩
 rw [show Zz ["self","k"] [x,.int k]=[some (x),some (.int k)] from rfl]
 walk_at "rd"
 obtain⟨a,dx,la,wa,ls,ws,rfl,h1,h2,h3,_⟩:=id hT
 refine⟨a,rfl,dx,_,h1,rfl,.ref a,rs,k,rfl,hT,λ_=>?_,λz=>z hin⟩
 obtain⟨k',hk'⟩:∃ k':Nat,k=(k':Int) + 1:=⟨(k - 1).toNat,by unfold inR at hin; omega⟩
 subst hk'
 have hl:=h3.1
 have hlr:k' < rs.length:=by unfold inR at hin; omega
 have hls:k' < ls.length:=by omega
 obtain⟨p,y,e,e2,e3⟩:=h3.2 k' _ _ (Yc hls) (Yc hlr)
 refine⟨a,rfl,CT,dx,_,h1,ZL,Zci,.ref la,rfl,la,rfl,ls,h2,_,?_,p,e,_,e2,_,rfl,q1 k' _ y rfl (Yc hlr) e3⟩
 rw [show (k':Int) + 1 - 1=(k':Int) by omega]
 exact ZM (Yc hls)
def Zf9:Sp:=λvs H Q _=>∃ c m:Int,vs=[.int c,.int m]/\0<=m/\m < 100/\∀ p H' (ss:List Str),H p=none->Zk H H'->H' p=some (.lst (ss.map V.str))->(ss.length:Int)=m->Q (.ref p) H'
def ZsT(ss:List Str):Prop:=∀ z∈ss,z.length=1
def Ziv:∀ {ss:List Str},ZsT ss->(ss.map (·.length)).sum=ss.length
 | [],_=>rfl
 | z :: ss,h=>by
  rw [Yr,VW,h z (Vf ..),Ziv λy hy=>h y (Y7 _ hy),YR,Nat.add_comm]
theorem Zj5:(Str.ofString "abcdefghijklmnopqrstuvwxyz").length=26:=by decide +kernel
def Zor{i:Int}(h0:0<=i)(h1:i < 26):∃ c,atI (Str.ofString "abcdefghijklmnopqrstuvwxyz").cps.toList i=some c:=by
 obtain⟨k,rfl⟩:∃ k:Nat,i=(k:Int):=⟨i.toNat,by omega⟩
 have hl:(Str.ofString "abcdefghijklmnopqrstuvwxyz").cps.toList.length=26:=by decide +kernel
 have hk:k < (Str.ofString "abcdefghijklmnopqrstuvwxyz").cps.toList.length:=by omega
 exact⟨_,ZM (Yc hk)⟩
def ZtY(H0:Hp)(c m:Int)(p:Addr)(i:Nat)(σ:St)(H:Hp):Prop:=∃ (r:Int) (o:Option V) (ss:List Str),σ=[some (.int c),some (.int m),some (.str (Str.ofString "abcdefghijklmnopqrstuvwxyz")),some (.ref p),some (.int r),o,none,none,none,none,none]/\Zk H0 H/\H p=some (.lst (ss.map V.str))/\ss.length=i/\ZsT ss
def Zub(H0:Hp)(c m:Int)(k:Nat)(p pn:Addr)(ss:List Str)(i:Nat)(σ:St)(H:Hp):Prop:=∃ (r a0:Int) (o1 o2 o3:Option V) (ns:List Str),σ=[some (.int c),some (.int m),some (.str (Str.ofString "abcdefghijklmnopqrstuvwxyz")),some (.ref p),some (.int r),o1,some (.int (k:Int)),some (.int a0),some (.ref pn),o2,o3] /\
 Zk H0 H/\H p=some (.lst (ss.map V.str))/\H pn=some (.lst (ns.map V.str))/\ns.length=i
def ZmI(F:Fun K "_law_names_by" "_law_names_by" Zbu f fd)(ZT:mg "range"=none)(ZC:mg "len"=none)(ZG:mg "list"=none):FnOk P w K mg base ZD 1 f fd ["_law_cell","_law_many"] Zf9:=by
 refine JU F Zab λcdv A outer s H vs Q E hr h=>?_
 obtain⟨c,m,rfl,hm0,hm1,q⟩:=h
 refine⟨_,(Zd (Zs 2 Zab.nd ZfT)
   (Zd (Zs 3 Zab.nd (ZcD Za))
   (Zd (Zs 4 Zab.nd (Zbl (Ze 0) Zb))
   (Zd (Je Yq (Zey rfl ZT (Zi (Jy Zb (Z8 (Ze 0) Zb)) Za)) (Zr 5 Zab.nd) (Zd (Js (ZgC (Ze 3) (Zi (Zr8 (Ze 2) (Z8 (Ze 4) Zb)) Za)))
   (Zh (Zs 4 Zab.nd (Zbl (Ze 4) Zb)))))
   (Zd (Zs 6 Zab.nd (Z8 (Zbl (Ze 0) Zb) (Ju rfl ZC (Zi (Ze 3) Za))))
   (Zd (Zs 7 Zab.nd (Zsq (Ze 2) (Zi (Jx (Ze 3) (Ze 6)) Za)))
   (Zd (Zs 8 Zab.nd (ZcD Za))
   (Zd (Je Yq (Zey rfl ZT (Zi (Ze 1) Za)) (Zr 5 Zab.nd) (Zd (Zs 9 Zab.nd (ZgB rfl ZG (Zi (Ze 3) Za)))
   (Zd (Zn1 (Zr8 (Ze 2) (Z8 (Ze 7) Zb)) (ZkS (Ze 9) (Ze 6)))
   (Zd (Zs 7 Zab.nd (Jy (Ze 7) (Jx (ZcD (Zi Zb (Zi Zb Za))) (Z8 (Zbl (Ze 0) Zb) Zb))))
   (Zd (Zs 10 Zab.nd (Z8 (Ji (Ze 5) (Z8 (Zbl (Ze 0) Zb) Zb)) (JP Zb (Ju rfl ZC (Zi (Ze 3) Za)))))
   (Zh (Js (ZgC (Ze 8) (Zi (Zr0 (Zrw ZfT (Zi (Ze 9) Za)) (ZqL ZfT (Ze 10))) Za)))))))))
   (Zh (Zy (Ze 8))))))))))),?_⟩
 rw [show Zz ["_law_cell","_law_many","_law_some","_law_word","_law_rest","_law_k","_law_spot","_law_at","_law_names","_law_made","_law_more"] [.int c,.int m]=[some (.int c),some (.int m),none,none,none,none,none,none,none,none,none] from rfl]
 walk_at "rd"
 simp only [ZcI]
 walk_at "rd"
 intro p H1 hp s1 e1
 have hc8:0<=c % 8/\c % 8 < 8:=⟨by omega,by omega⟩
 refine⟨by omega,by omega,?_⟩
 refine Zee (ZtY H c m p) ⟨c / 64,none,[],rfl,s1,e1,rfl,λz hz=>by cases hz⟩ (λi σ H2 hi hP=>?_) (λσ H2 hP=>?_)
 ·obtain⟨r,o,ss,rfl,s2,e2,hl,h1⟩:=hP
  obtain⟨ch,hch⟩:=Zor (i:=r % 26) (by omega) (by omega)
  walk_at "rd"
  simp only [e2]
  walk_at "rd"
  refine⟨by rw [Zj5]; decide,ch,hch,by simp; omega,_,_,ss ++ [⟨#[ch]⟩],rfl,Zt hp s2,by rw [Zf]; simp,by simp [hl],λz hz=>?_⟩
  rcases Yw.mp hz with z1 | z1
  ·exact h1 z z1
  ·rw [YF.mp z1]; rfl
 ·obtain⟨r,o,ss,rfl,s2,e2,hl,h1⟩:=hP
  walk_at "rd"
  simp only [e2]
  walk_at "rd"
  have hl2:(ss.length:Int)=1 + c % 8:=by omega
  rw [Ye]
  have hpos:0 < (ss.length:Int):=by omega
  have g0:=Y0 (c / 8) (b:=(ss.length:Int)) (by omega)
  have g1:=Y9 (c / 8) hpos
  obtain⟨k,ek⟩:∃ k:Nat,c / 8 % (ss.length:Int)=(k:Int):=⟨(c / 8 % (ss.length:Int)).toNat,by omega⟩
  rw [ek]
  have hk:k < ss.length:=by omega
  refine⟨hpos,V.str ss[k],ZM (by rw [Yg,Yc hk]; rfl),_,rfl,λpn H3 hpn s3 e3=>?_⟩
  generalize Txt.find _ _=at0
  have hne:p ≠ pn:=Zn e2 hpn
  simp only [ZcI]
  walk_at "rd"
  refine⟨by omega,by omega,?_⟩
  refine Zee (Zub H c m k p pn ss) ⟨_,at0,_,_,_,[],rfl,s2.trans s3,s3 _ _ e2,e3,rfl⟩ (λi σ H4 hi hP=>?_) (λσ H4 hP=>?_)
  ·obtain⟨r,a0,o1,o2,o3,ns,rfl,s4,e4,e5,hns⟩:=hP
   obtain⟨ch,hch⟩:=Zor (i:=a0 % 26) (by omega) (by omega)
   walk_at "rd"
   simp only [Zhl]
   walk_at "rd"
   refine⟨_,.inl (.of e4),λpm H5 hpm s5 e6=>?_⟩
   have hpm2:pm ≠ p:=λz=>by rw [z,e4] at hpm; cases hpm
   have hpm3:pm ≠ pn:=λz=>by rw [z,e5] at hpm; cases hpm
   refine⟨by rw [Zj5]; decide,ch,hch,_,e6,k,ZgN (by simpa using hk),λpl H6 hpl s6 e7=>⟨_,e7,?_⟩⟩
   have hmap:(ss.map V.str).set k (V.str ⟨#[ch]⟩)=(ss.set k ⟨#[ch]⟩).map V.str:=by rw [List.map_set]
   rw [hmap] at s6 hpl
   have h1':ZsT (ss.set k ⟨#[ch]⟩):=λz hz=>by
    rcases List.mem_or_eq_of_mem_set hz with z1 | z1
    ·exact h1 z z1
    ·rw [z1]; rfl
   have hsum:=Ziv h1'
   have hsl:(ss.set k ⟨#[ch]⟩).length=ss.length:=List.length_set
   have kp:∀ b o,b ≠ pm->H5 b=some o->H6 b=some o:=λb o hb e=>s6 _ _ (by rw [Zg hb]; exact e)
   have e8:H6 pm=some (.lst ((ss.set k ⟨#[ch]⟩).map V.str)):=s6 _ _ Zf
   have e9:H6 p=some (.lst (ss.map V.str)):=kp _ _ (Ne.symm hpm2) (s5 _ _ e4)
   have e10:H6 pn=some (.lst (ns.map V.str)):=kp _ _ (Ne.symm hpm3) (s5 _ _ e5)
   obtain⟨v,hv,hvm⟩:=Zqa (xs:=[V.int 1,V.int 25]) (i:=c / 512 % 2) (by omega) (by show c / 512 % 2 < 2; omega)
   have hvi:∃ x,v=V.int x:=by
    simp only [List.mem_cons,List.not_mem_nil,or_false] at hvm
    rcases hvm with rfl | rfl
    ·exact⟨_,rfl⟩
    ·exact⟨_,rfl⟩
   obtain⟨x,rfl⟩:=hvi
   refine⟨_,hv,x,rfl,ZpW.ok (.inr ⟨by omega,by omega⟩),_,.inl e9,by rw [List.length_map]; omega,⟨_,e10⟩,_,e8,by decide,by rw [hsum,hsl]; omega,by decide,?_,_,e10,by rw [List.length_map]; omega,_,_,_,_,_,ns ++ [_],rfl,Zt (s2.free hpn) ?_,by rw [Zg hne]; exact e9,by rw [Zf,List.map_append]; rfl,by simp [hns]⟩
   ·refine Yj (Nat.add_le_add (ZmC _ _) (Txt.slice_le _ _ _)) ?_
    rw [hsum,hsl]
    rw [show (Str.ofString "").length=0 from rfl,show (Str.ofString "qqqqqqq").length=7 by decide +kernel,Nat.mul_zero,Nat.add_zero]
    exact Yj (show ss.length + 7<=1000 by omega) (by decide)
   ·exact λb o e=>kp _ _ (Zn (s4 _ _ e) hpm) (s5 _ _ (s4 _ _ e))
  ·obtain⟨r,a0,o1,o2,o3,ns,rfl,s4,e4,e5,hns⟩:=hP
   walk_at "rd"
   exact q pn H4 ns (s2.free hpn) s4 e5 (by omega)
def Zfm(kvs:List (ZU × V))(n:Nat):Prop:=∀ kv∈kvs,∃ (z:Str) (h:Nat),kv=(Sum.inr z,.int (h:Int))/\h<=n
variable {kvs:List (ZU × V)}
def Zfm.put(h:Zfm kvs n){z:Str}{k:Nat}(hk:k<=n):Zfm (Jh kvs (Sum.inr z) (.int (k:Int))) n:=by
 unfold Jh
 split
 ·intro kv hkv
  obtain⟨kv',h1,rfl⟩:=Yk.mp hkv
  split
  ·rename_i e
   exact⟨z,k,by rw [e],hk⟩
  ·exact h _ h1
 ·intro kv hkv
  rcases Yw.mp hkv with h1 | h1
  ·exact h _ h1
  ·rw [YF.mp h1]
   exact⟨z,k,rfl,hk⟩
def Zlu(h:(kvs.map (·.1)).Nodup)(k:ZU)(v:V):((Jh kvs k v).map (·.1)).Nodup:=by
 unfold Jh
 split
 ·rw [Ys]
  have:((λkv:ZU × V=>kv.1) ∘ λkv=>if kv.1=k then (kv.1,v) else kv)=λkv=>kv.1:=by
   funext kv
   show (if kv.1=k then (kv.1,v) else kv).1=kv.1
   split <;> rfl
  rw [this]
  exact h
 ·rename_i c
  rw [YZ]
  refine List.nodup_append.mpr ⟨h,by simp,λx hx y hy=>?_⟩
  simp only [List.map_cons,List.map_nil,List.mem_singleton] at hy
  subst hy
  intro e
  subst e
  obtain⟨kv,h1,h2⟩:=Yk.mp hx
  exact c (List.any_eq_true.mpr ⟨kv,h1,by rw [h2]; simp⟩)
def Zgt(K:PySem.W.Frag):Sp:=λvs H Q _=>∃ (a:Addr) (ns:List Int) (n:Nat) (most:Int),vs=[.ref a,.int ((n:Int) + 1),.int most]/\Jw K H a (ns.map V.int)/\0<=most/\most < 90 /\
 ∀ p H' kvs o,H p=none->Zk H H'->H' p=some (.frz o (.dK kvs))->Zfm kvs n->(kvs.map (·.1)).Nodup->(kvs.length:Int)<=most->Q (.ref p) H'
def Phm(H0:Hp)(a p pn:Addr)(n:Nat)(most hd:Int)(ss:List Str)(nums:List Int)(pq:Addr)(i:Nat)(σ:St)(H:Hp):Prop:=∃ (o1 o2:Option V) (kvs:List (ZU × V)),σ=[some (.ref a),some (.int ((n:Int) + 1)),some (.int most),some (.int hd),some (.ref pn),some (.ref p),o1,o2]/\Zk H0 H/\H p=some (.dK kvs)/\Zfm kvs n/\(kvs.map (·.1)).Nodup/\kvs.length<=i /\
 H pn=some (.lst (ss.map V.str))/\H pq=some (.lst (nums.map V.int))
def ZlZ(F:Fun K "_law_homes_by" "_law_homes_by" ZbG f fd)(Zi6:mg "zip"=none)(ZC:mg "len"=none)(ZE:Fn P w K mg base ZD 1 "_law_cell_at" ["_law_script","_law_k"] (ZbV K))(ZbC:Fn P w K mg base ZD 1 "_law_names_by" ["_law_cell","_law_many"] Zf9)
  (Zaf:Fn P w K mg base ZD 2 "_law_numbers" ["_law_cell","_law_many","_law_most"] ZaA):FnOk P w K mg base ZD 3 f fd ["_law_script","_law_many","_law_most"] (Zgt K):=by
 refine JU F Zav λcdv A outer s H vs Q E hr h=>?_
 obtain⟨a,ns,n,most,rfl,hS,hm0,hm1,q⟩:=h
 refine⟨_,(Zd (Zs 3 Zav.nd (Jb ZE hr (Zi (Ze 0) (Zi Zb Za))))
   (Zd (Zs 4 Zav.nd (Jb ZbC hr (Zi (Zhh (Ze 3) (Jy (Ze 2) Zb)) (Zi (Z8 (Ze 3) (Jy (Ze 2) Zb)) Za))))
   (Zd (Zs 5 Zav.nd ZhV)
   (Zd (Je Yq (Zrn rfl Zi6 (Zi (Ze 4) (Zi (Jb Zaf hr (Zi (Jb ZE hr (Zi (Ze 0) (Zi Zb Za))) (Zi (Ju rfl ZC (Zi (Ze 4) Za)) (Zi Zb Za)))) Za))) (ZhN (n:=2) (ZaP (Zr 6 Zav.nd) (ZaP (Zr 7 Zav.nd) Zd6))) (Zh (ZcN (Z9 hr) (Ze 5) (Ze 6) (Z8 (Ze 7) (Ze 1)))))
   (Zsk 5 (Zh (Zy (Ze 5)))))))),?_⟩
 rw [show Zz ["_law_script","_law_many","_law_most","_law_head","_law_names","_law_homes","_law_name","_law_number"] [.ref a,.int ((n:Int) + 1),.int most]=[some (.ref a),some (.int ((n:Int) + 1)),some (.int most),none,none,none,none,none] from rfl]
 walk_at "rd"
 simp only [ZbV,Zf9,ZaA,ZhS]
 walk_at "rd"
 have g0:=Y0 (cellOf ns 4) (b:=most + 1) (by omega)
 have g1:=Y9 (cellOf ns 4) (b:=most + 1) (by omega)
 refine⟨ns,4,rfl,hS,by omega,YA (Nat.log2_le_self _) (by omega),by omega,g0,by omega,λpn H1 ss hpn s1 e1 hsl p H2 hp s2 e2=>?_⟩
 refine⟨a,ns,5,rfl,(s1.trans s2).seq hS,_,.inl (s2 _ _ e1),_,_,_,rfl,by omega,by rw [Ye]; omega,by decide,by decide,λpq H3 nums hpq s3 e3 hnl hnb=>?_⟩
 rw [Ye] at hnl
 have hpp:p ≠ pn:=λz=>by rw [z,e1] at hp; cases hp
 have hpqp:pq ≠ p:=λz=>by rw [z,e2] at hpq; cases hpq
 have hfr:H p=none:=s1.free hp
 refine ZjL (xs:=ss.map V.str) (ys:=nums.map V.int) (by simp; omega) (Phm H a p pn n most (cellOf ns 4) ss nums pq) ⟨_,_,[],rfl,s1.trans (s2.trans s3),s3 _ _ e2,(λkv hkv=>by cases hkv),List.nodup_nil,Nat.le_refl _,(s2.trans s3) _ _ e1,e3⟩
  (λi σ H4 _ ⟨_,_,_,_,_,_,_,_,_,g1,g2⟩=>⟨.of g1,.of g2⟩) (λi x y σ H4 pt H5 hx hy hP hpt s5 e5=>?_) (λσ H4 hP=>?_)
 ·obtain⟨o1,o2,kvs,rfl,s4,e4,hH,hN,hkl,g3,g4⟩:=hP
  obtain⟨z,rfl⟩:∃ z,x=V.str z:=by rw [Yg] at hx; cases h:ss[i]? with | none=>rw [h] at hx; cases hx | some z=>rw [h] at hx; cases hx; exact⟨z,rfl⟩
  obtain⟨v,rfl⟩:∃ v,y=V.int v:=by rw [Yg] at hy; cases h:nums[i]? with | none=>rw [h] at hy; cases hy | some z=>rw [h] at hy; cases hy; exact⟨z,rfl⟩
  have hi:i < ss.length:=by have:=(List.getElem?_eq_some_iff.mp hx).1; simpa using this
  walk_at "rd"
  have w0:=Y0 v (b:=(n:Int) + 1) (by omega)
  have w1:=Y9 v (b:=(n:Int) + 1) (by omega)
  obtain⟨k,ek⟩:∃ k:Nat,v % ((n:Int) + 1)=(k:Int):=⟨(v % ((n:Int) + 1)).toNat,by omega⟩
  refine⟨_,e5,rfl,_,_,rfl,_,_,rfl,rfl,v,rfl,by omega,kvs,s5 _ _ e4,.inr z,rfl,by omega,_,_,Jh kvs (.inr z) (.int (v % ((n:Int) + 1))),rfl,Zt hfr (s4.trans s5),Zf,?_,Zlu hN _ _,Yj (Zcx _ _ _) (by omega),by rw [Zg (Ne.symm hpp)]; exact s5 _ _ g3,by rw [Zg hpqp]; exact s5 _ _ g4⟩
  rw [ek]
  exact hH.put (by omega)
 ·obtain⟨o1,o2,kvs,rfl,s4,e4,hH,hN,hkl,g3,g4⟩:=hP
  refine⟨p,kvs,rfl,e4,λob=>?_⟩
  walk_at "rd"
  exact q p _ kvs ob hfr (Zt hfr s4) Zf hH hN (by rw [Ye] at hkl; omega)
def Zcb(kvs:List (ZU × V))(ss:List Str)(hs:List Nat)(n:Nat):Prop:=ss.length=hs.length/\∀ (i:Nat) z h,ss[i]?=some z->hs[i]?=some h->JI kvs (Sum.inr z)=some (.int (h:Int))/\h<=n
def Jf(rs:List (Nat × Rat))(hs:List Nat)(k:Nat):Prop:=∃ h∈hs,∃ w,WayR rs h w/\k∈w
def ZbN{H H':Hp}{u:HO}(h:Rd H a u)(s:Zk H H'):Rd H' a u:=h.elim (λe=>.inl (s _ _ e)) λ⟨o,e⟩=>.inr ⟨o,s _ _ e⟩
theorem Zgz{hs:List Nat}{i h:Nat}{w:List Nat}(hh:hs[i]?=some h)(hw:WayR rs h w)(k:Nat):Jf rs (hs.take (i + 1)) k ↔ Jf rs (hs.take i) k\/k∈w:=by
 unfold Jf
 rw [Yp,hh]
 constructor
 ·rintro⟨h',hm,w',hw',hk⟩
  rcases Yw.mp hm with hm | hm
  ·exact .inl ⟨h',hm,w',hw',hk⟩
  ·have e:h'=h:=by simpa using hm
   subst e
   rw [hw.uniq hw'] at hk
   exact .inr hk
 ·rintro (⟨h',hm,w',hw',hk⟩ | hk)
  ·exact⟨h',Vx _ hm,w',hw',hk⟩
  ·exact⟨h,List.mem_append_right _ (by simp),w,hw,hk⟩
def Zd8(C:Addr):Sp:=λvs H Q _=>∃ (x:V) (rs:List (Nat × Rat)) (d g:Addr) (kvs:List (ZU × V)) (ss:List Str) (hs:List Nat),vs=[x,.ref d,.ref g]/\JK C H x rs/\Rd H d (.dK kvs)/\H g=some (.lst (ss.map V.str))/\Zcb kvs ss hs rs.length/\rs.length<=40/\ss.length < 50/\Zcp rs /\
 ∀ p H' (ks:List Nat),H p=none->Zk H H'->H' p=some (.lst (ZN ks))->ks.Pairwise (· < ·)->(∀ k,k∈ks ↔ Jf rs hs k)->Q (.ref p) H'
def Pnd(H0:Hp)(x:V)(d g l:Addr)(rs:List (Nat × Rat))(hs:List Nat)(i:Nat)(σ:St)(H:Hp):Prop:=∃ (o:Option V) (acc:List Nat),σ=[some x,some (.ref d),some (.ref g),some (.ref l),o]/\Zk H0 H/\H l=some (.lst (ZN acc))/\acc.length<=40 * i/\∀ k,k∈acc ↔ Jf rs (hs.take i) k
def Zki(F:Fun K "needed" "needed" ZfN f fd)(ZS:mg "sorted"=none)(ZiP:mg "set"=none)(Zi2:Mth P w K mg base ZD 3 CT "way" ["self","k"] (λvs H Q _=>Zhc CT CNP vs H Q E0)):FnOk P w K mg base ZD 4 f fd ["tree","homes","group"] (Zd8 CT):=by
 refine JU F Zd3 λcdv A outer s H vs Q E hr h=>?_
 obtain⟨x,rs,d,g,kvs,ss,hs,rfl,hT,hd,hg,hH,hrl,hsl,hO,q⟩:=h
 refine⟨_,(Zd (Zs 3 Zd3.nd (ZcD Za))
   (Zd (Je Yq (Z6 (Ze 2)) (Zr 4 Zd3.nd) (Zh (Js (Zso (Ze 3) (Zi (Zcs Zi2 hr (by decide) (Ze 0) (Zi (Jl (Z9 hr) (Ze 1) (Ze 4)) Za)) Za)))))
   (Zh (Zy (Zlc rfl ZS rfl ZiP (Zi (Ze 3) Za)))))),?_⟩
 rw [show Zz ["tree","homes","group","roads","name"] [x,.ref d,.ref g]=[some (x),some (.ref d),some (.ref g),none,none] from rfl]
 walk_at "rd"
 simp only [Zaq]
 walk_at "rd"
 intro l H1 hl s1 e1
 refine Zaz (Pnd H x d g l rs hs) ⟨_,[],rfl,s1,e1,Nat.zero_le _,λk=>⟨(λz=>by cases z),(λ⟨h,hm,_⟩=>by simp at hm)⟩⟩ (λi σ H' _ ⟨_,_,_,sm,_⟩=>.of (sm _ _ hg)) (λi y σ H' hi hP=>?_) (λσ H' hP=>?_)
 ·obtain⟨o,acc,rfl,sm,e2,hal,hm⟩:=hP
  rw [Yg] at hi
  obtain⟨z,hz,rfl⟩:∃ z,ss[i]?=some z/\y=V.str z:=by cases h:ss[i]? with | none=>rw [h] at hi; cases hi | some z=>rw [h] at hi; cases hi; exact⟨z,rfl,rfl⟩
  have hi':i < ss.length:=(Yi.mp hz).1
  have hih:i < hs.length:=by rw [<- hH.1]; exact hi'
  have hh:=Yc hih
  obtain⟨hv,hle⟩:=hH.2 i z _ hz hh
  obtain⟨w0,hw0,hwl0⟩:=Zbs hO hle
  walk_at "rd"
  obtain⟨xa,dx,la,wa,ls,ws,rfl,h1,_⟩:=id (hT.same sm)
  refine⟨⟨_,e2⟩,xa,rfl,dx,_,h1,rfl,kvs,ZbN hd sm,.inr z,rfl,_,hv,.ref xa,rs,_,rfl,hT.same sm,λp H2 k' w1 ek hp s2 e3 hw1 hwl1=>?_,λzz=>absurd ⟨by omega,by omega⟩ zz⟩
  have ek':hs[i]=k':=by omega
  subst ek'
  have ew:=hw0.uniq hw1
  subst ew
  refine⟨p,rfl,_,s2 _ _ e2,_,e3,?_,_,acc ++ w1,rfl,Zt hl (sm.trans s2),by rw [Zf]; simp [ZN],by simp; omega,λk=>?_⟩
  ·exact Nat.le_trans (show _<=10000 by simp [ZN]; omega) (by decide)
  ·rw [Zgz hh hw0 k,Yw,hm k]
 ·obtain⟨o,acc,rfl,sm,e2,hal,hm⟩:=hP
  walk_at "rd"
  have hss:ss.length=hs.length:=hH.1
  rw [Ye,hss,Yv] at hm
  have hbd:∀ k∈acc,1<=k/\k<=rs.length:=λk hk=>by
   obtain⟨h,_,w0,hw,hk2⟩:=(hm k).mp hk
   exact hw.mem k hk2
  refine⟨acc.map Int.ofNat,by rw [e2]; simp [ZN],by simp at hal ⊢; omega,λk hk=>?_,λp H2 ks hp s2 e3 hpw hmem=>?_⟩
  ·obtain⟨k',hk',rfl⟩:=Yk.mp hk
   have:=hbd k' hk'
   show 0<=(k':Int)/\(k':Int) < 60
   omega
  ·have hnat:∀ k∈ks,0<=k:=λk hk=>by
    obtain⟨k',_,rfl⟩:=Yk.mp ((hmem k).mp hk)
    exact Int.natCast_nonneg k'
   have eks:(ks.map Int.toNat).map Int.ofNat=ks:=by
    rw [Ys]
    conv=>rhs; rw [<- List.map_id ks]
    exact YQ λk hk=>V6 (hnat k hk)
   refine q p H2 (ks.map Int.toNat) (sm.free hp) (sm.trans s2) ?_ ?_ λk=>?_
   ·rw [e3]
    conv=>lhs; rw [<- eks]
    simp [ZN]
   ·rw [VB]
    exact hpw.imp_of_mem λha hb h=>by have:=hnat _ ha; have:=hnat _ hb; omega
   ·rw [<- hm k]
    constructor
    ·intro h
     obtain⟨k',hk',rfl⟩:=Yk.mp h
     obtain⟨k2,hk2,e⟩:=Yk.mp ((hmem k').mp hk')
     have:k'.toNat=k2:=by rw [<- e]; rfl
     rw [this]
     exact hk2
    ·intro h
     exact Yk.mpr ⟨(k:Int),(hmem _).mpr (Yk.mpr ⟨k,h,rfl⟩),rfl⟩
def Zl(rs:List (Nat × Rat))(k:Nat):Rat:=((rs[k - 1]?).map (·.2)).getD 0
def Zqu(rs:List (Nat × Rat))(ks:List Nat):Rat:=JY (ks.map (Zl rs)) ks.length
theorem ZdI.keep{H H':Hp}(h:ZdI H xs qs)(s:∀ b ys,H b=some (.tup ys)->H' b=some (.tup ys)):ZdI H' xs qs:=⟨h.1,λi x q h1 h2=>(h.2 i x q h1 h2).keep s⟩
theorem ZdI.snoc(h:ZdI H xs qs)(hx:ZR H x q):ZdI H (xs ++ [x]) (qs ++ [q]):=⟨by simp [h.1],λi y r h1 h2=>by
 by_cases c:i < xs.length
 ·rw [YS c] at h1
  rw [YS (by rw [<- h.1]; exact c)] at h2
  exact h.2 i y r h1 h2
 ·have hi:i=xs.length:=by have:=(List.getElem?_eq_some_iff.mp h1).1; simp at this; omega
  subst hi
  rw [YN (Yd _)] at h1
  rw [h.1,YN (Yd _)] at h2
  simp at h1 h2
  subst h1
  subst h2
  exact hx⟩
theorem ZlL(hn:qs.length=n)(h:∀ (i:Nat) q,qs[i]?=some q->Jo 110 q):∀ i,i<=n->Jo (111 * i + 1) (JY qs i):=by
 intro i
 induction i with
 | zero=>intro _; exact Zdh (by decide)
 | succ i ih =>
  intro hi
  have e:=Yc (show i < qs.length by omega)
  rw [ZcK e]
  exact (ih (by omega)).add (h i _ e) (by omega)
def ZoI{ks:List Nat}(h:ks.Pairwise (· < ·))(hb:∀ k∈ks,1<=k/\k<=n):ks.length<=n:=by
 have hs:ks ⊆ List.range' 1 n:=λk hk=>by
  obtain⟨h1,h2⟩:=hb k hk
  exact V7.mpr ⟨h1,by omega⟩
 have hn:ks.Nodup:=h.imp λh e=>by rw [e] at h; exact Y1 _ h
 have:=VJ hn hs
 simpa using this
def Zf7(C:Addr):Sp:=λvs H Q _=>∃ (x:V) (rs:List (Nat × Rat)) (d g:Addr) (kvs:List (ZU × V)) (ss:List Str) (hs:List Nat),vs=[x,.ref d,.ref g]/\JK C H x rs/\Rd H d (.dK kvs)/\H g=some (.lst (ss.map V.str))/\Zcb kvs ss hs rs.length/\rs.length<=20/\ss.length < 50/\Zcp rs/\(∀ r∈rs,Jo 110 r.2) /\
 ∀ r H' (ks:List Nat),Zk H H'->ks.Pairwise (· < ·)->(∀ k,k∈ks ↔ Jf rs hs k)->ZR H' r (Zqu rs ks)->Jo 2300 (Zqu rs ks)->Q r H'
def Zo6(F:Fun K "cost" "cost" ZlG f fd)(ZaF:Fn P w K mg base ZD 4 "total_of" ["some"] (ZdP K))(Zcm:Fn P w K mg base ZD 4 "needed" ["tree","homes","group"] (Zd8 CT))
  (Zcz:Mth P w K mg base ZD 4 CT "price" ["self","k"] (λvs H Q _=>Zd1 CT CNP vs H Q E0)):FnOk P w K mg base ZD 5 f fd ["tree","homes","group"] (Zf7 CT):=by
 refine JU F ZpF λcdv A outer s H vs Q E hr h=>?_
 obtain⟨x,rs,d,g,kvs,ss,hs,rfl,hT,hd,hg,hH,hrl,hsl,hO,hz,q⟩:=h
 refine⟨_,(Zh (Zy (Jb ZaF hr (Zi (Zdx (ZiM ["k"] [0] ["tree"]) (Z6 (Jb Zcm hr (Zi (Ze 0) (Zi (Ze 1) (Zi (Ze 2) Za))))) (by exact λs H fp=>(Zr 0 (show List.Nodup (["k","tree"]:List Str) from by decide +kernel))) (by exact λs H fp=>(Zcs Zcz hr (by decide) (Ze 1) (Zi (Ze 0) Za)))) Za)))),?_⟩
 rw [show Zz ["tree","homes","group"] [x,.ref d,.ref g]=[some (x),some (.ref d),some (.ref g)] from rfl]
 walk_at "rd"
 simp only [JQ,Zc6,cxK]
 walk_at "rd"
 refine⟨x,rs,d,g,kvs,ss,hs,rfl,hT,hd,hg,hH,by omega,hsl,hO,λp H1 ks hp s1 e1 hpw hmem=>⟨p,rfl,⟨_,.of e1⟩,?_⟩⟩
 rw [show Jq [some x,some (V.ref d),some (V.ref g)] [0]=[some x] from rfl]
 have hbd:∀ k∈ks,1<=k/\k<=rs.length:=λk hk=>by
  obtain⟨h,_,w0,hw,hk2⟩:=(hmem k).mp hk
  exact hw.mem k hk2
 have hkl:=ZoI hpw hbd
 unfold Zl4
 refine ZcF (xs:=ZN ks) (λacc i ys H'=>Zk H1 H'/\H' acc=some (.lst ys)/\ZdI H' ys ((ks.take i).map (Zl rs))/\i<=ks.length)
  (λacc H2 hn sm e=>⟨sm,e,by simpa using ZmL,Nat.zero_le _⟩) (λacc i ys H2 hn ⟨sm,e,hR,hi⟩=>⟨e,by rw [hR.1]; simp; omega,.of (sm _ _ e1)⟩) (λacc i y ys H2 os hn hi hP ol=>?_) (λacc ys H2 hn hP=>?_)
 ·obtain⟨sm,e,hR,_⟩:=hP
  obtain⟨o,rfl⟩:∃ o,os=[o]:=by match os,ol with | [o],_=>exact⟨o,rfl⟩
  have hil:i < ks.length:=by have:=(List.getElem?_eq_some_iff.mp hi).1; simpa [ZN] using this
  have hk:=Yc hil
  have hy:y=V.int (ks[i]:Int):=by
   unfold ZN at hi
   rw [Yg,hk] at hi
   cases hi
   rfl
  subst hy
  obtain⟨k1,k2⟩:=hbd _ (YG hil)
  have hT2:=hT.same (s1.trans sm)
  obtain⟨xa,dx,la,wa,ls,ws,rfl,h1,_⟩:=id hT2
  walk_at "rd"
  refine⟨[some (.int (ks[i]:Int))],rfl,rfl,?_⟩
  simp only [Zoi]
  walk_at "rd"
  refine⟨dx,_,h1,rfl,.ref xa,rs,_,rfl,hT2,λk' r y ek hr2 hy=>⟨e,Zt hn sm,Zf,?_,hil⟩,λzz=>absurd ⟨by omega,by omega⟩ zz⟩
  have ek':ks[i] - 1=k':=by omega
  have kp:∀ b zs,H2 b=some (.tup zs)->upd H2 acc (.lst (ys ++ [y])) b=some (.tup zs):=λb zs e'=>by rw [Zg (Jk e' e (by intro z; cases z))]; exact e'
  have hpr:Zl rs ks[i]=r.2:=by unfold Zl; rw [ek',hr2]; rfl
  rw [Yp,hk,YZ]
  refine (hR.keep kp).snoc ?_
  show ZR _ y (Zl rs ks[i])
  rw [hpr]
  exact hy.keep kp
 ·obtain⟨sm,e,hR,_⟩:=hP
  have hnl:(ZN ks).length=ks.length:=by simp [ZN]
  rw [hnl,Yv] at hR
  have hq:∀ (i:Nat) q,(ks.map (Zl rs))[i]?=some q->Jo 110 q:=λi q hq=>by
   rw [Yg] at hq
   cases hk:ks[i]? with
   | none=>rw [hk] at hq; cases hq
   | some k =>
    rw [hk] at hq
    cases hq
    obtain⟨k1,k2⟩:=hbd k (Yl hk)
    have hlt:k - 1 < rs.length:=by omega
    show Jo 110 (Zl rs k)
    unfold Zl
    rw [Yc hlt]
    exact hz _ (YG hlt)
  have hps:∀ i,i<=ks.length->Jo (111 * i + 1) (JY (ks.map (Zl rs)) i):=ZlL (by simp) hq
  refine⟨acc,ys,ks.map (Zl rs),rfl,.of e,hR,ZoS hq (by rw [Ye]; omega),by rw [Ye]; omega,λr H' s3 v=>?_⟩
  rw [Ye] at v
  exact q r H' ks (s1.trans (sm.trans s3)) hpw hmem v ((hps _ (Yd _)).mono (by omega))
def Zi3(F:Fun K "cost_of_all" "cost_of_all" ZbZ f fd)(ZG:mg "list"=none)(Zlt:Fn P w K mg base ZD 5 "cost" ["tree","homes","group"] (Zf7 CT)):FnOk P w K mg base ZD 6 f fd ["tree","homes"] (λvs H Q E=>∃ (x:V) (d:Addr) (kvs:List (ZU × V)),vs=[x,.ref d]/\Rd H d (.dK kvs)/\∀ g H',H g=none->Zk H H'->H' g=some (.lst (kvs.map λkv=>kV kv.1))->Zf7 CT [x,.ref d,.ref g] H' Q E):=by
 refine JU F Ze5 λcdv A outer s H vs Q E hr h=>?_
 obtain⟨x,d,kvs,rfl,hd,q⟩:=h
 refine⟨_,(Zh (Zy (Jb Zlt hr (Zi (Ze 0) (Zi (Ze 1) (Zi (ZfJ rfl ZG (Zi (Ze 1) Za)) Za)))))),?_⟩
 rw [show Zz ["tree","homes"] [x,.ref d]=[some (x),some (.ref d)] from rfl]
 walk_at "rd"
 exact⟨d,kvs,rfl,hd,λg H' hg s e=>q g H' hg s e⟩
def Z5{hs:List Nat}(h:Jf rs hs k):1<=k/\k<=rs.length:=by
 obtain⟨_,_,_,hw,hk⟩:=h
 exact hw.mem k hk
variable {z:Str}{ss:List Str}
def ZpE:inV (V.str z) (ss.map V.str)=decide (z∈ss):=by
 unfold inV
 rw [List.any_map]
 induction ss with
 | nil=>simp
 | cons y ss ih =>
  rw [VX,ih]
  show ((y == z) || _)=_
  by_cases c:y=z
  ·subst c; simp
  ·have:(y == z)=false:=by simpa using c
   rw [this,Bool.false_or]
   simp [Ne.symm c]
def ZlH(ss:List Str):(ss.map V.str).all Zdd=true:=by
 rw [List.all_eq_true]
 intro x hx
 obtain⟨z,_,rfl⟩:=Yk.mp hx
 rfl
def ZnK(hk:∀ z∈ss,∃ k:Nat,JI kvs (Sum.inr z)=some (.int (k:Int))/\k<=n):∃ hf:Str->Nat,∀ gs:List Str,(∀ z∈gs,z∈ss)->Zcb kvs gs (gs.map hf) n:=by
 classical
 refine⟨λz=>if h:z∈ss then (hk z h).choose else 0,λgs hg=>⟨by simp,λi z h h1 h2=>?_⟩⟩
 have hz:=hg z (Yl h1)
 rw [Yg,h1] at h2
 simp only [Option.map_some,Option.some.injEq] at h2
 rw [dif_pos hz] at h2
 subst h2
 exact (hk z hz).choose_spec
variable {hf:Str->Nat}
def ZmK{gs:List Str}:Jf rs (gs.map hf) k ↔ ∃ z∈gs,∃ w,WayR rs (hf z) w/\k∈w:=by
 unfold Jf
 constructor
 ·rintro⟨h,hm,w⟩
  obtain⟨z,hz,rfl⟩:=Yk.mp hm
  exact⟨z,hz,w⟩
 ·rintro⟨z,hz,w⟩
  exact⟨_,Yk.mpr ⟨z,hz,rfl⟩,w⟩
def ZK(qs:List Rat):Rat:=qs.foldl (· + ·) 0
def Zlq(qs:List Rat):∀ a:Rat,qs.foldl (· + ·) a=a + qs.foldl (· + ·) 0:=by
 induction qs with
 | nil=>intro a; exact (Yae a).symm
 | cons q qs ih =>
  intro a
  show qs.foldl (· + ·) (a + q)=a + qs.foldl (· + ·) (0 + q)
  rw [ih (a + q),ih (0 + q),Rat.zero_add,Vl]
def Zaj(q:Rat)(qs:List Rat):ZK (q :: qs)=q + ZK qs:=by
 show qs.foldl (· + ·) (0 + q)=_
 rw [Rat.zero_add,Zlq]
 rfl
def ZeT{qs ps:List Rat}(h:qs.Perm ps):ZK qs=ZK ps:=by
 induction h with
 | nil=>rfl
 | cons x _ ih=>rw [Zaj,Zaj,ih]
 | swap x y l=>rw [Zaj,Zaj,Zaj,Zaj,<- Vl,<- Vl,Rat.add_comm x y]
 | trans _ _ ih1 ih2=>exact ih1.trans ih2
def ZeW{ks:List Nat}:Zqu rs ks=ZK (ks.map (Zl rs)):=by
 unfold Zqu JY ZK
 rw [List.take_of_length_le (by simp)]
def Jr(acc:List Nat):List (ZU × V):=acc.map λk:Nat=>(Sum.inl (k:Int),V.bl true)
def ZmR{acc:List Nat}:(JI (Jr acc) (Sum.inl (k:Int))).isSome=decide (k∈acc):=by
 induction acc with
 | nil=>rfl
 | cons a acc ih =>
  by_cases c:a=k
  ·subst c
   unfold Jr
   rw [Yr,ZcW rfl]
   simp
  ·unfold Jr at ih ⊢
   rw [Yr,ZcS (by intro e; injection e with e; exact c (by omega)),ih]
   simp [Ne.symm c]
def ZjB{acc:List Nat}(h:k ∉ acc):Jh (Jr acc) (Sum.inl (k:Int)) (V.bl true)=Jr (acc ++ [k]):=by
 rw [Znm _ (by
  have:=ZmR (acc:=acc) (k:=k)
  rw [YY h] at this
  simpa using this)]
 unfold Jr
 rw [YZ]
 rfl
def ZbK{acc:List Nat}(h:acc.Nodup)(hb:∀ k∈acc,1<=k/\k<=n):acc.length<=n:=by
 have hs:acc ⊆ List.range' 1 n:=λk hk=>by
  obtain⟨h1,h2⟩:=hb k hk
  exact V7.mpr ⟨h1,by omega⟩
 have:=VJ h hs
 simpa using this
def Zfk(hz:∀ r∈rs,Jo 110 r.2)(k:Nat):Jo 110 (Zl rs k):=by
 unfold Zl
 cases h:rs[k - 1]? with
 | none=>exact Zdh (by decide)
 | some r=>exact hz r (Yl h)
def Zb2(hz:∀ r∈rs,Jo 110 r.2):∀ acc:List Nat,Jo (111 * acc.length + 1) (ZK (acc.map (Zl rs)))
 | []=>Zdh (by decide)
 | k :: acc=>by
  rw [Yr,Zaj,YR]
  exact (Zfk hz k).add (Zb2 hz acc) (by omega)
def Zek:Sp:=λvs H Q _=>∃ (x y:V) (p q:Rat),vs=[x,y]/\ZR H x p/\ZR H y q/\Jo 3000 p/\Jo 3000 q/\∀ r H',Zk H H'->ZR H' r (p + q)->Q r H'
def Zqg(F:Fun K "_law_add" "_law_add" Zea f fd)(ZI:Fn P w K mg base ZD 1 "_law_low" ["_law_top","_law_bottom"] ZbF):FnOk P w K mg base ZD 2 f fd ["_law_one","_law_other"] Zek:=by
 refine JU F Zjh λcdv A outer s H vs Q E hr h=>?_
 obtain⟨x,y,p,t,rfl,⟨a,rfl,ha⟩,⟨b,rfl,hb⟩,z1,z2,q⟩:=h
 refine⟨_,(Zh (Zy (Jb ZI hr (Zi (Jy (Ji (ZA (Ze 0) Zb) (ZA (Ze 1) Zb)) (Ji (ZA (Ze 1) Zb) (ZA (Ze 0) Zb))) (Zi (Ji (ZA (Ze 0) Zb) (ZA (Ze 1) Zb)) Za))))),?_⟩
 rw [show Zz ["_law_one","_law_other"] [.ref a,.ref b]=[some (.ref a),some (.ref b)] from rfl]
 walk_at "rd"
 simp only [ha,hb,ZbF]
 walk_at "rd"
 have hp:=p.den_pos
 have ht:=t.den_pos
 refine⟨JG z1.1 (ZQ z2) (by decide),JG z2.1 (ZQ z1) (by decide),JG (ZQ z1) (ZQ z2) (by decide),Big.of (Zay (ZQ z1) (ZQ z2)) (by decide),Int.mul_pos (by omega) (by omega),λr H' hs v=>q r H' hs ?_⟩
 rw [Zfc]
 exact v
def Zgq{o:Obj}{cp:St}{tt:TT}{H1:Hp}{Q:VK}(r:Str->Bool)(ha:H1 a=some (.frz o (.dK kvs)))(he:(kvs.map λkv=>kV kv.1)=ss.map V.str)(hl:ss.length < 1000)(ht:∀ z∈ss,∀ H' (k:Bool->Hp->Prop),Zk H1 H'->k (r z) H'->tt (some (V.str z) :: cp) H' k)
  (q:∀ p H',H1 p=none->Zk H1 H'->H' p=some (.lst ((ss.filter r).map V.str))->Q (.ref p) H'):Zf6 1 cp (Itd a o kvs) (JR 0) tt (ZnQ 0) H1 Q:=by
 have hlen:kvs.length=ss.length:=by have:=congrArg List.length he; simpa using this
 refine Zgb (λacc i ys H'=>Zk H1 H'/\H' acc=some (.lst ys)/\ys=((ss.take i).filter r).map V.str/\i<=ss.length)
  (λacc H2 hn sm e=>⟨sm,e,by simp,Nat.zero_le _⟩) (λacc i ys H2 ⟨sm,e,e2,hi⟩=>⟨e,?_,sm _ _ ha⟩) (λacc i kv ys H2 os hn hi hP ol=>?_) (λacc ys H2 hn hP=>?_)
 ·rw [e2,Ye]
  exact YA (YU _ _) (by rw [YE]; omega)
 ·obtain⟨sm,e,e2,_⟩:=hP
  obtain⟨o',rfl⟩:∃ o',os=[o']:=by match os,ol with | [o'],_=>exact⟨o',rfl⟩
  obtain⟨z,hz,ek⟩:∃ z,ss[i]?=some z/\kV kv.1=V.str z:=by
   have h1:=congrArg (·[i]?) he
   simp only [List.getElem?_map,hi,Option.map_some] at h1
   cases h:ss[i]? with
   | none=>rw [h] at h1; cases h1
   | some z=>rw [h] at h1; exact⟨z,rfl,by simpa using h1⟩
  rw [ek]
  have hil:=(Yi.mp hz).1
  refine⟨[some (V.str z)],rfl,rfl,ht z (Yl hz) H2 _ sm ?_⟩
  have tk:(ss.take (i + 1)).filter r=(ss.take i).filter r ++ (if r z=true then [z] else []):=by
   rw [Yp,hz,VN]
   congr 1
   show [z].filter r=_
   by_cases c:r z=true
   ·rw [Yam c,if_pos c]; rfl
   ·rw [V2 c,if_neg c]; rfl
  refine JZ (λc=>⟨V.str z,rfl,e,Zt hn sm,Zf,?_,hil⟩) (λc=>⟨sm,e,?_,hil⟩)
  ·rw [tk,if_pos c,e2,YZ]; rfl
  ·rw [tk,if_neg c,Y5,e2]
 ·obtain⟨sm,e,e2,_⟩:=hP
  rw [hlen,Yv] at e2
  subst e2
  exact q acc H2 hn sm e
def Vil(kvs:List (ZU × V))(ss:List Str)(hf:Str->Nat)(n:Nat):Prop:=(kvs.map λkv=>kV kv.1)=ss.map V.str/\ss.length < 50/\∀ z∈ss,JI kvs (Sum.inr z)=some (.int (hf z:Int))/\hf z<=n
theorem Vil.of(h1:(kvs.map λkv=>kV kv.1)=ss.map V.str)(hl:ss.length < 50)(h2:∀ gs:List Str,(∀ z∈gs,z∈ss)->Zcb kvs gs (gs.map hf) n):Vil kvs ss hf n :=
 ⟨h1,hl,λz hz=>(h2 [z] (λy hy=>by rw [YF.mp hy]; exact hz)).2 0 z (hf z) rfl rfl⟩
def ZpT{k h:Nat}(hh:h<=rs.length):(h∈ben rs k)=(k∈wayL rs h):=by
 unfold ben
 rw [YB,Vk]
 simp
 intro _
 omega
section
variable {P:Program}{w:World}{K:PySem.W.Frag}{mg:Str->Option Value}{base:Heap}{f:Addr}{fd:FuncData}{CT CNP CNT CSE:Addr}
def Zib(C CNP:Addr):Sp:=λvs H Q E=>∃ x rs d k,vs=[x,.ref d,.int k]/\JK C H x rs/\rs.length<=100 /\
 (∀ k':Nat,k=(k':Int)->inR rs k->∃ o kvs ss hf,H d=some (.frz o (.dK kvs))/\Vil kvs ss hf rs.length/\∀ p H' (ts:List Str),H p=none->Zk H H'->H' p=some (.lst (ts.map V.str))->ts.Pairwise leS->ts.Perm (ss.filter λz=>decide (k'∈wayL rs (hf z)))->Q (.ref p) H')/\(¬ inR rs k->E (.ref CNP) none H)
def Zmz(F:Fun K "users" "users" Zhj f fd)(ZS:mg "sorted"=none)(Zex:Mth P w K mg base ZD 4 CT "beneath" ["self","k"] (λvs H Q _=>ZjS CT CNP vs H Q E0)):FnOk P w K mg base ZD 5 f fd ["tree","homes","k"] (λvs H Q _=>Zib CT CNP vs H Q E0):=by
 refine JU F Zit λcdv A outer s H vs Q E hr h=>?_
 obtain⟨x,rs,d,k,rfl,hT,hrl,q1,q2⟩:=h
 refine⟨_,(Zd (Zs 3 Zit.nd (Zcs Zex hr (by decide) (Ze 0) (Zi (Ze 2) Za)))
   (Zh (Zy (ZeH rfl ZS (Zi (Zhz (ZiM ["name"] [1,3] ["homes","places"]) (ZdB (Ze 1)) (by exact λs H fp=>(Zr 0 (show List.Nodup (["name","homes","places"]:List Str) from by decide +kernel))) (by exact λs H fp=>ZhY (ZkF K (Jl (Z9 hr) (Ze 1) (Ze 0)) (Ze 2))) (by exact λs H fp=>(Ze 0))) Za))))),?_⟩
 rw [show Zz ["tree","homes","k","places"] [x,.ref d,.int k]=[some (x),some (.ref d),some (.int k),none] from rfl]
 walk_at "rd"
 obtain⟨a,dx,la,wa,ls,ws,rfl,h1,_⟩:=id hT
 refine⟨a,rfl,dx,_,h1,rfl,.ref a,rs,k,rfl,hT,hrl,λp H1 k' ek hin hp s1 e1=>?_,q2⟩
 obtain⟨o,kvs,ss,hf,hd,hV,q⟩:=q1 k' ek hin
 simp only [Zdv,ZhA]
 walk_at "rd"
 refine⟨o,kvs,s1 _ _ hd,?_⟩
 subst ek
 rw [show Jq [some (V.ref a),some (V.ref d),some (V.int (k':Int)),some (V.ref p)] [1,3]=[some (V.ref d),some (V.ref p)] from rfl]
 refine Zgq (λz=>decide (k'∈wayL rs (hf z))) (s1 _ _ hd) hV.1 (by have:=hV.2.1; omega) (λz hz H' k sm hk=>?_) (λp2 H2 hp2 s2 e2=>?_)
 ·obtain⟨hv,hle⟩:=hV.2.2 z hz
  walk_at "rd"
  simp only [rIn]
  walk_at "rd"
  refine⟨kvs,.inr ⟨o,(s1.trans sm) _ _ hd⟩,.inr z,rfl,_,hv,ZN (ben rs k'),.inl (.of (sm _ _ e1)),rfl,ZdT,?_⟩
  rw [Zga,decide_eq_decide.mpr (by rw [ZpT hle])]
  exact hk
 ·refine⟨p2,rfl,_,e2,YA (YU _ _) (by have:=hV.2.1; omega),λl H3 ts hl s3 e3 hpw hpm=>?_⟩
  exact q l H3 ts ((s1.trans s2).free hl) (s1.trans (s2.trans s3)) e3 hpw hpm
end
def JF(R:Hp->V->α->Prop)(H:Hp)(xs:List V)(as:List α):Prop:=xs.length=as.length/\∀ (i:Nat) x a,xs[i]?=some x->as[i]?=some a->R H x a
def ZgX(R:Hp->V->α->Prop):Prop:=∀ H H' v a,R H v a->(∀ b ys,H b=some (.tup ys)->H' b=some (.tup ys))->R H' v a
theorem JF.keep{R:Hp->V->α->Prop}(kR:ZgX R){H H':Hp}{xs:List V}{as:List α}(h:JF R H xs as)(s:∀ b ys,H b=some (.tup ys)->H' b=some (.tup ys)):JF R H' xs as:=⟨h.1,λi x a h1 h2=>kR _ _ _ _ (h.2 i x a h1 h2) s⟩
theorem JF.snoc{R:Hp->V->α->Prop}{as:List α}{a:α}(h:JF R H xs as)(hx:R H x a):JF R H (xs ++ [x]) (as ++ [a]):=⟨by simp [h.1],λi y r h1 h2=>by
 by_cases c:i < xs.length
 ·rw [YS c] at h1
  rw [YS (by rw [<- h.1]; exact c)] at h2
  exact h.2 i y r h1 h2
 ·have hi:i=xs.length:=by have:=(List.getElem?_eq_some_iff.mp h1).1; simp at this; omega
  subst hi
  rw [YN (Yd _)] at h1
  rw [h.1,YN (Yd _)] at h2
  simp at h1 h2
  subst h1
  subst h2
  exact hx⟩
theorem Zd0{nt:Nat}{cp:St}{g:TG}{te:TE}{H1:Hp}{Q:VK}(R:Hp->V->α->Prop)(kR:ZgX R){xs:List V}{as:List α}(ha:H1 a=some (.lst xs))(hlen:xs.length=as.length)(hl:xs.length < 1000)
  (ht:∀ (i:Nat) x b,xs[i]?=some x->as[i]?=some b->∀ H' (k:VK) os,Zk H1 H'->os.length=nt->(∀ v H2,Zk H' H2->R H2 v b->k v H2)->g x (os ++ cp) H' λτ H3=>∃ os',os'.length=nt/\τ=os' ++ cp/\te τ H3 k)
  (q:∀ p H' ys,H1 p=none->Zk H1 H'->H' p=some (.lst ys)->JF R H' ys as->Q (.ref p) H'):Zl4 nt cp (Itl K a) g te H1 Q:=by
 unfold Zl4
 refine ZcF (xs:=xs) (λacc i ys H'=>Zk H1 H'/\H' acc=some (.lst ys)/\JF R H' ys (as.take i)/\i<=as.length)
  (λacc H2 hn sm e=>⟨sm,e,⟨by simp,λi v r h1 h2=>by simp at h1⟩,Nat.zero_le _⟩) (λacc i ys H2 hn ⟨sm,e,e2,hi⟩=>⟨e,?_,.of (sm _ _ ha)⟩) (λacc i y ys H2 os hn hi hP ol=>?_) (λacc ys H2 hn hP=>?_)
 ·rw [e2.1,YE]; omega
 ·obtain⟨sm,e,e2,_⟩:=hP
  have hil:i < as.length:=by rw [<- hlen]; exact (Yi.mp hi).1
  have hb:=Yc hil
  refine ht i y _ hi hb H2 (λv H5=>H5 acc=some (.lst ys)/\(Zk H1 (upd H5 acc (.lst (ys ++ [v])))/\upd H5 acc (.lst (ys ++ [v])) acc=some (.lst (ys ++ [v]))/\JF R (upd H5 acc (.lst (ys ++ [v]))) (ys ++ [v]) (as.take (i + 1))/\i + 1<=as.length)) os sm ol λv H3 s3 hv=>⟨s3 _ _ e,Zt hn (sm.trans s3),Zf,?_,hil⟩
  have kp:∀ b ys',H3 b=some (.tup ys')->upd H3 acc (.lst (ys ++ [v])) b=some (.tup ys'):=λb ys' eb=>by rw [Zg (Jk eb (s3 _ _ e) (by intro z; cases z))]; exact eb
  rw [Yp,hb]
  exact ((e2.keep kR λb ys' eb=>s3 _ _ eb).keep kR kp).snoc (kR _ _ _ _ hv kp)
 ·obtain⟨sm,e,e2,_⟩:=hP
  rw [hlen,Yv] at e2
  exact q acc H2 ys hn sm e e2
def Zm3{o:Obj}{nt:Nat}{cp:St}{g:TG}{te:TE}{H1:Hp}{Q:VK}(R:Hp->V->α->Prop)(kR:ZgX R){as:List α}(ha:H1 a=some (.frz o (.dK kvs)))(hlen:kvs.length=as.length)(hl:kvs.length < 1000)
  (ht:∀ (i:Nat) kv b,kvs[i]?=some kv->as[i]?=some b->∀ H' (k:VK) os,Zk H1 H'->os.length=nt->(∀ v H2,Zk H' H2->R H2 v b->k v H2)->g (kV kv.1) (os ++ cp) H' λτ H3=>∃ os',os'.length=nt/\τ=os' ++ cp/\te τ H3 k)
  (q:∀ p H' ys,H1 p=none->Zk H1 H'->H' p=some (.lst ys)->JF R H' ys as->Q (.ref p) H'):Zl4 nt cp (Itd a o kvs) g te H1 Q:=by
 unfold Zl4
 refine Zgb (λacc i ys H'=>Zk H1 H'/\H' acc=some (.lst ys)/\JF R H' ys (as.take i)/\i<=as.length)
  (λacc H2 hn sm e=>⟨sm,e,⟨by simp,λi v r h1 h2=>by simp at h1⟩,Nat.zero_le _⟩) (λacc i ys H2 ⟨sm,e,e2,hi⟩=>⟨e,?_,sm _ _ ha⟩) (λacc i y ys H2 os hn hi hP ol=>?_) (λacc ys H2 hn hP=>?_)
 ·rw [e2.1,YE]; omega
 ·obtain⟨sm,e,e2,_⟩:=hP
  have hil:i < as.length:=by rw [<- hlen]; exact (Yi.mp hi).1
  have hb:=Yc hil
  refine ht i y _ hi hb H2 (λv H5=>H5 acc=some (.lst ys)/\(Zk H1 (upd H5 acc (.lst (ys ++ [v])))/\upd H5 acc (.lst (ys ++ [v])) acc=some (.lst (ys ++ [v]))/\JF R (upd H5 acc (.lst (ys ++ [v]))) (ys ++ [v]) (as.take (i + 1))/\i + 1<=as.length)) os sm ol λv H3 s3 hv=>⟨s3 _ _ e,Zt hn (sm.trans s3),Zf,?_,hil⟩
  have kp:∀ b ys',H3 b=some (.tup ys')->upd H3 acc (.lst (ys ++ [v])) b=some (.tup ys'):=λb ys' eb=>by rw [Zg (Jk eb (s3 _ _ e) (by intro z; cases z))]; exact eb
  rw [Yp,hb]
  exact ((e2.keep kR λb ys' eb=>s3 _ _ eb).keep kR kp).snoc (kR _ _ _ _ hv kp)
 ·obtain⟨sm,e,e2,_⟩:=hP
  rw [hlen,Yv] at e2
  exact q acc H2 ys hn sm e e2
def Zs4(_:Hp)(v:V)(n:Int):Prop:=v=.int n
theorem ZjF:ZgX Zs4:=λ_ _ _ _ h _=>h
def Znl{ys:List V}{ns:List Int}(h:JF Zs4 H ys ns):ys=ns.map V.int:=by
 refine Yav λi=>?_
 rw [Yg]
 by_cases c:i < ys.length
 ·have c2:i < ns.length:=by rw [<- h.1]; exact c
  rw [Yc c,Yc c2]
  exact congrArg some (h.2 i _ _ (Yc c) (Yc c2))
 ·rw [Y6 (by omega),Y6 (by rw [<- h.1]; omega)]
  rfl
def Zij(p q:Rat):p - q=Rat.divInt (p.num * (q.den:Int) - q.num * (p.den:Int)) ((p.den:Int) * (q.den:Int)):=by
 have hp:=p.den_pos
 have hq:=q.den_pos
 conv=>lhs; rw [<- Ve p,<- Ve q]
 rw [Rat.divInt_sub_divInt _ _ (by omega) (by omega)]
theorem Jo.sub{n m k:Nat}{p q:Rat}(hp:Jo n p)(hq:Jo m q)(h:n + m + 1<=k):Jo k (p - q):=by
 have hq':Jo m (-q):=⟨by rw [Rat.neg_num,Int.natAbs_neg]; exact hq.1,by rw [Rat.neg_den]; exact hq.2⟩
 rw [Rat.sub_eq_add_neg]
 exact hp.add hq' h
def Zb3:Sp:=λvs H Q _=>∃ (x y:V) (p q:Rat),vs=[x,y]/\ZR H x p/\ZR H y q/\Jo 3000 p/\Jo 3000 q/\∀ r H',Zk H H'->ZR H' r (p - q)->Q r H'
def ZkD(qs:List Rat):Prop:=(∀ i,i<=qs.length->Jo 3000 (JY qs i))/\∀ (i:Nat) q,qs[i]?=some q->Jo 3000 q
def Zc2:Sp:=λvs H Q _=>∃ (a:Addr) (xs:List V) (qs:List Rat),vs=[.ref a]/\H a=some (.lst xs)/\ZdI H xs qs/\ZkD qs/\∀ r H',Zk H H'->ZR H' r (JY qs qs.length)->Q r H'
def ZdV:Sp:=λvs H Q _=>∃ (p d g:Addr) (xs:List V) (rs:List (Nat × Rat)) (kvs:List (ZU × V)) (ss:List Str) (hs:List Nat),vs=[.ref p,.ref d,.ref g]/\H p=some (.lst xs)/\Jp H xs rs/\Rd H d (.dK kvs)/\H g=some (.lst (ss.map V.str))/\Zcb kvs ss hs rs.length/\rs.length<=20/\ss.length < 50/\Zcp rs/\(∀ r∈rs,Jo 110 r.2) /\
 ∀ r H' (acc:List Nat),Zk H H'->acc.Nodup->(∀ k,k∈acc ↔ Jf rs hs k)->ZR H' r (ZK (acc.map (Zl rs)))->Q r H'
def ZiW{acc:List Nat}(h:k∈acc):Jh (Jr acc) (Sum.inl (k:Int)) (V.bl true)=Jr acc:=by
 unfold Jh
 split
 ·rw [show (Jr acc).map (λkv=>if kv.1=Sum.inl (k:Int) then (kv.1,V.bl true) else kv)=(Jr acc).map id from YQ λkv hkv=>?_,List.map_id]
  unfold Jr at hkv
  obtain⟨j,_,rfl⟩:=Yk.mp hkv
  show (if _ then _ else _)=_
  split <;> rfl
 ·rename_i c
  exact absurd (List.any_eq_true.mpr ⟨(Sum.inl (k:Int),V.bl true),List.mem_map.mpr ⟨k,h,rfl⟩,by simp⟩) c
theorem Za3:ZgX ZR:=λ_ _ _ _ h s=>h.keep s
def Zne(F:Fun K "rest_of" "rest_of" ZeO f fd)(Zeh:Fn P w K mg base ZD 2 "ratio" ["top","bottom"] ZbJ):FnOk P w K mg base ZD 3 f fd ["one","other"] Zb3:=by
 refine JU F ZiQ λcdv A outer s H vs Q E hr h=>?_
 obtain⟨x,y,p,t,rfl,⟨a,rfl,ha⟩,⟨b,rfl,hb⟩,z1,z2,q⟩:=h
 refine⟨_,(Zh (Zy (Jb Zeh hr (Zi (JP (Ji (ZA (Ze 0) Zb) (ZA (Ze 1) Zb)) (Ji (ZA (Ze 1) Zb) (ZA (Ze 0) Zb))) (Zi (Ji (ZA (Ze 0) Zb) (ZA (Ze 1) Zb)) Za))))),?_⟩
 rw [show Zz ["one","other"] [.ref a,.ref b]=[some (.ref a),some (.ref b)] from rfl]
 walk_at "rd"
 simp only [ha,hb,ZbJ]
 walk_at "rd"
 refine⟨JG z1.1 (ZQ z2) (by decide),JG z2.1 (ZQ z1) (by decide),JG (ZQ z1) (ZQ z2) (by decide),Big.of (Zay (ZQ z1) (ZQ z2)) (by decide),Ze7 p t,λr H' hs v=>q r H' hs ?_⟩
 rw [Zij]
 exact v
def Zmp(F:Fun K "_law_less" "_law_less" Zdt f fd)(ZI:Fn P w K mg base ZD 1 "_law_low" ["_law_top","_law_bottom"] ZbF):FnOk P w K mg base ZD 2 f fd ["_law_one","_law_other"] Zb3:=by
 refine JU F Zg5 λcdv A outer s H vs Q E hr h=>?_
 obtain⟨x,y,p,t,rfl,⟨a,rfl,ha⟩,⟨b,rfl,hb⟩,z1,z2,q⟩:=h
 refine⟨_,(Zh (Zy (Jb ZI hr (Zi (JP (Ji (ZA (Ze 0) Zb) (ZA (Ze 1) Zb)) (Ji (ZA (Ze 1) Zb) (ZA (Ze 0) Zb))) (Zi (Ji (ZA (Ze 0) Zb) (ZA (Ze 1) Zb)) Za))))),?_⟩
 rw [show Zz ["_law_one","_law_other"] [.ref a,.ref b]=[some (.ref a),some (.ref b)] from rfl]
 walk_at "rd"
 simp only [ha,hb,ZbF]
 walk_at "rd"
 have hp:=p.den_pos
 have ht:=t.den_pos
 refine⟨JG z1.1 (ZQ z2) (by decide),JG z2.1 (ZQ z1) (by decide),JG (ZQ z1) (ZQ z2) (by decide),Big.of (Zay (ZQ z1) (ZQ z2)) (by decide),Int.mul_pos (by omega) (by omega),λr H' hs v=>q r H' hs ?_⟩
 rw [Zij]
 exact v
def Plt(H1:Hp)(a:Addr)(qs:List Rat)(i:Nat)(σ:St)(H':Hp):Prop:=∃ r o,σ=[some (V.ref a),some r,o]/\Zk H1 H'/\ZR H' r (JY qs i)
def Zku(F:Fun K "_law_total" "_law_total" Zcw f fd)(Zau:Fn P w K mg base ZD 2 "_law_add" ["_law_one","_law_other"] Zek):FnOk P w K mg base ZD 3 f fd ["_law_some"] Zc2:=by
 refine JU F Zbr λcdv A outer s H vs Q E hr h=>?_
 obtain⟨a,xs,qs,rfl,ha,hR,hz,q⟩:=h
 refine⟨_,(Zd (Zs 1 Zbr.nd (JS (Zi Zb (Zi Zb Za))))
   (Zd (Je Yq (Z6 (Ze 0)) (Zr 2 Zbr.nd) (Zh (Zs 1 Zbr.nd (Jb Zau hr (Zi (Ze 1) (Zi (Ze 2) Za))))))
   (Zh (Zy (Ze 1))))),?_⟩
 rw [show Zz ["_law_some","_law_total_here","_law_one"] [.ref a]=[some (.ref a),none,none] from rfl]
 walk_at "rd"
 intro pt H1 hpt s1 e1
 simp only [Zaq]
 walk_at "rd"
 refine Zaz (Plt H1 a qs) ⟨.ref pt,_,rfl,λ_ _ z=>z,pt,rfl,e1⟩ (λi σ H' _ ⟨_,_,_,sm,_⟩=>.of ((s1.trans sm) _ _ ha)) (λi x σ H' hx hP=>?_) (λσ H' hP=>?_)
 ·obtain⟨r,o,rfl,sm,hv⟩:=hP
  have hi:i < qs.length:=by rw [<- hR.1]; exact (Yi.mp hx).1
  have hq:=Yc hi
  walk_at "rd"
  refine⟨r,x,JY qs i,qs[i],rfl,hv,(hR.2 i _ _ hx hq).same (s1.trans sm),hz.1 i (Yt hi),hz.2 i _ hq,λr2 H2 s2 v2=>⟨_,_,rfl,sm.trans s2,?_⟩⟩
  rw [ZcK hq]
  exact v2
 ·obtain⟨r,o,rfl,sm,hv⟩:=hP
  walk_at "rd"
  rw [hR.1] at hv
  exact q r H' (s1.trans sm) hv
def Plc(H0:Hp)(p d g kd:Addr)(Pm:Nat->Prop)(σ:St)(H:Hp):Prop:=∃ (o1 o2:Option V) (acc:List Nat),σ=[some (.ref p),some (.ref d),some (.ref g),some (.ref kd),o1,o2]/\Zk H0 H/\H kd=some (.dK (Jr acc))/\acc.Nodup/\(∀ k,k∈acc ↔ Pm k)
def ZnG(F:Fun K "_law_cost" "_law_cost" Zdi f fd)(ZaI:Fn P w K mg base ZD 1 "_law_way" ["_law_roads","_law_k"] Ziq)(Zax:Fn P w K mg base ZD 3 "_law_total" ["_law_some"] Zc2):FnOk P w K mg base ZD 4 f fd ["_law_roads","_law_homes","_law_group"] ZdV:=by
 refine JU F ZbS λcdv A outer s H vs Q E hr h=>?_
 obtain⟨p,d,g,xs,rs,kvs,ss,hs,rfl,hp,hR,hd,hg,hH,hrl,hsl,hO,hz,q⟩:=h
 refine⟨_,(Zd (Zs 3 ZbS.nd ZhV)
   (Zd (Je Yq (Z6 (Ze 2)) (Zr 4 ZbS.nd) (Zh (Je Yq (Z6 (Jb ZaI hr (Zi (Ze 0) (Zi (Jl (Z9 hr) (Ze 1) (Ze 4)) Za)))) (Zr 5 ZbS.nd) (Zh (ZcN (Z9 hr) (Ze 3) (Ze 5) JX)))))
   (Zsk 3 (Zh (Zy (Jb Zax hr (Zi (Zdx (ZiM ["_law_k"] [0] ["_law_roads"]) (ZdB (Ze 3)) (by exact λs H fp=>(Zr 0 (show List.Nodup (["_law_k","_law_roads"]:List Str) from by decide +kernel))) (by exact λs H fp=>(ZA (Jx (Ze 1) (JP (Ze 0) Zb)) Zb))) Za))))))),?_⟩
 rw [show Zz ["_law_roads","_law_homes","_law_group","_law_known","_law_name","_law_k"] [.ref p,.ref d,.ref g]=[some (.ref p),some (.ref d),some (.ref g),none,none,none] from rfl]
 walk_at "rd"
 intro kd H1 hkd s1 e1
 simp only [Zaq]
 walk_at "rd"
 refine Zaz (λi=>Plc H p d g kd (Jf rs (hs.take i))) ⟨_,_,[],rfl,s1,e1,List.nodup_nil,λk=>⟨(λz=>by cases z),(λ⟨h,hm,_⟩=>by simp at hm)⟩⟩ (λi σ H' _ ⟨_,_,_,_,sm,_⟩=>.of (sm _ _ hg)) (λi y σ H' hi hP=>?_) (λσ H' hP=>?_)
 ·obtain⟨o1,o2,acc,rfl,sm,e3,hnd,hm⟩:=hP
  rw [Yg] at hi
  obtain⟨z,hz',rfl⟩:∃ z,ss[i]?=some z/\y=V.str z:=by cases h:ss[i]? with | none=>rw [h] at hi; cases hi | some z=>rw [h] at hi; cases hi; exact⟨z,rfl,rfl⟩
  have hi':i < ss.length:=(Yi.mp hz').1
  have hih:i < hs.length:=by rw [<- hH.1]; exact hi'
  have hh:=Yc hih
  obtain⟨hvl,hle⟩:=hH.2 i z _ hz' hh
  obtain⟨w0,hw0,hwl0⟩:=Zbs hO hle
  walk_at "rd"
  rw [Zaq]
  walk_at "rd"
  refine⟨kvs,ZbN hd sm,.inr z,rfl,_,hvl,p,xs,rs,hs[i],w0,rfl,sm _ _ hp,hR.same sm,hw0,by omega,λpw H4 hpw s4 e4=>?_⟩
  have hpk:pw ≠ kd:=λzz=>by rw [zz,e3] at hpw; cases hpw
  refine Zaz (λj σ H5=>Plc H p d g kd (λk=>Jf rs (hs.take i) k\/k∈w0.take j) σ H5/\H5 pw=some (.lst (ZN w0))) ⟨⟨_,_,acc,rfl,sm.trans s4,s4 _ _ e3,hnd,λk=>by rw [hm k]; simp⟩,e4⟩ (λj σ H5 _ hP=>.of hP.2) (λj y σ H5 hj hP=>?_) (λσ H5 hP=>?_)
  ·obtain⟨⟨q1,q2,acc5,rfl,s5,e5,hnd5,hm5⟩,e6⟩:=hP
   have hjl:j < w0.length:=by have:=(List.getElem?_eq_some_iff.mp hj).1; simpa [ZN] using this
   have hk:=Yc hjl
   have hy:y=V.int (w0[j]:Int):=by
    unfold ZN at hj
    rw [Yg,hk] at hj
    cases hj
    rfl
   subst hy
   have tk:∀ k,k∈w0.take (j + 1) ↔ k∈w0.take j\/k=w0[j]:=λk=>by rw [List.take_add_one,hk,List.mem_append]; simp
   have hbd:∀ k∈acc5,1<=k/\k<=rs.length:=λk hk=>by
    rcases (hm5 k).mp hk with h | h
    ·exact Z5 h
    ·exact hw0.mem k (List.mem_of_mem_take h)
   have hal:=ZbK hnd5 hbd
   walk_at "rd"
   refine⟨_,e5,.inl (w0[j]:Int),rfl,by unfold Jr; rw [List.length_map]; omega,?_⟩
   by_cases c:w0[j]∈acc5
   ·rw [ZiW c]
    refine⟨⟨_,_,acc5,rfl,Zt hkd s5,Zf,hnd5,λk=>?_⟩,by rw [Zg hpk]; exact e6⟩
    show k∈acc5 ↔ (Jf rs (hs.take i) k\/k∈w0.take (j + 1))
    rw [tk k,hm5 k]
    constructor
    ·rintro (h | h)
     ·exact .inl h
     ·exact .inr (.inl h)
    ·rintro (h | h | h)
     ·exact .inl h
     ·exact .inr h
     ·subst h; exact (hm5 _).mp c
   ·rw [ZjB c]
    refine⟨⟨_,_,acc5 ++ [w0[j]],rfl,Zt hkd s5,Zf,?_,λk=>?_⟩,by rw [Zg hpk]; exact e6⟩
    ·exact List.nodup_append.mpr ⟨hnd5,by simp,λx hx y hy=>by rw [List.mem_singleton.mp hy]; intro e; exact c (e ▸ hx)⟩
    ·show k∈acc5 ++ [w0[j]] ↔ (Jf rs (hs.take i) k\/k∈w0.take (j + 1))
     rw [Yw,YF,tk k,hm5 k,or_assoc]
  ·obtain⟨⟨q1,q2,acc5,rfl,s5,e5,hnd5,hm5⟩,e6⟩:=hP
   refine⟨_,_,acc5,rfl,s5,e5,hnd5,λk=>?_⟩
   rw [hm5 k,Zgz hh hw0 k,show (ZN w0).length=w0.length by simp [ZN],List.take_length]
 ·obtain⟨o1,o2,acc,rfl,sm,e3,hnd,hm⟩:=hP
  rw [Ye,hH.1,Yv] at hm
  have hbd:∀ k∈acc,1<=k/\k<=rs.length:=λk hk=>Z5 ((hm k).mp hk)
  have hal:=ZbK hnd hbd
  refine⟨kd,_,rfl,e3,λob=>?_⟩
  have sm2:Zk H (upd H' kd (.frz ob (.dK (Jr acc)))):=Zt hkd sm
  walk_at "rd"
  simp only [JQ,ZhA,cxK]
  walk_at "rd"
  refine⟨ob,_,Zf,?_⟩
  rw [show Jq [some (V.ref p),some (V.ref d),some (V.ref g),some (V.ref kd),o1,o2] [0]=[some (V.ref p)] from rfl]
  have kl:(Jr acc).length=acc.length:=by unfold Jr; rw [List.length_map]
  refine Zm3 ZR Za3 (as:=acc.map (Zl rs)) Zf (by rw [Ye,kl]) (by omega) (λi' kv' b' hi' hb' H3 kk os s6 ol hkk=>?_) (λpq H6 ys hpq s6 e7 hL=>?_)
  ·obtain⟨o',rfl⟩:∃ o',os=[o']:=by match os,ol with | [o'],_=>exact⟨o',rfl⟩
   rw [Yg] at hb'
   obtain⟨k',hk',rfl⟩:∃ k',acc[i']?=some k'/\b'=Zl rs k':=by cases h:acc[i']? with | none=>rw [h] at hb'; cases hb' | some k'=>rw [h] at hb'; cases hb'; exact⟨k',rfl,rfl⟩
   have ekv:kV kv'.1=V.int (k':Int):=by
    unfold Jr at hi'
    rw [Yg,hk'] at hi'
    cases hi'
    rfl
   rw [ekv]
   obtain⟨b1,b2⟩:=hbd k' (Yl hk')
   walk_at "rd"
   refine⟨[some (.int (k':Int))],rfl,rfl,?_⟩
   walk_at "rd"
   have hlt:k' - 1 < rs.length:=by omega
   have hltx:k' - 1 < xs.length:=by rw [hR.1]; exact hlt
   have sm3:=sm2.trans s6
   obtain⟨pr,yr,exr,hpr,hyr⟩:=(hR.same sm3).2 (k' - 1) _ _ (Yc hltx) (Yc hlt)
   have hpa:Zl rs k'=rs[k' - 1].2:=by unfold Zl; rw [List.getElem?_eq_getElem hlt]; rfl
   refine⟨xs,sm3 _ _ hp,.ref pr,?_,pr,rfl,_,hpr,yr,rfl,hkk _ _ (λ_ _ z=>z) (by rw [hpa]; exact hyr)⟩
   rw [show ((k':Nat):Int) - 1=((k' - 1:Nat):Int) by omega,<- exr]
   exact ZM (Yc hltx)
  ·refine⟨pq,ys,acc.map (Zl rs),rfl,e7,hL,⟨λi hi=>?_,λi q h=>?_⟩,λr H7 s7 v7=>q r H7 acc (sm2.trans (s6.trans s7)) hnd hm ?_⟩
   ·have e:JY (acc.map (Zl rs)) i=ZK ((acc.take i).map (Zl rs)):=by unfold JY ZK; rw [List.map_take]
    rw [e]
    rw [Ye] at hi
    exact (Zb2 hz (acc.take i)).mono (by rw [YE]; omega)
   ·rw [Yg] at h
    obtain⟨k',_,rfl⟩:=Yx.mp h
    exact (Zfk hz k').mono (by decide)
   ·unfold JY at v7
    rw [Yv] at v7
    exact v7
theorem Zj4{p q:Rat}:p.num * (q.den:Int) < q.num * (p.den:Int) ↔ p < q:=(Rat.lt_iff p q).symm
def ZhP:Sp:=λvs H Q _=>∃ (x y:V) (p q:Rat),vs=[x,y]/\ZR H x p/\ZR H y q/\Jo 3000 p/\Jo 3000 q/\Q (.bl (decide (p < q))) H
def Zot(pt C:Addr):Sp:=λvs H Q _=>∃ (x:V) (rs:List (Nat × Rat)) (d:Addr) (kvs:List (ZU × V)) (ss:List Str) (hf:Str->Nat),vs=[x,.ref d]/\JK C H x rs/\Rd H d (.dK kvs)/\(kvs.map λkv=>kV kv.1)=ss.map V.str/\(∀ gs:List Str,(∀ z∈gs,z∈ss)->Zcb kvs gs (gs.map hf) rs.length)/\rs.length<=20/\ss.length < 50/\Zcp rs/\ZhL H pt "far_roads_first.<locals>.<lambda>" /\
 ∀ p H' (fr:List Nat),H p=none->Zk H H'->H' p=some (.lst (ZN fr))->fr.Nodup->(∀ k,k∈fr ↔ Jf rs (ss.map hf) k)->fr.Pairwise (λa b=>(wayL rs b).length<=(wayL rs a).length)->Q (.ref p) H'
noncomputable def kyW(rs:List (Nat × Rat))(v:V):Int:=match v with | .int i=>((wayL rs i.toNat).length:Nat) | _=>0
def ZiS(v:V):Nat:=match v with | .int i=>i.toNat | _=>0
def ZiJ{ks:List Nat}{ys:List V}(h:Zer true ((ZN ks).map (kyW rs)) (ZN ks) ys):∃ fr:List Nat,ys=ZN fr/\fr.Perm ks/\fr.Pairwise (λa b=>(wayL rs b).length<=(wayL rs a).length):=by
 obtain⟨ps,hp,rfl,hw⟩:=h
 have ez:((ZN ks).map (kyW rs)).zip (ZN ks)=ks.map λk:Nat=>((((wayL rs k).length:Nat):Int),V.int (k:Int)):=by
  unfold ZN
  rw [Ys,List.zip_map']
  exact List.map_congr_left λk _=>by simp [kyW]
 rw [ez] at hp
 have hm:∀ p∈ps,∃ k:Nat,p=((((wayL rs k).length:Nat):Int),V.int (k:Int)):=λp hpm=>by
  obtain⟨k,_,e⟩:=Yk.mp (hp.mem_iff.mp hpm)
  exact⟨k,e.symm⟩
 refine⟨ps.map λp=>ZiS p.2,?_,?_,?_⟩
 ·unfold ZN
  rw [Ys]
  refine YQ λp hpm=>?_
  obtain⟨k,rfl⟩:=hm p hpm
  simp [ZiS]
 ·have:=hp.map λp:Int × V=>ZiS p.2
  rw [Ys] at this
  refine this.trans (List.Perm.of_eq ?_)
  rw [show ((λp:Int × V=>ZiS p.2) ∘ λk:Nat=>((((wayL rs k).length:Nat):Int),V.int (k:Int)))=id from funext λk=>by simp [ZiS],List.map_id]
 ·rw [VB]
  refine List.Pairwise.imp_of_mem (λ{a b} ha hb hab=>?_) hw
  obtain⟨k,rfl⟩:=hm a ha
  obtain⟨j,rfl⟩:=hm b hb
  simp [ZiS] at hab ⊢
  omega
def Zlw(F:Fun K "is_less" "is_less" ZeI f fd):FnOk P w K mg base ZD 1 f fd ["one","other"] ZhP:=by
 refine JU F ZiG λcdv A outer s H vs Q E hr h=>?_
 obtain⟨x,y,p,t,rfl,⟨a,rfl,ha⟩,⟨b,rfl,hb⟩,z1,z2,q⟩:=h
 refine⟨_,(Zh (Zy (ZtW (Ji (ZA (Ze 0) Zb) (ZA (Ze 1) Zb)) (Ji (ZA (Ze 1) Zb) (ZA (Ze 0) Zb))))),?_⟩
 rw [show Zz ["one","other"] [.ref a,.ref b]=[some (.ref a),some (.ref b)] from rfl]
 walk_at "rd"
 simp only [ha,hb]
 walk_at "rd"
 refine⟨JG z1.1 (ZQ z2) (by decide),JG z2.1 (ZQ z1) (by decide),?_⟩
 simp only [Zj4]
 exact q
def ZqF(F:Fun K "far_roads_first" "far_roads_first" Zan f fd)(hc:fd.code=.ref c)(hC:codeHdIn K c pt=true)(hB:ZeN mg base)(ZC:mg "len"=none)(ZS:mg "sorted"=none)(ZG:mg "list"=none)(Zcm:Fn P w K mg base ZD 4 "needed" ["tree","homes","group"] (Zd8 CT))
  (Zi2:Mth P w K mg base ZD 3 CT "way" ["self","k"] (λvs H Q _=>Zhc CT CNP vs H Q E0)):FnOk P w K mg base ZD 8 f fd ["tree","homes"] (Zot pt CT):=by
 refine ZtP F hc ZcH (λvs H Q E h=>?_) (λA outer s H vs Q E hr h=>?_)
 ·obtain⟨x,rs,d,kvs,ss,hf,rfl,_⟩:=h; rfl
 obtain⟨x,rs,d,kvs,ss,hf,rfl,hT,hd,hkv,hat,hrl,hsl,hO,hB2,q⟩:=h
 refine⟨_,(Zh (Zy (ZpX rfl ZS (Jb Zcm hr (Zi (Ze 0) (Zi (Ze 1) (Zi (ZfJ rfl ZG (Zi (Ze 1) Za)) Za)))) (QE.mk (Zjc (z:="tree") (y:="road") (i:=0) (k:=4) rfl rfl rfl rfl hC hB rfl hr ⟨rfl,rfl,rfl,by decide +kernel,by decide +kernel,by decide +kernel,by decide +kernel,λy e=>by have h:=PySem.mem_of_lookup e; simp at h; subst h; exact⟨_,rfl⟩⟩ rfl (Or.inr (Or.inl rfl)) (λz=>absurd ((show _=some NameKind.cell from rfl).symm.trans z) (by decide)) (λ_ _ _ _=>rfl) (λ_ _ _ _=>Ju rfl ZC (Zi (Zcs Zi2 (hr.in1.in1.deeper _) (by decide) (Ze 1) (Zi (Ze 0) Za)) Za)))) JX))),?_⟩
 rw [show Zz ["tree","homes"] [x,.ref d]=[some (x),some (.ref d)] from rfl]
 walk_at "rd"
 show ZgI _ _ _ _ _ _ _
 walk_at "rd"
 refine⟨d,kvs,rfl,hd,λl H1 hl s1 e1=>?_⟩
 rw [hkv] at e1
 refine⟨x,rs,d,l,kvs,ss,ss.map hf,rfl,hT.same s1,ZbN hd s1,e1,hat ss λ_ hz=>hz,by omega,hsl,hO,λp H2 ks hp s2 e2 hpw hmem=>?_⟩
 have s12:=s1.trans s2
 have hbd:∀ k∈ks,1<=k/\k<=rs.length:=λk hk=>Z5 ((hmem k).mp hk)
 have hkl:=ZoI hpw hbd
 refine⟨let ⟨t,ht⟩:=hB2; ⟨t,s12 _ _ ht⟩,x,rfl,λfv H3 s3 hfv=>⟨p,ZN ks,kyW rs,rfl,s3 _ _ e2,by simp [ZN]; omega,hfv _ _ λy hy H' k sm hk=>?_,λD H4 ys hD s4 e4 hs=>?_⟩⟩
 ·obtain⟨k0,hk0,rfl⟩:=Yk.mp hy
  obtain⟨b1,b2⟩:=hbd k0 hk0
  have hT2:=hT.same (s12.trans (s3.trans sm))
  obtain⟨xa,dx,la,wa,ls,ws,rfl,h1,_⟩:=id hT2
  walk_at "rd"
  refine⟨dx,_,h1,rfl,.ref xa,rs,k0,rfl,hT2,λp5 H5 k' w0 ek hp5 s5 e5 hw hwl=>⟨p5,rfl,_,.inl e5,?_⟩,λzz=>absurd ⟨by omega,by omega⟩ zz⟩
  have e:k'=k0:=by omega
  subst e
  have e2:kyW rs (.int (k':Int))=((ZN w0).length:Nat):=by simp [kyW,ZN,Zbf hw]
  rw [<- e2]
  exact hk H5 s5
 ·obtain⟨fr,rfl,hfp,hfw⟩:=ZiJ hs
  have hkn:ks.Nodup:=hpw.imp λh e=>by rw [e] at h; exact Y1 _ h
  exact q D H4 fr ((s12.trans s3).free hD) (s12.trans (s3.trans s4)) e4 (hfp.symm.nodup hkn) (λk=>(hfp.mem_iff).trans (hmem k)) hfw
def Zm(B:Nat)(m:Int):Rat:=Rat.divInt m (B:Int)
def ZbE{B:Nat}(hB:0 < B){m n:Int}:Zm B m < Zm B n ↔ m < n:=by
 rw [<- Rat.not_le,<- Int.not_le]
 unfold Zm
 rw [Rat.le_iff_sub_nonneg,Rat.divInt_sub_divInt _ _ (by omega) (by omega),<- Int.sub_mul,Rat.divInt_nonneg_iff_of_pos_right (Int.mul_pos (by omega) (by omega))]
 constructor
 ·intro h c
  exact h (Int.mul_nonneg (by omega) (by omega))
 ·intro h c
  refine h ?_
  have:=Int.nonneg_of_mul_nonneg_left c (by omega:(0:Int) < (B:Int))
  omega
def ZbP(hB:0 < B)(m n:Int):Zm B m + Zm B n=Zm B (m + n):=ZdS (by omega)
def Zc3(hB:0 < B)(m n:Int):Zm B m - Zm B n=Zm B (m - n):=by
 have:=ZbP hB (m - n) n
 rw [Int.sub_add_cancel] at this
 rw [<- this,Rat.sub_eq_add_neg,Vl,Rat.add_neg_cancel,Yae]
def ZnU(hB:0 < B){m n:Int}(h:Zm B m=Zm B n):m=n:=by
 have h1:¬ m < n:=λc=>by have:=(ZbE hB).mpr c; rw [h] at this; exact Rat.lt_irrefl this
 have h2:¬ n < m:=λc=>by have:=(ZbE hB).mpr c; rw [h] at this; exact Rat.lt_irrefl this
 omega
def Za4(B:Nat):Zm B 0=0:=YaA _
theorem Jc{B n:Nat}{m:Int}(hB:0 < B)(h1:B < 2 ^ n)(h2:m.natAbs < 2 ^ n):Jo n (Zm B m):=Jo.of (by omega) h2 (by simpa using h1)
def Zf2(hB:0 < B)(m:Int):(Zm B m).den ∣ B:=by
 have h1:(Zm B m).num * (B:Int)=m * ((Zm B m).den:Int):=by
  have h:=Ve (Zm B m)
  have hd:=(Zm B m).den_pos
  exact (Rat.divInt_eq_divInt_iff (by omega) (by omega)).mp h
 have h2:((Zm B m).den:Int) ∣ (Zm B m).num * (B:Int):=⟨m,by rw [h1,Int.mul_comm]⟩
 have h3:=Int.natAbs_dvd_natAbs.mpr h2
 rw [Int.natAbs_mul] at h3
 have hc:Nat.Coprime (Zm B m).den (Zm B m).num.natAbs:=(Zm B m).reduced.symm
 exact hc.dvd_of_dvd_mul_left (by simpa using h3)
def ZdU(hB:0 < B)(m:Int):(Zm B m).num < 0 ↔ m < 0:=by
 have h:=@ZbE B hB m 0
 rw [Za4,Rat.lt_iff] at h
 simp at h
 exact h
def Zng{a b B:Nat}(ha:0 < a)(h1:a ∣ B)(h2:b ∣ B):ZiN a b ∣ B:=by
 have:ZiN a b=Nat.lcm a b:=by
  unfold ZiN Nat.lcm
  rw [Nat.mul_comm a b,Nat.mul_div_assoc _ (Yay a b),Nat.mul_comm]
 rw [this]
 exact Nat.lcm_dvd h1 h2
def Ziz(h:∀ (i:Nat) q,qs[i]?=some q->q.den ∣ B):∀ i,i<=qs.length->Zin qs i ∣ B/\0 < Zin qs i
 | 0,_=>⟨Nat.one_dvd _,Nat.one_pos⟩
 | i + 1,hi=>by
  have hq:=Yc (show i < qs.length from hi)
  obtain⟨h1,h2⟩:=Ziz h i (Yt hi)
  rw [Zen hq]
  exact⟨Zng h2 h1 (h i _ hq),Zh6 h2 (qs[i]).den_pos⟩
theorem Zgw{ms:List Int}(hB:0 < B)(h1:B < 2 ^ 2600)(h2:∀ m∈ms,m.natAbs < 2 ^ 2700):Zsz (ms.map (Zm B)):=by
 refine⟨λi q h=>?_,λi hi=>?_⟩
 ·rw [Yg] at h
  obtain⟨m,hm,rfl⟩:=Yx.mp h
  exact (Jc (n:=2700) hB (Yu h1 (YO (by decide) (by decide))) (h2 m (Yl hm))).mono (by decide)
 ·have h3:=Ziz (B:=B) (λi q h=>by
   rw [Yg] at h
   obtain⟨m,_,rfl⟩:=Yx.mp h
   exact Zf2 hB m) i hi
  exact Yj (Nat.le_of_dvd hB h3.1) (Yt (Yu h1 (YO (by decide) (by decide))))
theorem Zca(hB:0 < B)(ms:List Int):∀ i,i<=ms.length->JY (ms.map (Zm B)) i=Zm B (ms.take i).sum
 | 0,_=>(Za4 B).symm
 | i + 1,hi=>by
  have hm:=Yc (show i < ms.length from hi)
  rw [ZcK (q:=Zm B ms[i]) (by rw [Yg,hm]; rfl),Zca hB ms i (Yt hi),ZbP hB,Yp,hm,List.sum_append]
  simp
def ZdO(hB:0 < B)(ms:List Int):JY (ms.map (Zm B)) (ms.map (Zm B)).length=Zm B ms.sum:=by
 rw [Ye,Zca hB ms _ (Yd _),Yv]
def ZgL:Sp:=λvs H Q _=>∃ (d g:Addr) (o:Obj) (kvs:List (ZU × V)) (ss gs:List Str),vs=[.ref d,.ref g]/\H d=some (.frz o (.dK kvs))/\(kvs.map λkv=>kV kv.1)=ss.map V.str/\ss.length < 50/\H g=some (.lst (gs.map V.str)) /\
 ∀ p H' (ts:List Str),H p=none->Zk H H'->H' p=some (.lst (ts.map V.str))->ts.Pairwise leS->ts.Perm (ss.filter λz=>!decide (z∈gs))->Q (.ref p) H'
def ZX:Int->List Int->List Int
 | _,[]=>[]
 | d,l :: ls=>min l d :: ZX (d - min l d) ls
def Zd9:∀ (d:Int) (ls:List Int),(ZX d ls).length=ls.length
 | _,[]=>rfl
 | d,l :: ls=>by rw [ZX,YR,YR,Zd9]
def Zfu:∀ (d:Int) (ls:List Int),0<=d->(∀ l∈ls,0<=l)->(∀ (i:Nat) l p,ls[i]?=some l->(ZX d ls)[i]?=some p->0<=p/\p<=l/\p<=d)/\(d<=ls.sum->(ZX d ls).sum=d)
 | d,[],_,_=>⟨λi l p h=>by simp at h,λh=>by simp [ZX] at h ⊢; omega⟩
 | d,l :: ls,hd,hl=>by
  have h0:=hl l (.head _)
  obtain⟨h1,h2⟩:=Zfu (d - min l d) ls (by omega) λx hx=>hl x (.tail _ hx)
  refine⟨λi x p hx hp=>?_,λhs=>?_⟩
  ·match i with
   | 0=>simp [ZX] at hx hp; subst hx hp; omega
   | i + 1 =>
    rw [ZX] at hp
    have:=h1 i x p (by simpa using hx) (by simpa using hp)
    omega
  ·rw [ZX,VW]
   rw [VW] at hs
   by_cases c:l<=d
   ·have:min l d=l:=by omega
    rw [this] at h2 ⊢
    have:=h2 (by omega)
    omega
   ·have e:min l d=d:=by omega
    rw [e,Int.sub_self] at h2 ⊢
    have hz:∀ x∈ls,0<=x:=λx hx=>hl x (.tail _ hx)
    have hsum:0<=ls.sum:=by
     clear h1 h2 hs hl
     induction ls with
     | nil=>simp
     | cons y ys ih=>rw [VW]; have:=hz y (.head _); have:=ih λx hx=>hz x (.tail _ hx); omega
    have:=h2 hsum
    omega
def Zp6(B:Nat)(H:Hp)(xs:List V)(ps:List (Str × Int)):Prop:=JF (λH v p=>∃ t r,v=.ref t/\H t=some (.tup [.str p.1,r])/\ZR H r (Zm B p.2)) H xs ps
def ZjK:Sp:=λvs H Q _=>∃ (x:V) (g d:Addr) (lvs:List (ZU × V)) (ts:List Str) (B:Nat) (c:Int) (l:Str->Int),vs=[x,.ref g,.ref d]/\ZR H x (Zm B c)/\H g=some (.lst (ts.map V.str))/\Rd H d (.dK lvs)/\(∀ z∈ts,∃ v,JI lvs (Sum.inr z)=some v/\ZR H v (Zm B (l z)))/\0 < B/\B < 2 ^ 2600/\0<=c/\c.natAbs < 2 ^ 2600/\(∀ z∈ts,0<=l z/\(l z).natAbs < 2 ^ 2600)/\ts.length < 50 /\
 ∀ p H' xs,H p=none->Zk H H'->H' p=some (.lst xs)->Zp6 B H' xs ((ts.zip (ZX c (ts.map l))).filter λp=>decide (0 < p.2))->Q (.ref p) H'
def ZjW(F:Fun K "others" "others" Zfr f fd)(ZS:mg "sorted"=none):FnOk P w K mg base ZD 1 f fd ["homes","names"] ZgL:=by
 refine JU F Zlv λcdv A outer s H vs Q E hr h=>?_
 obtain⟨d,g,o,kvs,ss,gs,rfl,hd,hkv,hl,hg,q⟩:=h
 refine⟨_,(Zh (Zy (ZeH rfl ZS (Zi (Zhz (ZiM ["name"] [1] ["names"]) (ZdB (Ze 0)) (by exact λs H fp=>(Zr 0 (show List.Nodup (["name","names"]:List Str) from by decide +kernel))) (by exact λs H fp=>ZhY (Zp8 K (Ze 0) (Ze 1))) (by exact λs H fp=>(Ze 0))) Za)))),?_⟩
 rw [show Zz ["homes","names"] [.ref d,.ref g]=[some (.ref d),some (.ref g)] from rfl]
 walk_at "rd"
 simp only [Zdv,ZhA]
 walk_at "rd"
 refine⟨o,kvs,hd,?_⟩
 rw [show Jq [some (V.ref d),some (V.ref g)] [1]=[some (V.ref g)] from rfl]
 refine Zgq (λz=>!decide (z∈gs)) hd hkv (by omega) (λz hz H' k sm hk=>?_) (λp2 H2 hp2 s2 e2=>?_)
 ·walk_at "rd"
  simp only [rIn]
  walk_at "rd"
  refine⟨_,.inl (.of (sm _ _ hg)),rfl,ZlH _,?_⟩
  rw [ZpE]
  exact hk
 ·refine⟨p2,rfl,_,e2,YA (YU _ _) (by omega),λl H3 ts hl s3 e3 hpw hpm=>?_⟩
  exact q l H3 ts (s2.free hl) (s2.trans s3) e3 hpw hpm
def Ppy(H0:Hp)(x:V)(g d p:Addr)(B:Nat)(c:Int)(ts:List Str)(l:Str->Int)(i:Nat)(σ:St)(H:Hp):Prop:=∃ (y:V) (o1 o2:Option V) (due:Int) (xs:List V),σ=[some x,some (.ref g),some (.ref d),some (.ref p),some y,o1,o2]/\Zk H0 H/\ZR H y (Zm B due)/\0<=due/\due<=c/\H p=some (.lst xs) /\
 ∃ pre,pre.length=i/\ZX c (ts.map l)=pre ++ ZX due ((ts.drop i).map l)/\Zp6 B H xs (((ts.take i).zip pre).filter λp=>decide (0 < p.2))
def Zpi(F:Fun K "payments" "payments" Zdr f fd)(Zbk:Fn P w K mg base ZD 1 "is_less" ["one","other"] ZhP)(Zeu:FnD P w K mg base ZD 2 "ratio" ["top","bottom"] [.int 1] ZbJ)(ZbL:Fn P w K mg base ZD 3 "rest_of" ["one","other"] Zb3):FnOk P w K mg base ZD 4 f fd ["price","payers","left"] ZjK:=by
 refine JU F ZaZ λcdv A outer s H vs Q E hr h=>?_
 obtain⟨x,g,d,lvs,ts,B,c,l,rfl,hx,hg,hd,hv,hB0,hB1,hc0,hc1,hl,htl,q⟩:=h
 refine⟨_,(Zd (Zs 3 ZaZ.nd (ZcD Za))
   (Zd (Zs 4 ZaZ.nd (Ze 0))
   (Zd (Je Yq (Z6 (Ze 1)) (Zr 5 ZaZ.nd) (Zd (Zs 6 ZaZ.nd (Ztm (Jg (Jb Zbk hr (Zi (Jl (Z9 hr) (Ze 2) (Ze 5)) (Zi (Ze 4) Za)))) (Jl (Z9 hr) (Ze 2) (Ze 5)) (Ze 4)))
   (Zh (Jm (Jg (Jb Zbk hr (Zi (ZsQ Zeu hr (by decide) rfl (Zi Zb Za)) (Zi (Ze 6) Za)))) (Zd (Js (ZgC (Ze 3) (Zi (JS (Zi (Ze 5) (Zi (Ze 6) Za))) Za)))
   (Zh (Zs 4 ZaZ.nd (Jb ZbL hr (Zi (Ze 4) (Zi (Ze 6) Za)))))) ZV))))
   (Zh (Zy (Ze 3)))))),?_⟩
 rw [show Zz ["price","payers","left","rows","due","name","amount"] [x,.ref g,.ref d]=[some (x),some (.ref g),some (.ref d),none,none,none,none] from rfl]
 walk_at "rd"
 intro p H1 hp s1 e1
 simp only [Zaq]
 walk_at "rd"
 have kpR:ZgX (λH v (p:Str × Int)=>∃ t r,v=.ref t/\H t=some (.tup [.str p.1,r])/\ZR H r (Zm B p.2)):=λH H' v p h s=>let ⟨t,r,a1,a2,a3⟩:=h; ⟨t,r,a1,s _ _ a2,a3.keep s⟩
 refine Zaz (Ppy H x g d p B c ts l) ⟨x,_,_,c,[],rfl,s1,hx.same s1,hc0,by omega,e1,[],rfl,by simp,⟨by simp,λi v r h=>by simp at h⟩⟩ (λi σ H' _ ⟨_,_,_,_,_,_,sm,_⟩=>.of (sm _ _ hg)) (λi y σ H' hi hP=>?_) (λσ H' hP=>?_)
 ·obtain⟨y0,o1,o2,due,xs,rfl,sm,hy,hd0,hd1,ep,pre,hpl,hpre,hR⟩:=hP
  rw [Yg] at hi
  obtain⟨z,hz,rfl⟩:=Yx.mp hi
  have hzm:=Yl hz
  have hil:=(Yi.mp hz).1
  obtain⟨v,ev,rv⟩:=hv z hzm
  obtain⟨hl0,hl1⟩:=hl z hzm
  have szl:Jo 3000 (Zm B (l z)):=(Jc hB0 hB1 hl1).mono (by decide)
  have szd:Jo 3000 (Zm B due):=(Jc hB0 hB1 (YA (by omega) hc1)).mono (by decide)
  have hdr:(ts.drop i).map l=l z :: (ts.drop (i + 1)).map l:=by rw [Yak hil,Yr,(Yi.mp hz).2]
  have htk:ts.take (i + 1)=ts.take i ++ [z]:=by rw [Yp,hz]; rfl
  have hpre2:ZX c (ts.map l)=(pre ++ [min (l z) due]) ++ ZX (due - min (l z) due) ((ts.drop (i + 1)).map l):=by rw [hpre,hdr,ZX,List.append_assoc]; rfl
  have hzp:((ts.take (i + 1)).zip (pre ++ [min (l z) due])).filter (λp=>decide (0 < p.2))=((ts.take i).zip pre).filter (λp=>decide (0 < p.2)) ++ (if 0 < min (l z) due then [(z,min (l z) due)] else []):=by
   rw [htk,List.zip_append (by rw [YE,hpl]; omega),VN]
   congr 1
   by_cases c0:0 < min (l z) due
   ·rw [if_pos c0]; simp [c0]
   ·rw [if_neg c0]; simp [c0]
  refine Zx λR0 hR0=>?_
  suffices fin:∀ u:V,ZR H' u (Zm B (min (l z) due))->R0 [some x,some (.ref g),some (.ref d),some (.ref p),some y0,some (.str z),some u] H' by
   walk_at "rd"
   refine⟨lvs,ZbN hd sm,.inr z,rfl,v,ev,v,y0,_,_,rfl,rv.same sm,hy,szl,szd,_,rfl,?_⟩
   by_cases c0:l z < due
   ·rw [if_pos (YL ((ZbE hB0).mpr c0))]
    refine⟨lvs,ZbN hd sm,.inr z,rfl,v,ev,fin v ?_⟩
    rw [show min (l z) due=l z by omega]
    exact rv.same sm
   ·rw [if_neg (by rw [Y3,ZbE hB0]; exact c0)]
    refine fin y0 ?_
    rw [show min (l z) due=due by omega]
    exact hy
  intro u hu
  have szu:Jo 3000 (Zm B (min (l z) due)):=(Jc hB0 hB1 (YA (by omega) hc1)).mono (by decide)
  subst hR0
  walk_at "rd"
  refine⟨_,_,rfl,Big.of (n:=1) (by decide) (by decide),by decide,λr0 H2 s2 v2=>?_⟩
  have e0:Rat.divInt 0 1=Zm B 0:=by rw [Za4]; exact YaA 1
  rw [e0] at v2
  have sz0:Jo 3000 (Zm B 0):=by rw [Za4]; exact Zdh (by decide)
  refine⟨r0,u,_,_,rfl,v2,hu.same s2,sz0,szu,_,rfl,?_⟩
  by_cases c0:0 < min (l z) due
  ·rw [if_pos (YL ((ZbE hB0).mpr c0))]
   refine⟨⟨_,s2 _ _ ep⟩,λt H3 ht s3 e3=>?_⟩
   have s23:=s2.trans s3
   have ep3:=s23 _ _ ep
   have kp:∀ b ys,H3 b=some (.tup ys)->upd H3 p (.lst (xs ++ [.ref t])) b=some (.tup ys):=λb ys e=>by rw [Zg (Jk e ep3 (by intro z; cases z))]; exact e
   have hxl:xs.length < 1000000:=by
    rw [hR.1]
    refine YA (YU _ _) ?_
    rw [Vh,YE]
    omega
   refine⟨xs,ep3,hxl,y0,u,_,_,rfl,(hy.same s23).keep kp,(hu.same s23).keep kp,szd,szu,λr4 H4 s4 v4=>?_⟩
   rw [Zc3 hB0] at v4
   refine⟨r4,_,_,due - min (l z) due,xs ++ [.ref t],rfl,(Zt hp (sm.trans s23)).trans s4,v4,by omega,by omega,s4 _ _ Zf,pre ++ [min (l z) due],by simp [hpl],hpre2,?_⟩
   rw [hzp,if_pos c0]
   exact ((((hR.keep kpR λb ys e=>s23 _ _ e).keep kpR kp).snoc ⟨t,u,rfl,kp _ _ e3,(hu.same s23).keep kp⟩)).keep kpR λb ys e=>s4 _ _ e
  ·rw [if_neg (by rw [Y3,ZbE hB0]; exact c0)]
   have ez:min (l z) due=0:=by omega
   refine⟨y0,_,_,due,xs,rfl,sm.trans s2,hy.same s2,hd0,hd1,s2 _ _ ep,pre ++ [min (l z) due],by simp [hpl],?_,?_⟩
   ·rw [hpre2,ez,Int.sub_zero]
   ·rw [hzp,if_neg c0,Y5]
    exact hR.keep kpR λb ys e=>s2 _ _ e
 ·obtain⟨y0,o1,o2,due,xs,rfl,sm,hy,hd0,hd1,ep,pre,hpl,hpre,hR⟩:=hP
  walk_at "rd"
  rw [Ye,List.drop_length,List.map_nil,ZX,Y5] at hpre
  rw [Ye,Yv,<- hpre] at hR
  exact q p H' xs hp sm ep hR
def ShV(H:Hp)(svs:List (ZU × V))(ss:List Str)(qf:Str->Rat):Prop:=svs.length=ss.length/\∀ (i:Nat) z,ss[i]?=some z->∃ v,svs[i]?=some (Sum.inr z,v)/\ZR H v (qf z)
variable {svs:List (ZU × V)}{qf:Str->Rat}
theorem ShV.keep{H H':Hp}(h:ShV H svs ss qf)(s:∀ b ys,H b=some (.tup ys)->H' b=some (.tup ys)):ShV H' svs ss qf:=⟨h.1,λi z e=>let ⟨v,e1,r⟩:=h.2 i z e; ⟨v,e1,r.keep s⟩⟩
theorem ShV.keys(h:ShV H svs ss qf):svs.map (·.1)=ss.map Sum.inr:=by
 refine Yav λi=>?_
 rw [Yg,Yg]
 cases e:ss[i]? with
 | none=>rw [Y6 (by rw [h.1]; exact List.getElem?_eq_none_iff.mp e)]; rfl
 | some z=>obtain⟨v,e1,_⟩:=h.2 i z e; rw [e1]; rfl
def Zg0:∀ {svs:List (ZU × V)}{i:Nat}{k:ZU}{v:V},svs[i]?=some (k,v)->(svs.map (·.1)).Nodup->JI svs k=some v
 | [],i,k,v,h,_=>by cases h
 | kv :: svs,0,k,v,h,_=>by cases h; exact ZcW rfl
 | kv :: svs,i + 1,k,v,h,hn=>by
  rw [Yr,Y4] at hn
  have hm:(k,v)∈svs:=Yl h
  rw [ZcS (λe=>hn.1 (Yk.mpr ⟨_,hm,e.symm⟩))]
  exact Zg0 h hn.2
def Zgk(h:ss.Nodup):(ss.map (Sum.inr:Str->ZU)).Nodup:=List.Pairwise.map _ (λ_ _ hne e=>hne (by injection e)) h
def ShV.val(h:ShV H svs ss qf)(hn:ss.Nodup):∀ z∈ss,∃ v,JI svs (Sum.inr z)=some v/\ZR H v (qf z):=λz hz=>by
 obtain⟨i,hi,e⟩:=Vz hz
 obtain⟨v,e1,r⟩:=h.2 i z (by rw [Yc hi,e])
 exact⟨v,Zg0 e1 (by rw [h.keys]; exact Zgk hn),r⟩
def Zjo{k:ZU}{v:V}(h:k ∉ svs.map (·.1)):Jh svs k v=svs ++ [(k,v)]:=by
 unfold Jh
 rw [if_neg]
 intro c
 obtain⟨kv,h1,h2⟩:=List.any_eq_true.mp c
 exact h (List.mem_map.mpr ⟨kv,h1,by simpa using h2⟩)
theorem ShV.snoc{v:V}(h:ShV H svs ss qf)(hz:z ∉ ss)(r:ZR H v (qf z)):ShV H (Jh svs (Sum.inr z) v) (ss ++ [z]) qf:=by
 rw [Zjo (by rw [h.keys]; intro c; obtain⟨y,hy,e⟩:=Yk.mp c; injection e with e; exact hz (e ▸ hy))]
 refine⟨by simp [h.1],λi y e=>?_⟩
 by_cases c:i < ss.length
 ·rw [YS c] at e
  rw [YS (by rw [h.1]; exact c)]
  exact h.2 i y e
 ·have hi:i=ss.length:=by have:=(List.getElem?_eq_some_iff.mp e).1; simp at this; omega
  subst hi
  rw [YN (Yd _)] at e
  rw [<- h.1,YN (Yd _)]
  simp at e
  subst e
  exact⟨v,by simp,r⟩
def ShV.put{qf qg:Str->Rat}{v:V}(h:ShV H svs ss qf)(hz:z∈ss)(r:ZR H v (qg z))(hq:∀ y,y ≠ z->qg y=qf y):ShV H (Jh svs (Sum.inr z) v) ss qg:=by
 have hk:(svs.any λkv=>decide (kv.1=(Sum.inr z:ZU)))=true:=by
  have:(Sum.inr z:ZU)∈svs.map (·.1):=by rw [h.keys]; exact Yk.mpr ⟨z,hz,rfl⟩
  obtain⟨kv,h1,h2⟩:=Yk.mp this
  exact List.any_eq_true.mpr ⟨kv,h1,by simpa using h2⟩
 unfold Jh
 rw [if_pos (by simpa using hk)]
 refine⟨by rw [Ye]; exact h.1,λi y e=>?_⟩
 obtain⟨u,e1,r1⟩:=h.2 i y e
 rw [Yg,e1]
 by_cases c:y=z
 ·subst c
  exact⟨v,by simp,r⟩
 ·exact⟨u,by simp [c],by rw [hq y c]; exact r1⟩
def Zhb{h:Nat}{w:List Nat}(hw:WayR rs h w):∀ k∈w,∃ w',WayR rs k w'/\w' <:+ w/\k∈w':=by
 induction hw with
 | nil=>intro k hk; cases hk
 | @cons j r w hr hw' ih =>
  intro k hk
  rcases Yn.mp hk with rfl | hk
  ·exact⟨_,.cons hr hw',List.suffix_refl _,.head _⟩
  ·obtain⟨w',h1,h2,h3⟩:=ih k hk
   exact⟨w',h1,h2.trans (List.suffix_cons _ _),h3⟩
def ZlV{h k r:Nat}{w:List Nat}(hw:WayR rs h w)(hk:k∈w)(hr:r∈w)(hl:(wayL rs r).length<=(wayL rs k).length):r∈wayL rs k:=by
 obtain⟨wk,h1,h2,_⟩:=Zhb hw k hk
 obtain⟨wr,h3,h4,h5⟩:=Zhb hw r hr
 rw [Zbf h1] at hl ⊢
 rw [Zbf h3] at hl
 exact (List.suffix_of_suffix_length_le h4 h2 hl).subset h5
def Zll{h k r:Nat}{w:List Nat}(hw:WayR rs h w)(hk:k∈w)(hr:r∈wayL rs k):r∈w:=by
 obtain⟨wk,h1,h2,_⟩:=Zhb hw k hk
 rw [Zbf h1] at hr
 exact h2.subset hr
def sm(l:List α)(f:α->Int):Int:=(l.map f).sum
theorem ZgG(f:α->Int):sm [] f=0:=rfl
theorem ZJ(x:α)(l:List α)(f:α->Int):sm (x :: l) f=f x + sm l f:=by unfold sm; rw [List.map_cons,List.sum_cons]
theorem ZbM(l m:List α)(f:α->Int):sm (l ++ m) f=sm l f + sm m f:=by unfold sm; rw [List.map_append,List.sum_append]
def Zgh(l:List α)(f g:α->Int):sm l (λx=>f x + g x)=sm l f + sm l g:=by
 induction l with
 | nil=>rfl
 | cons x l ih=>rw [ZJ,ZJ,ZJ,ih]; omega
def Zh4(l:List α)(f g:α->Int):sm l (λx=>f x - g x)=sm l f - sm l g:=by
 induction l with
 | nil=>rfl
 | cons x l ih=>rw [ZJ,ZJ,ZJ,ih]; omega
def Zkv{l:List α}{f g:α->Int}(h:∀ x∈l,f x<=g x):sm l f<=sm l g:=by
 induction l with
 | nil=>exact Int.le_refl _
 | cons x l ih=>rw [ZJ,ZJ]; have:=h x (.head _); have:=ih λy hy=>h y (.tail _ hy); omega
def ZaK{l:List α}{f g:α->Int}(h:∀ x∈l,f x=g x):sm l f=sm l g:=by
 unfold sm
 rw [YQ h]
theorem ZaX{l:List α}{f:α->Int}(h:∀ x∈l,f x=0):sm l f=0:=by
 rw [ZaK h]
 induction l with
 | nil=>rfl
 | cons x l ih=>rw [ZJ,ih λy hy=>h y (.tail _ hy)]; rfl
def Zb9{l:List α}{f:α->Int}(h:∀ x∈l,0<=f x):0<=sm l f:=by
 have:=Zkv (f:=λ_=>0) h
 rw [ZaX λ_ _=>rfl] at this
 exact this
def Zew{l:List α}{f:α->Int}(h:∀ x∈l,0<=f x){x:α}(hx:x∈l):f x<=sm l f:=by
 induction l with
 | nil=>cases hx
 | cons y l ih =>
  rw [ZJ]
  have h0:=h y (.head _)
  have h1:=Zb9 λz hz=>h z (.tail _ hz)
  rcases Yn.mp hx with rfl | hx
  ·omega
  ·have:=ih (λz hz=>h z (.tail _ hz)) hx
   omega
def Zd5{α β:Type}(l:List α)(m:List β)(f:α->β->Int):sm l (λx=>sm m (f x))=sm m (λy=>sm l (λx=>f x y)):=by
 induction l with
 | nil=>rw [ZgG]; exact (ZaX λ_ _=>rfl).symm
 | cons x l ih=>rw [ZJ,ih,<- Zgh]; exact ZaK λy _=>(ZJ x l λx=>f x y).symm
def Zbt{l m:List α}(h:l.Perm m)(f:α->Int):sm l f=sm m f:=by
 induction h with
 | nil=>rfl
 | cons x _ ih=>rw [ZJ,ZJ,ih]
 | swap x y l=>rw [ZJ,ZJ,ZJ,ZJ]; omega
 | trans _ _ ih1 ih2=>exact ih1.trans ih2
def ZaJ(l:List α)(p:α->Bool)(f:α->Int):sm (l.filter p) f=sm l (λx=>if p x=true then f x else 0):=by
 induction l with
 | nil=>rfl
 | cons x l ih =>
  rw [ZJ]
  by_cases c:p x=true
  ·rw [Yam c,ZJ,ih,if_pos c]
  ·rw [V2 c,ih,if_neg c]; omega
def Zir(l:List α)(p:α->Bool)(f:α->Int):sm l f=sm (l.filter p) f + sm (l.filter λx=>!p x) f:=by
 rw [ZaJ,ZaJ,<- Zgh]
 refine ZaK λx _=>?_
 cases p x <;> simp
def ZcE[DecidableEq α]{l:List α}(hn:l.Nodup){r:α}(hr:r∈l)(f:α->Int):sm l (λk=>if k=r then f k else 0)=f r:=by
 induction l with
 | nil=>cases hr
 | cons x l ih =>
  rw [ZJ]
  rw [Y4] at hn
  by_cases c:x=r
  ·subst c
   rw [if_pos rfl,ZaX λy hy=>if_neg (λe:y=x=>hn.1 (by rw [<- e]; exact hy))]
   omega
  ·rw [if_neg c,ih hn.2 (by rcases Yn.mp hr with h | h; exact absurd h.symm c; exact h)]
   omega
structure PayOk(rs:List (Nat × Rat))(hf:Str->Nat)(ss:List Str)(cs:Nat->Int)(D:List Nat)(pay:Nat->Str->Int):Prop where
 nn:∀ k z,0<=pay k z
 on:∀ k z,pay k z ≠ 0->k∈D/\z∈ss/\k∈wayL rs (hf z)
 full:∀ k∈D,sm ss (pay k)=cs k
def Zd7(rs:List (Nat × Rat))(hf:Str->Nat)(cs:Nat->Int)(a:Str->Int)(G:List Str):Prop:=∀ acc:List Nat,acc.Nodup->(∀ k,k∈acc ↔ Jf rs (G.map hf) k)->sm acc cs < sm G a
def ZaB{G:List Str}(hO:∀ z∈G,WayR rs (hf z) (wayL rs (hf z))):Jf rs (G.map hf) k ↔ ∃ z∈G,k∈wayL rs (hf z):=by
 rw [ZmK]
 constructor
 ·rintro⟨z,hz,w,hw,hk⟩
  exact⟨z,hz,by rw [Zbf hw]; exact hk⟩
 ·rintro⟨z,hz,hk⟩
  exact⟨z,hz,_,hO z hz,hk⟩
def Zky{fr acc:List Nat}{cs g:Nat->Int}(hn:acc.Nodup)(hfn:fr.Nodup)(hs:∀ k∈acc,k∈fr)(hg:∀ k∈fr,k ∉ acc->0<=cs k - g k)(hg2:∀ k∈acc,g k=0):sm acc cs<=sm fr cs - sm fr g:=by
 have hp:acc.Perm (fr.filter λk=>decide (k∈acc)):=(List.perm_ext_iff_of_nodup hn (hfn.filter _)).mpr λk=>by
  rw [YB]
  simp
  exact λh=>hs k h
 rw [Zbt hp,ZaJ,<- Zh4]
 refine Zkv λk hk=>?_
 by_cases c:k∈acc
 ·rw [if_pos (by simpa using c),hg2 k c]; omega
 ·rw [if_neg (by simpa using c)]; exact hg k hk c
variable {cs:Nat->Int}{pay:Nat->Str->Int}
def ZkO{ss U G:List Str}{a:Str->Int}{D rest:List Nat}{r:Nat}(hO:∀ z∈ss,WayR rs (hf z) (wayL rs (hf z)))(hfn:(D ++ r :: rest).Nodup)
  (hm:∀ k,k∈D ++ r :: rest ↔ Jf rs (ss.map hf) k) (hw:(D ++ r :: rest).Pairwise (λa b=>(wayL rs b).length<=(wayL rs a).length)) (hc:∀ k,0<=cs k) (hP:PayOk rs hf ss cs D pay) (ht:sm (D ++ r :: rest) cs=sm ss a)
  (hU:U.Perm (ss.filter λz=>decide (r∈wayL rs (hf z)))) (hlt:sm U (λz=>a z - sm (D ++ r :: rest) (λk=>pay k z)) < cs r) (hG:G.Perm (ss.filter λz=>!decide (z∈U))):Zd7 rs hf cs a G:=by
 intro acc han ham
 have hUm:∀ z,z∈U ↔ z∈ss/\r∈wayL rs (hf z):=λz=>by rw [hU.mem_iff,List.mem_filter]; simp
 have hGm:∀ z,z∈G ↔ z∈ss/\z ∉ U:=λz=>by rw [hG.mem_iff,List.mem_filter]; simp
 have hOG:∀ z∈G,WayR rs (hf z) (wayL rs (hf z)):=λz hz=>hO z ((hGm z).mp hz).1
 -- what those who use r have paid,road by road
 let u:Nat->Int:=λk=>sm U (pay k)
 let g:Nat->Int:=λk=>u k + if k=r then cs k else 0
 have hrf:r∈D ++ r :: rest:=by simp
 have hrD:r ∉ D:=λc=>(Yau.mp hfn).2.2 r c r (.head _) rfl
 have eU:sm ss (λz=>if decide (z∈U)=true then a z else 0)=sm U a:=by
  rw [<- ZaJ]
  refine Zbt ?_ a
  refine List.Perm.trans (List.Perm.of_eq ?_) hU.symm
  refine List.filter_congr λz hz=>?_
  rw [decide_eq_decide,hUm]
  exact⟨λh=>h.2,λh=>⟨hz,h⟩⟩
 have e1:sm ss a=sm U a + sm G a:=by
  rw [Zir ss (λz=>decide (z∈U)),ZaJ ss (λz=>decide (z∈U)),eU,Zbt hG]
 have e2:sm U (λz=>a z - sm (D ++ r :: rest) (λk=>pay k z))=sm U a - sm (D ++ r :: rest) u:=by
  rw [Zh4,Zd5]
 have e3:sm (D ++ r :: rest) g=sm (D ++ r :: rest) u + cs r:=by
  rw [Zgh,ZcE hfn hrf]
 have hu:∀ k,u k<=cs k\/k ∉ D:=λk=>by
  by_cases c:k∈D
  ·left
   have:sm U (pay k)<=sm ss (pay k):=by
    rw [Zbt hU,ZaJ]
    refine Zkv λz _=>?_
    split
    ·exact Int.le_refl _
    ·exact hP.nn k z
   rw [hP.full k c] at this
   exact this
  ·exact .inr c
 have hu0:∀ k,k ∉ D->u k=0:=λk c=>ZaX λz _=>by
  by_cases h:pay k z=0
  ·exact h
  ·exact absurd (hP.on k z h).1 c
 have key:=Zky (cs:=cs) (g:=g) han hfn (λk hk=>?_) (λk hk hka=>?_) λk hk=>?_
 ·omega
 ·-- a road needed by others is needed by all
  obtain⟨z,hz,hkz⟩:=(ZaB hOG).mp ((ham k).mp hk)
  exact (hm k).mpr ((ZaB hO).mpr ⟨z,((hGm z).mp hz).1,hkz⟩)
 ·show 0<=cs k - (u k + if k=r then cs k else 0)
  by_cases c:k=r
  ·rw [if_pos c,hu0 k (c ▸ hrD)]; omega
  ·rw [if_neg c]
   rcases hu k with h | h
   ·omega
   ·rw [hu0 k h]; have:=hc k; omega
 ·show u k + (if k=r then cs k else 0)=0
  obtain⟨z,hz,hkz⟩:=(ZaB hOG).mp ((ham k).mp hk)
  obtain⟨hzs,hzU⟩:=(hGm z).mp hz
  have hkr:k ≠ r:=λc=>hzU ((hUm z).mpr ⟨hzs,c ▸ hkz⟩)
  rw [if_neg hkr,VY]
  refine ZaX λz' hz'=>?_
  by_cases h:pay k z'=0
  ·exact h
  ·obtain⟨hkD,hz's,hkz'⟩:=hP.on k z' h
   have hl:(wayL rs r).length<=(wayL rs k).length:=(List.pairwise_append.mp hw).2.2 k hkD r (.head _)
   have hrk:r∈wayL rs k:=ZlV (hO z' hz's) hkz' ((hUm z').mp hz').2 hl
   exact absurd ((hUm z).mpr ⟨hzs,Zll (hO z hzs) hkz hrk⟩) hzU
structure Jd(H:Hp)(CT:Addr)(x:V)(d sd:Addr)(rs:List (Nat × Rat))(o:Obj)(kvs svs:List (ZU × V))(ss:List Str)(hf:Str->Nat)(B:Nat)(a:Str->Int)(cs:Nat->Int):Prop where
 tree:JK CT H x rs
 home:H d=some (.frz o (.dK kvs))
 keys:kvs.map (·.1)=ss.map Sum.inr
 share:Rd H sd (.dK svs)
 shv:ShV H svs ss (λz=>Zm B (a z))
 nd:ss.Nodup
 few:ss.length<=12
 hat:∀ gs:List Str,(∀ z∈gs,z∈ss)->Zcb kvs gs (gs.map hf) rs.length
 rl:rs.length<=20
 ok:Zcp rs
 sz:∀ r∈rs,Jo 110 r.2
 b0:0 < B
 b1:B < 2 ^ 2600
 az:∀ z∈ss,(a z).natAbs < 2 ^ 2600
 c0:∀ k,0<=cs k
 cz:∀ k,(cs k).natAbs < 2 ^ 2600
 pr:∀ k,1<=k->k<=rs.length->Zl rs k=Zm B (cs k)
 tot:∀ ks:List Nat,ks.Nodup->(∀ k,k∈ks ↔ Jf rs (ss.map hf) k)->sm ks cs=sm ss a
section
variable {H:Hp}{CT:Addr}{x:V}{d sd:Addr}{rs:List (Nat × Rat)}{o:Obj}{kvs svs:List (ZU × V)}{ss:List Str}{hf:Str->Nat}{B:Nat}{a:Str->Int}{cs:Nat->Int}
theorem Jd.same(J:Jd H CT x d sd rs o kvs svs ss hf B a cs){H':Hp}(s:Zk H H'):Jd H' CT x d sd rs o kvs svs ss hf B a cs :=
 { J with tree:=J.tree.same s,home:=s _ _ J.home,share:=ZbN J.share s,shv:=J.shv.keep λb ys e=>s _ _ e }
theorem Jd.kv(J:Jd H CT x d sd rs o kvs svs ss hf B a cs):(kvs.map λkv=>kV kv.1)=ss.map V.str:=by
 have:=congrArg (List.map kV) J.keys
 rw [Ys,Ys] at this
 exact this
theorem Jd.kl(J:Jd H CT x d sd rs o kvs svs ss hf B a cs):kvs.length=ss.length:=by have:=congrArg List.length J.keys; simpa using this
def Jd.way(J:Jd H CT x d sd rs o kvs svs ss hf B a cs):∀ z∈ss,WayR rs (hf z) (wayL rs (hf z)):=λz hz=>by
 have h:=(J.hat [z] (λy hy=>by rw [YF.mp hy]; exact hz)).2 0 z (hf z) rfl rfl
 obtain⟨w,hw,_⟩:=Zbs J.ok h.2
 rw [Zbf hw]
 exact hw
def Jd.price(J:Jd H CT x d sd rs o kvs svs ss hf B a cs){ks:List Nat}(h:∀ k∈ks,1<=k/\k<=rs.length):Zqu rs ks=Zm B (sm ks cs):=by
 unfold Zqu
 have e:ks.map (Zl rs)=(ks.map cs).map (Zm B):=by
  rw [Ys]
  exact YQ λk hk=>J.pr k (h k hk).1 (h k hk).2
 rw [e,Zca J.b0 _ _ (by simp),List.take_of_length_le (by simp)]
 rfl
end
def Zkn{a:Str->Int}(hl:ss.length<=12)(h:∀ z∈ss,(a z).natAbs < 2 ^ 2600):(sm ss a).natAbs < 2 ^ 2700:=by
 have:∀ l:List Str,(∀ z∈l,(a z).natAbs < 2 ^ 2600)->(sm l a).natAbs<=l.length * 2 ^ 2600:=by
  intro l
  induction l with
  | nil=>intro _; simp [ZgG]
  | cons z l ih =>
   intro h
   have h1:=ih λy hy=>h y (.tail _ hy)
   have h2:=h z (.head _)
   rw [ZJ,YR,Nat.add_mul,Nat.one_mul]
   refine Yj (Int.natAbs_add_le _ _) ?_
   omega
 have h1:=this ss h
 refine YA h1 ?_
 refine YA (Nat.mul_le_mul_right _ hl) ?_
 rw [show (2700:Nat)=100 + 2600 from rfl,Vi]
 exact Nat.mul_lt_mul_of_pos_right (by decide) (Vr _)
def ZiK(CT:Addr):Sp:=λvs H Q E=>∃ (x:V) (d:Addr) (kvs:List (ZU × V)),vs=[x,.ref d]/\Rd H d (.dK kvs)/\∀ g H',H g=none->Zk H H'->H' g=some (.lst (kvs.map λkv=>kV kv.1))->Zf7 CT [x,.ref d,.ref g] H' Q E
def ZiE(CT:Addr):Sp:=λvs H Q _=>∃ (x:V) (d sd:Addr) (rs:List (Nat × Rat)) (o:Obj) (kvs svs:List (ZU × V)) (ss:List Str) (hf:Str->Nat) (B:Nat) (a:Str->Int) (cs:Nat->Int),vs=[x,.ref d,.ref sd]/\Jd H CT x d sd rs o kvs svs ss hf B a cs/\∀ H',Zk H H'->Q .non H'
def ZmH(F:Fun K "look_sharing" "look_sharing" Zbw f fd)(ZiP:mg "set"=none)(ZG:mg "list"=none)(ZaF:Fn P w K mg base ZD 4 "total_of" ["some"] (ZdP K))(ZbO:Fn P w K mg base ZD 6 "cost_of_all" ["tree","homes"] (ZiK CT)):FnOk P w K mg base ZD 7 f fd ["tree","homes","sharing"] (ZiE CT):=by
 refine JU F ZeP λcdv A outer s H vs Q E hr h=>?_
 obtain⟨x,d,sd,rs,o,kvs,svs,ss,hf,B,a,cs,rfl,J,q⟩:=h
 refine⟨_,(Zd (Jm (Zo1 (Nat.lt_of_succ_lt (Z9 hr)) rfl ZiP (Zi (Ze 2) Za) (Zi (Ze 1) Za)) (Zh Zbv) ZV)
   (Zh (Jm (ZrQ hr (Jb ZaF hr (Zi (Zjk rfl ZG (Ze 2)) Za)) (Jb ZbO hr (Zi (Ze 0) (Zi (Ze 1) Za)))) (Zh Zbv) ZV))),?_⟩
 rw [show Zz ["tree","homes","sharing"] [x,.ref d,.ref sd]=[some (x),some (.ref d),some (.ref sd)] from rfl]
 refine Zx λR0 hR0=>?_
 refine Jt λA0 hA0 C0 hC0=>?_
 simp only [Zkd,tB]
 walk_at "rd"
 have hsk:=J.shv.keys
 refine⟨svs,J.share,by rw [J.shv.1]; have:=J.few; omega,kvs,.inr ⟨o,J.home⟩,by rw [J.kl]; have:=J.few; omega,λr hr=>?_⟩
 have hrt:r=true:=hr.mpr ⟨by rw [J.kl]; exact J.shv.1,λk hk=>by rw [J.keys]; rw [hsk] at hk; exact hk⟩
 rw [hrt,if_neg (by decide)]
 subst hC0
 walk_at "rd"
 subst hR0
 try dsimp only
 refine Jt λA0 hA0 C0 hC0=>?_
 walk_at "rd"
 simp only [Zow]
 walk_at "rd"
 refine⟨svs,J.share,λl H1 hl s1 e1=>?_⟩
 have hRv:ZdI H1 (svs.map (·.2)) ((ss.map a).map (Zm B)):=⟨by simp [J.shv.1],λi v t h1 h2=>by
  rw [Yg] at h1
  rw [Ys,Yg] at h2
  obtain⟨z,hz,rfl⟩:=Yx.mp h2
  obtain⟨v',e',r'⟩:=J.shv.2 i z hz
  rw [e'] at h1
  cases h1
  exact r'.same s1⟩
 refine⟨l,svs.map (·.2),_,rfl,.of e1,hRv,Zgw J.b0 J.b1 (λm hm=>?_),by simp; have:=J.few; omega,λr1 H2 s2 v1=>?_⟩
 ·obtain⟨z,hz,rfl⟩:=Yk.mp hm
  exact Yu (J.az z hz) (YO (by decide) (by decide))
 rw [ZdO J.b0] at v1
 have s12:=s1.trans s2
 refine⟨x,d,kvs,rfl,.inr ⟨o,s12 _ _ J.home⟩,λg H3 hg s3 e3=>?_⟩
 rw [J.kv] at e3
 have s13:=s12.trans s3
 refine⟨x,rs,d,g,kvs,ss,ss.map hf,rfl,J.tree.same s13,.inr ⟨o,s13 _ _ J.home⟩,e3,J.hat ss λ_ hz=>hz,J.rl,by have:=J.few; omega,J.ok,J.sz,λr2 H4 ks s4 hpw hmem v2 _=>?_⟩
 have hkn:ks.Nodup:=hpw.imp λh e=>by rw [e] at h; exact Y1 _ h
 rw [J.price λk hk=>Z5 ((hmem k).mp hk),J.tot ks hkn hmem] at v2
 obtain⟨p1,p2,rfl,rfl,he⟩:=Zfp (v1.same (s3.trans s4)) v2
 refine⟨true,1,p1,p2,rfl,rfl,he,by decide,_,rfl,?_⟩
 rw [if_neg (by decide)]
 subst hC0
 walk_at "rd"
 exact q H4 (s13.trans s4)
def JM(rows:List (Str × Int))(z:Str):Int:=sm rows λp=>if z=p.1 then p.2 else 0
def Zpp(z:Str):JM [] z=0:=rfl
def ZfD{rows:List (Str × Int)}{i:Nat}{p:Str × Int}(h:rows[i]?=some p)(z:Str):JM (rows.take (i + 1)) z=JM (rows.take i) z + if z=p.1 then p.2 else 0:=by
 unfold JM
 rw [Yp,h,ZbM]
 simp [sm]
def Ziy{rows:List (Str × Int)}(h:∀ p∈rows,0<=p.2)(i:Nat)(z:Str):0<=JM (rows.take i) z/\JM (rows.take i) z<=JM rows z:=by
 have hn:∀ l:List (Str × Int),(∀ p∈l,0<=p.2)->0<=JM l z:=λl hl=>Zb9 λp hp=>by
  show 0<=if z=p.1 then p.2 else 0
  split
  ·exact hl p hp
  ·exact Int.le_refl _
 have e:JM rows z=JM (rows.take i) z + JM (rows.drop i) z:=by
  unfold JM
  rw [<- ZbM,Yao]
 have h1:=hn (rows.take i) λp hp=>h p (List.mem_of_mem_take hp)
 have h2:=hn (rows.drop i) λp hp=>h p (List.mem_of_mem_drop hp)
 omega
def Zfy:∀ (ts:List Str) (d:Int) (l:Str->Int),ts.Nodup->0<=d->(∀ z∈ts,0<=l z)->∀ z,0<=JM (ts.zip (ZX d (ts.map l))) z/\(z ∉ ts->JM (ts.zip (ZX d (ts.map l))) z=0)/\(z∈ts->JM (ts.zip (ZX d (ts.map l))) z<=l z)
 | [],_,_,_,_,_,z=>⟨Int.le_refl _,λ_=>rfl,λh=>by cases h⟩
 | y :: ts,d,l,hn,hd,hl,z=>by
  rw [Y4] at hn
  have h0:=hl y (.head _)
  obtain⟨h1,h2,h3⟩:=Zfy ts (d - min (l y) d) l hn.2 (by omega) (λx hx=>hl x (.tail _ hx)) z
  rw [Yr,ZX,List.zip_cons_cons]
  unfold JM at h1 h2 h3 ⊢
  rw [ZJ]
  dsimp only
  by_cases c:z=y
  ·subst c
   rw [if_pos rfl,h2 hn.1]
   exact⟨by omega,λh=>absurd (Vf ..) h,λ_=>by omega⟩
  ·rw [if_neg c]
   refine⟨by omega,λh=>?_,λh=>?_⟩
   ·rw [h2 λhm=>h (.tail _ hm)]; rfl
   ·have:=h3 (by rcases Yn.mp h with h | h; exact absurd h c; exact h)
    omega
def Zo(ts:List Str)(d:Int)(l:Str->Int):List (Str × Int):=(ts.zip (ZX d (ts.map l))).filter λp=>decide (0 < p.2)
variable {ts:List Str}{d:Int}{l:Str->Int}
def ZiF(hd:0<=d)(hl:∀ z∈ts,0<=l z):∀ p∈ts.zip (ZX d (ts.map l)),0<=p.2:=λp hp=>by
 obtain⟨i,hi,e⟩:=Vz hp
 rw [List.getElem_zip] at e
 have hi1:i < ts.length:=by rw [Vh] at hi; omega
 have hi2:i < (ZX d (ts.map l)).length:=by rw [Vh] at hi; omega
 have:=(Zfu d (ts.map l) hd (λx hx=>by obtain⟨z,hz,rfl⟩:=Yk.mp hx; exact hl z hz)).1 i (l ts[i]) (ZX d (ts.map l))[i] (by rw [Yg,Yc hi1]; rfl) (Yc hi2)
 rw [<- e]
 exact this.1
def ZcL(hd:0<=d)(hl:∀ z∈ts,0<=l z)(z:Str):JM (Zo ts d l) z=JM (ts.zip (ZX d (ts.map l))) z:=by
 unfold JM Zo
 rw [ZaJ]
 refine ZaK λp hp=>?_
 have:=ZiF hd hl p hp
 by_cases c:0 < p.2
 ·rw [if_pos (YL c)]
 ·rw [if_neg (by simpa using c)]
  split
  ·omega
  ·rfl
def ZnD{ss ts:List Str}(hn:ss.Nodup)(hs:∀ z∈ts,z∈ss)(hd:0<=d)(hl:∀ z∈ts,0<=l z)(hge:d<=sm ts l):sm ss (JM (Zo ts d l))=d:=by
 rw [ZaK λz _=>ZcL hd hl z]
 unfold JM
 rw [Zd5]
 have e:sm (ts.zip (ZX d (ts.map l))) (λy=>sm ss λx=>if x=y.1 then y.2 else 0)=sm (ts.zip (ZX d (ts.map l))) (λp=>p.2):=ZaK λp hp=>by
  have hp1:p.1∈ss:=hs _ (VS hp).1
  exact ZcE hn hp1 λ_=>p.2
 rw [e]
 have e2:sm (ts.zip (ZX d (ts.map l))) (λp=>p.2)=(ZX d (ts.map l)).sum:=by
  unfold sm
  rw [show (ts.zip (ZX d (ts.map l))).map (λp=>p.2)=(ts.zip (ZX d (ts.map l))).map Prod.snd from rfl,List.map_snd_zip (by rw [Zd9,Ye]; exact Yd _)]
 rw [e2]
 exact (Zfu d (ts.map l) hd λx hx=>by obtain⟨z,hz,rfl⟩:=Yk.mp hx; exact hl z hz).2 hge
def Zck{p:Str × Int}(h:p∈Zo ts d l):p.1∈ts/\0 < p.2:=by
 obtain⟨h1,h2⟩:=YB.mp h
 exact⟨(List.of_mem_zip h1).1,by simpa using h2⟩
def Zmk{ss ts:List Str}{a:Str->Int}{fr:List Nat}{i r:Nat}(hn:ss.Nodup)(hfn:fr.Nodup)(hr:fr[i]?=some r)(hc:∀ k,0<=cs k)(hP:PayOk rs hf ss cs (fr.take i) pay)
  (hU:ts.Perm (ss.filter λz=>decide (r∈wayL rs (hf z)))) (hl:∀ z∈ss,0<=a z - sm fr (λk=>pay k z)) (hge:cs r<=sm ts λz=>a z - sm fr (λk=>pay k z)) :
  ∃ pay',PayOk rs hf ss cs (fr.take (i + 1)) pay'/\(∀ z,a z - sm fr (λk=>pay' k z)=(a z - sm fr (λk=>pay k z)) - JM (Zo ts (cs r) λz=>a z - sm fr (λk=>pay k z)) z)/\(∀ k z,k ≠ r->pay' k z=pay k z)/\∀ z,pay' r z=JM (Zo ts (cs r) λz=>a z - sm fr (λk=>pay k z)) z:=by
 have hts:∀ z∈ts,z∈ss/\r∈wayL rs (hf z):=λz hz=>by have:=List.mem_filter.mp (hU.mem_iff.mp hz); simpa using this
 have hlt:∀ z∈ts,0<=a z - sm fr (λk=>pay k z):=λz hz=>hl z (hts z hz).1
 have htn:ts.Nodup:=hU.symm.nodup (hn.filter _)
 have hrD:r ∉ fr.take i:=λc=>by
  have h1:(fr.take (i + 1)).Nodup:=hfn.sublist (Vp _ _)
  rw [Yp,hr] at h1
  exact (List.nodup_append.mp h1).2.2 r c r (by simp) rfl
 have h0:∀ z,pay r z=0:=λz=>by
  by_cases h:pay r z=0
  ·exact h
  ·exact absurd (hP.on r z h).1 hrD
 have hz:=Zfy ts (cs r) (λz=>a z - sm fr (λk=>pay k z)) htn (hc r) hlt
 have tk:∀ k,k∈fr.take (i + 1) ↔ k∈fr.take i\/k=r:=λk=>by rw [List.take_add_one,hr,List.mem_append]; simp
 refine⟨λk z=>if k=r then JM (Zo ts (cs r) λz=>a z - sm fr (λk=>pay k z)) z else pay k z,⟨λk z=>?_,λk z h=>?_,λk hk=>?_⟩,λz=>?_,λk z h=>if_neg h,λz=>if_pos rfl⟩
 ·show 0<=if k=r then _ else _
  split
  ·rw [ZcL (hc r) hlt]; exact (hz z).1
  ·exact hP.nn k z
 ·by_cases c:k=r
  ·have h:JM (Zo ts (cs r) λz=>a z - sm fr (λk=>pay k z)) z ≠ 0:=by simpa [c] using h
   rw [ZcL (hc r) hlt] at h
   have hzt:z∈ts:=Vn λhn=>h ((hz z).2.1 hn)
   exact⟨(tk k).mpr (.inr c),(hts z hzt).1,c ▸ (hts z hzt).2⟩
  ·have h:pay k z ≠ 0:=by simpa [c] using h
   obtain⟨h1,h2,h3⟩:=hP.on k z h
   exact⟨(tk k).mpr (.inl h1),h2,h3⟩
 ·by_cases c:k=r
  ·subst c
   simp only [if_true]
   exact ZnD hn (λz hz=>(hts z hz).1) (hc k) hlt hge
  ·simp only [if_neg c]
   exact hP.full k (((tk k).mp hk).resolve_right c)
 ·have hrf:r∈fr:=Yl hr
  have e:sm fr (λk=>if k=r then JM (Zo ts (cs r) λz=>a z - sm fr (λk=>pay k z)) z else pay k z)=sm fr (λk=>pay k z) + sm fr (λk=>if k=r then JM (Zo ts (cs r) λz=>a z - sm fr (λk=>pay k z)) z else 0):=by
   rw [<- Zgh]
   refine ZaK λk _=>?_
   by_cases c:k=r
   ·rw [if_pos c,if_pos c,c,h0]; omega
   ·rw [if_neg c,if_neg c]; omega
  show a z - sm fr (λk=>if k=r then _ else _)=_
  rw [e,ZcE hfn hrf λ_=>JM (Zo ts (cs r) λz=>a z - sm fr (λk=>pay k z)) z]
  omega
def ZkH{a:Str->Int}{fr:List Nat}(hP:PayOk rs hf ss cs fr pay)(hl:∀ z∈ss,0<=a z - sm fr (λk=>pay k z))(ht:sm fr cs=sm ss a):∀ z∈ss,a z=sm fr (λk=>pay k z):=λz hz=>by
 have h1:=Zew hl hz
 rw [Zh4,Zd5,<- ht,ZaK (f:=λy=>sm ss (pay y)) (g:=cs) λk hk=>hP.full k hk] at h1
 have h2:=hl z hz
 omega
def ZqK{ss G:List Str}{a:Str->Int}(hO:∀ z∈ss,WayR rs (hf z) (wayL rs (hf z)))(hn:ss.Nodup)(hc:∀ k,0<=cs k)(htot:∀ ks:List Nat,ks.Nodup->(∀ k,k∈ks ↔ Jf rs (ss.map hf) k)->sm ks cs=sm ss a)
  (hz:z∈ss) (ha:a z < 0) (hG:G.Perm (ss.filter λy=>!decide (y∈[z]))):Zd7 rs hf cs a G:=by
 classical
 intro acc han ham
 have hnr:(List.range' 1 rs.length).Nodup:=(List.pairwise_lt_range' (s:=1) (n:=rs.length)).imp λh e=>by rw [e] at h; exact Y1 _ h
 have hGm:∀ y∈G,y∈ss:=λy hy=>(YB.mp (hG.mem_iff.mp hy)).1
 have hks:=htot ((List.range' 1 rs.length).filter λk=>decide (Jf rs (ss.map hf) k)) (hnr.filter _) λk=>by
  rw [YB,V7,Y3]
  exact⟨λh=>h.2,λh=>⟨⟨(Z5 h).1,by have:=(Z5 h).2; omega⟩,h⟩⟩
 have key:=Zky (cs:=cs) (g:=λ_=>0) han (hnr.filter λk=>decide (Jf rs (ss.map hf) k)) (λk hk=>?_) (λk _ _=>by have:=hc k; omega) λ_ _=>rfl
 ·rw [hks,ZaX (f:=λ_=>0) λ_ _=>rfl] at key
  have e1:sm ss a=sm (ss.filter λy=>decide (y∈[z])) a + sm (ss.filter λy=>!decide (y∈[z])) a:=Zir ss (λy=>decide (y∈[z])) a
  have e2:sm (ss.filter λy=>decide (y∈[z])) a=a z:=by
   rw [ZaJ]
   have:(λx=>if decide (x∈[z])=true then a x else 0)=λx=>if x=z then a x else 0:=by
    funext x
    simp
   rw [this]
   exact ZcE hn hz a
  rw [Zbt hG]
  omega
 ·obtain⟨y,hy,hky⟩:=(ZaB λz hz=>hO z (hGm z hz)).mp ((ham k).mp hk)
  have hN:Jf rs (ss.map hf) k:=(ZaB hO).mpr ⟨y,hGm y hy,hky⟩
  rw [YB,V7,Y3]
  exact⟨⟨(Z5 hN).1,by have:=(Z5 hN).2; omega⟩,hN⟩
def ZtI(B:Nat)(H:Hp)(v:V)(p:Nat × Str × Int):Prop:=∃ t r,v=.ref t/\H t=some (.tup [.int (p.1:Int),.str p.2.1,r])/\ZR H r (Zm B p.2.2)
def Zom(B:Nat)(H:Hp)(tvs:List V)(ps:List (Nat × Str × Int)):Prop:=JF (ZtI B) H tvs ps
def Zdw:ZgX (ZtI B):=λH H' v p h s=>let ⟨t,r,a1,a2,a3⟩:=h; ⟨t,r,a1,s _ _ a2,a3.keep s⟩
def JA(ps:List (Nat × Str × Int))(k:Nat):Int:=sm ps λp=>if p.1=k then p.2.2 else 0
def JH(ps:List (Nat × Str × Int))(z:Str):Int:=sm ps λp=>if z=p.2.1 then p.2.2 else 0
structure TabI(rs:List (Nat × Rat))(hf:Str->Nat)(ss:List Str)(D fr:List Nat)(pay:Nat->Str->Int)(ps:List (Nat × Str × Int)):Prop where
 row:∀ p∈ps,p.1∈D/\p.2.1∈ss/\p.1∈wayL rs (hf p.2.1)/\0 < p.2.2
 one:(ps.map λp=>(p.1,p.2.1)).Nodup
 road:∀ k,JA ps k=sm ss (pay k)
 name:∀ z,JH ps z=sm fr (λk=>pay k z)
def Zpy{rows:List (Str × Int)}(h:z ∉ rows.map (·.1)):JM rows z=0:=ZaX λp hp=>by
 have hne:z ≠ p.1:=λe=>h (by rw [e]; exact List.mem_map_of_mem hp)
 show (if z=p.1 then p.2 else 0)=0
 rw [if_neg hne]
def ZoF:∀ {rows:List (Str × Int)}{p:Str × Int},(rows.map (·.1)).Nodup->p∈rows->JM rows p.1=p.2
 | [],_,_,h=>by cases h
 | q :: rows,p,hn,h=>by
  rw [Yr,Y4] at hn
  unfold JM
  rw [ZJ]
  rcases Yn.mp h with rfl | h
  ·rw [if_pos rfl]
   have:=Zpy hn.1
   unfold JM at this
   omega
  ·have hne:p.1 ≠ q.1:=λe=>hn.1 (e ▸ List.mem_map_of_mem h)
   rw [if_neg hne]
   have:=ZoF hn.2 h
   unfold JM at this
   omega
def Zfi(hn:ts.Nodup):((Zo ts d l).map (·.1)).Nodup:=by
 have h1:((Zo ts d l).map (·.1)).Sublist ((ts.zip (ZX d (ts.map l))).map (·.1)):=(List.filter_sublist).map _
 rw [show (ts.zip (ZX d (ts.map l))).map (·.1)=(ts.zip (ZX d (ts.map l))).map Prod.fst from rfl,List.map_fst_zip (by rw [Zd9,Ye]; exact Yd _)] at h1
 exact hn.sublist h1
def ZgM{y:Str}:Zo (y :: ts) d l=(if 0 < min (l y) d then [(y,min (l y) d)] else []) ++ Zo ts (d - min (l y) d) l:=by
 unfold Zo
 rw [Yr,ZX,List.zip_cons_cons]
 by_cases c:0 < min (l y) d
 ·rw [List.filter_cons_of_pos (by simpa using c),if_pos c]; rfl
 ·rw [List.filter_cons_of_neg (by simpa using c),if_neg c]; rfl
def Zgg:∀ {ts:List Str}{l:Str->Int},(∀ z∈ts,0<=l z)->Zo ts 0 l=[]
 | [],_,_=>rfl
 | y :: ts,l,h=>by
  have h0:=h y (.head _)
  rw [ZgM,if_neg (by omega),show (0:Int) - min (l y) 0=0 by omega,Zgg λz hz=>h z (.tail _ hz)]
  rfl
def ZgH:∀ {ts:List Str}{d:Int}{l:Str->Int},0<=d->(∀ z∈ts,0<=l z)->((Zo ts d l).filter λp=>!decide (p.2=l p.1)).length<=1
 | [],_,_,_,_=>YD _
 | y :: ts,d,l,hd,h=>by
  have h0:=h y (.head _)
  have h1:∀ z∈ts,0<=l z:=λz hz=>h z (.tail _ hz)
  rw [ZgM,VN,YV]
  by_cases c:l y<=d
  ·rw [show min (l y) d=l y by omega]
   have:=ZgH (ts:=ts) (d:=d - l y) (l:=l) (by omega) h1
   split
   ·simp at this ⊢; exact this
   ·simp at this ⊢; exact this
  ·rw [show min (l y) d=d by omega,Int.sub_self,Zgg h1]
   split
   ·exact Yj (Vu (Nat.add_zero _)) (YU _ _)
   ·exact YD _
def ZjN(l:List α)(p:α->Bool):l.length=(l.filter p).length + (l.filter λx=>!p x).length:=by
 induction l with
 | nil=>rfl
 | cons x l ih =>
  by_cases c:p x=true
  ·rw [List.filter_cons_of_pos c,List.filter_cons_of_neg (by simp [c]),List.length_cons,List.length_cons,ih]; omega
  ·rw [List.filter_cons_of_neg c,List.filter_cons_of_pos (by simpa using c),List.length_cons,List.length_cons,ih]; omega
def Zrb(l:Str->Int)(ss:List Str):Nat:=(ss.filter λz=>decide (l z=0)).length
def Zm4{ss ts:List Str}(hn:ss.Nodup)(htn:ts.Nodup)(hts:∀ z∈ts,z∈ss)(hd:0<=d)(hl:∀ z∈ts,0<=l z):(Zo ts d l).length + Zrb l ss<=1 + Zrb (λz=>l z - JM (Zo ts d l) z) ss:=by
 have h1:=ZgH hd hl
 have hz:=Zfy ts d l htn hd hl
 have hra:=ZcL hd hl
 have hnm:=Zfi (d:=d) (l:=l) htn
 have hsp:(Zo ts d l).length=((Zo ts d l).filter λp=>decide (p.2=l p.1)).length + ((Zo ts d l).filter λp=>!decide (p.2=l p.1)).length:=ZjN _ _
 have hsub:(ss.filter (λz=>decide (l z=0)) ++ ((Zo ts d l).filter λp=>decide (p.2=l p.1)).map (·.1)).length<=(ss.filter λz=>decide (l z - JM (Zo ts d l) z=0)).length:=by
  refine VJ ?_ λz hz'=>?_
  ·refine Yau.mpr ⟨hn.filter _,hnm.sublist (List.filter_sublist.map _),λx hx y hy e=>?_⟩
   obtain⟨p,hp,rfl⟩:=Yk.mp hy
   have hp':=YB.mp hp
   have:=(Zck hp'.1).2
   have e1:p.2=l p.1:=by simpa using hp'.2
   have e2:l x=0:=by simpa using (List.mem_filter.mp hx).2
   rw [e] at e2
   omega
  ·rcases Yw.mp hz' with h | h
   ·obtain⟨g1,g2⟩:=YB.mp h
    have g2:l z=0:=by simpa using g2
    refine YB.mpr ⟨g1,?_⟩
    have g3:=hz z
    rw [<- hra z] at g3
    have:JM (Zo ts d l) z=0:=by
     by_cases c:z∈ts
     ·have:=g3.2.2 c; have:=g3.1; omega
     ·exact g3.2.1 c
    rw [g2,this]
    rfl
   ·obtain⟨p,hp,rfl⟩:=Yk.mp h
    obtain⟨g1,g2⟩:=YB.mp hp
    have g2:p.2=l p.1:=by simpa using g2
    refine YB.mpr ⟨hts _ (Zck g1).1,?_⟩
    rw [ZoF hnm g1]
    simp
    omega
 rw [YV,Ye] at hsub
 show (Zo ts d l).length + (ss.filter λz=>decide (l z=0)).length<=1 + (ss.filter λz=>decide (l z - JM (Zo ts d l) z=0)).length
 omega
theorem ZpQ(ps qs:List (Nat × Str × Int))(z:Str):JH (ps ++ qs) z=JH ps z + JH qs z:=by unfold JH; rw [ZbM]
theorem Zo8(ps qs:List (Nat × Str × Int))(k:Nat):JA (ps ++ qs) k=JA ps k + JA qs k:=by unfold JA; rw [ZbM]
def Zpr(r:Nat)(rows:List (Str × Int))(z:Str):JH (rows.map λp=>(r,p.1,p.2)) z=JM rows z:=by
 unfold JH JM sm
 rw [Ys]
 rfl
def Zo0(r k:Nat)(rows:List (Str × Int)):JA (rows.map λp=>(r,p.1,p.2)) k=if r=k then sm rows (λp=>p.2) else 0:=by
 unfold JA sm
 rw [Ys]
 split
 ·rename_i h
  refine congrArg List.sum (YQ λp _=>?_)
  show (if r=k then p.2 else 0)=p.2
  rw [if_pos h]
 ·rename_i h
  have:(rows.map ((λp:Nat × Str × Int=>if p.1=k then p.2.2 else 0) ∘ λp=>(r,p.1,p.2)))=rows.map λ_=>(0:Int):=YQ λp _=>by
   show (if r=k then p.2 else 0)=0
   rw [if_neg h]
  rw [this]
  have:=ZaX (l:=rows) (f:=λ_=>0) λ_ _=>rfl
  exact this
def ZnA{ss ts:List Str}(hn:ss.Nodup)(hs:∀ z∈ts,z∈ss):sm (Zo ts d l) (λp=>p.2)=sm ss (JM (Zo ts d l)):=by
 unfold JM
 rw [Zd5]
 refine ZaK λp hp=>?_
 exact (ZcE hn (hs _ (Zck hp).1) λ_=>p.2).symm
theorem Znp{ss ts:List Str}{a:Str->Int}{fr:List Nat}{i r:Nat}{ps:List (Nat × Str × Int)}(hn:ss.Nodup)(hfn:fr.Nodup)(hr:fr[i]?=some r)(hc:∀ k,0<=cs k)(hP:PayOk rs hf ss cs (fr.take i) pay)
  (hU:ts.Perm (ss.filter λz=>decide (r∈wayL rs (hf z)))) (hl:∀ z∈ss,0<=a z - sm fr (λk=>pay k z)) (hge:cs r<=sm ts λz=>a z - sm fr (λk=>pay k z)) (hT:TabI rs hf ss (fr.take i) fr pay ps) :
  ∃ pay',PayOk rs hf ss cs (fr.take (i + 1)) pay'/\(∀ z,a z - sm fr (λk=>pay' k z)=(a z - sm fr (λk=>pay k z)) - JM (Zo ts (cs r) λz=>a z - sm fr (λk=>pay k z)) z) /\
   TabI rs hf ss (fr.take (i + 1)) fr pay' (ps ++ (Zo ts (cs r) λz=>a z - sm fr (λk=>pay k z)).map λp=>(r,p.1,p.2)):=by
 obtain⟨pay',h1,h2,h3,h4⟩:=Zmk hn hfn hr hc hP hU hl hge
 have hts:∀ z∈ts,z∈ss/\r∈wayL rs (hf z):=λz hz=>by have:=List.mem_filter.mp (hU.mem_iff.mp hz); simpa using this
 have htn:ts.Nodup:=hU.symm.nodup (hn.filter _)
 have hrD:r ∉ fr.take i:=λc=>by
  have h1:(fr.take (i + 1)).Nodup:=hfn.sublist (Vp _ _)
  rw [Yp,hr] at h1
  exact (List.nodup_append.mp h1).2.2 r c r (by simp) rfl
 have tk:∀ k,k∈fr.take (i + 1) ↔ k∈fr.take i\/k=r:=λk=>by rw [List.take_add_one,hr,List.mem_append]; simp
 refine⟨pay',h1,h2,λp hp=>?_,?_,λk=>?_,λz=>?_⟩
 ·rcases Yw.mp hp with hp | hp
  ·have:=hT.row p hp
   exact⟨(tk _).mpr (.inl this.1),this.2⟩
  ·obtain⟨q,hq,rfl⟩:=Yk.mp hp
   have:=Zck hq
   exact⟨(tk _).mpr (.inr rfl),(hts _ this.1).1,(hts _ this.1).2,this.2⟩
 ·rw [YZ,Ys]
  refine Yau.mpr ⟨hT.one,?_,λx hx y hy e=>?_⟩
  ·have h5:=Zfi (d:=cs r) (l:=λz=>a z - sm fr (λk=>pay k z)) htn
   have h6:(Zo ts (cs r) λz=>a z - sm fr (λk=>pay k z)).map ((λp:Nat × Str × Int=>(p.1,p.2.1)) ∘ λp=>(r,p.1,p.2))=((Zo ts (cs r) λz=>a z - sm fr (λk=>pay k z)).map (·.1)).map λz=>(r,z):=by rw [Ys]; rfl
   rw [h6]
   exact VB.mpr (h5.imp λh e=>h (by injection e))
  ·obtain⟨p,hp,rfl⟩:=Yk.mp hx
   obtain⟨q,_,rfl⟩:=Yk.mp hy
   have e1:p.1=r:=congrArg Prod.fst e
   exact hrD (e1 ▸ (hT.row p hp).1)
 ·rw [Zo8,Zo0,hT.road k]
  have h5:=ZnA (d:=cs r) (l:=λz=>a z - sm fr (λk=>pay k z)) hn λz hz=>(hts z hz).1
  by_cases c:r=k
  ·subst c
   rw [if_pos rfl,h5,ZaK (f:=pay' r) λz _=>h4 z]
   have:sm ss (pay r)=0:=ZaX λz _=>Vn λh=>hrD (hP.on r z h).1
   omega
  ·rw [if_neg c,VY]
   exact ZaK λz _=>(h3 k z (Ne.symm c)).symm
 ·rw [ZpQ,Zpr,hT.name z]
  have:=h2 z
  omega
theorem Zpc{D fr:List Nat}:TabI rs hf ss D fr (λ_ _=>0) []:=⟨(λp hp=>by cases hp),List.nodup_nil,λk=>(ZaX λ_ _=>rfl).symm,λz=>(ZaX λ_ _=>rfl).symm⟩
structure TabOk(rs:List (Nat × Rat))(hf:Str->Nat)(ss:List Str)(cs:Nat->Int)(a:Str->Int)(qs:List (Nat × Str × Int)):Prop where
 row:∀ p∈qs,1<=p.1/\p.1<=rs.length/\p.2.1∈ss/\p.1∈wayL rs (hf p.2.1)/\0 < p.2.2
 up:qs.Pairwise λx y=>Jj (x.1,x.2.1) (y.1,y.2.1)=true
 few:qs.length < 64
 road:∀ k,Jf rs (ss.map hf) k->JA qs k=cs k
 name:∀ z∈ss,JH qs z=a z
def Zgu{α β:Type}{g:α->β}{l m:List β}(h:l.Perm m):∀ Z:List α,m=Z.map g->∃ Z':List α,Z'.Perm Z/\l=Z'.map g:=by
 induction h with
 | nil=>intro Z e; exact⟨[],by rw [List.map_eq_nil_iff.mp e.symm],rfl⟩
 | cons x _ ih =>
  intro Z e
  obtain⟨z,Z0,rfl,rfl,e0⟩:=List.map_eq_cons_iff.mp e.symm
  obtain⟨Z',h1,h2⟩:=ih Z0 e0.symm
  exact⟨z :: Z',h1.cons z,by rw [h2]; rfl⟩
 | swap x y l =>
  intro Z e
  obtain⟨z,Z0,rfl,rfl,e0⟩:=List.map_eq_cons_iff.mp e.symm
  obtain⟨z1,Z1,rfl,rfl,rfl⟩:=List.map_eq_cons_iff.mp e0
  exact⟨z1 :: z :: Z1,.swap ..,rfl⟩
 | trans _ _ ih1 ih2 =>
  intro Z e
  obtain⟨Z1,h1,e1⟩:=ih2 Z e
  obtain⟨Z2,h2,e2⟩:=ih1 Z1 e1
  exact⟨Z2,h2.trans h1,e2⟩
def Zjy{tvs:List V}{ps:List (Nat × Str × Int)}{qs:List (V × Int × Str)}(hT:Zom B H tvs ps)(hp:qs.Perm ((tvs.zip ps).map λx=>(x.1,(x.2.1:Int),x.2.2.1)))(hw:qs.Pairwise λx y=>Jj x.2 y.2=true) :
  ∃ ps',ps'.Perm ps/\Zom B H (qs.map (·.1)) ps'/\ps'.Pairwise λx y=>Jj (x.1,x.2.1) (y.1,y.2.1)=true:=by
 obtain⟨Z,h1,rfl⟩:=Zgu hp _ rfl
 have hl:tvs.length=ps.length:=hT.1
 refine⟨Z.map (·.2),?_,⟨by simp,λi x p hx hp'=>?_⟩,List.pairwise_map.mpr (List.pairwise_map.mp hw)⟩
 ·have:=h1.map Prod.snd
  rw [List.map_snd_zip (by omega)] at this
  exact this
 ·rw [Ys,Yg] at hx
  rw [Yg] at hp'
  obtain⟨z,hz,rfl⟩:=Yx.mp hx
  rw [hz] at hp'
  cases hp'
  obtain⟨j,hj,e⟩:=Vz (h1.mem_iff.mp (Yl hz))
  rw [List.getElem_zip] at e
  rw [Vh] at hj
  have hj1:j < tvs.length:=by omega
  have hj2:j < ps.length:=by omega
  rw [<- e]
  exact hT.2 j _ _ (Yc hj1) (Yc hj2)
def Znv{tvs:List V}{ps:List (Nat × Str × Int)}(hT:Zom B H tvs ps):∀ x∈(tvs.zip ps).map (λx=>((x.1,(x.2.1:Int),x.2.2.1):V × Int × Str)),∃ t r,x.1=.ref t/\H t=some (.tup [.int x.2.1,.str x.2.2,r]):=λx hx=>by
 obtain⟨z,hz,rfl⟩:=Yk.mp hx
 obtain⟨j,hj,e⟩:=Vz hz
 rw [List.getElem_zip] at e
 rw [Vh] at hj
 obtain⟨t,r,h1,h2,_⟩:=hT.2 j _ _ (Yc (show j < tvs.length by omega)) (Yc (show j < ps.length by omega))
 rw [<- e]
 exact⟨t,r,h1,h2⟩
def Zio{α β γ:Type}{tvs:List α}{ps:List β}(g:β->γ)(hl:tvs.length=ps.length):((tvs.zip ps).map λx=>(x.1,g x.2)).map (·.1)=tvs/\((tvs.zip ps).map λx=>(x.1,g x.2)).map (·.2)=ps.map g:=by
 rw [Ys,Ys]
 refine⟨?_,?_⟩
 ·show (tvs.zip ps).map Prod.fst=tvs
  exact List.map_fst_zip (by omega)
 ·show (tvs.zip ps).map (g ∘ Prod.snd)=_
  rw [<- Ys,List.map_snd_zip (by omega)]
def Zo4{ps qs:List (Nat × Str × Int)}(h:ps.Perm qs)(z:Str):JH ps z=JH qs z:=Zbt h _
def ZoP{ps qs:List (Nat × Str × Int)}(h:ps.Perm qs)(k:Nat):JA ps k=JA qs k:=Zbt h _
def Zgd(pt CT:Addr):Sp:=λvs H Q _=>∃ (x:V) (d sd:Addr) (rs:List (Nat × Rat)) (o:Obj) (kvs svs:List (ZU × V)) (ss:List Str) (hf:Str->Nat) (B:Nat) (a:Str->Int) (cs:Nat->Int),vs=[x,.ref d,.ref sd]/\Jd H CT x d sd rs o kvs svs ss hf B a cs/\ZhL H pt "far_roads_first.<locals>.<lambda>" /\
 (∀ r H' g (G:List Str),H g=none->Zk H H'->H' r=some (.tup [.str (Str.ofString "refused"),.ref g])->H' g=some (.lst (G.map V.str))->G.Pairwise leS->G.Nodup->(∀ z∈G,z∈ss)->Zd7 rs hf cs a G->Q (.ref r) H') /\
 ∀ r H' g (tvs:List V) (qs:List (Nat × Str × Int)) (fr:List Nat) (pay:Nat->Str->Int),H g=none->Zk H H'->H' r=some (.tup [.str (Str.ofString "good"),.ref g])->H' g=some (.lst tvs)->Zom B H' tvs qs->TabOk rs hf ss cs a qs->(∀ k,k∈fr ↔ Jf rs (ss.map hf) k)->fr.Nodup->PayOk rs hf ss cs fr pay->(∀ z∈ss,a z=sm fr (λk=>pay k z))->Q (.ref r) H'
def Pj1(H0:Hp)(x:V)(d sd:Addr)(a:Str->Int)(ts:List Str)(i:Nat)(σ:St)(H:Hp):Prop:=∃ o:Option V,σ=[some x,some (.ref d),some (.ref sd),o,none,none,none,none,none]/\Zk H0 H/\∀ z∈ts.take i,0<=a z
def Zp(a:Str->Int)(fr:List Nat)(pay:Nat->Str->Int)(z:Str):Int:=a z - sm fr (λk=>pay k z)
def Pj2(H0:Hp)(x:V)(d sd lv tb:Addr)(rs:List (Nat × Rat))(ss:List Str)(hf:Str->Nat)(B:Nat)(a:Str->Int)(cs:Nat->Int)(fp:Addr)(fr:List Nat)(i:Nat)(σ:St)(H:Hp):Prop:=∃ (o3 o6 o7 o8:Option V) (lvs:List (ZU × V)) (tvs:List V) (pay:Nat->Str->Int) (ps:List (Nat × Str × Int)),
 σ=[some x,some (.ref d),some (.ref sd),o3,some (.ref lv),some (.ref tb),o6,o7,o8]/\Zk H0 H/\H fp=some (.lst (ZN fr))/\H lv=some (.dK lvs)/\H tb=some (.lst tvs)/\Zom B H tvs ps/\ps.length<=i + Zrb (Zp a fr pay) ss/\TabI rs hf ss (fr.take i) fr pay ps/\ShV H lvs ss (λz=>Zm B (Zp a fr pay z))/\PayOk rs hf ss cs (fr.take i) pay/\∀ z∈ss,0<=Zp a fr pay z
def Pj3(H0:Hp)(x:V)(d sd lv tb:Addr)(ss:List Str)(B:Nat)(l:Str->Int)(fp pp rp:Addr)(fr:List Nat)(v6:V)(xs:List V)(rows:List (Str × Int))(ps:List (Nat × Str × Int))(k:Nat)(j:Nat)(σ:St)(H:Hp):Prop:=∃ (o3 o8:Option V) (lvs:List (ZU × V)) (tvs:List V),
 σ=[some x,some (.ref d),some (.ref sd),o3,some (.ref lv),some (.ref tb),some v6,some (.ref pp),o8]/\Zk H0 H/\H fp=some (.lst (ZN fr))/\H lv=some (.dK lvs)/\H tb=some (.lst tvs)/\Zom B H tvs (ps ++ (rows.take j).map λp=>(k,p.1,p.2))/\H rp=some (.lst xs)/\Zp6 B H xs rows/\ShV H lvs ss (λz=>Zm B (l z - JM (rows.take j) z))
def ZkP(F:Fun K "judged" "judged" Zf8 f fd)(ZS:mg "sorted"=none)(ZeE:mg "dict"=none)(ZbB:Fn P w K mg base ZD 7 "look_sharing" ["tree","homes","sharing"] (ZiE CT))(ZdN:Fn P w K mg base ZD 1 "others" ["homes","names"] ZgL)(ZaT:Fn P w K mg base ZD 8 "far_roads_first" ["tree","homes"] (Zot pt CT))
  (Zhw:Fn P w K mg base ZD 5 "users" ["tree","homes","k"] (λvs H Q _=>Zib CT CNP vs H Q E0)) (Zbk:Fn P w K mg base ZD 1 "is_less" ["one","other"] ZhP) (ZaF:Fn P w K mg base ZD 4 "total_of" ["some"] (ZdP K)) (Zcz:Mth P w K mg base ZD 4 CT "price" ["self","k"] (λvs H Q _=>Zd1 CT CNP vs H Q E0))
  (Zc8:Fn P w K mg base ZD 4 "payments" ["price","payers","left"] ZjK) (ZbL:Fn P w K mg base ZD 3 "rest_of" ["one","other"] Zb3):FnOk P w K mg base ZD 9 f fd ["tree","homes","sharing"] (Zgd pt CT):=by
 refine JU F Za2 λcdv A outer s H vs Q E hr h=>?_
 obtain⟨x,d,sd,rs,o,kvs,svs,ss,hf,B,a,cs,rfl,J,hTb,q,q2⟩:=h
 refine⟨_,(Zd (Js (Jb ZbB hr (Zi (Ze 0) (Zi (Ze 1) (Zi (Ze 2) Za)))))
   (Zd (Je Yq (Z6 (ZpN rfl ZS (Zi (Ze 1) Za))) (Zr 3 Za2.nd) (Zh (Jm (ZpL (ZA (Jl (Z9 hr) (Ze 2) (Ze 3)) Zb) Zb) (Zh (Zy (JS (Zi ZfT (Zi (Jb ZdN hr (Zi (Ze 1) (Zi (ZcD (Zi (Ze 3) Za)) Za))) Za))))) ZV)))
   (Zd (Zs 4 Za2.nd (Zkm rfl ZeE (Zi (Ze 2) Za)))
   (Zd (Zs 5 Za2.nd (ZcD Za))
   (Zd (Je Yq (Z6 (Jb ZaT hr (Zi (Ze 0) (Zi (Ze 1) Za)))) (Zr 6 Za2.nd) (Zd (Zs 7 Za2.nd (Jb Zhw hr (Zi (Ze 0) (Zi (Ze 1) (Zi (Ze 6) Za)))))
   (Zd (Jm (Jg (Jb Zbk hr (Zi (Jb ZaF hr (Zi (Zdx (ZiM ["name"] [4] ["left"]) (Z6 (Ze 7)) (by exact λs H fp=>(Zr 0 (show List.Nodup (["name","left"]:List Str) from by decide +kernel))) (by exact λs H fp=>(Jl (Z9 hr) (Ze 1) (Ze 0)))) Za)) (Zi (Zcs Zcz hr (by decide) (Ze 0) (Zi (Ze 6) Za)) Za)))) (Zh (Zy (JS (Zi ZfT (Zi (Jb ZdN hr (Zi (Ze 1) (Zi (Ze 7) Za))) Za))))) ZV)
   (Zh (Je Yq (Z6 (Jb Zc8 hr (Zi (Zcs Zcz hr (by decide) (Ze 0) (Zi (Ze 6) Za)) (Zi (Ze 7) (Zi (Ze 4) Za))))) (ZhN (n:=2) (ZaP (Zr 3 Za2.nd) (ZaP (Zr 8 Za2.nd) Zd6))) (Zd (ZcN (Z9 hr) (Ze 4) (Ze 3) (Jb ZbL hr (Zi (Jl (Z9 hr) (Ze 4) (Ze 3)) (Zi (Ze 8) Za))))
   (Zh (Js (ZgC (Ze 5) (Zi (JS (Zi (Ze 6) (Zi (Ze 3) (Zi (Ze 8) Za)))) Za))))))))))
   (Zh (Zy (JS (Zi ZfT (Zi (Zju rfl ZS (Zi (Ze 5) Za)) Za)))))))))),?_⟩
 rw [show Zz ["tree","homes","sharing","name","left","table","road","payers","amount"] [x,.ref d,.ref sd]=[some (x),some (.ref d),some (.ref sd),none,none,none,none,none,none] from rfl]
 have hO:=J.way
 have hfew:=J.few
 refine Zx λR0 hR0=>?_
 walk_at "rd"
 refine⟨x,d,sd,rs,o,kvs,svs,ss,hf,B,a,cs,rfl,J,λH1 s1=>?_⟩
 subst hR0
 try dsimp only
 refine Zx λR0 hR0=>?_
 rw [Zaq]
 walk_at "rd"
 refine⟨kvs,.inr ⟨o,s1 _ _ J.home⟩,ss,J.kv,by omega,λl H2 ts hl s2 e2 hso hpe=>?_⟩
 have s12:=s1.trans s2
 refine Zaz (xs:=ts.map V.str) (λi σ H'=>Pj1 H x d sd a ts i σ H'/\H' l=some (.lst (ts.map V.str))) ⟨⟨_,rfl,s12,λz hz=>by simp at hz⟩,e2⟩ (λi σ H' _ hP=>?_) (λi y σ H' hi hP=>?_) (λσ H' hP=>?_)
 ·exact .of hP.2
 ·obtain⟨⟨o3,rfl,sm',hnn⟩,el⟩:=hP
  rw [Yg] at hi
  obtain⟨z,hz,rfl⟩:=Yx.mp hi
  have hzs:z∈ss:=hpe.mem_iff.mp (Yl hz)
  have J':=J.same sm'
  obtain⟨v,ev,rv⟩:=J'.shv.val J.nd z hzs
  obtain⟨pv,rfl,hpv⟩:=id rv
  walk_at "rd"
  refine⟨svs,J'.share,.inr z,rfl,_,ev,pv,rfl,_,hpv,_,rfl,_,rfl,?_⟩
  by_cases c0:a z < 0
  ·rw [if_pos ((ZdU J.b0 _).mpr c0)]
   intro gl H3 hgl s3 e3
   have s03:=sm'.trans s3
   refine⟨d,gl,o,kvs,ss,[z],rfl,s03 _ _ J.home,J.kv,by omega,e3,λp H4 G hp s4 e4 hGw hGp=>λr H5 hr5 s5 e5=>?_⟩
   have hGm:∀ y∈G,y∈ss:=λy hy=>(YB.mp (hGp.mem_iff.mp hy)).1
   exact q r H5 p G (s03.free hp) (s03.trans (s4.trans s5)) e5 (s5 _ _ e4) hGw (hGp.symm.nodup (J.nd.filter _)) hGm (ZqK hO J.nd J.c0 J.tot hzs c0 hGp)
  ·rw [if_neg (λc=>c0 ((ZdU J.b0 _).mp c))]
   refine⟨⟨_,rfl,sm',λy hy=>?_⟩,el⟩
   rw [Yp,hz,Yw] at hy
   rcases hy with hy | hy
   ·exact hnn y hy
   ·have:y=z:=by simpa using hy
    rw [this]; omega
 ·obtain⟨⟨o3,rfl,sm',hnn⟩,el⟩:=hP
  have hnn':∀ z∈ss,0<=a z:=λz hz=>hnn z (by rw [Ye,Yv]; exact hpe.mem_iff.mpr hz)
  subst hR0
  try dsimp only
  have J':=J.same sm'
  walk_at "rd"
  refine⟨sd,svs,rfl,J'.share,λlv H3 hlv s3 e3 tb H4 htb s4 e4=>?_⟩
  have s04:=sm'.trans (s3.trans s4)
  have hne:lv ≠ tb:=Zn e3 htb
  have hlv0:H lv=none:=sm'.free hlv
  have htb0:H tb=none:=(sm'.trans s3).free htb
  rw [Zaq]
  walk_at "rd"
  refine⟨x,rs,d,kvs,ss,hf,rfl,J.tree.same s04,.inr ⟨o,s04 _ _ J.home⟩,J.kv,J.hat,J.rl,by omega,J.ok,let ⟨t,ht⟩:=hTb; ⟨t,s04 _ _ ht⟩,λfp H5 fr hfp s5 e5 hfn hfm hfw=>?_⟩
  have s05:=s04.trans s5
  have htot:=J.tot fr hfn hfm
  have hbd:∀ k∈fr,1<=k/\k<=rs.length:=λk hk=>Z5 ((hfm k).mp hk)
  have hfl:fr.length<=20:=Yj (ZbK hfn hbd) J.rl
  have hp0:PayOk rs hf ss cs (fr.take 0) (λ_ _=>0):=⟨λ_ _=>Int.le_refl _,λk z h=>absurd rfl h,λk hk=>by simp at hk⟩
  have hl0:∀ z,Zp a fr (λ_ _=>0) z=a z:=λz=>by unfold Zp; rw [ZaX λ_ _=>rfl]; omega
  refine Zaz (xs:=ZN fr) (Pj2 H x d sd lv tb rs ss hf B a cs fp fr) ⟨_,_,_,_,svs,[],λ_ _=>0,[],rfl,s05,e5,(s4.trans s5) _ _ e3,s5 _ _ e4,⟨rfl,λi x p h=>by simp at h⟩,Nat.zero_le _,Zpc,?_,hp0,λz hz=>by rw [hl0]; exact hnn' z hz⟩ (λi σ H' _ hP=>?_) (λi y σ H6 hi hP=>?_) (λσ H6 hP=>?_)
  ·have e:(λz=>Zm B (Zp a fr (λ_ _=>0) z))=λz=>Zm B (a z):=funext λz=>by rw [hl0]
   rw [e]
   exact J.shv.keep λb ys e=>s05 _ _ e
  ·obtain⟨_,_,_,_,_,_,_,_,_,_,e',_⟩:=hP
   exact .of e'
  ·obtain⟨o3,o6,o7,o8,lvs,tvs,pay,ps,rfl,s6,ef6,el6,et6,htab6,hcnt6,hTI6,hS6,hP6,hL6⟩:=hP
   have hil:i < fr.length:=by have:=(List.getElem?_eq_some_iff.mp hi).1; simpa [ZN] using this
   have hri:=Yc hil
   have hy:y=V.int (fr[i]:Int):=by
    unfold ZN at hi
    rw [Yg,hri] at hi
    cases hi
    rfl
   subst hy
   obtain⟨b1,b2⟩:=hbd _ (YG hil)
   have J6:=J.same s6
   have hin:inR rs ((fr[i]:Nat):Int):=⟨by omega,by omega⟩
   refine Zx λR0 hR0=>?_
   walk_at "rd"
   refine⟨x,rs,d,_,rfl,J6.tree,by have:=J.rl; omega,λk' ek _=>⟨o,kvs,ss,hf,J6.home,Vil.of J.kv (by omega) J.hat,λpp H7 ts7 hpp s7 e7 hpw7 hpm7=>?_⟩,λhno=>absurd hin hno⟩
   have ek':k'=fr[i]:=by omega
   subst ek'
   have hts:∀ z∈ts7,z∈ss:=λz hz=>(YB.mp (hpm7.mem_iff.mp hz)).1
   have htl7:ts7.length<=12:=Yj (Yj (Vu hpm7.length_eq) (YU _ _)) hfew
   have s07:=s6.trans s7
   have J7:=J.same s07
   have el7:=s7 _ _ el6
   have hS7:=hS6.keep λb ys e=>s7 _ _ e
   have lsz:∀ z∈ss,(Zp a fr pay z).natAbs < 2 ^ 2600:=λz hz=>by
    have h1:=hL6 z hz
    have h2:=J.az z hz
    have h3:0<=sm fr (λk=>pay k z):=Zb9 λk _=>hP6.nn k z
    have h4:=hnn' z hz
    unfold Zp at h1 ⊢
    omega
   subst hR0
   try dsimp only
   refine Zx λR0 hR0=>?_
   refine Jt λA0 hA0 C0 hC0=>?_
   walk_at "rd"
   simp only [JQ,Zc6,cxK]
   walk_at "rd"
   refine⟨⟨_,.of e7⟩,?_⟩
   rw [show Jq [some x,some (V.ref d),some (V.ref sd),o3,some (V.ref lv),some (V.ref tb),some (V.int (fr[i]:Int)),some (V.ref pp),o8] [4]=[some (V.ref lv)] from rfl]
   refine Zd0 ZR Za3 (xs:=ts7.map V.str) (as:=(ts7.map (Zp a fr pay)).map (Zm B)) e7 (by simp) (by rw [List.length_map]; omega) (λi' y t' hi' ht' H' kk os sm'' ol hkk=>?_) (λpq H8 zs hpq s8 e8 hY=>?_)
   ·obtain⟨o',rfl⟩:∃ o',os=[o']:=by match os,ol with | [o'],_=>exact⟨o',rfl⟩
    rw [Yg] at hi'
    obtain⟨z,hz',rfl⟩:=Yx.mp hi'
    rw [Ys,Yg,hz'] at ht'
    cases ht'
    obtain⟨v,ev,rv⟩:=(hS7.keep λb ys e=>sm'' _ _ e).val J.nd z (hts z (Yl hz'))
    walk_at "rd"
    refine⟨[some (.str z)],rfl,rfl,?_⟩
    walk_at "rd"
    exact⟨lvs,.inl (sm'' _ _ el7),.inr z,rfl,_,ev,hkk _ _ (λ_ _ w=>w) rv⟩
   have hms:∀ m∈ts7.map (Zp a fr pay),m.natAbs < 2 ^ 2700:=λm hm=>by
    obtain⟨z,hz,rfl⟩:=Yk.mp hm
    exact Yu (lsz z (hts z hz)) (YO (by decide) (by decide))
   refine⟨pq,zs,_,rfl,.of e8,hY,Zgw J.b0 J.b1 hms,by simp; omega,λr1 H9 s9 v1=>?_⟩
   rw [ZdO J.b0] at v1
   replace v1:ZR H9 r1 (Zm B (sm ts7 (Zp a fr pay))):=v1
   have s79:=s8.trans s9
   have s09:=s07.trans s79
   have hT9:=J.tree.same s09
   obtain⟨xa,dx,la,wa,ls,ws,rfl,h1,_⟩:=id hT9
   have hprc:Zl rs fr[i]=Zm B (cs fr[i]):=J.pr _ b1 b2
   have szc:Jo 3000 (Zm B (cs fr[i])):=(Jc J.b0 J.b1 (J.cz _)).mono (by decide)
   refine⟨xa,rfl,dx,_,h1,rfl,.ref xa,rs,_,rfl,hT9,λk' r y ek hr2 hy=>?_,λzz=>absurd hin zz⟩
   have eyp:ZR H9 y (Zm B (cs fr[i])):=by
    have ek':fr[i] - 1=k':=by omega
    have:Zl rs fr[i]=r.2:=by unfold Zl; rw [ek',hr2]; rfl
    rw [<- hprc,this]
    exact hy
   have szs:Jo 3000 (Zm B (sm ts7 (Zp a fr pay))):=(Jc (n:=2700) J.b0 (Yu J.b1 (YO (by decide) (by decide))) (Zkn htl7 λz hz=>lsz z (hts z hz))).mono (by decide)
   refine⟨r1,y,_,_,rfl,v1,eyp,szs,szc,_,rfl,?_⟩
   by_cases c0:sm ts7 (Zp a fr pay) < cs fr[i]
   ·rw [if_pos (YL ((ZbE J.b0).mpr c0))]
    subst hA0
    walk_at "rd"
    refine⟨d,pp,o,kvs,ss,ts7,rfl,s09 _ _ J.home,J.kv,by omega,s79 _ _ e7,λp H10 G hp s10 e10 hGw hGp=>λr' H11 hr11 s11 e11=>?_⟩
    have hGm:∀ y∈G,y∈ss:=λy hy=>(YB.mp (hGp.mem_iff.mp hy)).1
    have hsp:fr=fr.take i ++ fr[i] :: fr.drop (i + 1):=by rw [<- Yak hil,Yao]
    have hov:Zd7 rs hf cs a G:=by
     refine ZkO (D:=fr.take i) (r:=fr[i]) (rest:=fr.drop (i + 1)) (pay:=pay) hO ?_ ?_ ?_ J.c0 hP6 ?_ hpm7 ?_ hGp
     ·rw [<- hsp]; exact hfn
     ·rw [<- hsp]; exact hfm
     ·rw [<- hsp]; exact hfw
     ·rw [<- hsp]; exact htot
     ·rw [<- hsp]; exact c0
    exact q r' H11 p G (s09.free hp) (s09.trans (s10.trans s11)) e11 (s11 _ _ e10) hGw (hGp.symm.nodup (J.nd.filter _)) hGm hov
   ·rw [if_neg (by rw [Y3,ZbE J.b0]; exact c0)]
    subst hC0
    walk_at "rd"
    subst hR0
    try dsimp only
    rw [Zaq]
    walk_at "rd"
    refine⟨dx,_,h1,rfl,.ref xa,rs,_,rfl,hT9,λk2 r2 y2 ek2 hr22 hy2=>?_,λzz=>absurd hin zz⟩
    have eyp2:ZR H9 y2 (Zm B (cs fr[i])):=by
     have ek':fr[i] - 1=k2:=by omega
     have:Zl rs fr[i]=r2.2:=by unfold Zl; rw [ek',hr22]; rfl
     rw [<- hprc,this]
     exact hy2
    have hS9:=hS7.keep λb ys e=>s79 _ _ e
    have el9:=s79 _ _ el7
    have et9:=(s7.trans s79) _ _ et6
    have ef9:=(s7.trans s79) _ _ ef6
    refine⟨y2,pp,lv,lvs,ts7,B,cs fr[i],Zp a fr pay,rfl,eyp2,s79 _ _ e7,.inl el9,λz hz=>hS9.val J.nd z (hts z hz),J.b0,J.b1,J.c0 _,J.cz _,λz hz=>⟨hL6 z (hts z hz),lsz z (hts z hz)⟩,by omega,λrp H10 xs10 hrp s10 e10 hR10=>?_⟩
    have s710:=s79.trans s10
    have s010:=s09.trans s10
    have hlv10:lv ≠ rp:=Zn el9 hrp
    have htb10:tb ≠ rp:=Zn et9 hrp
    have hfp10:fp ≠ lv:=Jk ef9 el9 (by intro z; cases z)
    have hfpt:fp ≠ tb:=(Zn e4 hfp).symm
    have hnr:∀ p∈Zo ts7 (cs fr[i]) (Zp a fr pay),0<=p.2:=λp hp=>Int.le_of_lt (Zck hp).2
    have hlt7:∀ z∈ts7,0<=Zp a fr pay z:=λz hz=>hL6 z (hts z hz)
    have htn:ts7.Nodup:=hpm7.symm.nodup (J.nd.filter _)
    have hamt:∀ z∈ss,JM (Zo ts7 (cs fr[i]) (Zp a fr pay)) z<=Zp a fr pay z:=λz hz=>by
     rw [ZcL (J.c0 _) hlt7]
     have hh:=Zfy ts7 (cs fr[i]) (Zp a fr pay) htn (J.c0 _) hlt7 z
     by_cases c:z∈ts7
     ·exact hh.2.2 c
     ·rw [hh.2.1 c]; exact hL6 z hz
    have kpR:ZgX (λH v (p:Str × Int)=>∃ t r,v=.ref t/\H t=some (.tup [.str p.1,r])/\ZR H r (Zm B p.2)):=λH H' v p h s=>let ⟨t,r,a1,a2,a3⟩:=h; ⟨t,r,a1,s _ _ a2,a3.keep s⟩
    have hrl:(Zo ts7 (cs fr[i]) (Zp a fr pay)).length<=12:=Yj (YU _ _) (by rw [Vh]; omega)
    have hxl10:xs10.length=(Zo ts7 (cs fr[i]) (Zp a fr pay)).length:=hR10.1
    refine Zaz (xs:=xs10) (Pj3 H (.ref xa) d sd lv tb ss B (Zp a fr pay) fp pp rp fr (.int (fr[i]:Int)) xs10 (Zo ts7 (cs fr[i]) (Zp a fr pay)) ps fr[i]) ⟨_,_,lvs,tvs,rfl,s010,s10 _ _ ef9,s10 _ _ el9,s10 _ _ et9,by rw [List.take_zero,List.map_nil,Y5]; exact htab6.keep Zdw λb ys e=>((s7.trans s79).trans s10) _ _ e,e10,hR10,?_⟩ (λj σ H' _ hP=>?_) (λj y σ H' hj hP=>?_) (λσ H' hP=>?_)
    ·have e:(λz=>Zm B (Zp a fr pay z - JM ((Zo ts7 (cs fr[i]) (Zp a fr pay)).take 0) z))=λz=>Zm B (Zp a fr pay z):=funext λz=>by rw [List.take_zero,Zpp,Int.sub_zero]
     rw [e]
     exact hS9.keep λb ys e=>s10 _ _ e
    ·obtain⟨_,_,_,_,_,_,_,_,_,_,e',_⟩:=hP
     exact .of e'
    ·obtain⟨q3,q8,lv2,tv2,rfl,s11,ef11,el11,et11,htab11,er11,hR11,hS11⟩:=hP
     have hjl:j < xs10.length:=(Yi.mp hj).1
     have hjr:j < (Zo ts7 (cs fr[i]) (Zp a fr pay)).length:=by omega
     have hrj:=Yc hjr
     obtain⟨t,r,rfl,ht,hrv⟩:=hR11.2 j _ _ hj hrj
     obtain⟨hn1,hn2⟩:=Zck (YG hjr)
     have hns:=hts _ hn1
     obtain⟨v,ev,rv⟩:=hS11.val J.nd _ hns
     have hpt:=Ziy hnr j (Zo ts7 (cs fr[i]) (Zp a fr pay))[j].1
     have hpt2:=Ziy hnr (j + 1) (Zo ts7 (cs fr[i]) (Zp a fr pay))[j].1
     rw [ZfD hrj,if_pos rfl] at hpt2
     have ha1:=hamt _ hns
     have ha2:=lsz _ hns
     have ha3:=hL6 _ hns
     have szv:Jo 3000 (Zm B (Zp a fr pay (Zo ts7 (cs fr[i]) (Zp a fr pay))[j].1 - JM ((Zo ts7 (cs fr[i]) (Zp a fr pay)).take j) (Zo ts7 (cs fr[i]) (Zp a fr pay))[j].1)):=(Jc J.b0 J.b1 (by omega)).mono (by decide)
     have szr:Jo 3000 (Zm B (Zo ts7 (cs fr[i]) (Zp a fr pay))[j].2):=(Jc J.b0 J.b1 (by omega)).mono (by decide)
     walk_at "rd"
     refine⟨_,ht,rfl,_,_,rfl,_,_,rfl,rfl,lv2,.inl el11,.inr _,rfl,v,ev,v,r,_,_,rfl,rv,hrv,szv,szr,λr12 H12 s12' v12=>?_⟩
     rw [Zc3 J.b0] at v12
     have el12:=s12' _ _ el11
     have et12:=s12' _ _ et11
     have kp:∀ b ys v',H12 b=some (.tup ys)->upd H12 lv (.dK (Jh lv2 (Sum.inr (Zo ts7 (cs fr[i]) (Zp a fr pay))[j].1) v')) b=some (.tup ys):=λb ys v' e=>by rw [Zg (Jk e el12 (by intro z; cases z))]; exact e
     refine⟨lv2,el12,.inr _,rfl,by rw [hS11.1]; omega,⟨tv2,by rw [Zg hne.symm]; exact et12⟩,λp13 H13 hp13 s13 e13=>?_⟩
     have et13:H13 tb=some (.lst tv2):=s13 _ _ (by rw [Zg hne.symm]; exact et12)
     have kp2:∀ b ys,H13 b=some (.tup ys)->upd H13 tb (.lst (tv2 ++ [.ref p13])) b=some (.tup ys):=λb ys e=>by rw [Zg (Jk e et13 (by intro z; cases z))]; exact e
     have hcz:Zrb (Zp a fr pay) ss<=ss.length:=YU _ _
     have htl11:=htab11.1
     rw [YV,Ye,YE] at htl11
     refine⟨tv2,et13,by omega,_,_,Jh lv2 (Sum.inr (Zo ts7 (cs fr[i]) (Zp a fr pay))[j].1) r12,tv2 ++ [.ref p13],rfl,Zt htb0 ((Zt hlv0 (s11.trans s12')).trans s13),?_,?_,Zf,?_,?_,?_,?_⟩
     ·rw [Zg hfpt]; exact s13 _ _ (by rw [Zg hfp10]; exact s12' _ _ ef11)
     ·rw [Zg hne]; exact s13 _ _ Zf
     ·rw [Yp,hrj,YZ,<- List.append_assoc]
      exact JF.snoc (((((htab11.keep Zdw λb ys e=>s12' _ _ e).keep Zdw λb ys e=>kp b ys _ e).keep Zdw λb ys e=>s13 _ _ e).keep Zdw kp2)) ⟨p13,r,rfl,kp2 _ _ e13,(((hrv.same s12').keep λb ys e=>kp b ys _ e).same s13).keep kp2⟩
     ·rw [Zg htb10.symm]; exact s13 _ _ (by rw [Zg hlv10.symm]; exact s12' _ _ er11)
     ·exact (((hR11.keep kpR λb ys e=>s12' _ _ e).keep kpR λb ys e=>kp b ys _ e).keep kpR λb ys e=>s13 _ _ e).keep kpR kp2
     ·refine ShV.keep (ShV.keep (ShV.put ((hS11.keep λb ys e=>s12' _ _ e).keep λb ys e=>kp b ys _ e) hns ?_ λy hy=>?_) λb ys e=>s13 _ _ e) kp2
      ·rw [ZfD hrj,if_pos rfl]
       refine ZR.keep ?_ λb ys e=>kp b ys _ e
       rw [show Zp a fr pay (Zo ts7 (cs fr[i]) (Zp a fr pay))[j].1 - (JM ((Zo ts7 (cs fr[i]) (Zp a fr pay)).take j) (Zo ts7 (cs fr[i]) (Zp a fr pay))[j].1 + (Zo ts7 (cs fr[i]) (Zp a fr pay))[j].2)=Zp a fr pay (Zo ts7 (cs fr[i]) (Zp a fr pay))[j].1 - JM ((Zo ts7 (cs fr[i]) (Zp a fr pay)).take j) (Zo ts7 (cs fr[i]) (Zp a fr pay))[j].1 - (Zo ts7 (cs fr[i]) (Zp a fr pay))[j].2 by omega]
       exact v12
      ·rw [ZfD hrj,if_neg hy,VY]
    ·obtain⟨q3,q8,lv2,tv2,rfl,s11,ef11,el11,et11,htab11,er11,hR11,hS11⟩:=hP
     rw [hxl10,Yv] at hS11 htab11
     obtain⟨pay',hP',hpe',hTI'⟩:=Znp J.nd hfn hri J.c0 hP6 hpm7 hL6 (by have:=c0; unfold Zp at this; omega) hTI6
     have hcn:=Zm4 (l:=Zp a fr pay) J.nd htn hts (J.c0 fr[i]) hlt7
     refine⟨_,_,_,_,lv2,tv2,pay',_,rfl,s11,ef11,el11,et11,htab11,?_,hTI',?_,hP',λz hz=>?_⟩
     ·have e:Zp a fr pay'=λz=>Zp a fr pay z - JM (Zo ts7 (cs fr[i]) (Zp a fr pay)) z:=funext λz=>hpe' z
      rw [e,YV,Ye]
      omega
     ·have e:(λz=>Zm B (Zp a fr pay' z))=λz=>Zm B (Zp a fr pay z - JM (Zo ts7 (cs fr[i]) (Zp a fr pay)) z):=funext λz=>by
       show Zm B (a z - sm fr (λk=>pay' k z))=_
       rw [hpe' z]
       rfl
      rw [e]
      exact hS11
     ·show 0<=a z - sm fr (λk=>pay' k z)
      rw [hpe' z]
      have:=hamt z hz
      show 0<=Zp a fr pay z - JM (Zo ts7 (cs fr[i]) (Zp a fr pay)) z
      omega
  ·obtain⟨o3,o6,o7,o8,lvs,tvs,pay,ps,rfl,s6,ef6,el6,et6,htab6,hcnt6,hTI6,hS6,hP6,hL6⟩:=hP
   have hnl:(ZN fr).length=fr.length:=by simp [ZN]
   rw [hnl,Yv] at hP6
   rw [hnl,Yv] at hTI6
   have hcz:Zrb (Zp a fr pay) ss<=ss.length:=YU _ _
   have htl:tvs.length=ps.length:=htab6.1
   have zf1:((tvs.zip ps).map λx=>((x.1,(x.2.1:Int),x.2.2.1):V × Int × Str)).map (·.1)=tvs:=(Zio (λp:Nat × Str × Int=>((p.1:Int),p.2.1)) htl).1
   have zf2:((tvs.zip ps).map λx=>((x.1,(x.2.1:Int),x.2.2.1):V × Int × Str)).map (·.2)=ps.map λp=>((p.1:Int),p.2.1):=(Zio (λp:Nat × Str × Int=>((p.1:Int),p.2.1)) htl).2
   walk_at "rd"
   refine⟨tb,(tvs.zip ps).map λx=>(x.1,(x.2.1:Int),x.2.2.1),rfl,by rw [zf1]; exact et6,by rw [Ye,Vh]; omega,Znv htab6,?_,λl H7 qs hl s7 e7 hqp hqw r H8 hr s8 e8=>?_⟩
   ·rw [zf2]
    refine VB.mpr ((VB.mp hTI6.one).imp λh e=>h ?_)
    have e1:=congrArg Prod.fst e
    have e2:=congrArg Prod.snd e
    dsimp only at e1 e2
    exact Prod.ext (by show _=_; dsimp only; omega) e2
   obtain⟨ps',h1,h2,h3⟩:=Zjy (htab6.keep Zdw λb ys e=>s7 _ _ e) hqp hqw
   refine q2 r H8 l _ ps' fr pay (s6.free hl) (s6.trans (s7.trans s8)) e8 (s8 _ _ e7) (JF.keep (H':=H8) Zdw h2 λb ys e=>s8 _ _ e) ⟨λp hp=>?_,h3,by rw [h1.length_eq]; omega,λk hk=>?_,λz hz=>?_⟩ hfm hfn hP6 (ZkH hP6 hL6 htot)
   ·have h:=hTI6.row p (h1.mem_iff.mp hp)
    exact⟨(hbd _ h.1).1,(hbd _ h.1).2,h.2⟩
   ·rw [ZoP h1,hTI6.road k]
    exact hP6.full k ((hfm k).mpr hk)
   ·rw [Zo4 h1,hTI6.name z]
    exact (ZkH hP6 hL6 htot z hz).symm
def Zge:Sp:=λvs H Q _=>∃ (p d:Addr) (c:Int) (xs:List V) (rs:List (Nat × Rat)) (o:Obj) (kvs:List (ZU × V)) (ss:List Str) (hf:Str->Nat),vs=[.ref p,.ref d,.int c]/\H p=some (.lst xs)/\Jp H xs rs/\H d=some (.frz o (.dK kvs))/\kvs.map (·.1)=ss.map Sum.inr/\ss.Nodup/\ss.length<=12/\(∀ gs:List Str,(∀ z∈gs,z∈ss)->Zcb kvs gs (gs.map hf) rs.length)/\rs.length<=20/\Zcp rs/\(∀ r∈rs,Jo 110 r.2/\0<=r.2.num) /\
 ∀ b H' svs qf B,H b=none->Zk H H'->H' b=some (.dK svs)->ShV H' svs ss qf->0 < B->B<=2 ^ 2400->(∀ z∈ss,(qf z).den ∣ B/\0<=qf z)->(∀ r∈rs,r.2.den ∣ B)->(∀ ks:List Nat,ks.Nodup->(∀ k,k∈ks ↔ Jf rs (ss.map hf) k)->ZK (ss.map qf)=ZK (ks.map (Zl rs)))->(∀ G:List Str,G.Nodup->(∀ z∈G,z∈ss)->∀ ks:List Nat,ks.Nodup->(∀ k,k∈ks ↔ Jf rs (G.map hf) k)->ZK (G.map qf)<=ZK (ks.map (Zl rs)))->Q (.ref b) H'
def Zfl(hn:ss.Nodup){z:Str}(hz:z∈ss)(q:Rat):ZK (ss.map λy=>if y=z then qf y + q else qf y)=ZK (ss.map qf) + q:=by
 induction ss with
 | nil=>cases hz
 | cons y ss ih =>
  rw [Y4] at hn
  rw [Yr,Yr,Zaj,Zaj]
  by_cases c:y=z
  ·subst c
   rw [if_pos rfl,show (ss.map λx=>if x=y then qf x + q else qf x)=ss.map qf from YQ λx hx=>if_neg (λe:x=y=>hn.1 (by rw [<- e]; exact hx)),Vl,Vl,Rat.add_comm q]
  ·rw [if_neg c,ih hn.2 (by rcases Yn.mp hz with h | h; exact absurd h.symm c; exact h),Vl]
def ZeM:ZK (ss.map λ_=>(0:Rat))=0:=by
 induction ss with
 | nil=>rfl
 | cons y ss ih=>rw [Yr,Zaj,ih,Yae]
theorem ZpY{p q:Rat}(hB:0 < B)(h1:p.den ∣ B)(h2:q.den ∣ B):(p + q).den ∣ B:=by
 rw [<- Zec hB h1,<- Zec hB h2]
 have:=Zf2 hB (JV B p + JV B q)
 rw [<- ZbP hB] at this
 exact this
def Zph{t:Int}{b:Nat}(hb:0 < b):(Rat.divInt t (b:Int)).den ∣ b:=Zf2 hb t
theorem Zih(ms:List Int)(i:Nat)(m:Int)(h:ms[i]?=some m):(ms.take (i + 1)).sum=(ms.take i).sum + m:=by rw [List.take_add_one,h,List.sum_append]; simp
def Zkw{o:Obj}{cp:St}{tt:TT}{H1:Hp}{Q:VK}(r:Str->Bool)(ha:H1 a=some (.frz o (.dK kvs)))(he:(kvs.map λkv=>kV kv.1)=ss.map V.str)(hl:ss.length < 1000)(ht:∀ z∈ss,∀ H' (k:Bool->Hp->Prop),Zk H1 H'->(∀ H'',Zk H' H''->k (r z) H'')->tt (some (V.str z) :: cp) H' k)
  (q:∀ p H',H1 p=none->Zk H1 H'->H' p=some (.lst ((ss.filter r).map V.str))->Q (.ref p) H'):Zf6 1 cp (Itd a o kvs) (JR 0) tt (ZnQ 0) H1 Q:=by
 have hlen:kvs.length=ss.length:=by have:=congrArg List.length he; simpa using this
 refine Zgb (λacc i ys H'=>Zk H1 H'/\H' acc=some (.lst ys)/\ys=((ss.take i).filter r).map V.str/\i<=ss.length)
  (λacc H2 hn sm e=>⟨sm,e,by simp,Nat.zero_le _⟩) (λacc i ys H2 ⟨sm,e,e2,hi⟩=>⟨e,?_,sm _ _ ha⟩) (λacc i kv ys H2 os hn hi hP ol=>?_) (λacc ys H2 hn hP=>?_)
 ·rw [e2,Ye]
  exact YA (YU _ _) (by rw [YE]; omega)
 ·obtain⟨sm,e,e2,_⟩:=hP
  obtain⟨o',rfl⟩:∃ o',os=[o']:=by match os,ol with | [o'],_=>exact⟨o',rfl⟩
  obtain⟨z,hz,ek⟩:∃ z,ss[i]?=some z/\kV kv.1=V.str z:=by
   have h1:=congrArg (·[i]?) he
   simp only [List.getElem?_map,hi,Option.map_some] at h1
   cases h:ss[i]? with
   | none=>rw [h] at h1; cases h1
   | some z=>rw [h] at h1; exact⟨z,rfl,by simpa using h1⟩
  rw [ek]
  have hil:=(Yi.mp hz).1
  refine⟨[some (V.str z)],rfl,rfl,ht z (Yl hz) H2 _ sm λH3 s3=>?_⟩
  have tk:(ss.take (i + 1)).filter r=(ss.take i).filter r ++ (if r z=true then [z] else []):=by
   rw [Yp,hz,VN]
   congr 1
   show [z].filter r=_
   by_cases c:r z=true
   ·rw [Yam c,if_pos c]; rfl
   ·rw [V2 c,if_neg c]; rfl
  refine JZ (λc=>⟨V.str z,rfl,s3 _ _ e,Zt hn (sm.trans s3),Zf,?_,hil⟩) (λc=>⟨sm.trans s3,s3 _ _ e,?_,hil⟩)
  ·rw [tk,if_pos c,e2,YZ]; rfl
  ·rw [tk,if_neg c,Y5,e2]
 ·obtain⟨sm,e,e2,_⟩:=hP
  rw [hlen,Yv] at e2
  subst e2
  exact q acc H2 hn sm e
def ZoW(us:List Str):(us.map λ_=>(1:Int)).sum=us.length:=by
 induction us with
 | nil=>rfl
 | cons x us ih=>rw [Yr,VW,ih,YR]; omega
def Psh(H0:Hp)(p d b nb:Addr)(c:Int)(rs:List (Nat × Rat))(ss:List Str)(hf:Str->Nat)(i:Nat)(σ:St)(H:Hp):Prop:=∃ (o4 o6 o7 o8 o9 o10:Option V) (svs:List (ZU × V)) (qf:Str->Rat) (B:Nat) (ns:List Int),σ=[some (.ref p),some (.ref d),some (.int c),some (.ref b),o4,some (.ref nb),o6,o7,o8,o9,o10]/\Zk H0 H/\H b=some (.dK svs)/\H nb=some (.lst (ns.map V.int))/\(rs.length - i) * ss.length<=ns.length/\(∀ n∈ns,0<=n/\n < 7) /\
 ShV H svs ss qf/\0 < B/\B<=2 ^ (117 * i)/\(∀ z∈ss,(qf z).den ∣ B/\0<=qf z/\Jo (119 * i + 1) (qf z))/\(∀ (j:Nat) r,j < i->rs[j]?=some r->r.2.den ∣ B)/\(∀ ks:List Nat,ks.Nodup->(∀ k,k∈ks ↔ (k<=i/\Jf rs (ss.map hf) k))->ZK (ss.map qf)=ZK (ks.map (Zl rs)))/\(∀ G:List Str,G.Nodup->(∀ z∈G,z∈ss)->∀ ks:List Nat,ks.Nodup->(∀ k,k∈ks ↔ (k<=i/\Jf rs (G.map hf) k))->ZK (G.map qf)<=ZK (ks.map (Zl rs)))
def Psz(H0:Hp)(p d b nb np pp:Addr)(c:Int)(v6:V)(ss ns:List Str)(ps:List Int)(nums:List Int)(i Tn:Nat)(pr:Rat)(qf:Str->Rat)(B:Nat)(j:Nat)(σ:St)(H:Hp):Prop:=∃ (o4 o9 o10:Option V) (svs:List (ZU × V)) (qg:Str->Rat),σ=[some (.ref p),some (.ref d),some (.int c),some (.ref b),o4,some (.ref nb),some v6,some (.ref np),some (.ref pp),o9,o10]/\Zk H0 H/\H b=some (.dK svs)/\H nb=some (.lst (nums.map V.int))/\H np=some (.lst (ns.map V.str))/\H pp=some (.lst (ps.map V.int)) /\
 ShV H svs ss qg/\(∀ z∈ss,(qg z).den ∣ B/\0<=qg z/\Jo (119 * (i + 1) + 1) (qg z)/\(z ∉ ns.take j->Jo (119 * i + 1) (qg z)))/\ZK (ss.map qg)=ZK (ss.map qf) + Rat.divInt (pr.num * (ps.take j).sum) ((pr.den:Int) * (Tn:Int))/\(∀ z,z ∉ ns.take j->qg z=qf z)/\∀ G:List Str,G.Nodup->ZK (G.map qg)<=ZK (G.map qf) + Rat.divInt (pr.num * (ps.take j).sum) ((pr.den:Int) * (Tn:Int))
def ZjT(F:Fun K "_law_shared_by" "_law_shared_by" Zbm f fd)(ZC:mg "len"=none)(ZT:mg "range"=none)(Zqk:mg "max"=none)(Zhi:mg "sum"=none)(Zi6:mg "zip"=none)(Zaf:Fn P w K mg base ZD 2 "_law_numbers" ["_law_cell","_law_many","_law_most"] ZaA)(ZaI:Fn P w K mg base ZD 1 "_law_way" ["_law_roads","_law_k"] Ziq)
  (Zau:Fn P w K mg base ZD 2 "_law_add" ["_law_one","_law_other"] Zek) (ZI:Fn P w K mg base ZD 1 "_law_low" ["_law_top","_law_bottom"] ZbF):FnOk P w K mg base ZD 3 f fd ["_law_roads","_law_homes","_law_cell"] Zge:=by
 refine JU F Zac λcdv A outer s H vs Q E hr h=>?_
 obtain⟨p,d,c,xs,rs,o,kvs,ss,hf,rfl,hp,hR,hd,hks,hnd,hl12,hH,hrl,hO,hz,q⟩:=h
 have hkl:kvs.length=ss.length:=by have:=congrArg List.length hks; simpa using this
 have hkv:(kvs.map λkv=>kV kv.1)=ss.map V.str:=by
  have:=congrArg (List.map kV) hks
  rw [Ys,Ys] at this
  exact this
 have hway:∀ z∈ss,WayR rs (hf z) (wayL rs (hf z))/\(wayL rs (hf z)).length<=rs.length/\JI kvs (Sum.inr z)=some (.int (hf z:Int)):=λz hz=>by
  have h:=(hH [z] (λy hy=>by rw [YF.mp hy]; exact hz)).2 0 z (hf z) rfl rfl
  obtain⟨w,hw,hwl⟩:=Zbs hO h.2
  rw [Zbf hw]
  exact⟨hw,hwl,h.1⟩
 refine⟨_,(Zd (Zs 3 Zac.nd ZhV)
   (Zd (Je Yq (ZdB (Ze 1)) (Zr 4 Zac.nd) (Zh (ZcN (Z9 hr) (Ze 3) (Ze 4) (JS (Zi Zb (Zi Zb Za))))))
   (Zd (Zs 5 Zac.nd (Jb Zaf hr (Zi (Ze 2) (Zi (Ji (Ju rfl ZC (Zi (Ze 0) Za)) (ZrH rfl ZC (Zi (Ze 1) Za))) (Zi Zb Za)))))
   (Zd (Je Yq (ZrE rfl ZT (Zi Zb (Zi (Jy (Ju rfl ZC (Zi (Ze 0) Za)) Zb) Za))) (Zr 6 Zac.nd) (Zd (Zjf 7 (ZiM ["_law_name"] [0,1,6] ["_law_roads","_law_homes","_law_k"]) (ZdB (Ze 1)) (by exact λs H fp=>(Zr 0 (show List.Nodup (["_law_name","_law_roads","_law_homes","_law_k"]:List Str) from by decide +kernel))) (by exact λs H fp=>ZhY (ZkF K (Ze 3) (Jb ZaI hr (Zi (Ze 1) (Zi (Jl (Z9 hr) (Ze 2) (Ze 0)) Za))))) (by exact λs H fp=>(Ze 0)) (Zr 7 Zac.nd))
   (Zd (ZcG 8 (ZiM ["_law_name"] [5] ["_law_numbers_here"]) (Z6 (Ze 7)) (by exact λs H fp=>(Zr 0 (show List.Nodup (["_law_name","_law_numbers_here"]:List Str) from by decide +kernel))) (by exact λs H fp=>(Zs9 rfl Zqk (Zi Zb (Zi (JP (ZrJ (Ze 1)) Zb) Za)))) (Zr 8 Zac.nd))
   (Zd (Jm (Zoa (Zlr rfl Zhi (Zi (Ze 8) Za)) Zb) (Zh (ZcG 8 (Ztq ["_law_name"]) (Z6 (Ze 7)) (by exact λs H fp=>(Zr 0 (show List.Nodup (["_law_name"]:List Str) from by decide +kernel))) (by exact λs H fp=>Zb) (Zr 8 Zac.nd))) ZV)
   (Zh (Je Yq (Zrn rfl Zi6 (Zi (Ze 7) (Zi (Ze 8) Za))) (ZhN (n:=2) (ZaP (Zr 4 Zac.nd) (ZaP (Zr 9 Zac.nd) Zd6))) (Zd (Zs 10 Zac.nd (ZA (Jx (Ze 0) (JP (Ze 6) Zb)) Zb))
   (Zh (ZcN (Z9 hr) (Ze 3) (Ze 4) (Jb Zau hr (Zi (Jl (Z9 hr) (Ze 3) (Ze 4)) (Zi (Jb ZI hr (Zi (Ji (ZA (Ze 10) Zb) (Ze 9)) (Zi (Ji (ZA (Ze 10) Zb) (Zlr rfl Zhi (Zi (Ze 8) Za))) Za))) Za))))))))))))
   (Zh (Zy (Ze 3))))))),?_⟩
 rw [show Zz ["_law_roads","_law_homes","_law_cell","_law_sharing","_law_name","_law_numbers_here","_law_k","_law_names","_law_parts","_law_part","_law_price"] [.ref p,.ref d,.int c]=[some (.ref p),some (.ref d),some (.int c),none,none,none,none,none,none,none,none] from rfl]
 walk_at "rd"
 intro b H1 hb s1 e1
 simp only [ZcZ]
 walk_at "rd"
 refine ZdL (o:=o) (kvs:=kvs) (λi σ H'=>∃ (o4:Option V) (svs:List (ZU × V)),σ=[some (V.ref p),some (V.ref d),some (V.int c),some (V.ref b),o4,none,none,none,none,none,none]/\Zk H H'/\H' b=some (.dK svs)/\ShV H' svs (ss.take i) (λ_=>0)) ⟨_,[],rfl,s1,e1,by simp,λi z h=>by simp at h⟩ (λi σ H' _ ⟨_,_,_,sm',_⟩=>sm' _ _ hd) (λi kv σ H' hi hP=>?_) (λσ H' hP=>?_)
 ·obtain⟨o4,svs,rfl,sm',eb,hS⟩:=hP
  have hil:i < ss.length:=by rw [<- hkl]; exact (Yi.mp hi).1
  have hz0:=Yc hil
  have hkk:kv.1=Sum.inr ss[i]:=by
   have:=congrArg (·[i]?) hks
   simp only [List.getElem?_map,hi,hz0,Option.map_some,Option.some.injEq] at this
   exact this
  rw [hkk]
  walk_at "rd"
  intro t H2 ht s2 e2
  have eb2:=s2 _ _ eb
  have kp:∀ b' ys,H2 b'=some (.tup ys)->upd H2 b (.dK (Jh svs (Sum.inr ss[i]) (.ref t))) b'=some (.tup ys):=λb' ys e=>by rw [Zg (Jk e eb2 (by intro z; cases z))]; exact e
  refine⟨svs,eb2,.inr ss[i],rfl,by rw [hS.1,YE]; omega,Zt hb (sm'.trans s2),_,Zf,?_⟩
  rw [Yp,hz0]
  refine ShV.snoc ((hS.keep λb ys e=>s2 _ _ e).keep kp) (λhm=>?_) ⟨t,rfl,kp _ _ e2⟩
  have h1:(ss.take (i + 1)).Nodup:=hnd.sublist (Vp _ _)
  rw [Yp,hz0] at h1
  exact (List.nodup_append.mp h1).2.2 _ hm _ (by simp) rfl
 ·obtain⟨o4,svs,rfl,sm',eb,hS⟩:=hP
  rw [hkl,Yv] at hS
  dsimp only
  walk_at "rd"
  have hxl:=hR.1
  have hlen:xs.length * kvs.length<=240:=by
   rw [hxl,hkl]
   exact Yj (Yab hrl hl12) (by decide)
  have e240:((xs.length:Int) * (kvs.length:Int))=((xs.length * kvs.length:Nat):Int):=by simp
  refine⟨xs,.inl (sm' _ _ hp),kvs,.inr ⟨o,sm' _ _ hd⟩,JG (a:=5) (b:=4) (by rw [VO]; omega) (by rw [VO]; omega) (by decide),_,_,_,rfl,by rw [e240]; omega,by rw [e240]; omega,by decide,by decide,λnb H3 nums hnb s3 e3 hnl hnb7=>?_⟩
  rw [e240] at hnl
  have hbn:b ≠ nb:=Zn eb hnb
  have s03:=sm'.trans s3
  have hnb0:H nb=none:=sm'.free hnb
  rw [Zk0]
  walk_at "rd"
  refine⟨xs,.inl (s03 _ _ hp),by omega,by omega,?_⟩
  refine Zee (Psh H p d b nb c rs ss hf) ⟨_,_,_,_,_,_,svs,λ_=>0,1,nums,rfl,s03,s3 _ _ eb,e3,?_,hnb7,hS.keep (λb ys e=>s3 _ _ e),Nat.one_pos,by simp,λz _=>⟨Nat.one_dvd _,Rat.le_refl,Zdh (by decide)⟩,λj r h=>absurd h (Nat.not_lt_zero j),λks _ hk=>?_,λG _ _ ks _ hk=>?_⟩ (λi σ H4 hi hP=>?_) (λσ H4 hP=>?_)
  ·rw [Nat.sub_zero,<- hxl,<- hkl]; omega
  ·have:ks=[]:=by
    cases ks with
    | nil=>rfl
    | cons k ks=>have:=(hk k).mp (.head _); have:=(Z5 this.2).1; omega
   subst this
   rw [ZeM]
   rfl
  ·rw [ZeM]
   have:ks=[]:=by
    cases ks with
    | nil=>rfl
    | cons k ks=>have:=(hk k).mp (.head _); have:=(Z5 this.2).1; omega
   subst this
   exact Rat.le_refl
  ·obtain⟨o4,o6,o7,o8,o9,o10,svs,qf,B,ns,rfl,s4,eb4,en4,hnl4,hn7,hS4,hB0,hB1,hq4,hd4,ht4,hg4⟩:=hP
   have hir:i < rs.length:=by omega
   have hri:=Yc hir
   have hix:i < xs.length:=by omega
   refine Zx λR0 hR0=>?_
   walk_at "rd"
   simp only [Zdv,ZhA,cxK]
   walk_at "rd"
   refine⟨o,kvs,s4 _ _ hd,?_⟩
   rw [show Jq [some (V.ref p),some (V.ref d),some (V.int c),some (V.ref b),o4,some (V.ref nb),some (V.int (1 + (i:Int))),o7,o8,o9,o10] [0,1,6]=[some (V.ref p),some (V.ref d),some (V.int (1 + (i:Int)))] from rfl]
   refine Zkw (λz=>decide (i + 1∈wayL rs (hf z))) (s4 _ _ hd) hkv (by omega) (λz hz' H' k sm'' hk=>?_) (λnp H5 hnp s5 e5=>?_)
   ·obtain⟨hw1,hw2,hw3⟩:=hway z hz'
    have s0:=s4.trans sm''
    walk_at "rd"
    refine⟨kvs,.inr ⟨o,s0 _ _ hd⟩,.inr z,rfl,_,hw3,p,xs,rs,hf z,wayL rs (hf z),rfl,s0 _ _ hp,hR.same s0,hw1,by omega,λpw H6 hpw s6 e6=>?_⟩
    simp only [rIn]
    walk_at "rd"
    refine⟨_,.inl (.of e6),rfl,ZdT,?_⟩
    have ei:(1 + (i:Int))=((i + 1:Nat):Int):=by omega
    rw [ei,Zga]
    exact hk H6 s6
   have s05:=s4.trans s5
   have eb5:=s5 _ _ eb4
   have en5:=s5 _ _ en4
   have hS5:=hS4.keep λb ys e=>s5 _ _ e
   have hnpn:np ≠ nb:=λz=>by rw [z,en4] at hnp; cases hnp
   have hnpb:np ≠ b:=λz=>by rw [z,eb4] at hnp; cases hnp
   have hul:(ss.filter λz=>decide (i + 1∈wayL rs (hf z))).length<=ss.length:=YU _ _
   have hus:∀ z∈ss.filter (λz=>decide (i + 1∈wayL rs (hf z))),z∈ss:=λz hz=>(YB.mp hz).1
   have hus2:∀ z∈ss.filter (λz=>decide (i + 1∈wayL rs (hf z))),i + 1∈wayL rs (hf z):=λz hz=>by simpa using (List.mem_filter.mp hz).2
   have hum:∀ z∈ss,i + 1∈wayL rs (hf z)->z∈ss.filter (λz=>decide (i + 1∈wayL rs (hf z))):=λz hz h=>List.mem_filter.mpr ⟨hz,by simpa using h⟩
   have hun:(ss.filter λz=>decide (i + 1∈wayL rs (hf z))).Nodup:=hnd.filter _
   generalize ss.filter (λz=>decide (i + 1∈wayL rs (hf z)))=us at e5 hul hus hus2 hum hun
   subst hR0
   try dsimp only
   refine Zx λR0 hR0=>?_
   walk_at "rd"
   simp only [JQ,Zc6,cxK]
   walk_at "rd"
   refine⟨⟨_,.of e5⟩,?_⟩
   rw [show Jq [some (V.ref p),some (V.ref d),some (V.int c),some (V.ref b),o4,some (V.ref nb),some (V.int (1 + (i:Int))),some (V.ref np),o8,o9,o10] [5]=[some (V.ref nb)] from rfl]
   unfold Zl4
   refine ZcF (xs:=us.map V.str) (λacc j ys H'=>(∀ b' o',b' ≠ nb->H5 b'=some o'->H' b'=some o')/\acc ≠ nb/\H' acc=some (.lst ys)/\j<=us.length/\(∃ ns':List Int,H' nb=some (.lst (ns'.map V.int))/\ns'.length + j=ns.length/\∀ n∈ns',0<=n/\n < 7)/\∃ ps:List Int,ys=ps.map V.int/\ps.length=j/\∀ m∈ps,0<=m/\m<=4)
    (λacc H2 hn sm e=>⟨λb' o' _ e'=>sm _ _ e',(Zn en5 hn).symm,e,YD _,⟨ns,sm _ _ en5,rfl,hn7⟩,[],rfl,rfl,(λm hm=>by cases hm)⟩) (λacc j ys H2 hn hP=>?_) (λacc j y ys H2 os hn hj hP ol=>?_) (λacc ys H2 hn hP=>?_)
   ·obtain⟨h1,h2,h3,h4,_,ps,rfl,h5,_⟩:=hP
    exact⟨h3,by rw [Ye]; omega,.of (h1 _ _ hnpn e5)⟩
   ·obtain⟨h1,h2,h3,h4,⟨ns',h6,h7,h8⟩,ps,rfl,h5,h9⟩:=hP
    obtain⟨o',rfl⟩:∃ o',os=[o']:=by match os,ol with | [o'],_=>exact⟨o',rfl⟩
    have hju:j < us.length:=by have:=(List.getElem?_eq_some_iff.mp hj).1; simpa using this
    walk_at "rd"
    refine⟨[some y],rfl,rfl,?_⟩
    simp only [Zoi]
    walk_at "rd"
    have hn0:0 < ns'.length:=by
     have:ss.length<=(rs.length - i) * ss.length:=Nat.le_mul_of_pos_left _ (by omega)
     omega
    have hlast:(ns'.map V.int)[(ns'.map V.int).length - 1]?=some (.int ns'[ns'.length - 1]):=by
     rw [Ye,Yg,Yc (by omega)]
     rfl
    have hlb:=h8 _ (YG (show ns'.length - 1 < ns'.length by omega))
    refine⟨_,h6,_,hlast,_,rfl,by rw [Zg h2]; exact h3,λb' o' hb' e'=>?_,h2,Zf,hju,⟨ns'.dropLast,by rw [Zg h2.symm,Zf,List.map_dropLast],by rw [List.length_dropLast]; omega,λn hn=>h8 n (List.dropLast_subset _ hn)⟩,ps ++ [if 0 < ns'[ns'.length - 1] - 2 then ns'[ns'.length - 1] - 2 else 0],by simp,by simp [h5],λm hm=>?_⟩
    ·have hba:b' ≠ acc:=λz=>by rw [z,hn] at e'; cases e'
     rw [Zg hba,Zg hb']
     exact h1 b' o' hb' e'
    ·rcases Yw.mp hm with hm | hm
     ·exact h9 m hm
     ·rw [YF.mp hm]
      split <;> omega
   obtain⟨h1,h2,h3,_,⟨ns',h6,h7,h8⟩,ps,rfl,h5,h9⟩:=hP
   rw [Ye] at h5 h7
   have hpr:=(hz _ (Yl hri))
   have hneed:Jf rs (ss.map hf) (i + 1) ↔ us ≠ []:=by
    rw [ZaB λz hz=>(hway z hz).1]
    constructor
    ·rintro⟨z,hz',hk⟩ hu
     have:=hum z hz' hk
     rw [hu] at this
     cases this
    ·intro hu
     obtain⟨z,hz'⟩:=List.exists_mem_of_ne_nil us hu
     exact⟨z,hus z hz',hus2 z hz'⟩
   have hlv:∀ ps:List Int,(∀ m∈ps,0<=m/\m<=4)->0<=ps.sum/\ps.sum<=4 * ps.length:=λps h=>by
    induction ps with
    | nil=>simp
    | cons m ps ih=>rw [VW,YR]; have:=h m (.head _); have:=ih λx hx=>h x (.tail _ hx); omega
   have hbacc:acc ≠ b:=λz=>by rw [z,eb5] at hn; cases hn
   have hnpacc:acc ≠ np:=(Zn e5 hn).symm
   subst hR0
   try dsimp only
   refine Zx λR1 hR1=>?_
   suffices fin:∀ (pp:Addr) (ps:List Int) (H8:Hp),(∀ b' o',b' ≠ nb->H5 b'=some o'->H8 b'=some o')->H8 nb=some (.lst (ns'.map V.int))->H8 pp=some (.lst (ps.map V.int))->pp ≠ b->pp ≠ nb->ps.length=us.length->(∀ m∈ps,0<=m/\m<=4)->(us ≠ []->0 < ps.sum) ->
     R1 [some (V.ref p),some (V.ref d),some (V.int c),some (V.ref b),o4,some (V.ref nb),some (V.int (1 + (i:Int))),some (V.ref np),some (V.ref pp),o9,o10] H8 by
    refine Jt λA0 hA0 C0 hC0=>?_
    walk_at "rd"
    refine⟨ps,h3,?_⟩
    by_cases c0:ps.sum=0
    ·rw [if_pos c0]
     subst hA0
     walk_at "rd"
     simp only [JQ,Zc6,cxK]
     walk_at "rd"
     refine⟨⟨_,.of (h1 _ _ hnpn e5)⟩,?_⟩
     refine Zd0 Zs4 ZjF (xs:=us.map V.str) (as:=us.map λ_=>(1:Int)) (h1 _ _ hnpn e5) (by simp) (by rw [List.length_map]; omega) (λi' y t' hi' ht' H' kk os sm'' ol hkk=>?_) (λpq H8 zs hpq s8 e8 hY=>?_)
     ·obtain⟨o',rfl⟩:∃ o',os=[o']:=by match os,ol with | [o'],_=>exact⟨o',rfl⟩
      rw [Yg] at ht'
      obtain⟨_,_,rfl⟩:=Yx.mp ht'
      walk_at "rd"
      refine⟨[some y],rfl,rfl,?_⟩
      walk_at "rd"
      exact hkk _ _ (λ_ _ w=>w) rfl
     ·rw [Znl hY] at e8
      refine fin pq _ H8 (λb' o' hb' e'=>s8 _ _ (h1 b' o' hb' e')) (s8 _ _ h6) e8 (λz=>by rw [z,h1 _ _ hbn eb5] at hpq; cases hpq) (λz=>by rw [z,h6] at hpq; cases hpq) (by simp) (λm hm=>?_) λhu=>?_
      ·obtain⟨_,_,rfl⟩:=Yk.mp hm
       omega
      ·rw [ZoW]
       have:=List.length_pos_iff.mpr hu
       omega
    ·rw [if_neg c0]
     subst hC0
     walk_at "rd"
     exact fin acc ps H2 h1 h6 h3 hbacc h2 h5 h9 λ_=>by have:=hlv ps h9; omega
   intro pp ps H8 k8 en8 ep8 hppb hppn hpl hp4 hT
   have eb8:=k8 _ _ hbn eb5
   have e8n:=k8 _ _ hnpn e5
   have s08:Zk H H8:=λb' o' e'=>k8 b' o' (Zn e' hnb0) (s05 _ _ e')
   have hsum:=hlv ps hp4
   obtain⟨Tn,hTn0,hTn1,hTn2⟩:∃ Tn:Nat,0 < Tn/\Tn < 64/\(us ≠ []->(Tn:Int)=ps.sum):=by
    by_cases hu:us=[]
    ·exact⟨1,by decide,by decide,λh=>absurd hu h⟩
    ·have:=hT hu
     exact⟨ps.sum.toNat,by omega,by omega,λ_=>by omega⟩
   have hden:=rs[i].2.den_pos
   have hpsz:=hpr.1
   have hB'0:0 < B * (rs[i].2.den * Tn):=VH hB0 (VH hden hTn0)
   have hdv:B ∣ B * (rs[i].2.den * Tn):=Yat _ _
   have kp8:∀ b' ys,H5 b'=some (.tup ys)->H8 b'=some (.tup ys):=λb' ys e=>k8 _ _ (Jk e en5 (by intro z; cases z)) e
   subst hR1
   try dsimp only
   rw [ZhS]
   walk_at "rd"
   refine ZjL (xs:=us.map V.str) (ys:=ps.map V.int) (by simp [hpl]) (Psz H p d b nb np pp c (.int (1 + (i:Int))) ss us ps ns' i Tn rs[i].2 qf (B * (rs[i].2.den * Tn))) ⟨_,_,_,svs,qf,rfl,s08,eb8,en8,e8n,ep8,hS5.keep kp8,λz hz'=>⟨Nat.dvd_trans (hq4 z hz').1 hdv,(hq4 z hz').2.1,(hq4 z hz').2.2.mono (by omega),λ_=>(hq4 z hz').2.2⟩,by rw [List.take_zero,List.sum_nil,Int.mul_zero,Rat.zero_divInt,Rat.add_zero],λ_ _=>rfl,λG _=>by rw [List.take_zero,List.sum_nil,Int.mul_zero,Rat.zero_divInt,Rat.add_zero]; exact Rat.le_refl⟩
    (λj σ H' _ ⟨_,_,_,_,_,_,_,_,_,g1,g2,_⟩=>⟨.of g1,.of g2⟩) (λj x y σ H9 pt H10 hx hy hP hpt s10 e10=>?_) (λσ H9 hP=>?_)
   ·obtain⟨q4,q9,q10,sv9,qg,rfl,s9,eb9,en9,enp9,epp9,hS9,hq9,ht9,hi9,hg9⟩:=hP
    rw [Yg] at hx hy
    obtain⟨z,hzj,rfl⟩:=Yx.mp hx
    obtain⟨m,hmj,rfl⟩:=Yx.mp hy
    have hjl:=(Yi.mp hzj).1
    have hune:us ≠ []:=λe=>by rw [e] at hjl; simp at hjl
    have hTs:=hTn2 hune
    have hzs:=hus z (Yl hzj)
    have hm4:=hp4 m (Yl hmj)
    have s010:=s9.trans s10
    obtain⟨pr,yr,exr,hprt,hyr⟩:=(hR.same s010).2 i _ _ (Yc hix) hri
    obtain⟨py,rfl,hpy⟩:=id hyr
    obtain⟨v,ev,rv⟩:=(hS9.keep λb ys e=>s10 _ _ e).val hnd z hzs
    have hznt:z ∉ us.take j:=λhm=>by
     have h1:(us.take (j + 1)).Nodup:=hun.sublist (Vp _ _)
     rw [Yp,hzj] at h1
     exact (List.nodup_append.mp h1).2.2 _ hm _ (by simp) rfl
    have szq:=(hq9 z hzs).2.2.2 hznt
    have sT:((Tn:Nat):Int).natAbs < 2 ^ 6:=by rw [VO]; omega
    have sm3:m.natAbs < 2 ^ 3:=by omega
    have hdp:(0:Int) < (rs[i].2.den:Int) * (Tn:Int):=Int.mul_pos (by omega) (by omega)
    have szn:=Zay hpsz.1 sm3
    have szdn:=Zay (ZQ hpsz) sT
    have szsh:Jo 117 (Rat.divInt (rs[i].2.num * m) ((rs[i].2.den:Int) * (Tn:Int))):=Jo.of (by omega) (Z3 szn (by omega)) (Z3 szdn (by omega))
    have h0sh:0<=Rat.divInt (rs[i].2.num * m) ((rs[i].2.den:Int) * (Tn:Int)):=(Rat.divInt_nonneg_iff_of_pos_right hdp).mpr (Int.mul_nonneg hpr.2 hm4.1)
    have hdsh:(Rat.divInt (rs[i].2.num * m) ((rs[i].2.den:Int) * (Tn:Int))).den ∣ B * (rs[i].2.den * Tn):=by
     have e:((rs[i].2.den:Int) * (Tn:Int))=((rs[i].2.den * Tn:Nat):Int):=by simp
     rw [e]
     exact VV (Zph (VH hden hTn0)) (Nat.dvd_mul_left _ _)
    walk_at "rd"
    refine⟨_,e10,rfl,_,_,rfl,_,_,rfl,rfl,xs,s010 _ _ hp,.ref pr,?_,pr,rfl,_,hprt,_,rfl,sv9,.inl (s10 _ _ eb9),.inr z,rfl,v,ev,py,rfl,_,hpy,_,rfl,_,rfl,?_⟩
    ·rw [show (1:Int) + (i:Int) - 1=(i:Int) by omega,<- exr]
     exact ZM (Yc hix)
    have sTs:ps.sum.natAbs < 2 ^ 6:=by rw [<- hTs]; exact sT
    refine⟨m,rfl,JG hpsz.1 sm3 (by decide),py,rfl,_,hpy,_,rfl,ps,s10 _ _ epp9,_,rfl,JG (ZQ hpsz) sTs (by decide),_,_,rfl,?_⟩
    rw [<- hTs]
    refine⟨Big.of szdn (by decide),hdp,λr11 H11 s11 v11=>⟨v,r11,_,_,rfl,rv.same s11,v11,szq.mono (by omega),szsh.mono (by decide),λr12 H12 s12 v12=>?_⟩⟩
    have s912:=s10.trans (s11.trans s12)
    have eb12:=s912 _ _ eb9
    have kp:∀ b' ys,H12 b'=some (.tup ys)->upd H12 b (.dK (Jh sv9 (Sum.inr z) r12)) b'=some (.tup ys):=λb' ys e=>by rw [Zg (Jk e eb12 (by intro z; cases z))]; exact e
    refine⟨sv9,eb12,.inr z,rfl,by rw [hS9.1]; omega,_,_,_,Jh sv9 (Sum.inr z) r12,λy=>if y=z then qg y + Rat.divInt (rs[i].2.num * m) ((rs[i].2.den:Int) * (Tn:Int)) else qg y,rfl,Zt hb (s9.trans s912),Zf,by rw [Zg hbn.symm]; exact s912 _ _ en9,by rw [Zg hnpb]; exact s912 _ _ enp9,by rw [Zg hppb]; exact s912 _ _ epp9,?_,λy hy=>?_,?_,λy hy=>?_,λG hG=>?_⟩
    ·refine ShV.put ((hS9.keep λb ys e=>s912 _ _ e).keep kp) hzs ?_ λy hy=>if_neg hy
     rw [if_pos rfl]
     exact v12.keep kp
    ·obtain⟨d1,d2,d3,d4⟩:=hq9 y hy
     have htk:us.take (j + 1)=us.take j ++ [z]:=by rw [Yp,hzj]; rfl
     dsimp only
     by_cases cy:y=z
     ·subst cy
      rw [if_pos rfl]
      exact⟨ZpY hB'0 d1 hdsh,Rat.add_nonneg d2 h0sh,szq.add szsh (by omega),λhn=>absurd (by rw [htk]; simp) hn⟩
     ·rw [if_neg cy]
      exact⟨d1,d2,d3,λhn=>d4 λhm=>hn (by rw [htk]; exact Vx _ hm)⟩
    ·rw [Zfl hnd hzs,ht9,Vl,ZdS (by omega),<- Int.mul_add,Zih ps j m hmj]
    ·have htk:us.take (j + 1)=us.take j ++ [z]:=by rw [Yp,hzj]; rfl
     rw [htk,Yw] at hy
     have hyz:y ≠ z:=λe=>hy (.inr (by simp [e]))
     show (if y=z then _ else qg y)=qf y
     rw [if_neg hyz]
     exact hi9 y λh=>hy (.inl h)
    ·have e:Rat.divInt (rs[i].2.num * (ps.take (j + 1)).sum) ((rs[i].2.den:Int) * (Tn:Int))=Rat.divInt (rs[i].2.num * (ps.take j).sum) ((rs[i].2.den:Int) * (Tn:Int)) + Rat.divInt (rs[i].2.num * m) ((rs[i].2.den:Int) * (Tn:Int)):=by rw [ZdS (by omega),<- Int.mul_add,Zih ps j m hmj]
     rw [e,<- Vl]
     have h1:=hg9 G hG
     by_cases cz:z∈G
     ·rw [Zfl hG cz]
      exact Rat.add_le_add_right.mpr h1
     ·rw [show (G.map λy=>if y=z then qg y + Rat.divInt (rs[i].2.num * m) ((rs[i].2.den:Int) * (Tn:Int)) else qg y)=G.map qg from YQ λy hy=>if_neg λe:y=z=>cz (by rw [<- e]; exact hy)]
      refine Rat.le_trans h1 ?_
      have h2:=Rat.add_le_add_left (c:=ZK (G.map qf) + Rat.divInt (rs[i].2.num * (ps.take j).sum) ((rs[i].2.den:Int) * (Tn:Int))).mpr h0sh
      rw [Yae] at h2
      exact h2
   ·obtain⟨q4,q9,q10,sv9,qg,rfl,s9,eb9,en9,enp9,epp9,hS9,hq9,ht9,hi9,hg9⟩:=hP
    rw [Ye,Yv] at hi9
    rw [Ye,<- hpl,Yv] at ht9 hg9
    have hBle:B * (rs[i].2.den * Tn)<=2 ^ (117 * (i + 1)):=by
     have h1:rs[i].2.den<=2 ^ 110:=Yt hpsz.2
     have h2:rs[i].2.den * Tn<=2 ^ 110 * 2 ^ 6:=Yab h1 (by omega)
     refine Yj (Yab hB1 h2) ?_
     rw [<- Vi,<- Vi]
     exact YO (by decide) (by omega)
    have hnl':(rs.length - (i + 1)) * ss.length<=ns'.length:=by
     have h1:(rs.length - i) * ss.length=(rs.length - (i + 1)) * ss.length + ss.length:=by
      rw [show rs.length - i=(rs.length - (i + 1)) + 1 by omega,Nat.add_mul,Nat.one_mul]
     omega
    refine⟨_,_,_,_,_,_,sv9,qg,B * (rs[i].2.den * Tn),ns',rfl,s9,eb9,en9,hnl',h8,hS9,hB'0,hBle,λz hz'=>⟨(hq9 z hz').1,(hq9 z hz').2.1,(hq9 z hz').2.2.1⟩,λj r hj hr=>?_,λks hkn hkm=>?_,λG hGn hGs ks hkn hkm=>?_⟩
    ·by_cases cj:j=i
     ·subst cj
      rw [hri] at hr
      cases hr
      exact VV (Yat _ _) (Nat.dvd_mul_left _ _)
     ·exact VV (hd4 j r (by omega) hr) hdv
    ·have hpa:Zl rs (i + 1)=rs[i].2:=by unfold Zl; rw [Nat.add_sub_cancel,hri]; rfl
     have h1:=ht4 (ks.filter λk=>!decide (k=i + 1)) (hkn.filter _) λk=>by
      rw [YB,hkm k]
      simp
      constructor
      ·rintro⟨⟨h1,h2⟩,h3⟩; exact⟨by omega,h2⟩
      ·rintro⟨h1,h2⟩; exact⟨⟨by omega,h2⟩,by omega⟩
     by_cases hu:us=[]
     ·have hnk:∀ k∈ks,k ≠ i + 1:=λk hk e=>(hneed.mp (e ▸ ((hkm k).mp hk).2)) hu
      rw [List.filter_eq_self.mpr λk hk=>by simp [hnk k hk]] at h1
      have hps:ps=[]:=V1.mp (by rw [hpl,hu]; rfl)
      rw [ht9,h1,hps,List.sum_nil,Int.mul_zero,YaA,Yae]
     ·have hTs:=hTn2 hu
      have hmem:i + 1∈ks:=(hkm _).mpr ⟨Yd _,hneed.mpr hu⟩
      have hpm:ks.Perm ((i + 1) :: ks.filter λk=>!decide (k=i + 1)):=by
       refine (List.perm_ext_iff_of_nodup hkn ?_).mpr λk=>?_
       ·rw [Y4]
        exact⟨λh=>by simpa using (List.mem_filter.mp h).2,hkn.filter _⟩
       ·rw [Yn,YB]
        simp
        by_cases ck:k=i + 1
        ·subst ck; simp [hmem]
        ·simp [ck]
      rw [ZeT (hpm.map _),Yr,Zaj,hpa,<- h1,ht9,<- hTs,V5 (by omega),Ve,Rat.add_comm]
    ·have hpa:Zl rs (i + 1)=rs[i].2:=by unfold Zl; rw [Nat.add_sub_cancel,hri]; rfl
     have hwG:∀ z∈G,WayR rs (hf z) (wayL rs (hf z)):=λz hz=>(hway z (hGs z hz)).1
     have h1:=hg4 G hGn hGs (ks.filter λk=>!decide (k=i + 1)) (hkn.filter _) λk=>by
      rw [YB,hkm k]
      simp
      constructor
      ·rintro⟨⟨h1,h2⟩,h3⟩; exact⟨by omega,h2⟩
      ·rintro⟨h1,h2⟩; exact⟨⟨by omega,h2⟩,by omega⟩
     by_cases hm:∃ z∈G,z∈us
     ·obtain⟨z,hzG,hzu⟩:=hm
      have hTs:=hTn2 λe=>by rw [e] at hzu; cases hzu
      have hmem:i + 1∈ks:=(hkm _).mpr ⟨Yd _,(ZaB hwG).mpr ⟨z,hzG,hus2 z hzu⟩⟩
      have hpm:ks.Perm ((i + 1) :: ks.filter λk=>!decide (k=i + 1)):=by
       refine (List.perm_ext_iff_of_nodup hkn ?_).mpr λk=>?_
       ·rw [Y4]
        exact⟨λh=>by simpa using (List.mem_filter.mp h).2,hkn.filter _⟩
       ·rw [Yn,YB]
        simp
        by_cases ck:k=i + 1
        ·subst ck; simp [hmem]
        ·simp [ck]
      rw [ZeT (hpm.map _),Yr,Zaj,hpa]
      have h2:=hg9 G hGn
      rw [<- hTs,V5 (by omega),Ve] at h2
      refine Rat.le_trans h2 ?_
      rw [Rat.add_comm]
      exact Rat.add_le_add_left.mpr h1
     ·have hnk:∀ k∈ks,k ≠ i + 1:=λk hk e=>by
       obtain⟨z,hzG,hkz⟩:=(ZaB hwG).mp (e ▸ ((hkm k).mp hk).2)
       exact hm ⟨z,hzG,hum z (hGs z hzG) hkz⟩
      rw [List.filter_eq_self.mpr λk hk=>by simp [hnk k hk]] at h1
      rw [show G.map qg=G.map qf from YQ λz hz=>hi9 z λh=>hm ⟨z,hz,h⟩]
      exact h1
  ·obtain⟨o4,o6,o7,o8,o9,o10,svs,qf,B,ns,rfl,s4,eb4,en4,hnl4,hn7,hS4,hB0,hB1,hq4,hd4,ht4,hg4⟩:=hP
   walk_at "rd"
   have e20:(((xs.length:Int) + 1 - 1).toNat)=rs.length:=by omega
   rw [e20] at hB1 hd4 ht4 hg4
   refine q b H4 svs qf B hb s4 eb4 hS4 hB0 (Yj hB1 (YO (by decide) (by omega))) (λz hz=>⟨(hq4 z hz).1,(hq4 z hz).2.1⟩) (λr hr=>?_) (λks hkn hkm=>ht4 ks hkn λk=>(hkm k).trans ⟨λh=>⟨(Z5 h).2,h⟩,λh=>h.2⟩) λG hGn hGs ks hkn hkm=>hg4 G hGn hGs ks hkn λk=>(hkm k).trans ⟨λh=>⟨(Z5 h).2,h⟩,λh=>h.2⟩
   obtain⟨j,hj,rfl⟩:=Vz hr
   exact hd4 j _ hj (Yc hj)
def Zig(hB:0 < B){m:Int}(h:0 < m):0 < (Zm B m).num:=by
 have h:=(@ZbE B hB 0 m).mpr h
 rw [Za4,Rat.lt_iff] at h
 simpa using h
theorem ZkC(h:H a=some (.tup xs)):JD H (.ref a)=some "tuple":=by simp [JD,h]
def Zdy:Sp:=λvs H Q _=>∃ (x:V) (p:Rat),vs=[x]/\ZR H x p/\Jo 3000 p/\∀ H',Zk H H'->Q (.bl true) H'
def Zhy(F:Fun K "_law_fraction" "_law_fraction" Zbx f fd)(Zj:mg "isinstance"=none)(ZaO:mg "tuple"=none)(ZC:mg "len"=none)(ZdH:mg "int"=none)(Zc0:mg "bool"=none)(ZI:Fn P w K mg base ZD 1 "_law_low" ["_law_top","_law_bottom"] ZbF):FnOk P w K mg base ZD 2 f fd ["_law_told"] Zdy:=by
 refine JU F Zcc λcdv A outer s H vs Q E hr h=>?_
 obtain⟨x,p,rfl,⟨a,rfl,ha⟩,hz,q⟩:=h
 refine⟨_,(Zd (Jm (t_w (JW (JC (Jg (Jv rfl Zj (Zi (Ze 0) (Zi (J2 rfl ZaO rfl) Za))))) (Zda (Zny (Ju rfl ZC (Zi (Ze 0) Za)) Zb)))) (Zh (Zy JX)) ZV)
   (Zd (Je Yq (ZsP (Ze 0)) (Zr 1 Zcc.nd) (Zh (Jm (t_w (JW (JC (Jg (Jv rfl Zj (Zi (Ze 1) (Zi (J2 rfl ZdH rfl) Za))))) (Zda (Jg (Jv rfl Zj (Zi (Ze 1) (Zi (J2 rfl Zc0 rfl) Za))))))) (Zh (Zy JX)) ZV)))
   (Zh (Zy (Zfo (Ztw (ZA (Ze 0) Zb) Zb) (Zgn (ZrV hr (Jb ZI hr (Zi (ZA (Ze 0) Zb) (Zi (ZA (Ze 0) Zb) Za))) (Ze 0)))))))),?_⟩
 rw [show Zz ["_law_told","_law_number"] [.ref a]=[some (.ref a),none] from rfl]
 walk_at "rd"
 simp only [ZkC ha,ha,ZmE]
 walk_at "rd"
 rw [if_neg (by simp)]
 refine ZoQ (xs:=[V.int p.num,V.int (p.den:Int)]) (λi σ H'=>∃ o,σ=[some (V.ref a),o]/\H'=H) ⟨_,rfl,rfl⟩ (λi σ H' _ ⟨_,_,e⟩=>by rw [e]; exact .of ha) (λi v σ H' hi hP=>?_) (λσ H' hP=>?_)
 ·obtain⟨o,rfl,rfl⟩:=hP
  obtain⟨n,rfl⟩:∃ n:Int,v=V.int n:=by
   have hm:=Yl hi
   simp only [List.mem_cons,List.not_mem_nil,or_false] at hm
   rcases hm with rfl | rfl
   ·exact⟨_,rfl⟩
   ·exact⟨_,rfl⟩
  walk_at "rd"
 ·obtain⟨o,rfl,rfl⟩:=hP
  have hdp:=p.den_pos
  walk_at "rd"
  refine⟨_,ha,_,rfl,_,rfl,?_⟩
  rw [if_pos (by omega)]
  refine⟨_,ha,_,rfl,_,ha,_,rfl,p.num,p.den,rfl,Big.of (ZQ hz) (by decide),by omega,λr H2 s2 v2=>?_⟩
  rw [Ve] at v2
  obtain⟨pr,pc,rfl,e,h⟩:=Zfp v2 ⟨a,rfl,s2 _ _ ha⟩
  cases e
  exact⟨true,1,pr,a,rfl,rfl,h,by decide,q _ s2⟩
def Zgs:Sp:=λvs H Q _=>∃ (g d:Addr) (n:Nat) (o:Obj) (kvs:List (ZU × V)) (ss:List Str) (tvs:List V) (qs:List (Nat × Str × Int)) (B:Nat),vs=[.ref g,.ref d,.int (n:Int)]/\H g=some (.lst tvs)/\H d=some (.frz o (.dK kvs))/\(∀ z∈ss,∃ v,JI kvs (Sum.inr z)=some v)/\Zom B H tvs qs/\0 < B/\(∀ p∈qs,1<=p.1/\p.1<=n/\p.2.1∈ss/\0 < p.2.2/\Jo 3000 (Zm B p.2.2))/\qs.Pairwise (λx y=>Jj (x.1,x.2.1) (y.1,y.2.1)=true)/\qs.length < 64/\∀ H',Zk H H'->Q (.bl true) H'
def Pfm(H0:Hp)(g d:Addr)(n:Nat)(qs:List (Nat × Str × Int))(i:Nat)(σ:St)(H:Hp):Prop:=∃ (o4:Option V) (c:Addr) (m:Nat) (z:Str),σ=[some (.ref g),some (.ref d),some (.int (n:Int)),some (.ref c),o4]/\Zk H0 H/\H c=some (.tup [.int (m:Int),.str z])/\∀ p,qs[i]?=some p->Jj (m,z) (p.1,p.2.1)=true
def ZjI(F:Fun K "_law_formed" "_law_formed" Zcd f fd)(Zj:mg "isinstance"=none)(ZG:mg "list"=none)(ZaO:mg "tuple"=none)(ZC:mg "len"=none)(ZdH:mg "int"=none)(Zc0:mg "bool"=none)(Zi4:mg "str"=none)(ZbH:Fn P w K mg base ZD 2 "_law_fraction" ["_law_told"] Zdy):FnOk P w K mg base ZD 3 f fd ["_law_table","_law_homes","_law_many"] Zgs:=by
 refine JU F Za9 λcdv A outer s H vs Q E hr h=>?_
 obtain⟨g,d,n,o,kvs,ss,tvs,qs,B,rfl,hg,hd,hks,hT,hB,hrow,hup,hfew,q⟩:=h
 refine⟨_,(Zd (Zs 3 Za9.nd (JS (Zi Zb (Zi ZfT Za))))
   (Zd (Jm (JC (Jg (Jv rfl Zj (Zi (Ze 0) (Zi (J2 rfl ZG rfl) Za))))) (Zh (Zy JX)) ZV)
   (Zd (Je Yq (Z6 (Ze 0)) (Zr 4 Za9.nd) (Zd (Jm (t_w (JW (JC (Jg (Jv rfl Zj (Zi (Ze 4) (Zi (J2 rfl ZaO rfl) Za))))) (JW (Zny (Ju rfl ZC (Zi (Ze 4) Za)) Zb) (JW (JC (Jg (Jv rfl Zj (Zi (ZA (Ze 4) Zb) (Zi (J2 rfl ZdH rfl) Za))))) (Zda (Jg (Jv rfl Zj (Zi (ZA (Ze 4) Zb) (Zi (J2 rfl Zc0 rfl) Za))))))))) (Zh (Zy JX)) ZV)
   (Zd (Jm (t_w (JW (ZpL (ZA (Ze 4) Zb) Zb) (JW (ZsO (ZA (Ze 4) Zb) (Ze 2)) (JW (JC (Jg (Jv rfl Zj (Zi (ZA (Ze 4) Zb) (Zi (J2 rfl Zi4 rfl) Za))))) (Zda (ZoK (Z9 hr) (ZA (Ze 4) Zb) (Ze 1))))))) (Zh (Zy JX)) ZV)
   (Zd (Jm (t_w (JW (JC (Jg (Jb ZbH hr (Zi (ZA (Ze 4) Zb) Za)))) (JW (ZtT (ZA (ZA (Ze 4) Zb) Zb) Zb) (Zda (ZsY hr (Zoz (Ze 4) Zb) (Ze 3)))))) (Zh (Zy JX)) ZV)
   (Zh (Zs 3 Za9.nd (Zoz (Ze 4) Zb)))))))
   (Zh (Zy JX))))),?_⟩
 rw [show Zz ["_law_table","_law_homes","_law_many","_law_last","_law_row"] [.ref g,.ref d,.int (n:Int)]=[some (.ref g),some (.ref d),some (.int (n:Int)),none,none] from rfl]
 walk_at "rd"
 intro c0 H1 hc0 s1 e1
 refine⟨"list",by simp [JD,s1 _ _ hg],?_⟩
 rw [if_neg (by decide),Zaq]
 walk_at "rd"
 have htl:tvs.length=qs.length:=hT.1
 refine Zaz (xs:=tvs) (Pfm H g d n qs) ⟨_,c0,0,Str.ofString "",rfl,s1,e1,λp hp=>?_⟩ (λi σ H' _ ⟨_,_,_,_,_,sm',_⟩=>.of (sm' _ _ hg)) (λi y σ H' hi hP=>?_) (λσ H' hP=>?_)
 ·have:=(hrow p (Yl hp)).1
  show Jj (((0:Nat):Int),_) ((p.1:Int),p.2.1)=true
  rw [Jj,if_neg (by show ¬ ((0:Nat):Int)=(p.1:Int); omega)]
  exact YL (by show ((0:Nat):Int) < (p.1:Int); omega)
 ·obtain⟨o4,c,m,z,rfl,s2,ec,hlt⟩:=hP
  have hil:i < qs.length:=by rw [<- htl]; exact (Yi.mp hi).1
  have hqi:=Yc hil
  obtain⟨t,r,rfl,ht,hrv⟩:=hT.2 i _ _ hi hqi
  have ht2:=s2 _ _ ht
  have hrv2:=hrv.same s2
  obtain⟨h1,h2,h3,h4,h5⟩:=hrow _ (Yl hqi)
  have hlt':=hlt _ hqi
  obtain⟨pr,rfl,hpr⟩:=id hrv2
  refine Zx λR0 hR0=>?_
  refine Jt λA0 hA0 C0 hC0=>?_
  walk_at "rd"
  refine⟨"tuple",by simp [JD,ht2],?_⟩
  rw [if_neg (by decide)]
  refine⟨_,.inr ht2,?_⟩
  rw [if_neg (by simp)]
  refine⟨_,ht2,_,rfl,"int",rfl,?_⟩
  rw [if_neg (by decide)]
  refine⟨_,ht2,_,rfl,"int",rfl,?_⟩
  rw [if_neg (by decide)]
  subst hC0
  walk_at "rd"
  subst hR0
  try dsimp only
  refine Zx λR0 hR0=>?_
  refine Jt λA0 hA0 C0 hC0=>?_
  walk_at "rd"
  refine⟨_,ht2,_,rfl,_,rfl,?_⟩
  rw [if_neg (by omega)]
  refine⟨_,ht2,_,rfl,_,rfl,?_⟩
  rw [if_neg (by omega)]
  refine⟨_,ht2,_,rfl,"str",rfl,?_⟩
  rw [if_neg (by decide)]
  refine⟨_,ht2,_,rfl,kvs,.inr ⟨o,s2 _ _ hd⟩,.inr _,rfl,?_⟩
  obtain⟨vz,hvz⟩:=hks _ h3
  rw [if_neg (by rw [hvz]; simp)]
  subst hC0
  walk_at "rd"
  subst hR0
  try dsimp only
  refine Zx λR0 hR0=>?_
  refine Jt λA0 hA0 C0 hC0=>?_
  walk_at "rd"
  refine⟨_,ht2,_,rfl,_,_,rfl,hrv2,h5,λH3 s3=>⟨_,rfl,?_⟩⟩
  rw [if_neg (by decide)]
  refine⟨_,s3 _ _ ht2,_,rfl,pr,rfl,_,s3 _ _ hpr,_,rfl,_,rfl,?_⟩
  rw [if_neg (by have:=Zig hB h4; omega)]
  simp only [Zst]
  walk_at "rd"
  refine⟨_,.of (s3 _ _ ht2),(by rintro⟨_,h⟩; exact absurd h (by show ¬ HT.sIx 3 3 (some 2)=3; decide)),λp hp=>?_⟩
  have ec3:=s3 _ _ ec
  refine⟨p,c,_,_,_,_,rfl,rfl,Zf,by rw [Zg (Zn ec3 hp)]; exact ec3,_,rfl,?_⟩
  rw [show (!Jj ((m:Int),z) ((qs[i].1:Int),qs[i].2.1))=false by rw [hlt']; rfl,if_neg (by decide)]
  have s4:Zk H3 (upd H3 p (.tup (Zq9 [.int (qs[i].1:Int),.str qs[i].2.1,.ref pr] none (some 2)))):=ZO hp _
  subst hC0
  walk_at "rd"
  subst hR0
  try dsimp only
  walk_at "rd"
  simp only [Zst]
  walk_at "rd"
  have s34:=s3.trans s4
  refine⟨_,.of (s34 _ _ ht2),(by rintro⟨_,h⟩; exact absurd h (by show ¬ HT.sIx 3 3 (some 2)=3; decide)),λp2 hp2=>?_⟩
  exact⟨_,p2,qs[i].1,qs[i].2.1,rfl,(s2.trans s34).trans (ZO hp2 _),Zf,λq' hq'=>by
   obtain⟨hl',e'⟩:=Yi.mp hq'
   rw [<- e']
   exact List.pairwise_iff_getElem.mp hup i (i + 1) hil hl' (VR i)⟩
 ·obtain⟨o4,c,m,z,rfl,s2,_⟩:=hP
  walk_at "rd"
  exact q _ s2
def Zls{l:List α}{f:α->Int}(h:∀ x∈l,0<=f x)(j:Nat):0<=sm (l.take j) f/\sm (l.take j) f<=sm l f:=by
 have e:sm l f=sm (l.take j) f + sm (l.drop j) f:=by rw [<- ZbM,Yao]
 have h1:0<=sm (l.take j) f:=Zb9 λp hp=>h p (List.mem_of_mem_take hp)
 have h2:0<=sm (l.drop j) f:=Zb9 λp hp=>h p (List.mem_of_mem_drop hp)
 omega
def ZhX{l:List α}{f:α->Int}{j:Nat}{x:α}(h:l[j]?=some x):sm (l.take (j + 1)) f=sm (l.take j) f + f x:=by
 rw [Yp,h,ZbM]
 simp [sm]
def ZhC{a b:Addr}{sv1 sv2:List (ZU × V)}{qf qg:Str->Rat}(ha:Rd H a (.dK sv1))(hb:Rd H b (.dK sv2))(hN:ss.Nodup)(hv1:ShV H sv1 ss qf)(hv2:ShV H sv2 ss qg)(he:∀ z∈ss,qf z=qg z):EqP H (.ref a) (.ref b) 3 :=
 .dct (n:=1) ha hb (by rw [hv1.1,hv2.1]) (λj x y h1 h2=>by
  have hj:j < ss.length:=by rw [<- hv1.1]; exact (Yi.mp h1).1
  obtain⟨v1,e1,r1⟩:=hv1.2 j _ (Yc hj)
  obtain⟨v2,e2,r2⟩:=hv2.2 j _ (Yc hj)
  rw [h1] at e1
  rw [h2] at e2
  cases e1
  cases e2
  rw [he _ (YG hj)] at r1
  obtain⟨_,_,_,_,h⟩:=Zfp r1 r2
  exact⟨rfl,h⟩) (by rw [hv1.keys]; exact Zgk hN)
def Zh2{qs:List (Nat × Str × Int)}{j k:Nat}{x:Nat × Str × Int}(h:qs[j]?=some x):JA (qs.take (j + 1)) k=JA (qs.take j) k + if x.1=k then x.2.2 else 0:=ZhX h
def Zik{qs:List (Nat × Str × Int)}{j:Nat}{x:Nat × Str × Int}(h:qs[j]?=some x):JH (qs.take (j + 1)) z=JH (qs.take j) z + if z=x.2.1 then x.2.2 else 0:=ZhX h
def Zn5(CT:Addr):Sp:=λvs H Q _=>∃ (p d sd g:Addr) (xs:List V) (x:V) (rs:List (Nat × Rat)) (o:Obj) (kvs svs:List (ZU × V)) (ss:List Str) (hf:Str->Nat) (B:Nat) (a:Str->Int) (cs:Nat->Int) (tvs:List V) (qs:List (Nat × Str × Int)),vs=[.ref p,.ref d,.ref sd,.ref g]/\H p=some (.lst xs)/\Jp H xs rs/\Jd H CT x d sd rs o kvs svs ss hf B a cs/\H g=some (.lst tvs)/\Zom B H tvs qs/\TabOk rs hf ss cs a qs/\∀ H',Zk H H'->Q (.bl true) H'
def ZcB(B n:Nat)(qs:List (Nat × Str × Int)):List Rat:=(List.range n).map λi=>Zm B (JA qs (i + 1))
def Pth(H0:Hp)(p d sd g pd b:Addr)(rs:List (Nat × Rat))(ss:List Str)(B:Nat)(qs:List (Nat × Str × Int))(j:Nat)(σ:St)(H:Hp):Prop:=∃ (o6 o7 o8:Option V) (pvs:List V) (shv:List (ZU × V)),σ=[some (.ref p),some (.ref d),some (.ref sd),some (.ref g),some (.ref pd),some (.ref b),o6,o7,o8]/\Zk H0 H/\H pd=some (.lst pvs)/\JF ZR H pvs (ZcB B rs.length (qs.take j))/\H b=some (.dK shv)/\ShV H shv ss (λz=>Zm B (JH (qs.take j) z))
def Zsj(F:Fun K "_law_table_holds" "_law_table_holds" ZaY f fd)(ZC:mg "len"=none)(Zcg:Fn P w K mg base ZD 3 "_law_formed" ["_law_table","_law_homes","_law_many"] Zgs)(ZaI:Fn P w K mg base ZD 1 "_law_way" ["_law_roads","_law_k"] Ziq)(Zau:Fn P w K mg base ZD 2 "_law_add" ["_law_one","_law_other"] Zek):FnOk P w K mg base ZD 4 f fd ["_law_roads","_law_homes","_law_sharing","_law_table"] (Zn5 CT):=by
 refine JU F Zae λcdv A outer s H vs Q E hr h=>?_
 obtain⟨p,d,sd,g,xs,x,rs,o,kvs,svs,ss,hf,B,a,cs,tvs,qs,rfl,hp,hR,J,hg,hT,hk,q⟩:=h
 have hxl:=hR.1
 have hfew:=J.few
 have hrl:=J.rl
 have hks:=J.keys
 have hkl:kvs.length=ss.length:=by have:=congrArg List.length hks; simpa using this
 have hval:∀ z∈ss,JI kvs (Sum.inr z)=some (.int (hf z:Int))/\hf z<=rs.length:=λz hz=>(J.hat [z] (λy hy=>by rw [YF.mp hy]; exact hz)).2 0 z (hf z) rfl rfl
 have hnm0:∀ z,∀ y∈qs,0<=if z=y.2.1 then y.2.2 else 0:=λz y hy=>by
  have:=(hk.row y hy).2.2.2.2
  split <;> omega
 have hrd0:∀ k,∀ y∈qs,0<=if y.1=k then y.2.2 else 0:=λk y hy=>by
  have:=(hk.row y hy).2.2.2.2
  split <;> omega
 have hneed:∀ y∈qs,Jf rs (ss.map hf) y.1:=λy hy=>(ZaB J.way).mpr ⟨y.2.1,(hk.row y hy).2.2.1,(hk.row y hy).2.2.2.1⟩
 have hnmz:∀ z∈ss,∀ j,(JH (qs.take j) z).natAbs < 2 ^ 2600:=λz hz j=>by
  have h1:=Zls (hnm0 z) j
  have h2:=hk.name z hz
  have h3:=J.az z hz
  unfold JH at h2 ⊢
  omega
 have hrdz:∀ k,Jf rs (ss.map hf) k->∀ j,(JA (qs.take j) k).natAbs < 2 ^ 2600:=λk hk' j=>by
  have h1:=Zls (hrd0 k) j
  have h2:=hk.road k hk'
  have h3:=J.cz k
  unfold JA at h2 ⊢
  omega
 have hamz:∀ y∈qs,(y.2.2).natAbs < 2 ^ 2600:=λy hy=>by
  have h1:=Zew (hnm0 y.2.1) hy
  have h2:=hk.name y.2.1 (hk.row y hy).2.2.1
  have h3:=J.az y.2.1 (hk.row y hy).2.2.1
  have h4:=(hk.row y hy).2.2.2.2
  rw [if_pos rfl] at h1
  unfold JH at h2
  omega
 have szf:∀ m:Int,m.natAbs < 2 ^ 2600->Jo 3000 (Zm B m):=λm h=>(Jc J.b0 J.b1 h).mono (by decide)
 refine⟨_,(Zd (Jm (JC (Jg (Jb Zcg hr (Zi (Ze 3) (Zi (Ze 1) (Zi (Ju rfl ZC (Zi (Ze 0) Za)) Za)))))) (Zh (Zy JX)) ZV)
   (Zd (ZcG 4 (Ztq ["_law_road"]) (Z6 (Ze 0)) (by exact λs H fp=>(Zr 0 (show List.Nodup (["_law_road"]:List Str) from by decide +kernel))) (by exact λs H fp=>(JS (Zi Zb (Zi Zb Za)))) (Zr 4 Zae.nd))
   (Zd (Zs 5 Zae.nd ZhV)
   (Zd (Je Yq (ZdB (Ze 1)) (Zr 6 Zae.nd) (Zh (ZcN (Z9 hr) (Ze 5) (Ze 6) (JS (Zi Zb (Zi Zb Za))))))
   (Zd (Je Yq (Z6 (Ze 3)) (ZhN (n:=3) (ZaP (Zr 7 Zae.nd) (ZaP (Zr 6 Zae.nd) (ZaP (Zr 8 Zae.nd) Zd6)))) (Zd (Jm (ZqE (Ze 7) (Jb ZaI hr (Zi (Ze 0) (Zi (Jl (Z9 hr) (Ze 1) (Ze 6)) Za)))) (Zh (Zy JX)) ZV)
   (Zd (Zn1 (Jb Zau hr (Zi (Jx (Ze 4) (JP (Ze 7) Zb)) (Zi (Ze 8) Za))) (ZkS (Ze 4) (JP (Ze 7) Zb)))
   (Zh (ZcN (Z9 hr) (Ze 5) (Ze 6) (Jb Zau hr (Zi (Jl (Z9 hr) (Ze 5) (Ze 6)) (Zi (Ze 8) Za))))))))
   (Zd (Je Yq (ZdB (Ze 1)) (Zr 6 Zae.nd) (Zh (Je Yq (Z6 (Jb ZaI hr (Zi (Ze 0) (Zi (Jl (Z9 hr) (Ze 1) (Ze 6)) Za)))) (Zr 7 Zae.nd) (Zh (Jm (ZrQ hr (Jx (Ze 4) (JP (Ze 7) Zb)) (ZA (Jx (Ze 0) (JP (Ze 7) Zb)) Zb)) (Zh (Zy JX)) ZV)))))
   (Zh (Zy (Zta hr (Ze 5) (Ze 2)))))))))),?_⟩
 rw [show Zz ["_law_roads","_law_homes","_law_sharing","_law_table","_law_paid","_law_shares","_law_name","_law_k","_law_amount"] [.ref p,.ref d,.ref sd,.ref g]=[some (.ref p),some (.ref d),some (.ref sd),some (.ref g),none,none,none,none,none] from rfl]
 refine Zx λR0 hR0=>?_
 refine Jt λA0 hA0 C0 hC0=>?_
 walk_at "rd"
 refine⟨xs,.inl hp,g,d,xs.length,o,kvs,ss,tvs,qs,B,rfl,hg,J.home,λz hz=>⟨_,(hval z hz).1⟩,hT,J.b0,λy hy=>?_,hk.up,hk.few,λH1 s1=>⟨_,rfl,?_⟩⟩
 ·obtain⟨h1,h2,h3,_,h5⟩:=hk.row y hy
  exact⟨h1,by omega,h3,h5,szf _ (hamz y hy)⟩
 rw [if_neg (by decide)]
 subst hC0
 walk_at "rd"
 subst hR0
 try dsimp only
 refine Zx λR0 hR0=>?_
 walk_at "rd"
 simp only [JQ,Zc6,cxK]
 walk_at "rd"
 refine⟨⟨_,.of (s1 _ _ hp)⟩,?_⟩
 refine Zd0 ZR Za3 (xs:=xs) (as:=ZcB B rs.length []) (s1 _ _ hp) (by simp [ZcB,hxl]) (by omega) (λi' y t' hi' ht' H' kk os sm'' ol hkk=>?_) (λpd H2 pvs hpd s2 e2 hPv=>?_)
 ·obtain⟨o',rfl⟩:∃ o',os=[o']:=by match os,ol with | [o'],_=>exact⟨o',rfl⟩
  have et:t'=0:=by
   unfold ZcB at ht'
   rw [Yg] at ht'
   obtain⟨i0,_,rfl⟩:=Yx.mp ht'
   show Zm B (JA [] (i0 + 1))=0
   rw [show JA [] (i0 + 1)=0 from rfl]
   exact Za4 _
  subst et
  walk_at "rd"
  refine⟨[some y],rfl,rfl,?_⟩
  walk_at "rd"
  intro t H3 ht s3 e3
  exact hkk _ _ s3 ⟨t,rfl,e3⟩
 have s12:=s1.trans s2
 have hpd0:H pd=none:=s1.free hpd
 subst hR0
 try dsimp only
 walk_at "rd"
 intro b H3 hb s3 e3
 have s03:=s12.trans s3
 have hb0:H b=none:=s12.free hb
 have hpb:pd ≠ b:=Zn e2 hb
 simp only [ZcZ]
 walk_at "rd"
 refine ZdL (o:=o) (kvs:=kvs) (λi σ H'=>∃ (o6:Option V) (shv:List (ZU × V)),σ=[some (V.ref p),some (V.ref d),some (V.ref sd),some (V.ref g),some (V.ref pd),some (V.ref b),o6,none,none]/\Zk H H'/\H' pd=some (.lst pvs)/\JF ZR H' pvs (ZcB B rs.length [])/\H' b=some (.dK shv)/\ShV H' shv (ss.take i) (λ_=>0)) ⟨_,[],rfl,s03,s3 _ _ e2,hPv.keep Za3 (λb ys e=>s3 _ _ e),e3,by simp,λi z h=>by simp at h⟩ (λi σ H' _ ⟨_,_,_,sm',_⟩=>sm' _ _ J.home) (λi kv σ H' hi hP=>?_) (λσ H' hP=>?_)
 ·obtain⟨o6,shv,rfl,sm',epd,hPl,eb,hS⟩:=hP
  have hil:i < ss.length:=by rw [<- hkl]; exact (Yi.mp hi).1
  have hz0:=Yc hil
  have hkk:kv.1=Sum.inr ss[i]:=by
   have:=congrArg (·[i]?) hks
   simp only [List.getElem?_map,hi,hz0,Option.map_some,Option.some.injEq] at this
   exact this
  rw [hkk]
  walk_at "rd"
  intro t H4 ht s4 e4
  have eb4:=s4 _ _ eb
  have kp:∀ b' ys,H4 b'=some (.tup ys)->upd H4 b (.dK (Jh shv (Sum.inr ss[i]) (.ref t))) b'=some (.tup ys):=λb' ys e=>by rw [Zg (Jk e eb4 (by intro z; cases z))]; exact e
  refine⟨shv,eb4,.inr ss[i],rfl,by rw [hS.1,YE]; omega,Zt hb0 (sm'.trans s4),by rw [Zg hpb]; exact s4 _ _ epd,(hPl.keep Za3 λb ys e=>s4 _ _ e).keep Za3 kp,_,Zf,?_⟩
  rw [Yp,hz0]
  refine ShV.snoc ((hS.keep λb ys e=>s4 _ _ e).keep kp) (λhm=>?_) ⟨t,rfl,kp _ _ e4⟩
  have h1:(ss.take (i + 1)).Nodup:=J.nd.sublist (Vp _ _)
  rw [Yp,hz0] at h1
  exact (List.nodup_append.mp h1).2.2 _ hm _ (by simp) rfl
 obtain⟨o6,shv,rfl,s4,epd,hPl,eb,hS⟩:=hP
 rw [hkl,Yv] at hS
 try dsimp only
 refine Zx λR0 hR0=>?_
 rw [Zaq]
 walk_at "rd"
 have hz00:∀ z,Zm B (JH (qs.take 0) z)=0:=λz=>by
  rw [List.take_zero,show JH [] z=0 from rfl]
  exact Za4 _
 have htl:tvs.length=qs.length:=hT.1
 refine Zaz (xs:=tvs) (Pth H p d sd g pd b rs ss B qs) ⟨_,_,_,pvs,shv,rfl,s4,epd,hPl,eb,by simp only [hz00]; exact hS⟩ (λi σ H' _ ⟨_,_,_,_,_,_,sm',_⟩=>.of (sm' _ _ hg)) (λj y σ H5 hj hP=>?_) (λσ H5 hP=>?_)
 ·obtain⟨o6,o7,o8,pv5,sv5,rfl,s5,epd5,hPl5,eb5,hS5⟩:=hP
  have hjl:j < qs.length:=by rw [<- htl]; exact (Yi.mp hj).1
  have hqj:=Yc hjl
  obtain⟨t,r,rfl,ht,hrv⟩:=hT.2 j _ _ hj hqj
  have hqm:=Yl hqj
  obtain⟨h1,h2,h3,h4,h5⟩:=hk.row _ hqm
  obtain⟨hv1,hv2⟩:=hval _ h3
  have hnd:=hneed _ hqm
  obtain⟨w,hw,hwl⟩:=Zbs J.ok hv2
  rw [Zbf hw] at h4
  have hrd:=Zh2 (k:=qs[j].1) hqj
  have hpi:(ZcB B rs.length (qs.take j))[qs[j].1 - 1]?=some (Zm B (JA (qs.take j) qs[j].1)):=by
   unfold ZcB
   rw [Yg,Yaq (by omega),Option.map_some,show qs[j].1 - 1 + 1=qs[j].1 by omega]
  have hpl:pv5.length=rs.length:=by rw [hPl5.1]; simp [ZcB]
  have hki:qs[j].1 - 1 < pv5.length:=by omega
  have hpv:=Yc hki
  have hpr:=hPl5.2 _ _ _ hpv hpi
  have ei:(qs[j].1:Int) - 1=((qs[j].1 - 1:Nat):Int):=by omega
  walk_at "rd"
  refine⟨_,s5 _ _ ht,rfl,_,_,rfl,_,_,rfl,_,_,rfl,rfl,kvs,.inr ⟨o,s5 _ _ J.home⟩,.inr _,rfl,_,hv1,p,xs,rs,_,w,rfl,s5 _ _ hp,hR.same s5,hw,by omega,λpw H6 hpw s6 e6=>?_⟩
  simp only [rIn]
  walk_at "rd"
  refine⟨_,.inl (.of e6),rfl,ZdT,?_⟩
  rw [Zga,YL h4]
  have s56:=s5.trans s6
  have hpr6:=hpr.same s6
  rw [if_neg (by decide)]
  refine⟨pv5,s6 _ _ epd5,_,by rw [ei]; exact ZM hpv,_,_,_,_,rfl,hpr6,hrv.same s56,szf _ (hrdz _ hnd j),szf _ (hamz _ hqm),λr7 H7 s7 v7=>?_⟩
  rw [ZbP J.b0] at v7
  have s67:=s6.trans s7
  have epd7:=s67 _ _ epd5
  have eb7:=s67 _ _ eb5
  have kp1:∀ b' ys,H7 b'=some (.tup ys)->upd H7 pd (.lst (pv5.set (qs[j].1 - 1) r7)) b'=some (.tup ys):=λb' ys e=>by rw [Zg (Jk e epd7 (by intro z; cases z))]; exact e
  have hS8:=(hS5.keep λb ys e=>s67 _ _ e).keep kp1
  obtain⟨v,ev,rv⟩:=hS8.val J.nd _ h3
  refine⟨pv5,epd7,_,by rw [ei]; exact ZgN hki,sv5,.inl (by rw [Zg hpb.symm]; exact eb7),.inr _,rfl,v,ev,_,_,_,_,rfl,rv,((hrv.same s56).same s7).keep kp1,szf _ (hnmz _ h3 j),szf _ (hamz _ hqm),λr9 H9 s9 v9=>?_⟩
  rw [ZbP J.b0] at v9
  have eb9:H9 b=some (.dK sv5):=s9 _ _ (by rw [Zg hpb.symm]; exact eb7)
  have kp2:∀ b' ys,H9 b'=some (.tup ys)->upd H9 b (.dK (Jh sv5 (Sum.inr qs[j].2.1) r9)) b'=some (.tup ys):=λb' ys e=>by rw [Zg (Jk e eb9 (by intro z; cases z))]; exact e
  have kp12:∀ b' ys,H7 b'=some (.tup ys)->upd H9 b (.dK (Jh sv5 (Sum.inr qs[j].2.1) r9)) b'=some (.tup ys):=λb' ys e=>kp2 _ _ (s9 _ _ (kp1 _ _ e))
  refine⟨sv5,eb9,.inr _,rfl,by rw [hS5.1]; omega,_,_,_,_,_,rfl,Zt hb0 ((Zt hpd0 (s5.trans s67)).trans s9),by rw [Zg hpb]; exact s9 _ _ Zf,⟨by rw [List.length_set,hpl]; simp [ZcB],λi' x' a' hx' ha'=>?_⟩,Zf,?_⟩
  ·unfold ZcB at ha'
   rw [Yg] at ha'
   obtain⟨i0,hi0,rfl⟩:=Yx.mp ha'
   obtain⟨hi1,rfl⟩:i' < rs.length/\i'=i0:=by
    obtain⟨h,e⟩:=Yi.mp hi0
    rw [List.length_range] at h
    rw [List.getElem_range] at e
    exact⟨h,e⟩
   rw [Zh2 hqj]
   by_cases c:qs[j].1 - 1=i'
   ·rw [<- c,Yan hki] at hx'
    cases hx'
    rw [if_pos (by omega),show i' + 1=qs[j].1 by omega]
    exact v7.keep kp12
   ·rw [Yap c] at hx'
    rw [if_neg (by omega),VY]
    have hb':(ZcB B rs.length (qs.take j))[i']?=some (Zm B (JA (qs.take j) (i' + 1))):=by
     unfold ZcB
     rw [Yg,Yaq hi1]
     rfl
    exact (hPl5.2 i' _ _ hx' hb').keep λb ys e=>kp12 _ _ (s67 _ _ e)
  ·refine ShV.put ((hS8.keep λb ys e=>s9 _ _ e).keep kp2) h3 ?_ λy hy=>?_
   ·rw [Zik hqj,if_pos rfl]
    exact v9.keep kp2
   ·rw [Zik hqj,if_neg hy,VY]
 ·obtain⟨o6,o7,o8,pv5,sv5,rfl,s5,epd5,hPl5,eb5,hS5⟩:=hP
  rw [htl,Yv] at hPl5 hS5
  subst hR0
  try dsimp only
  refine Zx λR0 hR0=>?_
  simp only [ZcZ]
  walk_at "rd"
  refine ZdL (o:=o) (kvs:=kvs) (λi σ H'=>∃ (o6 o7 o8:Option V),σ=[some (V.ref p),some (V.ref d),some (V.ref sd),some (V.ref g),some (V.ref pd),some (V.ref b),o6,o7,o8]/\Zk H5 H') ⟨_,_,_,rfl,λ_ _ z=>z⟩ (λi σ H' _ ⟨_,_,_,_,sm'⟩=>(s5.trans sm') _ _ J.home) (λi kv σ H6 hi hP=>?_) (λσ H6 hP=>?_)
  ·obtain⟨o6,o7,o8,rfl,s6⟩:=hP
   have hil:i < ss.length:=by rw [<- hkl]; exact (Yi.mp hi).1
   have hz0:=Yc hil
   have hzm:=Yl hz0
   have hkk:kv.1=Sum.inr ss[i]:=by
    have:=congrArg (·[i]?) hks
    simp only [List.getElem?_map,hi,hz0,Option.map_some,Option.some.injEq] at this
    exact this
   rw [hkk]
   obtain⟨hv1,hv2⟩:=hval _ hzm
   obtain⟨w,hw,hwl⟩:=Zbs J.ok hv2
   have s06:=s5.trans s6
   simp only [Zaq]
   walk_at "rd"
   refine⟨kvs,.inr ⟨o,s06 _ _ J.home⟩,.inr _,rfl,_,hv1,p,xs,rs,_,w,rfl,s06 _ _ hp,hR.same s06,hw,by omega,λpw H7 hpw s7 e7=>?_⟩
   have hww:wayL rs (hf ss[i])=w:=Zbf hw
   refine Zaz (xs:=ZN w) (λi σ H'=>(∃ (o6 o7 o8:Option V),σ=[some (V.ref p),some (V.ref d),some (V.ref sd),some (V.ref g),some (V.ref pd),some (V.ref b),o6,o7,o8])/\Zk H5 H'/\H' pw=some (.lst (ZN w))) ⟨⟨_,_,_,rfl⟩,s6.trans s7,e7⟩ (λi σ H' _ ⟨_,_,e'⟩=>.of e') (λn y σ H8 hn hP=>?_) (λσ H8 hP=>⟨hP.1,hP.2.1⟩)
   obtain⟨⟨o6,o7,o8,rfl⟩,s8,e8⟩:=hP
   obtain⟨k,hkw,rfl⟩:∃ k,k∈w/\y=V.int (k:Int):=by
    unfold ZN at hn
    rw [Yg] at hn
    obtain⟨k,h1,h2⟩:=Yx.mp hn
    exact⟨k,Yl h1,h2.symm⟩
   have hN:Jf rs (ss.map hf) k:=(ZaB J.way).mpr ⟨ss[i],hzm,by rw [hww]; exact hkw⟩
   obtain⟨hk1,hk2⟩:=Z5 hN
   have hpl:pv5.length=rs.length:=by rw [hPl5.1]; simp [ZcB]
   have hki:k - 1 < pv5.length:=by omega
   have hkx:k - 1 < xs.length:=by omega
   have hkr:k - 1 < rs.length:=by omega
   have ei:(k:Int) - 1=((k - 1:Nat):Int):=by omega
   have s08:=s5.trans s8
   have hpi:(ZcB B rs.length qs)[k - 1]?=some (Zm B (JA qs k)):=by
    unfold ZcB
    rw [Yg,Yaq hkr,Option.map_some,show k - 1 + 1=k by omega]
   have hv8:=(hPl5.2 _ _ _ (Yc hki) hpi).same s8
   rw [hk.road k hN,<- J.pr k hk1 hk2] at hv8
   obtain⟨pr,yr,exr,hprt,hyr⟩:=(hR.same s08).2 (k - 1) _ _ (Yc hkx) (Yc hkr)
   have hpa:Zl rs k=rs[k - 1].2:=by unfold Zl; rw [List.getElem?_eq_getElem hkr]; rfl
   rw [hpa] at hv8
   obtain⟨pa,pc,ea,ec,heq⟩:=Zfp hv8 hyr
   walk_at "rd"
   refine⟨pv5,s8 _ _ epd5,_,by rw [ei]; exact ZM (Yc hki),xs,s08 _ _ hp,_,by rw [ei]; exact ZM (Yc hkx),pr,exr,_,hprt,_,rfl,true,1,pa,pc,ea,ec,heq,by decide,_,rfl,?_⟩
   rw [if_neg (by decide)]
   exact⟨s8,e8⟩
  ·obtain⟨o6,o7,o8,rfl,s6⟩:=hP
   subst hR0
   walk_at "rd"
   have s06:=s5.trans s6
   exact⟨3,ZhC (.inl (s6 _ _ eb5)) (ZbN J.share s06) J.nd (hS5.keep λb ys e=>s6 _ _ e) (J.shv.keep λb ys e=>s06 _ _ e) (λz hz=>by rw [hk.name z hz]),by decide,q _ s06⟩
theorem Zfd:∀ {ss:List Str}{its:List Value},Zw (ss.map V.str) its->∀ u∈its,∃ z t,u=Value.str z t/\z∈ss
 | [],its,h=>by cases h; intro u hu; cases hu
 | s :: ss,its,h=>by
  cases h with
  | cons h1 h2 =>
   obtain⟨t,rfl⟩:=h1
   intro u hu
   rcases Yn.mp hu with rfl | hu
   ·exact⟨s,t,rfl,.head _⟩
   ·obtain⟨z,t',e,hz⟩:=Zfd h2 u hu
    exact⟨z,t',e,.tail _ hz⟩
def isZ(z:Str):Value->Bool
 | .str y _=>y == z
 | _=>false
def Ze8:∀ {ss:List Str}{its:List Value},Zw (ss.map V.str) its->its.countP (isZ z)=ss.countP (· == z)
 | [],its,h=>by cases h; rfl
 | s :: ss,its,h=>by
  cases h with
  | cons h1 h2 =>
   obtain⟨t,rfl⟩:=h1
   rw [List.countP_cons,List.countP_cons,Ze8 h2]
   rfl
section
variable {X:Cx}{t:TA}
def ZjM:V->List V->Hp->VK->Prop:=λx vs H Q=>∃ (l:Addr) (ss:List Str) (z:Str),x=.ref l/\vs=[.str z]/\H l=some (.lst (ss.map V.str))/\Q (.int (ss.countP (· == z):Nat)) H
def Zk4:MtM X "list.count" ZjM:=by
 intro pins s σ H x vs v us Q I rx rv h
 obtain⟨l,ss,z,rfl,rfl,hH,q⟩:=h
 cases rx
 obtain⟨u,rfl,ru⟩:=rv.one
 obtain⟨tk,rfl⟩:=(show ∃ t,u=Value.str z t from ru)
 obtain⟨z',its,n,r,hl,e⟩:=I.lstM hH
 refine call_meets F.slot_list_count ⟨_,e,rfl⟩ F.entry_list_count (F.args_list_count_2 _ _) (SeqAt.list_countAt l _ n none #[] _ (isZ z)) ⟨e,λy hy=>?_,?_⟩
 ·obtain⟨s',t',rfl,_⟩:=Zfd r y (by simpa using hy)
  have:=Zks (A:=X.A.in1) (s:=s) (y:=.str s') (x:=.str z) (u:=.str s' t') (v:=.str z tk) ⟨_,rfl⟩ ⟨_,rfl⟩ rfl rfl
  exact this
 ·refine⟨.int _,H,I.tok _,⟨_,rfl⟩,?_⟩
  rw [List.toList_toArray,Ze8 r]
  exact q
def ZnV{o e:Expr}{to:TE}{apos cpos:Pos}(ho:QE X o to)(ha:QA X [e] t)(hbase:attributeBase o "count" X.env (eval o X.env)=eval o X.env:=by rfl)(hline:(apos.endLine == cpos.line)=true:=by rfl)(hp:Zu e=true:=by rfl) :
  QE X (.Call (.Attribute o "count" apos) [e] [] cpos) (tLm ZjM to t) :=
 ⟨ZqJ PySem.F.slot_list_count PySem.F.type_list_count Zk4 ho.h ha.h hbase (by rw [Zq hp]; rfl) hline (Zq hp) rfl⟩
end
theorem Zkl(hn:ss.Nodup){z:Str}(hz:z∈ss):ss.countP (· == z)=1:=by
 induction ss with
 | nil=>cases hz
 | cons y ss ih =>
  rw [Y4] at hn
  rw [List.countP_cons]
  by_cases c:y=z
  ·subst c
   rw [List.countP_eq_zero.mpr λx hx=>by simp; intro e; exact hn.1 (e ▸ hx)]
   simp
  ·rw [ih hn.2 (by rcases Yn.mp hz with h | h; exact absurd h.symm c; exact h)]
   simp [c]
def ZrI(CT:Addr):Sp:=λvs H Q _=>∃ (p d sd g:Addr) (xs:List V) (x:V) (rs:List (Nat × Rat)) (o:Obj) (kvs svs:List (ZU × V)) (ss:List Str) (hf:Str->Nat) (B:Nat) (a:Str->Int) (cs:Nat->Int) (G:List Str),vs=[.ref p,.ref d,.ref sd,.ref g]/\H p=some (.lst xs)/\Jp H xs rs/\Jd H CT x d sd rs o kvs svs ss hf B a cs/\H g=some (.lst (G.map V.str))/\G.Pairwise leS/\G.Nodup/\(∀ z∈G,z∈ss)/\Zd7 rs hf cs a G/\∀ H',Zk H H'->Q (.bl true) H'
def Zmw{a b:Addr}(ha:H a=some (.lst (ss.map V.str)))(hb:H b=some (.lst (ss.map V.str))):EqD H (.ref a) (.ref b) true 1:=by
 have h:=EqD.lst (e:=λ_=>true) (n:=0) ha hb rfl λj x y h1 h2=>by
  rw [h1] at h2
  cases h2
  obtain⟨z,_,rfl⟩:=Yk.mp (Yl h1)
  have z:=EqD.flat (H:=H) (x:=.str z) (y:=.str z) rfl rfl
  rw [ZdQ rfl] at z
  exact z
 rw [ZdW λ_ _=>rfl] at h
 exact h
def Zmy:¬ Jf rs [] k:=λ⟨_,h,_⟩=>by cases h
def Zs3(F:Fun K "_law_group_holds" "_law_group_holds" ZaU f fd)(Zj:mg "isinstance"=none)(ZG:mg "list"=none)(ZC:mg "len"=none)(Zi4:mg "str"=none)(ZS:mg "sorted"=none)(ZaC:Fn P w K mg base ZD 2 "_law_less" ["_law_one","_law_other"] Zb3)(Zax:Fn P w K mg base ZD 3 "_law_total" ["_law_some"] Zc2)
  (ZaD:Fn P w K mg base ZD 4 "_law_cost" ["_law_roads","_law_homes","_law_group"] ZdV):FnOk P w K mg base ZD 5 f fd ["_law_roads","_law_homes","_law_sharing","_law_group"] (ZrI CT):=by
 refine JU F ZaQ λcdv A outer s H vs Q E hr h=>?_
 obtain⟨p,d,sd,g,xs,x,rs,o,kvs,svs,ss,hf,B,a,cs,G,rfl,hp,hR,J,hg,hGw,hGn,hGs,hov,q⟩:=h
 have hG0:G ≠ []:=λe=>by
  subst e
  have:=hov [] List.nodup_nil λk=>⟨(λh=>by cases h),λh=>absurd h Zmy⟩
  simp [ZgG] at this
 have hGl:G.length<=12:=Yj (VJ hGn λz hz=>hGs z hz) J.few
 refine⟨_,(Zd (Jm (t_w (JW (JC (Jg (Jv rfl Zj (Zi (Ze 3) (Zi (J2 rfl ZG rfl) Za))))) (Zda (Zoa (Ju rfl ZC (Zi (Ze 3) Za)) Zb)))) (Zh (Zy JX)) ZV)
   (Zd (Je Yq (Z6 (Ze 3)) (Zr 4 ZaQ.nd) (Zh (Jm (t_w (JW (JC (Jg (Jv rfl Zj (Zi (Ze 4) (Zi (J2 rfl Zi4 rfl) Za))))) (JW (ZoK (Z9 hr) (Ze 4) (Ze 1)) (Zda (Zny (ZnV (Ze 3) (Zi (Ze 4) Za)) Zb))))) (Zh (Zy JX)) ZV)))
   (Zd (Zs 5 ZaQ.nd (Jb ZaC hr (Zi (Jb Zax hr (Zi (Zdx (ZiM ["_law_name"] [2] ["_law_sharing"]) (Z6 (Ze 3)) (by exact λs H fp=>(Zr 0 (show List.Nodup (["_law_name","_law_sharing"]:List Str) from by decide +kernel))) (by exact λs H fp=>(Jl (Z9 hr) (Ze 1) (Ze 0)))) Za)) (Zi (Jb ZaD hr (Zi (Ze 0) (Zi (Ze 1) (Zi (Ze 3) Za)))) Za))))
   (Zh (Zy (Zfo (ZrV hr (Ze 3) (ZeH rfl ZS (Zi (Ze 3) Za))) (Zgn (Ztw (ZA (Ze 5) Zb) Zb)))))))),?_⟩
 rw [show Zz ["_law_roads","_law_homes","_law_sharing","_law_group","_law_name","_law_more"] [.ref p,.ref d,.ref sd,.ref g]=[some (.ref p),some (.ref d),some (.ref sd),some (.ref g),none,none] from rfl]
 refine Zx λR0 hR0=>?_
 refine Jt λA0 hA0 C0 hC0=>?_
 walk_at "rd"
 refine⟨"list",by simp [JD,hg],?_⟩
 rw [if_neg (by decide)]
 refine⟨_,.inl hg,?_⟩
 rw [if_neg (by rw [Ye]; have:=List.length_pos_iff.mpr hG0; omega)]
 subst hC0
 walk_at "rd"
 subst hR0
 try dsimp only
 refine Zx λR0 hR0=>?_
 rw [Zaq]
 walk_at "rd"
 refine Zaz (xs:=G.map V.str) (λi σ H'=>∃ o4:Option V,σ=[some (V.ref p),some (V.ref d),some (V.ref sd),some (V.ref g),o4,none]/\H'=H) ⟨_,rfl,rfl⟩ (λi σ H' _ ⟨_,_,e⟩=>by rw [e]; exact .of hg) (λi y σ H' hi hP=>?_) (λσ H' hP=>?_)
 ·obtain⟨o4,rfl,rfl⟩:=hP
  rw [Yg] at hi
  obtain⟨z,hz,rfl⟩:=Yx.mp hi
  have hzG:=Yl hz
  obtain⟨hk,hvz⟩:=(J.hat [z] (λy hy=>by rw [YF.mp hy]; exact hGs z hzG)).2 0 z (hf z) rfl rfl
  walk_at "rd"
  refine⟨"str",rfl,?_⟩
  rw [if_neg (by decide)]
  refine⟨kvs,.inr ⟨o,J.home⟩,.inr z,rfl,?_⟩
  rw [hk,if_neg (by simp)]
  refine⟨⟨_,hg⟩,g,G,z,rfl,rfl,hg,rfl,?_⟩
  rw [Zkl hGn hzG,if_neg (by simp)]
 ·obtain⟨o4,rfl,rfl⟩:=hP
  subst hR0
  try dsimp only
  refine Zx λR0 hR0=>?_
  walk_at "rd"
  simp only [JQ,Zc6,cxK]
  walk_at "rd"
  refine⟨⟨_,.of hg⟩,?_⟩
  rw [show Jq [some (V.ref p),some (V.ref d),some (V.ref sd),some (V.ref g),o4,none] [2]=[some (V.ref sd)] from rfl]
  refine Zd0 ZR Za3 (xs:=G.map V.str) (as:=(G.map a).map (Zm B)) hg (by simp) (by rw [List.length_map]; omega) (λi' y t' hi' ht' H2 kk os sm'' ol hkk=>?_) (λpq H2 zs hpq s2 e2 hY=>?_)
  ·obtain⟨o',rfl⟩:∃ o',os=[o']:=by match os,ol with | [o'],_=>exact⟨o',rfl⟩
   rw [Yg] at hi'
   obtain⟨z,hz',rfl⟩:=Yx.mp hi'
   rw [Ys,Yg,hz'] at ht'
   cases ht'
   obtain⟨v,ev,rv⟩:=(J.shv.keep λb ys e=>sm'' _ _ e).val J.nd z (hGs z (Yl hz'))
   walk_at "rd"
   refine⟨[some (.str z)],rfl,rfl,?_⟩
   walk_at "rd"
   exact⟨svs,ZbN J.share sm'',.inr z,rfl,_,ev,hkk _ _ (λ_ _ w=>w) rv⟩
  have haz:∀ z∈G,(a z).natAbs < 2 ^ 2600:=λz hz=>J.az z (hGs z hz)
  have hb27:B < 2 ^ 2700:=Yu J.b1 (YO (by decide) (by decide))
  have hsz:ZkD ((G.map a).map (Zm B)):=by
   refine⟨λi hi=>?_,λi t h=>?_⟩
   ·rw [Ye,Ye] at hi
    rw [Zca J.b0 _ _ (by simpa using hi),<- List.map_take]
    exact (Jc J.b0 hb27 (Zkn (ss:=G.take i) (by rw [YE]; omega) λz hz=>haz z (List.mem_of_mem_take hz))).mono (by decide)
   ·rw [Ys,Yg] at h
    obtain⟨z,hz,rfl⟩:=Yx.mp h
    exact (Jc J.b0 J.b1 (haz z (Yl hz))).mono (by decide)
  refine⟨pq,zs,_,rfl,e2,hY,hsz,λr1 H3 s3 v1=>?_⟩
  rw [ZdO J.b0] at v1
  replace v1:ZR H3 r1 (Zm B (sm G a)):=v1
  have s03:=s2.trans s3
  refine⟨p,d,g,xs,rs,kvs,G,G.map hf,rfl,s03 _ _ hp,hR.same s03,.inr ⟨o,s03 _ _ J.home⟩,s03 _ _ hg,J.hat G hGs,J.rl,by omega,J.ok,J.sz,λr2 H4 acc s4 hna hma v2=>?_⟩
  have hbd:∀ k∈acc,1<=k/\k<=rs.length:=λk hk=>Z5 ((hma k).mp hk)
  have hal:=ZbK hna hbd
  have eac:ZK (acc.map (Zl rs))=Zm B (sm acc cs):=by
   rw [<- J.price hbd,ZeW]
  have szac:Jo 3000 (ZK (acc.map (Zl rs))):=(Zb2 J.sz acc).mono (by have:=J.rl; omega)
  rw [eac] at v2 szac
  have szG:Jo 3000 (Zm B (sm G a)):=(Jc J.b0 hb27 (Zkn hGl haz)).mono (by decide)
  refine⟨r1,r2,_,_,rfl,v1.same s4,v2,szG,szac,λr3 H5 s5 v3=>?_⟩
  rw [Zc3 J.b0] at v3
  have hpos:=hov acc hna hma
  have s05:=s03.trans (s4.trans s5)
  subst hR0
  walk_at "rd"
  refine⟨G,s05 _ _ hg,by omega,λl H6 ts hl s6 e6 hso hpe=>?_⟩
  have ets:ts=G:=ZhO hso hGw hpe
  subst ets
  refine⟨true,1,g,l,rfl,rfl,Zmw (s6 _ _ (s05 _ _ hg)) e6,by decide,?_⟩
  obtain⟨pv,rfl,hpv⟩:=v3.same s6
  refine⟨true,rfl,?_⟩
  rw [if_pos rfl]
  refine⟨pv,rfl,_,hpv,_,rfl,_,rfl,?_⟩
  rw [YL (Zig J.b0 (by omega))]
  exact q H6 (s05.trans s6)
def ZgV:Sp:=λvs H Q _=>∃ (b:Addr) (wv:V) (c:Int) (svs:List (ZU × V)) (ss:List Str) (B:Nat) (a:Str->Int) (W M:Int),vs=[.ref b,wv,.int c]/\H b=some (.dK svs)/\ShV H svs ss (λz=>Zm B (a z))/\ZR H wv (Zm B W)/\ss.Nodup/\ss.length<=12/\0 < B/\12 * B < 2 ^ 2600/\0<=M/\36 * M < 2 ^ 2600/\(-M<=W/\W<=M)/\(∀ z∈ss,-M<=a z/\a z<=M) /\
 ∀ H' svs' a',(∀ b' o,b' ≠ b->H b'=some o->H' b'=some o)->H' b=some (.dK svs')->ShV H' svs' ss (λz=>Zm (12 * B) (a' z))->(∀ z∈ss,-(36 * M)<=a' z/\a' z<=36 * M)->sm ss a'=12 * sm ss a->Q .non H'
def ZkI(l:List α)(k:Int)(f:α->Int):sm l (λx=>k * f x)=k * sm l f:=by
 induction l with
 | nil=>simp [ZgG]
 | cons x l ih=>rw [ZJ,ZJ,ih,Int.mul_add]
theorem ZfO(hB:0 < B)(n:Nat)(hn:0 < n)(m:Int):Zm B m=Zm (n * B) (n * m):=by
 unfold Zm
 rw [Vt,Int.mul_comm (n:Int) (B:Int),Int.mul_comm (n:Int) m,V5 (by omega)]
def Zfh(hB:0 < B)(m t:Int)(n:Nat)(hn:0 < n):Rat.divInt ((Zm B m).num * t) ((((Zm B m).den:Nat):Int) * (n:Int))=Zm (n * B) (m * t):=by
 rw [<- Rat.divInt_mul_divInt,Ve]
 unfold Zm
 rw [Rat.divInt_mul_divInt,Vt,Int.mul_comm (n:Int)]
def Zkr(F:Fun K "_law_handed_on" "_law_handed_on" Zbj f fd)(ZG:mg "list"=none)(ZC:mg "len"=none)(ZI:Fn P w K mg base ZD 1 "_law_low" ["_law_top","_law_bottom"] ZbF)(ZaC:Fn P w K mg base ZD 2 "_law_less" ["_law_one","_law_other"] Zb3)(Zau:Fn P w K mg base ZD 2 "_law_add" ["_law_one","_law_other"] Zek):FnOk P w K mg base ZD 3 f fd ["_law_sharing","_law_whole","_law_cell"] ZgV:=by
 refine JU F Zao λcdv A outer s H vs Q E hr h=>?_
 obtain⟨b,wv,c,svs,ss,B,a,W,M,rfl,hb,hS,hw,hnd,hfew,hB0,hB1,hM0,hM1,hW,haM,q⟩:=h
 refine⟨_,(Zd (Zs 3 Zao.nd (ZfJ rfl ZG (Zi (Ze 0) Za)))
   (Zd (Jm (Zoa (Ju rfl ZC (Zi (Ze 3) Za)) Zb) (Zh Zrl) ZV)
   (Zd (Zs 4 Zao.nd (Jx (Ze 3) (Z8 (Ze 2) (Ju rfl ZC (Zi (Ze 3) Za)))))
   (Zd (Zs 5 Zao.nd (Jx (Ze 3) (Z8 (Zbl (Ze 2) Zb) (Ju rfl ZC (Zi (Ze 3) Za)))))
   (Zd (Zs 6 Zao.nd (Jb ZI hr (Zi (Ji (ZA (Ze 1) Zb) (Z8 (Zbl (Ze 2) Zb) Zb)) (Zi (Zj2 (ZA (Ze 1) Zb) Zb) Za))))
   (Zd (Jm (Zoa (Z8 (Zbl (Ze 2) Zb) Zb) Zb) (Zh (Zs 6 Zao.nd (Jb ZI hr (Zi (Ji (ZA (Jl (Z9 hr) (Ze 0) (Ze 4)) Zb) (Z8 (Zbl (Ze 2) Zb) Zb)) (Zi (Zj2 (ZA (Jl (Z9 hr) (Ze 0) (Ze 4)) Zb) Zb) Za))))) ZV)
   (Zd (ZcN (Z9 hr) (Ze 0) (Ze 4) (Jb ZaC hr (Zi (Jl (Z9 hr) (Ze 0) (Ze 4)) (Zi (Ze 6) Za))))
   (Zh (ZcN (Z9 hr) (Ze 0) (Ze 5) (Jb Zau hr (Zi (Jl (Z9 hr) (Ze 0) (Ze 5)) (Zi (Ze 6) Za)))))))))))),?_⟩
 rw [show Zz ["_law_sharing","_law_whole","_law_cell","_law_names","_law_one","_law_other","_law_amount"] [.ref b,wv,.int c]=[some (.ref b),some (wv),some (.int c),none,none,none,none] from rfl]
 have hsk:=hS.keys
 have hkv:(svs.map λkv=>kV kv.1)=ss.map V.str:=by
  have:=congrArg (List.map kV) hsk
  rw [Ys,Ys] at this
  exact this
 have hB12:0 < 12 * B:=by omega
 have hS12:ShV H svs ss (λz=>Zm (12 * B) (12 * a z)):=⟨hS.1,λi z h=>let ⟨v,e,r⟩:=hS.2 i z h; ⟨v,e,by have e:=ZfO hB0 12 (by decide) (a z); dsimp only at r ⊢; rw [e] at r; exact r⟩⟩
 have szf:∀ m:Int,-(36 * M)<=m->m<=36 * M->Jo 3000 (Zm (12 * B) m):=λm h1 h2=>(Jc hB12 hB1 (by omega)).mono (by decide)
 refine Zx λR0 hR0=>?_
 walk_at "rd"
 refine⟨b,svs,rfl,.inl hb,λnl H1 hnl s1 e1=>?_⟩
 rw [hkv] at e1
 subst hR0
 try dsimp only
 refine Zx λR0 hR0=>?_
 refine Jt λA0 hA0 C0 hC0=>?_
 walk_at "rd"
 refine⟨_,.inl e1,?_⟩
 rw [Ye]
 by_cases cl:(ss.length:Int)=0
 ·rw [if_pos cl]
  subst hA0
  walk_at "rd"
  refine q H1 svs (λz=>12 * a z) (λb' o _ e=>s1 _ _ e) (s1 _ _ hb) (hS12.keep λb ys e=>s1 _ _ e) (λz hz=>?_) ?_
  ·have:=haM z hz; omega
  ·have:ss=[]:=V1.mp (by omega)
   subst this
   rfl
 rw [if_neg cl]
 subst hC0
 walk_at "rd"
 subst hR0
 try dsimp only
 have i0:=Y0 c (b:=(ss.length:Int)) (by omega)
 have i1:=Y9 c (b:=(ss.length:Int)) (by omega)
 have j0:=Y0 (c / 7) (b:=(ss.length:Int)) (by omega)
 have j1:=Y9 (c / 7) (b:=(ss.length:Int)) (by omega)
 obtain⟨i,hi⟩:∃ i:Nat,c % (ss.length:Int)=(i:Int):=⟨_,(V6 i0).symm⟩
 obtain⟨j,hj⟩:∃ j:Nat,c / 7 % (ss.length:Int)=(j:Int):=⟨_,(V6 j0).symm⟩
 have hil:i < ss.length:=by omega
 have hjl:j < ss.length:=by omega
 have hz0:=YG hil
 have hz1:=YG hjl
 have at_:∀ k:Nat,(hk:k < ss.length)->atI (ss.map V.str) (k:Int)=some (.str ss[k]):=λk hk=>ZM (by rw [Yg,Yc hk]; rfl)
 have ai:=at_ i hil
 have aj:=at_ j hjl
 generalize ss[i]=z0 at hz0 ai
 generalize ss[j]=z1 at hz1 aj
 refine Zx λR0 hR0=>?_
 walk_at "rd"
 refine⟨_,.inl e1,by rw [Ye]; omega,_,e1,.str z0,by rw [Ye,hi]; exact ai,?_⟩
 subst hR0
 try dsimp only
 refine Zx λR0 hR0=>?_
 walk_at "rd"
 refine⟨_,.inl e1,by rw [Ye]; omega,_,e1,.str z1,by rw [Ye,hj]; exact aj,?_⟩
 subst hR0
 try dsimp only
 obtain⟨pw,rfl,hpw⟩:=id (hw.same s1)
 have t0:0<=c / 49 % 7:=by omega
 have t1:c / 49 % 7 < 7:=by omega
 have hBs:B < 2 ^ 2600:=by omega
 have szB:∀ m:Int,-M<=m->m<=M->Jo 2600 (Zm B m):=λm h1 h2=>Jc hB0 hBs (by omega)
 have hwz:=szB W hW.1 hW.2
 have tz:(c / 49 % 7).natAbs < 2 ^ 3:=by omega
 have eW:Rat.divInt ((Zm B W).num * (c / 49 % 7)) (((Zm B W).den:Int) * 12)=Zm (12 * B) (W * (c / 49 % 7)):=Zfh hB0 W _ 12 (by decide)
 have hdp:=(Zm B W).den_pos
 refine Zx λR0 hR0=>?_
 walk_at "rd"
 refine⟨_,hpw,_,rfl,_,rfl,JG hwz.1 tz (by decide),_,hpw,_,rfl,_,rfl,_,_,rfl,Big.of (Zay (ZQ hwz) (show ((12:Int)).natAbs < 2 ^ 4 by decide)) (by decide),by omega,λam H2 s2 v2=>?_⟩
 rw [eW] at v2
 subst hR0
 try dsimp only
 have mb:∀ x:Int,-M<=x->x<=M->-(6 * M)<=x * (c / 49 % 7)/\x * (c / 49 % 7)<=6 * M:=λx h1 h2=>by
  have g1:x * (c / 49 % 7)<=M * (c / 49 % 7):=Int.mul_le_mul_of_nonneg_right h2 t0
  have g2:(-M) * (c / 49 % 7)<=x * (c / 49 % 7):=Int.mul_le_mul_of_nonneg_right h1 t0
  have g3:M * (c / 49 % 7)<=M * 6:=Int.mul_le_mul_of_nonneg_left (by omega) hM0
  have g4:(-M) * (c / 49 % 7)=-(M * (c / 49 % 7)):=Int.neg_mul ..
  omega
 refine Zx λR1 hR1=>?_
 suffices fin:∀ (am:V) (H3:Hp) (g:Int),Zk H1 H3->ZR H3 am (Zm (12 * B) g)->-(12 * M)<=g->g<=12 * M->R1 [some (V.ref b),some (V.ref pw),some (V.int c),some (V.ref nl),some (V.str z0),some (V.str z1),some am] H3 by
  refine Jt λA0 hA0 C0 hC0=>?_
  walk_at "rd"
  by_cases c3:c / 343 % 2=1
  ·rw [if_pos c3]
   subst hA0
   walk_at "rd"
   have s12:=s1.trans s2
   obtain⟨v,ev,rv⟩:=(hS.keep λb ys e=>s12 _ _ e).val hnd z0 hz0
   obtain⟨pv,rfl,hpv⟩:=id rv
   have ha:=haM z0 hz0
   have haz:=szB (a z0) ha.1 ha.2
   have hdp:=(Zm B (a z0)).den_pos
   have eA:Rat.divInt ((Zm B (a z0)).num * (c / 49 % 7)) (((Zm B (a z0)).den:Int) * 6)=Zm (12 * B) (2 * (a z0 * (c / 49 % 7))):=by
    have e:=Zfh hB0 (a z0) (c / 49 % 7) 6 (by decide)
    rw [ZfO (B:=6 * B) (by omega) 2 (by decide),<- Nat.mul_assoc] at e
    exact e
   refine⟨svs,.inl (s12 _ _ hb),.inr z0,rfl,_,ev,pv,rfl,_,hpv,_,rfl,_,rfl,JG haz.1 tz (by decide),svs,.inl (s12 _ _ hb),.inr z0,rfl,_,ev,pv,rfl,_,hpv,_,rfl,_,rfl,_,_,rfl,Big.of (Zay (ZQ haz) (show ((6:Int)).natAbs < 2 ^ 4 by decide)) (by decide),by omega,λam3 H3 s3 v3=>?_⟩
   rw [eA] at v3
   have:=mb (a z0) ha.1 ha.2
   exact fin am3 H3 _ (s2.trans s3) v3 (by omega) (by omega)
  ·rw [if_neg c3]
   subst hC0
   walk_at "rd"
   have:=mb W hW.1 hW.2
   exact fin am H2 _ s2 v2 (by omega) (by omega)
 intro am H3 g s3 v3 hg0 hg1
 subst hR1
 try dsimp only
 walk_at "rd"
 have s13:=s1.trans s3
 have eb3:=s13 _ _ hb
 have hS3:=hS12.keep λb ys e=>s13 _ _ e
 obtain⟨v,ev,rv⟩:=hS3.val hnd z0 hz0
 have ha:=haM z0 hz0
 have hc:=haM z1 hz1
 refine⟨svs,.inl eb3,.inr z0,rfl,v,ev,_,_,_,_,rfl,rv,v3,szf _ (by omega) (by omega),szf _ (by omega) (by omega),λr4 H4 s4 v4=>?_⟩
 rw [Zc3 hB12] at v4
 have eb4:=s4 _ _ eb3
 have kp:∀ b' ys,H4 b'=some (.tup ys)->upd H4 b (.dK (Jh svs (Sum.inr z0) r4)) b'=some (.tup ys):=λb' ys e=>by rw [Zg (Jk e eb4 (by intro z; cases z))]; exact e
 have hS4:ShV (upd H4 b (.dK (Jh svs (Sum.inr z0) r4))) (Jh svs (Sum.inr z0) r4) ss (λz=>Zm (12 * B) (if z=z0 then 12 * a z - g else 12 * a z)):=by
  refine ShV.put ((hS3.keep λb ys e=>s4 _ _ e).keep kp) hz0 ?_ λy hy=>by rw [if_neg hy]
  rw [if_pos rfl]
  exact v4.keep kp
 obtain⟨v5,ev5,rv5⟩:=hS4.val hnd z1 hz1
 refine⟨svs,eb4,.inr z0,rfl,by rw [hS.1]; omega,_,.inl Zf,.inr z1,rfl,v5,ev5,_,_,_,_,rfl,rv5,(v3.same s4).keep kp,szf _ (by split <;> omega) (by split <;> omega),szf _ (by omega) (by omega),λr6 H6 s6 v6=>?_⟩
 rw [ZbP hB12] at v6
 have eb6:=s6 _ _ (Zf (H:=H4) (a:=b) (o:=.dK (Jh svs (Sum.inr z0) r4)))
 have kp2:∀ b' ys,H6 b'=some (.tup ys)->upd H6 b (.dK (Jh (Jh svs (Sum.inr z0) r4) (Sum.inr z1) r6)) b'=some (.tup ys):=λb' ys e=>by rw [Zg (Jk e eb6 (by intro z; cases z))]; exact e
 refine⟨_,eb6,.inr z1,rfl,by rw [hS4.1]; omega,?_⟩
 refine q _ _ (λz=>12 * a z - (if z=z0 then g else 0) + if z=z1 then g else 0) (λb' o hb' e=>?_) Zf ?_ (λz hz=>?_) ?_
 ·rw [Zg hb']
  exact s6 _ _ (by rw [Zg hb']; exact s4 _ _ (s13 _ _ e))
 ·refine ShV.put (qf:=λz=>Zm (12 * B) (if z=z0 then 12 * a z - g else 12 * a z)) ((hS4.keep λb ys e=>s6 _ _ e).keep kp2) hz1 ?_ λy hy=>?_
  ·rw [if_pos rfl]
   have e:(12 * a z1 - (if z1=z0 then g else 0) + g)=((if z1=z0 then 12 * a z1 - g else 12 * a z1) + g):=by split <;> omega
   rw [e]
   exact v6.keep kp2
  ·rw [if_neg hy,VY]
   congr 1
   split <;> omega
 ·have:=haM z hz
  split <;> split <;> omega
 ·rw [Zgh,Zh4,ZcE hnd hz0 λ_=>g,ZcE hnd hz1 λ_=>g,ZkI]
  omega
def ZcM(H0 H:Hp)(xs:List V)(gs:List (List Str)):Prop:=xs.length=gs.length/\∀ (i:Nat) (x:V) (g:List Str),xs[i]?=some x->gs[i]?=some g->∃ a,x=.ref a/\H0 a=none/\H a=some (.lst (Zqf g))
def Ze0(acc:Addr)(H0 H:Hp)(xs:List V)(gs:List (List Str)):Prop:=xs.length=gs.length/\∀ (i:Nat) (x:V) (g:List Str),xs[i]?=some x->gs[i]?=some g->∃ a,x=.ref a/\a ≠ acc/\H0 a=none/\H a=some (.lst (Zqf g))
variable {gs:List (List Str)}
theorem Ze0.v{acc:Addr}{H0 H:Hp}(h:Ze0 acc H0 H xs gs):ZcM H0 H xs gs:=⟨h.1,λi x g h1 h2=>let ⟨a,e,_,h3,h4⟩:=h.2 i x g h1 h2; ⟨a,e,h3,h4⟩⟩
theorem Ze0.keep{acc:Addr}{H0 H H':Hp}(h:Ze0 acc H0 H xs gs)(s:∀ b o,b ≠ acc->H b=some o->H' b=some o):Ze0 acc H0 H' xs gs:=⟨h.1,λi x g h1 h2=>let ⟨a,e,n,h3,h4⟩:=h.2 i x g h1 h2; ⟨a,e,n,h3,s _ _ n h4⟩⟩
theorem ZcM.keep{H0 H H':Hp}(h:ZcM H0 H xs gs)(s:Zk H H'):ZcM H0 H' xs gs:=⟨h.1,λi x g h1 h2=>let ⟨a,e,h3,h4⟩:=h.2 i x g h1 h2; ⟨a,e,h3,s _ _ h4⟩⟩
theorem Ze0.snoc{acc:Addr}{H0 H:Hp}{c:Addr}{g:List Str}(h:Ze0 acc H0 H xs gs)(n:c ≠ acc)(h0:H0 c=none)(e:H c=some (.lst (Zqf g))):Ze0 acc H0 H (xs ++ [.ref c]) (gs ++ [g]):=by
 refine⟨by simp [h.1],λi x g' h1 h2=>?_⟩
 by_cases hi:i < xs.length
 ·rw [YS hi] at h1
  rw [YS (h.1 ▸ hi)] at h2
  exact h.2 i x g' h1 h2
 ·have hi':i=xs.length:=by have:=(List.getElem?_eq_some_iff.mp h1).1; simp at this; omega
  subst hi'
  rw [YN (Yd _)] at h1
  rw [h.1,YN (Yd _)] at h2
  simp at h1 h2
  subst h1 h2
  exact⟨c,rfl,n,h0,e⟩
theorem ZcM.append{H0 H:Hp}{xs ys:List V}{gs hs:List (List Str)}(h:ZcM H0 H xs gs)(h':ZcM H0 H ys hs):ZcM H0 H (xs ++ ys) (gs ++ hs):=by
 refine⟨by simp [h.1,h'.1],λi x g h1 h2=>?_⟩
 by_cases hi:i < xs.length
 ·rw [YS hi] at h1
  rw [YS (h.1 ▸ hi)] at h2
  exact h.2 i x g h1 h2
 ·rw [YN (by omega)] at h1
  rw [YN (by rw [<- h.1]; omega),<- h.1] at h2
  exact h'.2 _ x g h1 h2
theorem ZcT{H H':Hp}{c:Addr}(s:Zk H H')(h:H' c=none):H c=none:=by
 cases e:H c with
 | none=>rfl
 | some o=>rw [s _ _ e] at h; cases h
def Zpb{nt:Nat}{cp:St}{g:TG}{tt:TT}{te:TE}{H0 H1:Hp}{Q:VK}(out:α->List Str)(kp:α->Bool){xs:List V}{as:List α}(ha:H1 a=some (.lst xs))(hlen:xs.length=as.length)(hl:xs.length < 1000)
  (ht:∀ (i:Nat) x b,xs[i]?=some x->as[i]?=some b->∀ H' (k:VK) (n:Hp->Prop) os,Zk H1 H'->os.length=nt->(∀ c H2,(H' c=none\/∃ u,H1 c=some u)->H0 c=none->Zk H' H2->H2 c=some (.lst (Zqf (out b)))->kp b=true->k (.ref c) H2)->(kp b=false->n H') ->
   g x (os ++ cp) H' λτ H3=>∃ os',os'.length=nt/\τ=os' ++ cp/\tt τ H3 λbb H4=>if bb=true then te τ H4 k else n H4)
  (q:∀ p H' ys,H1 p=none->Zk H1 H'->H' p=some (.lst ys)->ZcM H0 H' ys ((as.filter kp).map out)->Q (.ref p) H'):Zf6 nt cp (Itl K a) g tt te H1 Q:=by
 refine ZcF (xs:=xs) (λacc i ys H'=>Zk H1 H'/\H' acc=some (.lst ys)/\Ze0 acc H0 H' ys (((as.take i).filter kp).map out)/\i<=as.length)
  (λacc H2 hn sm e=>⟨sm,e,⟨by simp,λi v r h1 h2=>by simp at h1⟩,Nat.zero_le _⟩) (λacc i ys H2 hn ⟨sm,e,e2,hi⟩=>⟨e,?_,.of (sm _ _ ha)⟩) (λacc i y ys H2 os hn hi hP ol=>?_) (λacc ys H2 hn hP=>?_)
 ·rw [e2.1,Ye]
  have:=YU kp (as.take i)
  rw [YE] at this
  omega
 ·obtain⟨sm,e,e2,_⟩:=hP
  have hil:i < as.length:=by rw [<- hlen]; exact (Yi.mp hi).1
  have hb:=Yc hil
  refine ht i y _ hi hb H2 (λv H5=>H5 acc=some (.lst ys)/\(Zk H1 (upd H5 acc (.lst (ys ++ [v])))/\upd H5 acc (.lst (ys ++ [v])) acc=some (.lst (ys ++ [v]))/\Ze0 acc H0 (upd H5 acc (.lst (ys ++ [v]))) (ys ++ [v]) (((as.take (i + 1)).filter kp).map out)/\i + 1<=as.length)) _ os sm ol (λc H3 hc h0 s3 ec hk=>?_) λhk=>?_
  ·have hne:c ≠ acc:=by
    rcases hc with hc | ⟨u,hc⟩
    ·exact λz=>by rw [z,e] at hc; cases hc
    ·exact λz=>by rw [z,hn] at hc; cases hc
   refine⟨s3 _ _ e,Zt hn (sm.trans s3),Zf,?_,hil⟩
   rw [Yp,hb]
   simp only [Option.toList_some,List.filter_append,List.map_append]
   rw [show [as[i]].filter kp=[as[i]] by simp [hk]]
   exact (e2.keep λb o hb' eb=>by rw [Zg hb']; exact s3 _ _ eb).snoc hne h0 (by rw [Zg hne]; exact ec)
  ·refine⟨sm,e,?_,hil⟩
   rw [Yp,hb]
   simp only [Option.toList_some,List.filter_append,List.map_append]
   rw [show [as[i]].filter kp=[] by simp [hk],List.map_nil,List.append_nil]
   exact e2
 ·obtain⟨sm,e,e2,_⟩:=hP
  rw [hlen,Yv] at e2
  exact q acc H2 ys hn sm e e2.v
def ZmQ{H0 H:Hp}(h0:H0 a=none)(e:H a=some (.lst [])):ZcM H0 H [.ref a] [[]]:=⟨rfl,λi x g h1 h2=>by
 match i with
 | 0=>cases h1; cases h2; exact⟨a,rfl,h0,e⟩
 | i + 1=>cases h1⟩
def Zlm{i:Nat}(h:ts[i]?=some z):J3 (ts.take (i + 1))=J3 (ts.take i) ++ (J3 (ts.take i)).map (· ++ [z]):=by
 unfold J3
 rw [Yp,h]
 simp only [Option.toList_some,List.foldl_append,List.foldl_cons,List.foldl_nil]
 rfl
def ZnZ{l g:List Str}(h:g∈J3 l):g.length<=l.length:=by
 have:=(Zft l [] [[]] (λg hg=>by rw [YF.mp hg]; exact List.Sublist.refl _) g h).length_le
 simpa using this
def ZnW{H0 H:Hp}{xs zs:List V}{p c:Addr}{o:HO}(h:ZcM H0 H xs gs)(hp:H p=some (.lst (.ref c :: zs))):ZcM H0 (upd H p o) xs gs:=⟨h.1,λi x g h1 h2=>by
 obtain⟨a,e,h3,h4⟩:=h.2 i x g h1 h2
 refine⟨a,e,h3,?_⟩
 rw [Zg]
 ·exact h4
 ·intro z
  rw [z,hp] at h4
  injection h4 with h4
  injection h4 with h4
  cases g with
  | nil=>cases h4
  | cons y g=>unfold Zqf at h4; rw [List.map_cons] at h4; injection h4 with h5 _; cases h5⟩
def Znx{H0 H:Hp}(h:ZcM H0 H xs gs)(h0:0 < gs.length):∃ c zs,xs=.ref c :: zs:=by
 match xs,h with
 | [],h=>have:=h.1; simp at this; omega
 | x :: zs,h =>
  obtain⟨a,e,_⟩:=h.2 0 x gs[0] rfl (Yc h0)
  exact⟨a,zs,by rw [e]⟩
def Zis{ss g:List Str}(h:g∈J3 ss):g.Sublist ss:=by
 have:=Zft ss [] [[]] (λg hg=>by rw [YF.mp hg]; exact .refl _) g h
 simpa using this
def Zgj(CT:Addr):Sp:=λvs H Q _=>∃ (p d sd:Addr) (xs:List V) (x:V) (rs:List (Nat × Rat)) (o:Obj) (kvs svs:List (ZU × V)) (ss:List Str) (hf:Str->Nat) (B:Nat) (a:Str->Int) (cs:Nat->Int),vs=[.ref p,.ref d,.ref sd]/\H p=some (.lst xs)/\Jp H xs rs/\Jd H CT x d sd rs o kvs svs ss hf B a cs/\ss.length<=5 /\
 ∀ (r:Bool) H',Zk H H'->(r=true->∀ g∈J3 ss,¬ Zd7 rs hf cs a g)->(r=false->∃ g∈J3 ss,Zd7 rs hf cs a g)->Q (.bl r) H'
def Pig(H0:Hp)(p d sd l:Addr)(ss:List Str)(i:Nat)(σ:St)(H:Hp):Prop:=∃ (o4:Option V) (xs:List V),σ=[some (.ref p),some (.ref d),some (.ref sd),some (.ref l),o4,none]/\Zk H0 H/\H l=some (.lst xs)/\ZcM H0 H xs (J3 (ss.take i))
def ZkE(F:Fun K "_law_is_good" "_law_is_good" ZbW f fd)(ZaC:Fn P w K mg base ZD 2 "_law_less" ["_law_one","_law_other"] Zb3)(Zax:Fn P w K mg base ZD 3 "_law_total" ["_law_some"] Zc2)(ZaD:Fn P w K mg base ZD 4 "_law_cost" ["_law_roads","_law_homes","_law_group"] ZdV):FnOk P w K mg base ZD 5 f fd ["_law_roads","_law_homes","_law_sharing"] (Zgj CT):=by
 refine JU F Za1 λcdv A outer s H vs Q E hr h=>?_
 obtain⟨p,d,sd,xs,x,rs,o,kvs,svs,ss,hf,B,a,cs,rfl,hp,hR,J,h5,q⟩:=h
 have hkl:kvs.length=ss.length:=J.kl
 refine⟨_,(Zd (Zs 3 Za1.nd (ZcD (Zi (ZcD Za) Za)))
   (Zd (Je Yq (ZdB (Ze 1)) (Zr 4 Za1.nd) (Zh (Js (Zso (Ze 3) (Zi (Zdx (ZiM ["_law_group"] [4] ["_law_name"]) (Z6 (Ze 3)) (by exact λs H fp=>(Zr 0 (show List.Nodup (["_law_group","_law_name"]:List Str) from by decide +kernel))) (by exact λs H fp=>(Zq0 (Ze 0) (ZcD (Zi (Ze 1) Za))))) Za)))))
   (Zd (Je Yq (Z6 (Ze 3)) (Zr 5 Za1.nd) (Zh (Jm (ZpL (ZA (Jb ZaC hr (Zi (Jb ZaD hr (Zi (Ze 0) (Zi (Ze 1) (Zi (Ze 5) Za)))) (Zi (Jb Zax hr (Zi (Zdx (ZiM ["_law_name"] [2] ["_law_sharing"]) (Z6 (Ze 5)) (by exact λs H fp=>(Zr 0 (show List.Nodup (["_law_name","_law_sharing"]:List Str) from by decide +kernel))) (by exact λs H fp=>(Jl (Z9 hr) (Ze 1) (Ze 0)))) Za)) Za))) Zb) Zb) (Zh (Zy JX)) ZV)))
   (Zh (Zy JX))))),?_⟩
 rw [show Zz ["_law_roads","_law_homes","_law_sharing","_law_groups","_law_name","_law_group"] [.ref p,.ref d,.ref sd]=[some (.ref p),some (.ref d),some (.ref sd),none,none,none] from rfl]
 refine Zx λR0 hR0=>?_
 walk_at "rd"
 intro p0 H1 hp0 s1 e1 l H2 hl s2 e2
 subst hR0
 try dsimp only
 refine Zx λR0 hR0=>?_
 simp only [ZcZ]
 walk_at "rd"
 have hl0:H l=none:=ZcT s1 hl
 refine ZdL (o:=o) (kvs:=kvs) (Pig H p d sd l ss) ⟨_,[.ref p0],rfl,s1.trans s2,e2,ZmQ hp0 (s2 _ _ e1)⟩ (λi σ H' _ ⟨_,_,_,sm',_⟩=>sm' _ _ J.home) (λi kv σ H4 hi hP=>?_) (λσ H4 hP=>?_)
 ·obtain⟨o4,xs4,rfl,s04,ep,hG⟩:=hP
  have hil:i < ss.length:=by rw [<- hkl]; exact (Yi.mp hi).1
  have hz:=Yc hil
  have hkk:kv.1=Sum.inr ss[i]:=by
   have:=congrArg (·[i]?) J.keys
   simp only [List.getElem?_map,hi,hz,Option.map_some,Option.some.injEq] at this
   exact this
  rw [hkk]
  generalize ss[i]=z at hz
  have hxl:xs4.length=2 ^ i:=by rw [hG.1,Znw,YE]; congr 1; omega
  have hx64:xs4.length<=64:=by rw [hxl]; exact Yj (YO (by decide) (show i<=6 by omega)) (by decide)
  walk_at "rd"
  refine⟨⟨_,ep⟩,?_⟩
  simp only [JQ,Zc6,cxK]
  walk_at "rd"
  refine⟨⟨_,.of ep⟩,?_⟩
  rw [show Jq [some (V.ref p),some (V.ref d),some (V.ref sd),some (V.ref l),some (kV (Sum.inr z)),none] [4]=[some (V.str z)] from rfl]
  unfold Zl4
  refine Zpb (α:=List Str) (H0:=H) (· ++ [z]) (λ_=>true) ep hG.1 (by omega) (λi' x g hx hg H' k n os sm' ol hk hn=>?_) (λp2 H5 ys hp2 s5 e5 hY=>?_)
  ·obtain⟨b,rfl,hb0,hb⟩:=hG.2 i' x g hx hg
   match os,ol with
   | [o'],_ =>
    refine⟨[some (.ref b)],rfl,rfl,?_⟩
    show (if true=true then tOp ZqP (ZnQ 0) (Zly (Zhv (ZnQ 1) Zou)) [some (V.ref b),some (V.str z)] H' k else n H')
    rw [if_pos rfl]
    have hb':=sm' _ _ hb
    have hgl:g.length<=i:=by
     have:=ZnZ (Yl hg)
     rw [YE] at this
     omega
    walk_at "rd"
    intro c1 H5 hc1 s5 e5
    refine⟨_,s5 _ _ hb',_,e5,by rw [sizeLine_eq,Zqf,List.length_map]; show g.length + 1<=_; omega,λc2 hc2=>hk c2 _ (.inl (ZcT s5 hc2)) (ZcT (s04.trans (sm'.trans s5)) hc2) (Zt (ZcT s5 hc2) s5) (by rw [Zf]; simp [Zqf]) rfl⟩
  ·have ft:∀ l:List (List Str),l.filter (λ_=>true)=l:=λl=>List.filter_eq_self.mpr λ_ _=>rfl
   have hyl:ys.length=xs4.length:=by rw [hY.1,Ye,ft,hG.1]
   obtain⟨c,zs,exs⟩:=Znx hG (by rw [<- hG.1,hxl]; exact Vr _)
   rw [ft] at hY
   refine⟨p2,rfl,_,s5 _ _ ep,_,e5,by rw [YI]; omega,some (.str z),xs4 ++ ys,rfl,Zt hl0 (s04.trans s5),Zf,?_⟩
   rw [Zlm hz]
   have hp5:=s5 _ _ ep
   rw [exs] at hp5
   exact ZnW ((hG.keep s5).append hY) hp5
 ·obtain⟨o4,xs4,rfl,s04,ep,hG⟩:=hP
  rw [hkl,Yv] at hG
  subst hR0
  try dsimp only
  refine Zx λR0 hR0=>?_
  rw [Zaq]
  walk_at "rd"
  refine Zaz (xs:=xs4) (λi σ H'=>(∃ o4 o5:Option V,σ=[some (V.ref p),some (V.ref d),some (V.ref sd),some (V.ref l),o4,o5])/\Zk H4 H'/\∀ g∈(J3 ss).take i,¬ Zd7 rs hf cs a g) ⟨⟨_,_,rfl⟩,λ_ _ z=>z,λg hg=>by simp at hg⟩ (λi σ H' _ ⟨_,sm',_⟩=>.of (sm' _ _ ep)) (λi y σ H5 hi hP=>?_) (λσ H5 hP=>?_)
  ·obtain⟨⟨o4,o5,rfl⟩,s5,hno⟩:=hP
   have hig:i < (J3 ss).length:=by rw [<- hG.1]; exact (Yi.mp hi).1
   have hgi:=Yc hig
   obtain⟨gb,rfl,_,hgb⟩:=hG.2 i _ _ hi hgi
   have hgm:=Yl hgi
   generalize (J3 ss)[i]=G at hgi hgb hgm
   have hsub:G.Sublist ss:=Zis hgm
   have hGs:∀ z∈G,z∈ss:=λz hz=>hsub.subset hz
   have hGn:G.Nodup:=J.nd.sublist hsub
   have hGl:G.length<=12:=Yj hsub.length_le J.few
   have s05:=s04.trans s5
   have hg:H5 gb=some (.lst (G.map V.str)):=s5 _ _ hgb
   refine Jt λA0 hA0 C0 hC0=>?_
   walk_at "rd"
   refine⟨p,d,gb,xs,rs,kvs,G,G.map hf,rfl,s05 _ _ hp,hR.same s05,.inr ⟨o,s05 _ _ J.home⟩,hg,J.hat G hGs,J.rl,by omega,J.ok,J.sz,λr2 H6 acc s6 hna hma v2=>?_⟩
   simp only [JQ,Zc6,cxK]
   walk_at "rd"
   have s56:=s05.trans s6
   have hg6:=s6 _ _ hg
   refine⟨⟨_,.of hg6⟩,?_⟩
   rw [show Jq [some (V.ref p),some (V.ref d),some (V.ref sd),some (V.ref l),o4,some (V.ref gb)] [2]=[some (V.ref sd)] from rfl]
   refine Zd0 ZR Za3 (xs:=G.map V.str) (as:=(G.map a).map (Zm B)) hg6 (by simp) (by rw [List.length_map]; omega) (λi' y t' hi' ht' H2 kk os sm'' ol hkk=>?_) (λpq H7 zs hpq s7 e7 hY=>?_)
   ·obtain⟨o',rfl⟩:∃ o',os=[o']:=by match os,ol with | [o'],_=>exact⟨o',rfl⟩
    rw [Yg] at hi'
    obtain⟨z,hz',rfl⟩:=Yx.mp hi'
    rw [Ys,Yg,hz'] at ht'
    cases ht'
    have s2:=s56.trans sm''
    obtain⟨v,ev,rv⟩:=(J.shv.keep λb ys e=>s2 _ _ e).val J.nd z (hGs z (Yl hz'))
    walk_at "rd"
    refine⟨[some (.str z)],rfl,rfl,?_⟩
    walk_at "rd"
    exact⟨svs,ZbN J.share s2,.inr z,rfl,_,ev,hkk _ _ (λ_ _ w=>w) rv⟩
   have haz:∀ z∈G,(a z).natAbs < 2 ^ 2600:=λz hz=>J.az z (hGs z hz)
   have hb27:B < 2 ^ 2700:=Yu J.b1 (YO (by decide) (by decide))
   have hsz:ZkD ((G.map a).map (Zm B)):=by
    refine⟨λi hi=>?_,λi t h=>?_⟩
    ·rw [Ye,Ye] at hi
     rw [Zca J.b0 _ _ (by simpa using hi),<- List.map_take]
     exact (Jc J.b0 hb27 (Zkn (ss:=G.take i) (by rw [YE]; omega) λz hz=>haz z (List.mem_of_mem_take hz))).mono (by decide)
    ·rw [Ys,Yg] at h
     obtain⟨z,hz,rfl⟩:=Yx.mp h
     exact (Jc J.b0 J.b1 (haz z (Yl hz))).mono (by decide)
   refine⟨pq,zs,_,rfl,e7,hY,hsz,λr1 H8 s8 v1=>?_⟩
   rw [ZdO J.b0] at v1
   replace v1:ZR H8 r1 (Zm B (sm G a)):=v1
   have hbd:∀ k∈acc,1<=k/\k<=rs.length:=λk hk=>Z5 ((hma k).mp hk)
   have hal:=ZbK hna hbd
   have eac:ZK (acc.map (Zl rs))=Zm B (sm acc cs):=by
    rw [<- J.price hbd,ZeW]
   have szac:Jo 3000 (ZK (acc.map (Zl rs))):=(Zb2 J.sz acc).mono (by have:=J.rl; omega)
   rw [eac] at v2 szac
   have szG:Jo 3000 (Zm B (sm G a)):=(Jc J.b0 hb27 (Zkn hGl haz)).mono (by decide)
   refine⟨r2,r1,_,_,rfl,v2.same (s7.trans s8),v1,szac,szG,λr3 H9 s9 v3=>?_⟩
   rw [Zc3 J.b0] at v3
   obtain⟨pv,rfl,hpv⟩:=v3
   have s59:=s6.trans (s7.trans (s8.trans s9))
   refine⟨pv,rfl,_,hpv,_,rfl,_,rfl,?_⟩
   by_cases cn:sm acc cs - sm G a < 0
   ·rw [if_pos ((ZdU J.b0 _).mpr cn)]
    subst hA0
    walk_at "rd"
    refine q false H9 (s05.trans s59) (λh=>by cases h) λ_=>⟨G,hgm,λacc2 hn2 hm2=>?_⟩
    have hpe:acc2.Perm acc:=(List.perm_ext_iff_of_nodup hn2 hna).mpr λk=>(hm2 k).trans (hma k).symm
    rw [Zbt hpe]
    omega
   ·rw [if_neg (λh=>cn ((ZdU J.b0 _).mp h))]
    subst hC0
    walk_at "rd"
    refine⟨s5.trans s59,λg hg'=>?_⟩
    rw [Yp,hgi,Yw] at hg'
    rcases hg' with hg' | hg'
    ·exact hno g hg'
    ·have e:g=G:=by simpa using hg'
     rw [e]
     intro hov
     have:=hov acc hna hma
     omega
  ·obtain⟨⟨o4,o5,rfl⟩,s5,hno⟩:=hP
   rw [hG.1,Yv] at hno
   subst hR0
   walk_at "rd"
   exact q true H5 (s04.trans s5) (λ_=>hno) (λh=>by cases h)
def ZhB(h:Zfm kvs n)(hn:(kvs.map (·.1)).Nodup):∃ ss:List Str,kvs.map (·.1)=ss.map Sum.inr/\ss.Nodup/\ss.length=kvs.length/\∀ z∈ss,∃ k:Nat,JI kvs (Sum.inr z)=some (.int (k:Int))/\k<=n:=by
 have e:kvs.map (·.1)=(kvs.map λkv=>(match kv.1 with | Sum.inr z=>z | Sum.inl _=>Str.empty)).map (Sum.inr:Str->ZU):=by
  rw [Ys]
  refine YQ λkv hkv=>?_
  obtain⟨z,k,rfl,_⟩:=h kv hkv
  rfl
 refine⟨_,e,?_,by simp,λz hz=>?_⟩
 ·rw [e] at hn
  exact (VB.mp hn).imp λh c=>h (by rw [c])
 ·obtain⟨kv,hkv,rfl⟩:=Yk.mp hz
  obtain⟨i,hi,ei⟩:=Vz hkv
  obtain⟨z,k,rfl,hk⟩:=h kv hkv
  exact⟨k,Zg0 (i:=i) (by rw [Yc hi,ei]) hn,hk⟩
def Zcu(h:0<=q):0<=JV B q:=by
 unfold JV
 exact Int.mul_nonneg (Rat.num_nonneg.mpr h) (Int.ediv_nonneg (by omega) (by omega))
def Zcv(hB:0 < B)(l:List α)(m:α->Int):ZK (l.map λx=>Zm B (m x))=Zm B (sm l m):=by
 induction l with
 | nil=>exact (Za4 B).symm
 | cons x l ih=>rw [Yr,Zaj,ih,ZJ,ZbP hB]
def ZqO(hB:B<=2 ^ 2410)(hz:Jo n q)(hn:n<=120):(JV B q).natAbs < 2 ^ 2530:=by
 unfold JV
 rw [Int.natAbs_mul]
 have h1:((B:Int) / (q.den:Int)).natAbs<=B:=by
  have:(B:Int) / (q.den:Int)=((B / q.den:Nat):Int):=rfl
  rw [this,VO]
  exact YaB _ _
 refine Yu (Nat.mul_lt_mul_of_lt_of_le hz.1 (Yj h1 hB) (Vr _)) ?_
 rw [<- Vi]
 exact YO (by decide) (by omega)
theorem Zoq{acc:List Nat}{M:Int}(hl:acc.length<=20)(h:∀ k∈acc,0<=cs k/\cs k<=M)(hM:0<=M):0<=sm acc cs/\sm acc cs<=20 * M:=by
 have:∀ l:List Nat,(∀ k∈l,0<=cs k/\cs k<=M)->0<=sm l cs/\sm l cs<=(l.length:Int) * M:=by
  intro l
  induction l with
  | nil=>intro _; simp [ZgG]
  | cons k l ih =>
   intro h
   have h1:=ih λy hy=>h y (.tail _ hy)
   have h2:=h k (.head _)
   rw [ZJ,YR,Int.natCast_add,Int.add_mul]
   refine⟨by omega,?_⟩
   have:((1:Nat):Int) * M=M:=by simp
   omega
 obtain⟨h1,h2⟩:=this acc h
 refine⟨h1,Int.le_trans h2 (Int.mul_le_mul_of_nonneg_right (by omega) hM)⟩
def Zhf{B bn:Nat}(hB0:0 < B)(hB1:B<=2 ^ 2400)(hb0:0 < bn)(hb1:bn<=6)(hrl:rs.length<=20)(hn:∀ r∈rs,Jo 110 r.2/\0<=r.2.num)(hqd:∀ z∈ss,(qf z).den ∣ B/\0<=qf z)(hpd:∀ r∈rs,r.2.den ∣ B)
  (htot:∀ ks:List Nat,ks.Nodup->(∀ k,k∈ks ↔ Jf rs (ss.map hf) k)->ZK (ss.map qf)=ZK (ks.map (Zl rs))) :
  ∃ (a0:Str->Int) (cs:Nat->Int),(∀ z∈ss,qf z=Zm (B * bn) (a0 z))/\(∀ z∈ss,0<=a0 z/\a0 z<=20 * 2 ^ 2530)/\(∀ k,0<=cs k/\cs k<=2 ^ 2530)/\(∀ k,Zl rs k=Zm (B * bn) (cs k))/\(∀ ks:List Nat,ks.Nodup->(∀ k,k∈ks ↔ Jf rs (ss.map hf) k)->sm ks cs=sm ss a0):=by
 classical
 have hB':0 < B * bn:=VH hB0 hb0
 have hB2:B * bn<=2 ^ 2410:=by
  refine Yj (Yab hB1 hb1) ?_
  rw [show (2410:Nat)=2400 + 10 from rfl,Vi]
  exact Nat.mul_le_mul_left _ (by decide)
 have hdv:B ∣ B * bn:=Yat _ _
 have hpk:∀ k,(Zl rs k).den ∣ B * bn/\0<=Zl rs k/\Jo 110 (Zl rs k):=λk=>by
  unfold Zl
  cases h:rs[k - 1]? with
  | none=>exact⟨Nat.one_dvd _,Rat.le_refl,Zdh (by decide)⟩
  | some r =>
   have hr:=Yl h
   exact⟨VV (hpd r hr) hdv,Rat.num_nonneg.mp (hn r hr).2,(hn r hr).1⟩
 have hcs:∀ k,0<=JV (B * bn) (Zl rs k)/\JV (B * bn) (Zl rs k)<=2 ^ 2530:=λk=>by
  have h1:=Zcu (B:=B * bn) (hpk k).2.1
  have h2:=ZqO hB2 (hpk k).2.2 (by decide)
  refine⟨h1,?_⟩
  have h3:((2 ^ 2530:Nat):Int)=2 ^ 2530:=by rw [Vs]; rfl
  omega
 have hq:∀ z∈ss,qf z=Zm (B * bn) (JV (B * bn) (qf z)):=λz hz=>(Zec hB' (VV (hqd z hz).1 hdv)).symm
 have hp:∀ k,Zl rs k=Zm (B * bn) (JV (B * bn) (Zl rs k)):=λk=>(Zec hB' (hpk k).1).symm
 have hsum:∀ ks:List Nat,ks.Nodup->(∀ k,k∈ks ↔ Jf rs (ss.map hf) k)->sm ks (λk=>JV (B * bn) (Zl rs k))=sm ss (λz=>JV (B * bn) (qf z)):=λks h1 h2=>by
  have h:=htot ks h1 h2
  rw [show ss.map qf=ss.map (λz=>Zm (B * bn) (JV (B * bn) (qf z))) from YQ λz hz=>hq z hz,Zcv hB',show ks.map (Zl rs)=ks.map (λk=>Zm (B * bn) (JV (B * bn) (Zl rs k))) from YQ λk _=>hp k,Zcv hB'] at h
  exact (ZnU hB' h).symm
 refine⟨λz=>JV (B * bn) (qf z),λk=>JV (B * bn) (Zl rs k),hq,λz hz=>⟨Zcu (hqd z hz).2,?_⟩,hcs,hp,hsum⟩
 have hnr:(List.range' 1 rs.length).Nodup:=(List.pairwise_lt_range' (s:=1) (n:=rs.length)).imp λh e=>by rw [e] at h; exact Y1 _ h
 have hks:=hsum ((List.range' 1 rs.length).filter λk=>decide (Jf rs (ss.map hf) k)) (hnr.filter _) λk=>by
  rw [YB,V7,Y3]
  exact⟨λh=>h.2,λh=>⟨⟨(Z5 h).1,by have:=(Z5 h).2; omega⟩,h⟩⟩
 have h1:=Zew (f:=λz=>JV (B * bn) (qf z)) (λz hz=>Zcu (hqd z hz).2) hz
 have h2:=(Zoq (acc:=(List.range' 1 rs.length).filter λk=>decide (Jf rs (ss.map hf) k)) (cs:=λk=>JV (B * bn) (Zl rs k)) (Nat.le_trans (List.length_filter_le _ _) (by simpa using hrl)) (λk _=>hcs k) (Int.pow_nonneg (by decide))).2
 rw [hks] at h2
 exact Int.le_trans h1 h2
def Zlp(pt:Addr)(K:PySem.W.Frag):Sp:=λvs H Q _=>∃ (a:Addr) (ns:List Int),vs=[.ref a]/\Jw K H a (ns.map V.int)/\ZhL H pt "far_roads_first.<locals>.<lambda>"/\∀ H',Q (.bl true) H'
theorem ZeJ(p:Str->Bool):∀ (l:List Str) (gs:List (List Str)) (g:List Str),g∈gs->g ++ l.filter p∈l.foldl stp gs
 | [],gs,g,h=>by simpa using h
 | x :: l,gs,g,h=>by
  rw [List.foldl_cons]
  by_cases c:p x=true
  ·rw [List.filter_cons_of_pos c,show g ++ x :: l.filter p=(g ++ [x]) ++ l.filter p by simp]
   exact ZeJ p l _ _ (Yy _ (Yk.mpr ⟨g,h,rfl⟩))
  ·rw [V2 c]
   exact ZeJ p l _ _ (Vx _ h)
def Zkt{a:Str->Int}{G G':List Str}(hp:G.Perm G')(h:Zd7 rs hf cs a G):Zd7 rs hf cs a G':=λacc hn hm=>by
 rw [<- Zbt hp]
 refine h acc hn λk=>(hm k).trans ?_
 unfold Jf
 constructor
 ·rintro⟨x,hx,r⟩; exact⟨x,(hp.map hf).mem_iff.mpr hx,r⟩
 ·rintro⟨x,hx,r⟩; exact⟨x,(hp.map hf).mem_iff.mp hx,r⟩
def ZmA{a:Str->Int}{fr:List Nat}(hO:∀ z∈ss,WayR rs (hf z) (wayL rs (hf z)))(hc:∀ k,0<=cs k)(hn:ss.Nodup)(hfm:∀ k,k∈fr ↔ Jf rs (ss.map hf) k)(hfn:fr.Nodup)(hP:PayOk rs hf ss cs fr pay)(ha:∀ z∈ss,a z=sm fr (λk=>pay k z)){G:List Str}(hGn:G.Nodup)(hGs:∀ z∈G,z∈ss):¬ Zd7 rs hf cs a G:=λhov=>by
 classical
 have hOG:∀ z∈G,WayR rs (hf z) (wayL rs (hf z)):=λz hz=>hO z (hGs z hz)
 have h1:=hov (fr.filter λk=>decide (Jf rs (G.map hf) k)) (hfn.filter _) λk=>by
  rw [YB,Y3]
  refine⟨λh=>h.2,λh=>⟨(hfm k).mpr ?_,h⟩⟩
  obtain⟨z,hz,hk⟩:=(ZaB hOG).mp h
  exact (ZaB hO).mpr ⟨z,hGs z hz,hk⟩
 have hpe:G.Perm (ss.filter λz=>decide (z∈G)):=(List.perm_ext_iff_of_nodup hGn (hn.filter _)).mpr λz=>by
  rw [YB,Y3]
  exact⟨λh=>⟨hGs z h,h⟩,λh=>h.2⟩
 rw [ZaK (l:=G) (f:=a) λz hz=>ha z (hGs z hz),Zd5,ZaJ] at h1
 have h2:sm fr (λk=>sm G (λz=>pay k z))<=sm fr (λk=>if decide (Jf rs (G.map hf) k)=true then cs k else 0):=Zkv λk hk=>by
  by_cases c:Jf rs (G.map hf) k
  ·rw [if_pos (YL c),<- hP.full k hk,Zbt hpe,ZaJ]
   refine Zkv λz _=>?_
   have:=hP.nn k z
   split <;> omega
  ·rw [if_neg (by simpa using c)]
   refine Int.le_of_eq (ZaX λz hz=>Vn λh=>c ((ZaB hOG).mpr ⟨z,hz,(hP.on k z h).2.2⟩))
 omega
def Zrp(F:Fun K "law" "law" ZfM f fd)(ZC:mg "len"=none)(ZG:mg "list"=none)(ZeE:mg "dict"=none)(ZT:mg "range"=none)(Zj:mg "isinstance"=none)(ZaO:mg "tuple"=none)(ZE:Fn P w K mg base ZD 1 "_law_cell_at" ["_law_script","_law_k"] (ZbV K))(Zaf:Fn P w K mg base ZD 2 "_law_numbers" ["_law_cell","_law_many","_law_most"] ZaA)
  (Zbz:Fn P w K mg base ZD 3 "_law_roads_by" ["_law_script","_law_most"] (ZfK K)) (ZbA:Fn P w K mg base ZD 3 "_law_homes_by" ["_law_script","_law_many","_law_most"] (Zgt K)) (Zbi:Fn P w K mg base ZD 3 "_law_shared_by" ["_law_roads","_law_homes","_law_cell"] Zge) (ZaD:Fn P w K mg base ZD 4 "_law_cost" ["_law_roads","_law_homes","_law_group"] ZdV) (Zbh:Fn P w K mg base ZD 3 "_law_handed_on" ["_law_sharing","_law_whole","_law_cell"] ZgV) (Zgc:Fn P w K mg base ZD 9 "judged" ["tree","homes","sharing"] (Zgd pt CT)) (ZbT:Fn P w K mg base ZD 5 "_law_is_good" ["_law_roads","_law_homes","_law_sharing"] (Zgj CT)) (Za0:Fn P w K mg base ZD 4 "_law_table_holds" ["_law_roads","_law_homes","_law_sharing","_law_table"] (Zn5 CT)) (ZaW:Fn P w K mg base ZD 5 "_law_group_holds" ["_law_roads","_law_homes","_law_sharing","_law_group"] (ZrI CT))
  (Zkg:Mkr P w K mg base ZD 6 CT "Tree" ["self","roads"] (ZlT CT)):FnOk P w K mg base ZD 10 f fd ["_law_script"] (Zlp pt K):=by
 refine JU F Zeg λcdv A outer s H vs Q E hr h=>?_
 obtain⟨a,ns,rfl,hS,hTb,q⟩:=h
 refine⟨_,(Zd (Zs 1 Zeg.nd (Jb Zbz hr (Zi (Ze 0) (Zi Zb Za))))
   (Zd (Zs 2 Zeg.nd (Jb ZbA hr (Zi (Ze 0) (Zi (Jy (Ju rfl ZC (Zi (Ze 1) Za)) Zb) (Zi Zb Za)))))
   (Zd (Zs 3 Zeg.nd (Jb Zbi hr (Zi (Ze 1) (Zi (Ze 2) (Zi (Jb ZE hr (Zi (Ze 0) (Zi Zb Za))) Za)))))
   (Zd (Zs 4 Zeg.nd (Jb ZaD hr (Zi (Ze 1) (Zi (Ze 2) (Zi (ZfJ rfl ZG (Zi (Ze 2) Za)) Za)))))
   (Zd (Je Yq (Zey rfl ZT (Zi (Z8 (Jb ZE hr (Zi (Ze 0) (Zi Zb Za))) Zb) Za)) (Zr 5 Zeg.nd) (Zh (Js (Jb Zbh hr (Zi (Ze 3) (Zi (Ze 4) (Zi (Jx (Jb Zaf hr (Zi (Jb ZE hr (Zi (Ze 0) (Zi (Jy Zb (Ze 5)) Za))) (Zi Zb (Zi (Zhm Zb Zb) Za)))) Zb) Za)))))))
   (Zd (Zs 6 Zeg.nd (Jb Zgc hr (Zi (Zrd Zkg hr (by decide) rfl (Zi (ZgB rfl ZG (Zi (Ze 1) Za)) Za)) (Zi (ZpV rfl ZeE (Zi (Ze 2) Za)) (Zi (Zkm rfl ZeE (Zi (Ze 3) Za)) Za)))))
   (Zd (Jm (t_w (JW (JC (Jg (Jv rfl Zj (Zi (Ze 6) (Zi (J2 rfl ZaO rfl) Za))))) (Zda (Zny (Ju rfl ZC (Zi (Ze 6) Za)) Zb)))) (Zh (Zy JX)) ZV)
   (Zd (Jm (Jg (Jb ZbT hr (Zi (Ze 1) (Zi (Ze 2) (Zi (Ze 3) Za))))) (Zh (Zy (Zfo (ZsB (ZA (Ze 6) Zb) ZfT) (Zgn (Jb Za0 hr (Zi (Ze 1) (Zi (Ze 2) (Zi (Ze 3) (Zi (ZA (Ze 6) Zb) Za))))))))) ZV)
   (Zh (Zy (Zfo (ZsB (ZA (Ze 6) Zb) ZfT) (Zgn (Jb ZaW hr (Zi (Ze 1) (Zi (Ze 2) (Zi (Ze 3) (Zi (ZA (Ze 6) Zb) Za))))))))))))))))),?_⟩
 rw [show Zz ["_law_script","_law_roads","_law_homes","_law_sharing","_law_whole","_law_k","_law_told"] [.ref a]=[some (.ref a),none,none,none,none,none,none] from rfl]
 refine Zx λR0 hR0=>?_
 walk_at "rd"
 simp only [ZfK]
 walk_at "rd"
 refine⟨⟨ns,hS⟩,λp H1 xs rs hp s1 e1 hR hT hl hn=>?_⟩
 have hxl:=hR.1
 subst hR0
 try dsimp only
 refine Zx λR0 hR0=>?_
 walk_at "rd"
 refine⟨xs,.inl e1,a,ns,xs.length,5,rfl,s1.seq hS,by decide,by decide,λd H2 kvs o hd s2 e2 hHV hND hkl=>?_⟩
 rw [hxl] at hHV
 subst hR0
 try dsimp only
 have s02:=s1.trans s2
 obtain⟨ss,ess,hnd,hsl,hval⟩:=ZhB hHV hND
 obtain⟨hf,hat⟩:=ZnK hval
 have hs5:ss.length<=5:=by omega
 have hs12:ss.length<=12:=by omega
 have hkv:(kvs.map λkv=>kV kv.1)=ss.map V.str:=by
  have:=congrArg (List.map kV) ess
  rw [Ys,Ys] at this
  exact this
 have hway:∀ z∈ss,WayR rs (hf z) (wayL rs (hf z)):=λz hz=>by
  have h:=(hat [z] (λy hy=>by rw [YF.mp hy]; exact hz)).2 0 z (hf z) rfl rfl
  obtain⟨w,hw,_⟩:=Zbs hT h.2
  rw [Zbf hw]
  exact hw
 refine Zx λR0 hR0=>?_
 walk_at "rd"
 refine⟨a,ns,6,rfl,s02.seq hS,p,d,_,xs,rs,o,kvs,ss,hf,rfl,s2 _ _ e1,hR.same s2,e2,ess,hnd,hs12,hat,by omega,hT,hn,λb H5 svs qf B hb s5 e5 hSh hB0 hB1 hqd hpd htot hfair=>?_⟩
 have s05:=s02.trans s5
 have s15:=s2.trans s5
 subst hR0
 try dsimp only
 refine Zx λR0 hR0=>?_
 walk_at "rd"
 refine⟨d,kvs,rfl,.inr ⟨o,s5 _ _ e2⟩,λnl H6 hnl s6 e6=>?_⟩
 rw [hkv] at e6
 have s16:=s15.trans s6
 have s26:=s5.trans s6
 refine⟨p,d,nl,xs,rs,kvs,ss,ss.map hf,rfl,s16 _ _ e1,hR.same s16,.inr ⟨o,s26 _ _ e2⟩,e6,hat ss λ_ hz=>hz,by omega,by omega,hT,λr hr=>(hn r hr).1,λwv H7 acc s7 hna hma vw=>?_⟩
 subst hR0
 try dsimp only
 have s57:=s6.trans s7
 have s07:=s05.trans s57
 have s17:=s15.trans s57
 have s27:=s5.trans s57
 obtain⟨a0,cs,hqa,ha0,hcs,hpc,hts⟩:=Zhf (hf:=hf) hB0 hB1 (bn:=1) (by decide) (by decide) (by omega) hn hqd hpd htot
 rw [Nat.mul_one] at hqa hpc
 have hSh5:ShV H5 svs ss (λz=>Zm B (a0 z)):=⟨hSh.1,λi z h=>by
  obtain⟨v,e,r⟩:=hSh.2 i z h
  rw [hqa z (Yl h)] at r
  exact⟨v,e,r⟩⟩
 have hbd:∀ k∈acc,1<=k/\k<=rs.length:=λk hk=>Z5 ((hma k).mp hk)
 have hacl:acc.length<=20:=Yj (ZbK hna hbd) (by omega)
 have hsa:=Zoq hacl (λk _=>hcs k) (Int.pow_nonneg (by decide))
 have ewv:ZK (acc.map (Zl rs))=Zm B (sm acc cs):=by
  rw [show acc.map (Zl rs)=acc.map (λk=>Zm B (cs k)) from YQ λk _=>hpc k,Zcv hB0]
 rw [ewv] at vw
 have hlim:∀ m:Int,-(36 ^ 4 * (20 * 2 ^ 2530))<=m->m<=36 ^ 4 * (20 * 2 ^ 2530)->m.natAbs < 2 ^ 2600:=λm h1 h2=>by
  have e:((36 ^ 4 * (20 * 2 ^ 2530):Nat):Int)=36 ^ 4 * (20 * 2 ^ 2530):=by rw [Vt,Vt,Vs,Vs]; rfl
  have h3:m.natAbs<=36 ^ 4 * (20 * 2 ^ 2530):=by omega
  refine YA h3 ?_
  rw [show (2600:Nat)=70 + 2530 from rfl,Vi,<- Nat.mul_assoc]
  exact Nat.mul_lt_mul_of_pos_right (by decide) (Vr _)
 have hB4:12 ^ 4 * B < 2 ^ 2600:=by
  refine YA (Nat.mul_le_mul_left _ hB1) ?_
  rw [show (2600:Nat)=200 + 2400 from rfl,Vi]
  exact Nat.mul_lt_mul_of_pos_right (by decide) (Vr _)
 have hM36:36 ^ 4 * (20 * 2 ^ 2530) < (2:Int) ^ 2600:=by
  have e:((36 ^ 4 * (20 * 2 ^ 2530):Nat):Int)=36 ^ 4 * (20 * 2 ^ 2530):=by rw [Vt,Vt,Vs,Vs]; rfl
  have e2:((2 ^ 2600:Nat):Int)=2 ^ 2600:=by rw [Vs]; rfl
  have h:36 ^ 4 * (20 * 2 ^ 2530) < (2:Nat) ^ 2600:=by
   rw [show (2600:Nat)=70 + 2530 from rfl,Vi,<- Nat.mul_assoc]
   exact Nat.mul_lt_mul_of_pos_right (by decide) (Vr _)
  omega
 have hM0:(0:Int)<=20 * 2 ^ 2530:=Int.mul_nonneg (by decide) (Int.pow_nonneg (by decide))
 have hcs':∀ k,0<=cs k/\cs k<=20 * 2 ^ 2530:=λk=>⟨(hcs k).1,Int.le_trans (hcs k).2 (by
  have h:(0:Int)<=2 ^ 2530:=Int.pow_nonneg (by decide)
  generalize (2:Int) ^ 2530=X at h
  omega)⟩
 clear hcs
 generalize (20 * (2:Int) ^ 2530)=M at hlim hM36 hM0 ha0 hsa hcs'
 refine Zx λR0 hR0=>?_
 simp only [ZcI]
 walk_at "rd"
 refine⟨a,ns,7,rfl,s07.seq hS,_,rfl,by omega,by omega,?_⟩
 have hn3:(cellOf ns 7 % 4).toNat<=3:=by omega
 generalize (cellOf ns 7 % 4).toNat=n at hn3
 refine Zee (λi σ H'=>∃ (o5:Option V) (sv:List (ZU × V)) (ai:Str->Int),σ=[some (V.ref a),some (V.ref p),some (V.ref d),some (V.ref b),some wv,o5,none]/\(∀ b' o,b' ≠ b->H7 b'=some o->H' b'=some o)/\H' b=some (.dK sv)/\ShV H' sv ss (λz=>Zm (12 ^ i * B) (ai z))/\(∀ z∈ss,-(36 ^ i * M)<=ai z/\ai z<=36 ^ i * M)/\sm ss ai=12 ^ i * sm ss a0) ⟨_,svs,a0,rfl,λ_ _ _ e=>e,s57 _ _ e5,?_,λz hz=>?_,?_⟩ (λi σ H8 hi hP=>?_) (λσ H8 hP=>?_)
 ·simp only [Nat.pow_zero,Nat.one_mul]
  exact hSh5.keep λb ys e=>s57 _ _ e
 ·have:=ha0 z hz
  simp only [Int.pow_zero,Int.one_mul]
  omega
 ·simp
 ·obtain⟨o5,sv,ai,rfl,k8,eb8,hS8,hM8,hsm8⟩:=hP
  have s28:Zk H2 H8:=λb' o' e=>k8 b' o' (Zn e hb) (s27 _ _ e)
  have hi3:i<=2:=by omega
  walk_at "rd"
  refine⟨a,ns,8 + i,by simp,(s02.trans s28).seq hS,_,_,_,rfl,by decide,by decide,by decide,by decide,λnb H9 nums hnb s9 e9 hnl hnb9=>?_⟩
  have hn1:nums.length=1:=by omega
  obtain⟨n0,rfl⟩:∃ n0,nums=[n0]:=List.length_eq_one_iff.mp hn1
  have p12:(12:Nat) ^ (i + 1)<=12 ^ 4:=YO (by decide) (by omega)
  have hBi:0 < 12 ^ i * B:=VH (Nat.pow_pos (by decide)) hB0
  have e12:12 * (12 ^ i * B)=12 ^ (i + 1) * B:=by rw [Nat.pow_succ,Nat.mul_comm (12 ^ i) 12,Nat.mul_assoc]
  have hB12:12 * (12 ^ i * B) < 2 ^ 2600:=by rw [e12]; exact YA (Nat.mul_le_mul_right _ p12) hB4
  have e36:36 * (36 ^ i * M)=36 ^ (i + 1) * M:=by rw [Int.pow_succ,Int.mul_comm (36 ^ i) 36,Int.mul_assoc]
  have g36:(0:Int)<=36 ^ i * M:=Int.mul_nonneg (Int.pow_nonneg (by decide)) hM0
  have h36:36 * (36 ^ i * M) < (2:Int) ^ 2600:=by
   rw [e36]
   refine Int.lt_of_le_of_lt (Int.mul_le_mul_of_nonneg_right ?_ hM0) hM36
   match i,hi3 with
   | 0,_=>decide
   | 1,_=>decide
   | 2,_=>decide
  have hwM:-(36 ^ i * M)<=12 ^ i * sm acc cs/\12 ^ i * sm acc cs<=36 ^ i * M:=by
   have h0:(0:Int)<=12 ^ i * sm acc cs:=Int.mul_nonneg (Int.pow_nonneg (by decide)) hsa.1
   have h1:(12:Int) ^ i * sm acc cs<=36 ^ i * M:=by
    match i,hi3 with
    | 0,_=>simp; exact hsa.2
    | 1,_=>have:=hsa.1; have:=hsa.2; simp; omega
    | 2,_=>have:=hsa.1; have:=hsa.2; show (12:Int) ^ 2 * _<=36 ^ 2 * _; omega
   omega
  have hkw:∀ b' ys,H7 b'=some (.tup ys)->H8 b'=some (.tup ys):=λb' ys e=>k8 _ _ (Jk e (s57 _ _ e5) (by intro z; cases z)) e
  have hvw:ZR H9 wv (Zm (12 ^ i * B) (12 ^ i * sm acc cs)):=by
   have e:=ZfO hB0 (12 ^ i) (Nat.pow_pos (by decide)) (sm acc cs)
   rw [Vs] at e
   rw [<- show Zm B (sm acc cs)=Zm (12 ^ i * B) (12 ^ i * sm acc cs) from e]
   exact (vw.keep hkw).same s9
  refine⟨nb,rfl,_,e9,_,rfl,b,wv,n0,sv,ss,12 ^ i * B,ai,12 ^ i * sm acc cs,36 ^ i * M,rfl,s9 _ _ eb8,hS8.keep λb ys e=>s9 _ _ e,hvw,hnd,hs12,hBi,hB12,g36,h36,hwM,hM8,λH' svs' a' hk' eb' hS' hM' hsm'=>?_⟩
  refine⟨λb' o' hb' e=>hk' _ _ hb' (s9 _ _ (k8 _ _ hb' e)),svs',eb',a',?_,λz hz=>?_,?_⟩
  ·rw [<- e12]; exact hS'
  ·rw [<- e36]; exact hM' z hz
  ·rw [hsm',hsm8,Int.pow_succ,Int.mul_comm (12 ^ i) 12,Int.mul_assoc]
 ·obtain⟨o5,sv,ai,rfl,k8,eb8,hS8,hM8,hsm8⟩:=hP
  have s28:Zk H2 H8:=λb' o' e=>k8 b' o' (Zn e hb) (s27 _ _ e)
  subst hR0
  try dsimp only
  refine Zx λR0 hR0=>?_
  walk_at "rd"
  simp only [Zhl]
  walk_at "rd"
  have s18:=s2.trans s28
  refine⟨xs,.inl (.of (s18 _ _ e1)),λl H9 hl9 s9 e9 x dx hx hdx hne=>?_⟩
  have old:∀ b o,H9 b=some o->upd (upd H9 dx (.own x)) x (.ins CT dx []) b=some o:=λb o e=>by rw [Zg (Zn e hx),Zg (Zn e hdx)]; exact e
  refine⟨x,dx,l,xs,rs,rfl,Zf,old _ _ e9,(hR.same (s18.trans s9)).keep λb ys e=>old b _ e,hT,by omega,λr hr=>(hn r hr).2,λH10 k10 hT10 _=>⟨rfl,?_⟩⟩
  have s910:Zk H9 H10:=λb o e=>k10 b o (Zn e hx) (old b o e)
  clear old k10
  have s810:=s9.trans s910
  have s210:=s28.trans s810
  have hp4:∀ y:Int,0<=y->y<=M->0<=12 ^ n * y/\12 ^ n * y<=36 ^ 4 * M:=λy h1 h2=>by
   match n,hn3 with
   | 0,_=>simp; omega
   | 1,_=>simp; omega
   | 2,_=>show 0<=(12:Int) ^ 2 * y/\(12:Int) ^ 2 * y<=36 ^ 4 * M; omega
   | 3,_=>show 0<=(12:Int) ^ 3 * y/\(12:Int) ^ 3 * y<=36 ^ 4 * M; omega
  have h36:(36:Int) ^ n * M<=36 ^ 4 * M:=by
   match n,hn3 with
   | 0,_=>simp; omega
   | 1,_=>simp; omega
   | 2,_=>show (36:Int) ^ 2 * M<=36 ^ 4 * M; omega
   | 3,_=>show (36:Int) ^ 3 * M<=36 ^ 4 * M; omega
  have hBn:0 < 12 ^ n * B:=VH (Nat.pow_pos (by decide)) hB0
  have hBn2:12 ^ n * B < 2 ^ 2600:=YA (Nat.mul_le_mul_right _ (YO (by decide) (by omega))) hB4
  have hJ:∀ (H':Hp) (dd sd:Addr) (oo:Obj),Zk H10 H'->H' dd=some (.frz oo (.dK kvs))->Rd H' sd (.dK sv)->Jd H' CT (.ref x) dd sd rs oo kvs sv ss hf (12 ^ n * B) ai (λk=>12 ^ n * cs k):=λH' dd sd oo sH h1 h2 =>
   ⟨hT10.same sH,h1,ess,h2,hS8.keep λb ys e=>(s810.trans sH) _ _ e,hnd,hs12,hat,by omega,hT,λr hr=>(hn r hr).1,hBn,hBn2,λz hz=>hlim _ (by have:=hM8 z hz; omega) (by have:=hM8 z hz; omega),λk=>(hp4 _ (hcs' k).1 (hcs' k).2).1,λk=>hlim _ (by have:=hp4 _ (hcs' k).1 (hcs' k).2; omega) (hp4 _ (hcs' k).1 (hcs' k).2).2,λk _ _=>by
    have e:=ZfO hB0 (12 ^ n) (Nat.pow_pos (by decide)) (cs k)
    rw [Vs] at e
    rw [hpc k]
    exact e,λks h1 h2=>by rw [ZkI,hts ks h1 h2,hsm8]⟩
  refine⟨d,kvs,rfl,.inr ⟨o,s210 _ _ e2⟩,λd1 od1 H11 hd1 s11 e11=>⟨b,sv,rfl,.inl ((s810.trans s11) _ _ eb8),λb1 H12 hb1 s12 e12=>?_⟩⟩
  have s1012:=s11.trans s12
  have J12:=hJ H12 d1 b1 od1 s1012 (s12 _ _ e11) (.inl e12)
  have hc0:∀ k,0<=12 ^ n * cs k:=λk=>(hp4 _ (hcs' k).1 (hcs' k).2).1
  have s212:=s210.trans s1012
  have s812:=s810.trans s1012
  refine⟨.ref x,d1,b1,rs,od1,kvs,sv,ss,hf,12 ^ n * B,ai,λk=>12 ^ n * cs k,rfl,J12,let ⟨t,ht⟩:=hTb; ⟨t,(s02.trans s212) _ _ ht⟩,λr Hb g G hg sb er eg hGw hGn hGs hov=>?_,λr Hb g tvs qs fr pay hg sb er eg hTp hTo hfm hfn hPy hpa=>?_⟩
  ·have s2b:=s212.trans sb
   have s8b:=s812.trans sb
   have JB:=hJ Hb d b o (s1012.trans sb) (s2b _ _ e2) (.inl (s8b _ _ eb8))
   have s1b:=s2.trans s2b
   have hin:(ss.filter λz=>decide (z∈G))∈J3 ss:=by
    have:=ZeJ (λz=>decide (z∈G)) ss [[]] [] (by simp)
    simpa [J3] using this
   have hpe:G.Perm (ss.filter λz=>decide (z∈G)):=(List.perm_ext_iff_of_nodup hGn (hnd.filter _)).mpr λz=>by
    rw [YB,Y3]
    exact⟨λh=>⟨hGs z h,h⟩,λh=>h.2⟩
   subst hR0
   try dsimp only
   refine Zx λR0 hR0=>?_
   refine Jt λA0 hA0 C0 hC0=>?_
   walk_at "rd"
   refine⟨"tuple",by simp [JD,er],?_⟩
   rw [if_neg (by decide)]
   refine⟨_,.inr er,?_⟩
   rw [if_neg (by simp)]
   subst hC0
   walk_at "rd"
   subst hR0
   try dsimp only
   refine Zx λR0 hR0=>?_
   refine Jt λA0 hA0 C0 hC0=>?_
   walk_at "rd"
   refine⟨p,d,b,xs,.ref x,rs,o,kvs,sv,ss,hf,12 ^ n * B,ai,λk=>12 ^ n * cs k,rfl,s1b _ _ e1,hR.same s1b,JB,hs5,λrb Hc sc ht hfl=>?_⟩
   refine⟨rb,rfl,?_⟩
   cases rb with
   | true=>exact absurd (Zkt hpe hov) (ht rfl _ hin)
   | false =>
    rw [if_neg (by decide)]
    subst hC0
    walk_at "rd"
    subst hR0
    walk_at "rd"
    have s1c:=s1b.trans sc
    refine⟨_,sc _ _ er,_,rfl,rfl,?_⟩
    rw [if_pos rfl]
    exact⟨_,sc _ _ er,_,rfl,p,d,b,g,xs,.ref x,rs,o,kvs,sv,ss,hf,12 ^ n * B,ai,λk=>12 ^ n * cs k,G,rfl,s1c _ _ e1,hR.same s1c,JB.same sc,sc _ _ eg,hGw,hGn,hGs,hov,λH' _=>q H'⟩
  ·have s2b:=s212.trans sb
   have s8b:=s812.trans sb
   have JB:=hJ Hb d b o (s1012.trans sb) (s2b _ _ e2) (.inl (s8b _ _ eb8))
   have s1b:=s2.trans s2b
   subst hR0
   try dsimp only
   refine Zx λR0 hR0=>?_
   refine Jt λA0 hA0 C0 hC0=>?_
   walk_at "rd"
   refine⟨"tuple",by simp [JD,er],?_⟩
   rw [if_neg (by decide)]
   refine⟨_,.inr er,?_⟩
   rw [if_neg (by simp)]
   subst hC0
   walk_at "rd"
   subst hR0
   try dsimp only
   refine Zx λR0 hR0=>?_
   refine Jt λA0 hA0 C0 hC0=>?_
   walk_at "rd"
   refine⟨p,d,b,xs,.ref x,rs,o,kvs,sv,ss,hf,12 ^ n * B,ai,λk=>12 ^ n * cs k,rfl,s1b _ _ e1,hR.same s1b,JB,hs5,λrb Hc sc ht hfl=>⟨rb,rfl,?_⟩⟩
   cases rb with
   | false =>
    obtain⟨g',hg',hov'⟩:=hfl rfl
    have hsub:=Zis hg'
    exact absurd hov' (ZmA hway hc0 hnd hfm hfn hPy hpa (hnd.sublist hsub) λz hz=>hsub.subset hz)
   | true =>
    rw [if_pos rfl]
    subst hA0
    walk_at "rd"
    have s1c:=s1b.trans sc
    refine⟨_,sc _ _ er,_,rfl,rfl,?_⟩
    rw [if_pos rfl]
    exact⟨_,sc _ _ er,_,rfl,p,d,b,g,xs,.ref x,rs,o,kvs,sv,ss,hf,12 ^ n * B,ai,λk=>12 ^ n * cs k,tvs,qs,rfl,s1c _ _ e1,hR.same s1c,JB.same sc,sc _ _ eg,hTp.keep Zdw (λb ys e=>sc _ _ e),hTo,λH' _=>q H'⟩
def ZtL{Pr:List Value->Prop}(us:List Value)(h:us.length=1)(k:∀ a,Pr [a]):Pr us:=by
 match us,h with
 | [a],_=>exact k a
def Zob{Pr:List Value->Prop}(us:List Value)(h:us.length=2)(k:∀ a b,Pr [a,b]):Pr us:=by
 match us,h with
 | [a,b],_=>exact k a b
def Zua{Pr:List Value->Prop}(us:List Value)(h:us.length=3)(k:∀ a b c,Pr [a,b,c]):Pr us:=by
 match us,h with
 | [a,b,c],_=>exact k a b c
def ZtO{Pr:List Value->Prop}(us:List Value)(h:us.length=4)(k:∀ a b c d,Pr [a,b,c,d]):Pr us:=by
 match us,h with
 | [a,b,c,d],_=>exact k a b c d
variable {ps:List Str}
def ZrG{P:Program}{w:World}{base h:Heap}{x:Str}{sp:Sp}{f:Addr}(X:K.In h)(G:h.Ns mainGlobals mg)(a:nsIn K mainGlobals x=some (some (.ref f)))
  (kp:keepIn K (.ref f)=true) (b:Z7 K fd ps []) (o:FnOk P w K mg base ZD k f fd ps sp):Fn P w K mg base ZD k x ps sp:=⟨f,fd,o,b,kp,mg_of X G a⟩
structure DefIn(K:PySem.W.Frag)(x:Str)(st:Stmt)(f:Addr)(fd:FuncData):Prop where
 a:nsIn K mainGlobals x=some (some (.ref f))
 k:keepIn K (.ref f)=true
 u:Fun K x x st f fd
theorem Zrs{x:Str}{st:Stmt}{f:Addr}{oc:Value}{od an:Option Addr}{osl:Array (Option Value)}{kV doc pm cdv ct:Value}(a:nsIn K mainGlobals x=some (some (.ref f)))(l:K.lookup f=some ⟨oc,od,.func (fnOf x x (ZH st) (ZB st) (Zc st) .none kV doc pm an cdv ct),osl⟩)(c:codeIn K cdv x=true)(k:keepIn K (.ref f)=true):DefIn K x st f (fnOf x x (ZH st) (ZB st) (Zc st) .none kV doc pm an cdv ct):=⟨a,k,Zco l c k⟩
def ZqS{P:Program}{w:World}{base h:Heap}{x:Str}{sp:Sp}{f:Addr}{st:Stmt}(X:K.In h)(G:h.Ns mainGlobals mg)(z:DefIn K x st f fd)(b:Z7 K fd ps [])(o:FnOk P w K mg base ZD k f fd ps sp):Fn P w K mg base ZD k x ps sp:=ZrG X G z.a z.k b o
def bn1(h:∀ a:Value,bindArgs fd ⟨[a],[]⟩=pure (List.zip ps [a])):∀ us:List Value,us.length=1->bindArgs fd ⟨us,[]⟩=pure (List.zip ps us):=λus hl=>ZtL (Pr:=λus=>bindArgs fd ⟨us,[]⟩=pure (List.zip ps us)) us hl h
def bn2(h:∀ a b:Value,bindArgs fd ⟨[a,b],[]⟩=pure (List.zip ps [a,b])):∀ us:List Value,us.length=2->bindArgs fd ⟨us,[]⟩=pure (List.zip ps us):=λus hl=>Zob (Pr:=λus=>bindArgs fd ⟨us,[]⟩=pure (List.zip ps us)) us hl h
def bn3(h:∀ a b c:Value,bindArgs fd ⟨[a,b,c],[]⟩=pure (List.zip ps [a,b,c])):∀ us:List Value,us.length=3->bindArgs fd ⟨us,[]⟩=pure (List.zip ps us):=λus hl=>Zua (Pr:=λus=>bindArgs fd ⟨us,[]⟩=pure (List.zip ps us)) us hl h
def bn4(h:∀ a b c d:Value,bindArgs fd ⟨[a,b,c,d],[]⟩=pure (List.zip ps [a,b,c,d])):∀ us:List Value,us.length=4->bindArgs fd ⟨us,[]⟩=pure (List.zip ps us):=λus hl=>ZtO (Pr:=λus=>bindArgs fd ⟨us,[]⟩=pure (List.zip ps us)) us hl h
def ZrT{l:PySem.W.OpenLaw}{w:World}{h:Heap}{fa:Addr}{f0 f1 f2 f6 f7 f8 f9 f10 f11 f13 f14 f23 f24 f25 f26 f27 f28 f29 f30 f31 f32 f33 f35 f36 f37 f38 f39 f40 f41 f42 f43 f44 f45 f46 f47 f48 f49 f50 f51 f52 f53:Addr}{e0 e1 e2 e6 e7 e8 e9 e10 e11 e13 e14 e23 e24 e25 e26 e27 e28 e29 e30 e31 e32 e33 e35 e36 e37 e38 e39 e40 e41 e42 e43 e44 e45 e46 e47 e48 e49 e50 e51 e52 e53:FuncData}{f3:Addr}{od3 an3:Option Addr}{sl3:Array (Option Value)}{oc3 kV3 dc3 pm3 cd3 ct3:Value}{T3 tn3:Nat}{tc3:Value}{td3:Option Addr}{ts3:Array (Option Value)}{tk3_0:Tok}{tk_MOST_ROADS:Tok}{cTree:Addr}{f16:Addr}{od16 an16:Option Addr}{sl16:Array (Option Value)}{oc16 kV16 dc16 pm16 cd16 ct16:Value}{f17:Addr}{od17 an17:Option Addr}{sl17:Array (Option Value)}{oc17 kV17 dc17 pm17 cd17 ct17:Value}{f18:Addr}{od18 an18:Option Addr}{sl18:Array (Option Value)}{oc18 kV18 dc18 pm18 cd18 ct18:Value}{f19:Addr}{od19 an19:Option Addr}{sl19:Array (Option Value)}{oc19 kV19 dc19 pm19 cd19 ct19:Value}{f20:Addr}{od20 an20:Option Addr}{sl20:Array (Option Value)}{oc20 kV20 dc20 pm20 cd20 ct20:Value}{f21:Addr}{od21 an21:Option Addr}{sl21:Array (Option Value)}{oc21 kV21 dc21 pm21 cd21 ct21:Value}{f22:Addr}{od22 an22:Option Addr}{sl22:Array (Option Value)}{oc22 kV22 dc22 pm22 cd22 ct22:Value}{f34:Addr}{od34 an34:Option Addr}{sl34:Array (Option Value)}{oc34 kV34 dc34 pm34 cd34 ct34:Value}{cc34:Addr}{f54:Addr}{od54 an54:Option Addr}{sl54:Array (Option Value)}{oc54 kV54 dc54 pm54 cd54 ct54:Value}
  (X:K.In h) (G:h.Ns mainGlobals mg) (hfa:mg "law"=some (.ref fa))
  (z0:DefIn K "is_whole" Zdb f0 e0)
  (z1:DefIn K "greatest_divisor" ZaR f1 e1)
  (z2:DefIn K "is_ratio" Zc9 f2 e2)
  (a3:nsIn K mainGlobals "ratio"=some (some (.ref f3)))
  (l3:K.lookup f3=some ⟨oc3,od3,.func (fnOf "ratio" "ratio" (ZH Za8) (ZB Za8) (Zc Za8) (.ref T3) kV3 dc3 pm3 an3 cd3 ct3),sl3⟩)
  (c3:codeIn K cd3 "ratio"=true)
  (k3:keepIn K (.ref f3)=true)
  (t3:K.lookup T3=some ⟨tc3,td3,.seq #[.int 1 tk3_0] tn3,ts3⟩)
  (z6:DefIn K "least_multiple" Za6 f6 e6)
  (z7:DefIn K "common_bottom" Zbg f7 e7)
  (z8:DefIn K "top_over" Zdc f8 e8)
  (z9:DefIn K "total_of" Zds f9 e9)
  (z10:DefIn K "is_price" Zdj f10 e10)
  (z11:DefIn K "is_road" ZeV f11 e11)
  (a_MOST_ROADS:nsIn K mainGlobals "MOST_ROADS"=some (some (.int 40 tk_MOST_ROADS)))
  (z13:DefIn K "look_roads" Zcf f13 e13)
  (z14:DefIn K "way_from" Zc7 f14 e14)
  (a_Tree:nsIn K mainGlobals "Tree"=some (some (.ref cTree)))
  (pg_Tree:plainGet K cTree Str.empty=true)
  (hd_Tree:hasDictIn K cTree=true)
  (po_Tree:plainOver K cTree=true)
  (sa_Tree:PySem.W.findIn K (.ref cTree) "__setattr__"=some (some (.builtin "object.__setattr__")))
  (Zci:PySem.W.findIn K (.ref cTree) "lanes"=some none)
  (Za5:PySem.W.findIn K (.ref cTree) "ways"=some none)
  (a16:PySem.W.findIn K (.ref cTree) "__init__"=some (some (.ref f16)))
  (l16:K.lookup f16=some ⟨oc16,od16,.func (fnOf "__init__" "Tree.__init__" (ZH Zai) (ZB Zai) (Zc Zai) .none kV16 dc16 pm16 an16 cd16 ct16),sl16⟩)
  (c16:codeIn K cd16 "Tree.__init__"=true)
  (k16:keepIn K (.ref f16)=true)
  (i16:isFn K (.ref f16)=true)
  (mk16:makesIn K cTree=true)
  (kc16:keepIn K (.ref cTree)=true)
  (a17:PySem.W.findIn K (.ref cTree) "many"=some (some (.ref f17)))
  (l17:K.lookup f17=some ⟨oc17,od17,.func (fnOf "many" "Tree.many" (ZH Zaw) (ZB Zaw) (Zc Zaw) .none kV17 dc17 pm17 an17 cd17 ct17),sl17⟩)
  (c17:codeIn K cd17 "Tree.many"=true)
  (k17:keepIn K (.ref f17)=true)
  (i17:isFn K (.ref f17)=true)
  (a18:PySem.W.findIn K (.ref cTree) "look_crossing"=some (some (.ref f18)))
  (l18:K.lookup f18=some ⟨oc18,od18,.func (fnOf "look_crossing" "Tree.look_crossing" (ZH Zaa) (ZB Zaa) (Zc Zaa) .none kV18 dc18 pm18 an18 cd18 ct18),sl18⟩)
  (c18:codeIn K cd18 "Tree.look_crossing"=true)
  (k18:keepIn K (.ref f18)=true)
  (i18:isFn K (.ref f18)=true)
  (a19:PySem.W.findIn K (.ref cTree) "look_road"=some (some (.ref f19)))
  (l19:K.lookup f19=some ⟨oc19,od19,.func (fnOf "look_road" "Tree.look_road" (ZH Zah) (ZB Zah) (Zc Zah) .none kV19 dc19 pm19 an19 cd19 ct19),sl19⟩)
  (c19:codeIn K cd19 "Tree.look_road"=true)
  (k19:keepIn K (.ref f19)=true)
  (i19:isFn K (.ref f19)=true)
  (a20:PySem.W.findIn K (.ref cTree) "way"=some (some (.ref f20)))
  (l20:K.lookup f20=some ⟨oc20,od20,.func (fnOf "way" "Tree.way" (ZH ZaE) (ZB ZaE) (Zc ZaE) .none kV20 dc20 pm20 an20 cd20 ct20),sl20⟩)
  (c20:codeIn K cd20 "Tree.way"=true)
  (k20:keepIn K (.ref f20)=true)
  (i20:isFn K (.ref f20)=true)
  (a21:PySem.W.findIn K (.ref cTree) "beneath"=some (some (.ref f21)))
  (l21:K.lookup f21=some ⟨oc21,od21,.func (fnOf "beneath" "Tree.beneath" (ZH Zal) (ZB Zal) (Zc Zal) .none kV21 dc21 pm21 an21 cd21 ct21),sl21⟩)
  (c21:codeIn K cd21 "Tree.beneath"=true)
  (k21:keepIn K (.ref f21)=true)
  (i21:isFn K (.ref f21)=true)
  (a22:PySem.W.findIn K (.ref cTree) "price"=some (some (.ref f22)))
  (l22:K.lookup f22=some ⟨oc22,od22,.func (fnOf "price" "Tree.price" (ZH Zap) (ZB Zap) (Zc Zap) .none kV22 dc22 pm22 an22 cd22 ct22),sl22⟩)
  (c22:codeIn K cd22 "Tree.price"=true)
  (k22:keepIn K (.ref f22)=true)
  (i22:isFn K (.ref f22)=true)
  (z23:DefIn K "rest_of" ZeO f23 e23)
  (z24:DefIn K "needed" ZfN f24 e24)
  (z25:DefIn K "cost" ZlG f25 e25)
  (z26:DefIn K "_law_cell_at" Zb1 f26 e26)
  (z27:DefIn K "_law_mixed" ZcA f27 e27)
  (z28:DefIn K "_law_numbers" ZbX f28 e28)
  (z29:DefIn K "_law_low" ZeB f29 e29)
  (z30:DefIn K "_law_price_by" Zby f30 e30)
  (z31:DefIn K "_law_roads_by" Zas f31 e31)
  (z32:DefIn K "_law_names_by" Zbu f32 e32)
  (z33:DefIn K "_law_homes_by" ZbG f33 e33)
  (a34:nsIn K mainGlobals "far_roads_first"=some (some (.ref f34)))
  (l34:K.lookup f34=some ⟨oc34,od34,.func (fnOf "far_roads_first" "far_roads_first" (ZH Zan) (ZB Zan) (Zc Zan) .none kV34 dc34 pm34 an34 cd34 ct34),sl34⟩)
  (c34:codeIn K cd34 "far_roads_first"=true)
  (k34:keepIn K (.ref f34)=true)
  (hcd34:cd34=.ref cc34)
  (hC34:codeHdIn K cc34 160=true)
  (z35:DefIn K "is_less" ZeI f35 e35)
  (z36:DefIn K "cost_of_all" ZbZ f36 e36)
  (z37:DefIn K "users" Zhj f37 e37)
  (z38:DefIn K "others" Zfr f38 e38)
  (z39:DefIn K "payments" Zdr f39 e39)
  (z40:DefIn K "look_sharing" Zbw f40 e40)
  (z41:DefIn K "judged" Zf8 f41 e41)
  (z42:DefIn K "_law_way" ZeC f42 e42)
  (z43:DefIn K "_law_add" Zea f43 e43)
  (z44:DefIn K "_law_less" Zdt f44 e44)
  (z45:DefIn K "_law_total" Zcw f45 e45)
  (z46:DefIn K "_law_cost" Zdi f46 e46)
  (z47:DefIn K "_law_shared_by" Zbm f47 e47)
  (z48:DefIn K "_law_fraction" Zbx f48 e48)
  (z49:DefIn K "_law_formed" Zcd f49 e49)
  (z50:DefIn K "_law_table_holds" ZaY f50 e50)
  (z51:DefIn K "_law_group_holds" ZaU f51 e51)
  (z52:DefIn K "_law_handed_on" Zbj f52 e52)
  (z53:DefIn K "_law_is_good" ZbW f53 e53)
  (a54:nsIn K mainGlobals "law"=some (some (.ref f54)))
  (l54:K.lookup f54=some ⟨oc54,od54,.func (fnOf "law" "law" (ZH ZfM) (ZB ZfM) (Zc ZfM) .none kV54 dc54 pm54 an54 cd54 ct54),sl54⟩)
  (c54:codeIn K cd54 "law"=true)
  (k54:keepIn K (.ref f54)=true)
  (ZgE:nsIn K mainGlobals "isinstance"=some none)
  (ZsV:nsIn K mainGlobals "int"=some none)
  (ZqT:nsIn K mainGlobals "bool"=some none)
  (ZsL:nsIn K mainGlobals "abs"=some none)
  (Zqi:nsIn K mainGlobals "tuple"=some none)
  (Ztk:nsIn K mainGlobals "len"=some none)
  (ZsZ:nsIn K mainGlobals "sum"=some none)
  (ZrA:nsIn K mainGlobals "list"=some none)
  (Zpk:nsIn K mainGlobals "range"=some none)
  (Zmx:nsIn K mainGlobals "sorted"=some none)
  (ZsN:nsIn K mainGlobals "set"=some none)
  (ZhE:nsIn K mainGlobals "enumerate"=some none)
  (Ztj:nsIn K mainGlobals "min"=some none)
  (ZsM:nsIn K mainGlobals "zip"=some none)
  (Zrz:nsIn K mainGlobals "dict"=some none)
  (Ztc:nsIn K mainGlobals "max"=some none)
  (Zs2:nsIn K mainGlobals "str"=some none)
  : ∃ fd:FuncData,(∀ (s:Shared) (v:Value),BindsTo s fd ⟨[v],[]⟩ [("_law_script",v)])/\∀ base:Heap,K.In base->base.Ns mainGlobals mg->L2.ZeN mg base->FnOk l.prog w K mg base ZD 10 fa fd ["_law_script"] (Zlp 160 K):=by
 have e:=hfa.symm.trans (mg_of X G a54)
 cases e
 have Zi4:=mg_none_of X G Zs2
 have Zqk:=mg_none_of X G Ztc
 have ZeE:=mg_none_of X G Zrz
 have Zi6:=mg_none_of X G ZsM
 have ZpM:=mg_none_of X G Ztj
 have ZbR:=mg_none_of X G ZhE
 have ZiP:=mg_none_of X G ZsN
 have ZS:=mg_none_of X G Zmx
 have ZT:=mg_none_of X G Zpk
 have ZG:=mg_none_of X G ZrA
 have Zhi:=mg_none_of X G ZsZ
 have ZC:=mg_none_of X G Ztk
 have ZaO:=mg_none_of X G Zqi
 have Zhe:=mg_none_of X G ZsL
 have Zc0:=mg_none_of X G ZqT
 have ZdH:=mg_none_of X G ZsV
 have Zj:=mg_none_of X G ZgE
 have U3:=Zqe (st:=Za8) l3 c3 k3
 have b3:Z7 K (fnOf "ratio" "ratio" (ZH Za8) (ZB Za8) (Zc Za8) (.ref T3) kV3 dc3 pm3 an3 cd3 ct3) ["top","bottom"] []:=λs us Y hl=>match us,hl with | [_,_],_=>BindsTo.of_defaults (T:=T3) rfl (Y _ _ t3) rfl rfl rfl
 have b3_1:Z7 K (fnOf "ratio" "ratio" (ZH Za8) (ZB Za8) (Zc Za8) (.ref T3) kV3 dc3 pm3 an3 cd3 ct3) ["top","bottom"] [.int 1 tk3_0]:=λs us Y hl=>by
  have hl2:us.length=1:=by simpa using hl
  exact match us,hl2 with | [_],_=>BindsTo.of_defaults (T:=T3) rfl (Y _ _ t3) rfl rfl rfl
 have g_MOST_ROADS:=mg_of X G a_MOST_ROADS
 have ZrX:=mg_of X G a_Tree
 have ZL:Cls K cTree:=⟨pg_Tree,hd_Tree,po_Tree,sa_Tree⟩
 have U16:=Zco (st:=Zai) l16 c16 k16
 have b16:Z7 K (fnOf "__init__" "Tree.__init__" (ZH Zai) (ZB Zai) (Zc Zai) .none kV16 dc16 pm16 an16 cd16 ct16) ["self","roads"] []:=Z7.all λus hl=>Zob (Pr:=λus=>bindArgs _ ⟨us,[]⟩=pure (List.zip _ us)) us hl λ_ _=>rfl
 have U17:=Zco (st:=Zaw) l17 c17 k17
 have b17:Z7 K (fnOf "many" "Tree.many" (ZH Zaw) (ZB Zaw) (Zc Zaw) .none kV17 dc17 pm17 an17 cd17 ct17) ["self"] []:=Z7.all λus hl=>ZtL (Pr:=λus=>bindArgs _ ⟨us,[]⟩=pure (List.zip _ us)) us hl λ_=>rfl
 have U18:=Zco (st:=Zaa) l18 c18 k18
 have b18:Z7 K (fnOf "look_crossing" "Tree.look_crossing" (ZH Zaa) (ZB Zaa) (Zc Zaa) .none kV18 dc18 pm18 an18 cd18 ct18) ["self","k"] []:=Z7.all λus hl=>Zob (Pr:=λus=>bindArgs _ ⟨us,[]⟩=pure (List.zip _ us)) us hl λ_ _=>rfl
 have U19:=Zco (st:=Zah) l19 c19 k19
 have b19:Z7 K (fnOf "look_road" "Tree.look_road" (ZH Zah) (ZB Zah) (Zc Zah) .none kV19 dc19 pm19 an19 cd19 ct19) ["self","k"] []:=Z7.all λus hl=>Zob (Pr:=λus=>bindArgs _ ⟨us,[]⟩=pure (List.zip _ us)) us hl λ_ _=>rfl
 have U20:=Zco (st:=ZaE) l20 c20 k20
 have b20:Z7 K (fnOf "way" "Tree.way" (ZH ZaE) (ZB ZaE) (Zc ZaE) .none kV20 dc20 pm20 an20 cd20 ct20) ["self","k"] []:=Z7.all λus hl=>Zob (Pr:=λus=>bindArgs _ ⟨us,[]⟩=pure (List.zip _ us)) us hl λ_ _=>rfl
 have U21:=Zco (st:=Zal) l21 c21 k21
 have b21:Z7 K (fnOf "beneath" "Tree.beneath" (ZH Zal) (ZB Zal) (Zc Zal) .none kV21 dc21 pm21 an21 cd21 ct21) ["self","k"] []:=Z7.all λus hl=>Zob (Pr:=λus=>bindArgs _ ⟨us,[]⟩=pure (List.zip _ us)) us hl λ_ _=>rfl
 have U22:=Zco (st:=Zap) l22 c22 k22
 have b22:Z7 K (fnOf "price" "Tree.price" (ZH Zap) (ZB Zap) (Zc Zap) .none kV22 dc22 pm22 an22 cd22 ct22) ["self","k"] []:=Z7.all λus hl=>Zob (Pr:=λus=>bindArgs _ ⟨us,[]⟩=pure (List.zip _ us)) us hl λ_ _=>rfl
 have U34:=Zco (st:=Zan) l34 c34 k34
 have b34:=U34.binds (ps:=["tree","homes"]) λ_ _ _ _ _ _ us hl=>Zob (Pr:=λus=>bindArgs _ ⟨us,[]⟩=pure (List.zip _ us)) us hl λ_ _=>rfl
 have U54:=Zco (st:=ZfM) l54 c54 k54
 refine⟨fnOf "law" "law" (ZH ZfM) (ZB ZfM) (Zc ZfM) .none kV54 dc54 pm54 an54 cd54 ct54,λs v=>.of_eq rfl,λbase _ _ hB=>?_⟩
 have dF:∀ {k:Nat}{x:Str}{ps:List Str}{sp:Sp}{f:Addr}{fd:FuncData}{st:Stmt},DefIn K x st f fd->Z7 K fd ps []->FnOk l.prog w K mg base ZD k f fd ps sp->Fn l.prog w K mg base ZD k x ps sp:=λz b o=>ZqS X G z b o
 have Zam:=dF z0 (z0.u.binds (ps:=["thing"]) λ_ _ _ _ _ _=>bn1 λ_=>rfl) (Zg2 z0.u Zj ZdH Zc0)
 have Zad:=dF z1 (z1.u.binds (ps:=["one","other"]) λ_ _ _ _ _ _=>bn2 λ_ _=>rfl) (ZqX z1.u Zhe)
 have Zdl:=dF z2 (z2.u.binds (ps:=["thing"]) λ_ _ _ _ _ _=>bn1 λ_=>rfl) (ZhI z2.u Zj ZaO ZC Zam Zad)
 have Zj6:=My.ZnP (P:=l.prog) (w:=w) (base:=base) U3 Zam Zad
 have Zeh:Fn l.prog w K mg base ZD _ "ratio" ["top","bottom"] _:=⟨f3,_,Zj6,b3,k3,mg_of X G a3⟩
 have Zii:=Zeh
 have Zeu:FnD l.prog w K mg base ZD _ "ratio" ["top","bottom"] [.int 1] _:=⟨_,_,_,Zj6,b3_1,.cons ⟨_,rfl⟩ .nil,k3,mg_of X G a3⟩
 have Za7:=dF z6 (z6.u.binds (ps:=["one","other"]) λ_ _ _ _ _ _=>bn2 λ_ _=>rfl) (Zsn z6.u Zad)
 have Zbn:=dF z7 (z7.u.binds (ps:=["some"]) λ_ _ _ _ _ _=>bn1 λ_=>rfl) (Zla z7.u Za7)
 have Zdq:=dF z8 (z8.u.binds (ps:=["one","bottom"]) λ_ _ _ _ _ _=>bn2 λ_ _=>rfl) (Zsf z8.u )
 have ZaF:=dF z9 (z9.u.binds (ps:=["some"]) λ_ _ _ _ _ _=>bn1 λ_=>rfl) (ZnN z9.u Zhi Zbn Zdq Zii)
 have Zdn:=dF z10 (z10.u.binds (ps:=["thing"]) λ_ _ _ _ _ _=>bn1 λ_=>rfl) (Zg3 z10.u Zdl)
 have Zep:=dF z11 (z11.u.binds (ps:=["thing","many"]) λ_ _ _ _ _ _=>bn2 λ_ _=>rfl) (Zjs z11.u Zj ZaO ZC Zam Zdn)
 have Zb5:=dF z13 (z13.u.binds (ps:=["thing"]) λ_ _ _ _ _ _=>bn1 λ_=>rfl) (Zpx z13.u Zj ZG ZC g_MOST_ROADS Zep)
 have Zdo:=dF z14 (z14.u.binds (ps:=["roads","k"]) λ_ _ _ _ _ _=>bn2 λ_ _=>rfl) (Zpf z14.u ZC)
 have ZeK:=My.Zpj (P:=l.prog) (w:=w) (base:=base) U16 ZG ZC ZT ZL Zci Za5 Zb5 Zdo
 have Zkg:Mkr l.prog w K mg base ZD _ cTree "Tree" ["self","roads"] _:=⟨f16,_,ZeK,b16,⟨mk16,a16,i16,kc16⟩,ZrX⟩
 have Zhp:=My.ZpC (P:=l.prog) (w:=w) (base:=base) U17 ZC ZL Za5
 have Zfj:Mth l.prog w K mg base ZD _ cTree "many" ["self"] _:=⟨f17,_,Zhp,b17,⟨a17,i17,k17⟩,ZL⟩
 have Zcn:=My.Zna (P:=l.prog) (w:=w) (base:=base) U18 (CNP:=0) Zam Zfj
 have Zat:Mth l.prog w K mg base ZD _ cTree "look_crossing" ["self","k"] _:=⟨f18,_,Zcn,b18,⟨a18,i18,k18⟩,ZL⟩
 have ZdG:=My.ZnX (P:=l.prog) (w:=w) (base:=base) U19 Zat
 have ZaV:Mth l.prog w K mg base ZD _ cTree "look_road" ["self","k"] _:=⟨f19,_,ZdG,b19,⟨a19,i19,k19⟩,ZL⟩
 have Zi1:=My.Zpt (P:=l.prog) (w:=w) (base:=base) U20 ZG ZL Za5 Zat
 have Zi2:Mth l.prog w K mg base ZD _ cTree "way" ["self","k"] _:=⟨f20,_,Zi1,b20,⟨a20,i20,k20⟩,ZL⟩
 have Ze2:=My.ZoN (P:=l.prog) (w:=w) (base:=base) U21 ZT ZL Za5 Zfj ZaV
 have Zex:Mth l.prog w K mg base ZD _ cTree "beneath" ["self","k"] _:=⟨f21,_,Ze2,b21,⟨a21,i21,k21⟩,ZL⟩
 have ZgD:=My.ZkA (P:=l.prog) (w:=w) (base:=base) U22 ZL Zci ZaV
 have Zcz:Mth l.prog w K mg base ZD _ cTree "price" ["self","k"] _:=⟨f22,_,ZgD,b22,⟨a22,i22,k22⟩,ZL⟩
 have ZbL:=dF z23 (z23.u.binds (ps:=["one","other"]) λ_ _ _ _ _ _=>bn2 λ_ _=>rfl) (Zne z23.u Zii)
 have Zcm:=dF z24 (z24.u.binds (ps:=["tree","homes","group"]) λ_ _ _ _ _ _=>bn3 λ_ _ _=>rfl) (Zki z24.u ZS ZiP Zi2)
 have Zlt:=dF z25 (z25.u.binds (ps:=["tree","homes","group"]) λ_ _ _ _ _ _=>bn3 λ_ _ _=>rfl) (Zo6 z25.u ZaF Zcm Zcz)
 have ZE:=dF z26 (z26.u.binds (ps:=["_law_script","_law_k"]) λ_ _ _ _ _ _=>bn2 λ_ _=>rfl) (ZpO z26.u ZC)
 have Zcy:=dF z27 (z27.u.binds (ps:=["_law_cell","_law_k"]) λ_ _ _ _ _ _=>bn2 λ_ _=>rfl) (Zma z27.u )
 have Zaf:=dF z28 (z28.u.binds (ps:=["_law_cell","_law_many","_law_most"]) λ_ _ _ _ _ _=>bn3 λ_ _ _=>rfl) (Zjw z28.u ZT Zcy)
 have ZI:=dF z29 (z29.u.binds (ps:=["_law_top","_law_bottom"]) λ_ _ _ _ _ _=>bn2 λ_ _=>rfl) (Zqb z29.u Zhe)
 have ZbD:=dF z30 (z30.u.binds (ps:=["_law_number","_law_wide"]) λ_ _ _ _ _ _=>bn2 λ_ _=>rfl) (Zn2 z30.u ZI)
 have Zbz:=dF z31 (z31.u.binds (ps:=["_law_script","_law_most"]) λ_ _ _ _ _ _=>bn2 λ_ _=>rfl) (Zm8 z31.u ZG ZT ZbR ZdH ZpM ZE Zaf ZbD)
 have ZbC:=dF z32 (z32.u.binds (ps:=["_law_cell","_law_many"]) λ_ _ _ _ _ _=>bn2 λ_ _=>rfl) (ZmI z32.u ZT ZC ZG)
 have ZbA:=dF z33 (z33.u.binds (ps:=["_law_script","_law_many","_law_most"]) λ_ _ _ _ _ _=>bn3 λ_ _ _=>rfl) (ZlZ z33.u Zi6 ZC ZE ZbC Zaf)
 have ZaT:=ZrG X G a34 k34 b34 (My.ZqF (P:=l.prog) (w:=w) (base:=base) U34 hcd34 hC34 hB ZC ZS ZG Zcm Zi2)
 have Zbk:=dF z35 (z35.u.binds (ps:=["one","other"]) λ_ _ _ _ _ _=>bn2 λ_ _=>rfl) (Zlw z35.u )
 have ZbO:=dF z36 (z36.u.binds (ps:=["tree","homes"]) λ_ _ _ _ _ _=>bn2 λ_ _=>rfl) (Zi3 z36.u ZG Zlt)
 have Zhw:=dF z37 (z37.u.binds (ps:=["tree","homes","k"]) λ_ _ _ _ _ _=>bn3 λ_ _ _=>rfl) (Zmz z37.u ZS Zex)
 have ZdN:=dF z38 (z38.u.binds (ps:=["homes","names"]) λ_ _ _ _ _ _=>bn2 λ_ _=>rfl) (ZjW z38.u ZS)
 have Zc8:=dF z39 (z39.u.binds (ps:=["price","payers","left"]) λ_ _ _ _ _ _=>bn3 λ_ _ _=>rfl) (Zpi z39.u Zbk Zeu ZbL)
 have ZbB:=dF z40 (z40.u.binds (ps:=["tree","homes","sharing"]) λ_ _ _ _ _ _=>bn3 λ_ _ _=>rfl) (ZmH z40.u ZiP ZG ZaF ZbO)
 have Zgc:=dF z41 (z41.u.binds (ps:=["tree","homes","sharing"]) λ_ _ _ _ _ _=>bn3 λ_ _ _=>rfl) (ZkP z41.u ZS ZeE ZbB ZdN ZaT Zhw Zbk ZaF Zcz Zc8 ZbL)
 have ZaI:=dF z42 (z42.u.binds (ps:=["_law_roads","_law_k"]) λ_ _ _ _ _ _=>bn2 λ_ _=>rfl) (ZqW z42.u )
 have Zau:=dF z43 (z43.u.binds (ps:=["_law_one","_law_other"]) λ_ _ _ _ _ _=>bn2 λ_ _=>rfl) (Zqg z43.u ZI)
 have ZaC:=dF z44 (z44.u.binds (ps:=["_law_one","_law_other"]) λ_ _ _ _ _ _=>bn2 λ_ _=>rfl) (Zmp z44.u ZI)
 have Zax:=dF z45 (z45.u.binds (ps:=["_law_some"]) λ_ _ _ _ _ _=>bn1 λ_=>rfl) (Zku z45.u Zau)
 have ZaD:=dF z46 (z46.u.binds (ps:=["_law_roads","_law_homes","_law_group"]) λ_ _ _ _ _ _=>bn3 λ_ _ _=>rfl) (ZnG z46.u ZaI Zax)
 have Zbi:=dF z47 (z47.u.binds (ps:=["_law_roads","_law_homes","_law_cell"]) λ_ _ _ _ _ _=>bn3 λ_ _ _=>rfl) (ZjT z47.u ZC ZT Zqk Zhi Zi6 Zaf ZaI Zau ZI)
 have ZbH:=dF z48 (z48.u.binds (ps:=["_law_told"]) λ_ _ _ _ _ _=>bn1 λ_=>rfl) (Zhy z48.u Zj ZaO ZC ZdH Zc0 ZI)
 have Zcg:=dF z49 (z49.u.binds (ps:=["_law_table","_law_homes","_law_many"]) λ_ _ _ _ _ _=>bn3 λ_ _ _=>rfl) (ZjI z49.u Zj ZG ZaO ZC ZdH Zc0 Zi4 ZbH)
 have Za0:=dF z50 (z50.u.binds (ps:=["_law_roads","_law_homes","_law_sharing","_law_table"]) λ_ _ _ _ _ _=>bn4 λ_ _ _ _=>rfl) (Zsj z50.u (CT:=cTree) ZC Zcg ZaI Zau)
 have ZaW:=dF z51 (z51.u.binds (ps:=["_law_roads","_law_homes","_law_sharing","_law_group"]) λ_ _ _ _ _ _=>bn4 λ_ _ _ _=>rfl) (Zs3 z51.u (CT:=cTree) Zj ZG ZC Zi4 ZS ZaC Zax ZaD)
 have Zbh:=dF z52 (z52.u.binds (ps:=["_law_sharing","_law_whole","_law_cell"]) λ_ _ _ _ _ _=>bn3 λ_ _ _=>rfl) (Zkr z52.u ZG ZC ZI ZaC Zau)
 have ZbT:=dF z53 (z53.u.binds (ps:=["_law_roads","_law_homes","_law_sharing"]) λ_ _ _ _ _ _=>bn3 λ_ _ _=>rfl) (ZkE z53.u (CT:=cTree) ZaC Zax ZaD)
 exact My.Zrp (P:=l.prog) (w:=w) (base:=base) U54 ZC ZG ZeE ZT Zj ZaO ZE Zaf Zbz ZbA Zbi ZaD Zbh Zgc ZbT Za0 ZaW Zkg
end My
namespace PySem.W.Fast
def tw7046145933488258722:=()
def tw5963943510690113195:=()
def tw14449429467528120195:=()
def tw1582075540196567305:=()
def tw10858393591623400998:=()
def tw9861802235507386722:=()
def tw6514105155370905500:=()
def tw13150512138026505786:=()
def tw8015879108140109926:=()
def tw677135212384281600:=()
def tw18418501740957827789:=()
def tw508913369794762757:=()
def tw16083992172468389603:=()
def tw2393873597074741799:=()
def tw4887541793401334496:=()
def tw1248518635195536640:=()
def tw15177887176583556277:=()
def tw5536665240864536974:=()
def tw779477103724520788:=()
def tw13986521856645530857:=()
def tw2313320380191090761:=()
def tw3125486771317583097:=()
def tw5011720082284793911:=()
def tw12658195076486155714:=()
def tw3522956158905865986:=()
def tw7648074241531809716:=()
def tw16437573222035470229:=()
def tw18023740587396566528:=()
def tw10933626813051978673:=()
def tw10512063021358130826:=()
def tw3318962698523106608:=()
def tw16184035909178997342:=()
def tw2787762731219900652:=()
def tw14294665723466795814:=()
def tw13774740800135236048:=()
def tw18115866647683287099:=()
def tw3722272598401782461:=()
def tw17321578894262684703:=()
def tw14572585896162587355:=()
def tw17582906344875213169:=()
def tw3589029811328329232:=()
def tw9988918977121475403:=()
def tw6676185939447081630:=()
def tw3350714996456708811:=()
def tw10693638209085612520:=()
def tw3725248785633516096:=()
def tw4182260721296352118:=()
def tw13110703198542276116:=()
def tw15371522862165338902:=()
def tw15216305593503962621:=()
def tw854256777463011254:=()
def tw5596350920119486291:=()
def tw16566586341881728593:=()
def tw6010820996748280168:=()
def tw15556081615842905970:=()
def tw7952495590178042114:=()
def tw2936503066564271172:=()
def tw10783821549694520909:=()
def tw1408128032597243014:=()
def tw6102033443661482214:=()
def tw971610834068595393:=()
def tw14052500114206187357:=()
def tw10265945829063519968:=()
def tw7307051808067398471:=()
def tw5232692359601107930:=()
def tw13754533228533420297:=()
def tw12504184698093313331:=()
def tw9442131332259119302:=()
def tw10430329179350404033:=()
def tw11037472241743043710:=()
def tw4406662399017691783:=()
def tw11547505170146099252:=()
def tw9405516772340290818:=()
def tw16593382066457802000:=()
def tw16516019629864116132:=()
def tw9526031804202421189:=()
def tw10532619954055177451:=()
def tw3410434793239793702:=()
def tw16064626099586573879:=()
def tw16099838411700161851:=()
def tw15110326090280411110:=()
def tw5031233309678941631:=()
def tw6193240001836698135:=()
def tw3288786691316768069:=()
def tw8862171116490669194:=()
def tw1455689414161955731:=()
def tw683650934788625430:=()
def tw4609098611494639490:=()
def tw9741254938752423060:=()
def tw12835826733081770119:=()
def tw8779705124753011482:=()
def tw11589665292395254959:=()
def tw17951387123088992081:=()
def tw11993722014875643063:=()
def tw6012293960895729542:=()
def tw9592873087957183556:=()
def tw18065062113945197315:=()
def tw11477017797955061421:=()
def tw15666738811964700418:=()
def tw6306607715631160777:=()
def tw2106509850144496755:=()
def tw13701432799215382618:=()
def tw17107488700111614633:=()
def tw10088286733481648512:=()
def tw18192899446442888459:=()
def tw17210290490535843454:=()
def tw3546972011179499624:=()
def tw13446184106059802725:=()
def tw4885505131355037648:=()
def tw8156075026347500830:=()
def tw2520178639459640941:=()
def tw698837134856710775:=()
def tw11003902882260976994:=()
def tw15883606900390523924:=()
def tw10341119770924509532:=()
end PySem.W.Fast
open PySem PySem.W PyProof.Rows
local macro_rules | `(tactic| walk_at "zi") => `(tactic| (refine' My.Zrs ?a ?l ?c ?k; (case a => k_is); (case l => k_is); (case c => k_is); (case k => k_is)))
set_option maxRecDepth 100000 in
set_option maxHeartbeats 0 in
theorem PySem.Challenge.cw_roadshare_k34_whole_just_one_of_both_holds : PySem.Challenge.rw_roadshare_k34_whole_just_one_of_both.Holds := by
 w_on; o_law; k_head; (case hw=>w_witness2)
 k_fill
 refine L2.Zkq (l:=PySem.Challenge.rw_roadshare_k34_whole_just_one_of_both) (n:=63) (k:=10) (x:="_law_script") (CX:=L2.ZD) (sp:=My.Zlp 160) (λb=>if b=160 then some (Str.ofString "far_roads_first.<locals>.<lambda>") else none) rfl (by decide) rfl ⟨rfl,by decide,by decide⟩ (λw h Y=>km_in_of Y) ?T ?KT ?F ?S ?C
 case T =>
  intro w h Y b q hb
  have e:b=160:=by
   by_cases z:b=160
   ·exact z
   ·rw [if_neg z] at hb; cases hb
  subst e
  exact⟨⟨164,codeHd_of_K (km_in_of Y) (by kernel_rfl)⟩,PySem.W.km_tabs_of Y 160 (by simp)⟩
 case KT =>
  intro w b q hb
  have e:b=160:=by
   by_cases z:b=160
   ·exact z
   ·rw [if_neg z] at hb; cases hb
  subst e
  first | k_is | kernel_rfl
 case S=>exact λK H a ns hl hO hS=>⟨a,ns,rfl,hS,hO 160 _ (if_pos rfl),λ_=>rfl⟩
 case C=>exact λ_ _ _ _ z=>z
 case F =>
  intro w mg fa h KX G hmg
  refine' My.ZrT KX G hmg _ _ _ _ _ _ _ _ _ _ _ _ _ _ _ _ _ _ _ _ _ _ _ _ _ _ _ _ _ _ _ _ _ _ _ _ _ _ _ _ _ _ _ _ _ _ _ _ _ _ _ _ _ _ _ _ _ _ _ _ _ _ _ _ _ _ _ _ _ _ _ _ _ _ _ _ ?hcd34 _ _ _ _ _ _ _ _ _ _ _ _ _ _ _ _ _ _ _ _ _ _ _ _ _ _ _ _ _ _ _ _ _ _ _ _ _ _ _ _ _
  (case hcd34=>exact rfl)
  all_goals first | walk_at "zi" | k_is | kernel_rfl | skip
#print axioms PySem.Challenge.cw_roadshare_k34_whole_just_one_of_both_holds

import PyProof.Rows.All
import Wide.All
import OpenK.AllK
import Wide.FinOn
import Lean
import PyProof.EqAt
import PyProof.EqKinds
import PyProof.TupleCall
import PySem.Challenge.RW_roundcall_k67_whole_nests_reach_all
/-! THE HAND LAYER, for ints, bools, texts, own classes, LISTS and tuples (index, slices, in, append, pop ..), calls, loops. Paste it whole ahead of your own text; what your proof does not reach may be deleted. -/
set_option Elab.async false
set_option linter.all false
set_option maxRecDepth 100000
set_option maxHeartbeats 4000000
set_option bootstrap.genMatcherCode false
namespace L2
local macro_rules | `(tactic| omega) => `(tactic| lia)
open PySem PySem.Spec PyProof.Rows
abbrev L1:=Sum Int Str
def Ob:L1 -> Value -> Bool
 | .inl k,v=>Value.isInt k v
 | .inr x,v=>Value.isStrOf x v
def Sa (w:World):L1 -> Int
 | .inl k=>hashInt k
 | .inr x=>hashStr w x
theorem Be:∀ {k:L1} {v:Value},Ob k v = true -> (∃ i t,k = Sum.inl i /\ v = Value.int i t) \/ (∃ x t,k = Sum.inr x /\ v = Value.str x t)
 | .inl i,v,h=>by
  obtain ⟨t,e⟩ := Value.isInt_shape (k:=i) (v:=v) h
  exact .inl ⟨i,t,rfl,e⟩
 | .inr x,v,h=>by
  obtain ⟨t,e⟩ := Value.isStrOf_shape (x:=x) (v:=v) h
  exact .inr ⟨x,t,rfl,e⟩
theorem Oz (a b:Int):decide ((Sum.inl a:L1) = Sum.inl b) = (a == b):=by
 by_cases e:a = b
 ·subst e; simp
 ·have h:¬ (Sum.inl a:L1) = Sum.inl b:=fun q=>e (Sum.inl.inj q)
  rw [decide_eq_false h]
  exact (beq_eq_false_iff_ne.mpr e).symm
theorem P2 (a b:Str):decide ((Sum.inr a:L1) = Sum.inr b) = decide (a = b):=by
 by_cases e:a = b
 ·subst e; simp
 ·have h:¬ (Sum.inr a:L1) = Sum.inr b:=fun q=>e (Sum.inr.inj q)
  rw [decide_eq_false h,decide_eq_false e]
theorem P0 (a:Int) (b:Str):decide ((Sum.inl a:L1) = Sum.inr b) = false:=decide_eq_false (fun q=>nomatch q)
theorem P1 (a:Str) (b:Int):decide ((Sum.inr a:L1) = Sum.inl b) = false:=decide_eq_false (fun q=>nomatch q)
def Nt (prog:Program) (w:World):PySem.KeyKind prog w L1 where
 is:=Ob
 hash:=Sa w
 inj:=fun v a b ha hb=>by
  rcases Be ha with ⟨i,t,rfl,rfl⟩ | ⟨x,t,rfl,rfl⟩
  ·rcases Be hb with ⟨j,u,rfl,e⟩ | ⟨y,u,rfl,e⟩
   ·injection e with e1 _; rw [e1]
   ·exact nomatch e
  ·rcases Be hb with ⟨j,u,rfl,e⟩ | ⟨y,u,rfl,e⟩
   ·exact nomatch e
   ·injection e with e1 _; rw [e1]
 byValue:=fun k v h=>by
  rcases Be h with ⟨i,t,rfl,rfl⟩ | ⟨x,t,rfl,rfl⟩ <;> rfl
 pyHash:=fun hv h=>by
  rcases Be hv with ⟨i,t,rfl,rfl⟩ | ⟨x,t,rfl,rfl⟩
  ·exact wpAny_pyHash_int h
  ·exact wpAny_pyHash_str h
 eqBool:=fun hu hv h=>by
  rcases Be hu with ⟨i,t,rfl,rfl⟩ | ⟨x,t,rfl,rfl⟩
  ·rcases Be hv with ⟨j,u,rfl,rfl⟩ | ⟨y,u,rfl,rfl⟩
   ·rw [Oz] at h; exact wpAny_eqBool_int h
   ·rw [P0] at h; exact SeqAt.EqAt.int_str i t y u _ _ _ _ h
  ·rcases Be hv with ⟨j,u,rfl,rfl⟩ | ⟨y,u,rfl,rfl⟩
   ·rw [P1] at h; exact SeqAt.EqAt.str_int x t j u _ _ _ _ h
   ·rw [P2] at h; exact wpAny_eqBool_str h
 «strs» := fun k x t v h=>by
  rcases Be h with ⟨i,u,rfl,e⟩ | ⟨y,u,rfl,e⟩
  ·exact nomatch e
  ·injection e with e1 _
   subst e1
   cases v <;> rfl
inductive V where
 | aA | bl (b:Bool) | int (i:Int) | str (x:Str) | eE (b:Array UInt8) | jQ (b:UInt64) | ref (a:Addr) | ty (n:String)
 deriving DecidableEq
def B1:V -> Value -> Prop
 | .aA,u=>u = Value.none
 | .bl b,u=>u = Value.bool b
 | .int i,u=>∃ t,u = Value.int i t
 | .str x,u=>∃ t,u = Value.str x t
 | .eE b,u=>∃ t,u = Value.bytes b t
 | .jQ b,u=>∃ t,u = Value.float b t
 | .ref a,u=>u = Value.ref a
 | .ty n,u=>u = Value.type n
abbrev Ao:List V -> List Value -> Prop:=Paired B1
theorem Ao.length {xs:List V} {us:List Value} (r:Ao xs us):xs.length = us.length:=Paired.length r
theorem Ao.get:∀ {xs:List V} {us:List Value} {i:Nat} {x:V},Ao xs us -> xs[i]? = some x -> ∃ u,us[i]? = some u /\ B1 x u
 | _,_,_,_,.nil,e=>by simp at e
 | _,_,0,_,.cons r _,e=>by simp at e; subst e; exact ⟨_,rfl,r⟩
 | _,_,i + 1,x,.cons _ t,e=>by
  obtain ⟨u,h1,h2⟩ := Ao.get (i:=i) (x:=x) t (by simpa using e)
  exact ⟨u,by simpa using h1,h2⟩
theorem Ao.set {x:V} {u:Value} (r:B1 x u):∀ {xs:List V} {us:List Value} (i:Nat),Ao xs us -> Ao (xs.set i x) (us.set i u)
 | _,_,_,.nil=>.nil
 | _,_,0,.cons _ t=>.cons r t
 | _,_,i + 1,.cons q t=>.cons q (Ao.set r i t)
theorem Ao.append {xs ys:List V} {us ws:List Value} (h:Ao xs us) (s:Ao ys ws):Ao (xs ++ ys) (us ++ ws):=by
 induction h with
 | nil=>exact s
 | cons r t ih=>exact .cons r ih
theorem Ao.take:∀ {xs:List V} {us:List Value} (n:Nat),Ao xs us -> Ao (xs.take n) (us.take n)
 | _,_,0,_=>.nil
 | _,_,_ + 1,.nil=>.nil
 | _,_,n + 1,.cons r t=>.cons r (Ao.take n t)
theorem Ao.drop:∀ {xs:List V} {us:List Value} (n:Nat),Ao xs us -> Ao (xs.drop n) (us.drop n)
 | _,_,0,r=>r
 | _,_,_ + 1,.nil=>.nil
 | _,_,n + 1,.cons _ t=>Ao.drop n t
theorem Ao.none_of:∀ {xs:List V} {us:List Value} {i:Nat},Ao xs us -> xs[i]? = none -> us[i]? = none:=fun {xs us i} r e=>by
 have h1:=r.length
 have h2:xs.length <= i:=List.getElem?_eq_none_iff.mp e
 exact List.getElem?_eq_none_iff.mpr (by omega)
def Ha:Option V -> Option Value -> Prop
 | some v,some u=>B1 v u
 | none,none=>True
 | _,_=>False
def KV {κ:Type}:List (κ × V) -> List (κ × Value) -> Prop:=Paired fun (p:κ × V) (q:κ × Value)=>p.1 = q.1 /\ B1 p.2 q.2
def kV:L1 -> V
 | .inl i=>.int i
 | .inr x=>.str x
section
variable {prog:Program} {w:World}
def Bq (prog:Program) (w:World) (h:Heap) (k:List Int × Int) (a:Addr):Prop :=
 ∃ o n u t,h.get? a = some o /\ o.cls = .type "tuple" /\ o.data = .seq #[.ref u,.int k.2 t] n /\ IsTupleKey (intKind prog w) h k.1 u
theorem Bq.typeIs {s:Shared} {k:List Int × Int} {a:Addr} (x:Bq prog w s.heap k a):s.TypeIs (.ref a) "tuple" := let ⟨o,_,_,_,ho,hc,_⟩ := x; ⟨o,ho,hc⟩
theorem Bq.inj {h:Heap} {a:Addr} {x y:List Int × Int} (hx:Bq prog w h x a) (hy:Bq prog w h y a):x = y:=by
 obtain ⟨o,n,u,t,ho,_,hd,hi⟩ := hx
 obtain ⟨o',n',u',t',fc,_,fe,hi'⟩ := hy
 obtain rfl:o = o':=Option.some.inj (ho.symm.trans fc)
 rw [hd] at fe
 injection fe with h1 _
 simp only [Array.mk.injEq,List.cons.injEq,Value.ref.injEq,Value.int.injEq,and_true] at h1
 obtain ⟨rfl,h2,_⟩ := h1
 exact Prod.ext (hi.inj hi') h2
theorem Bq.keeps {h h':Heap} {k:List Int × Int} {a d:Addr} {o:Obj} {es ep} (x:Bq prog w h k a) (ho:h.get? d = some o) (hd:o.data = .dict es ep) (hs:Heap.SameBut d h h'):Bq prog w h' k a:=by
 obtain ⟨o',n,u,t,fc,hc,fe,hi⟩ := x
 have eF:a ≠ d:=by
  rintro rfl
  obtain rfl:o' = o:=Option.some.inj (fc.symm.trans ho)
  rw [hd] at fe
  exact nomatch fe
 exact ⟨o',n,u,t,(hs.2 a eF).trans fc,hc,fe,hi.keeps ho hd hs⟩
def Fu (prog:Program) (w:World) (k:List Int × Int):Int:=reduceHash (Builtin.Tuple.tupleHashOf [tupleKeyHash (intKind prog w) k.1,(intKind prog w).hash k.2])
theorem Kg {A : Around} {E : Value -> Shared -> Prop} {s : Shared} {k : List Int × Int} {a : Addr} {Q : Int -> Shared -> Prop} (hu : A.units + 8 < cLine) (hk : Bq prog w s.heap k a) (h : Q (Fu prog w k) { s with toks := s.toks + (k.1.length + 3) }) :
  wpAny (model prog w) A (pyHash (.ref a)) Q E s:=by
 have hT:=hk.typeIs
 obtain ⟨o,n,u,t,ho,_,hd,hi⟩ := hk
 unfold pyHash
 first | unfold pyHashByItsType | skip
 first | refine wpAny_bind (wpAny_cRoomFor_or (.inr (by omega)) ?_) | skip
 refine wpAny_bind (wpAny_specialOf hT F.slot_tuple_hash.lookup ?_)
 show wpAny _ _ (if (some (Value.builtin "tuple.__hash__") == some Value.none) = true then _ else _) Q E s
 rw [if_neg (by rw [beq_builtin_none]; exact Bool.false_ne_true)]
 refine wpAny_bind (wpAny_specialOf hT F.slot_tuple_hash.lookup ?_)
 show wpAny _ _ (callSpecialIfBoundUnlessNone? (.ref a) "__hash__" _ >>= _) Q E s
 refine wpAny_bind (wpAny_callSpecialIfBoundUnlessNone?_slot hT F.slot_tuple_hash (wpAny_call_entry F.slot_tuple_hash hT F.entry_tuple_hash ?_ (F.args_tuple_hash_1 _)))
 show wpAny _ _ (Builtin.Tuple.tupleItemsOf (.ref a) >>= _) _ _ s
 refine wpAny_bind (wpAny_tupleItemsOf ho hd ?_)
 refine wpAny_bind ?_
 rw [<- Array.forIn_toList]
 show wpAny _ _ (forIn [Value.ref u,Value.int k.2 t] _ _) _ _ _
 rw [List.forIn_cons]
 have jZ:A.in1.units < cLine:=by
  first | (show A.units + 1 < cLine; omega) | (show A.units < cLine; omega) | (simp only [Around.in1]; omega)
 refine wpAny_bind (wpAny_bind (wpAny_pyHash_tuple (knd:=intKind prog w) jZ hi ?_))
 refine wpAny_pure ?_
 show wpAny _ _ (forIn [Value.int k.2 t] _ _) _ _ _
 rw [List.forIn_cons]
 refine wpAny_bind (wpAny_bind ((intKind prog w).pyHash (k:=k.2) (by simp [intKind,Value.isInt]) ?_))
 refine wpAny_pure ?_
 show wpAny _ _ (forIn [] _ _) _ _ _
 rw [List.forIn_nil]
 refine wpAny_pure ?_
 show wpAny _ _ (retInt (Builtin.Tuple.tupleHashOf [tupleKeyHash (intKind prog w) k.1,(intKind prog w).hash k.2])) _ _ _
 refine wpAny_ret_mkInt ?_
 generalize e:Builtin.Tuple.tupleHashOf [tupleKeyHash (intKind prog w) k.1,(intKind prog w).hash k.2] = z
 show wpAny _ _ (if (decide (-(2:Int) ^ 63 <= z) && decide (z < 2 ^ 63)) = true then _ else _) Q E _
 unfold Fu reduceHash at h
 rw [e] at h
 by_cases hr:(decide (-(2:Int) ^ 63 <= z) && decide (z < 2 ^ 63)) = true
 ·rw [if_pos hr]
  rw [if_pos hr] at h
  exact wpAny_pure (by simpa [Nat.add_assoc] using h)
 ·rw [if_neg hr]
  rw [if_neg hr] at h
  exact wpAny_bind (wpAny_rule (wpAny_pure (by simpa [Nat.add_assoc] using h)))
theorem N3 {A : Around} {E : Value -> Shared -> Prop} {s : Shared} {x y : List Int × Int} {a b : Addr} {Q : Bool -> Shared -> Prop} (hu : A.units + 8 < cLine) (hx : Bq prog w s.heap x a) (hy : Bq prog w s.heap y b) (h : Q (decide (x = y)) s) :
  wpAny (model prog w) A (eqBool (.ref a) (.ref b)) Q E s:=by
 unfold eqBool
 try with_reducible refine wpAny_holding ?_
 show wpAny _ _ (if (Value.ref a == Value.ref b) = true then _ else _) Q E s
 by_cases nz:(Value.ref a == Value.ref b) = true
 ·rw [if_pos nz]
  have e:a = b:=by have:=eq_of_beq nz; injection this
  subst e
  obtain rfl:=hx.inj hy
  exact wpAny_bind (wpAny_rule (wpAny_pure (by simpa using h)))
 ·rw [if_neg nz]
  refine wpAny_bind (wpAny_richCompare_same_room (op := .Eq) hx.typeIs hy.typeIs F.slot_tuple_eq
   (wpAny_call_entry F.slot_tuple_eq hx.typeIs F.entry_tuple_eq ?_ (F.args_tuple_eq_2 _ _)) (by omega))
  have hTb:=hy.typeIs
  obtain ⟨oa,na,ua,ta,hoa,_,hda,hia⟩ := hx
  obtain ⟨ob,nb,ub,tb,hob,_,fg,hib⟩ := hy
  show wpAny _ _ (isInstance (.ref b) (.type "tuple") >>= _) _ _ s
  refine wpAny_bind (wpAny_isInstance hTb isSubtype_tuple_tuple ?_)
  simp only [Bool.not_true,Bool.false_eq_true,if_false]
  refine wpAny_bind (wpAny_tupleItemsOf hoa hda ?_)
  refine wpAny_bind (wpAny_tupleItemsOf hob fg ?_)
  refine wpAny_bind ?_
  show wpAny _ _ (forIn [(Value.ref ua,Value.ref ub),(Value.int x.2 ta,Value.int y.2 tb)] _ _) _ _ _
  rw [List.forIn_cons]
  have jZ:A.in1.units < cLine:=by
   first | (show A.units + 1 < cLine; omega) | (show A.units < cLine; omega) | (simp only [Around.in1]; omega)
  refine wpAny_bind (wpAny_bind (wpAny_eqBool_tuple (knd:=intKind prog w) jZ hia hib ?_))
  by_cases h1:x.1 = y.1
  ·rw [decide_eq_true h1]
   simp only [Bool.not_true,Bool.false_eq_true,if_false]
   refine wpAny_pure ?_
   show wpAny _ _ (forIn [(Value.int x.2 ta,Value.int y.2 tb)] _ _) _ _ _
   rw [List.forIn_cons]
   refine wpAny_bind (wpAny_bind ((intKind prog w).eqBool (a:=x.2) (b:=y.2) (by simp [intKind,Value.isInt]) (by simp [intKind,Value.isInt]) ?_))
   by_cases h2:x.2 = y.2
   ·rw [decide_eq_true h2]
    simp only [Bool.not_true,Bool.false_eq_true,if_false]
    refine wpAny_pure ?_
    show wpAny _ _ (forIn [] _ _) _ _ _
    rw [List.forIn_nil]
    refine wpAny_pure ?_
    have e:decide (x = y) = true:=decide_eq_true (Prod.ext h1 h2)
    rw [e] at h
    exact wpAny_pure ⟨_,rfl,(fun e=>nomatch e),wpAny_truthy_bool h⟩
   ·rw [decide_eq_false h2]
    simp only [Bool.not_false,if_true]
    have e:decide (x = y) = false:=decide_eq_false fun z=>h2 (by rw [z])
    rw [e] at h
    exact wpAny_bind (wpAny_pure (wpAny_pure (wpAny_pure (wpAny_pure ⟨_,rfl,(fun e=>nomatch e),wpAny_truthy_bool h⟩))))
  ·rw [decide_eq_false h1]
   simp only [Bool.not_false,if_true]
   have e:decide (x = y) = false:=decide_eq_false fun z=>h1 (by rw [z])
   rw [e] at h
   exact wpAny_bind (wpAny_pure (wpAny_pure (wpAny_pure (wpAny_pure ⟨_,rfl,(fun e=>nomatch e),wpAny_truthy_bool h⟩))))
theorem Pe {A:Around} {E:Value -> Shared -> Prop} {s:Shared} {ks:List Int} {a:Addr} {Q:Bool -> Shared -> Prop} (hk:IsTupleKey (intKind prog w) s.heap ks a) (h:Q true s):wpAny (model prog w) A (eqIsQuiet 7 (.ref a)) Q E s:=by
 have hT:=hk.typeIs
 obtain ⟨o,items,n,ho,_,hd,hi⟩ := hk
 unfold eqIsQuiet
 refine wpAny_bind (wpAny_specialOf hT F.slot_tuple_eq.lookup ?_)
 show wpAny _ _ (isInstance (.ref a) (.type "tuple") >>= _) _ _ s
 refine wpAny_bind (wpAny_isInstance hT isSubtype_tuple_tuple ?_)
 simp only [Bool.not_true,Bool.false_eq_true,if_false]
 refine wpAny_bind (wpAny_seqItems ho hd ?_)
 refine wpAny_bind ?_
 show wpAny _ _ (forIn items _ _) _ _ s
 rw [<- Array.forIn_toList]
 refine wpAny_forIn_list _ (fun rest r s'=>r.1 = none /\ s' = s /\ ∀ v ∈ rest,carriedByValue v = true) _ ?_ ?_ _ _ ⟨rfl,rfl,hi.byValue⟩
 ·rintro v rest r s' ⟨hr,rfl,gw⟩
  rw [eqIsQuiet_byValue _ (gw v List.mem_cons_self)]
  refine wpAny_bind (wpAny_pure ?_)
  simp only [Bool.not_true,Bool.false_eq_true,if_false]
  exact wpAny_pure ⟨rfl,rfl,fun u mV=>gw u (List.mem_cons_of_mem _ mV)⟩
 ·rintro ⟨r1,r2⟩ s' ⟨hr,rfl,_⟩
  simp only at hr
  subst hr
  exact wpAny_pure h
theorem Jo {A:Around} {E:Value -> Shared -> Prop} {s:Shared} {k:List Int × Int} {a:Addr} {Q:Bool -> Shared -> Prop} (hk:Bq prog w s.heap k a) (h:Q true s):wpAny (model prog w) A (eqIsQuiet 8 (.ref a)) Q E s:=by
 have hT:=hk.typeIs
 obtain ⟨o,n,u,t,ho,_,hd,hi⟩ := hk
 unfold eqIsQuiet
 refine wpAny_bind (wpAny_specialOf hT F.slot_tuple_eq.lookup ?_)
 show wpAny _ _ (isInstance (.ref a) (.type "tuple") >>= _) _ _ s
 refine wpAny_bind (wpAny_isInstance hT isSubtype_tuple_tuple ?_)
 simp only [Bool.not_true,Bool.false_eq_true,if_false]
 refine wpAny_bind (wpAny_seqItems ho hd ?_)
 refine wpAny_bind ?_
 show wpAny _ _ (forIn #[Value.ref u,Value.int k.2 t] _ _) _ _ s
 rw [<- Array.forIn_toList]
 show wpAny _ _ (forIn [Value.ref u,Value.int k.2 t] _ _) _ _ s
 rw [List.forIn_cons]
 refine wpAny_bind (wpAny_bind (Pe hi ?_))
 simp only [Bool.not_true,Bool.false_eq_true,if_false]
 refine wpAny_pure ?_
 show wpAny _ _ (forIn [Value.int k.2 t] _ _) _ _ s
 rw [List.forIn_cons,eqIsQuiet_byValue _ rfl]
 refine wpAny_bind (wpAny_bind (wpAny_pure ?_))
 simp only [Bool.not_true,Bool.false_eq_true,if_false]
 refine wpAny_pure ?_
 show wpAny _ _ (forIn [] _ _) _ _ s
 rw [List.forIn_nil]
 exact wpAny_pure (wpAny_pure h)
def Ls (prog:Program) (w:World):HeapKind prog w (List Int × Int) where
 is:=Bq prog w
 hash:=Fu prog w
 draws:=fun k=>k.1.length + 3
 room:=fun A=>A.units + 8 < cLine
 inj:=fun hx hy=>hx.inj hy
 keeps:=fun x ho hd hs=>x.keeps ho hd hs
 pyHash:=fun hu hk h=>Kg hu hk h
 eqBool:=fun hu hx hy h=>N3 hu hx hy h
 quiet:=fun hk h=>Jo hk h
end
set_option genInjectivity false in
set_option genSizeOf false in
inductive HO where
  | lst (xs:List V)
  | tup (xs:List V)
  | dK (cg:List (L1 × V)) | dT (cg:List ((List Int × Int) × V))
  | set (S:Int -> Bool) (n:Nat)
  | ins (C dx:Addr) (fs:List (Str × V))
  | own (x:Addr)
  | xd (fs:List (Str × V))
  | met (f x:Addr)
  | mW (lo hi:Int)
  | eU (o:Obj) (u:HO)
  | gJ (ps:Array Value)
  | ext (φ:Heap -> Prop)
abbrev Hp:=Addr -> Option HO
def Rg (H:Hp) (b:Addr) (k:List Int × Int):Prop := ∃ u,H b = some (.tup [.ref u,.int k.2]) /\ H u = some (.tup (k.1.map V.int))
theorem Rg.up {H H2:Hp} {b:Addr} {k:List Int × Int} (ht:∀ b xs,H b = some (.tup xs) -> H2 b = some (.tup xs)) (h:Rg H b k):Rg H2 b k:=let ⟨u,a1,a2⟩ := h; ⟨u,ht _ _ a1,ht _ _ a2⟩
def upd (H:Hp) (a:Addr) (o:HO):Hp:=fun b=>if b = a then some o else H b
theorem A1 {H:Hp} {a:Addr} {o:HO}:upd H a o a = some o:=by unfold upd; rw [if_pos rfl]
theorem Af {H:Hp} {a b:Addr} {o:HO} (h:b ≠ a):upd H a o b = H b:=by unfold upd; rw [if_neg h]
theorem Q7 {H:Hp} {a b:Addr} {o u:HO} (h:H a = some o) (h':H b = some u) (d:o ≠ u):a ≠ b:=by
 intro e; subst e; rw [h] at h'; exact d (Option.some.inj h')
theorem An {H:Hp} {a b:Addr} {o:HO} (h:H a = some o) (h':H b = none):a ≠ b:=by
 intro e; subst e; rw [h] at h'; cases h'
section
variable (P:Program) (w:World)
def C6 (H:Hp) (h:Heap) (a:Addr):HO -> Prop
 | .lst xs=>xs.length <= sizeLine /\ ∃ (ag:List Value) (n:Nat),Ao xs ag /\ h.get? a = some { cls := .type "list",data := .seq ag.toArray n }
 | .tup xs=>(xs.length <= sizeLine /\ ∃ o,h.get? a = some o /\ o.dict = none) /\ ∃ ag:List Value,Ao xs ag /\ IsTup h a ag.toArray
 | .dK cg=>cg.length <= sizeLine /\ (a == sysModules) = false /\ ∃ vs,KV cg vs /\ h.DictOf (Nt P w) a vs
 | .dT cg => cg.length <= sizeLine /\ (a == sysModules) = false /\ ∃ xs : List ((List Int × Int) × Addr × Value),
   Paired (fun (p:(List Int × Int) × V) (q:(List Int × Int) × Addr × Value)=>p.1 = q.1 /\ Rg H q.2.1 p.1 /\ B1 p.2 q.2.2) cg xs /\
   ∃ o es ep,h.get? a = some o /\ o.ExactDict /\ o.data = .dict es ep /\ es.toList = xs.map (entryOfKey (Ls P w)) /\ (xs.map (·.1)).Nodup
 | .set S n=>h.SetOf (intKind P w) a S n
 | .ins C dx fs => H dx = some (.own a) /\ fs.length <= 1000 /\ dx ≠ a /\ h.get? a = some (PySem.W.instObj C dx) /\
   ∃ mA,h.Ns1 dx mA /\ (∀ f,Ha (fs.lookup f) (mA f)) /\ PySem.Within mA (fs.map (·.1))
 | .own _=>∃ o,h.get? a = some o
 | .xd fs=>∃ mA,h.Ns1 a mA /\ ∀ f,Ha (fs.lookup f) (mA f)
 | .mW lo hi=>∃ t u v,h.get? a = some { cls := .type "range",data := .fields #[.int lo t,.int hi u,.int 1 v] }
 | .eU o u=>h.get? a = some o /\ C6 H h a u
 | .gJ ps=>h.get? a = some { cls := .none,data := .fields ps }
 | .met f x=>h.get? a = some (PySem.W.methodObj (.ref f) (.ref x))
 | .ext φ=>φ h /\ (∃ o,h.get? a = some o) /\ ∀ h1 h2:Heap,φ h1 -> (∀ o,h1.get? a = some o -> h2.get? a = some o) -> φ h2
def Fb (H:Hp) (h:Heap):Prop := ∀ a o,H a = some o -> C6 P w H h a o
end
section
variable {P:Program} {w:World} {H H':Hp} {h h':Heap} {a:Addr} {o:HO}
theorem C6.lt (x:C6 P w H h a o):a < h.objs.size:=by
 cases o with
 | lst xs=>obtain ⟨_,_,_,_,e⟩ := x; exact Heap.lt_size e
 | tup xs=>obtain ⟨_,_,_,p⟩ := x; exact p.lt
 | dK cg=>obtain ⟨_,_,_,_,o,_,_,e,_⟩ := x; exact Heap.lt_size e
 | dT cg=>obtain ⟨_,_,_,_,o,_,_,e,_⟩ := x; exact Heap.lt_size e
 | set S n=>obtain ⟨o,_,_,_,e,_⟩ := x; exact Heap.lt_size e
 | ins C dx fs=>obtain ⟨_,_,_,e,_⟩ := x; exact Heap.lt_size e
 | own y=>obtain ⟨_,e⟩ := x; exact Heap.lt_size e
 | xd fs=>obtain ⟨_,⟨_,_,_,e,_⟩,_⟩ := x; exact Heap.lt_size e
 | mW lo hi=>obtain ⟨_,_,_,e⟩ := x; exact Heap.lt_size e
 | eU ob u=>obtain ⟨e,_⟩ := x; exact Heap.lt_size e
 | gJ ps=>exact Heap.lt_size (show h.get? a = some _ from x)
 | met f y=>exact Heap.lt_size (show h.get? a = some _ from x)
 | ext φ=>obtain ⟨_,⟨_,e⟩,_⟩ := x; exact Heap.lt_size e
theorem Paired.nA {α β:Type} {F G:α -> β -> Prop} {l₁:List α} {l₂:List β} (h:Paired F l₁ l₂) (f:∀ a b,F a b -> G a b):Paired G l₁ l₂:=by
 induction h with
 | nil=>exact .nil
 | cons r t ih=>exact .cons (f _ _ r) ih
theorem C6.ef (x : C6 P w H h a o) (k : ∀ b u, (b = a \/ H b = some (.own a)) -> h.get? b = some u -> h'.get? b = some u)
  (ho:∀ b,H b = some (.own a) -> H' b = some (.own a)) (ht:∀ b xs,H b = some (.tup xs) -> H' b = some (.tup xs)):C6 P w H' h' a o:=by
 induction o with
 | lst xs=>obtain ⟨z,ag,n,r,e⟩ := x; exact ⟨z,ag,n,r,k _ _ (.inl rfl) e⟩
 | tup xs=>obtain ⟨z,ag,r,ob,e,c⟩ := x; exact ⟨⟨z.1,let ⟨o,e2,d⟩ := z.2; ⟨o,k _ _ (.inl rfl) e2,d⟩⟩,ag,r,ob,k _ _ (.inl rfl) e,c⟩
 | dK cg=>obtain ⟨z,y,vs,r,ob,es,ep,e,c⟩ := x; exact ⟨z,y,vs,r,ob,es,ep,k _ _ (.inl rfl) e,c⟩
 | dT cg =>
  obtain ⟨z,y,xs,r,ob,es,ep,e,c⟩ := x
  exact ⟨z,y,xs,Paired.nA r fun p q z=>⟨z.1,z.2.1.up ht,z.2.2⟩,ob,es,ep,k _ _ (.inl rfl) e,c⟩
 | set S n=>obtain ⟨ob,es,ep,t,e,c⟩ := x; exact ⟨ob,es,ep,t,k _ _ (.inl rfl) e,c⟩
 | ins C dx fs =>
  obtain ⟨d,z,ne,e,mA,⟨od,es,ep,e2,c⟩,r⟩ := x
  exact ⟨ho _ d,z,ne,k _ _ (.inl rfl) e,mA,⟨od,es,ep,k _ _ (.inr d) e2,c⟩,r⟩
 | own y=>obtain ⟨ob,e⟩ := x; exact ⟨ob,k _ _ (.inl rfl) e⟩
 | xd fs=>obtain ⟨mA,⟨od,es,ep,e,c⟩,r⟩ := x; exact ⟨mA,⟨od,es,ep,k _ _ (.inl rfl) e,c⟩,r⟩
 | mW lo hi=>obtain ⟨t,u,v,e⟩ := x; exact ⟨t,u,v,k _ _ (.inl rfl) e⟩
 | eU ob u ih=>obtain ⟨e,q⟩ := x; exact ⟨k _ _ (.inl rfl) e,ih q⟩
 | gJ ps =>
  have e:h.get? a = some { cls := .none,data := .fields ps }:=x
  show h'.get? a = some { cls := .none,data := .fields ps }
  exact k a _ (.inl rfl) e
 | met f y =>
  have e:h.get? a = some (PySem.W.methodObj (.ref f) (.ref y)):=x
  show h'.get? a = some (PySem.W.methodObj (.ref f) (.ref y))
  exact k a _ (.inl rfl) e
 | ext φ=>obtain ⟨p,⟨o,e⟩,st⟩ := x; exact ⟨st _ _ p fun o q=>k _ _ (.inl rfl) q,⟨o,k _ _ (.inl rfl) e⟩,st⟩
theorem Fb.lt (x:Fb P w H h) (e:H a = some o):a < h.objs.size:=(x a o e).lt
theorem Fb.fresh (x:Fb P w H h) (e:h.objs.size <= a):H a = none:=by
 cases q:H a with
 | none=>rfl
 | some u=>exact absurd (Nat.lt_of_lt_of_le (x.lt q) e) (Nat.lt_irrefl _)
theorem Fb.kept (x:Fb P w H h) (k:∀ b u,h.get? b = some u -> h'.get? b = some u):Fb P w H h':=fun a o e =>
 (x a o e).ef (fun b u _ q=>k b u q) (fun _ q=>q) fun _ _ q=>q
theorem Fb.laid (x:Fb P w H h) (k:∀ b u,h.get? b = some u -> h'.get? b = some u) (hp:h.objs.size <= a) (new:C6 P w (upd H a o) h' a o):Fb P w (upd H a o) h':=fun b u e=>by
 have hn:=x.fresh hp
 by_cases hb:b = a
 ·subst hb; rw [A1] at e; cases e; exact new
 ·rw [Af hb] at e
  exact (x b u e).ef (fun c v _ q=>k c v q) (fun c q=>by rw [Af (An q hn)]; exact q) fun c xs q=>by rw [Af (An q hn)]; exact q
end
def Rd (H:Hp) (a:Addr) (u:HO):Prop:=H a = some u \/ ∃ o,H a = some (.eU o u)
theorem Rd.of {H:Hp} {a:Addr} {u:HO} (h:H a = some u):Rd H a u := .inl h
theorem Rd.ok {P:Program} {w:World} {H:Hp} {h:Heap} {a:Addr} {u:HO} (r:Rd H a u) (x:Fb P w H h):C6 P w H h a u:=by
 rcases r with r | ⟨o,r⟩
 ·exact x a u r
 ·obtain ⟨_,q⟩ := x a _ r
  exact q
def Rf:Option HO -> Prop
 | some (.lst _)=>True
 | some (.dK _)=>True
 | some (.dT _)=>True
 | some (.set _ _)=>True
 | some (.ins _ _ _)=>True
 | some (.ext _)=>True
 | _=>False
section
variable {P:Program} {w:World} {H:Hp} {h h':Heap} {x e:Addr} {o':HO}
theorem Fb.write (ok : Fb P w H h) (mu : Rf (H x)) (he : e = x \/ H e = some (.own x)) (k : ∀ b u, b ≠ e -> h.get? b = some u -> h'.get? b = some u) (jR : ∃ u, h'.get? e = some u)
  (new:C6 P w (upd H x o') h' x o'):Fb P w (upd H x o') h':=fun b u q=>by
 have k5:∀ c y,H c = some (.own y) -> c ≠ x:=fun c y r z=>by subst z; rw [r] at mu; exact mu
 have nB:∀ c xs,H c = some (.tup xs) -> c ≠ x:=fun c xs r z=>by subst z; rw [r] at mu; exact mu
 by_cases hb:b = x
 ·subst hb; rw [A1] at q; cases q; exact new
 ·rw [Af hb] at q
  by_cases gK:b = e
  ·have q' : H b = some (.own x) := by
    rcases he with z | z
    ·exact absurd (gK.trans z) hb
    ·rw [gK]; exact z
   rw [q] at q'; cases q'
   obtain ⟨v,hv⟩ := jR
   exact ⟨v,by rw [gK]; exact hv⟩
  ·refine (ok b u q).ef (fun c v hc r=>k c v ?_ r) (fun c r=>by rw [Af (k5 c b r)]; exact r) fun c xs r=>by rw [Af (nB c xs r)]; exact r
   rcases hc with rfl | hc
   ·exact gK
   ·rintro rfl
    rcases he with z | z
    ·exact k5 c b hc z
    ·rw [hc] at z; cases z; exact hb rfl
end
structure Un (fs ex:List Addr) (H H':Hp) (h h':Heap):Prop where
 keep:∀ b o,h.get? b = some o -> H b = none -> b ∉ fs -> b ∉ ex -> h'.get? b = some o
 slot:∀ b o,h.get? b = some o -> H b = none -> b ∈ fs -> b ∉ ex -> ∃ sl,h'.get? b = some { o with slots:=sl }
 free:∀ b o,h.get? b = some o -> H b = none -> b ∉ ex -> H' b = none
 there:∀ b o,h.get? b = some o -> b ∉ ex -> ∃ o',h'.get? b = some o'
 cu:∀ b xs,H b = some (.tup xs) -> H' b = some (.tup xs)
 bX:∀ b o u,H b = some (.eU o u) -> H' b = some (.eU o u)
 cv:∀ b ps,H b = some (.gJ ps) -> ∃ more,H' b = some (.gJ (ps ++ more))
section
variable {fs i6 ex k6:List Addr} {H H1 H2:Hp} {h h1 h2 h':Heap} {a x e:Addr} {o:HO}
theorem Un.any (u:Un fs ex H H1 h h1) {b:Addr} {ob:Obj} (q:h.get? b = some ob) (n:H b = none) (hx:b ∉ ex):∃ sl,h1.get? b = some { ob with slots:=sl }:=by
 by_cases hb:b ∈ fs
 ·exact u.slot b ob q n hb hx
 ·exact ⟨ob.slots,u.keep b ob q n hb hx⟩
theorem Un.trans (a:Un fs ex H H1 h h1) (b:Un fs ex H1 H2 h1 h2):Un fs ex H H2 h h2 where
 keep:=fun c ob q n hc hx=>b.keep c ob (a.keep c ob q n hc hx) (a.free c ob q n hx) hc hx
 slot:=fun c ob q n hc hx=>by
  obtain ⟨sl,e1⟩ := a.slot c ob q n hc hx
  obtain ⟨nC,e2⟩ := b.slot c _ e1 (a.free c ob q n hx) hc hx
  exact ⟨nC,e2⟩
 free:=fun c ob q n hx=>by
  obtain ⟨o',e1⟩ := a.there c ob q hx
  exact b.free c o' e1 (a.free c ob q n hx) hx
 there:=fun c ob q hx=>by
  obtain ⟨o',e1⟩ := a.there c ob q hx
  exact b.there c o' e1 hx
 cu:=fun c xs q=>b.cu c xs (a.cu c xs q)
 bX:=fun c ob xs q=>b.bX c ob xs (a.bX c ob xs q)
 cv:=fun c ps q=>by
  obtain ⟨m1,e1⟩ := a.cv c ps q
  obtain ⟨m2,e2⟩ := b.cv c _ e1
  exact ⟨m1 ++ m2,by rw [e2,Array.append_assoc]⟩
theorem Un.kept (k:∀ b u,h.get? b = some u -> h'.get? b = some u):Un fs ex H H h h' :=
 ⟨fun b ob q _ _ _=>k b ob q,fun b ob q _ _ _=>⟨ob.slots,k b ob q⟩,fun _ _ _ n _=>n,fun b ob q _=>⟨ob,k b ob q⟩,fun _ _ q=>q,fun _ _ _ q=>q,fun _ ps q=>⟨#[],by rw [q]; simp⟩⟩
theorem Un.refl:Un fs ex H H h h:=Un.kept fun _ _ q=>q
theorem Un.laid (k:∀ b u,h.get? b = some u -> h'.get? b = some u) (hp:h.objs.size <= a) (hn:H a = none):Un fs ex H (upd H a o) h h' where
 keep:=fun b u q _ _ _=>k b u q
 slot:=fun b u q _ _ _=>⟨u.slots,k b u q⟩
 free:=fun b u q n _=>by rw [Af (Nat.ne_of_lt (Nat.lt_of_lt_of_le (Heap.lt_size q) hp))]; exact n
 there:=fun b u q _=>⟨u,k b u q⟩
 cu:=fun b xs q=>by rw [Af (An q hn)]; exact q
 bX:=fun b u xs q=>by rw [Af (An q hn)]; exact q
 cv:=fun b ps q=>⟨#[],by rw [Af (An q hn),q]; simp⟩
theorem Un.write (mu:Rf (H x)) (he:e = x \/ H e = some (.own x)) (k:∀ b u,b ≠ e -> h.get? b = some u -> h'.get? b = some u) (jR:∃ u,h'.get? e = some u):Un fs ex H (upd H x o) h h':=by
 have hx:∀ b,H b = none -> b ≠ x:=fun b n z=>by subst z; rw [n] at mu; exact mu
 have hb:∀ b,H b = none -> b ≠ e:=fun b n z=>by
  subst z
  rcases he with r | r
  ·exact hx b n r
  ·rw [n] at r; cases r
 have hm:∀ b u,H b = some u -> ¬ Rf (some u) -> b ≠ x:=fun b u q nm z=>by subst z; rw [q] at mu; exact nm mu
 refine ⟨fun b u q n _ _=>k b u (hb b n) q,fun b u q n _ _=>⟨u.slots,k b u (hb b n) q⟩,fun b u q n _=>by rw [Af (hx b n)]; exact n,fun b u q _=>?_,
  fun b xs q=>by rw [Af (hm b _ q fun z=>z)]; exact q,fun b u xs q=>by rw [Af (hm b _ q fun z=>z)]; exact q,fun b ps q=>⟨#[],by rw [Af (hm b _ q fun z=>z),q]; simp⟩⟩
 by_cases gK:b = e
 ·subst gK; exact jR
 ·exact ⟨u,k b u gK q⟩
theorem Un.mono (u:Un fs ex H H1 h h1) (hs:∀ b ∈ fs,b ∈ i6) (hx:∀ b ∈ ex,b ∈ k6):Un i6 k6 H H1 h h1 :=
 ⟨fun b ob q n hb he=>u.keep b ob q n (fun z=>hb (hs b z)) fun z=>he (hx b z),fun _ _ q n _ he=>u.any q n fun z=>he (hx _ z),fun b ob q n he=>u.free b ob q n fun z=>he (hx b z),fun b ob q he=>u.there b ob q fun z=>he (hx b z),u.cu,u.bX,u.cv⟩
end
def Rs (h:Heap) (H:Hp):List Addr:=(List.range h.objs.size).filter fun a=>(H a).isSome
def Iu (h:Heap) (H:Hp):Heap:=PySem.W.hideAll h (Rs h H)
theorem Ld (h:Heap) (H:Hp):(Iu h H).objs.size = h.objs.size:=PySem.W.hideAll_size _ _
theorem Mg {h:Heap} {H:Hp} {b:Addr} {o:Obj} (e:h.get? b = some o) (n:H b = none):(Iu h H).get? b = some o :=
 PySem.W.hideAll_get _ e fun hm=>by
  have q:(H b).isSome = true:=(List.mem_filter.mp hm).2
  rw [n] at q; simp at q
theorem Nv {h:Heap} {H:Hp} {b:Addr} {o:Obj} (e:(Iu h H).get? b = some o):h.get? b = some o /\ H b = none:=by
 have e':h.get? b = some o:=PySem.W.of_hideAll (Rs h H) e
 refine ⟨e',?_⟩
 cases q:H b with
 | none=>rfl
 | some x =>
  have hm:b ∈ Rs h H:=List.mem_filter.mpr ⟨List.mem_range.mpr (Heap.lt_size e'),by simp [q]⟩
  have z:(Iu h H).get? b = none:=PySem.W.hideAll_none (Rs h H) hm
  rw [z] at e; cases e
def Nf (g h:Heap) (L:Addr):List (Addr × Obj):=(List.range h.objs.size).filterMap fun a=>if a = L \/ (g.get? a).isSome = true then none else (h.get? a).map fun o=>(a,o)
def rest (g h:Heap) (L d:Addr):List (Addr × Obj):=(Nf g h L).filter fun p=>decide (p.1 ≠ d)
structure Mod (K:PySem.W.Frag) (mg:Str -> Option Value) (base:Heap):Prop where
 k7:K.In base
 glob:base.Ns mainGlobals mg
 blt:∃ mb,base.Ns builtinsNs mb /\ ∀ x:Str,x ≠ "__name__" -> mb x = bootBuiltins x
 nolimit:base.NoLimit
set_option genInjectivity false in
set_option genSizeOf false in
structure Cx where
 prog:Program
 w:World
 K:PySem.W.Frag
 mg:Str -> Option Value
 base:Heap
 A:Around
 N:List Str
 s₀:Shared
 H₀:Hp
 env:Env
 outer:List Env
 stack:List Env
 ex:List Addr
 fn:Str -> Bool
 calm:Bool
 pn:List (Addr × Obj)
 xe:Value -> Shared -> Prop
def eh (l:List Env):List Addr:=l.filterMap (·.frame)
abbrev Cx.fs (X:Cx):List Addr:=eh X.outer
def S7 (sc:Scope) (x:Str):Prop:=sc.names.lookup x = some .local \/ sc.names.lookup x = some .cell \/ sc.names.lookup x = some .free
def Re (sc:Scope) (x:Str):Prop:=sc.names.lookup x = some .local \/ sc.names.lookup x = some .cell
def S2 (env:Env) (h:Heap) (m:Str -> Option Value) (x:Str) (u:Value):Prop :=
 (env.kindOf x = some .local /\ m x = some u) \/ ((env.kindOf x = some .cell \/ env.kindOf x = some .free) /\ ∃ c,env.cells.lookup x = some c /\ h.IsCell c (some u))
structure Cx.Ok (X:Cx):Prop where
 mod:Mod X.K X.mg X.base
 kind:X.env.scope.kind = .function
 glob:X.env.globals = mainGlobals
 blt:X.env.builtins = builtinsNs
 above:X.s₀.heap.objs.size <= X.env.locals
 inj:∀ x y c,X.env.cells.lookup x = some c -> X.env.cells.lookup y = some c -> x = y
 has:∀ x,(X.env.kindOf x = some .cell \/ X.env.kindOf x = some .free) -> ∃ c,X.env.cells.lookup x = some c
 i7:∀ x c,X.fn x = true -> X.env.cells.lookup x = some c -> X.s₀.heap.objs.size <= c
 hd:X.calm = true -> X.A.handled = none
 frames:X.A.frames = some X.stack
 jS:X.stack = X.outer \/ (X.stack = X.env :: X.outer /\ X.env.frame = some X.env.locals)
 k8:∀ b ∈ X.ex,b ≠ X.env.locals /\ ∀ x c,X.env.cells.lookup x = some c -> c ≠ b
 bs:∀ b o,X.base.get? b = some o -> X.s₀.heap.get? b = some o /\ X.H₀ b = none
 eV:X.base.objs.size <= X.s₀.heap.objs.size
 ei:∀ b o,X.base.get? b = some o -> b ∉ X.ex
 el:∀ b ∈ X.ex,b ∉ X.fs
 bG:X.s₀.heap.FunFrames X.base X.outer
 gp:∀ b ∈ X.fs,X.H₀ b = none
structure Ae (X:Cx) (pins:List (Addr × Obj)) (σ:List (Option V)) (H:Hp) (s:Shared):Prop where
 ok:X.Ok
 os:s.os = X.s₀.os
 bare:AllBare s.gens
 base:Un X.fs X.ex X.H₀ H X.s₀.heap s.heap
 loc:∃ m,s.heap.Ns X.env.locals m /\ ∀ (i:Nat) (x:Str) (v:V),X.N[i]? = some x -> σ[i]? = some (some v) -> S7 X.env.scope x -> ∃ u,B1 v u /\ S2 X.env s.heap m x u
 cell:∀ x c,X.env.cells.lookup x = some c -> ∃ v,s.heap.IsCell c v
 free:H X.env.locals = none
 aP:∀ x c,X.env.cells.lookup x = some c -> H c = none
 pin:∀ p ∈ X.pn ++ pins,s.heap.get? p.1 = some p.2 /\ H p.1 = none /\ p.1 ≠ X.env.locals /\ p.1 ∉ X.fs /\ ∀ v,p.2.data ≠ .cell v
 ab:Fb X.prog X.w H s.heap
 len:σ.length = X.N.length
section
variable {X:Cx} {pins:List (Addr × Obj)} {σ:List (Option V)} {H H':Hp} {s:Shared} {h':Heap}
theorem Cx.Ok.nD (ok:X.Ok) {b:Addr} {o:Obj} (e:X.base.get? b = some o):b ∉ X.fs:=fun hb=>by
 have:=(ok.bG.mem hb).1
 rw [e] at this; cases this
theorem Ae.bs (I:Ae X pins σ H s):∀ b o,X.base.get? b = some o -> s.heap.get? b = some o /\ H b = none:=fun b o e =>
 ⟨I.base.keep b o (I.ok.bs b o e).1 (I.ok.bs b o e).2 (I.ok.nD e) (I.ok.ei b o e),I.base.free b o (I.ok.bs b o e).1 (I.ok.bs b o e).2 (I.ok.ei b o e)⟩
theorem Ae.bk (I:Ae X pins σ H s):∀ b o,X.base.get? b = some o -> s.heap.get? b = some o:=fun b o e=>(I.bs b o e).1
theorem Ae.mod (I:Ae X pins σ H s):Mod X.K X.mg X.base:=I.ok.mod
theorem Ae.eG (I:Ae X pins σ H s):X.K.In s.heap:=I.ok.mod.k7.keeps I.bk
theorem Ae.nolimit (I:Ae X pins σ H s):s.heap.NoLimit:=I.ok.mod.nolimit.keeps I.bk
theorem Ae.fr (I:Ae X pins σ H s):∃ m,Fr X.base X.env.locals s.heap m :=
 let ⟨m,hn,_⟩ := I.loc
 ⟨m,hn,I.bk,Nat.le_trans I.ok.eV I.ok.above⟩
theorem Ae.lt (I:Ae X pins σ H s):X.env.locals < s.heap.objs.size:=let ⟨_,hn,_⟩ := I.loc; hn.lt
theorem Ae.sz (I:Ae X pins σ H s):X.s₀.heap.objs.size <= s.heap.objs.size:=Nat.le_trans I.ok.above (Nat.le_of_lt I.lt)
theorem Ae.nE (I:Ae X pins σ H s) {a:Addr} (h:s.heap.objs.size <= a):a ∉ X.fs:=fun hb=>by
 obtain ⟨_,o,ho,_⟩ := I.ok.bG.mem hb
 exact absurd (Nat.lt_of_lt_of_le (Heap.lt_size ho) (Nat.le_trans I.sz h)) (Nat.lt_irrefl _)
theorem Ae.i8 (I:Ae X pins σ H s):∀ x c,X.env.cells.lookup x = some c -> c ≠ X.env.locals:=fun x c e z=>by
 obtain ⟨v,o,ho,hd⟩ := I.cell x c e
 obtain ⟨m,⟨o',es,ep,fc,fe,_⟩,_⟩ := I.loc
 rw [z,fc] at ho; cases ho; rw [fe] at hd; cases hd
theorem Ae.bG (I:Ae X pins σ H s):s.heap.FunFrames X.base X.outer:=by
 have all:∀ (l:List Env),(∀ b ∈ eh l,b ∈ X.fs) -> X.s₀.heap.FunFrames X.base l -> s.heap.FunFrames X.base l:=by
  intro l
  induction l with
  | nil=>intro _ _; trivial
  | cons env r ih =>
   intro hs hl
   obtain ⟨hk,⟨L,o,hf,hn,ho,hd⟩,hr⟩ := hl
   have hL:L ∈ X.fs:=hs L (by unfold eh; rw [List.filterMap_cons,hf]; exact List.mem_cons_self)
   obtain ⟨sl,e⟩ := I.base.slot L o ho (I.ok.gp L hL) hL fun z=>I.ok.el L z hL
   exact ⟨hk,⟨L,_,hf,hn,e,hd⟩,ih (fun b hb=>hs b (by unfold eh; rw [List.filterMap_cons,hf]; exact List.mem_cons_of_mem _ hb)) hr⟩
 exact all X.outer (fun _ hb=>hb) I.ok.bG
theorem Ae.stack (I:Ae X pins σ H s):s.heap.FunFrames X.base X.stack:=by
 rcases I.ok.jS with e | ⟨e,hf⟩
 ·rw [e]; exact I.bG
 ·rw [e]
  obtain ⟨m,hn,_⟩ := I.loc
  refine .cons (by rw [I.ok.kind]; decide) hf hn ?_ I.bG
  exact Heap.get?_none_of_le (Nat.le_trans I.ok.eV I.ok.above)
theorem Ae.en (I:Ae X pins σ H s):∀ b ∈ eh X.stack,b ∈ X.env.locals :: X.fs:=fun b hb=>by
 rcases I.ok.jS with e | ⟨e,hf⟩
 ·rw [e] at hb; exact List.mem_cons_of_mem _ hb
 ·rw [e] at hb
  unfold eh at hb
  rw [List.filterMap_cons,hf] at hb
  exact hb
theorem Ae.eH (I:Ae X pins σ H s):∀ b ∈ eh X.stack,H b = none:=fun b hb=>by
 rcases List.mem_cons.mp (I.en b hb) with e | hb
 ·rw [e]; exact I.free
 ·obtain ⟨_,o,ho,_⟩ := I.ok.bG.mem hb
  exact I.base.free b o ho (I.ok.gp b hb) fun z=>I.ok.el b z hb
theorem Ae.step {g' : Array GenState} {t' : Nat} {d' : Drawn} {ch : List Addr} (I : Ae X pins σ H s)
  (cR:∀ b ∈ ch,(b ∈ X.ex \/ X.s₀.heap.objs.size <= b) /\ b ≠ X.env.locals /\ (∀ x c,X.env.cells.lookup x = some c -> c ≠ b) /\ ∀ p ∈ X.pn ++ pins,p.1 ≠ b)
  (keep:∀ b o,b ≠ X.env.locals -> b ∉ X.fs -> b ∉ ch -> s.heap.get? b = some o -> H b = none -> h'.get? b = some o)
  (slot:∀ b o,b ≠ X.env.locals -> b ∈ X.fs -> b ∉ ch -> s.heap.get? b = some o -> H b = none -> ∃ sl,h'.get? b = some { o with slots:=sl }) (free:∀ b o,b ∉ ch -> s.heap.get? b = some o -> H b = none -> H' b = none)
  (there:∀ b o,b ∉ ch -> s.heap.get? b = some o -> ∃ o',h'.get? b = some o')
  (cu:∀ b xs,H b = some (.tup xs) -> H' b = some (.tup xs)) (bX:∀ b o u,H b = some (.eU o u) -> H' b = some (.eU o u)) (cv:∀ b ps,H b = some (.gJ ps) -> ∃ more,H' b = some (.gJ (ps ++ more)))
  (ns:∀ m,s.heap.Ns X.env.locals m -> h'.Ns X.env.locals m) (ab:Fb X.prog X.w H' h') (hg:AllBare g') :
  Ae X pins σ H' { s with heap:=h',gens:=g',drawn:=d',toks:=t' }:=by
 have neL:∀ b o,X.s₀.heap.get? b = some o -> b ≠ X.env.locals:=fun b o e=>Nat.ne_of_lt (Nat.lt_of_lt_of_le (Heap.lt_size e) I.ok.above)
 have mX:∀ b o,X.s₀.heap.get? b = some o -> b ∉ X.ex -> b ∉ ch:=fun b o e hx hb=>by
  rcases (cR b hb).1 with z | z
  ·exact hx z
  ·exact absurd (Nat.lt_of_lt_of_le (Heap.lt_size e) z) (Nat.lt_irrefl _)
 have cellK:∀ x c,X.env.cells.lookup x = some c -> ∀ v,s.heap.IsCell c v -> h'.IsCell c v:=fun x c e v ⟨o,ho,hd⟩=>by
  have k9:c ∉ ch:=fun z=>(cR c z).2.2.1 x c e rfl
  by_cases hc:c ∈ X.fs
  ·obtain ⟨sl,q⟩ := slot c o (I.i8 x c e) hc k9 ho (I.aP x c e)
   exact ⟨_,q,hd⟩
  ·exact ⟨o,keep c o (I.i8 x c e) hc k9 ho (I.aP x c e),hd⟩
 refine ⟨I.ok,I.os,hg,⟨fun b o e n hb hx=>?_,fun b o e n hb hx=>?_,fun b o e n hx=>?_,fun b o e hx=>?_,fun b xs e=>cu b xs (I.base.cu b xs e),fun b o xs e=>bX b o xs (I.base.bX b o xs e),fun b ps e=>?_⟩,?_,fun x c e=>?_,?_,fun x c e=>?_,fun p hp=>?_,ab,I.len⟩
 ·exact keep b o (neL b o e) hb (mX b o e hx) (I.base.keep b o e n hb hx) (I.base.free b o e n hx)
 ·obtain ⟨sl,e1⟩ := I.base.slot b o e n hb hx
  obtain ⟨nC,e2⟩ := slot b _ (neL b o e) hb (mX b o e hx) e1 (I.base.free b o e n hx)
  exact ⟨nC,e2⟩
 ·obtain ⟨o',e1⟩ := I.base.there b o e hx
  exact free b o' (mX b o e hx) e1 (I.base.free b o e n hx)
 ·obtain ⟨o',e1⟩ := I.base.there b o e hx
  exact there b o' (mX b o e hx) e1
 ·obtain ⟨m1,e1⟩ := I.base.cv b ps e
  obtain ⟨m2,e2⟩ := cv b _ e1
  exact ⟨m1 ++ m2,by rw [e2,Array.append_assoc]⟩
 ·obtain ⟨m,hn,hl⟩ := I.loc
  refine ⟨m,ns m hn,fun i x v e1 e2 e3=>?_⟩
  obtain ⟨u,r,l⟩ := hl i x v e1 e2 e3
  refine ⟨u,r,?_⟩
  rcases l with l | ⟨k,c,e,z⟩
  ·exact .inl l
  ·exact .inr ⟨k,c,e,cellK x c e _ z⟩
 ·obtain ⟨v,z⟩ := I.cell x c e
  exact ⟨v,cellK x c e v z⟩
 ·obtain ⟨m,⟨o,_,_,ho,_⟩,_⟩ := I.loc
  exact free _ o (fun z=>(cR _ z).2.1 rfl) ho I.free
 ·obtain ⟨v,o,ho,hd⟩ := I.cell x c e
  exact free c o (fun z=>(cR c z).2.2.1 x c e rfl) ho (I.aP x c e)
 ·obtain ⟨e,n,ne,nf,d⟩ := I.pin p hp
  have k9:p.1 ∉ ch:=fun z=>(cR p.1 z).2.2.2 p hp rfl
  exact ⟨keep p.1 p.2 ne nf k9 e n,free p.1 p.2 k9 e n,ne,nf,d⟩
theorem Ae.un {t':Nat} (I:Ae X pins σ H s) (u:Un X.fs [] H H' s.heap h') (ab:Fb X.prog X.w H' h'):Ae X pins σ H' { s with heap:=h',toks:=t' }:=by
 obtain ⟨m,⟨o,es,ep,ho,r⟩,_⟩ := id I.loc
 obtain ⟨sl,hL⟩ := u.any ho I.free (by simp)
 exact I.step (g':=s.gens) (d':=s.drawn) (ch:=[]) (fun _ z=>nomatch z) (fun b o _ hb _ e n=>u.keep b o e n hb (by simp)) (fun b o _ hb _ e n=>u.slot b o e n hb (by simp)) (fun b o _ e n=>u.free b o e n (by simp)) (fun b o _ e=>u.there b o e (by simp)) u.cu u.bX u.cv (fun m' hm=>by
  obtain ⟨o',nF,nG,fc,r'⟩ := hm
  rw [ho] at fc; cases fc
  exact ⟨_,nF,nG,hL,r'⟩) ab I.bare
theorem Ae.call {g' : Array GenState} {t' : Nat} {d' : Drawn} {ch : List Addr} (I : Ae X pins σ H s) (u : Un (eh X.stack) ch H H' s.heap h') (ab : Fb X.prog X.w H' h') (hg : AllBare g')
  (cR:∀ b ∈ ch,(b ∈ X.ex \/ X.s₀.heap.objs.size <= b) /\ b ≠ X.env.locals /\ (∀ x c,X.env.cells.lookup x = some c -> c ≠ b) /\ ∀ p ∈ X.pn ++ pins,p.1 ≠ b) :
  Ae X pins σ H' { s with heap:=h',gens:=g',drawn:=d',toks:=t' }:=by
 obtain ⟨m,⟨o,es,ep,ho,r⟩,_⟩ := id I.loc
 obtain ⟨sl,hL⟩ := u.any ho I.free fun z=>(cR _ z).2.1 rfl
 exact I.step (ch:=ch) cR (fun b o hL hb hc e n=>u.keep b o e n (fun z=>(List.mem_cons.mp (I.en b z)).elim hL hb) hc) (fun b o _ _ hc e n=>u.any e n hc) (fun b o hc e n=>u.free b o e n hc) (fun b o hc e=>u.there b o e hc) u.cu u.bX u.cv (fun m' hm=>by
  obtain ⟨o',nF,nG,fc,r'⟩ := hm
  rw [ho] at fc; cases fc
  exact ⟨_,nF,nG,hL,r'⟩) ab hg
theorem Ae.turned {t' : Nat} {it : Addr} (I : Ae X pins σ H s) (k : ∀ b o, b ≠ it -> s.heap.get? b = some o -> h'.get? b = some o) (hn : H it = none) (hL : it ≠ X.env.locals)
  (h1:it ∈ X.ex \/ X.s₀.heap.objs.size <= it) (h2:∀ x c,X.env.cells.lookup x = some c -> c ≠ it) (h3:∀ p ∈ X.pn ++ pins,p.1 ≠ it):Ae X pins σ H { s with heap:=h',toks:=t' }:=by
 have nit:∀ b u,H b = some u -> b ≠ it:=fun b u e z=>by rw [z,hn] at e; cases e
 refine I.step (g':=s.gens) (d':=s.drawn) (ch:=[it]) (fun b hb=>?_) (fun b o _ _ hc e _=>k b o (fun z=>hc (by simp [z])) e) (fun b o _ _ hc e _=>⟨o.slots,k b o (fun z=>hc (by simp [z])) e⟩) (fun _ _ _ _ n=>n)
  (fun b o hc e=>⟨o,k b o (fun z=>hc (by simp [z])) e⟩) (fun _ _ e=>e) (fun _ _ _ e=>e) (fun b ps e=>⟨#[],by rw [e]; simp⟩) (fun m hm=>?_) (fun b u e=>?_) I.bare
 ·have e:b = it:=by simpa using hb
  subst e
  exact ⟨h1,hL,h2,h3⟩
 ·obtain ⟨o,es,ep,ho,r⟩ := hm
  exact ⟨o,es,ep,k _ o (Ne.symm hL) ho,r⟩
 ·refine (I.ab b u e).ef (fun c v hc q=>k c v ?_ q) (fun _ q=>q) fun _ _ q=>q
  rcases hc with z | z
  ·rw [z]; exact nit b u e
  ·exact nit c _ z
theorem Ae.tok (I:Ae X pins σ H s) (t:Nat):Ae X pins σ H { s with toks:=t }:=I.un (h':=s.heap) (t':=t) Un.refl I.ab
theorem Ae.kept {t':Nat} (I:Ae X pins σ H s) (k:∀ b u,s.heap.get? b = some u -> h'.get? b = some u):Ae X pins σ H { s with heap:=h',toks:=t' }:=I.un (Un.kept k) (I.ab.kept k)
theorem Ae.laid {a : Addr} {o : HO} {t' : Nat} (I : Ae X pins σ H s) (k : ∀ b u, s.heap.get? b = some u -> h'.get? b = some u) (hp : s.heap.objs.size <= a) (new : C6 X.prog X.w (upd H a o) h' a o) :
  Ae X pins σ (upd H a o) { s with heap:=h',toks:=t' }:=I.un (Un.laid k hp (I.ab.fresh hp)) (I.ab.laid k hp new)
theorem Ae.write {x e : Addr} {o : HO} {t' : Nat} (I : Ae X pins σ H s) (mu : Rf (H x)) (he : e = x \/ H e = some (.own x)) (k : ∀ b u, b ≠ e -> s.heap.get? b = some u -> h'.get? b = some u) (jR : ∃ u, h'.get? e = some u)
  (new:C6 X.prog X.w (upd H x o) h' x o):Ae X pins σ (upd H x o) { s with heap:=h',toks:=t' }:=I.un (Un.write mu he k jR) (I.ab.write mu he k jR new)
theorem Ae.weak {σ':List (Option V)} (I:Ae X pins σ H s) (hl:σ'.length = σ.length) (w:∀ (i:Nat) v,σ'[i]? = some (some v) -> σ[i]? = some (some v)):Ae X pins σ' H s :=
 ⟨I.ok,I.os,I.bare,I.base,let ⟨m,hn,hl'⟩ := I.loc; ⟨m,hn,fun i x v e1 e2 e3=>hl' i x v e1 (w i v e2) e3⟩,I.cell,I.free,I.aP,I.pin,I.ab,hl.trans I.len⟩
theorem Ae.eJ {eK:List (Addr × Obj)} (I:Ae X pins σ H s) (h:∀ p ∈ eK,s.heap.get? p.1 = some p.2 /\ H p.1 = none /\ p.1 ≠ X.env.locals /\ p.1 ∉ X.fs /\ ∀ v,p.2.data ≠ .cell v):Ae X eK σ H s :=
 ⟨I.ok,I.os,I.bare,I.base,I.loc,I.cell,I.free,I.aP,fun p hp=>(List.mem_append.mp hp).elim (fun z=>I.pin p (List.mem_append_left _ z)) (h p),I.ab,I.len⟩
theorem Jl {N:List Str} (hN:N.Nodup) {i j:Nat} {x:Str} (a:N[i]? = some x) (b:N[j]? = some x):i = j:=by
 obtain ⟨h1,e1⟩ := List.getElem?_eq_some_iff.mp a
 obtain ⟨h2,e2⟩ := List.getElem?_eq_some_iff.mp b
 exact (List.getElem_inj hN).mp (e1.trans e2.symm)
theorem Ii {M : Model} {A : Around} {E : Value -> Shared -> Prop} {i : Nat} {x : Str} {v : V} {u : Value} {Q : Unit -> Shared -> Prop} (I : Ae X pins σ H s) (hN : X.N.Nodup) (hi : X.N[i]? = some x) (hx : Re X.env.scope x) (r : B1 v u)
  (h:∀ s',Ae X pins (σ.set i (some v)) H s' -> (∃ a,Heap.SameBut a s.heap s'.heap /\ (a = X.env.locals \/ X.env.cells.lookup x = some a)) -> Q () s') (hf:X.fn x = true \/ X.env.scope.names.lookup x = some .local:=by first | exact .inl rfl | exact .inr rfl | assumption):wpAny M A (storeName X.env x u) Q E s:=by
 obtain ⟨m,hn,hl⟩ := id I.loc
 have nH:(X.env.scope.kind == .class || (X.env.scope.kind == .module && X.env.locals != X.env.globals)) = false:=by rw [I.ok.kind]; rfl
 have hiσ:i < σ.length:=by rw [I.len]; exact (List.getElem?_eq_some_iff.mp hi).1
 have i8:=I.i8
 have tracked:∀ {a:Addr} {h':Heap},(∃ o,s.heap.get? a = some o /\ H a = none) -> Heap.SameBut a s.heap h' -> Fb X.prog X.w H h':=fun {a h'} ha hs b ob e=>by
  obtain ⟨_,_,gL⟩ := ha
  refine (I.ab b ob e).ef (fun c w' hc q=>(hs.2 c ?_).trans q) (fun _ q=>q) fun _ _ q=>q
  rintro rfl
  rcases hc with rfl | hc
  ·rw [gL] at e; cases e
  ·rw [gL] at hc; cases hc
 rcases hx with hk | hk
 ·refine wpAny_storeName_local hk hn (fun h' hn' hs=>?_) nH
  obtain ⟨oL,_,_,hoL,_⟩ := id hn
  refine h _ ⟨I.ok,I.os,I.bare,⟨fun b o e n hb hx=>?_,fun b o e n hb hx=>?_,I.base.free,fun b o e hx=>?_,I.base.cu,I.base.bX,I.base.cv⟩,⟨_,hn',fun j y v' e1 e2 e3=>?_⟩,fun y c e=>?_,I.free,I.aP,fun p hp=>?_,tracked ⟨oL,hoL,I.free⟩ hs,by simpa using I.len⟩ ⟨_,hs,.inl rfl⟩
  ·exact (hs.2 b (Nat.ne_of_lt (Nat.lt_of_lt_of_le (Heap.lt_size e) I.ok.above))).trans (I.base.keep b o e n hb hx)
  ·obtain ⟨sl,e1⟩ := I.base.slot b o e n hb hx
   exact ⟨sl,(hs.2 b (Nat.ne_of_lt (Nat.lt_of_lt_of_le (Heap.lt_size e) I.ok.above))).trans e1⟩
  ·obtain ⟨o',e1⟩ := I.base.there b o e hx
   exact ⟨o',(hs.2 b (Nat.ne_of_lt (Nat.lt_of_lt_of_le (Heap.lt_size e) I.ok.above))).trans e1⟩
  ·by_cases hj:j = i
   ·subst hj
    rw [hi] at e1; cases e1
    rw [List.getElem?_set_self hiσ] at e2
    cases e2
    exact ⟨u,r,.inl ⟨hk,by simp⟩⟩
   ·rw [List.getElem?_set_ne (Ne.symm hj)] at e2
    obtain ⟨u',r',q⟩ := hl j y v' e1 e2 e3
    refine ⟨u',r',?_⟩
    rcases q with ⟨k,e⟩ | ⟨k,c,e,z⟩
    ·refine .inl ⟨k,?_⟩
     have:y ≠ x:=fun e=>hj (Jl hN e1 (e ▸ hi))
     simp [this,e]
    ·exact .inr ⟨k,c,e,z.sameBut hs (i8 y c e)⟩
  ·obtain ⟨w',z⟩ := I.cell y c e
   exact ⟨w',z.sameBut hs (i8 y c e)⟩
  ·obtain ⟨e,n,ne,nf,d⟩ := I.pin p hp
   exact ⟨(hs.2 p.1 ne).trans e,n,ne,nf,d⟩
 ·have nI : X.fn x = true := by
   rcases hf with z | z
   ·exact z
   ·rw [z] at hk; cases hk
  obtain ⟨c,hc⟩ := I.ok.has x (.inl hk)
  obtain ⟨w',z⟩ := I.cell x c hc
  refine wpAny_storeName_cell I.ok.kind hk hc z (fun h' mY hs=>?_)
  obtain ⟨oc,hoc,nJ⟩ := id z
  refine h { s with heap:=h' } ⟨I.ok,I.os,I.bare,⟨fun b o e n hb hx=>?_,fun b o e n hb hx=>?_,I.base.free,fun b o e hx=>?_,I.base.cu,I.base.bX,I.base.cv⟩,⟨m,hn.sameBut hs (Ne.symm (i8 x c hc)),fun j y v' e1 e2 e3=>?_⟩,fun y c' e=>?_,I.free,I.aP,fun p hp=>?_,tracked ⟨oc,hoc,I.aP x c hc⟩ hs,by simpa using I.len⟩ ⟨c,hs,.inr hc⟩
  ·exact (hs.2 b (Nat.ne_of_lt (Nat.lt_of_lt_of_le (Heap.lt_size e) (I.ok.i7 x c nI hc)))).trans (I.base.keep b o e n hb hx)
  ·obtain ⟨sl,e1⟩ := I.base.slot b o e n hb hx
   exact ⟨sl,(hs.2 b (Nat.ne_of_lt (Nat.lt_of_lt_of_le (Heap.lt_size e) (I.ok.i7 x c nI hc)))).trans e1⟩
  ·obtain ⟨o',e1⟩ := I.base.there b o e hx
   exact ⟨o',(hs.2 b (Nat.ne_of_lt (Nat.lt_of_lt_of_le (Heap.lt_size e) (I.ok.i7 x c nI hc)))).trans e1⟩
  ·by_cases hj:j = i
   ·subst hj
    rw [hi] at e1; cases e1
    rw [List.getElem?_set_self hiσ] at e2
    cases e2
    exact ⟨u,r,.inr ⟨.inl hk,c,hc,mY⟩⟩
   ·rw [List.getElem?_set_ne (Ne.symm hj)] at e2
    obtain ⟨u',r',q⟩ := hl j y v' e1 e2 e3
    refine ⟨u',r',?_⟩
    rcases q with q | ⟨k,c',e,z'⟩
    ·exact .inl q
    ·refine .inr ⟨k,c',e,z'.sameBut hs ?_⟩
     rintro rfl
     exact hj (Jl hN e1 (I.ok.inj _ _ _ e hc ▸ hi))
  ·by_cases hcc:c' = c
   ·subst hcc; exact ⟨_,mY⟩
   ·obtain ⟨w2,z2⟩ := I.cell y c' e
    exact ⟨w2,z2.sameBut hs hcc⟩
  ·obtain ⟨e,n,ne,nf,d⟩ := I.pin p hp
   refine ⟨(hs.2 p.1 ?_).trans e,n,ne,nf,d⟩
   intro q
   rw [q,hoc] at e
   have q':oc = p.2:=Option.some.inj e
   exact d w' (by rw [<- q']; exact nJ)
theorem Jp {M : Model} {A : Around} {E : Value -> Shared -> Prop} {i : Nat} {x : Str} {v : V} {u : Value} {Q : Unit -> Shared -> Prop} (I : Ae X pins σ H s) (hN : X.N.Nodup) (hi : X.N[i]? = some x) (hx : Re X.env.scope x) (r : B1 v u)
  (h:∀ s',Ae X pins (σ.set i (some v)) H s' -> Q () s') (hf:X.fn x = true \/ X.env.scope.names.lookup x = some .local:=by first | exact .inl rfl | exact .inr rfl | assumption):wpAny M A (storeName X.env x u) Q E s :=
 Ii I hN hi hx r (fun s' I' _=>h s' I') hf
theorem Ae.ka {s' : Shared} {ch : List Addr} (I : Ae X pins σ H s) (ho : s'.os = s.os) (u : Un (eh X.stack) ch H H' s.heap s'.heap) (ab : Fb X.prog X.w H' s'.heap) (hg : AllBare s'.gens)
  (cR:∀ b ∈ ch,(b ∈ X.ex \/ X.s₀.heap.objs.size <= b) /\ b ≠ X.env.locals /\ (∀ x c,X.env.cells.lookup x = some c -> c ≠ b) /\ ∀ p ∈ X.pn ++ pins,p.1 ≠ b):Ae X pins σ H' s':=by
 obtain ⟨h',g',d',t',o'⟩ := s'
 have e:o' = s.os:=ho
 subst e
 exact I.call (g':=g') (t':=t') (d':=d') u ab hg cR
end
abbrev XK:=Value -> Option Addr -> Hp -> Prop
abbrev St:=List (Option V)
abbrev VK:=V -> Hp -> Prop
abbrev TE:=St -> Hp -> VK -> Prop
abbrev TT:=St -> Hp -> (Bool -> Hp -> Prop) -> Prop
abbrev TA:=St -> Hp -> (List V -> Hp -> Prop) -> Prop
set_option genInjectivity false in
set_option genSizeOf false in
structure Ez where
 nx:St -> Hp -> Prop
 rt:VK
 bk:St -> Hp -> Prop:=fun _ _=>False
 ct:St -> Hp -> Prop:=fun _ _=>False
abbrev TS:=Ez -> St -> Hp -> Prop
def EP (X:Cx) (pins:List (Addr × Obj)) (σ:St) (Q:VK) (u:Value) (s':Shared):Prop := ∃ v H',Ae X pins σ H' s' /\ B1 v u /\ Q v H'
def TP (X:Cx) (pins:List (Addr × Obj)) (σ:St) (Q:Bool -> Hp -> Prop) (b:Bool) (s':Shared):Prop := ∃ H',Ae X pins σ H' s' /\ Q b H'
def AP (X:Cx) (pins:List (Addr × Obj)) (σ:St) (Q:List V -> Hp -> Prop) (us:List Value) (s':Shared):Prop := ∃ vs H',Ae X pins σ H' s' /\ Ao vs us /\ Q vs H'
def SP (X:Cx) (pins:List (Addr × Obj)) (D:Ez) (f:Flow) (s':Shared):Prop :=
 match f with
 | .next=>∃ σ' H',Ae X pins σ' H' s' /\ D.nx σ' H'
 | .brk=>∃ σ' H',Ae X pins σ' H' s' /\ D.bk σ' H'
 | .cont=>∃ σ' H',Ae X pins σ' H' s' /\ D.ct σ' H'
 | .ret u=>∃ v σ' H',Ae X pins σ' H' s' /\ B1 v u /\ D.rt v H'
def PE (X:Cx) (e:Expr) (t:TE):Prop :=
 ∀ (pins:List (Addr × Obj)) (s:Shared) (σ:St) (H:Hp) (Q:VK),Ae X pins σ H s -> t σ H Q -> wpAny (model X.prog X.w) X.A (eval e X.env) (EP X pins σ Q) X.xe s
def PT (X:Cx) (e:Expr) (t:TT):Prop :=
 ∀ (pins:List (Addr × Obj)) (s:Shared) (σ:St) (H:Hp) (Q:Bool -> Hp -> Prop),Ae X pins σ H s -> t σ H Q -> wpAny (model X.prog X.w) X.A (isTrue e X.env (eval e X.env)) (TP X pins σ Q) X.xe s
def PW (X:Cx) (e:Expr) (t:TT):Prop :=
 ∀ (whole:Sem Value) (pins:List (Addr × Obj)) (s:Shared) (σ:St) (H:Hp) (Q:Bool -> Hp -> Prop),Ae X pins σ H s -> t σ H Q -> wpAny (model X.prog X.w) X.A (isTrue e X.env whole) (TP X pins σ Q) X.xe s
theorem PW.pt {X:Cx} {e:Expr} {t:TT} (h:PW X e t):PT X e t:=h _
def PA (X:Cx) (es:List Expr) (t:TA):Prop :=
 ∀ (pos:Pos) (pins:List (Addr × Obj)) (s:Shared) (σ:St) (H:Hp) (Q:List V -> Hp -> Prop),Ae X pins σ H s -> t σ H Q -> wpAny (model X.prog X.w) X.A (spliced (backTo pos (starEach es X.env))) (AP X pins σ Q) X.xe s
def PS (X:Cx) (st:Stmt) (t:TS):Prop :=
 ∀ (pins:List (Addr × Obj)) (s:Shared) (σ:St) (H:Hp) (D:Ez),Ae X pins σ H s -> t D σ H -> wpAny (model X.prog X.w) X.A (exec st X.env) (SP X pins D) X.xe s
def Kp (X:Cx) (st:List Stmt) (t:TS):Prop :=
 ∀ (pins:List (Addr × Obj)) (s:Shared) (σ:St) (H:Hp) (D:Ez),Ae X pins σ H s -> t D σ H -> wpAny (model X.prog X.w) X.A (execs st X.env) (SP X pins D) X.xe s
theorem C8 {α:Type} {t:Sem α} {Q Q':α -> Shared -> Prop} {M:Model} {A:Around} {E:Value -> Shared -> Prop} {s:Shared} (h:wpAny M A t Q E s) (hQ:∀ a s,Q a s -> Q' a s):wpAny M A t Q' E s:=wpAny_mono h hQ fun _ _ x=>x
section
variable {X:Cx}
def Ra (i:Nat):TE:=fun σ H Q=>∃ v,σ[i]? = some (some v) /\ Q v H
def tC (v:V):TE:=fun _ H Q=>Q v H
theorem Pa {i:Nat} {x:Str} {pos:Pos} (hN:X.N[i]? = some x) (hv:S7 X.env.scope x) (hd:(x == ("__debug__" : Str)) = false:=by decide) (fh:(x == ("__classdict__" : Str)) = false:=by decide):PE X (.Name x pos) (Ra i):=by
 intro pins s σ H Q I h
 obtain ⟨v,e,h⟩ := h
 obtain ⟨m,hn,hl⟩ := I.loc
 obtain ⟨u,r,l⟩ := hl i x v hN e hv
 have fin:EP X pins σ Q u s:=⟨v,H,I,r,h⟩
 rcases l with ⟨hk,hm⟩ | ⟨hk,c,hc,gM⟩
 ·exact wpAny_Name (wpAny_loadName_local I.ok.kind hk hn hm fin) hd
 ·rcases hk with hk | hk
  ·exact wpAny_Name (wpAny_loadName_cell I.ok.kind hk hc gM fin) hd
  ·exact wpAny_Name (wpAny_loadName_free I.ok.kind hk hc gM fin fh) hd
theorem A2 {i j pos}:PE X (.Constant (.int i) j pos) (tC (.int i)):=fun _ _ _ H _ I h=>wpAny_Constant_int ⟨.int i,H,I.tok _,⟨_,rfl⟩,h⟩
theorem Mt {b j pos}:PE X (.Constant (.bool b) j pos) (tC (.bl b)):=fun _ _ _ H _ I h=>Constant_bool ⟨.bl b,H,I,rfl,h⟩
theorem Ey {j pos}:PE X (.Constant .none j pos) (tC .aA):=fun _ _ _ H _ I h=>Constant_none ⟨.aA,H,I,rfl,h⟩
theorem Bv {x j pos}:PE X (.Constant (.str x) j pos) (tC (.str x)):=fun _ _ _ H _ I h=>Calls.Constant_str ⟨.str x,H,I.tok _,⟨_,rfl⟩,h⟩
def Gl (X:Cx) (x:Str):Prop:=X.env.kindOf x = some .globalImplicit
theorem Iy {E : Value -> Shared -> Prop} {pins : List (Addr × Obj)} {s : Shared} {σ : St} {H : Hp} {x : Str} {u : Value} {pos : Pos} {Q : Value -> Shared -> Prop} (I : Ae X pins σ H s) (hg : Gl X x) (hm : X.mg x = some u) (h : Q u s)
  (hd:(x == ("__debug__" : Str)) = false:=by decide):wpAny (model X.prog X.w) X.A (eval (.Name x pos) X.env) Q E s :=
 Calls.Name_function_global I.ok.kind hg (Calls.loadGlobal_global (by rw [I.ok.glob]; exact I.mod.glob.keeps I.bk) hm h) hd
theorem Ee {E : Value -> Shared -> Prop} {pins : List (Addr × Obj)} {s : Shared} {σ : St} {H : Hp} {x : Str} {u : Value} {pos : Pos} {Q : Value -> Shared -> Prop} (I : Ae X pins σ H s) (hg : Gl X x) (hm : X.mg x = none) (hv : bootBuiltins x = some u) (h : Q u s)
  (hn:x ≠ "__name__" := by decide) (hd:(x == ("__debug__" : Str)) = false:=by decide):wpAny (model X.prog X.w) X.A (eval (.Name x pos) X.env) Q E s:=by
 obtain ⟨mb,h1,h2⟩ := I.mod.blt
 exact Calls.Name_function_global I.ok.kind hg (Calls.loadGlobal_builtin (by rw [I.ok.glob]; exact I.mod.glob.keeps I.bk) hm (by rw [I.ok.blt]; exact h1.keeps I.bk) ((h2 x hn).trans hv) h) hd
theorem Ny {x:Str} {v:V} {u:Value} {pos:Pos} (hg:Gl X x) (hm:X.mg x = some u) (r:B1 v u) (hd:(x == ("__debug__" : Str)) = false:=by decide):PE X (.Name x pos) (tC v) :=
 fun _ _ _ H _ I h=>Iy I hg hm ⟨v,H,I,r,h⟩ hd
def Ro (ta tb:TE) (k:Int -> Int -> Hp -> Prop):St -> Hp -> Prop:=fun σ H=>ta σ H fun x H1=>tb σ H1 fun y H2=>∃ i j,x = .int i /\ y = .int j /\ k i j H2
def V8 (ta tb:TE):TE:=fun σ H Q=>Ro ta tb (fun i j H2=>Q (.int (i + j)) H2) σ H
def Vq (ta tb:TE):TE:=fun σ H Q=>Ro ta tb (fun i j H2=>Q (.int (i - j)) H2) σ H
def Vh (ta tb:TE):TE:=fun σ H Q=>Ro ta tb (fun i j H2=>(-(2 ^ 64) < i /\ i < 2 ^ 64) /\ Q (.int (i * j)) H2) σ H
variable {a b:Expr} {ta tb:TE} {pos:Pos}
def PC (X:Cx) (op:CmpOp) (a b:Expr) (t:TE):Prop :=
 ∀ (pins:List (Addr × Obj)) (s:Shared) (σ:St) (H:Hp) (Q:VK),Ae X pins σ H s -> t σ H Q ->
  wpAny (model X.prog X.w) X.A (eval a X.env) (fun v s₁=>wpAny (model X.prog X.w) X.A (eval b X.env) (fun u s₂=>wpAny (model X.prog X.w) X.A (compareOp op v u) (EP X pins σ Q) X.xe s₂) X.xe s₁) X.xe s
def Lu (p:Int -> Int -> Bool) (ta tb:TE):TE:=fun σ H Q=>Ro ta tb (fun i j H2=>Q (.bl (p i j)) H2) σ H
abbrev W2:TE -> TE -> TE:=Lu fun i j=>decide (i < j)
abbrev W1:TE -> TE -> TE:=Lu fun i j=>decide (i <= j)
abbrev Vz:TE -> TE -> TE:=Lu fun i j=>decide (j < i)
abbrev Vy:TE -> TE -> TE:=Lu fun i j=>decide (j <= i)
abbrev Ve:TE -> TE -> TE:=Lu fun i j=>decide (i = j)
abbrev Vi:TE -> TE -> TE:=Lu fun i j=>!decide (i = j)
def Vg (ta:TE):TE:=fun σ H Q=>ta σ H fun x H1=>Q (.bl (decide (x = .aA))) H1
def U4 (ta:TE):TE:=fun σ H Q=>ta σ H fun x H1=>Q (.bl (!decide (x = .aA))) H1
def tB (t:TE):TT:=fun σ H Q=>t σ H fun x H1=>∃ c,x = .bl c /\ Q c H1
theorem Pd {e:Expr} {t:TE} (h:PE X e t) (he:∀ whole,isTrue e X.env whole = (do let v <- whole; standAt e.pos; holding [v] (truthy v)):=by intro _; rfl):PT X e (tB t):=by
 intro pins s σ H Q I hw
 refine isTrue_plain (C8 (h pins s σ H _ I hw) fun v s1 ⟨x,H1,I1,r1,q1⟩=>?_) (he _)
 obtain ⟨d,rfl,q⟩ := q1
 cases r1
 exact wpAny_truthy_bool ⟨H1,I1,q⟩
variable {tA jT:TT} {rest:List Expr}
def V9 (t u:TT):TT:=fun σ H Q=>t σ H fun c H1=>if c = true then u σ H1 Q else Q false H1
def W3 (t u:TT):TT:=fun σ H Q=>t σ H fun c H1=>if c = true then Q true H1 else u σ H1 Q
def Vj (t:TT):TT:=fun σ H Q=>t σ H fun c H1=>Q (!c) H1
theorem Ga (ha:PT X a tA):PW X (.BoolOp .And [a] pos) tA:=by
 intro wh pins s σ H Q I h
 refine isTrue_and (C8 (ha pins s σ H Q I h) fun c s1 e=>?_)
 cases c with
 | true=>exact isTrue_and_nil e
 | false=>exact e
theorem Fo (ha:PT X a tA):PW X (.BoolOp .Or [a] pos) tA:=by
 intro wh pins s σ H Q I h
 refine isTrue_or (C8 (ha pins s σ H Q I h) fun c s1 e=>?_)
 cases c with
 | false=>exact isTrue_or_nil e
 | true=>exact e
def Ty (ta tb:TE):TE:=fun σ H Q=>ta σ H fun x H1=>∃ c,x = .bl c /\ if c = true then tb σ H1 Q else Q (.bl false) H1
def Vl (ta tb:TE):TE:=fun σ H Q=>ta σ H fun x H1=>∃ c,x = .bl c /\ if c = true then Q (.bl true) H1 else tb σ H1 Q
def U5 (ta:TE):TE:=fun σ H Q=>ta σ H fun x H1=>∃ c,x = .bl c /\ Q (.bl (!c)) H1
def W0 (t:TT) (ta tb:TE):TE:=fun σ H Q=>t σ H fun c H1=>if c = true then ta σ H1 Q else tb σ H1 Q
end
def As (K:PySem.W.Frag) (H:Hp) (a:Addr) (xs:List V):Prop :=
 Rd H a (.lst xs) \/
  ∃ (o:Obj) (ag:Array Value) (n:Nat),K.lookup a = some o /\ o.cls = .type "list" /\ o.dict = none /\ o.data = .seq ag n /\ ag.size <= sizeLine /\ Ao xs ag.toList
def B6 (K:PySem.W.Frag) (H:Hp) (a:Addr) (xs:List V):Prop :=
 Rd H a (.tup xs) \/
  ∃ (o:Obj) (ag:Array Value) (n:Nat),K.lookup a = some o /\ o.cls = .type "tuple" /\ o.data = .seq ag n /\ ag.size <= sizeLine /\ Ao xs ag.toList
def S8:Value -> Option V
 | .none=>some .aA
 | .bool b=>some (.bl b)
 | .int i _=>some (.int i)
 | .str x _=>some (.str x)
 | .bytes b _=>some (.eE b)
 | .float b _=>some (.jQ b)
 | .ref a=>some (.ref a)
 | .type n=>some (.ty n)
 | _=>none
theorem B1.abs {x:V} {u:Value} (r:B1 x u):S8 u = some x:=by
 cases x with
 | aA=>cases r; rfl
 | bl _=>cases r; rfl
 | int _=>obtain ⟨t,rfl⟩ := r; rfl
 | str _=>obtain ⟨t,rfl⟩ := r; rfl
 | eE _=>obtain ⟨t,rfl⟩ := r; rfl
 | jQ _=>obtain ⟨t,rfl⟩ := r; rfl
 | ref _=>cases r; rfl
 | ty _=>cases r; rfl
theorem B1.inj {x y:V} {u:Value} (r:B1 x u) (q:B1 y u):x = y:=Option.some.inj (r.abs.symm.trans q.abs)
theorem Ao.inj {xs ys:List V} {us:List Value} (h:Ao xs us) (g:Ao ys us):xs = ys:=by
 induction h generalizing ys with
 | nil =>
  cases g
  rfl
 | cons r t ih =>
  cases g with
  | cons r' t'=>rw [r.inj r',ih t']
section
variable {X:Cx} {pins:List (Addr × Obj)} {σ:St} {H:Hp} {s:Shared} {a:Addr} {xs ys:List V}
theorem As.of {K:PySem.W.Frag} (h:H a = some (.lst xs)):As K H a xs := .inl (.inl h)
theorem B6.of {K:PySem.W.Frag} (h:H a = some (.tup xs)):B6 K H a xs := .inl (.inl h)
theorem Ae.list (I:Ae X pins σ H s) (h:As X.K H a xs):∃ ag:List Value,Ao xs ag /\ PlainL s.heap a ag.toArray /\ xs.length <= sizeLine:=by
 rcases h with h | ⟨o,ag,n,hk,hc,hd,hs,hz,r⟩
 ·obtain ⟨z,ag,n,r,e⟩ := h.ok I.ab
  exact ⟨ag,r,⟨_,n,e,rfl,rfl,rfl⟩,z⟩
 ·refine ⟨ag.toList,r,⟨o,n,I.eG a o hk,hc,hd,by simpa using hs⟩,?_⟩
  have e:=r.length
  simp only [Array.length_toList] at e
  omega
theorem Ae.tuple (I:Ae X pins σ H s) (h:B6 X.K H a xs):∃ ag:List Value,Ao xs ag /\ IsTup s.heap a ag.toArray /\ xs.length <= sizeLine:=by
 rcases h with h | ⟨o,ag,n,hk,hc,hs,hz,r⟩
 ·obtain ⟨z,ag,r,p⟩ := h.ok I.ab
  exact ⟨ag,r,p,z.1⟩
 ·refine ⟨ag.toList,r,⟨o,I.eG a o hk,hc,n,by simpa using hs⟩,?_⟩
  have e:=r.length
  simp only [Array.length_toList] at e
  omega
theorem Ae.dG (I:Ae X pins σ H s) (h:As X.K H a xs) (h':As X.K H a ys):xs = ys:=by
 obtain ⟨ag,r,⟨o,n,e,_,_,d⟩,_⟩ := I.list h
 obtain ⟨its',r',⟨o',n',e',_,_,d'⟩,_⟩ := I.list h'
 rw [e] at e'; cases e'
 rw [d] at d'
 injection d' with d1 _
 have:ag = its':=by simpa using congrArg Array.toList d1
 subst this
 exact r.inj r'
theorem Ae.d5 (I:Ae X pins σ H s) (h:B6 X.K H a xs) (h':B6 X.K H a ys):xs = ys:=by
 obtain ⟨ag,r,⟨o,e,_,n,d⟩,_⟩ := I.tuple h
 obtain ⟨its',r',⟨o',e',_,n',d'⟩,_⟩ := I.tuple h'
 rw [e] at e'; cases e'
 rw [d] at d'
 injection d' with d1 _
 have:ag = its':=by simpa using congrArg Array.toList d1
 subst this
 exact r.inj r'
end
abbrev Cx.cw (X:Cx) (E:Value -> Shared -> Prop):Cx:={ X with xe:=E }
abbrev Cx.gq (X:Cx):Cx:=X.cw fun _ _=>False
theorem Cx.Ok.cw {X:Cx} (ok:X.Ok) (E:Value -> Shared -> Prop):(X.cw E).Ok :=
 ⟨ok.mod,ok.kind,ok.glob,ok.blt,ok.above,ok.inj,ok.has,ok.i7,ok.hd,ok.frames,ok.jS,ok.k8,ok.bs,ok.eV,ok.ei,ok.el,ok.bG,ok.gp⟩
theorem Cx.Ok.aS {X:Cx} {E:Value -> Shared -> Prop} (ok:(X.cw E).Ok):X.Ok :=
 ⟨ok.mod,ok.kind,ok.glob,ok.blt,ok.above,ok.inj,ok.has,ok.i7,ok.hd,ok.frames,ok.jS,ok.k8,ok.bs,ok.eV,ok.ei,ok.el,ok.bG,ok.gp⟩
section
variable {X:Cx} {pins:List (Addr × Obj)} {σ:St} {H:Hp} {s:Shared} {E:Value -> Shared -> Prop}
theorem Ae.cw (I:Ae X pins σ H s) (E:Value -> Shared -> Prop):Ae (X.cw E) pins σ H s:=⟨I.ok.cw E,I.os,I.bare,I.base,I.loc,I.cell,I.free,I.aP,I.pin,I.ab,I.len⟩
theorem Ae.aS (I:Ae (X.cw E) pins σ H s):Ae X pins σ H s:=⟨I.ok.aS,I.os,I.bare,I.base,I.loc,I.cell,I.free,I.aP,I.pin,I.ab,I.len⟩
theorem SP.aS {D:Ez} {f:Flow} {s':Shared} (h:SP (X.cw E) pins D f s'):SP X pins D f s':=by
 cases f with
 | next=>obtain ⟨σ',H',I,q⟩ := h; exact ⟨σ',H',I.aS,q⟩
 | brk=>obtain ⟨σ',H',I,q⟩ := h; exact ⟨σ',H',I.aS,q⟩
 | cont=>obtain ⟨σ',H',I,q⟩ := h; exact ⟨σ',H',I.aS,q⟩
 | ret u=>obtain ⟨v,σ',H',I,r,q⟩ := h; exact ⟨v,σ',H',I.aS,r,q⟩
theorem PE.gq {e:Expr} {t:TE} (h:PE X.gq e t):PE X e t:=fun pins s σ H Q I hw =>
 wpAny_mono (h pins s σ H Q (I.cw _) hw) (fun _ _ ⟨v,H',I',r,q⟩=>⟨v,H',I'.aS,r,q⟩) fun _ _ z=>False.elim z
theorem PT.gq {e:Expr} {t:TT} (h:PT X.gq e t):PT X e t:=fun pins s σ H Q I hw =>
 wpAny_mono (h pins s σ H Q (I.cw _) hw) (fun _ _ ⟨H',I',q⟩=>⟨H',I'.aS,q⟩) fun _ _ z=>False.elim z
theorem Kp.gq {st:List Stmt} {t:TS} (h:Kp X.gq st t):Kp X st t:=fun pins s σ H D I hw =>
 wpAny_mono (h pins s σ H D (I.cw _) hw) (fun _ _ q=>q.aS) fun _ _ z=>False.elim z
end
section
variable {X:Cx} {st:Stmt} {rest:List Stmt} {t u:TS} {e:Expr} {te:TE} {pos:Pos}
def R7:TS:=fun D σ H=>D.nx σ H
def T4 (t u:TS):TS:=fun D σ H=>t { D with nx:=u D } σ H
theorem Ay:Kp X [] R7:=fun _ _ σ H _ I h=>wpAny_execs_nil ⟨σ,H,I,h⟩
theorem A4 (h1:PS X st t) (h2:Kp X rest u):Kp X (st :: rest) (T4 t u):=by
 intro pins s σ H D I h
 refine wpAny_execs_cons (C8 (h1 pins s σ H { D with nx:=u D } I h) fun f s1 q=>?_)
 cases f with
 | next =>
  obtain ⟨σ',H',I',q⟩ := q
  exact h2 pins s1 σ' H' D I' q
 | ret v=>exact q
 | brk=>exact q
 | cont=>exact q
theorem A6 (h1:PS X st t):Kp X [st] t:=by
 intro pins s σ H D I h
 refine wpAny_execs_cons (C8 (h1 pins s σ H D I h) fun f s1 q=>?_)
 cases f with
 | next=>exact wpAny_execs_nil q
 | ret v=>exact q
 | brk=>exact q
 | cont=>exact q
def So:TS:=fun D σ H=>D.bk σ H
def U3:TS:=fun D σ H=>D.ct σ H
theorem Ae.quiet {pins:List (Addr × Obj)} {σ:St} {H:Hp} {s:Shared} (I:Ae X pins σ H s):interactive X.env = false:=by simp [interactive,I.ok.kind]
def R3 (te:TE):TS:=fun D σ H=>te σ H fun _ H1=>D.nx σ H1
theorem E6 (he:PE X e te) (hs:swapsWith e none pos.line X.env = pure false:=by rfl):PS X (.Expr e pos) (R3 te):=by
 intro pins s σ H D I h
 exact wpAny_Expr_any (C8 (he pins s σ H _ I h) fun v s1 ⟨x,H1,I1,r1,q1⟩=>⟨σ,H1,I1,q1⟩) I.quiet hs
def T3 (te:TE):TS:=fun D σ H=>te σ H D.rt
theorem Ag (he:PE X e te):PS X (.Return (some e) pos) (T3 te):=by
 intro pins s σ H D I h
 exact wpAny_Return_some (C8 (he pins s σ H _ I h) fun v s1 ⟨x,H1,I1,r1,q1⟩=>⟨x,σ,H1,I1,r1,q1⟩)
def U6:TS:=fun D _ H=>D.rt .aA H
def Sx (c:TT) (t u:TS):TS:=fun D σ H=>c σ H fun b H1=>if b = true then t D σ H1 else u D σ H1
theorem Bo {c:Expr} {a b:List Stmt} {tc:TT} (hc:PT X c tc) (ha:Kp X a t) (hb:Kp X b u):PS X (.If c a b pos) (Sx tc t u):=by
 intro pins s σ H D I h
 refine wpAny_If (C8 (hc pins s σ H _ I h) fun d s1 aZ=>?_)
 obtain ⟨H1,I1,q1⟩ := aZ
 cases d with
 | true=>exact ha pins s1 σ H1 D I1 q1
 | false=>exact hb pins s1 σ H1 D I1 q1
def Pm:TS:=fun _ _ _=>False
theorem B2:PS X st Pm:=fun _ _ _ _ _ _ h=>h.elim
end
abbrev TG:=V -> St -> Hp -> (St -> Hp -> Prop) -> Prop
abbrev Nd:=List V -> St -> Hp -> (St -> Hp -> Prop) -> Prop
def PG (X:Cx) (target:Expr) (t:TG):Prop :=
 ∀ (pins:List (Addr × Obj)) (s:Shared) (σ:St) (H:Hp) (v:V) (u:Value) (Q:St -> Hp -> Prop),Ae X pins σ H s -> B1 v u -> t v σ H Q ->
  wpAny (model X.prog X.w) X.A (assign target X.env u) (fun _ s'=>∃ σ' H',Ae X pins σ' H' s' /\ Q σ' H') X.xe s
def Pz (X:Cx) (ts:List Expr) (t:Nd):Prop :=
 ∀ (pins:List (Addr × Obj)) (s:Shared) (σ:St) (H:Hp) (vs:List V) (us:List Value) (Q:St -> Hp -> Prop),Ae X pins σ H s -> Ao vs us -> t vs σ H Q ->
  wpAny (model X.prog X.w) X.A (assignInOrder ((assignEach ts X.env).map (·.2)) us) (fun _ s'=>∃ σ' H',Ae X pins σ' H' s' /\ Q σ' H') X.xe s
abbrev On:=V -> V -> V -> Hp -> (Hp -> Prop) -> Prop
def Uj (X:Cx) (t:On):Prop :=
 ∀ (pins:List (Addr × Obj)) (s:Shared) (σ:St) (H:Hp) (o i v:V) (ov iv u:Value) (Q:Hp -> Prop),Ae X pins σ H s -> B1 o ov -> B1 i iv -> B1 v u -> t o i v H Q ->
  wpAny (model X.prog X.w) X.A (setItem ov iv u) (fun _ s'=>∃ H',Ae X pins σ H' s' /\ Q H') X.xe s
abbrev Rh:=V -> V -> Hp -> VK -> Prop
def Vu (X:Cx) (op:Operator) (t:Rh):Prop :=
 ∀ (pins:List (Addr × Obj)) (s:Shared) (σ:St) (H:Hp) (x y:V) (v u:Value) (Q:VK),Ae X pins σ H s -> B1 x v -> B1 y u -> t x y H Q ->
  wpAny (model X.prog X.w) X.A (inplaceOp op v u) (EP X pins σ Q) X.xe s
section
variable {X:Cx} {pos:Pos}
def Ge (i:Nat):TG:=fun v σ H Q=>Q (σ.set i (some v)) H
theorem Aa {i:Nat} {x:Str} (hN:X.N.Nodup) (hi:X.N[i]? = some x) (hx:Re X.env.scope x) (hf:X.fn x = true \/ X.env.scope.names.lookup x = some .local:=by first | exact .inl rfl | exact .inr rfl | assumption):PG X (.Name x pos) (Ge i):=by
 intro pins s σ H v u Q I r h
 exact wpAny_assign_Name (Jp I hN hi hx r (fun s' I'=>⟨_,H,I',h⟩) hf)
def Q4:Nd:=fun vs σ H Q=>vs = [] /\ Q σ H
def Mc (t:TG) (u:Nd):Nd:=fun vs σ H Q=>∃ v r,vs = v :: r /\ t v σ H fun σ' H'=>u r σ' H' Q
theorem Bn:Pz X [] Q4:=by
 intro pins s σ H vs us Q I r h
 obtain ⟨e,h⟩ := h
 subst e
 cases r
 exact assignInOrder_nil ⟨σ,H,I,h⟩
theorem Ad {e : Expr} {es : List Expr} {t : TG} {u : Nd} (h1 : PG X e t) (h2 : Pz X es u)
  (hs:(assignEach (e :: es) X.env).map (·.2) = assign e X.env :: (assignEach es X.env).map (·.2):=by rfl):Pz X (e :: es) (Mc t u):=by
 intro pins s σ H vs us Q I r h
 obtain ⟨v,vr,e1,h⟩ := h
 subst e1
 cases r with
 | cons r rr =>
  rw [hs]
  refine assignInOrder_cons (C8 (h1 pins s σ H _ _ _ I r h) fun _ s1 aZ=>?_)
  obtain ⟨σ1,H1,I1,q1⟩ := aZ
  exact h2 pins s1 σ1 H1 _ _ Q I1 rr q1
def Ov (K:PySem.W.Frag) (n:Nat) (t:Nd):TG:=fun v σ H Q=>∃ a xs,v = .ref a /\ B6 K H a xs /\ xs.length = n /\ t xs σ H Q
theorem Pb {es : List Expr} {k : Nat} {t : Nd} {n : Nat} (hc : X.calm = true) (h : Pz X es t)
  (hn:(assignEach es X.env).length = n:=by rfl) (ff:(assignEach es X.env).findIdx? (·.1) = none:=by rfl):PG X (.Tuple es k pos) (Ov X.K n t):=by
 intro pins s σ H v u Q I r hw
 obtain ⟨a,xs,e1,hq,hl,hw⟩ := hw
 subst e1
 cases r
 obtain ⟨ag,rv,ht,hz⟩ := I.tuple hq
 refine assign_Tuple_tuple (I.ok.hd hc) ht (by simp [hn,<- hl,rv.length]) ff fun h' hx=>?_
 have I1:Ae X pins σ H { s with heap:=h' }:=I.kept (t':=s.toks) fun b o e=>hx b o (Nat.ne_of_lt (Heap.lt_size e)) e
 exact h pins _ σ H xs _ Q I1 (by simpa using rv) hw
def Uq (to ti:TE) (t:On):TG:=fun v σ H Q=>to σ H fun o H1=>ti σ H1 fun i H2=>t o i v H2 fun H3=>Q σ H3
def Sn (te:TE) (g:TG):TS:=fun D σ H=>te σ H fun x H1=>g x σ H1 D.nx
theorem Az {i : Nat} {x : Str} {e : Expr} {te : TE} {pos' : Pos} (hN : X.N.Nodup) (hi : X.N[i]? = some x) (hx : Re X.env.scope x) (he : PE X e te) (hs : swapsWith e (some (.Name x pos')) pos.line X.env = pure false := by rfl) (hf : X.fn x = true \/ X.env.scope.names.lookup x = some .local := by first | exact .inl rfl | exact .inr rfl | assumption) :
  PS X (.Assign [.Name x pos'] e pos) (Sn te (Ge i)):=by
 intro pins s σ H D I h
 refine wpAny_Assign_Name (C8 (he pins s σ H _ I h) fun v s1 ⟨y,H1,I1,r1,q1⟩=>?_) hs
 exact Jp I1 hN hi hx r1 (fun s2 I2=>⟨_,H1,I2,q1⟩) hf
def Vo (i j:Nat) (ta:TA):TS:=fun D σ H=>ta σ H fun vs H1=>∃ v w,vs = [v,w] /\ D.nx ((σ.set i (some v)).set j (some w)) H1
def Va (i:Nat) (te:TE) (ti:Rh):TS:=fun D σ H=>∃ x,σ[i]? = some (some x) /\ te σ H fun y H1=>ti x y H1 fun z H2=>D.nx (σ.set i (some z)) H2
def U1 (to ti te:TE) (nK:V -> V -> Hp -> VK -> Prop) (tip:Rh) (nL:On):TS:=fun D σ H=>to σ H fun o H1=>ti σ H1 fun i H2=>nK o i H2 fun x H3=>te σ H3 fun y H4=>tip x y H4 fun z H5=>nL o i z H5 fun H6=>D.nx σ H6
def Ui (X:Cx) (t:V -> V -> Hp -> VK -> Prop):Prop :=
 ∀ (pins:List (Addr × Obj)) (s:Shared) (σ:St) (H:Hp) (o i:V) (ov iv:Value) (Q:VK),Ae X pins σ H s -> B1 o ov -> B1 i iv -> t o i H Q ->
  wpAny (model X.prog X.w) X.A (getItem ov iv) (EP X pins σ Q) X.xe s
def Vw (f:Int -> Int -> Int):Rh:=fun x y H Q=>∃ i j,x = .int i /\ y = .int j /\ Q (.int (f i j)) H
end
section
variable {X:Cx} {pos:Pos}
def N6 (c:TT) (tb:TS):TS:=fun D σ H=>∃ W:Nat -> St -> Hp -> Prop,(∃ m,W m σ H) /\ ∀ m σ H,W m σ H ->
 c σ H fun b H1=>if b = true then ∃ N:St -> Hp -> Prop,(∀ σ' H',N σ' H' -> ∃ m',m' < m /\ W m' σ' H') /\ tb { D with nx:=N,ct:=N,bk:=D.nx } σ H1 else D.nx σ H1
theorem Mw {c:Expr} {body:List Stmt} {tc:TT} {tb:TS} (hp:PassesOwn (model X.prog X.w) X.A X.env X.xe) (hc:PT X c tc) (hb:Kp X body tb):PS X (.While c body [] pos) (N6 tc tb):=by
 intro pins s σ H D I h
 obtain ⟨W,⟨m0,w0⟩,turn⟩ := h
 refine wpAny_While (codeAny_whileLoop (fun n s'=>∃ σ' H',Ae X pins σ' H' s' /\ W n σ' H') ?_ m0 ⟨σ,H,I,w0⟩)
 rintro n s1 ⟨σ1,H1,I1,w1⟩
 refine wpAny_passesOwn hp (C8 (hc pins s1 σ1 H1 _ I1 (turn n σ1 H1 w1)) fun b s2 aZ=>?_)
 obtain ⟨H2,I2,q2⟩ := aZ
 cases b with
 | true =>
  obtain ⟨N,hN,q2⟩ := q2
  rw [if_pos rfl]
  refine wpAny_passesOwn hp (C8 (hb pins s2 σ1 H2 _ I2 q2) fun f s3 q3=>?_)
  cases f with
  | next =>
   obtain ⟨σ3,H3,I3,n3⟩ := q3
   obtain ⟨m',hm,w3⟩ := hN σ3 H3 n3
   exact ⟨m',hm,σ3,H3,I3,w3⟩
  | cont =>
   obtain ⟨σ3,H3,I3,n3⟩ := q3
   obtain ⟨m',hm,w3⟩ := hN σ3 H3 n3
   exact ⟨m',hm,σ3,H3,I3,w3⟩
  | brk=>exact q3
  | ret v=>exact q3
 | false =>
  rw [if_neg Bool.false_ne_true]
  exact wpAny_execs_nil ⟨σ1,H2,I2,q2⟩
end
set_option genInjectivity false in
set_option genSizeOf false in
structure It where
 go:Nat -> Hp -> Prop
 i9:Nat -> Hp -> V -> Hp -> Prop
 stop:Nat -> Hp -> Prop
def Gc (X:Cx) (pins:List (Addr × Obj)) (H:Hp) (b:Addr):Prop :=
 H b = none /\ b ≠ X.env.locals /\ b ∉ X.fs /\ (b ∈ X.ex \/ X.s₀.heap.objs.size <= b) /\ (∀ x c,X.env.cells.lookup x = some c -> c ≠ b) /\ ∀ p ∈ X.pn ++ pins,p.1 ≠ b
theorem Ae.eX {X:Cx} {pins:List (Addr × Obj)} {σ:St} {H H':Hp} {s:Shared} {b:Addr} (I:Ae X pins σ H s) (hb:s.heap.objs.size <= b) (hn:H' b = none):Gc X pins H' b:=by
 refine ⟨hn,Nat.ne_of_gt (Nat.lt_of_lt_of_le I.lt hb),I.nE hb,.inr (Nat.le_trans I.sz hb),fun x c e z=>?_,fun p hp z=>?_⟩
 ·obtain ⟨v,q⟩ := I.cell x c e
  exact absurd (Nat.lt_of_lt_of_le q.lt (by rw [z]; exact hb)) (Nat.lt_irrefl _)
 ·exact absurd (Nat.lt_of_lt_of_le (Heap.lt_size (I.pin p hp).1) (by rw [z]; exact hb)) (Nat.lt_irrefl _)
structure Ju (P:Program) (w:World) (K:PySem.W.Frag) (tg:Expr) (J:It) (fp:List Addr) (it:Addr) (tn:Nat -> Heap -> Prop):Prop where
 mem:it ∈ fp
 obj:∀ i h,tn i h -> ∀ b ∈ fp,∃ o,h.get? b = some o /\ ∀ v,o.data ≠ .cell v
 keep:∀ i h h',tn i h -> (∀ b ∈ fp,∀ o,h.get? b = some o -> h'.get? b = some o) -> tn i h'
 item:∀ (X:Cx),X.prog = P -> X.w = w -> X.K = K -> X.calm = true -> ∀ (i:Nat) (pins:List (Addr × Obj)) (s:Shared) (σ:St) (H:Hp) (E:Value -> Shared -> Prop),Ae X pins σ H s -> (∀ b ∈ fp,Gc X pins H b) -> tn i s.heap -> J.go i H ->
  wpAny (model P w) X.A (pyNext (.ref it)) (fun r s1=>∃ u,r = some u /\
   wpAny (model P w) X.A (letOwnedTupleGo tg (.ref it) u) (fun _ s2=>∃ x H',Ae X pins σ H' s2 /\ B1 x u /\ J.i9 i H x H' /\ tn (i + 1) s2.heap /\ ∀ b ∈ fp,H' b = none) E s1) E s
 done:∀ (X:Cx),X.prog = P -> X.w = w -> X.K = K -> X.calm = true -> ∀ (i:Nat) (pins:List (Addr × Obj)) (s:Shared) (σ:St) (H:Hp) (E:Value -> Shared -> Prop),Ae X pins σ H s -> (∀ b ∈ fp,Gc X pins H b) -> tn i s.heap -> J.stop i H ->
  wpAny (model P w) X.A (pyNext (.ref it)) (fun r s1=>r = none /\ Ae X pins σ H s1) E s
 self:∀ (A:Around) (i:Nat) (s:Shared) (Q:Value -> Shared -> Prop) (E:Value -> Shared -> Prop),tn i s.heap -> Q (.ref it) s -> wpAny (model P w) A (pyIter (.ref it)) Q E s
abbrev TI:=St -> Hp -> (It -> Hp -> Prop) -> Prop
def S3 (X:Cx) (pins:List (Addr × Obj)) (σ:St) (tg:Expr) (R:It -> Hp -> Prop) (mZ:Value) (s2:Shared):Prop :=
 ∃ (it:Addr) (fp:List Addr) (tn:Nat -> Heap -> Prop) (J:It) (H':Hp),mZ = .ref it /\ Ae X pins σ H' s2 /\ Ju X.prog X.w X.K tg J fp it tn /\ tn 0 s2.heap /\ (∀ b ∈ fp,Gc X pins H' b) /\ R J H'
def PI (X:Cx) (tg iter:Expr) (wi:TI):Prop :=
 ∀ (pins:List (Addr × Obj)) (s:Shared) (σ:St) (H:Hp) (R:It -> Hp -> Prop),Ae X pins σ H s -> wi σ H R ->
  wpAny (model X.prog X.w) X.A (eval iter X.env) (fun v s1=>wpAny (model X.prog X.w) X.A (pyIter v) (S3 X pins σ tg R) X.xe s1) X.xe s
theorem Me {M : Model} {A : Around} {E : Value -> Shared -> Prop} {s : Shared} {tg : Expr} {it : Addr} {u : Value} {o : Obj} {n : String} {vs : Array Value} {Q : Unit -> Shared -> Prop} (ho : s.heap.get? it = some o) (hc : o.cls = .type n) (hd : o.data = .fields vs)
  (hn:["enumerate","zip","dict_itemiterator","dict_reverseitemiterator","odict_iterator","itertools.zip_longest","itertools.pairwise"].contains n = false) (hQ:Q () s):wpAny M A (letOwnedTupleGo tg (.ref it) u) Q E s:=by
 unfold letOwnedTupleGo
 cases tg <;> first
  | exact wpAny_pure hQ
  | (cases u <;> first
    | exact wpAny_pure hQ
    | (refine wpAny_bind (wpAny_load ho ?_)
       rw [hc,hd]
       show wpAny M A (if (["enumerate","zip","dict_itemiterator","dict_reverseitemiterator","odict_iterator","itertools.zip_longest","itertools.pairwise"].contains n && vs[0]? == some (rawInt _)) = true then _ else _) Q E s
       rw [if_neg (by intro h; rw [hn,Bool.false_and] at h; cases h)]
       exact wpAny_pure hQ))
def Oi (K:PySem.W.Frag) (a:Addr):It :=
 ⟨fun i H=>∃ xs x,As K H a xs /\ xs[i]? = some x,fun i H x H'=>H' = H /\ ∀ xs,As K H a xs -> xs[i]? = some x,fun i H=>∃ xs,As K H a xs /\ xs.length <= i⟩
def S0 (K:PySem.W.Frag) (a:Addr):It :=
 ⟨fun i H=>∃ xs x,B6 K H a xs /\ xs[i]? = some x,fun i H x H'=>H' = H /\ ∀ xs,B6 K H a xs -> xs[i]? = some x,fun i H=>∃ xs,B6 K H a xs /\ xs.length <= i⟩
def Na (lo:Int) (n:Nat):It:=⟨fun i _=>i < n,fun i H x H'=>H' = H /\ x = .int (lo + i),fun i _=>n <= i⟩
theorem Lv {P:Program} {w:World} {K:PySem.W.Frag} {tg:Expr} (a it:Addr):Ju P w K tg (Oi K a) [it] it (fun i h=>h.IsListIter it a i) where
 mem:=by simp
 obj:=fun i h st b hb=>by
  have e:b = it:=by simpa using hb
  subst e
  obtain ⟨o,e,c,d⟩ := st
  exact ⟨o,e,fun v z=>by rw [d] at z; cases z⟩
 keep:=fun i h h' st k=>st.at fun o e=>k it (by simp) o e
 item:=by
  intro X hP hw hK hc i pins s σ H E I hf st hg
  subst hP hw hK
  obtain ⟨xs,x,hq,hx⟩ := hg
  obtain ⟨ag,rv,p,hz⟩ := I.list hq
  obtain ⟨u,hu,ru⟩ := rv.get hx
  obtain ⟨f0,f1,f2,f3,f4,f5⟩ := hf it (by simp)
  refine wpAny_pyNext_list_item st p.isList (x:=u) (by simpa using hu) fun h' gr sb=>?_
  have I1:Ae X pins σ H { s with heap:=h' }:=I.turned (t':=s.toks) (fun b o hb e=>(sb.2 b hb).trans e) f0 f1 f3 f4 f5
  obtain ⟨o,e,c,d⟩ := id gr
  exact ⟨u,rfl,Me (s:={ s with heap:=h' }) e c d (by decide) ⟨x,H,I1,ru,⟨rfl,fun ys hy=>by rw [I.dG hy hq]; exact hx⟩,gr,fun b hb=>(hf b hb).1⟩⟩
 done:=by
  intro X hP hw hK hc i pins s σ H E I hf st hg
  subst hP hw hK
  obtain ⟨xs,hq,hx⟩ := hg
  obtain ⟨ag,rv,p,hz⟩ := I.list hq
  obtain ⟨f0,f1,f2,f3,f4,f5⟩ := hf it (by simp)
  have hl:=rv.length
  exact wpAny_pyNext_list_end (I.ok.hd hc) st p.isList (by simp; omega) fun h' eb=>⟨rfl,I.turned (t':=s.toks) (fun b o hb e=>eb b o hb e) f0 f1 f3 f4 f5⟩
 self:=fun _ _ _ _ _ st h=>wpAny_pyIter_listiter st h
theorem Kj {P:Program} {w:World} {K:PySem.W.Frag} {tg:Expr} (a it:Addr):Ju P w K tg (S0 K a) [it] it (fun i h=>h.IsTupleIter it a i) where
 mem:=by simp
 obj:=fun i h st b hb=>by
  have e:b = it:=by simpa using hb
  subst e
  obtain ⟨o,e,c,d⟩ := st
  exact ⟨o,e,fun v z=>by rw [d] at z; cases z⟩
 keep:=fun i h h' st k=>st.at fun o e=>k it (by simp) o e
 item:=by
  intro X hP hw hK hc i pins s σ H E I hf st hg
  subst hP hw hK
  obtain ⟨xs,x,hq,hx⟩ := hg
  obtain ⟨ag,rv,p,hz⟩ := I.tuple hq
  obtain ⟨u,hu,ru⟩ := rv.get hx
  obtain ⟨f0,f1,f2,f3,f4,f5⟩ := hf it (by simp)
  refine wpAny_pyNext_tuple_item st (show s.heap.IsTuple a ag.toArray from p) (x:=u) (by simpa using hu) fun h' gr sb=>?_
  have I1:Ae X pins σ H { s with heap:=h' }:=I.turned (t':=s.toks) (fun b o hb e=>(sb.2 b hb).trans e) f0 f1 f3 f4 f5
  obtain ⟨o,e,c,d⟩ := id gr
  exact ⟨u,rfl,Me (s:={ s with heap:=h' }) e c d (by decide) ⟨x,H,I1,ru,⟨rfl,fun ys hy=>by rw [I.d5 hy hq]; exact hx⟩,gr,fun b hb=>(hf b hb).1⟩⟩
 done:=by
  intro X hP hw hK hc i pins s σ H E I hf st hg
  subst hP hw hK
  obtain ⟨xs,hq,hx⟩ := hg
  obtain ⟨ag,rv,p,hz⟩ := I.tuple hq
  obtain ⟨f0,f1,f2,f3,f4,f5⟩ := hf it (by simp)
  have hl:=rv.length
  exact wpAny_pyNext_tuple_end (I.ok.hd hc) st (show s.heap.IsTuple a ag.toArray from p) (by simp; omega) fun h' eb=>⟨rfl,I.turned (t':=s.toks) (fun b o hb e=>eb b o hb e) f0 f1 f3 f4 f5⟩
 self:=fun _ _ _ _ _ st h=>wpAny_pyIter_tupleiter st h
theorem Ki {P:Program} {w:World} {K:PySem.W.Frag} {tg:Expr} (it:Addr) (lo:Int) (n:Nat):Ju P w K tg (Na lo n) [it] it (fun i h=>IsRangeIter h it (lo + (i:Nat) * 1) ((n:Int) - (i:Nat)) 1) where
 mem:=by simp
 obj:=fun i h st b hb=>by
  have e:b = it:=by simpa using hb
  subst e
  exact ⟨_,st,fun v z=>by
   have z':Data.fields _ = Data.cell v:=z
   cases z'⟩
 keep:=fun i h h' st k=>k it (by simp) _ st
 item:=by
  intro X hP hw hK hc i pins s σ H E I hf st hg
  subst hP hw hK
  obtain ⟨f0,f1,f2,f3,f4,f5⟩ := hf it (by simp)
  have W:=Walks.range (prog:=X.prog) (w:=X.w) (I.ok.hd hc) it lo 1 n
  refine W.item i s _ _ hg st fun v h' tk hv gr kk=>?_
  obtain ⟨t,rfl⟩ := hv
  have I1:Ae X pins σ H { s with heap:=h',toks:=tk }:=I.turned (fun b o hb e=>kk b o (by simpa using hb) e) f0 f1 f3 f4 f5
  refine ⟨_,rfl,Me (s:={ s with heap:=h',toks:=tk }) (n := "range_iterator") gr rfl rfl (by decide) ⟨.int (lo + i),H,I1,⟨t,?_⟩,⟨rfl,rfl⟩,gr,fun b hb=>(hf b hb).1⟩⟩
  rw [Int.mul_one]
 done:=by
  intro X hP hw hK hc i pins s σ H E I hf st hg
  subst hP hw hK
  obtain ⟨f0,f1,f2,f3,f4,f5⟩ := hf it (by simp)
  exact wpAny_pyNext_range_end (I.ok.hd hc) st (by have:n <= i:=hg; omega) fun h' eb=>⟨rfl,I.turned (t':=s.toks) (fun b o hb e=>eb b o hb e) f0 f1 f3 f4 f5⟩
 self:=fun _ _ _ _ _ st h=>wpAny_pyIter_rangeiter st h
section
variable {X:Cx} {tg:Expr}
def Tf (K:PySem.W.Frag) (tl:TE):TI:=fun σ H R=>tl σ H fun x H1=>∃ a,x = .ref a /\ (∃ xs,As K H1 a xs) /\ R (Oi K a) H1
def Uu (K:PySem.W.Frag) (tl:TE):TI:=fun σ H R=>tl σ H fun x H1=>∃ a,x = .ref a /\ (∃ xs,B6 K H1 a xs) /\ R (S0 K a) H1
theorem Mx {pins : List (Addr × Obj)} {σ : St} {H : Hp} {s : Shared} {R : It -> Hp -> Prop} {E : Value -> Shared -> Prop} {lo hi : Int} {t u v : Tok} {tk : Nat} (I : Ae X pins σ H s) (h1 : -(2 ^ 62) <= lo) (h2 : lo < 2 ^ 62) (h3 : -(2 ^ 62) <= hi) (h4 : hi < 2 ^ 62)
  (q:R (Na lo (hi - lo).toNat) H):wpAny (model X.prog X.w) X.A (pyIter (.ref s.heap.objs.size)) (S3 X pins σ tg R) E { s with heap:=s.heap.push { cls := .type "range",data := .fields #[.int lo t,.int hi u,.int 1 v] },toks:=tk }:=by
 refine wpAny_pyIter_range (IsRange.new ..) (small_one h1 h2 h3 h4) ?_
 have I1:Ae X pins σ H { s with heap:=s.heap.push { cls := .type "range",data := .fields #[.int lo t,.int hi u,.int 1 v] },toks:=tk }:=I.kept fun b o e=>Heap.get?_push_of_some _ e
 refine ⟨(s.heap.push { cls := .type "range",data := .fields #[.int lo t,.int hi u,.int 1 v] }).objs.size,[(s.heap.push { cls := .type "range",data := .fields #[.int lo t,.int hi u,.int 1 v] }).objs.size],_,_,H,rfl,
  I1.kept (t':=tk) fun b o e=>Heap.get?_push_of_some _ e,Ki _ lo (hi - lo).toNat,?_,fun b hb=>?_,q⟩
 ·have e1:lo + ((0:Nat):Int) * 1 = lo:=by simp
  have e2:(((hi - lo).toNat:Nat):Int) - ((0:Nat):Int) = Builtin.Range.rangeSize lo hi 1:=by rw [rangeSize_one]; split <;> omega
  show IsRangeIter _ _ (lo + ((0:Nat):Int) * 1) ((((hi - lo).toNat:Nat):Int) - ((0:Nat):Int)) 1
  rw [e1,e2]
  exact Heap.get?_push_size _ rfl
 ·have e:b = (s.heap.push { cls := .type "range",data := .fields #[.int lo t,.int hi u,.int 1 v] }).objs.size:=by simpa using hb
  subst e
  exact I1.eX (Nat.le_refl _) (I1.ab.fresh (Nat.le_refl _))
def Q5 (ta:TA):TI:=fun σ H R=>ta σ H fun vs H1=>∃ j:Int,vs = [.int j] /\ -(2 ^ 62) <= j /\ j < 2 ^ 62 /\ R (Na 0 j.toNat) H1
def Tg (ta:TA):TI:=fun σ H R=>ta σ H fun vs H1=>∃ i j:Int,vs = [.int i,.int j] /\ (-(2 ^ 62) <= i /\ i < 2 ^ 62 /\ -(2 ^ 62) <= j /\ j < 2 ^ 62) /\ R (Na i (j - i).toNat) H1
theorem Cr {a:Expr} {ta:TA} {p pos:Pos} (hg:Gl X "range") (hm:X.mg "range" = none) (ha:PA X [a] ta) (hs:starEach [a] X.env = [(false,eval a X.env)]:=by rfl):PI X tg (.Call (.Name "range" p) [a] [] pos) (Q5 ta):=by
 intro pins s σ H R I h
 refine Call_ (Ee I hg hm boot_range (PyProof.Rows.callWith_type1 (C8 (ha pos pins s σ H _ I h) fun us s1 ⟨vs,H1,I1,r1,q1⟩=>?_) hs rfl))
 obtain ⟨j,e,q1,q2,q⟩ := q1
 subst e
 cases r1 with
 | cons r rr =>
  cases rr
  obtain ⟨t,rfl⟩ := r
  exact call_range_1 (Mx I1 (by omega) (by omega) q1 q2 (by simpa using q))
def Sw (wi:TI) (g:TG) (tb:TS):TS:=fun D σ H=>wi σ H fun J H1=>∃ W:Nat -> Nat -> St -> Hp -> Prop,(∃ m,W 0 m σ H1) /\ ∀ i m σ H,W i m σ H ->
 (J.stop i H /\ D.nx σ H) \/ (J.go i H /\ ∃ N:St -> Hp -> Prop,(∀ σ' H',N σ' H' -> ∃ m',m' < m /\ W (i + 1) m' σ' H') /\ ∀ x H',J.i9 i H x H' -> g x σ H' fun σ2 H2=>tb { D with nx:=N,ct:=N,bk:=D.nx } σ2 H2)
def Gq (fp:List Addr) (h:Heap):List (Addr × Obj):=fp.filterMap fun b=>(h.get? b).map fun o=>(b,o)
theorem E3 {fp:List Addr} {h:Heap} {b:Addr} {o:Obj} (hb:b ∈ fp) (e:h.get? b = some o):(b,o) ∈ Gq fp h:=List.mem_filterMap.mpr ⟨b,hb,by rw [e]; rfl⟩
theorem Lj {fp:List Addr} {h:Heap} {p:Addr × Obj} (hp:p ∈ Gq fp h):p.1 ∈ fp /\ h.get? p.1 = some p.2:=by
 obtain ⟨b,hb,e⟩ := List.mem_filterMap.mp hp
 cases q:h.get? b with
 | none=>rw [q] at e; cases e
 | some o =>
  rw [q] at e
  have e':(b,o) = p:=Option.some.inj e
  subst e'
  exact ⟨hb,q⟩
theorem Ae.pinned {pins:List (Addr × Obj)} {σ:St} {H:Hp} {s:Shared} {fp:List Addr} (I:Ae X pins σ H s) (hf:∀ b ∈ fp,Gc X pins H b) (ho:∀ b ∈ fp,∃ o,s.heap.get? b = some o /\ ∀ v,o.data ≠ .cell v):Ae X (pins ++ Gq fp s.heap) σ H s :=
 I.eJ fun p hp=>(List.mem_append.mp hp).elim (fun z=>I.pin p (List.mem_append_right _ z)) fun z=>by
  obtain ⟨hb,e⟩ := Lj z
  obtain ⟨f0,f1,f2,_⟩ := hf p.1 hb
  obtain ⟨o,e',d⟩ := ho p.1 hb
  rw [e] at e'; cases e'
  exact ⟨e,f0,f1,f2,d⟩
theorem Ae.bK {pins pl:List (Addr × Obj)} {σ:St} {H:Hp} {s:Shared} (I:Ae X (pins ++ pl) σ H s):Ae X pins σ H s:=I.eJ fun p hp=>I.pin p (List.mem_append_right _ (List.mem_append_left _ hp))
theorem Bw {iter : Expr} {body : List Stmt} {wi : TI} {g : TG} {tb : TS} {pos : Pos} (hp : PassesOwn (model X.prog X.w) X.A X.env X.xe) (hc : X.calm = true) (hi : PI X tg iter wi) (hg : PG X tg g) (hb : Kp X body tb)
  (hs:∀ x,foldedSetIterable iter X.env x = pure x:=by intro _; rfl):PS X (.For tg iter body [] pos) (Sw wi g tb):=by
 intro pins s σ H D I h
 refine wpAny_For (C8 (hi pins s σ H _ I h) fun v s1 h1=>C8 h1 fun mZ s2 h2=>?_) hs
 obtain ⟨it,fp,tn,J,H2,e,I2,T,gN,f2,W,⟨m0,w0⟩,turn⟩ := h2
 subst e
 have stat:∀ {H':Hp},(∀ b ∈ fp,H' b = none) -> ∀ b ∈ fp,Gc X pins H' b:=fun hn b hb=>⟨hn b hb,(f2 b hb).2⟩
 refine codeAny_forLoop_any (fun n s'=>∃ i σ' H',Ae X pins σ' H' s' /\ tn i s'.heap /\ (∀ b ∈ fp,H' b = none) /\ W i n σ' H') ?_ m0 ⟨0,σ,H2,I2,gN,fun b hb=>(f2 b hb).1,w0⟩
 rintro n s3 ⟨i,σ3,H3,I3,kb,n0,w3⟩
 rcases turn i n σ3 H3 w3 with ⟨stop,qn⟩ | ⟨go,N,hN,step⟩
 ·refine wpAny_passesOwn hp (C8 (T.done X rfl rfl rfl hc i pins s3 σ3 H3 X.xe I3 (stat n0) kb stop) fun r s4 aZ=>?_)
  obtain ⟨hr,I4⟩ := aZ
  subst hr
  exact wpAny_execs_nil ⟨σ3,H3,I4,qn⟩
 ·refine wpAny_passesOwn hp (C8 (T.item X rfl rfl rfl hc i pins s3 σ3 H3 X.xe I3 (stat n0) kb go) fun r s4 aZ=>?_)
  obtain ⟨u,hr,h4⟩ := aZ
  subst hr
  refine wpAny_passesOwn hp (C8 h4 fun _ s5 aZ=>?_)
  obtain ⟨x,H5,I5,r5,y5,nM,fr5⟩ := aZ
  have I5':=I5.pinned (stat fr5) (T.obj _ _ nM)
  refine wpAny_passesOwn hp (C8 (hg _ s5 σ3 H5 x u _ I5' r5 (step x H5 y5)) fun _ s6 aZ=>?_)
  obtain ⟨σ6,H6,I6,q6⟩ := aZ
  refine wpAny_passesOwn hp (C8 (hb _ s6 σ6 H6 _ I6 q6) fun f s7 q7=>?_)
  have again:∀ {σ7:St} {H7:Hp},Ae X (pins ++ Gq fp s5.heap) σ7 H7 s7 -> N σ7 H7 -> ∃ m,m < n /\ ∃ i σ' H',Ae X pins σ' H' s7 /\ tn i s7.heap /\ (∀ b ∈ fp,H' b = none) /\ W i m σ' H':=fun {σ7 H7} I7 n7=>by
   obtain ⟨m',hm,w7⟩ := hN σ7 H7 n7
   refine ⟨m',hm,i + 1,σ7,H7,I7.bK,T.keep _ _ _ nM fun b hb o e=>(I7.pin (b,o) (List.mem_append_right _ (List.mem_append_right _ (E3 hb e)))).1,fun b hb=>?_,w7⟩
   obtain ⟨o,e,d⟩ := T.obj _ _ nM b hb
   exact (I7.pin (b,o) (List.mem_append_right _ (List.mem_append_right _ (E3 hb e)))).2.1
  cases f with
  | next=>obtain ⟨σ7,H7,I7,n7⟩ := q7; exact again I7 n7
  | cont=>obtain ⟨σ7,H7,I7,n7⟩ := q7; exact again I7 n7
  | brk=>obtain ⟨σ7,H7,I7,q7⟩ := q7; exact ⟨σ7,H7,I7.bK,q7⟩
  | ret v=>obtain ⟨x7,σ7,H7,I7,r7,q7⟩ := q7; exact ⟨x7,σ7,H7,I7.bK,r7,q7⟩
end
theorem Ct {K : PySem.W.Frag} {a : Addr} {xs : List V} {g : TG} {tb : TS} {D : Ez} {σ : St} {H : Hp} (Pv : Nat -> St -> Hp -> Prop) (h0 : Pv 0 σ H) (hl : ∀ i σ H, i <= xs.length -> Pv i σ H -> As K H a xs)
  (hs:∀ i x σ H,xs[i]? = some x -> Pv i σ H -> g x σ H fun σ2 H2=>tb { D with nx:=Pv (i + 1),ct:=Pv (i + 1),bk:=D.nx } σ2 H2) (hd:∀ σ H,Pv xs.length σ H -> D.nx σ H) :
  ∃ W:Nat -> Nat -> St -> Hp -> Prop,(∃ m,W 0 m σ H) /\ ∀ i m σ H,W i m σ H ->
   ((Oi K a).stop i H /\ D.nx σ H) \/ ((Oi K a).go i H /\ ∃ N:St -> Hp -> Prop,(∀ σ' H',N σ' H' -> ∃ m',m' < m /\ W (i + 1) m' σ' H') /\ ∀ x H',(Oi K a).i9 i H x H' -> g x σ H' fun σ2 H2=>tb { D with nx:=N,ct:=N,bk:=D.nx } σ2 H2):=by
 refine ⟨fun i m σ H=>m = xs.length - i /\ i <= xs.length /\ Pv i σ H,⟨xs.length,by simp,Nat.zero_le _,h0⟩,?_⟩
 rintro i m σ H ⟨rfl,hi,p⟩
 have q:=hl i σ H hi p
 by_cases bD:i < xs.length
 ·refine .inr ⟨⟨xs,xs[i],q,by simp [bD]⟩,Pv (i + 1),fun σ' H' p'=>⟨xs.length - (i + 1),by omega,rfl,bD,p'⟩,fun x H' y=>?_⟩
  obtain ⟨e,y⟩ := y
  subst e
  exact hs i x σ _ (y xs q) p
 ·have e:i = xs.length:=by omega
  subst e
  exact .inl ⟨⟨xs,q,Nat.le_refl _⟩,hd σ H p⟩
theorem La {lo : Int} {n : Nat} {g : TG} {tb : TS} {D : Ez} {σ : St} {H : Hp} (Pv : Nat -> St -> Hp -> Prop) (h0 : Pv 0 σ H)
  (hs:∀ i σ H,i < n -> Pv i σ H -> g (.int (lo + i)) σ H fun σ2 H2=>tb { D with nx:=Pv (i + 1),ct:=Pv (i + 1),bk:=D.nx } σ2 H2) (hd:∀ σ H,Pv n σ H -> D.nx σ H) :
  ∃ W:Nat -> Nat -> St -> Hp -> Prop,(∃ m,W 0 m σ H) /\ ∀ i m σ H,W i m σ H ->
   ((Na lo n).stop i H /\ D.nx σ H) \/ ((Na lo n).go i H /\ ∃ N:St -> Hp -> Prop,(∀ σ' H',N σ' H' -> ∃ m',m' < m /\ W (i + 1) m' σ' H') /\ ∀ x H',(Na lo n).i9 i H x H' -> g x σ H' fun σ2 H2=>tb { D with nx:=N,ct:=N,bk:=D.nx } σ2 H2):=by
 refine ⟨fun i m σ H=>m = n - i /\ i <= n /\ Pv i σ H,⟨n,by simp,Nat.zero_le _,h0⟩,?_⟩
 rintro i m σ H ⟨rfl,hi,p⟩
 by_cases bD:i < n
 ·refine .inr ⟨bD,Pv (i + 1),fun σ' H' p'=>⟨n - (i + 1),by omega,rfl,bD,p'⟩,fun x H' y=>?_⟩
  obtain ⟨e,y⟩ := y
  subst e y
  exact hs i σ _ bD p
 ·have e:i = n:=by omega
  subst e
  exact .inl ⟨Nat.le_refl _,hd σ H p⟩
theorem N8 {c : TT} {tb : TS} {D : Ez} {σ : St} {H : Hp} (Pv : St -> Hp -> Prop) (μ : St -> Hp -> Nat) (h0 : Pv σ H)
  (hs:∀ σ H,Pv σ H -> c σ H fun b H1=>if b = true then tb { D with nx:=fun σ' H'=>Pv σ' H' /\ μ σ' H' < μ σ H,ct:=fun σ' H'=>Pv σ' H' /\ μ σ' H' < μ σ H,bk:=D.nx } σ H1 else D.nx σ H1)
  (mono:∀ σ H Q Q',(∀ b H1,Q b H1 -> Q' b H1) -> c σ H Q -> c σ H Q'):N6 c tb D σ H:=by
 refine ⟨fun m σ H=>m = μ σ H /\ Pv σ H,⟨_,rfl,h0⟩,?_⟩
 rintro m σ H ⟨rfl,p⟩
 refine mono σ H _ _ (fun b H1 q=>?_) (hs σ H p)
 cases b with
 | true=>exact ⟨_,fun σ' H' ⟨p',l⟩=>⟨_,l,rfl,p'⟩,q⟩
 | false=>exact q
abbrev R2:=V -> V -> Hp -> VK -> Prop
def Gy (X:Cx) (f:Value -> Value -> Sem Value) (r:R2):Prop :=
 ∀ (pins:List (Addr × Obj)) (s:Shared) (σ:St) (H:Hp) (x y:V) (v u:Value) (Q:VK),Ae X pins σ H s -> B1 x v -> B1 y u -> r x y H Q ->
  wpAny (model X.prog X.w) X.A (f v u) (EP X pins σ Q) X.xe s
def Vv (X:Cx) (f:Value -> Sem Value) (r:V -> Hp -> VK -> Prop):Prop :=
 ∀ (pins:List (Addr × Obj)) (s:Shared) (σ:St) (H:Hp) (x:V) (v:Value) (Q:VK),Ae X pins σ H s -> B1 x v -> r x H Q ->
  wpAny (model X.prog X.w) X.A (f v) (EP X pins σ Q) X.xe s
def Ht (X:Cx) (f:Value) (r:List V -> Hp -> VK -> Prop):Prop :=
 ∀ (pins:List (Addr × Obj)) (s:Shared) (σ:St) (H:Hp) (xs:List V) (us:List Value) (Q:VK),Ae X pins σ H s -> Ao xs us -> r xs H Q ->
  wpAny (model X.prog X.w) X.A (call f us) (EP X pins σ Q) X.xe s
def Ul (X:Cx) (r:V -> Hp -> (Bool -> Hp -> Prop) -> Prop):Prop :=
 ∀ (pins:List (Addr × Obj)) (s:Shared) (σ:St) (H:Hp) (x:V) (v:Value) (Q:Bool -> Hp -> Prop),Ae X pins σ H s -> B1 x v -> r x H Q ->
  wpAny (model X.prog X.w) X.A (truthy v) (TP X pins σ Q) X.xe s
def Rq (r:R2) (ta tb:TE):TE:=fun σ H Q=>ta σ H fun x H1=>tb σ H1 fun y H2=>r x y H2 Q
def W4 (r:V -> Hp -> VK -> Prop) (ta:TE):TE:=fun σ H Q=>ta σ H fun x H1=>r x H1 Q
def rI (C:Int -> Int -> Prop) (g:Int -> Int -> V):R2:=fun x y H Q=>∃ i j,x = .int i /\ y = .int j /\ C i j /\ Q (g i j) H
def Od (g:Int -> Int -> V):R2:=fun x y H Q=>∃ i j,x = .int i /\ y = .int j /\ Q (g i j) H
def rU (g:Int -> V):V -> Hp -> VK -> Prop:=fun x H Q=>∃ i,x = .int i /\ Q (g i) H
section
variable {X:Cx} {a b c:Expr} {ta tb tc:TE} {pos:Pos}
theorem Oo (ha : PE X a ta) (hb : PE X b tb) {pins : List (Addr × Obj)} {s : Shared} {σ : St} {H : Hp} {R : V -> V -> Hp -> Prop} (I : Ae X pins σ H s)
  (h:ta σ H fun x H1=>tb σ H1 fun y H2=>R x y H2) {Q:Value -> Shared -> Prop} {f:Value -> Value -> Sem Value}
  (hf:∀ v u s2 x y H2,Ae X pins σ H2 s2 -> B1 x v -> B1 y u -> R x y H2 -> wpAny (model X.prog X.w) X.A (f v u) Q X.xe s2) :
  wpAny (model X.prog X.w) X.A (eval a X.env) (fun v s₁=>wpAny (model X.prog X.w) X.A (eval b X.env) (fun u s₂=>wpAny (model X.prog X.w) X.A (f v u) Q X.xe s₂) X.xe s₁) X.xe s:=by
 refine C8 (ha pins s σ H _ I h) fun v s1 aZ=>?_
 obtain ⟨x,H1,I1,r1,q1⟩ := aZ
 refine C8 (hb pins s1 σ H1 _ I1 q1) fun u s2 aZ=>?_
 obtain ⟨y,H2,I2,r2,q2⟩ := aZ
 exact hf v u s2 x y H2 I2 r1 r2 q2
theorem Ab {op:Operator} {r:R2} (ho:Gy X (binaryOp op) r) (ha:PE X a ta) (hb:PE X b tb):PE X (.BinOp a op b pos) (Rq r ta tb):=by
 intro pins s σ H Q I h
 exact wpAny_BinOp (Oo ha hb I h fun v u s2 x y H2 I2 rx ry q=>ho pins s2 σ H2 x y v u Q I2 rx ry q)
theorem Qj {f : Value -> Value -> Sem Value} {C : Int -> Int -> Prop} {g : Int -> Int -> Int}
  (rule:∀ (i j:Int) (t u:Tok) (s:Shared) (Q:Value -> Shared -> Prop) (E:Value -> Shared -> Prop),C i j -> Q (.int (g i j) s.toks) { s with toks:=s.toks + 1 } -> wpAny (model X.prog X.w) X.A (f (.int i t) (.int j u)) Q E s) :
  Gy X f (rI C fun i j=>.int (g i j)):=by
 intro pins s σ H x y v u Q I rx ry h
 obtain ⟨i,j,rfl,rfl,hc,q⟩ := h
 obtain ⟨t,rfl⟩ := rx
 obtain ⟨t',rfl⟩ := ry
 exact rule i j t t' s _ _ hc ⟨.int (g i j),H,I.tok _,⟨_,rfl⟩,q⟩
theorem Qk {f : Value -> Value -> Sem Value} {g : Int -> Int -> Int}
  (rule:∀ (i j:Int) (t u:Tok) (s:Shared) (Q:Value -> Shared -> Prop) (E:Value -> Shared -> Prop),Q (.int (g i j) s.toks) { s with toks:=s.toks + 1 } -> wpAny (model X.prog X.w) X.A (f (.int i t) (.int j u)) Q E s) :
  Gy X f (Od fun i j=>.int (g i j)):=by
 intro pins s σ H x y v u Q I rx ry h
 obtain ⟨i,j,rfl,rfl,q⟩ := h
 obtain ⟨t,rfl⟩ := rx
 obtain ⟨t',rfl⟩ := ry
 exact rule i j t t' s _ _ ⟨.int (g i j),H,I.tok _,⟨_,rfl⟩,q⟩
theorem Nw {f : Value -> Value -> Sem Value} {g : Int -> Int -> Bool}
  (rule:∀ (i j:Int) (t u:Tok) (s:Shared) (Q:Value -> Shared -> Prop) (E:Value -> Shared -> Prop),Q (.bool (g i j)) s -> wpAny (model X.prog X.w) X.A (f (.int i t) (.int j u)) Q E s) :
  Gy X f (Od fun i j=>.bl (g i j)):=by
 intro pins s σ H x y v u Q I rx ry h
 obtain ⟨i,j,rfl,rfl,q⟩ := h
 obtain ⟨t,rfl⟩ := rx
 obtain ⟨t',rfl⟩ := ry
 exact rule i j t t' s _ _ ⟨.bl (g i j),H,I,rfl,q⟩
def Rx (i j:Int):Prop:=0 < j /\ j < 1073741824
def Ta (i j:Int):Prop:=j ≠ 0 /\ j.natAbs < 1073741824
def Ry (i j:Int):Prop:=0 <= j /\ j <= 1000000 /\ i.natAbs < 2 ^ 64
def Pw (i j:Int):Prop:=(-(2 ^ 64) < i /\ i < 2 ^ 64) \/ (-(2 ^ 64) < j /\ j < 2 ^ 64)
theorem Pw.ok {i j:Int} (h:Pw i j):IntMulOk i j:=by
 rcases h with ⟨h1,h2⟩ | ⟨h1,h2⟩
 ·exact .of_left (intBits_le_64 h1 h2)
 ·exact .of_right (intBits_le_64 h1 h2)
theorem B4:Gy X (binaryOp .Add) (Od fun i j=>.int (i + j)):=Qk fun _ _ _ _ _ _ _ q=>add_int q
theorem Ex:Gy X (binaryOp .Sub) (Od fun i j=>.int (i - j)):=Qk fun _ _ _ _ _ _ _ q=>sub_int q
theorem Cp:Gy X (binaryOp .FloorDiv) (rI Rx fun i j=>.int (i / j)):=Qj fun i j _ _ _ _ _ hc q=>by
 have h1:(0:Int) < j:=hc.1
 have h2:j < 1073741824:=hc.2
 exact floordiv_int (by omega) (by rw [Int.fdiv_eq_ediv_of_nonneg i (by omega)]; exact q) (.inl (PyProof.noPylong_small (by omega)))
theorem Bt:Gy X (binaryOp .Mod) (rI (fun _ j=>0 < j) fun i j=>.int (i % j)):=Qj fun i j _ _ _ _ _ hc q=>by
 have h1:(0:Int) < j:=hc
 exact mod_int' (by omega) (by rw [Int.fmod_eq_emod_of_nonneg i (by omega)]; exact q)
theorem P9:Gy X (binaryOp .Pow) (rI Ry fun i j=>.int (i ^ j.toNat)):=Qj fun _ _ _ _ _ _ _ hc q=>pow_int_small hc.1 hc.2.1 hc.2.2 q
end
def Pk:V -> V -> Bool
 | .aA,.aA=>true | .aA,.int _=>true | .int _,.aA=>true | .aA,.bl _=>true | .bl _,.aA=>true | .aA,.str _=>true | .str _,.aA=>true
 | .int _,.int _=>true | .bl _,.bl _=>true | .str _,.str _=>true | .eE _,.eE _=>true
 | .int _,.str _=>true | .str _,.int _=>true | .bl _,.str _=>true | .str _,.bl _=>true
 | _,_=>false
def Uy:R2:=fun x y H Q=>Pk x y = true /\ Q (.bl (decide (x = y))) H
def V3:R2:=fun x y H Q=>Pk x y = true /\ Q (.bl (!decide (x = y))) H
theorem Ku {i j:Int}:decide (V.int i = V.int j) = (i == j):=by
 rw [Bool.eq_iff_iff]
 simp
theorem M7 {i j:Bool}:decide (V.bl i = V.bl j) = (i == j):=by
 rw [Bool.eq_iff_iff]
 simp
theorem Kv {i j:Str}:decide (V.str i = V.str j) = (i == j):=by
 rw [Bool.eq_iff_iff]
 simp
theorem Kt {i j:Array UInt8}:decide (V.eE i = V.eE j) = (i.toList == j.toList):=by
 rw [Bool.eq_iff_iff]
 cases i
 cases j
 simp
section
variable {X:Cx} {a b c:Expr} {ta tb tc:TE} {pos:Pos}
theorem Ax {pins:List (Addr × Obj)} {σ:St} {H:Hp} {s:Shared} {Q:VK} {k k':Bool} (I:Ae X pins σ H s) (q:Q (.bl k) H) (e:k = k'):EP X pins σ Q (.bool k') s:=by
 subst e
 exact ⟨.bl k,H,I,rfl,q⟩
theorem C7:Gy X (compareOp .Eq) Uy:=by
 intro pins s σ H x y v u Q I rx ry h
 obtain ⟨hs,q⟩ := h
 cases x with
 | aA =>
  cases rx
  cases y with
  | aA=>cases ry; exact PySem.EqNone.eq_none_none (Ax I q (by simp))
  | bl j=>cases ry; exact PySem.EqNone.eq_none_bool (Ax I q (by simp))
  | int j=>obtain ⟨t',rfl⟩ := ry; exact PySem.EqNone.eq_none_int (Ax I q (by simp))
  | str j=>obtain ⟨t',rfl⟩ := ry; exact PySem.EqNone.eq_none_str (Ax I q (by simp))
  | _=>exact absurd (show false = true from hs) Bool.false_ne_true
 | bl i =>
  cases rx
  cases y with
  | aA=>cases ry; exact PySem.EqNone.eq_bool_none (Ax I q (by simp))
  | bl j=>cases ry; exact eq_bool (Ax I q M7)
  | str j=>obtain ⟨t',rfl⟩ := ry; exact PySem.EqMixed.eq_bool_str (Ax I q (by simp))
  | _=>exact absurd (show false = true from hs) Bool.false_ne_true
 | int i =>
  obtain ⟨t,rfl⟩ := rx
  cases y with
  | aA=>cases ry; exact PySem.EqNone.eq_int_none (Ax I q (by simp))
  | int j=>obtain ⟨t',rfl⟩ := ry; exact eq_int (Ax I q Ku)
  | str j=>obtain ⟨t',rfl⟩ := ry; exact PySem.EqMixed.eq_int_str (Ax I q (by simp))
  | _=>exact absurd (show false = true from hs) Bool.false_ne_true
 | str i =>
  obtain ⟨t,rfl⟩ := rx
  cases y with
  | aA=>cases ry; exact PySem.EqNone.eq_str_none (Ax I q (by simp))
  | bl j=>cases ry; exact PySem.EqMixed.eq_str_bool (Ax I q (by simp))
  | int j=>obtain ⟨t',rfl⟩ := ry; exact PySem.EqMixed.eq_str_int (Ax I q (by simp))
  | str j=>obtain ⟨t',rfl⟩ := ry; exact eq_str (Ax I q Kv)
  | _=>exact absurd (show false = true from hs) Bool.false_ne_true
 | eE i =>
  obtain ⟨t,rfl⟩ := rx
  cases y with
  | eE j=>obtain ⟨t',rfl⟩ := ry; exact PySem.W.eq_bytes (Ax I q Kt)
  | _=>exact absurd (show false = true from hs) Bool.false_ne_true
 | _=>cases y <;> exact absurd (show false = true from hs) Bool.false_ne_true
theorem Ms:Gy X (compareOp .NotEq) V3:=by
 intro pins s σ H x y v u Q I rx ry h
 obtain ⟨hs,q⟩ := h
 cases x with
 | aA =>
  cases rx
  cases y with
  | aA=>cases ry; exact PySem.EqNone.ne_none_none (Ax I q (by simp))
  | bl j=>cases ry; exact PySem.EqNone.ne_none_bool (Ax I q (by simp))
  | int j=>obtain ⟨t',rfl⟩ := ry; exact PySem.EqNone.ne_none_int (Ax I q (by simp))
  | str j=>obtain ⟨t',rfl⟩ := ry; exact PySem.EqNone.ne_none_str (Ax I q (by simp))
  | _=>exact absurd (show false = true from hs) Bool.false_ne_true
 | bl i =>
  cases rx
  cases y with
  | aA=>cases ry; exact PySem.EqNone.ne_bool_none (Ax I q (by simp))
  | bl j=>cases ry; exact ne_bool (Ax I q (congrArg not M7))
  | str j=>obtain ⟨t',rfl⟩ := ry; exact PySem.EqMixed.ne_bool_str (Ax I q (by simp))
  | _=>exact absurd (show false = true from hs) Bool.false_ne_true
 | int i =>
  obtain ⟨t,rfl⟩ := rx
  cases y with
  | aA=>cases ry; exact PySem.EqNone.ne_int_none (Ax I q (by simp))
  | int j=>obtain ⟨t',rfl⟩ := ry; exact ne_int (Ax I q (congrArg not Ku))
  | str j=>obtain ⟨t',rfl⟩ := ry; exact PySem.EqMixed.ne_int_str (Ax I q (by simp))
  | _=>exact absurd (show false = true from hs) Bool.false_ne_true
 | str i =>
  obtain ⟨t,rfl⟩ := rx
  cases y with
  | aA=>cases ry; exact PySem.EqNone.ne_str_none (Ax I q (by simp))
  | bl j=>cases ry; exact PySem.EqMixed.ne_str_bool (Ax I q (by simp))
  | int j=>obtain ⟨t',rfl⟩ := ry; exact PySem.EqMixed.ne_str_int (Ax I q (by simp))
  | str j=>obtain ⟨t',rfl⟩ := ry; exact ne_str (Ax I q (congrArg not Kv))
  | _=>exact absurd (show false = true from hs) Bool.false_ne_true
 | eE i =>
  obtain ⟨t,rfl⟩ := rx
  cases y with
  | eE j=>obtain ⟨t',rfl⟩ := ry; exact PySem.W.ne_bytes (Ax I q (congrArg not Kt))
  | _=>exact absurd (show false = true from hs) Bool.false_ne_true
 | _=>cases y <;> exact absurd (show false = true from hs) Bool.false_ne_true
theorem Fy:Gy X (compareOp .Lt) (Od fun i j=>.bl (decide (i < j))):=Nw fun _ _ _ _ _ _ _ q=>lt_int q
theorem Qn:Gy X (compareOp .LtE) (Od fun i j=>.bl (decide (i <= j))):=Nw fun _ _ _ _ _ _ _ q=>le_int q
theorem Qm:Gy X (compareOp .Gt) (Od fun i j=>.bl (decide (j < i))):=Nw fun _ _ _ _ _ _ _ q=>gt_int q
theorem Ql:Gy X (compareOp .GtE) (Od fun i j=>.bl (decide (j <= i))):=Nw fun _ _ _ _ _ _ _ q=>ge_int q
theorem K8:Gy X (compareOp .Is) (fun x y H Q=>y = .aA /\ Q (.bl (decide (x = .aA))) H):=by
 intro pins s σ H x y v u Q I rx ry h
 obtain ⟨rfl,q⟩ := h
 cases ry
 refine is_none_gen (Ax I q ?_)
 cases x <;> first
  | (cases rx; rfl)
  | (obtain ⟨t,rfl⟩ := rx; rfl)
def Tj:HO -> Bool
 | .lst _=>true
 | .ins _ _ _=>true
 | _=>false
theorem Ar (b:Expr) {op:CmpOp} (h:op ≠ .In:=by decide) (h2:op ≠ .NotIn:=by decide):behindInMarks op b = false:=by
 have e1:(op == CmpOp.In) = false:=by cases op <;> first | rfl | exact absurd rfl h
 have e2:(op == CmpOp.NotIn) = false:=by cases op <;> first | rfl | exact absurd rfl h2
 cases b <;> simp [behindInMarks,e1,e2]
theorem Nx {op:CmpOp} {r:R2} (ho:Gy X (compareOp op) r) (ha:PE X a ta) (hb:PE X b tb) (hm:behindInMarks op b = false):PE X (.Compare a [op] [b] pos) (Rq r ta tb):=by
 intro pins s σ H Q I h
 exact wpAny_Compare1 (Oo ha hb I h fun v u s2 x y H2 I2 rx ry q=>ho pins s2 σ H2 x y v u Q I2 rx ry q) hm
def R9 (t:TE):TT:=fun σ H Q=>t σ H fun x H'=>∃ k,x = .bl k /\ Q k H'
theorem Al {op:CmpOp} {r:R2} (ho:Gy X (compareOp op) r) (ha:PE X a ta) (hb:PE X b tb) (hm:behindInMarks op b = false):PT X (.Compare a [op] [b] pos) (R9 (Rq r ta tb)):=by
 intro pins s σ H Q I h
 refine wpAny_isTrue_Compare1 (C8 (ha pins s σ H _ I h) fun v s1 ⟨x,H1,I1,r1,q1⟩=>C8 (hb pins s1 σ H1 _ I1 q1) fun u s2 ⟨y,H2,I2,r2,q2⟩ =>
  C8 (ho pins s2 σ H2 x y v u _ I2 r1 r2 q2) fun c s3 ⟨z,H3,I3,r3,k,e,q3⟩=>?_) hm
 subst e
 cases r3
 exact wpAny_truthy_bool ⟨H3,I3,q3⟩
def Su (r r':R2) (ta tb tc:TE):TE:=fun σ H Q=>ta σ H fun x H1=>tb σ H1 fun y H2=>r x y H2 fun z H3=>∃ k,z = .bl k /\
 (if k = true then tc σ H3 fun w' H4=>r' y w' H4 Q else Q (.bl false) H3)
def Um (K:PySem.W.Frag) (x:V) (H:Hp) (k:Bool):Prop :=
 match x with
 | .aA=>k = false
 | .bl b=>k = b
 | .int i=>k = (i != 0)
 | .str y=>y.length <= sizeLine /\ k = ((y.length:Int) != 0)
 | .eE y=>y.size <= sizeLine /\ k = ((y.size:Int) != 0)
 | .ref p=>(∃ xs,As K H p xs /\ k = !xs.isEmpty) \/ (∃ xs,B6 K H p xs /\ k = !xs.isEmpty) \/ ∃ cg,H p = some (.dK cg) /\ k = !cg.isEmpty
 | _=>False
theorem K4:(sizeLine:Nat) < 2 ^ 63:=by rw [sizeLine_eq]; decide
def Q3 (b:Expr):Prop := ∀ o i,subscripted b false o i = operate [o,i] (getItem o i)
theorem Gx {x:V} {us:List Value} (r:Ao [x] us):∃ u,us = [u] /\ B1 x u:=by
 cases r with
 | cons r1 r2=>cases r2; exact ⟨_,rfl,r1⟩
theorem Rb {x y:V} {us:List Value} (r:Ao [x,y] us):∃ u w',us = [u,w'] /\ B1 x u /\ B1 y w':=by
 cases r with
 | cons r1 r2 =>
  cases r2 with
  | cons r3 r4=>cases r4; exact ⟨_,_,rfl,r1,r3⟩
theorem Co:Ht X (.type "str") (fun xs H Q=>∃ i,xs = [.int i] /\ i.natAbs.log2 < 1920 /\ Q (.str (toString i)) H):=by
 intro pins s σ H xs us Q I r h
 obtain ⟨i,rfl,hz,q⟩ := h
 obtain ⟨u,rfl,t,rfl⟩ := Gx r
 exact PySem.P.str_of_int hz ⟨.str _,H,I.tok _,⟨_,rfl⟩,q⟩
def Uf (K:PySem.W.Frag) (x:V) (H:Hp) (n:Nat):Prop :=
 match x with
 | .str y=>y.length <= sizeLine /\ n = y.length
 | .eE y=>y.size <= sizeLine /\ n = y.size
 | .ref p=>(∃ xs,As K H p xs /\ n = xs.length) \/ ∃ xs,B6 K H p xs /\ n = xs.length
 | _=>False
end
structure Jt (h:Heap) (x dx C:Addr) (mA:Str -> Option Value):Prop where
 obj:h.get? x = some (PySem.W.instObj C dx)
 ns:h.Ns1 dx mA
 ne:dx ≠ x
theorem Lf {h:Heap} {dx:Addr} {mA:Str -> Option Value} (n:h.Ns1 dx mA):∃ od,h.get? dx = some od /\ ∀ name,PySem.W.lookIn name od = some (mA name):=by
 obtain ⟨o,es,ep,ho,hd,hk,_,hm⟩ := n
 refine ⟨o,ho,fun name=>?_⟩
 have e:=hm name
 unfold nsFind findBy at e
 rw [<- Array.find?_toList] at e
 unfold PySem.W.lookIn
 rw [hd]
 dsimp only
 split
 ·rename_i y q
  rw [q] at e
  exact congrArg some e
 ·rename_i q
  rw [q] at e
  have a:es.toList.any (·.refKey) = false:=by
   rw [List.any_eq_false]
   intro y hy
   obtain ⟨z,t,nN⟩ := hk y (Array.mem_toList_iff.mp hy)
   simp [DictEntry.refKey,nN]
  have a':¬ es.toList.any (·.refKey) = true:=by rw [a]; exact Bool.false_ne_true
  rw [if_neg a']
  exact congrArg some e
theorem Jt.look {h:Heap} {x dx C:Addr} {mA:Str -> Option Value} (I:Jt h x dx C mA):∃ od,PySem.W.InstAt h x (PySem.W.instObj C dx) C (some od) /\ ∀ name,PySem.W.lookIn name od = some (mA name) :=
 let ⟨od,ho,hl⟩ := Lf I.ns
 ⟨od,⟨I.obj,rfl,rfl,ho⟩,hl⟩
section
variable {prog:Program} {w:World} {A:Around} {E:Value -> Shared -> Prop} {s:Shared} {K:PySem.W.Frag} {x dx C f:Addr} {mA:Str -> Option Value} {name:Str} {v:Value}
theorem No {expr : Bool} {Q : Value -> Shared -> Prop} (X : K.In s.heap) (I : Jt s.heap x dx C mA) (hg : PySem.W.plainGet K C name = true) (hh : PySem.W.hasDictIn K C = true)
  (ha:PySem.W.findIn K (.ref C) name = some none) (hv:mA name = some v) (hv':PySem.W.handedIn v = true) (h:Q v { s with toks:=s.toks + 1 }) :
  wpAny (model prog w) A (getAttr (.ref x) name expr) Q E s:=by
 obtain ⟨od,J,hl⟩ := I.look
 exact PySem.W.get_value X J (PySem.W.plainGet_of hg).1 (PySem.W.findObj_own hh ha rfl (by rw [hl,hv])) hv' h
theorem Md {pl : Sem Bool} {Q : Value × List Value -> Shared -> Prop} (X : K.In s.heap) (I : Jt s.heap x dx C mA) (hg : PySem.W.plainGet K C name = true)
  (hf:PySem.W.findIn K (.ref C) name = some (some (.ref f))) (ht:PySem.W.isFn K (.ref f) = true) (hv:mA name = none) (h:Q (.ref f,[.ref x]) s) :
  wpAny (model prog w) A (getMethod (.ref x) name pl) Q E s:=by
 obtain ⟨od,J,hl⟩ := I.look
 exact PySem.W.method_fn X J (PySem.W.plainGet_of hg).1 (PySem.W.plainGet_of hg).2 hf (beq_iff_eq.mp ht) (by show (PySem.W.lookIn name od).map (·.isSome) = some false; rw [hl,hv]; rfl) h
theorem O5 {ns : List Str} {Q : Unit -> Shared -> Prop} (X : K.In s.heap) (I : Jt s.heap x dx C mA)
  (hs:PySem.W.findIn K (.ref C) "__setattr__" = some (some (.builtin "object.__setattr__"))) (hp:PySem.W.plainOver K C = true) (ht:PySem.W.takerIn K C name = some none) (hh:PySem.W.hasDictIn K C = true)
  (hw:PySem.Within mA ns) (hsz:ns.length <= sizeLine)
  (h:∀ h',Jt h' x dx C (fun y=>if y = name then some v else mA y) -> Heap.SameBut dx s.heap h' -> Q () { s with heap:=h',toks:=s.toks + 2 }) :
  wpAny (model prog w) A (setAttr (.ref x) name v) Q E s:=by
 obtain ⟨od,J,hl⟩ := I.look
 refine PySem.W.set_plain X J hs (PySem.W.osa_open (s:={ s with toks:=s.toks + 1 }) (r:=none) X J hp ht fun b=>?_)
 obtain ⟨cd,hc,fe⟩ := PySem.W.any_some hh
 have hx:s.heap.get? x = some ⟨.ref C,some dx,.plain,#[]⟩ := I.obj
 refine wpAny_bind (wpAny_pure (wpAny_bind (wpAny_bind (wpAny_loadPart hx (wpAny_bind (PySem.W.Looks.here (s:={ s with toks:=s.toks + 1 }) (PySem.W.looks_clsIn X hc) ?_))))))
 rw [fe]
 refine wpAny_pure (a:=some dx) (wpAny_bind (wpAny_pure (wpAny_bind ?_)))
 refine wpAny_nsSet1 (s:={ s with toks:=s.toks + 1 }) I.ns fun h' n5 gO=>?_
 obtain ⟨oD,esD,epD,hoD,hdD,hcD⟩ := n5.count (PySem.Within.cons name v hw)
 refine wpAny_bind (wpAny_lookBehind hoD (by rw [hdD]; exact pastItsLine_dict (Nat.le_trans hcD (by rw [List.length_cons]; omega))) ?_)
 exact wpAny_pure (h _ ⟨(gO.2 _ (Ne.symm I.ne)).trans I.obj,n5,I.ne⟩ gO)
theorem Mm {R : Result -> Shared -> Prop} {vs : List Value} {kw : List (Str × Value)} (X : K.In s.heap) (hm : PySem.W.makesIn K C = true)
  (hi:PySem.W.findIn K (.ref C) "__init__" = some (some (.ref f))) (hf:PySem.W.typeIn K (.ref f) = some (.type "function"))
  (h:codeAny (model prog w) (A.under (.builtin "type.__call__" ⟨.ref C :: vs,kw⟩)) (.call (.ref f) ⟨.ref (s.heap.objs.size + 1) :: vs,kw⟩) (PySem.W.InitBack (s.heap.objs.size + 1) R)
   { s with heap:=(s.heap.push PySem.W.emptyDict).push (PySem.W.instObj C s.heap.objs.size) }) :
  codeAny (model prog w) A (.call (.ref C) ⟨vs,kw⟩) R s:=by
 obtain ⟨hh,g,d,t,os⟩ := s
 exact PySem.W.make_core (PySem.W.makes_of X hm) (PySem.W.looks_findIn X hi) (fun self=>PySem.W.bind_fn X self hf) (.inl rfl) h
end
def Du (f:Str) (v:V):List (Str × V) -> List (Str × V)
 | []=>[(f,v)]
 | (g,x) :: r=>if g = f then (g,v) :: r else (g,x) :: Du f v r
theorem Fx (f g:Str) (v:V):∀ fs:List (Str × V),(Du f v fs).lookup g = if g = f then some v else fs.lookup g
 | []=>by
  show List.lookup g [(f,v)] = _
  by_cases h:g = f
  ·have hb:(g == f) = true:=beq_iff_eq.mpr h
   simp only [List.lookup,hb,if_pos h]
  ·have hb:(g == f) = false:=beq_eq_false_iff_ne.mpr h
   simp only [List.lookup,hb,if_neg h]
 | (k,x) :: r=>by
  have ih:=Fx f g v r
  rw [show Du f v ((k,x) :: r) = (if k = f then (k,v) :: r else (k,x) :: Du f v r) from rfl]
  by_cases hk:k = f
  ·rw [if_pos hk]
   by_cases h:g = k
   ·have hb:(g == k) = true:=beq_iff_eq.mpr h
    simp only [List.lookup,hb,if_pos (h.trans hk)]
   ·have hb:(g == k) = false:=beq_eq_false_iff_ne.mpr h
    simp only [List.lookup,hb,if_neg (fun e:g = f=>h (e.trans hk.symm))]
  ·rw [if_neg hk]
   by_cases h:g = k
   ·have hb:(g == k) = true:=beq_iff_eq.mpr h
    simp only [List.lookup,hb,if_neg (fun e:g = f=>hk (h.symm.trans e))]
   ·have hb:(g == k) = false:=beq_eq_false_iff_ne.mpr h
    simp only [List.lookup,hb]
    exact ih
theorem Ff (f:Str) (v:V):∀ fs:List (Str × V),f ∈ (Du f v fs).map (·.1) /\ ∀ g,g ∈ fs.map (·.1) -> g ∈ (Du f v fs).map (·.1)
 | []=>⟨by simp [Du],fun g h=>by simp at h⟩
 | (k,x) :: r=>by
  obtain ⟨i1,i2⟩ := Ff f v r
  rw [show Du f v ((k,x) :: r) = (if k = f then (k,v) :: r else (k,x) :: Du f v r) from rfl]
  by_cases hk:k = f
  ·rw [if_pos hk]
   subst hk
   exact ⟨by simp,fun g h=>by simpa using h⟩
  ·rw [if_neg hk]
   refine ⟨?_,fun g h=>?_⟩
   ·rw [List.map_cons]
    exact List.mem_cons_of_mem _ i1
   ·rw [List.map_cons] at h ⊢
    rcases List.mem_cons.mp h with e | e
    ·exact List.mem_cons.mpr (.inl e)
    ·exact List.mem_cons_of_mem _ (i2 g e)
theorem Fw (f:Str) (v:V):∀ fs:List (Str × V),(Du f v fs).length <= fs.length + 1
 | []=>by simp [Du]
 | (k,x) :: r=>by
  have ih:=Fw f v r
  rw [show Du f v ((k,x) :: r) = (if k = f then (k,v) :: r else (k,x) :: Du f v r) from rfl]
  by_cases hk:k = f
  ·rw [if_pos hk,List.length_cons,List.length_cons]; omega
  ·rw [if_neg hk,List.length_cons,List.length_cons]; omega
theorem Ha.some_of {v:V} {o:Option Value} (r:Ha (some v) o):∃ u,o = some u /\ B1 v u:=by
 cases o with
 | none=>exact (show False from r).elim
 | some u=>exact ⟨u,rfl,r⟩
theorem Ha.none_of {o:Option Value} (r:Ha none o):o = none:=by
 cases o with
 | none=>rfl
 | some u=>exact (show False from r).elim
theorem Lc {v:V} {u:Value} (r:B1 v u):PySem.W.handedIn u = true:=by
 cases v with
 | aA=>cases (show u = Value.none from r); rfl
 | bl b=>cases (show u = Value.bool b from r); rfl
 | int i=>obtain ⟨t,e⟩ := (show ∃ t,u = Value.int i t from r); cases e; rfl
 | str x=>obtain ⟨t,e⟩ := (show ∃ t,u = Value.str x t from r); cases e; rfl
 | eE b=>obtain ⟨t,e⟩ := (show ∃ t,u = Value.bytes b t from r); cases e; rfl
 | jQ b=>obtain ⟨t,e⟩ := (show ∃ t,u = Value.float b t from r); cases e; rfl
 | ref a=>cases (show u = Value.ref a from r); rfl
 | ty n=>cases (show u = Value.type n from r); rfl
section
variable {P:Program} {w:World} {H H':Hp} {h h':Heap} {a C dx:Addr} {fs i6:List (Str × V)}
theorem Iw (ab:Fb P w H h) (e:H a = some (.ins C dx fs)):∃ mA,Jt h a dx C mA /\ (∀ f,Ha (fs.lookup f) (mA f)) /\ PySem.Within mA (fs.map (·.1)) /\ fs.length <= 1000 /\ H dx = some (.own a):=by
 obtain ⟨d,z,ne,ob,mA,n,r,q⟩ := (show C6 P w H h a (.ins C dx fs) from ab a _ e)
 exact ⟨mA,⟨ob,n,ne⟩,r,q,z,d⟩
end
structure Ko (K:PySem.W.Frag) (C:Addr):Prop where
 pg:PySem.W.plainGet K C Str.empty = true
 hd:PySem.W.hasDictIn K C = true
 po:PySem.W.plainOver K C = true
 sa:PySem.W.findIn K (.ref C) "__setattr__" = some (some (.builtin "object.__setattr__"))
theorem Ko.get {K:PySem.W.Frag} {C:Addr} (c:Ko K C) (f:Str):PySem.W.plainGet K C f = true:=c.pg
def D6 (K:PySem.W.Frag) (C:Addr) (f:Str):Prop:=PySem.W.findIn K (.ref C) f = some none
theorem D6.kc {K:PySem.W.Frag} {C:Addr} {f:Str} (n:D6 K C f):PySem.W.takerIn K C f = some none:=by
 unfold PySem.W.takerIn
 rw [show PySem.W.findIn K (.ref C) f = some none from n]
 rfl
structure Ua (K:PySem.W.Frag) (C:Addr) (f:Str) (v:V) (u:Value):Prop where
 at_:PySem.W.findIn K (.ref C) f = some (some u)
 rel:B1 v u
 get:PySem.W.specialIn K u "__get__" = some none
 cp:PySem.W.copiedNames.contains f = false
structure Ik (K:PySem.W.Frag) (C:Addr) (m:Str) (f:Addr):Prop where
 at_:PySem.W.findIn K (.ref C) m = some (some (.ref f))
 fn:PySem.W.isFn K (.ref f) = true
 kp:PySem.W.keepIn K (.ref f) = true
section
variable {X:Cx} {pins:List (Addr × Obj)} {σ:St} {H:Hp} {s:Shared} {a C dx:Addr} {fs:List (Str × V)} {f:Str} {v:V} {A:Around} {E:Value -> Shared -> Prop}
theorem K1 {b : Bool} {Q : Value -> Shared -> Prop} (I : Ae X pins σ H s) (e : H a = some (.ins C dx fs)) (c : Ko X.K C) (n : D6 X.K C f) (l : fs.lookup f = some v)
  (h:∀ u s',Ae X pins σ H s' -> B1 v u -> Q u s'):wpAny (model X.prog X.w) A (getAttr (.ref a) f b) Q E s:=by
 obtain ⟨mA,O,r,_,_,_⟩ := Iw I.ab e
 obtain ⟨u,hu,ru⟩ := Ha.some_of (v:=v) (o:=mA f) (by rw [<- l]; exact r f)
 exact No I.eG O (c.get f) c.hd n hu (Lc ru) (h u _ (I.tok _) ru)
theorem Gf {m : Str} {g : Addr} {pl : Sem Bool} {Q : Value × List Value -> Shared -> Prop} (I : Ae X pins σ H s) (e : H a = some (.ins C dx fs)) (c : Ko X.K C) (k : Ik X.K C m g) (l : fs.lookup m = none)
  (h:Q (.ref g,[.ref a]) s):wpAny (model X.prog X.w) A (getMethod (.ref a) m pl) Q E s:=by
 obtain ⟨mA,O,r,_,_,_⟩ := Iw I.ab e
 have hn:mA m = none:=Ha.none_of (by rw [<- l]; exact r m)
 exact Md I.eG O (c.get m) k.at_ k.fn hn h
theorem Ke {y : V} {u : Value} {Q : Unit -> Shared -> Prop} (I : Ae X pins σ H s) (e : H a = some (.ins C dx fs)) (c : Ko X.K C) (n : D6 X.K C f) (hl : fs.length < 1000) (ry : B1 y u)
  (h:∀ s',Ae X pins σ (upd H a (.ins C dx (Du f y fs))) s' -> Q () s'):wpAny (model X.prog X.w) A (setAttr (.ref a) f u) Q E s:=by
 obtain ⟨mA,O,r,wi,_,ho⟩ := Iw I.ab e
 have hz:(fs.map (·.1)).length <= sizeLine:=by rw [List.length_map,sizeLine_eq]; omega
 refine O5 I.eG O c.sa c.po n.kc c.hd wi hz fun h' O' sb=>h _ ?_
 have hd:∃ o,h'.get? dx = some o:=let ⟨o,_,_,e',_⟩ := O'.ns; ⟨o,e'⟩
 refine I.write (x:=a) (e:=dx) (by rw [e]; exact True.intro) (.inr ho) (fun b q hb z=>(sb.2 b hb).trans z) hd ?_
 refine ⟨by rw [Af O.ne]; exact ho,?_,O.ne,O'.obj,_,O'.ns,fun g=>?_,fun g hg=>?_⟩
 ·have:=Fw f y fs; omega
 ·show Ha ((Du f y fs).lookup g) (if g = f then some u else mA g)
  rw [Fx]
  by_cases q:g = f
  ·rw [if_pos q,if_pos q]; exact ry
  ·rw [if_neg q,if_neg q]; exact r g
 ·by_cases q:g = f
  ·rw [q]; exact (Ff f y fs).1
  ·refine (Ff f y fs).2 g (wi g fun z=>hg ?_)
   show (if g = f then some u else mA g) = none
   rw [if_neg q]; exact z
theorem Ae.made (I : Ae X pins σ H s) : Ae X pins σ (upd (upd H s.heap.objs.size (.own (s.heap.objs.size + 1))) (s.heap.objs.size + 1) (.ins C s.heap.objs.size []))
  { s with heap:=(s.heap.push PySem.W.emptyDict).push (PySem.W.instObj C s.heap.objs.size) }:=by
 have e1:(s.heap.push PySem.W.emptyDict).get? s.heap.objs.size = some PySem.W.emptyDict:=Heap.get?_push_size s.heap rfl
 have e2:((s.heap.push PySem.W.emptyDict).push (PySem.W.instObj C s.heap.objs.size)).get? (s.heap.objs.size + 1) = some (PySem.W.instObj C s.heap.objs.size):=by
  have:=Heap.get?_push_size (s.heap.push PySem.W.emptyDict) (o:=PySem.W.instObj C s.heap.objs.size) rfl
  rwa [Heap.size_push] at this
 have e3:(s.heap.push PySem.W.emptyDict).Ns s.heap.objs.size (fun _=>none):=⟨PySem.W.emptyDict,#[],_,e1,rfl,(fun e he=>absurd he (by simp)),fun _=>rfl⟩
 have I1:=I.laid (a:=s.heap.objs.size) (o := .own (s.heap.objs.size + 1)) (h':=s.heap.push PySem.W.emptyDict) (t':=s.toks) (fun b u q=>Heap.get?_push_of_some _ q) (Nat.le_refl _) ⟨_,e1⟩
 refine I1.laid (a:=s.heap.objs.size + 1) (o := .ins C s.heap.objs.size []) (t':=s.toks) (fun b u q=>Heap.get?_push_of_some _ q) (Nat.le_of_eq (Heap.size_push _ _)) ?_
 have ne:s.heap.objs.size ≠ s.heap.objs.size + 1:=Nat.ne_of_lt (Nat.lt_succ_self _)
 refine ⟨by rw [Af ne,A1],Nat.zero_le _,ne,e2,fun _=>none,(Heap.Ns1.of_empty e3).at fun o q=>Heap.get?_push_of_some _ q,fun _=>True.intro,fun y hy=>absurd rfl hy⟩
theorem Nh {prog : Program} {w : World} {env : Env} {e : Expr} {f : Str} {pos : Pos} {s : Shared} {Q : Value -> Shared -> Prop} (hb : attributeBase e f env (eval e env) = eval e env)
  (h:wpAny (model prog w) A (eval e env) (fun o s₁=>wpAny (model prog w) A (getAttr o f true) Q E s₁) E s):wpAny (model prog w) A (eval (.Attribute e f pos) env) Q E s :=
 Attribute_any_ h (by rw [arm_eval_Attribute,hb])
end
def Sv (K:PySem.W.Frag) (ta:TE) (f:Str):TE:=fun σ H Q=>ta σ H fun x H1=>∃ a C dx fs v,x = .ref a /\ H1 a = some (.ins C dx fs) /\ Ko K C /\ D6 K C f /\ fs.lookup f = some v /\ Q v H1
def Vd (K:PySem.W.Frag) (ta:TE) (f:Str):TE:=fun σ H Q=>ta σ H fun x H1=>∃ a C dx fs v u,x = .ref a /\ H1 a = some (.ins C dx fs) /\ Ko K C /\ Ua K C f v u /\ fs.lookup f = none /\ Q v H1
def Sm (K:PySem.W.Frag) (ta tv:TE) (f:Str):TS:=fun D σ H=>tv σ H fun y H1=>ta σ H1 fun x H2=>∃ a C dx fs,x = .ref a /\ H2 a = some (.ins C dx fs) /\ Ko K C /\ D6 K C f /\ fs.length < 1000 /\
 D.nx σ (upd H2 a (.ins C dx (Du f y fs)))
def Ub (X:Cx) (op:Operator) (rd:V -> V -> Hp -> VK -> Prop):Prop :=
 ∀ (pins:List (Addr × Obj)) (s:Shared) (σ:St) (H:Hp) (x y:V) (u v:Value) (Q:VK),Ae X pins σ H s -> B1 x u -> B1 y v -> rd x y H Q -> wpAny (model X.prog X.w) X.A (inplaceOp op u v) (EP X pins σ Q) X.xe s
def Rn (K:PySem.W.Frag) (ta tv:TE) (rd:V -> V -> Hp -> VK -> Prop) (f:Str):TS:=fun D σ H=>ta σ H fun x H1=>∃ a C dx fs v,x = .ref a /\ H1 a = some (.ins C dx fs) /\ Ko K C /\ D6 K C f /\ fs.lookup f = some v /\
 tv σ H1 fun y H2=>rd v y H2 fun z H3=>∃ dx' i6,H3 a = some (.ins C dx' i6) /\ i6.length < 1000 /\ D.nx σ (upd H3 a (.ins C dx' (Du f z i6)))
section
variable {X:Cx} {o e value:Expr} {f:Str} {pos pos' fi:Pos} {ta tv:TE}
theorem B5 (he:PE X e ta) (hb:attributeBase e f X.env (eval e X.env) = eval e X.env):PE X (.Attribute e f pos) (Sv X.K ta f):=by
 intro pins s σ H Q I h
 refine Nh hb (C8 (he pins s σ H _ I h) fun u s1 aZ=>?_)
 obtain ⟨x,H1,I1,rx,a,C,dx,fs,v,ex,ea,c,n,l,q⟩ := aZ
 subst ex
 obtain rfl:u = Value.ref a:=rx
 exact K1 I1 ea c n l fun u' s2 I2 ru=>⟨v,H1,I2,ru,q⟩
theorem K9 (ha:PE X o ta) (hv:PE X value tv) (hs:swapsWith value (some (.Attribute o f pos')) pos.line X.env = pure false):PS X (.Assign [.Attribute o f pos'] value pos) (Sm X.K ta tv f):=by
 intro pins s σ H D I h
 refine plainObj_wpAny_Assign_Attribute (C8 (hv pins s σ H _ I h) fun u s1 ⟨y,H1,I1,ry,q⟩=>C8 (ha pins s1 σ H1 _ I1 q) fun ov s2 ⟨x,H2,I2,rx,a,C,dx,fs,ex,ea,c,n,l,q2⟩=>?_) hs
 subst ex
 obtain rfl:ov = Value.ref a:=rx
 exact Ke I2 ea c n l ry fun s3 I3=>⟨σ,_,I3,q2⟩
def Uw:V -> V -> Hp -> VK -> Prop:=fun x y H Q=>∃ i j,x = .int i /\ y = .int j /\ Q (.int (i + j)) H
def V7:V -> V -> Hp -> VK -> Prop:=fun x y H Q=>∃ i j,x = .int i /\ y = .int j /\ Q (.int (i - j)) H
end
section
variable {X:Cx} {pins:List (Addr × Obj)} {σ:St} {H:Hp} {s:Shared} {A:Around} {E:Value -> Shared -> Prop} {Q:Value -> Shared -> Prop} {c:Value} {b:Bool}
inductive Fz (K:PySem.W.Frag) (H:Hp):V -> Value -> Prop where
 | aA:Fz K H .aA (.type "NoneType")
 | bl (x:Bool):Fz K H (.bl x) (.type "bool")
 | int (i:Int):Fz K H (.int i) (.type "int")
 | str (x:Str):Fz K H (.str x) (.type "str")
 | jQ (x:UInt64):Fz K H (.jQ x) (.type "float")
 | lst {a:Addr} {xs:List V} (e:H a = some (.lst xs)):Fz K H (.ref a) (.type "list")
 | eU {a:Addr} {o:Obj} {xs:List V} (e:H a = some (.eU o (.lst xs))):Fz K H (.ref a) (.type "list")
 | tup {a:Addr} {xs:List V} (e:H a = some (.tup xs)):Fz K H (.ref a) (.type "tuple")
 | dK {a:Addr} {cg:List (L1 × V)} (e:H a = some (.dK cg)):Fz K H (.ref a) (.type "dict")
 | dT {a:Addr} {cg:List ((List Int × Int) × V)} (e:H a = some (.dT cg)):Fz K H (.ref a) (.type "dict")
 | ins {a C dx : Addr} {fs : List (Str × V)} (e : H a = some (.ins C dx fs)) (cl : Ko K C) (ha : PySem.W.findIn K (.ref C) "__class__" = some (some (.builtin "object.__class__")))
   (hn:PySem.W.specialIn K (.builtin "object.__class__") "__get__" = some (some (.builtin "getset_descriptor.__get__"))) (htk:PySem.W.takesIn K (.builtin "object.__class__") = some true)
   (hm:PySem.W.mroIn K C (.type "object") = some true):Fz K H (.ref a) (.ref C)
end
structure C5 (k:Nat) (A:Around):Prop where
 hd:A.handled = none
 dp:A.depth + 3 * k + 5 < recursionLimit
 un:A.units + 16 * k + 200 < cLine
theorem C5.mono {j k:Nat} {A:Around} (r:C5 k A) (h:j <= k):C5 j A:=⟨r.hd,by have:=r.dp; omega,by have:=r.un; omega⟩
theorem C5.deeper {k:Nat} {A:Around} (r:C5 (k + 1) A) (env:Env):C5 k (A.deeper env) :=
 ⟨r.hd,by have:=r.dp; show A.depth + 1 + 3 * k + 5 < _; omega,by have:=r.un; show A.units + 3 + 16 * k + 200 < _; omega⟩
theorem C5.in1 {k:Nat} {A:Around} (r:C5 (k + 1) A):C5 k A.in1 :=
 ⟨r.hd,by have:=r.dp; show A.depth + 3 * k + 5 < _; omega,by have:=r.un; show A.units + 1 + 16 * k + 200 < _; omega⟩
theorem K5 {A:Around} {C:Addr} {us:List Value} {kw:List (Str × Value)}:(A.under (.builtin "type.__call__" ⟨.ref C :: us,kw⟩)).depth = A.depth + 1:=by
 first | rfl | simp [Around.under,Code.weight,Code.isCreation,Code.isGuard,Code.isCaller,Code.frames,Code.isFrame,guardIds]
theorem K6 {A:Around} {C:Addr} {us:List Value} {kw:List (Str × Value)}:(A.under (.builtin "type.__call__" ⟨.ref C :: us,kw⟩)).units = A.units + 1:=by
 first | rfl | simp [Around.under,Code.cUnits,Code.frames,Code.isFrame]
theorem C5.make {k:Nat} {A:Around} (r:C5 (k + 1) A) (C:Addr) (us:List Value) (kw:List (Str × Value)):C5 k (A.under (.builtin "type.__call__" ⟨.ref C :: us,kw⟩)) :=
 ⟨r.hd,by have:=r.dp; rw [K5]; omega,by have:=r.un; rw [K6]; omega⟩
theorem C5.depth {k:Nat} {A:Around} (r:C5 k A):A.depth < recursionLimit:=by have:=r.dp; omega
theorem C5.units {k:Nat} {A:Around} (r:C5 k A):A.units + 64 < cLine:=by have:=r.un; omega
def O8:TA:=fun _ H Q=>Q [] H
def N5 (ta:TE) (tr:TA):TA:=fun σ H Q=>ta σ H fun x H1=>tr σ H1 fun xs H2=>Q (x :: xs) H2
section
variable {X:Cx} {e:Expr} {es:List Expr} {te:TE} {t:TA} {pos:Pos}
theorem A3:PA X [] O8:=fun _ _ _ _ H Q I h=>Calls.spliced_nil ⟨[],H,I,.nil,h⟩
theorem A0 (ha:PE X e te) (hr:PA X es t) (hs:starEach (e :: es) X.env = (false,eval e X.env) :: starEach es X.env:=by rfl):PA X (e :: es) (N5 te t):=by
 intro pos pins s σ H Q I h
 rw [hs]
 show wpAny _ _ (spliced ((false,eval e X.env) :: backTo pos (starEach es X.env))) _ _ s
 refine Calls.spliced_cons (C8 (ha pins s σ H _ I h) fun u s1 aZ=>?_)
 obtain ⟨x,H1,I1,r1,q1⟩ := aZ
 exact C8 (hr pos pins s1 σ H1 _ I1 q1) fun us s2 ⟨xs,H2,I2,r2,q2⟩=>⟨x :: xs,H2,I2,.cons r1 r2,q2⟩
def T5 (t:TA):TE:=fun σ H Q=>t σ H fun xs H1=>xs.length <= sizeLine /\ ∀ p,H1 p = none -> Q (.ref p) (upd H1 p (.tup xs))
def Sy (t:TA):TE:=fun σ H Q=>t σ H fun xs H1=>xs.length <= sizeLine /\ ∀ p,H1 p = none -> Q (.ref p) (upd H1 p (.lst xs))
theorem Bk {x1} (h:PA X es t):PE X (.Tuple es x1 pos) (T5 t):=by
 intro pins s σ H Q I hq
 refine wpAny_Tuple_spliced (C8 (h pos pins s σ H _ I hq) fun us s1 ⟨xs,H1,I1,r,z,q⟩=>⟨by rw [<- r.length]; exact z,?_⟩)
 have hf:H1 s1.heap.objs.size = none:=I1.ab.fresh (Nat.le_refl _)
 refine ⟨.ref s1.heap.objs.size,upd H1 s1.heap.objs.size (.tup xs),I1.laid (t':=s1.toks) (fun b u e=>Heap.get?_push_of_some _ e) (Nat.le_refl _) ?_,rfl,q _ hf⟩
 exact ⟨⟨z,⟨_,Heap.get?_push_size _ rfl,rfl⟩⟩,us,r,⟨_,Heap.get?_push_size _ rfl,rfl,_,rfl⟩⟩
theorem Ci (h:PA X es t):PE X (.List es pos) (Sy t):=by
 intro pins s σ H Q I hq
 refine wpAny_List_spliced (C8 (h pos pins s σ H _ I hq) fun us s1 ⟨xs,H1,I1,r,z,q⟩=>⟨by rw [<- r.length]; exact z,?_⟩)
 have hf:H1 s1.heap.objs.size = none:=I1.ab.fresh (Nat.le_refl _)
 refine ⟨.ref s1.heap.objs.size,upd H1 s1.heap.objs.size (.lst xs),I1.laid (t':=s1.toks) (fun b u e=>Heap.get?_push_of_some _ e) (Nat.le_refl _) ?_,rfl,q _ hf⟩
 exact ⟨z,us,0,r,Heap.get?_push_size _ rfl⟩
end
abbrev Sp:=List V -> Hp -> VK -> XK -> Prop
abbrev Kn:=List Env -> Hp -> Shared -> XK -> Value -> Shared -> Prop
structure Gz (P:Program) (w:World) (K:PySem.W.Frag) (mg:Str -> Option Value) (base:Heap) (A:Around) (outer:List Env) (s:Shared) (H:Hp):Prop where
 frames:A.frames = some outer
 mod:Mod K mg base
 bs:∀ b o,base.get? b = some o -> s.heap.get? b = some o /\ H b = none
 eV:base.objs.size <= s.heap.objs.size
 bG:s.heap.FunFrames base outer
 gp:∀ b ∈ eh outer,H b = none
 ab:Fb P w H s.heap
 bare:AllBare s.gens
def CE (outer:List Env) (P:Program) (w:World) (H:Hp) (s:Shared) (Q:VK) (u:Value) (s':Shared):Prop :=
 ∃ v H',s'.os = s.os /\ AllBare s'.gens /\ Un (eh outer) [] H H' s.heap s'.heap /\ Fb P w H' s'.heap /\ B1 v u /\ Q v H'
def CR (CX:Kn) (outer:List Env) (P:Program) (w:World) (H:Hp) (s:Shared) (Q:VK) (E:XK) (r:Result) (s':Shared):Prop :=
 match r with
 | .ok (.ret u)=>CE outer P w H s Q u s'
 | .ok _=>False
 | .error e=>CX outer H s E e s'
structure A9 (P:Program) (w:World) (K:PySem.W.Frag) (mg:Str -> Option Value) (base:Heap) (CX:Kn) (k:Nat) (f:Addr) (fd:FuncData) (ps:List Str) (sp:Sp):Prop where
 len:∀ vs H Q E,sp vs H Q E -> vs.length = ps.length
 run:∀ (A:Around) (outer:List Env) (s:Shared) (H:Hp) (args:Args) (us:List Value) (vs:List V) (Q:VK) (E:XK),C5 k A -> Gz P w K mg base A outer s H -> BindsTo s fd args (ps.zip us) -> Ao vs us -> sp vs H Q E ->
  codeAny (model P w) A (.call (.ref f) args) (CR CX outer P w H s Q E) s
theorem A9.mono {P : Program} {w : World} {K : PySem.W.Frag} {mg : Str -> Option Value} {base : Heap} {CX : Kn} {j k : Nat} {f : Addr} {fd : FuncData} {ps : List Str} {sp : Sp} (F : A9 P w K mg base CX j f fd ps sp) (h : j <= k) :
  A9 P w K mg base CX k f fd ps sp:=⟨F.len,fun A outer s H args us vs Q E hr=>F.run A outer s H args us vs Q E (hr.mono h)⟩
theorem A9.imp {P : Program} {w : World} {K : PySem.W.Frag} {mg : Str -> Option Value} {base : Heap} {CX : Kn} {k : Nat} {f : Addr} {fd : FuncData} {ps : List Str} {sp sp' : Sp} (F : A9 P w K mg base CX k f fd ps sp)
  (h:∀ vs H Q E,sp' vs H Q E -> sp vs H Q E):A9 P w K mg base CX k f fd ps sp' :=
 ⟨fun vs H Q E q=>F.len vs H Q E (h _ _ _ _ q),fun A outer s H args us vs Q E hr he hb hv hs=>F.run A outer s H args us vs Q E hr he hb hv (h _ _ _ _ hs)⟩
theorem Gz.make {P : Program} {w : World} {K : PySem.W.Frag} {mg : Str -> Option Value} {base : Heap} {A : Around} {outer : List Env} {s : Shared} {H : Hp} (e : Gz P w K mg base A outer s H) (C : Addr) (us : List Value) (kw : List (Str × Value)) :
  Gz P w K mg base (A.under (.builtin "type.__call__" ⟨.ref C :: us,kw⟩)) outer s H:=⟨by first | exact e.frames | (simpa [Around.under,Code.envs,Code.isFrame,pushEnvs] using e.frames),e.mod,e.bs,e.eV,e.bG,e.gp,e.ab,e.bare⟩
theorem Gz.in1 {P : Program} {w : World} {K : PySem.W.Frag} {mg : Str -> Option Value} {base : Heap} {A : Around} {outer : List Env} {s : Shared} {H : Hp} (e : Gz P w K mg base A outer s H) :
  Gz P w K mg base A.in1 outer s H:=⟨e.frames,e.mod,e.bs,e.eV,e.bG,e.gp,e.ab,e.bare⟩
section
variable {X:Cx} {pins:List (Addr × Obj)} {σ:St} {H:Hp} {s s':Shared}
theorem Ae.kd (I:Ae X pins σ H s):Gz X.prog X.w X.K X.mg X.base X.A X.stack s H :=
 ⟨I.ok.frames,I.ok.mod,I.bs,Nat.le_trans I.ok.eV I.sz,I.stack,I.eH,I.ab,I.bare⟩
theorem Ae.after {Q:VK} {u:Value} (I:Ae X pins σ H s) (h:CE X.stack X.prog X.w H s Q u s'):EP X pins σ Q u s':=by
 obtain ⟨v,H',os,bare,un,ab,r,q⟩ := h
 obtain ⟨hh,g,d,t,os'⟩ := s'
 obtain rfl:os' = s.os:=os
 exact ⟨v,H',I.call (h':=hh) (g':=g) (d':=d) (t':=t) (ch:=[]) un ab bare (fun b z=>absurd z (by simp)),r,q⟩
end
def R0 (sp:Sp) (cF:List V) (E:XK) (t:TA):TE:=fun σ H Q=>t σ H fun vs H1=>sp (vs ++ cF) H1 Q E
def Of (C:Addr) (m:Str) (sp:Sp) (cF:List V) (E:XK) (ta:TE) (t:TA):TE:=fun σ H Q=>ta σ H fun x H1=>∃ a dx fs,x = .ref a /\ H1 a = some (.ins C dx fs) /\ fs.lookup m = none /\
 t σ H1 fun vs H2=>sp (x :: (vs ++ cF)) H2 Q E
def R5 (C:Addr) (sp:Sp) (cF:List V) (E:XK) (t:TA):TE:=fun σ H Q=>t σ H fun vs H1=>∀ x dx,H1 x = none -> H1 dx = none -> dx ≠ x ->
 sp (.ref x :: (vs ++ cF)) (upd (upd H1 dx (.own x)) x (.ins C dx [])) (fun v H2=>v = .aA /\ Q (.ref x) H2) E
def Ac (K:PySem.W.Frag) (fd:FuncData) (ps:List Str) (ds:List Value):Prop :=
 ∀ (s:Shared) (us:List Value),K.In s.heap -> (us ++ ds).length = ps.length -> BindsTo s fd ⟨us,[]⟩ (ps.zip (us ++ ds))
theorem Ac.all {K:PySem.W.Frag} {fd:FuncData} {ps:List Str} (h:∀ us:List Value,us.length = ps.length -> bindArgs fd ⟨us,[]⟩ = pure (ps.zip us)):Ac K fd ps []:=fun s us _ hl=>by
 rw [List.append_nil] at hl ⊢
 exact .of_eq (h us hl)
def Er (CX:Kn) (X:Cx) (E:XK):Prop := ∀ (pins:List (Addr × Obj)) (σ:St) (H:Hp) (s:Shared) (e:Value) (s':Shared),Ae X pins σ H s -> CX X.stack H s E e s' -> X.xe e s'
section
variable {X:Cx} {CX:Kn} {k:Nat} {f C:Addr} {fd:FuncData} {ps:List Str} {sp:Sp} {cF:List V} {ds:List Value} {E:XK} {x m:Str} {p pos apos:Pos} {e o:Expr} {es:List Expr} {ta:TE} {t:TA}
theorem Ka {pins : List (Addr × Obj)} {σ : St} {H : Hp} {s : Shared} {Q : VK} {us : List Value} {vs : List V} (F : A9 X.prog X.w X.K X.mg X.base CX k f fd ps sp) (hr : C5 k X.A) (hb : Ac X.K fd ps ds) (hd : Ao cF ds) (hx : Er CX X E)
  (I:Ae X pins σ H s) (r:Ao vs us) (h:sp (vs ++ cF) H Q E):wpAny (model X.prog X.w) X.A (call (.ref f) us) (EP X pins σ Q) X.xe s:=by
 have r2:Ao (vs ++ cF) (us ++ ds):=r.append hd
 have hl:(us ++ ds).length = ps.length:=by rw [<- r2.length]; exact F.len _ _ _ _ h
 refine wpAny_call (codeAny_mono (F.run X.A X.stack s H ⟨us,[]⟩ (us ++ ds) (vs ++ cF) Q E hr I.kd (hb s us I.eG hl) r2 h) fun r s' hq=>?_)
 cases r with
 | error e=>exact hx pins σ H s e s' I hq
 | ok fl =>
  cases fl with
  | ret u=>exact I.after hq
  | next=>exact False.elim hq
  | brk=>exact False.elim hq
  | cont=>exact False.elim hq
theorem Am (F : A9 X.prog X.w X.K X.mg X.base CX k f fd ps sp) (hr : C5 k X.A) (hg : Gl X x) (hm : X.mg x = some (.ref f)) (hk : PySem.W.keepIn X.K (.ref f) = true) (hb : Ac X.K fd ps ds) (hd : Ao cF ds) (hx : Er CX X E)
  (ha:PA X (e :: es) t) (fg:(x == ("__debug__" : Str)) = false:=by decide) (he:starEach (e :: es) X.env = (false,eval e X.env) :: starEach es X.env:=by rfl) (ak:(backTo pos (starEach es X.env)).any (·.1) = false:=by rfl) :
  PE X (.Call (.Name x p) (e :: es) [] pos) (R0 sp cF E t):=by
 intro pins s σ H Q I h
 refine wpAny_Call_Name_kw (Iy I hg hm ?_ fg)
 refine PySem.W.callWith_K (h₀:=X.base) I.ok.mod.k7 hk (C8 (ha pos pins s σ H _ I h) fun us s1 ⟨vs,H1,I1,r,q⟩=>⟨I1.eG,?_⟩) he ak
 exact Ka F hr hb hd hx I1 r q
theorem D4 {pl : Sem Bool} (he : PE X o ta) (c : Ko X.K C) (hm : Ik X.K C m f) (F : A9 X.prog X.w X.K X.mg X.base CX k f fd ps sp) (hr : C5 k X.A) (hb : Ac X.K fd ps ds) (hd : Ao cF ds) (hx : Er CX X E) (ha : PA X (e :: es) t)
  (ff:starEach (e :: es) X.env = (false,eval e X.env) :: starEach es X.env:=by rfl) (ak:(backTo pos (starEach es X.env)).any (·.1) = false:=by rfl)
  (ht:eval (.Call (.Attribute o m apos) (e :: es) [] pos) X.env = (do
   let ov <- eval o X.env
   standAt apos.atName
   let (f,first) <- holding [ov] (getMethod ov m pl)
   callWith pos f first (backTo pos (starEach (e :: es) X.env)) (backToKw pos (keywordEach [] X.env))):=by rfl) :
  PE X (.Call (.Attribute o m apos) (e :: es) [] pos) (Of C m sp cF E ta t):=by
 intro pins s σ H Q I h
 refine PySem.W.methodCall_KW (pl:=pl) (C8 (he pins s σ H _ I h) fun u s1 ⟨x,H1,I1,rx,a,dx,fs,ex,ea,l,q⟩=>?_) ht
 subst ex
 obtain rfl:u = Value.ref a:=rx
 refine Gf I1 ea c hm l ?_
 refine PySem.W.callWith_K (first:=[.ref a]) (h₀:=X.base) I.ok.mod.k7 hm.kp (C8 (ha pos pins s1 σ H1 _ I1 q) fun us s2 ⟨vs,H2,I2,r,q2⟩=>⟨I2.eG,?_⟩) ff ak
 exact Ka (us := .ref a :: us) (vs := .ref a :: vs) F hr hb hd hx I2 (.cons rfl r) q2
theorem Bg {pl : Sem Bool} (he : PE X o ta) (c : Ko X.K C) (hm : Ik X.K C m f) (F : A9 X.prog X.w X.K X.mg X.base CX k f fd ps sp) (hr : C5 k X.A) (hb : Ac X.K fd ps ds) (hd : Ao cF ds) (hx : Er CX X E)
  (ht:eval (.Call (.Attribute o m apos) [] [] pos) X.env = (do
   let ov <- eval o X.env
   standAt apos.atName
   let (f,first) <- holding [ov] (getMethod ov m pl)
   callWith pos f first (backTo pos (starEach [] X.env)) (backToKw pos (keywordEach [] X.env))):=by rfl) :
  PE X (.Call (.Attribute o m apos) [] [] pos) (Of C m sp cF E ta O8):=by
 intro pins s σ H Q I h
 refine PySem.W.methodCall_KW (pl:=pl) (C8 (he pins s σ H _ I h) fun u s1 ⟨x,H1,I1,rx,a,dx,fs,ex,ea,l,q⟩=>?_) ht
 subst ex
 obtain rfl:u = Value.ref a:=rx
 refine Gf I1 ea c hm l ?_
 exact PySem.W.callWith_K0 (first:=[.ref a]) I1.eG hm.kp (Ka (us:=[.ref a]) (vs:=[.ref a]) F hr hb hd hx I1 (.cons rfl .nil) q)
structure Mk (K:PySem.W.Frag) (C f:Addr):Prop where
 makes:PySem.W.makesIn K C = true
 init:PySem.W.findIn K (.ref C) "__init__" = some (some (.ref f))
 fn:PySem.W.isFn K (.ref f) = true
 kp:PySem.W.keepIn K (.ref C) = true
theorem Mz {pins : List (Addr × Obj)} {σ : St} {H : Hp} {s : Shared} {Q : VK} {us : List Value} {vs : List V} (M : Mk X.K C f) (F : A9 X.prog X.w X.K X.mg X.base CX k f fd ps sp) (hr : C5 (k + 1) X.A) (hb : Ac X.K fd ps ds) (hd : Ao cF ds)
  (hx:Er CX X E) (I:Ae X pins σ H s) (r:Ao vs us)
  (h:∀ x dx,H x = none -> H dx = none -> dx ≠ x -> sp (.ref x :: (vs ++ cF)) (upd (upd H dx (.own x)) x (.ins C dx [])) (fun v H2=>v = .aA /\ Q (.ref x) H2) E) :
  wpAny (model X.prog X.w) X.A (call (.ref C) us) (EP X pins σ Q) X.xe s:=by
 have hq:=h (s.heap.objs.size + 1) s.heap.objs.size (I.ab.fresh (Nat.le_succ _)) (I.ab.fresh (Nat.le_refl _)) (Nat.ne_of_lt (Nat.lt_succ_self _))
 have I2:=Ae.made (C:=C) I
 have r2:Ao (V.ref (s.heap.objs.size + 1) :: (vs ++ cF)) (Value.ref (s.heap.objs.size + 1) :: (us ++ ds)) := .cons rfl (r.append hd)
 have hl:(Value.ref (s.heap.objs.size + 1) :: us ++ ds).length = ps.length:=by
  have e:=r2.length
  rw [F.len _ _ _ _ hq] at e
  exact e.symm
 refine wpAny_call (Mm (f:=f) I.eG M.makes M.init (beq_iff_eq.mp M.fn) (codeAny_mono (F.run _ X.stack _ _ ⟨Value.ref (s.heap.objs.size + 1) :: us,[]⟩ (Value.ref (s.heap.objs.size + 1) :: (us ++ ds)) _ _ E (hr.make C us [])
  (I2.kd.make C us []) (hb _ (Value.ref (s.heap.objs.size + 1) :: us) I2.eG hl) r2 hq) fun r s' ke=>?_))
 cases r with
 | error e=>exact hx pins σ _ _ e s' I2 ke
 | ok fl =>
  cases fl with
  | ret u =>
   obtain ⟨v,H',I3,rv,ev,q3⟩ := I2.after ke
   subst ev
   exact ⟨rv,⟨V.ref (s.heap.objs.size + 1),H',I3,rfl,q3⟩⟩
  | next=>exact False.elim ke
  | brk=>exact False.elim ke
  | cont=>exact False.elim ke
theorem E5 (M : Mk X.K C f) (F : A9 X.prog X.w X.K X.mg X.base CX k f fd ps sp) (hr : C5 (k + 1) X.A) (hg : Gl X x) (hm : X.mg x = some (.ref C)) (hb : Ac X.K fd ps ds) (hd : Ao cF ds) (hx : Er CX X E)
  (ha:PA X (e :: es) t) (fg:(x == ("__debug__" : Str)) = false:=by decide) (he:starEach (e :: es) X.env = (false,eval e X.env) :: starEach es X.env:=by rfl) (ak:(backTo pos (starEach es X.env)).any (·.1) = false:=by rfl) :
  PE X (.Call (.Name x p) (e :: es) [] pos) (R5 C sp cF E t):=by
 intro pins s σ H Q I h
 refine wpAny_Call_Name_kw (Iy I hg hm ?_ fg)
 refine PySem.W.callWith_K (h₀:=X.base) I.ok.mod.k7 M.kp (C8 (ha pos pins s σ H _ I h) fun us s1 ⟨vs,H1,I1,r,q⟩=>⟨I1.eG,?_⟩) he ak
 exact Mz M F hr hb hd hx I1 r q
end
def PK (X:Cx) (kf:List Keyword) (t:TA):Prop :=
 ∀ (pos:Pos) (pins:List (Addr × Obj)) (s:Shared) (σ:St) (H:Hp) (Q:List V -> Hp -> Prop),Ae X pins σ H s -> t σ H Q -> wpAny (model X.prog X.w) X.A (evalAll ((backToKw pos (keywordEach kf X.env)).map (·.2))) (AP X pins σ Q) X.xe s
section
variable {X:Cx} {CX:Kn} {k:Nat} {f C:Addr} {fd:FuncData} {ps ks:List Str} {sp:Sp} {E:XK} {x m:Str} {p pos apos kpos:Pos} {e o:Expr} {es:List Expr} {kf:List Keyword} {te ta:TE} {t tk:TA} {nm:Option Str}
theorem Pc:PK X [] O8:=fun _ _ _ _ H Q I h=>wpAny_evalAll_nil ⟨[],H,I,.nil,h⟩
theorem Nz (ha:PE X e te) (hr:PK X kf t):PK X (⟨nm,e,kpos⟩ :: kf) (N5 te t):=by
 intro pos pins s σ H Q I h
 show wpAny _ _ (evalAll ((do let v <- eval e X.env; standAt pos; pure v) :: (backToKw pos (keywordEach kf X.env)).map (·.2))) _ _ s
 refine wpAny_evalAll_cons (wpAny_bind (C8 (ha pins s σ H _ I h) fun u s1 ⟨x,H1,I1,r1,q1⟩=>wpAny_bind (wpAny_standAt (wpAny_pure ?_))))
 exact C8 (hr pos pins s1 σ H1 _ I1 q1) fun us s2 ⟨xs,H2,I2,r2,q2⟩=>⟨x :: xs,H2,I2,.cons r1 r2,q2⟩
structure S1 (K:PySem.W.Frag) (fd:FuncData) (ps ks:List Str) (g:List Value -> List Value -> List Value) (gV:List V -> List V -> List V):Prop where
 to:∀ (s:Shared) (us ws:List Value),K.In s.heap -> (g us ws).length = ps.length -> BindsTo s fd ⟨us,ks.zip ws⟩ (ps.zip (g us ws))
 rel:∀ {vs:List V} {us:List Value} {zs:List V} {ws:List Value},Ao vs us -> Ao zs ws -> Ao (gV vs zs) (g us ws)
def Ss (sp:Sp) (gV:List V -> List V -> List V) (E:XK) (t tk:TA):TE:=fun σ H Q=>t σ H fun vs H1=>tk σ H1 fun zs H2=>sp (gV vs zs) H2 Q E
variable {g:List Value -> List Value -> List Value} {gV:List V -> List V -> List V}
end
structure B0 (N P:List Str) (sc:Scope):Prop where
 kind:sc.kind = .function
 co:sc.isCoroutine = false
 gen:sc.isGenerator = false
 nd:N.Nodup
 pre:N.take P.length = P
 par:∀ x ∈ P,sc.names.lookup x = some .local \/ sc.names.lookup x = some .cell
 ia:∀ y ∈ sc.names,y.2 ≠ .free
theorem Hx {kindOf:Str -> Option NameKind} {x:Str}:∀ {binds:List (Str × Value)} {m:Str -> Option Value},(∀ v,(x,v) ∉ binds) -> bindL kindOf binds m x = m x
 | [],_,_=>rfl
 | (n,v) :: r,m,h=>by
  unfold bindL
  rw [Hx fun w hw=>h w (List.mem_cons_of_mem _ hw)]
  split
  ·have:x ≠ n:=by rintro rfl; exact h v List.mem_cons_self
   simp [this]
  ·rfl
theorem Hv {kindOf:Str -> Option NameKind} {x:Str}:∀ {binds:List (Str × Value)} {m:Str -> Option Value},(∀ v,(x,v) ∉ binds) -> bindC kindOf binds m x = m x
 | [],_,_=>rfl
 | (n,v) :: r,m,h=>by
  unfold bindC
  rw [Hv fun w hw=>h w (List.mem_cons_of_mem _ hw)]
  split
  ·rfl
  ·have:x ≠ n:=by rintro rfl; exact h v List.mem_cons_self
   simp [this]
theorem Hw {kindOf : Str -> Option NameKind} {x : Str} {v : Value} : ∀ {P : List Str} {vs : List Value} {i : Nat} {m : Str -> Option Value}, P.Nodup -> P[i]? = some x -> vs[i]? = some v -> kindOf x = some .local ->
  bindL kindOf (P.zip vs) m x = some v
 | [],_,_,_,_,h,_,_=>by simp at h
 | _ :: _,[],_,_,_,_,h,_=>by simp at h
 | p :: P,w :: vs,0,m,nd,h1,h2,hk=>by
  simp at h1 h2; subst h1; subst h2
  show bindL kindOf ((p,w) :: P.zip vs) m p = _
  unfold bindL
  rw [Hx fun v hv=>(List.nodup_cons.mp nd).1 (List.of_mem_zip hv).1,if_pos hk]
  simp
 | p :: P,w :: vs,i + 1,m,nd,h1,h2,hk=>by
  show bindL kindOf ((p,w) :: P.zip vs) m x = _
  unfold bindL
  exact Hw (i:=i) (List.nodup_cons.mp nd).2 (by simpa using h1) (by simpa using h2) hk
theorem Hu {kindOf : Str -> Option NameKind} {x : Str} {v : Value} : ∀ {P : List Str} {vs : List Value} {i : Nat} {m : Str -> Option Value}, P.Nodup -> P[i]? = some x -> vs[i]? = some v -> kindOf x ≠ some .local ->
  bindC kindOf (P.zip vs) m x = some v
 | [],_,_,_,_,h,_,_=>by simp at h
 | _ :: _,[],_,_,_,_,h,_=>by simp at h
 | p :: P,w :: vs,0,m,nd,h1,h2,hk=>by
  simp at h1 h2; subst h1; subst h2
  show bindC kindOf ((p,w) :: P.zip vs) m p = _
  unfold bindC
  rw [Hv fun v hv=>(List.nodup_cons.mp nd).1 (List.of_mem_zip hv).1,if_neg hk]
  simp
 | p :: P,w :: vs,i + 1,m,nd,h1,h2,hk=>by
  show bindC kindOf ((p,w) :: P.zip vs) m x = _
  unfold bindC
  exact Hu (i:=i) (List.nodup_cons.mp nd).2 (by simpa using h1) (by simpa using h2) hk
def En (N:List Str) (vs:List V):St:=vs.map some ++ List.replicate (N.length - vs.length) none
def Jw (CX:Kn) (P:Program) (w:World) (K:PySem.W.Frag) (mg:Str -> Option Value) (base:Heap) (N:List Str) (qual:Str) (scope:Scope) (f:Addr) (cd:Value) (A:Around) (outer:List Env) (s:Shared) (H:Hp) (E:XK):Cx where
 prog:=P
 w:=w
 K:=K
 mg:=mg
 base:=base
 A:=A.deeper (envOfC qual scope s.heap.objs.size f cd)
 N:=N
 s₀:=s
 H₀:=H
 env:=envOfC qual scope s.heap.objs.size f cd
 outer:=outer
 stack:=envOfC qual scope s.heap.objs.size f cd :: outer
 ex:=[]
 calm:=true
 fn:=fun _=>true
 pn:=[]
 xe:=fun e s'=>wpAny (model P w) (A.deeper (envOfC qual scope s.heap.objs.size f cd)) (leaving (envOfC qual scope s.heap.objs.size f cd) e) (fun _ nO=>CX outer H s E e nO) (fun e' nO=>CX outer H s E e' nO) s'
theorem Jb {sc:Scope} {n:Nat} {x:Str} (h:sc.names.lookup x = some .cell):∃ c,(cellsFrom n sc.names []).lookup x = some c:=by
 have q:=PySem.W.cellsFrom_some sc.names n [] (.inl h)
 exact Option.isSome_iff_exists.mp q
theorem Le {CX : Kn} {P : Program} {w : World} {K : PySem.W.Frag} {mg : Str -> Option Value} {base : Heap} {N ps : List Str} {qual : Str} {scope : Scope} {f : Addr} {cd : Value} {A : Around} {outer : List Env} {s s1 : Shared} {H : Hp} {E : XK} {us : List Value} {vs : List V}
  (S:B0 N ps scope) (hd:A.handled = none) (e0:Gz P w K mg base A outer s H) (hl:vs.length = ps.length) (r:Ao vs us)
  (x:InCallC s s.heap.objs.size (bindL (envOfC qual scope s.heap.objs.size f cd).kindOf (ps.zip us) fun _=>none) (cellsFrom (s.heap.objs.size + 1) scope.names []) (bindC (envOfC qual scope s.heap.objs.size f cd).kindOf (ps.zip us) fun _=>none) s1) :
  Ae (Jw CX P w K mg base N qual scope f cd A outer s H E) [] (En N vs) H s1:=by
 have ak:ps.length <= N.length:=by have:=congrArg List.length S.pre; rw [List.length_take] at this; omega
 obtain ⟨h1,tk,rfl,hk⟩ := x.done
 have kg:∀ b:Addr,b ∉ (Jw CX P w K mg base N qual scope f cd A outer s H E).ex:=fun b z=>absurd (show b ∈ ([]:List Addr) from z) (by simp)
 refine ⟨⟨e0.mod,S.kind,rfl,rfl,Nat.le_refl _,fun y z c h1 h2=>?_,fun y hy=>?_,fun y c _ h=>?_,fun _=>hd,Around.frames_deeper e0.frames,.inr ⟨rfl,rfl⟩,fun b z=>absurd z (kg b),e0.bs,e0.eV,fun b _ _=>kg b,fun b z=>absurd z (kg b),e0.bG,e0.gp⟩,
  rfl,e0.bare,Un.kept hk,⟨_,x.toInCall.ns,fun i y v h1 h2 h3=>?_⟩,fun y c h=>⟨_,x.cell y c h⟩,e0.ab.fresh (Nat.le_refl _),fun y c h=>?_,fun p hp=>absurd (show p ∈ ([]:List (Addr × Obj)) from hp) (by simp),e0.ab.kept hk,?_⟩
 ·exact name_of_addr x.apart (PySem.mem_of_lookup h1) (PySem.mem_of_lookup h2)
 ·have hy:scope.names.lookup y = some .cell \/ scope.names.lookup y = some .free:=hy
  rcases hy with hy | hy
  ·exact Jb hy
  ·exact absurd rfl (S.ia _ (PySem.mem_of_lookup hy))
 ·exact Nat.le_of_lt (x.above y c (PySem.mem_of_lookup h))
 ·have hi : i < vs.length := by
   unfold En at h2
   by_cases hi:i < vs.length
   ·exact hi
   ·rw [List.getElem?_append_right (by simpa using hi)] at h2
    rw [List.getElem?_replicate] at h2
    split at h2 <;> cases h2
  have ha:vs[i]? = some v:=by
   unfold En at h2
   rw [List.getElem?_append_left (by simpa using hi),List.getElem?_map] at h2
   cases e:vs[i]? with
   | none=>rw [e] at h2; cases h2
   | some a=>rw [e] at h2; cases h2; rfl
  obtain ⟨u,hu,rv⟩ := r.get ha
  have hp:ps[i]? = some y:=by
   rw [<- S.pre,List.getElem?_take_of_lt (by omega)]; exact h1
  have ndP:ps.Nodup:=by rw [<- S.pre]; exact S.nd.sublist (List.take_sublist _ _)
  refine ⟨u,rv,?_⟩
  rcases S.par y (List.mem_of_getElem? hp) with k | k
  ·exact .inl ⟨k,Hw ndP hp hu k⟩
  ·obtain ⟨c,e⟩ := Jb (n:=s.heap.objs.size + 1) k
   refine .inr ⟨.inl k,c,e,?_⟩
   have q:=x.cell y c e
   rw [Hu ndP hp hu (by show scope.names.lookup y ≠ _; rw [k]; decide)] at q
   exact q
 ·exact e0.ab.fresh (Nat.le_of_lt (x.above y c (PySem.mem_of_lookup h)))
 ·unfold En
  show _ = N.length
  rw [List.length_append,List.length_map,List.length_replicate]
  omega
theorem Oa {CX : Kn} {P : Program} {w : World} {K : PySem.W.Frag} {mg : Str -> Option Value} {base : Heap} {k : Nat} {f : Addr} {name qual : Str} {params : Arguments} {body : List Stmt} {scope : Scope} {dV kV doc pm ax ct oc : Value} {an od : Option Addr}
  {eY:Array (Option Value)} {N ps:List Str} {sp:Sp} (lk:K.lookup f = some ⟨oc,od,.func (PySem.W.fnOf name qual params body scope dV kV doc pm an ax ct),eY⟩) (fh:PySem.W.codeIn K ax qual = true) (S:B0 N ps scope)
  (len:∀ vs H Q E,sp vs H Q E -> vs.length = ps.length)
  (dH:∀ (A:Around) (outer:List Env) (s:Shared) (H:Hp) (vs:List V) (Q:VK) (E:XK),C5 k (A.deeper (envOfC qual scope s.heap.objs.size f ax)) -> sp vs H Q E ->
   ∃ t,Kp (Jw CX P w K mg base N qual scope f ax A outer s H E) body t /\ t { nx:=fun _ H'=>Q .aA H',rt:=Q } (En N vs) H) :
  A9 P w K mg base CX (k + 1) f (PySem.W.fnOf name qual params body scope dV kV doc pm an ax ct) ps sp:=by
 refine ⟨len,fun A outer s H args us vs Q E hr e0 hb r gu=>?_⟩
 have hl:=len _ _ _ _ gu
 have KX:K.In s.heap:=e0.mod.k7.keeps fun b o e=>(e0.bs b o e).1
 have lim:s.heap.NoLimit:=e0.mod.nolimit.keeps fun b o e=>(e0.bs b o e).1
 have kh:∀ y ∈ ps.zip us,scope.names.lookup y.1 = some .local \/ (scope.names.lookup y.1 = some .cell /\ ((cellsFrom (s.heap.objs.size + 1) scope.names []).lookup y.1).isSome = true):=fun ⟨n,v⟩ hy=>by
  rcases S.par n (List.of_mem_zip hy).1 with q | q
  ·exact .inl q
  ·exact .inr ⟨q,PySem.W.cellsFrom_some _ _ _ (.inl q)⟩
 refine codeAny_call_function hr.depth (KX _ _ lk) rfl S.co S.gen rfl (PySem.W.codeRec_of KX fh) (hb _ _ _ _ ?_)
 refine wpAny_newFunctionEnv_cells S.kind kh fun env he s1 x=>?_
 subst he
 refine ⟨lim.keeps x.toInCall.keep,codeAny_func ?_⟩
 obtain ⟨t,ht,hq⟩ := dH A outer s H vs Q E (hr.deeper _) gu
 have I:Ae (Jw CX P w K mg base N qual scope f ax A outer s H E) [] (En N vs) H s1:=Le S hr.hd e0 hl r x
 refine wpAny_mono (ht [] s1 (En N vs) H _ I hq) (fun fl s' hs=>?_) fun e s' hs=>hs
 have fin:∀ {σ':St} {H':Hp} {v:V} {u:Value},Ae (Jw CX P w K mg base N qual scope f ax A outer s H E) [] σ' H' s' -> B1 v u -> Q v H' -> CE outer P w H s Q u s' :=
  fun {σ' H' v u} J rv q=>⟨v,H',J.os,J.bare,J.base,J.ab,rv,q⟩
 cases fl with
 | ret u =>
  obtain ⟨v,σ',H',J,rv,q⟩ := hs
  exact fin J rv q
 | next =>
  obtain ⟨σ',H',J,q⟩ := hs
  exact fin (v:=V.aA) (u:=Value.none) J rfl q
 | brk =>
  obtain ⟨_,_,_,q⟩ := hs
  exact False.elim q
 | cont =>
  obtain ⟨_,_,_,q⟩ := hs
  exact False.elim q
section
variable {X:Cx} {x:Str} {p pos:Pos} {e:Expr} {es:List Expr} {t:TA} {id T:String} {r:List V -> Hp -> VK -> Prop}
def U2 (r:List V -> Hp -> VK -> Prop) (t:TA):TE:=fun σ H Q=>t σ H fun vs H1=>r vs H1 Q
theorem Dt (hc : Ht X (.builtin id) r) (hg : Gl X x) (hm : X.mg x = none) (hv : bootBuiltins x = some (.builtin id)) (ha : PA X (e :: es) t) (hn : x ≠ "__name__" := by decide) (fg : (x == ("__debug__" : Str)) = false := by decide)
  (he:starEach (e :: es) X.env = (false,eval e X.env) :: starEach es X.env:=by rfl) (ak:(backTo pos (starEach es X.env)).any (·.1) = false:=by rfl):PE X (.Call (.Name x p) (e :: es) [] pos) (U2 r t):=by
 intro pins s σ H Q I h
 refine wpAny_Call_Name_kw (Ee I hg hm hv ?_ hn fg)
 exact PyProof.Rows.callWith_builtin1 (C8 (ha pos pins s σ H _ I h) fun us s1 ⟨vs,H1,I1,r1,q1⟩=>hc pins s1 σ H1 vs us Q I1 r1 q1) he ak
theorem Br (hc : Ht X (.type T) r) (hg : Gl X x) (hm : X.mg x = none) (hv : bootBuiltins x = some (.type T)) (ha : PA X (e :: es) t) (hn : x ≠ "__name__" := by decide) (fg : (x == ("__debug__" : Str)) = false := by decide)
  (he:starEach (e :: es) X.env = (false,eval e X.env) :: starEach es X.env:=by rfl) (ak:(backTo pos (starEach es X.env)).any (·.1) = false:=by rfl):PE X (.Call (.Name x p) (e :: es) [] pos) (U2 r t):=by
 intro pins s σ H Q I h
 refine wpAny_Call_Name_kw (Ee I hg hm hv ?_ hn fg)
 exact PyProof.Rows.callWith_type1 (C8 (ha pos pins s σ H _ I h) fun us s1 ⟨vs,H1,I1,r1,q1⟩=>hc pins s1 σ H1 vs us Q I1 r1 q1) he ak
end
end L2
namespace HT
local macro_rules | `(tactic| omega) => `(tactic| lia)
open PySem PyProof.Rows
def lexLt:List Int -> List Int -> Bool
 | [],[]=>false
 | [],_ :: _=>true
 | _ :: _,[]=>false
 | x :: xs,y :: ys=>if x = y then lexLt xs ys else decide (x < y)
section
open PySem.SeqAt
open PySem.AutoSeq1 (wpAny_loadPart')
open PySem.MeetsSeq PySem.MeetsSeq2 PySem.MeetsSeq3
end
section
variable {prog:Program} {w:World} {A:Around} {E:Value -> Shared -> Prop} {s:Shared}
def d6 (n d:Nat):Option Int -> Nat
 | none=>d
 | some v=>if v < 0 then (v + (n:Int)).toNat else min v.toNat n
end
end HT
namespace L2
local macro_rules | `(tactic| omega) => `(tactic| lia)
open PySem PySem.Spec PyProof.Rows
abbrev TO:=St -> Hp -> (Option Int -> Hp -> Prop) -> Prop
def PO (X:Cx) (e:Option Expr) (t:TO):Prop :=
 ∀ (pins:List (Addr × Obj)) (s:Shared) (σ:St) (H:Hp) (Q:Option Int -> Hp -> Prop),Ae X pins σ H s -> t σ H Q ->
  wpAny (model X.prog X.w) X.A (evalPart e X.env) (fun u s'=>∃ o H',Ae X pins σ H' s' /\ IsPart u o /\ Q o H') X.xe s
def O9:TO:=fun _ H Q=>Q none H
def R8 (t:TE):TO:=fun σ H Q=>t σ H fun x H1=>∃ i,x = .int i /\ Q (some i) H1
theorem K2 {ns:List Int}:∀ {us:List Value},Ao (ns.map V.int) us -> IntsAre us ns:=by
 induction ns with
 | nil=>intro us r; rw [List.map_nil] at r; cases r; exact .nil
 | cons n ns ih =>
  intro us r
  rw [List.map_cons] at r
  cases r with
  | cons r1 r2 =>
   obtain ⟨t,e⟩ := r1
   subst e
   exact .cons n t (ih r2)
section
variable {X:Cx} {e:Expr} {te:TE} {lo hi:Option Expr} {tl th:TO} {pos p2:Pos}
theorem O0:PO X none O9:=by
 intro pins s σ H Q I h
 rw [evalPart_none]
 exact wpAny_pure ⟨none,H,I,.none,h⟩
theorem O1 (h:PE X e te):PO X (some e) (R8 te):=by
 intro pins s σ H Q I hw
 rw [evalPart_some]
 refine C8 (h pins s σ H _ I hw) fun u s1 aZ=>?_
 obtain ⟨x,H1,I1,r1,q1⟩ := aZ
 obtain ⟨i,rfl,q⟩ := q1
 obtain ⟨t,rfl⟩ := r1
 exact ⟨some i,H1,I1,.int i t,q⟩
def S5 (X:Cx) (r:V -> Option Int -> Option Int -> Hp -> VK -> Prop):Prop :=
 ∀ (pins:List (Addr × Obj)) (s:Shared) (σ:St) (H:Hp) (x:V) (v vl vu:Value) (lo hi:Option Int) (sl:Addr) (Q:VK),Ae X pins σ H s -> B1 x v -> s.heap.IsSliceOf sl vl vu .none -> IsPart vl lo -> IsPart vu hi -> r x lo hi H Q ->
  ∃ T id,typeLookup (.type T) "__getitem__" = pure (some (.builtin id)) /\ s.TypeIs v T /\ wpAny (model X.prog X.w) X.A (getItem v (.ref sl)) (EP X pins σ Q) X.xe s
def Vp (r:V -> Option Int -> Option Int -> Hp -> VK -> Prop) (te:TE) (tl th:TO):TE:=fun σ H Q=>te σ H fun x H1=>tl σ H1 fun l H2=>th σ H2 fun u H3=>r x l u H3 Q
theorem Mu {r:V -> Option Int -> Option Int -> Hp -> VK -> Prop} (hr:S5 X r) (he:PE X e te) (hl:PO X lo tl) (hu:PO X hi th):PE X (.Subscript e (.Slice lo hi none p2) pos) (Vp r te tl th):=by
 intro pins s σ H Q I h
 refine Subscript_ (C8 (he pins s σ H _ I h) fun v s1 aZ=>?_)
 obtain ⟨x,H1,I1,r1,q1⟩ := aZ
 refine wpAny_Slice (C8 (hl pins s1 σ H1 _ I1 q1) fun vl s2 ⟨l,H2,I2,pl,q2⟩=>C8 (hu pins s2 σ H2 _ I2 q2) fun vu s3 aZ=>?_)
 obtain ⟨u,H3,I3,pu,q3⟩ := aZ
 rw [evalPart_none]
 refine wpAny_pure ?_
 have I4:Ae X pins σ H3 { s3 with heap:=s3.heap.push { cls := .type "slice",data := .fields #[vl,vu,.none] } }:=I3.kept (t':=s3.toks) fun b ob q=>Heap.get?_push_of_some _ q
 obtain ⟨T,id,hT,ht,hg⟩ := hr pins { s3 with heap:=s3.heap.push { cls := .type "slice",data := .fields #[vl,vu,.none] } } σ H3 x v vl vu l u s3.heap.objs.size Q I4 r1 (Heap.IsSliceOf.new ..) pl pu q3
 show wpAny (model X.prog X.w) X.A (subscriptTail e (.Slice lo hi none p2) v (.ref s3.heap.objs.size)) (EP X pins σ Q) X.xe { s3 with heap:=s3.heap.push { cls := .type "slice",data := .fields #[vl,vu,.none] } }
 exact tail_any (ops:=[.ref s3.heap.objs.size,v]) ht hT hg (by with_unfolding_all rfl)
def Jv (xs:List V) (lo hi:Option Int):List V:=(xs.drop (HT.d6 xs.length 0 lo)).take (HT.d6 xs.length xs.length hi - HT.d6 xs.length 0 lo)
theorem Jd (xs:List V) (lo hi:Option Int):(Jv xs lo hi).length <= xs.length:=by
 unfold Jv
 rw [List.length_take,List.length_drop]
 omega
def V6 (K:PySem.W.Frag):V -> Option Int -> Option Int -> Hp -> VK -> Prop:=fun x lo hi H Q=>∃ a xs,x = .ref a /\ B6 K H a xs /\
 ¬ (HT.d6 xs.length 0 lo = 0 /\ HT.d6 xs.length xs.length hi = xs.length) /\ ∀ p,H p = none -> Q (.ref p) (upd H p (.tup (Jv xs lo hi)))
def V2 (K:PySem.W.Frag):R2:=fun x y H Q=>∃ a b ns ms,x = .ref a /\ y = .ref b /\ B6 K H a (ns.map V.int) /\ B6 K H b (ms.map V.int) /\ Q (.bl (HT.lexLt ns ms)) H
def Tp (K:PySem.W.Frag):R2:=fun x y H Q=>∃ a b xs ys,x = .ref a /\ y = .ref b /\ B6 K H a xs /\ B6 K H b ys /\ xs ≠ [] /\ xs.length + ys.length <= sizeLine /\
 (ys = [] -> Q (.ref a) H) /\ (ys ≠ [] -> ∀ p,H p = none -> Q (.ref p) (upd H p (.tup (xs ++ ys))))
end
def Ox (n:Nat) (i:Int):Option Nat:=if 0 <= i then (if i < n then some i.toNat else none) else if -(n:Int) <= i then some (i + n).toNat else none
def Kr {α:Type} (xs:List α) (i:Int):Option α:=(Ox xs.length i).bind fun j=>xs[j]?
theorem Np {n:Nat} {i:Int} {j:Nat} (h:Ox n i = some j):seqIndex? i n = some j /\ j < n /\ -(n:Int) <= i /\ i < n:=by
 unfold Ox at h
 by_cases h0:0 <= i
 ·rw [if_pos h0] at h
  by_cases h1:i < n
  ·rw [if_pos h1] at h
   have e:i.toNat = j:=Option.some.inj h
   exact ⟨by rw [seqIndex_of h0 h1,e],by omega,by omega,h1⟩
  ·rw [if_neg h1] at h; cases h
 ·rw [if_neg h0] at h
  by_cases h1 : -(n:Int) <= i
  ·rw [if_pos h1] at h
   have e:(i + n).toNat = j:=Option.some.inj h
   exact ⟨by rw [seqIndex_neg (by omega) h1,e],by omega,h1,by omega⟩
  ·rw [if_neg h1] at h; cases h
theorem Ks {α:Type} {xs:List α} {i:Int} {v:α} (h:Kr xs i = some v):∃ j,seqIndex? i xs.length = some j /\ xs[j]? = some v /\ j < xs.length /\ -(xs.length:Int) <= i /\ i < xs.length:=by
 unfold Kr at h
 cases e:Ox xs.length i with
 | none=>rw [e] at h; cases h
 | some j =>
  rw [e] at h
  obtain ⟨h1,h2,h3,h4⟩ := Np e
  exact ⟨j,h1,h,h2,h3,h4⟩
theorem Eh {α:Type} {xs:List α} {j:Nat} {v:α} (h:xs[j]? = some v):Kr xs (j:Int) = some v:=by
 have hj:j < xs.length:=(List.getElem?_eq_some_iff.mp h).1
 have e:Ox xs.length (j:Int) = some j:=by
  unfold Ox
  rw [if_pos (by omega),if_pos (by omega)]; simp
 unfold Kr; rw [e]; exact h
def Nb (b:Expr):Prop := ∀ o i,subscripted b false o i = operate [o,i] (getItem o i)
def Rc (X:Cx) (r:R2):Prop :=
 ∀ (value slice:Expr) (pins:List (Addr × Obj)) (s:Shared) (σ:St) (H:Hp) (x y:V) (v u:Value) (Q:VK),Ae X pins σ H s -> B1 x v -> B1 y u -> r x y H Q ->
  subscripted slice false v u = operate [v,u] (getItem v u) -> wpAny (model X.prog X.w) X.A (subscriptTail value slice v u) (EP X pins σ Q) X.xe s
def Tc (X:Cx) (id:String) (r:V -> List V -> Hp -> VK -> Prop):Prop :=
 ∀ (pins:List (Addr × Obj)) (s:Shared) (σ:St) (H:Hp) (x:V) (xs:List V) (v:Value) (us:List Value) (Q:VK),Ae X pins σ H s -> B1 x v -> Ao xs us -> r x xs H Q ->
  wpAny (model X.prog X.w) X.A (call (.builtin id) (v :: us)) (EP X pins σ Q) X.xe s
section
variable {X:Cx} {a b:Expr} {ta tb:TE} {pos:Pos}
theorem Ai {r:R2} (hr:Rc X r) (ha:PE X a ta) (hb:PE X b tb) (hs:Nb b):PE X (.Subscript a b pos) (Rq r ta tb):=by
 intro pins s σ H Q I h
 exact Subscript_ (Oo ha hb I h fun v u s2 x y H2 I2 rx ry q=>hr a b pins s2 σ H2 x y v u Q I2 rx ry q (hs _ _))
def Qo (K:PySem.W.Frag):R2:=fun x y H Q=>∃ p xs i v,x = .ref p /\ y = .int i /\ As K H p xs /\ Kr xs i = some v /\ Q v H
def Qp (K:PySem.W.Frag):R2:=fun x y H Q=>∃ p xs i v,x = .ref p /\ y = .int i /\ B6 K H p xs /\ Kr xs i = some v /\ Q v H
def Si:R2:=fun x y H Q=>∃ z i c,x = .str z /\ y = .int i /\ z.length <= sizeLine /\ Kr z.cps.toList i = some c /\ Q (.str ⟨#[c]⟩) H
theorem Nq:Rc X (Qo X.K):=by
 intro value slice pins s σ H x y v u Q I rx ry h hs
 obtain ⟨p,xs,i,z,rfl,rfl,hq,he,q⟩ := h
 cases rx
 obtain ⟨t,rfl⟩ := ry
 obtain ⟨ag,r,pl,hz⟩ := I.list hq
 obtain ⟨j,h1,h2,h3,h4,h5⟩ := Ks he
 obtain ⟨w,ew,ai⟩ := r.get h2
 have hl:=r.length
 have hn:=K4
 have fin:EP X pins σ Q w s:=⟨z,H,I,ai,q⟩
 by_cases h0:0 <= i
 ·have hj : i.toNat = j := by
   rw [seqIndex_of h0 h5] at h1
   exact Option.some.inj h1
  exact item_listR pl.isList h0 (by omega) (by rw [hj]; simpa using ew) fin hs
 ·have hj : (i + (ag.toArray.size : Int)).toNat = j := by
   rw [seqIndex_neg (by omega) h4] at h1
   rw [List.size_toArray,<- hl]
   exact Option.some.inj h1
  exact subscriptTail_builtinR (x:=w) pl.isList.typeIs slot_list_getitem.lookup
   (wpAny_getItem_list_neg (Q:=fun r s'=>r = w /\ EP X pins σ Q r s') pl.isList (by omega) (by rw [List.size_toArray] <;> omega) (by omega) (by rw [hj]; simpa using ew) ⟨rfl,fin⟩) hs
theorem Oy:Rc X (Qp X.K):=by
 intro value slice pins s σ H x y v u Q I rx ry h hs
 obtain ⟨p,xs,i,z,rfl,rfl,hq,he,q⟩ := h
 cases rx
 obtain ⟨t,rfl⟩ := ry
 obtain ⟨ag,r,pl,hz⟩ := I.tuple hq
 obtain ⟨j,h1,h2,h3,h4,h5⟩ := Ks he
 obtain ⟨w,ew,ai⟩ := r.get h2
 have hl:=r.length
 have hn:=K4
 have fin:EP X pins σ Q w s:=⟨z,H,I,ai,q⟩
 exact subscriptTail_builtinR (x:=w) pl.typeIs slot_tuple_getitem.lookup
  (getItem_tuple (j:=j) (Q:=fun r s'=>r = w /\ EP X pins σ Q r s') pl (by omega) (by omega) (by rw [List.size_toArray,<- hl]; exact h1) (by simpa using ew) ⟨rfl,fin⟩) hs
def Vx (K:PySem.W.Frag):R2:=fun x y H Q=>Qo K x y H Q \/ Qp K x y H Q \/ Si x y H Q
theorem Ae.lst {pins : List (Addr × Obj)} {σ : St} {H : Hp} {s : Shared} {p : Addr} {xs : List V} (I : Ae X pins σ H s) (h : H p = some (.lst xs)) :
  ∃ (ag:List Value) (n:Nat),Ao xs ag /\ s.heap.get? p = some { cls := .type "list",data := .seq ag.toArray n } /\ xs.length <= sizeLine:=by
 obtain ⟨z,ag,n,r,e⟩ := I.ab p _ h
 exact ⟨ag,n,r,e,z⟩
def Tw:V -> V -> V -> Hp -> (Hp -> Prop) -> Prop:=fun o i v H Q=>∃ p xs k j,o = .ref p /\ i = .int k /\ H p = some (.lst xs) /\ Ox xs.length k = some j /\ Q (upd H p (.lst (xs.set j v)))
theorem J5 (lo hi:Option Int) (n:Nat):(sliceBounds lo hi none n).1 = ((HT.d6 n 0 lo:Nat):Int) /\ (sliceBounds lo hi none n).2.1 = ((HT.d6 n n hi:Nat):Int) /\ (sliceBounds lo hi none n).2.2 = 1:=by
 refine ⟨?_,?_,rfl⟩
 ·cases lo with
  | none=>simp [sliceBounds,HT.d6]
  | some i =>
   simp only [sliceBounds,HT.d6,Option.getD_none,show (1:Int) > 0 by decide,if_true]
   by_cases h:i < 0
   ·simp only [h,if_true] <;> omega
   ·simp only [h,if_false] <;> omega
 ·cases hi with
  | none=>simp [sliceBounds,HT.d6]
  | some i =>
   simp only [sliceBounds,HT.d6,Option.getD_none,show (1:Int) > 0 by decide,if_true]
   by_cases h:i < 0
   ·simp only [h,if_true] <;> omega
   ·simp only [h,if_false] <;> omega
theorem Hs (ag:List Value) (lo hi:Option Int):slicePick ag.toArray lo hi none = ((ag.drop (HT.d6 ag.length 0 lo)).take (HT.d6 ag.length ag.length hi - HT.d6 ag.length 0 lo)).toArray:=by
 obtain ⟨h1,h2,h3⟩ := J5 lo hi ag.toArray.size
 unfold slicePick
 rw [h1,h2,h3]
 simp only [sliceRange_one,pick_run,List.size_toArray] <;> rfl
def Qr (K:PySem.W.Frag):V -> Option Int -> Option Int -> Hp -> VK -> Prop:=fun x lo hi H Q=>∃ a xs,x = .ref a /\ As K H a xs /\ ∀ p,H p = none -> Q (.ref p) (upd H p (.lst (Jv xs lo hi)))
theorem O6:S5 X (Qr X.K):=by
 intro pins s σ H x v vl vu lo hi sl Q I rx hs pl pu h
 obtain ⟨a,xs,rfl,hx,q⟩ := h
 cases rx
 obtain ⟨ag,r,ht,hz⟩ := I.list hx
 have hlen:=r.length
 refine ⟨"list",_,slot_list_getitem.lookup,ht.isList.typeIs,?_⟩
 refine wpAny_getItem_list_slice ht.isList hs pl pu .none (by simp) ?_ (by rw [List.size_toArray] <;> omega)
 rw [Hs,<- hlen]
 refine ⟨.ref s.heap.objs.size,_,I.laid (t':=s.toks) (o := .lst (Jv xs lo hi)) (fun b ob q=>Heap.get?_push_of_some _ q) (Nat.le_refl _) ?_,rfl,q _ (I.ab.fresh (Nat.le_refl _))⟩
 exact ⟨Nat.le_trans (Jd xs lo hi) hz,_,0,(r.drop (HT.d6 xs.length 0 lo)).take (HT.d6 xs.length xs.length hi - HT.d6 xs.length 0 lo),Heap.get?_push_size _ rfl⟩
def Ec:V -> Bool
 | .aA=>true
 | .bl _=>true
 | .int _=>true
 | .str _=>true
 | _=>false
def Nm:V -> V -> Bool
 | .aA,.aA=>true
 | .bl a,.bl b=>a == b
 | .bl a,.int b=>(if a then 1 else 0) == b
 | .int a,.bl b=>a == (if b then 1 else 0)
 | .int a,.int b=>a == b
 | .str a,.str b=>a == b
 | _,_=>false
theorem Os {A:Around} {s:Shared} {y x:V} {u v:Value} (ry:B1 y u) (rx:B1 x v) (fy:Ec y = true) (fx:Ec x = true):SeqAt.EqAt A s u v (Nm y x):=by
 cases y with
 | aA =>
  cases ry
  cases x with
  | aA=>cases rx; exact SeqAt.EqAt.same _
  | bl b=>cases rx; exact SeqAt.EqAt.none_bool b
  | int b=>obtain ⟨t,rfl⟩ := rx; exact SeqAt.EqAt.none_int b t
  | str b=>obtain ⟨t,rfl⟩ := rx; exact SeqAt.EqAt.none_str b t
  | _=>exact absurd (show false = true from fx) Bool.false_ne_true
 | bl a =>
  cases ry
  cases x with
  | aA=>cases rx; exact SeqAt.EqAt.bool_none a
  | bl b=>cases rx; exact SeqAt.EqAt.bool_bool a b
  | int b=>obtain ⟨t,rfl⟩ := rx; exact SeqAt.EqAt.bool_int a b t
  | str b=>obtain ⟨t,rfl⟩ := rx; exact SeqAt.EqAt.bool_str a b t
  | _=>exact absurd (show false = true from fx) Bool.false_ne_true
 | int a =>
  obtain ⟨t',rfl⟩ := ry
  cases x with
  | aA=>cases rx; exact SeqAt.EqAt.int_none a t'
  | bl b=>cases rx; exact SeqAt.EqAt.int_bool a t' b
  | int b=>obtain ⟨t,rfl⟩ := rx; exact SeqAt.EqAt.int_int a t' b t
  | str b=>obtain ⟨t,rfl⟩ := rx; exact SeqAt.EqAt.int_str a t' b t
  | _=>exact absurd (show false = true from fx) Bool.false_ne_true
 | str a =>
  obtain ⟨t',rfl⟩ := ry
  cases x with
  | aA=>cases rx; exact SeqAt.EqAt.str_none a t'
  | bl b=>cases rx; exact SeqAt.EqAt.str_bool a t' b
  | int b=>obtain ⟨t,rfl⟩ := rx; exact SeqAt.EqAt.str_int a t' b t
  | str b=>obtain ⟨t,rfl⟩ := rx; exact SeqAt.EqAt.str_str a t' b t
  | _=>exact absurd (show false = true from fx) Bool.false_ne_true
 | _=>exact absurd (show false = true from fy) Bool.false_ne_true
def Nl (x:V) (u:Value):Bool:=match u with
 | .none=>Nm .aA x
 | .bool b=>Nm (.bl b) x
 | .int i _=>Nm (.int i) x
 | .str z _=>Nm (.str z) x
 | _=>false
theorem Ma {x y:V} {u:Value} (r:B1 y u) (f:Ec y = true):Nl x u = Nm y x:=by
 cases y with
 | aA=>cases r; rfl
 | bl b=>cases r; rfl
 | int i=>obtain ⟨t,rfl⟩ := r; rfl
 | str z=>obtain ⟨t,rfl⟩ := r; rfl
 | _=>exact absurd (show false = true from f) Bool.false_ne_true
theorem Kq {x:V} {xs:List V} {us:List Value} (h:Ao xs us) (f:xs.all Ec = true):us.any (Nl x) = xs.any fun y=>Nm y x:=by
 induction h with
 | nil=>rfl
 | cons r t ih =>
  rw [List.all_cons,Bool.and_eq_true] at f
  rw [List.any_cons,List.any_cons,Ma r f.1,ih f.2]
theorem Jh {A:Around} {s:Shared} {x:V} {v:Value} (rx:B1 x v) (fx:Ec x = true) {xs:List V} {us:List Value} (h:Ao xs us) (f:xs.all Ec = true):∀ u ∈ us,SeqAt.EqAt A s u v (Nl x u):=by
 induction h with
 | nil =>
  intro u hu
  cases hu
 | cons r t ih =>
  intro u' hu
  rw [List.all_cons,Bool.and_eq_true] at f
  rcases List.mem_cons.mp hu with rfl | hu
  ·rw [Ma r f.1]
   exact Os r rx f.1 fx
  ·exact ih f.2 u' hu
def Ri (x:V) (xs:List V):Bool:=xs.any fun y=>Nm y x
def Tq (K:PySem.W.Frag) (neg:Bool):R2:=fun x y H Q=>∃ p xs,y = .ref p /\ (As K H p xs \/ B6 K H p xs) /\ Ec x = true /\ xs.all Ec = true /\ Q (.bl (if neg then !Ri x xs else Ri x xs)) H
theorem Lk:Gy X (compareOp .In) (Tq X.K false):=by
 intro pins s σ H x y v u Q I rx ry h
 obtain ⟨p,xs,rfl,hq,fx,fs,q⟩ := h
 cases ry
 rcases hq with hq | hq
 ·obtain ⟨ag,r,pl,hz⟩ := I.list hq
  refine SeqAt.in_listAt (Nl x) pl.isList (fun w hw=>Jh rx fx r fs w (by simpa using hw)) ⟨.bl _,H,I,rfl,?_⟩
  rw [show ag.toArray.any (Nl x) = ag.any (Nl x) by simp,Kq r fs]
  exact q
 ·obtain ⟨ag,r,pl,hz⟩ := I.tuple hq
  refine SeqAt.in_tupleAt (Nl x) pl (fun w hw=>Jh rx fx r fs w (by simpa using hw)) ⟨.bl _,H,I,rfl,?_⟩
  rw [show ag.toArray.any (Nl x) = ag.any (Nl x) by simp,Kq r fs]
  exact q
theorem Im:Ht X (.builtin "len") (fun xs H Q=>∃ p ys,xs = [.ref p] /\ (As X.K H p ys \/ B6 X.K H p ys) /\ Q (.int ys.length) H):=by
 intro pins s σ H xs us Q I r h
 obtain ⟨p,ys,rfl,hq,q⟩ := h
 obtain ⟨u,rfl,rx⟩ := Gx r
 cases rx
 have hn:=K4
 rcases hq with hq | hq
 ·obtain ⟨ag,r',pl,hz⟩ := I.list hq
  have hlen:=r'.length
  exact Calls.call_len_list pl.isList (by simp only [List.size_toArray] <;> omega) ⟨.int ys.length,H,I.tok _,⟨s.toks + 1,by rw [List.size_toArray,hlen]⟩,q⟩
 ·obtain ⟨ag,r',pl,hz⟩ := I.tuple hq
  have hlen:=r'.length
  exact len_tuple pl (by simp only [List.size_toArray] <;> omega) ⟨.int ys.length,H,I.tok _,⟨s.toks + 1,by rw [List.size_toArray,hlen]⟩,q⟩
theorem C2:Ht X (.type "list") (fun xs H Q=>∃ p ys,xs = [.ref p] /\ (As X.K H p ys \/ B6 X.K H p ys) /\ ∀ l,H l = none -> Q (.ref l) (upd H l (.lst ys))):=by
 intro pins s σ H xs us Q I r h
 obtain ⟨p,ys,rfl,hq,q⟩ := h
 obtain ⟨u,rfl,rx⟩ := Gx r
 cases rx
 have fin : ∀ (ag : List Value), Ao ys ag -> ys.length <= sizeLine -> ∀ (h' : Heap) (c' : Nat), (∀ b o', s.heap.get? b = some o' -> h'.get? b = some o') ->
   h'.get? s.heap.objs.size = some { cls := .type "list",dict:=none,data := .seq ag.toArray c',slots := #[] } -> EP X pins σ Q (.ref s.heap.objs.size) { s with heap:=h' }:=fun ag r' hz h' c' kp e =>
  ⟨.ref s.heap.objs.size,_,I.laid (t':=s.toks) kp (Nat.le_refl _) (show C6 X.prog X.w _ h' _ (.lst ys) from ⟨hz,ag,c',r',e⟩),rfl,q _ (I.ab.fresh (Nat.le_refl _))⟩
 rcases hq with hq | hq
 ·obtain ⟨ag,r',pl,hz⟩ := I.list hq
  have hlen:=r'.length
  obtain ⟨o,ho,hc,n,hd⟩ := pl.isList
  exact call_list_seq p (.inl rfl) ho hc hd (fun h' c' kp e=>fin ag r' hz h' c' kp e) (by simp only [List.size_toArray] <;> omega)
 ·obtain ⟨ag,r',pl,hz⟩ := I.tuple hq
  have hlen:=r'.length
  obtain ⟨o,ho,hc,n,hd⟩ := pl
  exact call_list_seq p (.inr rfl) ho hc hd (fun h' c' kp e=>fin ag r' hz h' c' kp e) (by simp only [List.size_toArray] <;> omega)
def T6 (K:PySem.W.Frag) (T:String) (x:V) (H:Hp):Prop:=match x with
 | .str _=>T = "str"
 | .int _=>T = "int"
 | .ref p => (T = "list" /\ ∃ xs, As K H p xs) \/ (T = "tuple" /\ ((∃ o, K.lookup p = some o /\ o.cls = .type "tuple" /\ o.dict = none) \/ ∃ xs, H p = some (.tup xs))) \/
   (T = "dict" /\ ((∃ cg,H p = some (.dK cg)) \/ ∃ cg,H p = some (.dT cg))) \/ (T = "set" /\ ∃ S n,H p = some (.set S n))
 | _=>False
theorem Po {pins : List (Addr × Obj)} {σ : St} {H : Hp} {s : Shared} {T : String} {x : V} {v : Value} (I : Ae X pins σ H s) (r : B1 x v) (ty : T6 X.K T x H) :
  s.TypeIs v T /\ ∀ a,v = .ref a -> ∃ ob,s.heap.get? a = some ob /\ ob.dict = none:=by
 cases x with
 | str z =>
  obtain ⟨t,rfl⟩ := r
  cases (show T = "str" from ty)
  exact ⟨typeIs_str s z t,fun _ e=>nomatch e⟩
 | int i =>
  obtain ⟨t,rfl⟩ := r
  cases (show T = "int" from ty)
  exact ⟨typeIs_int s i t,fun _ e=>nomatch e⟩
 | ref p =>
  cases r
  rcases ty with ⟨rfl,xs,hq⟩ | ⟨rfl,⟨o,hk,hc,hd⟩ | ⟨ys,hk⟩⟩ | ⟨rfl,hk⟩ | ⟨rfl,S,n,hk⟩
  ·obtain ⟨ag,_,pl,_⟩ := I.list hq
   refine ⟨pl.isList.typeIs,fun a e=>?_⟩
   cases e
   obtain ⟨o,n,e,c,hd,_⟩ := pl
   exact ⟨o,e,hd⟩
  ·refine ⟨⟨o,I.eG p o hk,hc⟩,fun a e=>?_⟩
   cases e
   exact ⟨o,I.eG _ o hk,hd⟩
  ·obtain ⟨⟨_,o2,e2,d2⟩,_,_,⟨o1,e1,c1,_⟩⟩ := (show C6 X.prog X.w H s.heap p (.tup ys) from I.ab p _ hk)
   refine ⟨⟨o1,e1,c1⟩,fun a ea=>?_⟩
   cases ea
   exact ⟨o2,e2,d2⟩
  ·have z : ∃ o, s.heap.get? p = some o /\ o.ExactDict := by
    rcases hk with ⟨cg,hk⟩ | ⟨cg,hk⟩
    ·obtain ⟨_,_,_,_,o,_,_,e,ex,_⟩ := I.ab p _ hk
     exact ⟨o,e,ex⟩
    ·obtain ⟨_,_,_,_,o,_,_,e,ex,_⟩ := I.ab p _ hk
     exact ⟨o,e,ex⟩
   obtain ⟨o,e,ex⟩ := z
   refine ⟨⟨o,e,ex.1⟩,fun a e2=>?_⟩
   cases e2
   exact ⟨o,e,ex.2.1⟩
  ·obtain ⟨o,_,_,_,e,ex,_⟩ := I.ab p _ hk
   refine ⟨⟨o,e,ex.1⟩,fun a e2=>?_⟩
   cases e2
   exact ⟨o,e,ex.2.1⟩
 | _=>exact False.elim ty
def Vc (K:PySem.W.Frag) (T:String) (r:V -> List V -> Hp -> VK -> Prop) (to:TE):TE:=fun σ H Q=>to σ H fun x H1=>T6 K T x H1 /\ r x [] H1 Q
def Vb (K:PySem.W.Frag) (T:String) (r:V -> List V -> Hp -> VK -> Prop) (to:TE) (t:TA):TE:=fun σ H Q=>to σ H fun x H1=>T6 K T x H1 /\ t σ H1 fun xs H2=>r x xs H2 Q
variable {o e:Expr} {es:List Expr} {to:TE} {t:TA} {name:Str} {apos dJ:Pos} {T id:String} {r:V -> List V -> Hp -> VK -> Prop}
theorem Gp (pa : PlainAttrs T) (slot : Slot T name id) (hty : typeOf (.builtin id) = pure (.type "method_descriptor")) (hm : Tc X id r) (ho : PE X o to) (ha : PA X (e :: es) t)
  (ki:attributeBase o name X.env (eval o X.env) = eval o X.env:=by rfl)
  (nP:((backTo dJ (starEach (e :: es) X.env)).all (fun x=>!x.1) && (backToKw dJ (keywordEach [] X.env)).all (fun x=>x.1.isSome)
   && decide ((e :: es).length + ([]:List Keyword).length + (if ([]:List Keyword).isEmpty then 0 else 1) < 30)) = true:=by rfl)
  (kj:(apos.endLine == dJ.line) = true:=by rfl) (hs:starEach (e :: es) X.env = (false,eval e X.env) :: starEach es X.env:=by rfl) (hplain:(backTo dJ (starEach es X.env)).any (·.1) = false:=by rfl) :
  PE X (.Call (.Attribute o name apos) (e :: es) [] dJ) (Vb X.K T r to t):=by
 intro pins s σ H Q I h
 refine wpAny_Call_method_late ki nP kj rfl (C8 (ho pins s σ H _ I h) fun v s1 aZ=>?_)
 obtain ⟨x,H1,I1,r1,ty,q1⟩ := aZ
 obtain ⟨h1,h2⟩ := Po I1 r1 ty
 refine ⟨T,id,pa,slot,hty,h1,h2,?_⟩
 have hA:=ha dJ pins s1 σ H1 _ I1 q1
 rw [hs] at hA ⊢
 refine Calls.callWith_builtin (by show (false || (backTo dJ (starEach es X.env)).any (·.1)) = false; rw [hplain] <;> rfl) (Calls.evalArgs_plain ?_)
 exact C8 hA fun us s2 ⟨vs,H2,I2,r2,q2⟩=>hm pins s2 σ H2 x vs v us Q I2 r1 r2 q2
/- xs.append(e),list.index on a kl tuple .. are Tc facts of 06m -/
end
def Uh (X:Cx) (id:String) (r:V -> List V -> Hp -> VK -> Prop):Prop :=
 ∀ (pins:List (Addr × Obj)) (s:Shared) (σ:St) (H:Hp) (x:V) (xs:List V) (v:Value) (us:List Value) (Q:VK),Ae X pins σ H s -> B1 x v -> Ao xs us -> r x xs H Q ->
  wpAny (model X.prog X.w) X.A (call (.builtin id) (v :: us)) (EP X pins σ Q) X.xe s
theorem Ao.one {x:V} {us:List Value} (h:Ao [x] us):∃ u,us = [u] /\ B1 x u:=by
 cases h with
 | cons r t =>
  cases t
  exact ⟨_,rfl,r⟩
theorem Ao.zero:∀ {us:List Value},Ao [] us -> us = []
 | _,.nil=>rfl
theorem Ao.dropLast {xs:List V} {us:List Value} (h:Ao xs us):Ao xs.dropLast us.dropLast:=by
 induction h with
 | nil=>exact .nil
 | cons r t ih =>
  cases t with
  | nil=>exact .nil
  | cons q t'=>exact .cons r ih
theorem Ao.eraseIdx:∀ {xs:List V} {us:List Value} (i:Nat),Ao xs us -> Ao (xs.eraseIdx i) (us.eraseIdx i)
 | _,_,_,.nil=>.nil
 | _,_,0,.cons _ t=>t
 | _,_,i + 1,.cons r t=>.cons r (Ao.eraseIdx i t)
theorem Ao.reverse {xs:List V} {us:List Value} (h:Ao xs us):Ao xs.reverse us.reverse:=by
 induction h with
 | nil=>exact .nil
 | cons r t ih=>rw [List.reverse_cons,List.reverse_cons]; exact Ao.append ih (.cons r .nil)
section
variable {X:Cx} {pins:List (Addr × Obj)} {σ:St} {H:Hp} {s:Shared} {l b:Addr} {xs ys zs:List V}
theorem Ae.nQ {ag its' : List Value} {n : Nat} {f : Array Value -> Array Value} {t' : Nat} (I : Ae X pins σ H s) (hH : H l = some (.lst xs))
  (e:s.heap.get? l = some { cls := .type "list",data := .seq ag.toArray n }) (hf:f ag.toArray = its'.toArray) (hv:Ao ys its') (hz:ys.length <= sizeLine) :
  Ae X pins σ (upd H l (.lst ys)) { s with heap:=s.heap.update l (Obj.mapSeq f),toks:=t' }:=by
 have q:=PySem.IsL.update e f
 rw [hf] at q
 refine I.write (x:=l) (e:=l) (by rw [hH]; exact trivial) (.inl rfl) (fun b' u hb hu=>(Heap.get?_update_other s.heap (Obj.mapSeq f) (Ne.symm hb)).trans hu) ⟨_,q⟩ ?_
 exact ⟨hz,its',_,hv,q⟩
theorem Ae.fresh (I:Ae X pins σ H s):H s.heap.objs.size = none:=I.ab.fresh (Nat.le_refl _)
theorem Ae.nR (I:Ae X pins σ H s) (hH:H l = some (.lst xs)):xs.length <= sizeLine /\ ∃ (ag:List Value) (n:Nat),Ao xs ag /\ xs.length = ag.length /\ s.heap.get? l = some { cls := .type "list",data := .seq ag.toArray n }:=by
 obtain ⟨z,ag,n,r,e⟩ := I.ab l _ hH
 exact ⟨z,ag,n,r,r.length,e⟩
end
section
variable {X:Cx}
def O3:V -> List V -> Hp -> VK -> Prop:=fun x vs H Q=>∃ l xs y,x = .ref l /\ vs = [y] /\ H l = some (.lst xs) /\ xs.length < sizeLine /\ Q .aA (upd H l (.lst (xs ++ [y])))
theorem C0:Uh X "list.append" O3:=by
 intro pins s σ H x vs v us Q I rx rv h
 obtain ⟨l,xs,y,rfl,rfl,hH,hz,q⟩ := h
 cases rx
 obtain ⟨u,rfl,ru⟩ := rv.one
 obtain ⟨z,ag,n,r,hl,e⟩ := I.nR hH
 refine call_meets F.slot_list_append ⟨_,e,rfl⟩ F.entry_list_append (F.args_list_append_2 _ _) (PySem.list_append l ag.toArray n u (by rw [List.size_toArray]; omega)) ⟨e,?_⟩
 refine ⟨.aA,_,I.nQ (its':=ag ++ [u]) hH e (by simp) (r.append (.cons ru .nil)) ?_,rfl,q⟩
 rw [List.length_append,List.length_singleton]
 omega
def Rk:V -> List V -> Hp -> VK -> Prop:=fun x vs H Q=>∃ l b xs zs,x = .ref l /\ vs = [.ref b] /\ H l = some (.lst xs) /\ H b = some (.lst zs) /\ xs.length + zs.length <= sizeLine /\ Q .aA (upd H l (.lst (xs ++ zs)))
def V4:V -> List V -> Hp -> VK -> Prop:=fun x vs H Q=>∃ l xs y,x = .ref l /\ vs = [] /\ H l = some (.lst xs) /\ xs[xs.length - 1]? = some y /\ Q y (upd H l (.lst xs.dropLast))
def Sk:V -> List V -> Hp -> VK -> Prop:=fun x vs H Q=>∃ l xs i k y,x = .ref l /\ vs = [.int i] /\ H l = some (.lst xs) /\ -(2 ^ 63) <= i /\ i < 2 ^ 63 /\ seqIndex? i xs.length = some k /\ xs[k]? = some y /\ Q y (upd H l (.lst (xs.eraseIdx k)))
def Qq:V -> List V -> Hp -> VK -> Prop:=fun x vs H Q=>∃ l xs,x = .ref l /\ vs = [] /\ H l = some (.lst xs) /\ Q .aA (upd H l (.lst xs.reverse))
def Sf:V -> List V -> Hp -> VK -> Prop:=fun x vs H Q=>∃ l xs,x = .ref l /\ vs = [] /\ H l = some (.lst xs) /\ Q .aA (upd H l (.lst []))
def Ux:R2:=fun x y H Q=>∃ l b xs zs,x = .ref l /\ y = .ref b /\ H l = some (.lst xs) /\ H b = some (.lst zs) /\ xs.length + zs.length <= sizeLine /\ ∀ p,H p = none -> Q (.ref p) (upd H p (.lst (xs ++ zs)))
def V5:R2:=fun x y H Q=>∃ l k xs,x = .ref l /\ y = .int k /\ H l = some (.lst xs) /\ -(2 ^ 63) <= k /\ k < 2 ^ 63 /\ xs.length * k.toNat <= sizeLine /\
 ∀ p,H p = none -> Q (.ref p) (upd H p (.lst (List.replicate k.toNat xs).flatten))
end
section
variable {prog:Program} {w:World} {A:Around} {E:Value -> Shared -> Prop} {s:Shared}
end
section
variable {X:Cx}
end
end L2
namespace Att
local macro_rules | `(tactic| omega) => `(tactic| lia)
open PySem PySem.W PySem.Calls PyProof.Rows
theorem G3 {P:Params} {h:Heap}:∀ (ns:List Int) (vs:List Value),WellAll P h vs (ns.map WData.int) -> IntsAre vs ns:=by
 intro ns
 induction ns with
 | nil =>
  intro vs w
  rw [List.map_nil] at w
  cases w
  exact .nil
 | cons n ns ih =>
  intro vs w
  rw [List.map_cons] at w
  cases w with
  | cons a b =>
   cases a
   exact .cons _ _ (ih _ b)
theorem eZ {l : OpenLaw} {n : Nat} (hn : l.most = some n) {P : Params} {h : Heap} {args : List WData} {vals : List Value}
  (gx:l.row.toRowW.claim.pre args = true) (au:WellAll P h vals args) :
  ∃ a vs ns,vals = [Value.ref a] /\ args = [WData.list (ns.map WData.int)] /\ h.get? a = some { cls := .type "list",data := .seq vs.toArray } /\ IntsAre vs ns /\ ns.length <= n:=by
 have hsh:WShape.hasAll [] args [.list .int] = true:=(pre_splitW gx).1
 have hc:l.pre.holds [] { args:=args } = true:=(pre_splitW gx).2
 obtain ⟨d,r,rfl,h1,h2⟩ := hasAllW_cons hsh
 obtain rfl:=hasAllW_nil h2
 obtain ⟨xs,rfl,h3⟩ := hasW_list h1
 obtain ⟨ns,rfl⟩ := items_int h3
 have hlen:ns.length <= n:=by
  unfold OpenLaw.pre at hc
  have h4:(WTm.not (.lt (.lit (.int (n:Int))) (.len (.arg 0)))).holds [] { args:=[.list (ns.map .int)] } = true:=by
   have h4:=(holds_andW hc).1
   rw [hn] at h4
   exact h4
  have h5:=condW_of h4 (w_not (w_lt w_lit (w_len_list (w_arg rfl))))
  rw [List.length_map] at h5
  refine Nat.le_of_not_lt fun q=>?_
  have q':(n:Int) < ((ns.length:Nat):Int):=by omega
  first
   | (rw [decide_eq_true q'] at h5; exact absurd h5 (by decide))
   | (simp at h5; omega)
 cases au with
 | cons w1 w2 =>
  cases w2
  cases w1 with
  | list ho gw=>exact ⟨_,_,ns,rfl,rfl,ho,G3 ns _ gw,hlen⟩
theorem f6 (l:OpenLaw) (args:List WData):l.row.toRowW.claim.post args (.bool true) args = true :=
 postW_of (r:=l.row.toRowW) (X:=(true == true))
  (show WShape.has [] (.bool true) .bool = true by first | rfl | decide | simp [WShape.has,WShape.arms,WShape.armsAll])
  (show (WTm.eq .res (.lit (.bool true))).value [] { args:=args,res:=some (.bool true),after:=args } = some (.bool (true == true)) from w_eq_bool (w_res rfl) w_lit) rfl
section
variable {prog:Program} {w:World} {A:Around} {E:Value -> Shared -> Prop} {s:Shared} {K:Frag}
def Sd (h:Heap):Heap:={ h with objs := #[] }
def Sc (h:Heap) (L d:Addr):List (Addr × Obj):=(List.range h.objs.size).filterMap fun a=>if a = L \/ a = d then none else (h.get? a).map fun o=>(a,o)
end
end Att
namespace L2
local macro_rules | `(tactic| omega) => `(tactic| lia)
open PySem PySem.Spec PyProof.Rows
theorem Ij:∀ {vs:List Value} {ns:List Int},IntsAre vs ns -> Ao (ns.map V.int) vs
 | _,_,.nil=>.nil
 | _,_,.cons n t h=>.cons ⟨t,rfl⟩ (Ij h)
def Ol (H:Hp):Prop := ∀ b,H b = none \/ ∃ o xs,H b = some (.eU o (.lst xs))
theorem Mj {P : Program} {w : World} {K : PySem.W.Frag} {mg mb : Str -> Option Value} {CX : Kn} {k : Nat} {fa a : Addr} {fd : FuncData} {x : Str} {sp : Sp} {s₁ : Shared} {vs : List Value} {ns : List Int}
  (KX:K.In s₁.heap) (jU:s₁.heap.Ns mainGlobals mg) (hb:s₁.heap.Ns builtinsNs mb) (hbb:∀ x:Str,x ≠ "__name__" -> mb x = bootBuiltins x) (nS:s₁.heap.NoLimit) (hg:s₁.gens = #[])
  (ha:s₁.heap.get? a = some { cls := .type "list",data := .seq vs.toArray }) (hi:IntsAre vs ns) (hl:ns.length <= sizeLine) (hr:C5 k callerA)
  (F:∀ base:Heap,K.In base -> base.Ns mainGlobals mg -> A9 P w K mg base CX k fa fd [x] sp) (km:∀ (s:Shared) (u:Value),BindsTo s fd ⟨[u],[]⟩ [(x,u)])
  (gu:∀ H:Hp,Ol H -> As K H a (ns.map V.int) -> sp [.ref a] H (fun v _=>v = .bl true) fun _ _ _=>False)
  (nU:∀ H e s',CX [] H s₁ (fun _ _ _=>False) e s' -> False) :
  codeAny (model P w) callerA (.call (.ref fa) ⟨[.ref a],[]⟩) (fun r s'=>r = .ok (.ret (.bool true)) /\ OldK s₁.heap s'.heap /\ s'.os = s₁.os /\ AllBare s'.gens) s₁:=by
 have rv:=Ij hi
 have nV:=hi.length
 have core : ∀ H : Hp, Ol H -> As K H a (ns.map V.int) -> Fb P w H s₁.heap -> (∀ b, H b ≠ none -> b = a) -> (H a ≠ none -> K.lookup a = none) ->
   codeAny (model P w) callerA (.call (.ref fa) ⟨[.ref a],[]⟩) (fun r s'=>r = .ok (.ret (.bool true)) /\ OldK s₁.heap s'.heap /\ s'.os = s₁.os /\ AllBare s'.gens) s₁:=by
  intro H hO hS ab hA hK
  have eL:∀ {b:Addr} {o:Obj},s₁.heap.get? b = some o -> H b = none -> (Iu s₁.heap H).get? b = some o:=fun e n=>Mg e n
  have kg:∀ {b:Addr} {o:Obj} {es:Array DictEntry} {ep:Nat},s₁.heap.get? b = some o -> o.data = .dict es ep -> H b = none:=fun {b o es ep} e d=>by
   cases q:H b with
   | none=>rfl
   | some u =>
    have e':b = a:=hA b (by rw [q]; simp)
    subst e'
    rw [ha] at e; cases e
    have d':Data.seq vs.toArray _ = Data.dict es ep:=d
    cases d'
  have n6:∀ {b:Addr} {m:Str -> Option Value},s₁.heap.Ns b m -> (Iu s₁.heap H).Ns b m:=fun {b m} ⟨o,es,ep,e,d,r⟩=>⟨o,es,ep,eL e (kg e d),d,r⟩
  have hKb:K.In (Iu s₁.heap H):=fun b o e=>eL (KX b o e) (by
   cases q:H b with
   | none=>rfl
   | some u =>
    have e':b = a:=hA b (by rw [q]; simp)
    subst e'
    rw [hK (by rw [q]; simp)] at e; cases e)
  have hM:Mod K mg (Iu s₁.heap H):=⟨hKb,n6 jU,⟨mb,n6 hb,hbb⟩,let ⟨mc,h1,h2⟩ := nS; ⟨mc,n6 h1,h2⟩⟩
  have e0:Gz P w K mg (Iu s₁.heap H) callerA [] s₁ H:=⟨rfl,hM,fun b o e=>Nv e,Nat.le_of_eq (Ld _ _),trivial,fun b hb=>absurd (show b ∈ ([]:List Addr) from hb) (by simp),ab,.of_eq hg⟩
  refine codeAny_mono ((F _ hKb (n6 jU)).run callerA [] s₁ H ⟨[.ref a],[]⟩ [.ref a] [.ref a] _ _ hr e0 (km s₁ (.ref a)) (.cons rfl .nil) (gu H hO hS)) fun r s' h=>?_
  cases r with
  | error e=>exact (nU H e s' h).elim
  | ok fl =>
   cases fl with
   | next=>exact False.elim h
   | brk=>exact False.elim h
   | cont=>exact False.elim h
   | ret u =>
    obtain ⟨v,H',os,bare,un,nW,r',q⟩ := h
    have q':v = .bl true:=q
    subst q'
    obtain rfl:u = Value.bool true:=r'
    refine ⟨rfl,OldK.of_keep fun b o e=>?_,os,bare⟩
    cases q:H b with
    | none=>exact un.keep b o e q (by intro z; exact absurd (show b ∈ ([]:List Addr) from z) (by simp)) (by simp)
    | some u =>
     rcases hO b with z | ⟨ob,xs,z⟩
     ·rw [q] at z; cases z
     ·have z2:=un.bX b ob _ z
      obtain ⟨e1,_⟩ := ab b _ z
      obtain ⟨e2,_⟩ := nW b _ z2
      rw [e] at e1; cases e1
      exact e2
 cases hk:K.lookup a with
 | some o =>
  have e:=KX a o hk
  rw [ha] at e
  cases e
  refine core (fun _=>none) (fun _=>.inl rfl) (.inr ⟨_,vs.toArray,_,hk,rfl,rfl,rfl,by rw [List.size_toArray,nV]; exact hl,by simpa using rv⟩) (fun b u z=>by have z':(none:Option HO) = some u:=z; cases z') (fun b z=>absurd rfl z) fun z=>absurd rfl z
 | none =>
  refine core (fun b=>if b = a then some (.eU { cls := .type "list",data := .seq vs.toArray } (.lst (ns.map V.int))) else none) (fun b=>?_) (.inl (.inr ⟨{ cls := .type "list",data := .seq vs.toArray },if_pos rfl⟩)) (fun b u z=>?_) (fun b z=>?_) fun _=>hk
  ·by_cases hb:b = a
   ·exact .inr ⟨_,_,if_pos hb⟩
   ·exact .inl (if_neg hb)
  ·by_cases hb:b = a
   ·have z':=(if_pos hb).symm.trans z
    cases z'
    subst hb
    exact ⟨ha,by rw [List.length_map]; exact hl,vs,_,rv,ha⟩
   ·have z':=(if_neg hb).symm.trans z
    cases z'
  ·by_cases hb:b = a
   ·exact hb
   ·exact absurd (if_neg hb) z
abbrev Vs {K:PySem.W.Frag} {h:Heap} (_:K.In h):PySem.W.Frag:=K
def D2 (s:Stmt) (j:Nat):Stmt:=match s with
 | .ClassDef _ _ _ body _ _ _ _ _ _ _=>body.getD j (.Pass ⟨0,0,0,0⟩)
 | _=>.Pass ⟨0,0,0,0⟩
def Aw (s:Stmt):Arguments:=match s with
 | .FunctionDef _ a _ _ _ _ _ _ _ _=>a
 | _=>{ posonlyargs:=[],args:=[],vararg:=none,kwonlyargs:=[],kw_defaults:=[],kwarg:=none,defaults:=[] }
def Av (s:Stmt):List Stmt:=match s with
 | .FunctionDef _ _ b _ _ _ _ _ _ _=>b
 | _=>[]
def A7 (s:Stmt):Scope:=match s with
 | .FunctionDef _ _ _ _ _ _ sc _ _ _=>sc
 | _=>{ kind := .function,names:=[],isGenerator:=false,isCoroutine:=false }
abbrev Aq:Kn:=fun _ _ _ _ _ _=>False
abbrev E0:XK:=fun _ _ _=>False
theorem Aj {X:Cx}:Er Aq X E0:=fun _ _ _ _ _ _ _ h=>h.elim
structure Dp (K:PySem.W.Frag) (x qual:Str) (st:Stmt) (f:Addr) (fd:FuncData):Prop where
 ex:∃ (oc:Value) (od:Option Addr) (kV doc pm:Value) (an:Option Addr) (ax ct:Value) (eY:Array (Option Value)),
  fd = PySem.W.fnOf x qual (Aw st) (Av st) (A7 st) .none kV doc pm an ax ct /\ K.lookup f = some ⟨oc,od,.func fd,eY⟩ /\ PySem.W.codeIn K ax qual = true
 kp:PySem.W.keepIn K (.ref f) = true
section
variable {P:Program} {w:World} {K:PySem.W.Frag} {mg:Str -> Option Value} {base:Heap}
theorem Dp.ok {x qual : Str} {st : Stmt} {f : Addr} {fd : FuncData} {N ps : List Str} {k : Nat} {sp : Sp} (F : Dp K x qual st f fd) (S : B0 N ps (A7 st)) (len : ∀ vs H Q E, sp vs H Q E -> vs.length = ps.length)
  (dH:∀ (ax:Value) (A:Around) (outer:List Env) (s:Shared) (H:Hp) (vs:List V) (Q:VK) (E:XK),C5 k (A.deeper (envOfC qual (A7 st) s.heap.objs.size f ax)) -> sp vs H Q E ->
   ∃ t,Kp (Jw Aq P w K mg base N qual (A7 st) f ax A outer s H E).gq (Av st) t /\ t { nx:=fun _ H'=>Q .aA H',rt:=Q } (En N vs) H):A9 P w K mg base Aq (k + 1) f fd ps sp:=by
 obtain ⟨oc,od,kV,doc,pm,an,ax,ct,eY,rfl,lk,fh⟩ := F.ex
 refine Oa lk fh S len fun A outer s H vs Q E hr gu=>?_
 obtain ⟨t,h,q⟩ := dH ax A outer s H vs Q E hr gu
 exact ⟨t,h.gq,q⟩
theorem Dp.binds {x qual : Str} {st : Stmt} {f : Addr} {fd : FuncData} {ps : List Str} (F : Dp K x qual st f fd)
  (h:∀ (kV doc pm:Value) (an:Option Addr) (ax ct:Value) (us:List Value),us.length = ps.length -> bindArgs (PySem.W.fnOf x qual (Aw st) (Av st) (A7 st) .none kV doc pm an ax ct) ⟨us,[]⟩ = pure (ps.zip us)):Ac K fd ps []:=by
 obtain ⟨oc,od,kV,doc,pm,an,ax,ct,eY,rfl,lk,fh⟩ := F.ex
 exact .all (h kV doc pm an ax ct)
theorem Bj {x qual : Str} {st : Stmt} {f : Addr} {oc : Value} {od an : Option Addr} {eY : Array (Option Value)} {kV doc pm ax ct : Value} (l : K.lookup f = some ⟨oc, od, .func (PySem.W.fnOf x qual (Aw st) (Av st) (A7 st) .none kV doc pm an ax ct), eY⟩)
  (c:PySem.W.codeIn K ax qual = true) (k:PySem.W.keepIn K (.ref f) = true):Dp K x qual st f (PySem.W.fnOf x qual (Aw st) (Av st) (A7 st) .none kV doc pm an ax ct):=⟨⟨oc,od,kV,doc,pm,an,ax,ct,eY,rfl,l,c⟩,k⟩
end
theorem Ap {n:Nat} (h:n <= 1000):n < sizeLine:=Nat.lt_of_le_of_lt h (by decide)
section
variable {X:Cx}
theorem pv (i : Nat) {x : Str} {pos : Pos} (hN : X.N[i]? = some x := by rfl) (hv : S7 X.env.scope x := by first | exact Or.inl rfl | exact Or.inr (Or.inl rfl) | exact Or.inr (Or.inr rfl)) (hd : (x == ("__debug__" : Str)) = false := by decide)
  (fh:(x == ("__classdict__" : Str)) = false:=by decide):PE X (.Name x pos) (Ra i):=Pa hN hv hd fh
end
theorem Ix {c A B:Prop} [Decidable c] (h1:c -> A) (h2:¬ c -> B):if c then A else B:=by
 by_cases h:c
 ·rw [if_pos h]
  exact h1 h
 ·rw [if_neg h]
  exact h2 h
def A5 (H H':Hp):Prop := ∀ b o,H b = some o -> H' b = some o
theorem A5.refl (H:Hp):A5 H H:=fun _ _ h=>h
theorem A5.trans {H H1 H2:Hp} (a:A5 H H1) (b:A5 H1 H2):A5 H H2:=fun c o h=>b c o (a c o h)
theorem A5.free {H H':Hp} (e:A5 H H') {l:Addr} (h:H' l = Option.none):H l = Option.none:=by
 cases q:H l with
 | none=>rfl
 | some o =>
  rw [e l o q] at h
  cases h
theorem A5.seq {K:PySem.W.Frag} {H H':Hp} {a:Addr} {xs:List V} (e:A5 H H') (h:As K H a xs):As K H' a xs:=by
 rcases h with (h | ⟨o,h⟩) | h
 ·exact .inl (.inl (e _ _ h))
 ·exact .inl (.inr ⟨o,e _ _ h⟩)
 ·exact .inr h
def D1 (cells:List (Str × Addr)):List (Str × NameKind) -> List (Str × Addr) -> List (Str × Addr)
 | [],cs=>cs
 | (n,k) :: r,cs=>if k == NameKind.free then D1 cells r ((n,(cells.lookup n).getD 0) :: cs) else D1 cells r cs
theorem Fd {cells : List (Str × Addr)} {x : Str} {c : Addr} : ∀ {names : List (Str × NameKind)} {cs : List (Str × Addr)}, (D1 cells names cs).lookup x = some c ->
  cs.lookup x = some c \/ ((x,NameKind.free) ∈ names /\ c = (cells.lookup x).getD 0)
 | [],cs,h=>.inl h
 | (n,k) :: r,cs,h=>by
  unfold D1 at h
  by_cases hk:(k == NameKind.free) = true
  ·rw [if_pos hk] at h
   rcases Fd h with h1 | ⟨h1,h2⟩
   ·rw [List.lookup_cons] at h1
    by_cases hx:(x == n) = true
    ·rw [hx] at h1
     have e:x = n:=eq_of_beq hx
     have e2:k = NameKind.free:=eq_of_beq hk
     subst e e2
     exact .inr ⟨List.mem_cons_self,(Option.some.inj h1).symm⟩
    ·have hx':(x == n) = false:=by simpa using hx
     rw [hx'] at h1
     exact .inl h1
   ·exact .inr ⟨List.mem_cons_of_mem _ h1,h2⟩
  ·rw [if_neg hk] at h
   rcases Fd h with h1 | ⟨h1,h2⟩
   ·exact .inl h1
   ·exact .inr ⟨List.mem_cons_of_mem _ h1,h2⟩
theorem Es {cells:List (Str × Addr)} {x:Str}:∀ {names:List (Str × NameKind)} {cs:List (Str × Addr)},(∃ c,cs.lookup x = some c) -> ∃ c,(D1 cells names cs).lookup x = some c
 | [],cs,h=>h
 | (n,k) :: r,cs,h=>by
  unfold D1
  by_cases hk:(k == NameKind.free) = true
  ·rw [if_pos hk]
   refine Es ?_
   rw [List.lookup_cons]
   cases hx:x == n with
   | true=>exact ⟨_,rfl⟩
   | false=>exact h
  ·rw [if_neg hk]
   exact Es h
theorem Dr {cells:List (Str × Addr)} {x:Str}:∀ {names:List (Str × NameKind)} {cs:List (Str × Addr)},(x,NameKind.free) ∈ names -> ∃ c,(D1 cells names cs).lookup x = some c
 | [],cs,h=>by cases h
 | (n,k) :: r,cs,h=>by
  unfold D1
  rcases List.mem_cons.mp h with e | h
  ·have e1:x = n:=congrArg Prod.fst e
   have e2:NameKind.free = k:=congrArg Prod.snd e
   subst e1 e2
   rw [if_pos (by decide)]
   refine Es ⟨(cells.lookup x).getD 0,?_⟩
   rw [List.lookup_cons,beq_self_eq_true]
  ·by_cases hk:(k == NameKind.free) = true
   ·rw [if_pos hk]
    exact Dr h
   ·rw [if_neg hk]
    exact Dr h
theorem E7 {env : Env} : ∀ {names : List (Str × NameKind)} {x : Str} {k' : NameKind}, (∀ y ∈ names, y.2 ≠ NameKind.cell) -> k' ≠ .local -> (k' = .cell \/ k' = .free) ->
  (names.map fun (n,k)=>if (k == NameKind.free && env.scope.kind == .function && env.kindOf n == some .cell) then (n,NameKind.cell) else (n,k)).lookup x = some k' -> (x,NameKind.free) ∈ names
 | [],_,_,_,_,_,h=>by simp at h
 | (n,k) :: r,x,k',hc,hl,hk',h=>by
  have ih:=@E7 env r x k' (fun y hy=>hc y (List.mem_cons_of_mem _ hy)) hl hk'
  have h0:List.lookup x ((if (k == NameKind.free && env.scope.kind == .function && env.kindOf n == some .cell) = true then (n,NameKind.cell) else (n,k)) :: (r.map fun (n,k)=>if (k == NameKind.free && env.scope.kind == .function && env.kindOf n == some .cell) then (n,NameKind.cell) else (n,k))) = some k':=h
  by_cases ib:(k == NameKind.free && env.scope.kind == .function && env.kindOf n == some .cell) = true
  ·rw [if_pos ib,List.lookup_cons] at h0
   have e2:k = NameKind.free:=by
    have q:=(Bool.and_eq_true_iff.mp (Bool.and_eq_true_iff.mp ib).1).1
    exact eq_of_beq q
   cases hx:x == n with
   | true =>
    have e:x = n:=eq_of_beq hx
    subst e e2
    exact List.mem_cons_self
   | false =>
    rw [hx] at h0
    exact List.mem_cons_of_mem _ (ih h0)
  ·rw [if_neg ib,List.lookup_cons] at h0
   cases hx:x == n with
   | true =>
    rw [hx] at h0
    have e:x = n:=eq_of_beq hx
    have e3:k = k':=Option.some.inj h0
    subst e e3
    rcases hk' with z | z
    ·exact absurd z (hc _ List.mem_cons_self)
    ·subst z
     exact List.mem_cons_self
   | false =>
    rw [hx] at h0
    exact List.mem_cons_of_mem _ (ih h0)
structure D5 (sc scope:Scope) (N b0:List Str) (fr:List Nat):Prop where
 kind:scope.kind = .function
 er:∀ y ∈ scope.names,y.2 ≠ NameKind.cell
 loc:∀ y ∈ scope.names,y.2 = NameKind.local -> scope.names.lookup y.1 = some NameKind.local
 free:∀ y ∈ scope.names,y.2 = NameKind.free -> sc.names.lookup y.1 = some NameKind.cell
 eh:∀ j ∈ fr,(N[j]?.bind fun x=>scope.names.lookup x) = some NameKind.free
def Ba (N b0:List Str) (fr:List Nat):List Str:=b0 ++ fr.map fun j=>(N[j]?).getD ⟨#[]⟩
def Dy (fr:List Nat) (σ:St):St:=fr.map fun j=>(σ[j]?).getD none
def D7 (n:Nat) (fr:List Nat) (σ:St):St:=List.replicate n none ++ Dy fr σ
def Bi (X:Cx) (Nc:List Str) (scope:Scope) (C:Addr) (s2:Shared) (H2:Hp) (fp:List Addr):Cx :=
 { X with N:=Nc,s₀:=s2,H₀:=H2,env:=compEnvC scope (D1 X.env.cells scope.names []) C X.env,outer:=X.stack,ex:=fp,fn:=fun _=>false,pn:=[],xe:=fun _ _=>False }
def Q0 (X:Cx) (ifs:List Expr) (t:TT):Prop :=
 ∀ (pins:List (Addr × Obj)) (s:Shared) (σ:St) (H:Hp) (Q:Bool -> Hp -> Prop),Ae X pins σ H s -> t σ H Q ->
  wpAny (model X.prog X.w) X.A (forIn ifs true fun c r=>if r = true then do let ok <- isTrue c X.env (eval c X.env); pure (ForInStep.yield ok) else pure (ForInStep.yield r)) (TP X pins σ Q) X.xe s
def N7:TT:=fun _ H Q=>Q true H
theorem Bu {X:Cx}:Q0 X [] N7:=fun _ _ _ H _ I h=>wpAny_tests_nil ⟨H,I,h⟩
theorem O2 {X:Cx} {c:Expr} {t:TT} (h:PT X c t):Q0 X [c] t:=fun pins s σ H Q I hq=>wpAny_tests_one (h pins s σ H Q I hq)
section
variable {prog:Program} {w:World} {A:Around} {R:Result -> Shared -> Prop} {s:Shared}
theorem Io {elt target iter : Expr} {ifs : List Expr} {scope : Scope} {pos : Pos} {it acc : Value} {env : Env} (I : Nat -> Shared -> Prop)
  (turn:∀ n s,I n s -> wpAny (model prog w) A (pyNext it) (fun r s₁=>match r with
   | none=>R (.ok .next) s₁
   | some v => wpAny (model prog w) A (letOwnedTupleGo target it v) (fun _ s₁' => wpAny (model prog w) A (assign target env v) (fun _ s₂ =>
     wpAny (model prog w) A (forIn ifs true fun c r=>if r = true then do let ok <- isTrue c env (eval c env); pure (ForInStep.yield ok) else pure (ForInStep.yield r)) (fun ok s₃ =>
      if ok = true then wpAny (model prog w) A (eval elt env) (fun x s₄ =>
       wpAny (model prog w) A (call (.builtin "list.append") [acc,x]) (fun _ s₅=>∃ m,m < n /\ I m s₅) (fun _ _=>False) s₄) (fun _ _=>False) s₃
      else ∃ m,m < n /\ I m s₃) (fun _ _=>False) s₂) (fun _ _=>False) s₁') (fun _ _=>False) s₁) (fun _ _=>False) s)
  (n:Nat) (h:I n s) :
  codeAny (model prog w) A (.compLoop (.ListComp elt [⟨target,iter,ifs,0⟩] scope pos) 0 it acc env) R s:=by
 refine codeAny_loop rfl I (fun n s hI=>?_) n h
 show wpAny _ A ((compTurn (.ListComp elt [⟨target,iter,ifs,0⟩] scope pos) 0 it acc env).onRaise (fun x=>do noteFrame x env; theTreesLotGoes x)) _ _ s
 refine wpAny_noted ?_
 rw [compTurn_list]
 refine wpAny_bind (wpAny_standAt (wpAny_bind (wpAny_mono (turn n s hI) (fun r s₁ h₁=>?_) fun _ _ h'=>h'.elim)))
 cases r with
 | none=>exact wpAny_pure h₁
 | some v =>
  refine wpAny_bind (wpAny_mono h₁ (fun _ s₁' h₁'=>?_) fun _ _ h'=>h'.elim)
  refine wpAny_bind (wpAny_mono h₁' (fun _ s₂ h₂=>wpAny_bind (wpAny_mono h₂ (fun ok s₃ h₃=>?_) fun _ _ h'=>h'.elim)) fun _ _ h'=>h'.elim)
  cases ok with
  | false=>exact wpAny_pure ⟨rfl,h₃⟩
  | true =>
   exact wpAny_bind (wpAny_bind (wpAny_mono h₃ (fun x s₄ h₄=>wpAny_bind (wpAny_mono h₄ (fun _ s₅ h₅=>wpAny_pure (wpAny_pure ⟨rfl,h₅⟩)) fun _ _ h'=>h'.elim)) fun _ _ h'=>h'.elim))
end
def Eg (n:Nat) (fr:List Nat) (J:It) (g:TG) (tt:TT) (te:TE) (σ:St) (D:Addr) (H1:Hp) (Q:Hp -> Prop):Prop :=
 ∃ W:Nat -> Nat -> List V -> Hp -> Prop,(∃ m,W 0 m [] (upd H1 D (.lst []))) /\ ∀ i m ys H',W i m ys H' ->
  (J.stop i H' /\ Q H') \/ (J.go i H' /\ ∀ x H2,J.i9 i H' x H2 -> g x (D7 n fr σ) H2 fun σ3 H3=>(∃ zs:St,zs.length = n /\ σ3 = zs ++ Dy fr σ) /\ tt σ3 H3 fun b H4 =>
   if b = true then te σ3 H4 fun y H5=>H5 D = some (.lst ys) /\ ys.length < sizeLine /\ ∃ m',m' < m /\ W (i + 1) m' (ys ++ [y]) (upd H5 D (.lst (ys ++ [y])))
   else ∃ m',m' < m /\ W (i + 1) m' ys H4)
def R1 (n:Nat) (fr:List Nat) (wi:TI) (g:TG) (tt:TT) (te:TE):TE:=fun σ H Q=>wi σ H fun J H1=>∀ D,H1 D = none -> Eg n fr J g tt te σ D H1 (Q (.ref D))
def N4 (n:Nat) (fr:List Nat) (wi:TI) (g:TG) (tt:TT) (te:TE) (i:Nat):TS:=fun D σ H=>wi σ H fun J H1=>∀ l,H1 l = none -> Eg n fr J g tt te σ l H1 (D.nx (σ.set i (some (.ref l))))
section
variable {X:Cx} {tg iter elt:Expr} {ifs:List Expr} {scope sc:Scope} {b0:List Str} {fr:List Nat} {wi:TI} {g:TG} {tt:TT} {te:TE} {pos:Pos}
theorem Hz {pins : List (Addr × Obj)} {σ : St} {H2 : Hp} {s2 : Shared} {it : Addr} {fp : List Addr} {tn : Nat -> Heap -> Prop} {J : It} {RR : Value -> Addr -> Result -> Shared -> Prop} {E : Value -> Shared -> Prop} {Qf : Hp -> Prop}
  (gP:X.env.scope = sc) (S:D5 sc scope X.N b0 fr) (hc:X.calm = true)
  (hg:∀ C s2 H2 fp,PG (Bi X (Ba X.N b0 fr) scope C s2 H2 fp) tg g) (ht:∀ C s2 H2 fp,Q0 (Bi X (Ba X.N b0 fr) scope C s2 H2 fp) ifs tt) (he:∀ C s2 H2 fp,PE (Bi X (Ba X.N b0 fr) scope C s2 H2 fp) elt te)
  (I2:Ae X pins σ H2 s2) (T:Ju X.prog X.w X.K tg J fp it tn) (gN:tn 0 s2.heap) (f2:∀ b ∈ fp,Gc X pins H2 b)
  (run:Eg b0.length fr J g tt te σ s2.heap.objs.size H2 Qf)
  (hRR:∀ (C:Addr) (H3:Hp) (s4:Shared),Ae X pins σ H3 s4 -> Gc X pins H3 C -> (∃ m,s4.heap.Ns C m) -> Qf H3 -> RR (.ref s2.heap.objs.size) C (.ok .next) s4) :
  wpAny (model X.prog X.w) X.A (newList []) (fun acc s₃=>wpAny (model X.prog X.w) X.A (newFunctionEnv scope X.env.globals (D1 X.env.cells scope.names []) [] X.env.qual none .none (some X.env)) (fun kn s₄ =>
   codeAny (model X.prog X.w) X.A (.compStart (.ListComp elt [⟨tg,iter,ifs,0⟩] scope pos) 0 (.ref it) acc { kn with scope:=relabel scope X.env }) (RR acc kn.locals) s₄) E s₃) E s2:=by
 refine wpAny_newObj_type (wpAny_newFunctionEnv S.er (by intro y hy; simp at hy) (fun h₁ ie gz=>?_) S.kind)
 dsimp only at ie gz ⊢
 generalize nX:s2.heap.push { cls := .type "list",dict:=none,data := .seq ([]:List Value).toArray } = G2 at ie gz ⊢
 have hC:G2.objs.size = s2.heap.objs.size + 1:=by rw [<- nX,Heap.size_push]
 have hDC:s2.heap.objs.size ≠ G2.objs.size:=by rw [hC]; exact Nat.ne_of_lt (Nat.lt_succ_self _)
 have hle:s2.heap.objs.size <= G2.objs.size:=by rw [hC]; exact Nat.le_succ _
 have below:∀ b,b < s2.heap.objs.size -> b ≠ G2.objs.size /\ b ≠ s2.heap.objs.size:=fun b hb=>⟨Nat.ne_of_lt (Nat.lt_of_lt_of_le hb hle),Nat.ne_of_lt hb⟩
 have old:∀ b o,s2.heap.get? b = some o -> h₁.get? b = some o:=fun b o e=>gz.extBut b o (below b (Heap.lt_size e)).1 (Heap.get?_push_of_some _ (nX ▸ Heap.get?_push_of_some _ e))
 have nY:h₁.get? s2.heap.objs.size = some { cls := .type "list",data := .seq ([]:List Value).toArray 0 }:=gz.extBut _ _ hDC (Heap.get?_push_of_some _ (nX ▸ Heap.get?_push_size _ rfl))
 have ig:∀ y ∈ scope.names,y.2 = NameKind.free -> ∃ c,X.env.cells.lookup y.1 = some c:=fun y hy e=>I2.ok.has y.1 (.inl (by show X.env.scope.names.lookup y.1 = _; rw [gP]; exact S.free y hy e))
 have et:∀ x c,(D1 X.env.cells scope.names []).lookup x = some c -> X.env.cells.lookup x = some c:=fun x c e=>by
  rcases Fd e with z | ⟨z1,z2⟩
  ·simp at z
  ·obtain ⟨c',e'⟩ := ig _ z1 rfl
   rw [z2,e']
   rfl
 have ij:∀ x c,X.env.cells.lookup x = some c -> c < s2.heap.objs.size:=fun x c e=>by
  obtain ⟨v,q⟩ := I2.cell x c e
  exact q.lt
 have ik:∀ b ∈ fp,b < s2.heap.objs.size:=fun b hb=>by
  obtain ⟨o,e,_⟩ := T.obj 0 _ gN b hb
  exact Heap.lt_size e
 have nZ:(Bi X (Ba X.N b0 fr) scope G2.objs.size s2 H2 fp).Ok:=by
  refine ⟨I2.ok.mod,S.kind,I2.ok.glob,I2.ok.blt,hle,fun x y c e1 e2=>I2.ok.inj x y c (et x c e1) (et y c e2),fun x hx=>?_,fun x c z _=>absurd z Bool.false_ne_true,I2.ok.hd,I2.ok.frames,.inl rfl,
   fun b hb=>⟨(below b (ik b hb)).1,fun x c e=>(f2 b hb).2.2.2.2.1 x c (et x c e)⟩,I2.bs,Nat.le_trans I2.ok.eV I2.sz,fun b o e hb=>?_,fun b hb z=>?_,I2.stack,I2.eH⟩
  ·rcases hx with hx | hx
   ·exact Dr (E7 (env:=X.env) S.er (by decide) (.inl rfl) hx)
   ·exact Dr (E7 (env:=X.env) S.er (by decide) (.inr rfl) hx)
  ·rcases (f2 b hb).2.2.2.1 with z | z
   ·exact I2.ok.ei b o e z
   ·exact absurd (Nat.lt_of_lt_of_le (Heap.lt_size e) (Nat.le_trans I2.ok.eV z)) (Nat.lt_irrefl _)
  ·rcases List.mem_cons.mp (I2.en b z) with z | z
   ·exact (f2 b hb).2.1 z
   ·exact (f2 b hb).2.2.1 z
 have I3:Ae (Bi X (Ba X.N b0 fr) scope G2.objs.size s2 H2 fp) [] (D7 b0.length fr σ) (upd H2 s2.heap.objs.size (.lst [])) { s2 with heap:=h₁,toks:=s2.toks + ([]:List (Str × Value)).length }:=by
  refine ⟨nZ,rfl,I2.bare,Un.laid old (Nat.le_refl _) I2.fresh,⟨_,ie,fun i x v e1 e2 e3=>?_⟩,fun x c e=>?_,?_,fun x c e=>?_,fun p hp=>absurd (show p ∈ ([]:List (Addr × Obj)) from hp) (by simp),I2.ab.laid old (Nat.le_refl _) ⟨Nat.zero_le _,[],0,.nil,nY⟩,?_⟩
  ·-- a name of the comprehension that has a value at the En is one of the def's cells
   have hi:b0.length <= i:=by
    refine Nat.le_of_not_lt fun bD=>?_
    unfold D7 at e2
    rw [List.getElem?_append_left (by simpa using bD),List.getElem?_replicate,if_pos bD] at e2
    cases e2
   have n8:(Dy fr σ)[i - b0.length]? = some (some v):=by
    unfold D7 at e2
    rw [List.getElem?_append_right (by simpa using hi)] at e2
    simpa using e2
   have ko:(fr.map fun j=>(X.N[j]?).getD ⟨#[]⟩)[i - b0.length]? = some x:=by
    have e1:(Ba X.N b0 fr)[i]? = some x:=e1
    unfold Ba at e1
    rw [List.getElem?_append_right hi] at e1
    exact e1
   unfold Dy at n8
   rw [List.getElem?_map] at ko n8
   cases ej:fr[i - b0.length]? with
   | none=>rw [ej] at ko; cases ko
   | some j =>
    rw [ej] at ko n8
    have e1j:(X.N[j]?).getD ⟨#[]⟩ = x:=Option.some.inj ko
    have n9:(σ[j]?).getD none = some v:=Option.some.inj n8
    have nc:=S.eh j (List.mem_of_getElem? ej)
    cases eN:X.N[j]? with
    | none=>rw [eN] at nc; cases nc
    | some x' =>
     rw [eN] at nc e1j
     have ex:x' = x:=e1j
     subst ex
     have hfx:scope.names.lookup x' = some NameKind.free:=nc
     have hσ:σ[j]? = some (some v):=by
      cases eσ:σ[j]? with
      | none=>rw [eσ] at n9; cases n9
      | some o=>rw [eσ] at n9; exact congrArg some n9
     have kq:=PySem.mem_of_lookup hfx
     have hkc:X.env.scope.names.lookup x' = some NameKind.cell:=by rw [gP]; exact S.free _ kq rfl
     obtain ⟨m,hn,hl⟩ := I2.loc
     obtain ⟨u,ru,lk⟩ := hl j x' v eN hσ (.inr (.inl hkc))
     refine ⟨u,ru,.inr ⟨?_,?_⟩⟩
     ·have e3:(relabel scope X.env).names.lookup x' = some NameKind.local \/ (relabel scope X.env).names.lookup x' = some NameKind.cell \/ (relabel scope X.env).names.lookup x' = some NameKind.free:=e3
      rcases e3 with z | z | z
      ·exfalso
       have key:∀ (names:List (Str × NameKind)),names.lookup x' = some NameKind.free -> (names.map fun (n,k)=>if (k == NameKind.free && X.env.scope.kind == .function && X.env.kindOf n == some .cell) then (n,NameKind.cell) else (n,k)).lookup x' ≠ some NameKind.local:=by
        intro names
        induction names with
        | nil=>intro h; simp at h
        | cons p r ih =>
         obtain ⟨n,k⟩ := p
         intro h h2
         have h2:List.lookup x' ((if (k == NameKind.free && X.env.scope.kind == .function && X.env.kindOf n == some .cell) = true then (n,NameKind.cell) else (n,k)) :: (r.map fun (n,k)=>if (k == NameKind.free && X.env.scope.kind == .function && X.env.kindOf n == some .cell) then (n,NameKind.cell) else (n,k))) = some NameKind.local:=h2
         rw [List.lookup_cons] at h
         cases hx:x' == n with
         | true =>
          rw [hx] at h
          have ek:k = NameKind.free:=Option.some.inj h
          subst ek
          split at h2
          ·rw [List.lookup_cons,hx] at h2; cases h2
          ·rw [List.lookup_cons,hx] at h2; cases h2
         | false =>
          rw [hx] at h
          split at h2
          ·rw [List.lookup_cons,hx] at h2; exact ih h h2
          ·rw [List.lookup_cons,hx] at h2; exact ih h h2
       exact key scope.names hfx z
      ·exact .inl z
      ·exact .inr z
     ·obtain ⟨c,ec⟩ := Dr (cells:=X.env.cells) (cs:=[]) kq
      rcases lk with ⟨k1,_⟩ | ⟨_,c',ec',ic⟩
      ·have k1:X.env.scope.names.lookup x' = some NameKind.local:=k1
       rw [hkc] at k1; cases k1
      ·have q:=et _ _ ec
       rw [ec'] at q
       have q':c' = c:=Option.some.inj q
       subst q'
       exact ⟨_,ec,ic.keeps old⟩
  ·obtain ⟨v,q⟩ := I2.cell x c (et x c e)
   exact ⟨v,q.keeps old⟩
  ·show upd H2 s2.heap.objs.size (.lst []) G2.objs.size = none
   rw [Af hDC.symm]
   exact I2.ab.fresh hle
  ·rw [Af (Nat.ne_of_lt (ij x c (et x c e)))]
   exact I2.aP x c (et x c e)
  ·unfold D7 Dy
   show _ = (Ba X.N b0 fr).length
   unfold Ba
   simp
 obtain ⟨W,⟨m0,w0⟩,turn⟩ := run
 have stat:∀ {H':Hp},(∀ b ∈ fp,H' b = none) -> ∀ b ∈ fp,Gc (Bi X (Ba X.N b0 fr) scope G2.objs.size s2 H2 fp) [] H' b:=fun hn b hb =>
  ⟨hn b hb,(below b (ik b hb)).1,nZ.el b hb,.inl hb,(nZ.k8 b hb).2,fun p hp=>absurd (show p ∈ ([]:List (Addr × Obj)) from hp) (by simp)⟩
 have n0:∀ b ∈ fp,upd H2 s2.heap.objs.size (.lst []) b = none:=fun b hb=>by rw [Af (below b (ik b hb)).2]; exact (f2 b hb).1
 have kb:tn 0 h₁:=T.keep 0 _ _ gN fun b _ o e=>old b o e
 have fin:∀ {H3:Hp} {s4:Shared},Ae (Bi X (Ba X.N b0 fr) scope G2.objs.size s2 H2 fp) [] (D7 b0.length fr σ) H3 s4 -> Qf H3 -> RR (.ref s2.heap.objs.size) G2.objs.size (.ok .next) s4:=fun {H3 s4} I4 q=>by
  obtain ⟨m,hn,_⟩ := id I4.loc
  have ub:Un (eh X.stack) fp H2 H3 s2.heap s4.heap:=I4.base
  refine hRR G2.objs.size H3 s4 (I2.ka (ch:=fp) (s':=s4) I4.os ub I4.ab I4.bare fun b hb=>⟨(f2 b hb).2.2.2.1,(f2 b hb).2.1,(f2 b hb).2.2.2.2.1,(f2 b hb).2.2.2.2.2⟩) (I2.eX hle I4.free) ⟨m,hn⟩ q
 have loop : ∀ s₃ : Shared, s₃ = { s2 with heap := h₁, toks := s2.toks + ([] : List (Str × Value)).length } ->
   codeAny (model X.prog X.w) X.A (.compLoop (.ListComp elt [⟨tg,iter,ifs,0⟩] scope pos) 0 (.ref it) (.ref s2.heap.objs.size) (compEnvC scope (D1 X.env.cells scope.names []) G2.objs.size X.env)) (RR (.ref s2.heap.objs.size) G2.objs.size) s₃:=by
  rintro s₃ rfl
  refine Io (fun n s'=>∃ i ys H',Ae (Bi X (Ba X.N b0 fr) scope G2.objs.size s2 H2 fp) [] (D7 b0.length fr σ) H' s' /\ tn i s'.heap /\ (∀ b ∈ fp,H' b = none) /\ W i n ys H') ?_ m0 ⟨0,[],_,I3,kb,n0,w0⟩
  rintro n s5 ⟨i,ys,H3,J3,sti,fri,w3⟩
  rcases turn i n ys H3 w3 with ⟨stop,q⟩ | ⟨go,step⟩
  ·refine wpAny_mono (T.done (Bi X (Ba X.N b0 fr) scope G2.objs.size s2 H2 fp) rfl rfl rfl hc i [] s5 _ H3 (fun _ _=>False) J3 (stat fri) sti stop) (fun r s6 ⟨hr,J4⟩=>?_) (fun _ _ f=>f)
   subst hr
   exact fin J4 q
  ·refine wpAny_mono (T.item (Bi X (Ba X.N b0 fr) scope G2.objs.size s2 H2 fp) rfl rfl rfl hc i [] s5 _ H3 (fun _ _=>False) J3 (stat fri) sti go) (fun r s6 ⟨u,hr,h6⟩=>?_) (fun _ _ f=>f)
   subst hr
   refine wpAny_mono h6 (fun _ s7 ⟨x,H7,J7,r7,y7,o3,fr7⟩=>?_) (fun _ _ f=>f)
   have J7':=J7.pinned (stat fr7) (T.obj _ _ o3)
   refine wpAny_mono (hg G2.objs.size s2 H2 fp _ s7 _ H7 x u _ J7' r7 (step x H7 y7)) (fun _ s8 ⟨σ8,H8,J8,⟨zs,hz,e8⟩,q8⟩=>?_) (fun _ _ f=>f)
   have again : ∀ {H9 : Hp} {s9 : Shared} {ng : List V}, Ae (Bi X (Ba X.N b0 fr) scope G2.objs.size s2 H2 fp) ([] ++ Gq fp s7.heap) σ8 H9 s9 -> (∃ m', m' < n /\ W (i + 1) m' ng H9) ->
     ∃ m,m < n /\ ∃ i ys H',Ae (Bi X (Ba X.N b0 fr) scope G2.objs.size s2 H2 fp) [] (D7 b0.length fr σ) H' s9 /\ tn i s9.heap /\ (∀ b ∈ fp,H' b = none) /\ W i m ys H':=fun {H9 s9 ng} J9 ⟨m',hm,w9⟩=>by
    refine ⟨m',hm,i + 1,ng,H9,J9.bK.weak ?_ ?_,T.keep _ _ _ o3 fun b hb o e=>(J9.pin (b,o) (List.mem_append_right _ (List.mem_append_right _ (E3 hb e)))).1,fun b hb=>?_,w9⟩
    ·rw [e8]; unfold D7; simp [hz]
    ·intro k v ek
     rw [e8]
     unfold D7 at ek
     by_cases hk:k < b0.length
     ·rw [List.getElem?_append_left (by simpa using hk),List.getElem?_replicate,if_pos hk] at ek
      cases ek
     ·rw [List.getElem?_append_right (by simpa using hk)] at ek
      rw [List.getElem?_append_right (by omega),hz]
      simpa using ek
    ·obtain ⟨o,e,d⟩ := T.obj _ _ o3 b hb
     exact (J9.pin (b,o) (List.mem_append_right _ (List.mem_append_right _ (E3 hb e)))).2.1
   refine wpAny_mono (ht G2.objs.size s2 H2 fp _ s8 σ8 H8 _ J8 q8) (fun ok s9 ⟨H9,J9,q9⟩=>?_) (fun _ _ f=>f)
   cases ok with
   | false =>
    rw [if_neg Bool.false_ne_true] at q9 ⊢
    exact again J9 q9
   | true =>
    rw [if_pos rfl] at q9 ⊢
    refine wpAny_mono (he G2.objs.size s2 H2 fp _ s9 σ8 H9 _ J9 q9) (fun y s10 ⟨v10,H10,J10,r10,hD,hlen,q10⟩=>?_) (fun _ _ f=>f)
    refine wpAny_mono (C0 (X:=Bi X (Ba X.N b0 fr) scope G2.objs.size s2 H2 fp) _ s10 σ8 H10 (.ref s2.heap.objs.size) [v10] (.ref s2.heap.objs.size) [y] (fun _ H11=>H11 = upd H10 s2.heap.objs.size (.lst (ys ++ [v10]))) J10 rfl (.cons r10 .nil) ⟨_,ys,v10,rfl,rfl,hD,hlen,rfl⟩) (fun _ s11 ⟨_,H11,J11,_,e11⟩=>?_) (fun _ _ f=>f)
    subst e11
    exact again J11 q10
 exact codeAny_compStart_list (loop _ rfl) (T.self _ 0 _ _ _ kb (loop _ rfl))
theorem C3 (hi : PI X tg iter wi) (sc : Scope) (gP : X.env.scope = sc) (S : D5 sc scope X.N b0 fr) (hc : X.calm = true) (fj : closureFor scope X.env = pure (D1 X.env.cells scope.names []))
  (hg:∀ C s2 H2 fp,PG (Bi X (Ba X.N b0 fr) scope C s2 H2 fp) tg g) (ht:∀ C s2 H2 fp,Q0 (Bi X (Ba X.N b0 fr) scope C s2 H2 fp) ifs tt) (he:∀ C s2 H2 fp,PE (Bi X (Ba X.N b0 fr) scope C s2 H2 fp) elt te)
  (hs:∀ x,foldedSetIterable iter X.env x = pure x:=by intro _; rfl):PE X (.ListComp elt [⟨tg,iter,ifs,0⟩] scope pos) (R1 b0.length fr wi g tt te):=by
 intro pins s σ H Q I h
 rw [eval_ListComp]
 refine wpAny_comprehension_free (use:=none) rfl hs fj S.kind S.loc (wpAny_mono (hi pins s σ H _ I h) (fun v s1 h1=>wpAny_mono h1 (fun mZ s2 h2=>?_) fun _ _ e=>e) fun _ _ e=>e)
 obtain ⟨it,fp,tn,J,H2,e,I2,T,gN,f2,R2⟩ := h2
 subst e
 refine Hz (RR:=fun acc C=>compPost (model X.prog X.w) X.A X.xe none (EP X pins σ Q) acc C) gP S hc hg ht he I2 T gN f2 (R2 _ I2.fresh) ?_
 intro C H3 s4 I4 fC ⟨m,hn⟩ q
 refine ⟨m,hn,fun h' o4=>⟨.ref s2.heap.objs.size,H3,?_,rfl,q⟩⟩
 obtain ⟨hh,gg,dd,o5,oo⟩ := s4
 exact I4.turned (h':=h') (t':=o5) (it:=C) (fun b o hb e=>o4.extBut b o hb e) fC.1 fC.2.1 fC.2.2.2.1 fC.2.2.2.2.1 fC.2.2.2.2.2
theorem Gr {i : Nat} {y : Str} {py kr : Pos} (hN : X.N.Nodup) (hiy : X.N[i]? = some y) (hi : PI X tg iter wi) (sc : Scope) (gP : X.env.scope = sc) (S : D5 sc scope X.N b0 fr) (hc : X.calm = true)
  (fj:closureFor scope X.env = pure (D1 X.env.cells scope.names []))
  (hg:∀ C s2 H2 fp,PG (Bi X (Ba X.N b0 fr) scope C s2 H2 fp) tg g) (ht:∀ C s2 H2 fp,Q0 (Bi X (Ba X.N b0 fr) scope C s2 H2 fp) ifs tt) (he:∀ C s2 H2 fp,PE (Bi X (Ba X.N b0 fr) scope C s2 H2 fp) elt te)
  (hy:X.env.scope.names.lookup y = some NameKind.local)
  (hsw:swapsWith (.ListComp elt [⟨tg,iter,ifs,0⟩] scope pos) (some (.Name y py)) kr.line X.env = pure true)
  (hs:∀ x,foldedSetIterable iter X.env x = pure x:=by intro _; rfl) :
  PS X (.Assign [.Name y py] (.ListComp elt [⟨tg,iter,ifs,0⟩] scope pos) kr) (N4 b0.length fr wi g tt te i):=by
 intro pins s σ H D I h
 rw [exec_Assign_Name_used _ _ _ _ hsw]
 refine wpAny_bind (wpAny_standAt (wpAny_bind ?_))
 show wpAny _ X.A (do let _ <- comprehension (.ListComp elt [⟨tg,iter,ifs,0⟩] scope pos) scope X.env _ (newList []) false (eval iter X.env) (some (assign (.Name y py) X.env))) _ _ s
 refine wpAny_bind (wpAny_mono (wpAny_comprehension_free (use:=some (assign (.Name y py) X.env)) (Q:=fun _ s'=>SP X pins D .next s') rfl hs fj S.kind S.loc
  (wpAny_mono (hi pins s σ H _ I h) (fun v s1 h1=>wpAny_mono h1 (fun mZ s2 h2=>?_) fun _ _ e=>e) fun _ _ e=>e)) (fun _ s' hq=>wpAny_pure (wpAny_pure hq)) fun _ _ e=>e)
 obtain ⟨it,fp,tn,J,H2,e,I2,T,gN,f2,R2⟩ := h2
 subst e
 refine Hz (RR:=fun acc C=>compPost (model X.prog X.w) X.A X.xe (some (assign (.Name y py) X.env)) (fun _ s'=>SP X pins D .next s') acc C) gP S hc hg ht he I2 T gN f2 (R2 _ I2.fresh) ?_
 intro C H3 s4 I4 fC ⟨m,hn⟩ q
 refine wpAny_assign_Name (Ii (v := .ref s2.heap.objs.size) I4 hN hiy (.inl hy) rfl (fun s5 I5 ⟨a,hsb,ha⟩=>?_) (.inr hy))
 have hLC:C ≠ a:=by
  rcases ha with z | z
  ·rw [z]; exact fC.2.1
  ·exact fun z2=>fC.2.2.2.2.1 y a z z2.symm
 refine ⟨m,hn.sameBut hsb hLC,fun h' o4=>⟨_,H3,?_,q⟩⟩
 obtain ⟨hh,gg,dd,o5,oo⟩ := s5
 exact I5.turned (h':=h') (t':=o5) (it:=C) (fun b o hb e=>o4.extBut b o hb e) fC.1 fC.2.1 fC.2.2.2.1 fC.2.2.2.2.1 fC.2.2.2.2.2
end
open PySem.Builtin.Int (intBits)
section
variable {X:Cx}
theorem Bf:Gy X (binaryOp .Mult) (rI IntMulOk fun i j=>.int (i * j)):=Qj fun _ _ _ _ _ _ _ hc q=>mul_int q hc
end
theorem E9 {a b:Int} {m n:Nat} (ha:intBits a <= m) (hb:intBits b <= n) (h:m + n <= 134217728):IntMulOk a b:=PyProof.Rows.mulOk_of_bits ha hb h
theorem Nu {a b:Int} (h1 : -(2 ^ 64) < b) (h2:b < 2 ^ 64):IntMulOk a b:=IntMulOk.of_right (intBits_le_64 h1 h2)
theorem G9 {a b:Int} (h1 : -(2 ^ 64) < a) (h2:a < 2 ^ 64):IntMulOk a b:=IntMulOk.of_left (intBits_le_64 h1 h2)
def Sb (T C:String):Option Bool:=if (Value.type T == Value.type C) = true then some true else if PySem.W.kitMeta C = true then (fastBuiltinMro T).map (·.contains (Value.type C)) else none
section
variable {X:Cx}
def V0 (K:PySem.W.Frag):List V -> Hp -> VK -> Prop:=fun xs H Q=>∃ x T C b,xs = [x,.ty C] /\ Fz K H x (.type T) /\ Sb T C = some b /\ Q (.bl b) H
end
mutual
def Rp (H:Hp):PyData -> V -> Prop
 | .none,v=>v = .aA
 | .bool b,v=>v = .bl b
 | .int i,v=>v = .int i
 | .tuple ds,v=>∃ a xs,v = .ref a /\ H a = some (.tup xs) /\ cj H ds xs
 | .list ds,v=>∃ a xs,v = .ref a /\ H a = some (.lst xs) /\ cj H ds xs
 | .str x,v=>v = .str x /\ PyData.strOk x = true
 | .dict _,_=>False
def cj (H:Hp):List PyData -> List V -> Prop
 | [],vs=>vs = []
 | d :: ds,vs=>∃ x xs,vs = x :: xs /\ Rp H d x /\ cj H ds xs
end
mutual
theorem Pf {H:Hp}:∀ (d:PyData) (v:V),Rp H d v -> d.canLay0 = true
 | .none,_,_=>rfl
 | .bool _,_,_=>rfl
 | .int _,_,_=>rfl
 | .tuple ds,_,h=>by
  unfold Rp at h
  obtain ⟨a,xs,_,_,h⟩ := h
  exact bZ ds xs h
 | .list ds,_,h=>by
  unfold Rp at h
  obtain ⟨a,xs,_,_,h⟩ := h
  exact bZ ds xs h
 | .str x,v,h=>by
  unfold Rp at h
  exact h.2
 | .dict _,_,h=>by unfold Rp at h; exact h.elim
theorem bZ {H:Hp}:∀ (ds:List PyData) (vs:List V),cj H ds vs -> PyData.canLayAll0 ds = true
 | [],_,_=>rfl
 | d :: ds,vs,h=>by
  unfold cj at h
  obtain ⟨x,xs,_,h1,h2⟩ := h
  show (d.canLay0 && PyData.canLayAll0 ds) = true
  rw [Pf d x h1,bZ ds xs h2]
  rfl
end
section
variable {X:Cx} {pins:List (Addr × Obj)} {σ:St} {H:Hp} {s:Shared}
mutual
theorem My (I:Ae X pins σ H s):∀ (d:PyData) (v:V) (u:Value),Rp H d v -> B1 v u -> ∃ as,Reads s.heap u d as
 | .none,v,u,h,r=>by
  unfold Rp at h
  subst h
  cases r
  exact ⟨_,.none⟩
 | .bool b,v,u,h,r=>by
  unfold Rp at h
  subst h
  cases r
  exact ⟨_,.bool b⟩
 | .int i,v,u,h,r=>by
  unfold Rp at h
  subst h
  obtain ⟨t,rfl⟩ := r
  exact ⟨_,.int i t⟩
 | .tuple ds,v,u,h,r=>by
  unfold Rp at h
  obtain ⟨a,xs,rfl,ha,h⟩ := h
  cases r
  obtain ⟨_,ag,rv,p⟩ := I.ab a _ ha
  obtain ⟨o,h1,h2,n,h3⟩ := p
  obtain ⟨as,q⟩ := bc I ds xs ag h rv
  exact ⟨_,.tuple h1 h2 h3 (by simpa using q)⟩
 | .list ds,v,u,h,r=>by
  unfold Rp at h
  obtain ⟨a,xs,rfl,ha,h⟩ := h
  cases r
  obtain ⟨_,ag,n,rv,p⟩ := I.ab a _ ha
  obtain ⟨as,q⟩ := bc I ds xs ag h rv
  exact ⟨_,.list p rfl rfl (by simpa using q)⟩
 | .str x,v,u,h,r=>by
  unfold Rp at h
  obtain ⟨rfl,_⟩ := h
  obtain ⟨t,rfl⟩ := r
  exact ⟨_,.str x t⟩
 | .dict _,_,_,h,_=>by unfold Rp at h; exact h.elim
theorem bc (I:Ae X pins σ H s):∀ (ds:List PyData) (vs:List V) (us:List Value),cj H ds vs -> Ao vs us -> ∃ as,ReadsAll s.heap us ds as
 | [],vs,us,h,r=>by
  unfold cj at h
  subst h
  cases r
  exact ⟨_,.nil⟩
 | d :: ds,vs,us,h,r=>by
  unfold cj at h
  obtain ⟨x,xs,rfl,h1,h2⟩ := h
  cases r with
  | cons r1 r2 =>
   obtain ⟨as,q1⟩ := My I d x _ h1 r1
   obtain ⟨bs,q2⟩ := bc I ds xs _ h2 r2
   exact ⟨_,.cons q1 q2⟩
end
end
section
variable {X:Cx} {k:Nat}
def Uz (neg:Bool):R2:=fun x y H Q=>∃ d e:PyData,Rp H d x /\ Rp H e y /\ d.depth <= 60 /\ Q (.bl (if neg then !PyData.eqv d e else PyData.eqv d e)) H
end
theorem A5.new {H H':Hp} {p:Addr} {o:HO} (e:A5 H H') (h:H p = none):A5 H (upd H' p o):=fun b u q=>by
 rw [Af (An q h)]
 exact e b u q
theorem A5.upd {H:Hp} {p:Addr} {o:HO} (h:H p = none):A5 H (upd H p o):=(A5.refl H).new h
theorem fk {l : PySem.W.OpenLaw} {n k : Nat} {q : Program} {loose : List Str} {XP : (Str -> Option Value) -> Heap -> Prop} {YP : World -> Heap -> Prop} {d : DefRec} {K : Params -> PySem.W.Frag} {CX : World -> Kn} {sp : World -> Sp} {x : Str}
  (hn:l.most = some n) (n5:n <= sizeLine) (o6:d.params.defaults = []) (hr:C5 k callerA)
  (hY:∀ (w:World) (h:Heap),YP w h -> (K w.params).In h)
  (F:∀ (w:World) (mg:Str -> Option Value) (fa:Addr) (h:Heap),(K w.params).In h -> h.Ns mainGlobals mg -> mg d.name = some (.ref fa) ->
   ∃ fd:FuncData,(∀ (s:Shared) (u:Value),BindsTo s fd ⟨[u],[]⟩ [(x,u)]) /\
    ∀ base:Heap,(K w.params).In base -> base.Ns mainGlobals mg -> A9 l.prog w (K w.params) mg base (CX w) k fa fd [x] (sp w))
  (gu:∀ (w:World) (H:Hp) (a:Addr) (ns:List Int),ns.length <= n -> (∀ z ∈ ns,intBits z <= 2 ^ 20) -> Ol H -> As (K w.params) H a (ns.map V.int) -> sp w [.ref a] H (fun v _=>v = .bl true) fun _ _ _=>False)
  (nU:∀ (w:World) (H:Hp) (s:Shared) (e:Value) (s':Shared),CX w [] H s (fun _ _ _=>False) e s' -> False) :
  PySem.W.WalkO q loose XP YP l.row.toRowW d [] (fun f vs=>PySem.call f vs):=by
 intro w s₀ s₁ mg mb G Y fa o pm cd doc dV kV ho hd fh hD hmg hg args vals as gx o7 hrd au hlo
 obtain rfl:dV = .none:=PySem.W.Dflts.none hD o6
 obtain rfl:kV = .none:=PySem.W.Dflts.noKw hD
 obtain ⟨a,vs,ns,rfl,rfl,o8,hints,hlen⟩ := Att.eZ hn gx au
 have big:∀ z ∈ ns,intBits z <= 2 ^ 20:=fun z hz=>by
  have l1:=(PySem.W.layW_cons o7).1
  have l2:=PySem.W.layableW_item l1 (.int z) (List.mem_map.mpr ⟨z,hz,rfl⟩)
  have l3:=(PySem.W.layableW_iff.mp l2).2.2
  simpa only [PySem.W.WData.weight,Builtin.Int.intBits] using l3
 have KX:=hY w _ Y
 obtain ⟨fd,hb,hF⟩ := F w mg fa _ KX G.T.g hmg
 refine PySem.W.enter_call (codeAny_mono (Mj KX G.T.g G.T.b G.T.builtins G.T.nolimit hg o8 hints (Nat.le_trans hlen n5) hr hF hb (fun H hO hS=>gu w H a ns hlen big hO hS) fun H e s'=>nU w H s₁ e s') fun r s' hq=>?_)
 obtain ⟨rfl,h2,h3,h4⟩ := hq
 exact ⟨.inl ⟨.bool true,.bool true,[],rfl,fun _=>rfl,.bool true,Att.f6 l _,fun _=>⟨List.Pairwise.nil,fun _ hm=>(nomatch hm)⟩⟩,h2,h3,h4⟩
section
variable {X:Cx} {tg:Expr}
def Sh (K:PySem.W.Frag):R2:=fun x y H Q=>∃ p xs i v,x = .ref p /\ y = .int i /\ (As K H p xs \/ B6 K H p xs) /\ Kr xs i = some v /\ Q v H
theorem Ah (K:PySem.W.Frag) (hK:X.K = K:=by rfl):Rc X (Sh K):=by
 subst hK
 intro value slice pins s σ H x y v u Q I rx ry h hs
 obtain ⟨p,xs,i,z,e1,e2,h | h,ea,q⟩ := h
 ·exact Nq value slice pins s σ H x y v u Q I rx ry ⟨p,xs,i,z,e1,e2,h,ea,q⟩ hs
 ·exact Oy value slice pins s σ H x y v u Q I rx ry ⟨p,xs,i,z,e1,e2,h,ea,q⟩ hs
def Sj (K:PySem.W.Frag):List V -> Hp -> VK -> Prop:=fun xs H Q=>∃ p ys,xs = [.ref p] /\ (As K H p ys \/ B6 K H p ys) /\ Q (.int ys.length) H
theorem Cq (K:PySem.W.Frag) (hK:X.K = K:=by rfl):Ht X (.builtin "len") (Sj K):=by
 subst hK
 exact Im
theorem P8 (K:PySem.W.Frag) (hK:X.K = K:=by rfl):Gy X (compareOp .In) (Tq K false):=by
 subst hK
 exact Lk
theorem N0 (K:PySem.W.Frag) (hK:X.K = K:=by rfl):S5 X (Qr K):=by
 subst hK
 exact O6
theorem Bm (K : PySem.W.Frag) {es : List Expr} {kk : Nat} {t : Nd} {n : Nat} {pos : Pos} (hc : X.calm = true) (h : Pz X es t) (hK : X.K = K := by rfl)
  (hn:(assignEach es X.env).length = n:=by rfl) (ff:(assignEach es X.env).findIdx? (·.1) = none:=by rfl):PG X (.Tuple es kk pos) (Ov K n t):=by
 subst hK
 exact Pb hc h hn ff
def Ut (K:PySem.W.Frag) (tl:TE):TI:=fun σ H R=>tl σ H fun x H1=>∃ a,x = .ref a /\ (((∃ xs,As K H1 a xs) /\ R (Oi K a) H1) \/ ((∃ xs,B6 K H1 a xs) /\ R (S0 K a) H1))
theorem Cv {l:Expr} {tl:TE} (hl:PE X l tl):PI X tg l (Ut X.K tl):=by
 intro pins s σ H R I h
 refine C8 (hl pins s σ H _ I h) fun v s1 aZ=>?_
 obtain ⟨x,H1,I1,r1,q1⟩ := aZ
 obtain ⟨a,e,q1⟩ := q1
 subst e
 cases r1
 rcases q1 with ⟨⟨xs,hq⟩,q⟩ | ⟨⟨xs,hq⟩,q⟩
 ·obtain ⟨ag,rv,p,hz⟩ := I1.list hq
  refine wpAny_pyIter_list p.isList ?_
  refine ⟨s1.heap.objs.size,[s1.heap.objs.size],_,_,H1,rfl,I1.kept (t':=s1.toks) fun b o e=>Heap.get?_push_of_some _ e,Lv a _,⟨_,Heap.get?_push_size _ rfl,rfl,rfl⟩,fun b hb=>?_,q⟩
  have e:b = s1.heap.objs.size:=by simpa using hb
  subst e
  exact I1.eX (Nat.le_refl _) (I1.ab.fresh (Nat.le_refl _))
 ·obtain ⟨ag,rv,p,hz⟩ := I1.tuple hq
  refine wpAny_pyIter_tuple (show s1.heap.IsTuple a ag.toArray from p) ?_
  refine ⟨s1.heap.objs.size,[s1.heap.objs.size],_,_,H1,rfl,I1.kept (t':=s1.toks) fun b o e=>Heap.get?_push_of_some _ e,Kj a _,⟨_,Heap.get?_push_size _ rfl,rfl,rfl⟩,fun b hb=>?_,q⟩
  have e:b = s1.heap.objs.size:=by simpa using hb
  subst e
  exact I1.eX (Nat.le_refl _) (I1.ab.fresh (Nat.le_refl _))
end
theorem Dz {fr : List Nat} {te : TE} {σ : St} {D : Addr} {H1 : Hp} {Q : Hp -> Prop} {lo : Int} {cnt : Nat} (Pv : Nat -> List V -> Hp -> Prop) (h0 : Pv 0 [] (upd H1 D (.lst [])))
  (hs:∀ i ys H,i < cnt -> Pv i ys H -> ∀ Qe:VK,(∀ y H5,H5 D = some (.lst ys) -> ys.length < sizeLine -> Pv (i + 1) (ys ++ [y]) (upd H5 D (.lst (ys ++ [y]))) -> Qe y H5) -> te (some (.int (lo + i)) :: Dy fr σ) H Qe)
  (hd:∀ ys H,Pv cnt ys H -> Q H):Eg 1 fr (Na lo cnt) (Ge 0) N7 te σ D H1 Q:=by
 refine ⟨fun i m ys H=>m = cnt - i /\ i <= cnt /\ Pv i ys H,⟨cnt,by simp,Nat.zero_le _,h0⟩,?_⟩
 rintro i m ys H' ⟨rfl,hi,p⟩
 by_cases bD:i < cnt
 ·refine .inr ⟨bD,fun x H2 y=>?_⟩
  obtain ⟨e,y⟩ := y
  subst e y
  refine ⟨⟨[some (.int (lo + i))],rfl,rfl⟩,?_⟩
  simp only [N7,↓reduceIte]
  exact hs i ys _ bD p _ fun y H5 hD hz pv=>⟨hD,hz,cnt - (i + 1),by omega,rfl,bD,pv⟩
 ·have e:i = cnt:=by omega
  subst e
  exact .inl ⟨Nat.le_refl _,hd ys H' p⟩
theorem Bz {K : PySem.W.Frag} {a : Addr} {xs : List V} {fr : List Nat} {te : TE} {σ : St} {D : Addr} {H1 : Hp} {Q : Hp -> Prop} (Pv : Nat -> List V -> Hp -> Prop) (h0 : Pv 0 [] (upd H1 D (.lst [])))
  (hl:∀ i ys H,i <= xs.length -> Pv i ys H -> As K H a xs)
  (hs:∀ i x ys H,xs[i]? = some x -> Pv i ys H -> ∀ Qe:VK,(∀ y H5,H5 D = some (.lst ys) -> ys.length < sizeLine -> Pv (i + 1) (ys ++ [y]) (upd H5 D (.lst (ys ++ [y]))) -> Qe y H5) -> te (some x :: Dy fr σ) H Qe)
  (hd:∀ ys H,Pv xs.length ys H -> Q H):Eg 1 fr (Oi K a) (Ge 0) N7 te σ D H1 Q:=by
 refine ⟨fun i m ys H=>m = xs.length - i /\ i <= xs.length /\ Pv i ys H,⟨xs.length,by simp,Nat.zero_le _,h0⟩,?_⟩
 rintro i m ys H' ⟨rfl,hi,p⟩
 have q:=hl i ys H' hi p
 by_cases bD:i < xs.length
 ·refine .inr ⟨⟨xs,xs[i],q,by simp [bD]⟩,fun x H2 y=>?_⟩
  obtain ⟨e,y⟩ := y
  subst e
  refine ⟨⟨[some x],rfl,rfl⟩,?_⟩
  simp only [N7,↓reduceIte]
  exact hs i x ys _ (y xs q) p _ fun y H5 hD hz pv=>⟨hD,hz,xs.length - (i + 1),by omega,rfl,bD,pv⟩
 ·have e:i = xs.length:=by omega
  subst e
  exact .inl ⟨⟨xs,q,Nat.le_refl _⟩,hd ys H' p⟩
def Dq (ns:List Int) (k:Int):Int:=(ns[k.toNat]?).getD 0
theorem Ng {ns:List Int} {k:Int} (h0:0 <= k) (h:k < ns.length):Kr (ns.map V.int) k = some (.int (Dq ns k)):=by
 obtain ⟨j,rfl⟩ : ∃ j:Nat,k = j:=⟨k.toNat,by omega⟩
 have hj:j < ns.length:=by omega
 refine Eh ?_
 unfold Dq
 rw [List.getElem?_map,Int.toNat_natCast,List.getElem?_eq_getElem hj]
 rfl
theorem L4 {ns:List Int} {k:Int} (h0:0 <= k) (h:¬ k < ns.length):Dq ns k = 0:=by
 unfold Dq
 rw [List.getElem?_eq_none (by omega)]
 rfl
theorem B6.same {K:PySem.W.Frag} {H H':Hp} {a:Addr} {xs:List V} (e:A5 H H') (h:B6 K H a xs):B6 K H' a xs:=by
 rcases h with (h | ⟨o,h⟩) | h
 ·exact .inl (.inl (e _ _ h))
 ·exact .inl (.inr ⟨o,e _ _ h⟩)
 ·exact .inr h
theorem Ed {c:Bool} {A B:Prop} (hc:c = true) (h:A):if c = true then A else B:=by rw [if_pos hc]; exact h
theorem Cu {c:Bool} {A B:Prop} (hc:c = false) (h:B):if c = true then A else B:=by rw [if_neg (by rw [hc]; exact Bool.false_ne_true)]; exact h
theorem B8 {xs:List V} (h:xs.length <= 1000:=by simp):xs.length <= sizeLine:=Nat.le_of_lt (Ap h)
theorem Kz {n:Nat} (h:n <= 1000):n <= sizeLine:=Nat.le_of_lt (Ap h)
def dT (ws:List Int):PyData := .tuple (ws.map PyData.int)
def dL (ws:List Int):PyData := .list (ws.map PyData.int)
def dP (d e:PyData):PyData := .tuple [d,e]
def dO:Option Int -> PyData
 | none=>.none
 | some i=>.int i
def vO:Option Int -> V
 | none=>.aA
 | some i=>.int i
section
variable {X:Cx} {pins:List (Addr × Obj)} {σ:St} {H:Hp} {s:Shared} {h':Heap}
theorem Ae.dM {ch : List Addr} {T : Addr} {o : HO} {t' : Nat} (I : Ae X pins σ H s) (cR : ∀ b ∈ ch, Gc X pins H b) (k : ∀ b ob, b ∉ ch -> s.heap.get? b = some ob -> h'.get? b = some ob)
  (hT:s.heap.objs.size <= T) (new:C6 X.prog X.w (upd H T o) h' T o):Ae X pins σ (upd H T o) { s with heap:=h',toks:=t' }:=by
 have hn:H T = none:=I.ab.fresh hT
 have off:∀ b u,H b = some u -> b ∉ ch:=fun b u e hb=>by
  have z:=(cR b hb).1
  rw [e] at z
  cases z
 refine I.call (g':=s.gens) (d':=s.drawn) (t':=t') (ch:=ch) ⟨fun b ob e _ _ hc=>k b ob hc e,fun b ob e _ _ hc=>⟨ob.slots,k b ob hc e⟩,fun b ob e n hc=>?_,fun b ob e hc=>⟨ob,k b ob hc e⟩,fun b xs e=>?_,fun b ob u e=>?_,fun b ps e=>⟨#[],?_⟩⟩ (fun b u e=>?_) I.bare
  (fun b hb=>⟨(cR b hb).2.2.2.1,(cR b hb).2.1,(cR b hb).2.2.2.2.1,(cR b hb).2.2.2.2.2⟩)
 ·rw [Af (Nat.ne_of_lt (Nat.lt_of_lt_of_le (Heap.lt_size e) hT))]
  exact n
 ·rw [Af (An e hn)]
  exact e
 ·rw [Af (An e hn)]
  exact e
 ·rw [Af (An e hn),e]
  simp
 ·by_cases hb:b = T
  ·subst hb
   rw [A1] at e
   cases e
   exact new
  ·rw [Af hb] at e
   refine (I.ab b u e).ef (fun c v hc q=>k c v ?_ q) (fun c q=>?_) fun c xs q=>?_
   ·rcases hc with rfl | hc
    ·exact off _ _ e
    ·exact off _ _ hc
   ·rw [Af (An q hn)]
    exact q
   ·rw [Af (An q hn)]
    exact q
theorem Ae.dN {ch:List Addr} {t':Nat} (I:Ae X pins σ H s) (cR:∀ b ∈ ch,Gc X pins H b) (k:∀ b ob,b ∉ ch -> s.heap.get? b = some ob -> h'.get? b = some ob):Ae X pins σ H { s with heap:=h',toks:=t' }:=by
 have off:∀ b u,H b = some u -> b ∉ ch:=fun b u e hb=>by
  have z:=(cR b hb).1
  rw [e] at z
  cases z
 refine I.call (g':=s.gens) (d':=s.drawn) (t':=t') (ch:=ch) ⟨fun b ob e _ _ hc=>k b ob hc e,fun b ob e _ _ hc=>⟨ob.slots,k b ob hc e⟩,fun b ob e n hc=>n,fun b ob e hc=>⟨ob,k b ob hc e⟩,fun b xs e=>e,fun b ob u e=>e,fun b ps e=>⟨#[],by rw [e]; simp⟩⟩ (fun b u e=>?_) I.bare
  (fun b hb=>⟨(cR b hb).2.2.2.1,(cR b hb).2.1,(cR b hb).2.2.2.2.1,(cR b hb).2.2.2.2.2⟩)
 refine (I.ab b u e).ef (fun c v hc q=>k c v ?_ q) (fun c q=>q) fun c xs q=>q
 rcases hc with rfl | hc
 ·exact off _ _ e
 ·exact off _ _ hc
end
def Ue (K:PySem.W.Frag) (l1 l2:Addr):It :=
 ⟨fun i H=>∃ xs ys x y,As K H l1 xs /\ As K H l2 ys /\ xs[i]? = some x /\ ys[i]? = some y,
  fun i H v H'=>∃ T x y,v = .ref T /\ H T = none /\ H' = upd H T (.tup [x,y]) /\ (∀ xs,As K H l1 xs -> xs[i]? = some x) /\ ∀ ys,As K H l2 ys -> ys[i]? = some y,
  fun i H=>∃ xs ys,As K H l1 xs /\ As K H l2 ys /\ (xs.length <= i \/ ys.length <= i)⟩
section
variable {X:Cx}
def Uv (K:PySem.W.Frag) (ta:TA):TI:=fun σ H R=>ta σ H fun vs H1=>∃ a b,vs = [.ref a,.ref b] /\ (∃ xs,As K H1 a xs) /\ (∃ ys,As K H1 b ys) /\ R (Ue K a b) H1
end
def Uc (K:PySem.W.Frag) (l:Addr):It :=
 ⟨fun i H=>∃ xs x,As K H l xs /\ xs[i]? = some x,
  fun i H v H'=>∃ T x,v = .ref T /\ H T = none /\ H' = upd H T (.tup [.int i,x]) /\ ∀ xs,As K H l xs -> xs[i]? = some x,
  fun i H=>∃ xs,As K H l xs /\ xs.length <= i⟩
section
variable {X:Cx}
def Te (K:PySem.W.Frag) (ta:TA):TI:=fun σ H R=>ta σ H fun vs H1=>∃ a,vs = [.ref a] /\ (∃ xs,As K H1 a xs) /\ R (Uc K a) H1
end
section
variable {X:Cx}
end
section
variable {X:Cx}
def Sg (K:PySem.W.Frag):V -> List V -> Hp -> VK -> Prop:=fun x vs H Q=>∃ (l:Addr) (ns:List Int) (y:Int) (j:Nat),x = .ref l /\ vs = [.int y] /\ As K H l (ns.map V.int) /\ ns[j]? = some y /\ (∀ m,m < j -> ns[m]? ≠ some y) /\ Q (.int (j:Nat)) H
end
structure Py (K:PySem.W.Frag) (x qual:Str) (st:Stmt) (f:Addr) (fd:FuncData):Prop where
 ex:∃ (oc:Value) (od:Option Addr) (dV kV doc pm:Value) (an:Option Addr) (ax ct:Value) (eY:Array (Option Value)),
  fd = PySem.W.fnOf x qual (Aw st) (Av st) (A7 st) dV kV doc pm an ax ct /\ K.lookup f = some ⟨oc,od,.func fd,eY⟩ /\ PySem.W.codeIn K ax qual = true
section
variable {P:Program} {w:World} {K:PySem.W.Frag} {mg:Str -> Option Value} {base:Heap}
theorem Py.ok {x qual : Str} {st : Stmt} {f : Addr} {fd : FuncData} {N ps : List Str} {k : Nat} {sp : Sp} (F : Py K x qual st f fd) (S : B0 N ps (A7 st)) (len : ∀ vs H Q E, sp vs H Q E -> vs.length = ps.length)
  (dH:∀ (ax:Value) (A:Around) (outer:List Env) (s:Shared) (H:Hp) (vs:List V) (Q:VK) (E:XK),C5 k (A.deeper (envOfC qual (A7 st) s.heap.objs.size f ax)) -> sp vs H Q E ->
   ∃ t,Kp (Jw Aq P w K mg base N qual (A7 st) f ax A outer s H E).gq (Av st) t /\ t { nx:=fun _ H'=>Q .aA H',rt:=Q } (En N vs) H):A9 P w K mg base Aq (k + 1) f fd ps sp:=by
 obtain ⟨oc,od,dV,kV,doc,pm,an,ax,ct,eY,rfl,lk,fh⟩ := F.ex
 refine Oa lk fh S len fun A outer s H vs Q E hr gu=>?_
 obtain ⟨t,h,q⟩ := dH ax A outer s H vs Q E hr gu
 exact ⟨t,h.gq,q⟩
end
section
variable {X:Cx} {a b c:Expr} {rest:List Expr} {ta tb:TE} {tA jT:TT} {t u:TS} {pos:Pos}
def Tz (ta tb:TE):TE:=fun σ H Q=>ta σ H fun x H1=>∃ c d:Bool,x = .bl c /\ (c = true -> ∀ Q':VK,Q' (.bl d) H1 -> tb σ H1 Q') /\ Q (.bl (c && d)) H1
def Vm (ta tb:TE):TE:=fun σ H Q=>ta σ H fun x H1=>∃ c d:Bool,x = .bl c /\ (c = false -> ∀ Q':VK,Q' (.bl d) H1 -> tb σ H1 Q') /\ Q (.bl (c || d)) H1
def Qz (t u:TT):TT:=fun σ H Q=>t σ H fun c H1=>∃ d:Bool,(c = true -> ∀ Q':Bool -> Hp -> Prop,Q' d H1 -> u σ H1 Q') /\ Q (c && d) H1
def T0 (t u:TT):TT:=fun σ H Q=>t σ H fun c H1=>∃ d:Bool,(c = false -> ∀ Q':Bool -> Hp -> Prop,Q' d H1 -> u σ H1 Q') /\ Q (c || d) H1
theorem Gb (ha:PT X a tA) (hb:PW X (.BoolOp .And (b :: rest) pos) jT):PW X (.BoolOp .And (a :: b :: rest) pos) (Qz tA jT):=by
 intro wh pins s σ H Q I h
 refine isTrue_and (C8 (ha pins s σ H _ I h) fun c s1 aZ=>?_)
 obtain ⟨H1,I1,d,q0,q1⟩ := aZ
 cases c with
 | true=>exact hb wh pins s1 σ H1 Q I1 (q0 rfl Q q1)
 | false=>exact ⟨H1,I1,q1⟩
theorem Fp (ha:PT X a tA) (hb:PW X (.BoolOp .Or (b :: rest) pos) jT):PW X (.BoolOp .Or (a :: b :: rest) pos) (T0 tA jT):=by
 intro wh pins s σ H Q I h
 refine isTrue_or (C8 (ha pins s σ H _ I h) fun c s1 aZ=>?_)
 obtain ⟨H1,I1,d,q0,q1⟩ := aZ
 cases c with
 | true=>exact ⟨H1,I1,q1⟩
 | false=>exact hb wh pins s1 σ H1 Q I1 (q0 rfl Q q1)
theorem SP.mono {pins:List (Addr × Obj)} {D D':Ez} {f:Flow} {s':Shared} (h:SP X pins D f s') (hn:∀ σ H,D.nx σ H -> D'.nx σ H) (hr:∀ v H,D.rt v H -> D'.rt v H) (hb:∀ σ H,D.bk σ H -> D'.bk σ H) (hc:∀ σ H,D.ct σ H -> D'.ct σ H):SP X pins D' f s':=by
 cases f with
 | next=>obtain ⟨σ',H',I,q⟩ := h; exact ⟨σ',H',I,hn _ _ q⟩
 | brk=>obtain ⟨σ',H',I,q⟩ := h; exact ⟨σ',H',I,hb _ _ q⟩
 | cont=>obtain ⟨σ',H',I,q⟩ := h; exact ⟨σ',H',I,hc _ _ q⟩
 | ret v=>obtain ⟨x,σ',H',I,r,q⟩ := h; exact ⟨x,σ',H',I,r,hr _ _ q⟩
def Vf (c:TT) (t u:TS):TS:=fun D σ H=>c σ H fun b H1=>∃ N:St -> Hp -> Prop,(b = true -> t { D with nx:=N } σ H1) /\ (b = false -> u { D with nx:=N } σ H1) /\ ∀ σ' H',N σ' H' -> D.nx σ' H'
end
section
variable {P:Program} {w:World} {A:Around} {E:Value -> Shared -> Prop} {s:Shared}
theorem K7 {I T : Addr} {k : Nat} {vs : Array Value} {v : Value} {Q : Value -> Shared -> Prop} (hI : s.heap.IsTupleIter I T k) (hT : s.heap.IsTuple T vs) (hv : vs[k]? = some v)
  (q:∀ h',h'.IsTupleIter I T (k + 1) -> Heap.SameBut I s.heap h' -> Q v { s with heap:=h' }):wpAny (model P w) A (Builtin.SmallTypes.nextOf (.ref I)) Q E s:=by
 obtain ⟨oI,eI,cI,dI⟩ := id hI
 obtain ⟨oT,eT,_,nT,o9⟩ := hT
 unfold Builtin.SmallTypes.nextOf
 refine wpAny_bind (wpAny_callSpecial?_slot (name:=Str.ofString "__next__") hI.typeIs F.slot_tuple_iterator_next (wpAny_call_entry F.slot_tuple_iterator_next hI.typeIs F.entry_tuple_iterator_next ?_ (F.args_tuple_iterator_next_1 _)))
 show wpAny _ _ (field (.ref I) 0 >>= _) _ _ s
 refine wpAny_bind (wpAny_field eI dI (x := .ref T) rfl ?_)
 show wpAny _ _ (if (Value.ref T == Value.none) = true then _ else _) _ _ s
 rw [if_neg (show ¬ ((Value.ref T == Value.none) = true) from Bool.false_ne_true)]
 show wpAny _ _ (field (.ref I) 1 >>= _) _ _ s
 refine wpAny_bind (wpAny_field eI dI (x := .int k 0) rfl ?_)
 show wpAny _ _ (seqItems? (.ref T) >>= _) _ _ s
 refine wpAny_bind (wpAny_seqItems eT o9 ?_)
 simp only [Int.toNat_natCast,hv]
 refine wpAny_bind (wpAny_setField eI dI (by simp) (wpAny_pure ⟨v,rfl,wpAny_pure (q _ ⟨_,Heap.get?_update_self _ eI (Obj.isFreed_of_fields (Obj.data_mapFields dI _)),(Obj.cls_mapFields ..).trans cI,?_⟩ (Heap.SameBut.update ..))⟩))
 rw [Obj.data_mapFields dI]
 simp [rawInt]
theorem Li {I T : Addr} {k : Nat} {vs : Array Value} {Q : Value -> Shared -> Prop} (no : A.handled = none) (hI : s.heap.IsTupleIter I T k) (hT : s.heap.IsTuple T vs) (hv : vs[k]? = none)
  (q:∀ h' e,Heap.ExtBut I s.heap h' -> (∃ o,h'.get? e = some o /\ o.cls = .type "StopIteration") -> E (.ref e) { s with heap:=h' }):wpAny (model P w) A (Builtin.SmallTypes.nextOf (.ref I)) Q E s:=by
 obtain ⟨oI,eI,cI,dI⟩ := id hI
 obtain ⟨oT,eT,_,nT,o9⟩ := hT
 unfold Builtin.SmallTypes.nextOf
 refine wpAny_bind (wpAny_callSpecial?_slot (name:=Str.ofString "__next__") hI.typeIs F.slot_tuple_iterator_next (wpAny_call_entry F.slot_tuple_iterator_next hI.typeIs F.entry_tuple_iterator_next ?_ (F.args_tuple_iterator_next_1 _)))
 show wpAny _ _ (field (.ref I) 0 >>= _) _ _ s
 refine wpAny_bind (wpAny_field eI dI (x := .ref T) rfl ?_)
 show wpAny _ _ (if (Value.ref T == Value.none) = true then _ else _) _ _ s
 rw [if_neg (show ¬ ((Value.ref T == Value.none) = true) from Bool.false_ne_true)]
 show wpAny _ _ (field (.ref I) 1 >>= _) _ _ s
 refine wpAny_bind (wpAny_field eI dI (x := .int k 0) rfl ?_)
 show wpAny _ _ (seqItems? (.ref T) >>= _) _ _ s
 refine wpAny_bind (wpAny_seqItems eT o9 ?_)
 simp only [Int.toNat_natCast,hv]
 refine wpAny_bind (wpAny_rule (wpAny_bind (wpAny_setField eI dI (by simp) ?_)))
 show wpAny _ _ (newExc (.type "StopIteration") [] >>= fun _=>_) _ _ _
 refine wpAny_bind ?_
 simp only [newExc,newTuple]
 refine wpAny_bind (wpAny_newObj_type (wpAny_bind (m:=firstArgMember _ _) (wpAny_of_eq (a:=Value.none) (by first | rfl | (simp only [firstArgMember]; rfl)) (wpAny_newObj_type ?_ (by size_fits)))) (by size_fits))
 simp only [raiseNew]
 refine wpAny_bind (wpAny_handled ?_)
 first | rw [show A.in1.handled = none from no] | rw [no]
 refine wpAny_bind (wpAny_pure (wpAny_throw (q _ _ (((Heap.SameBut.update ..).extBut.push _).push _) ⟨_,Heap.get?_push_size _ rfl,rfl⟩)))
end
theorem Oq {P:Program} {w:World} {A:Around} (no:A.handled = none) (I T:Addr) (ne:T ≠ I) (vs:Array Value):Draws P w A I [I,T] vs.size (fun i v=>vs[i]? = some v) (fun i h=>h.IsTupleIter I T i /\ h.IsTuple T vs) where
 live:=fun _ _ st=>let ⟨o,e,_⟩ := st.1; ⟨o,e⟩
 frame:=fun _ _ _ st k=>⟨st.1.at fun o e=>k I (by simp) o e,let ⟨o,e,r⟩ := st.2; ⟨o,k T (by simp) o e,r⟩⟩
 item:=fun i s Q E hi st q=>K7 st.1 st.2 (v:=vs[i]) (by simp [hi]) fun h' gr sb=>q _ h' s.toks (by simp [hi]) ⟨gr,st.2.extBut sb.extBut ne⟩ sb
 done:=fun s Q E st q=>Li no st.1 st.2 (by simp) q
def Bs:Bool -> Heap -> Addr -> Addr -> Nat -> Prop
 | true,h,I,T,i=>h.IsTupleIter I T i
 | false,h,I,T,i=>h.IsListIter I T i
def Cf:Bool -> Heap -> Addr -> Array Value -> Prop
 | true,h,T,vs=>h.IsTuple T vs
 | false,h,T,vs=>h.IsList T vs
def K3:Bool -> String
 | true=>"tuple_iterator"
 | false=>"list_iterator"
def Sq:Bool -> PySem.W.Frag -> Hp -> Addr -> List V -> Prop
 | true,K,H,a,xs=>B6 K H a xs
 | false,K,H,a,xs=>As K H a xs
theorem Cs {P:Program} {w:World} {A:Around} (no:A.handled = none) (b:Bool) (I T:Addr) (ne:T ≠ I) (vs:Array Value):Draws P w A I [I,T] vs.size (fun i v=>vs[i]? = some v) (fun i h=>Bs b h I T i /\ Cf b h T vs):=by
 cases b
 ·exact Draws.list no I T ne vs
 ·exact Oq no I T ne vs
theorem Bs.data {b:Bool} {h:Heap} {I T:Addr} {i:Nat} (x:Bs b h I T i):∃ o,h.get? I = some o /\ o.cls = .type (K3 b) /\ o.data = .fields #[.ref T,.int i 0]:=by cases b <;> exact x
theorem Bs.of {b:Bool} {h:Heap} {I T:Addr} {i:Nat} (x:∃ o,h.get? I = some o /\ o.cls = .type (K3 b) /\ o.data = .fields #[.ref T,.int i 0]):Bs b h I T i:=by cases b <;> exact x
theorem Bs.at' {b:Bool} {h h':Heap} {I T:Addr} {i:Nat} (x:Bs b h I T i) (k:∀ o,h.get? I = some o -> h'.get? I = some o):Bs b h' I T i:=by
 obtain ⟨o,e,r⟩ := x.data
 exact .of ⟨o,k _ e,r⟩
theorem Cf.at' {b:Bool} {h h':Heap} {T:Addr} {vs:Array Value} (x:Cf b h T vs) (k:∀ o,h.get? T = some o -> h'.get? T = some o):Cf b h' T vs:=by
 cases b <;> exact let ⟨o,e,r⟩ := x; ⟨o,k _ e,r⟩
theorem Cf.lt {b:Bool} {h:Heap} {T:Addr} {vs:Array Value} (x:Cf b h T vs):T < h.objs.size:=by
 cases b <;> exact let ⟨_,e,_⟩ := x; Heap.lt_size e
theorem Bs.lt {b:Bool} {h:Heap} {I T:Addr} {i:Nat} (x:Bs b h I T i):I < h.objs.size:=by
 obtain ⟨_,e,_⟩ := x.data
 exact Heap.lt_size e
theorem Bs.ne {b c:Bool} {h:Heap} {I T:Addr} {i:Nat} {vs:Array Value} (x:Bs b h I T i) (y:Cf c h T vs):T ≠ I:=by
 rintro rfl
 obtain ⟨o,e,k,_⟩ := x.data
 cases c <;> (obtain ⟨o',e',k',_⟩ := y; rw [e] at e'; cases e'; rw [k] at k'; cases b <;> simp [K3] at k')
theorem Mi {P : Program} {w : World} {A : Around} {E : Value -> Shared -> Prop} {s : Shared} {b : Bool} {T : Addr} {vs : Array Value} {Q : Value -> Shared -> Prop} (x : Cf b s.heap T vs)
  (q:Q (.ref s.heap.objs.size) { s with heap:=s.heap.push { cls := .type (K3 b),data := .fields #[.ref T,.int 0 0] } }):wpAny (model P w) A (pyIter (.ref T)) Q E s:=by
 cases b
 ·exact wpAny_pyIter_list x q
 ·exact wpAny_pyIter_tuple x q
section
variable {X:Cx} {pins:List (Addr × Obj)} {σ:St} {H:Hp} {s:Shared}
theorem Ae.sq {b:Bool} {a:Addr} {xs:List V} (I:Ae X pins σ H s) (q:Sq b X.K H a xs):∃ us,Ao xs us /\ Cf b s.heap a us.toArray:=by
 cases b
 ·obtain ⟨us,r,p,_⟩ := I.list q
  exact ⟨us,r,p.isList⟩
 ·obtain ⟨us,r,p,_⟩ := I.tuple q
  exact ⟨us,r,p⟩
theorem Ae.eA {b:Bool} {a:Addr} {xs ys:List V} (I:Ae X pins σ H s) (q:Sq b X.K H a xs) (r:Sq b X.K H a ys):xs = ys:=by
 cases b
 ·exact I.dG q r
 ·exact I.d5 q r
end
open AutoSeq1 (wpAny_loadPart')
structure Pq (z TI TO i1 i2 l1 l2:Nat):Prop where
 a:TI ≠ z
 b:TO ≠ z
 c:i1 ≠ z
 d:i2 ≠ z
 e:TI ≠ TO
 f:TI ≠ i1
 g:TI ≠ i2
 h:TO ≠ i1
 i:TO ≠ i2
 j:i1 ≠ i2
 k1:l1 ≠ z /\ l1 ≠ TO /\ l1 ≠ i1 /\ l1 ≠ i2
 k2:l2 ≠ z /\ l2 ≠ TO /\ l2 ≠ i1 /\ l2 ≠ i2
section
variable {P:Program} {w:World} {A:Around} {E:Value -> Shared -> Prop} {s:Shared}
theorem Ly {z TI TO i1 i2 l1 l2 : Addr} {b1 b2 : Bool} {k : Nat} {xs ys : Array Value} {x y a b : Value} {Q : Value -> Shared -> Prop} (no : A.handled = none) (D : Pq z TI TO i1 i2 l1 l2)
  (hz:IsZip s.heap z TI TO .none) (dQ:IsPair s.heap TI (.ref i1) (.ref i2)) (ee:IsPair s.heap TO a b) (h1:Bs b1 s.heap i1 l1 k) (h2:Bs b2 s.heap i2 l2 k) (q1:Cf b1 s.heap l1 xs) (q2:Cf b2 s.heap l2 ys) (hx:xs[k]? = some x) (hy:ys[k]? = some y)
  (hQ:∀ h' tk,IsZip h' z TI TO (rawInt s.heap.objs.size) -> IsPair h' TO x y -> Bs b1 h' i1 l1 (k + 1) -> Bs b2 h' i2 l2 (k + 1) -> IsPair h' s.heap.objs.size x y ->
   (∀ c o,c ≠ z -> c ≠ TO -> c ≠ i1 -> c ≠ i2 -> s.heap.get? c = some o -> h'.get? c = some o) -> Q (.ref s.heap.objs.size) { s with heap:=h',toks:=tk }) :
  wpAny (model P w) A (Builtin.«zip.__next__» ⟨[.ref z],[]⟩) (fun fin s'=>∃ v,fin = .done (.ret v) /\ Q v s') E s:=by
 have ku:k < xs.size:=(Array.getElem?_eq_some_iff.mp hx).1
 have og:k < ys.size:=(Array.getElem?_eq_some_iff.mp hy).1
 show wpAny _ _ (field (.ref z) 2 >>= fun _=>_) _ _ _
 refine wpAny_bind (wpAny_field hz rfl (x := .bool false) rfl ?_)
 show wpAny _ _ (field (.ref z) 3 >>= fun _=>_) _ _ _
 refine wpAny_bind (wpAny_field hz rfl (x := .ref TI) rfl (wpAny_bind (wpAny_seqItems dQ rfl ?_)))
 show wpAny _ _ (Builtin.SmallTypes.ownedTupleIsFree (.ref z) >>= fun _=>_) _ _ _
 refine wpAny_bind ?_
 unfold Builtin.SmallTypes.ownedTupleIsFree
 refine wpAny_bind (wpAny_field hz rfl (x := .none) rfl (wpAny_pure ?_))
 simp only [if_true]
 refine wpAny_bind (wpAny_rule (wpAny_bind (wpAny_field hz rfl (x := .ref TO) rfl (wpAny_bind (wpAny_setField_rec hz (by simp) fun m1 z1 t1=>?_)))))
 replace z1:IsZip m1 z TI TO .ellipsis:=z1
 refine wpAny_bind ?_
 simp only [List.zipIdx_cons,List.zipIdx_nil,List.forIn_cons,List.forIn_nil]
 refine wpAny_bind (wpAny_bind (wpAny_onRaise ?_))
 show wpAny _ _ (Builtin.SmallTypes.nextOf (.ref i1) >>= fun _=>_) _ _ _
 refine wpAny_bind ((Cs no b1 i1 l1 D.k1.2.2.1 xs).item k _ _ _ ku ⟨h1.at' fun o e=>t1.extBut _ _ D.c e,q1.at' fun o e=>t1.extBut _ _ D.k1.1 e⟩ fun x' m2 ip k6 ⟨g1,_⟩ t2=>wpAny_pure ?_)
 have ex2:x' = x:=by
  have z:=k6.symm.trans hx
  exact Option.some.inj z
 subst ex2
 have w2:IsPair m2 TO a b:=t2.extBut _ _ D.h (t1.extBut _ _ D.b ee)
 refine wpAny_bind (wpAny_seqItems w2 rfl (wpAny_bind (wpAny_updateSeq_pair w2 fun m3 w3 t3=>?_)))
 replace w3:IsPair m3 TO x' b:=w3
 refine wpAny_bind (wpAny_letGo (wpAny_pure (wpAny_bind (wpAny_bind (wpAny_onRaise ?_)))))
 show wpAny _ _ (Builtin.SmallTypes.nextOf (.ref i2) >>= fun _=>_) _ _ _
 refine wpAny_bind ((Cs no b2 i2 l2 D.k2.2.2.2 ys).item k _ _ _ og ⟨h2.at' fun o e=>t3.extBut _ _ D.i.symm (t2.extBut _ _ D.j.symm (t1.extBut _ _ D.d e)),q2.at' fun o e=>t3.extBut _ _ D.k2.2.1 (t2.extBut _ _ D.k2.2.2.1 (t1.extBut _ _ D.k2.1 e))⟩ fun y' m4 tk4 ey' ⟨g2,_⟩ t4=>wpAny_pure ?_)
 have ey2:y' = y:=by
  have z:=ey'.symm.trans hy
  exact Option.some.inj z
 subst ey2
 have w4:IsPair m4 TO x' b:=t4.extBut _ _ D.i w3
 refine wpAny_bind (wpAny_seqItems w4 rfl (wpAny_bind (wpAny_updateSeq_pair w4 fun m5 w5 t5=>?_)))
 replace w5:IsPair m5 TO x' y':=w5
 refine wpAny_bind (wpAny_letGo (wpAny_pure (wpAny_pure (wpAny_bind (wpAny_seqItems w5 rfl (wpAny_bind (wpAny_newTuple ?_)))))))
 have sz:m5.objs.size = s.heap.objs.size:=by rw [t5.1,t4.1,t3.1,t2.1,t1.1]
 have z5:IsZip m5 z TI TO .ellipsis:=t5.extBut _ _ D.b.symm (t4.extBut _ _ D.d.symm (t3.extBut _ _ D.b.symm (t2.extBut _ _ D.c.symm z1)))
 have kp:∀ c o,c ≠ z -> c ≠ TO -> c ≠ i1 -> c ≠ i2 -> s.heap.get? c = some o -> m5.get? c = some o:=fun c o c1 c2 c3 c4 e=>t5.extBut _ _ c2 (t4.extBut _ _ c4 (t3.extBut _ _ c2 (t2.extBut _ _ c3 (t1.extBut _ _ c1 e))))
 have g1':Bs b1 m5 i1 l1 (k + 1):=g1.at' fun o e=>t5.extBut _ _ D.h.symm (t4.extBut _ _ D.j (t3.extBut _ _ D.h.symm e))
 have g2':Bs b2 m5 i2 l2 (k + 1):=g2.at' fun o e=>t5.extBut _ _ D.i.symm e
 have zlt:z < m5.objs.size:=Heap.lt_size z5
 show wpAny _ _ (Builtin.SmallTypes.ownedTupleHandOut (.ref z) (.ref m5.objs.size) >>= fun _=>_) _ _ _
 refine wpAny_bind ?_
 unfold Builtin.SmallTypes.ownedTupleHandOut
 have z6:IsZip (m5.push { cls := .type "tuple",data := .seq #[x',y'] }) z TI TO .ellipsis:=Heap.get?_push_of_some _ z5
 refine wpAny_bind (wpAny_setField_rec z6 (by simp) fun m7 z7 t7=>?_)
 replace z7:IsZip m7 z TI TO (rawInt m5.objs.size):=z7
 refine wpAny_setField_rec z7 (by simp) fun m8 z8 t8=>?_
 replace z8:IsZip m8 z TI TO (rawInt m5.objs.size):=z8
 have up:∀ c o,c ≠ z -> m5.get? c = some o -> m8.get? c = some o:=fun c o c1 e=>t8.extBut _ _ c1 (t7.extBut _ _ c1 (Heap.get?_push_of_some _ e))
 have p8:IsPair m8 m5.objs.size x' y':=t8.extBut _ _ (Nat.ne_of_gt zlt) (t7.extBut _ _ (Nat.ne_of_gt zlt) (Heap.get?_push_size _ rfl))
 rw [sz] at z8 p8
 refine wpAny_pure ⟨_,rfl,?_⟩
 show Q (.ref m5.objs.size) _
 rw [sz]
 exact hQ m8 _ z8 (up _ _ D.b w5) (g1'.at' fun o e=>up _ o D.c e) (g2'.at' fun o e=>up _ o D.d e) p8 fun c o c1 c2 c3 c4 e=>up c o c1 (kp c o c1 c2 c3 c4 e)
theorem N9 {z TI TO i1 i2 l1 l2 : Addr} {b1 b2 : Bool} {k : Nat} {xs ys : Array Value} {a b : Value} {Q : Fin -> Shared -> Prop} (no : A.handled = none) (D : Pq z TI TO i1 i2 l1 l2)
  (hz:IsZip s.heap z TI TO .none) (dQ:IsPair s.heap TI (.ref i1) (.ref i2)) (ee:IsPair s.heap TO a b) (h1:Bs b1 s.heap i1 l1 k) (h2:Bs b2 s.heap i2 l2 k) (q1:Cf b1 s.heap l1 xs) (q2:Cf b2 s.heap l2 ys) (iq:k = xs.size \/ (k < xs.size /\ k = ys.size))
  (hE:∀ h' tk e,(∀ c o,c ≠ z -> c ≠ TO -> c ≠ i1 -> c ≠ i2 -> s.heap.get? c = some o -> h'.get? c = some o) -> (∃ o,h'.get? e = some o /\ o.cls = .type "StopIteration") -> E (.ref e) { s with heap:=h',toks:=tk }) :
  wpAny (model P w) A (Builtin.«zip.__next__» ⟨[.ref z],[]⟩) Q E s:=by
 show wpAny _ _ (field (.ref z) 2 >>= fun _=>_) _ _ _
 refine wpAny_bind (wpAny_field hz rfl (x := .bool false) rfl ?_)
 show wpAny _ _ (field (.ref z) 3 >>= fun _=>_) _ _ _
 refine wpAny_bind (wpAny_field hz rfl (x := .ref TI) rfl (wpAny_bind (wpAny_seqItems dQ rfl ?_)))
 show wpAny _ _ (Builtin.SmallTypes.ownedTupleIsFree (.ref z) >>= fun _=>_) _ _ _
 refine wpAny_bind ?_
 unfold Builtin.SmallTypes.ownedTupleIsFree
 refine wpAny_bind (wpAny_field hz rfl (x := .none) rfl (wpAny_pure ?_))
 simp only [if_true]
 refine wpAny_bind (wpAny_rule (wpAny_bind (wpAny_field hz rfl (x := .ref TO) rfl (wpAny_bind (wpAny_setField_rec hz (by simp) fun m1 z1 t1=>?_)))))
 replace z1:IsZip m1 z TI TO .ellipsis:=z1
 refine wpAny_bind ?_
 simp only [List.zipIdx_cons,List.zipIdx_nil,List.forIn_cons,List.forIn_nil]
 refine wpAny_bind (wpAny_bind (wpAny_onRaise ?_))
 show wpAny _ _ (Builtin.SmallTypes.nextOf (.ref i1) >>= fun _=>_) _ _ _
 have g1:Bs b1 m1 i1 l1 k:=h1.at' fun o e=>t1.extBut _ _ D.c e
 have r1:Cf b1 m1 l1 xs:=q1.at' fun o e=>t1.extBut _ _ D.k1.1 e
 rcases iq with rfl | ⟨ku,rfl⟩
 ·refine wpAny_bind ((Cs no b1 i1 l1 D.k1.2.2.1 xs).done _ _ _ ⟨g1,r1⟩ fun m2 e t2 he=>?_)
  obtain ⟨oe,iu,kv⟩ := he
  have z2:IsZip m2 z TI TO .ellipsis:=t2 _ _ D.c.symm z1
  have oh:e ≠ z:=fun x=>by subst x; rw [z2] at iu; cases iu; simp at kv
  exact wpAny_setField_rec z2 (by simp) fun m3 _ t3=>hE m3 _ e (fun c o c1 _ c3 _ x=>t3.extBut _ _ c1 (t2 _ _ c3 (t1.extBut _ _ c1 x))) ⟨oe,t3.extBut _ _ oh iu,kv⟩
 ·refine wpAny_bind ((Cs no b1 i1 l1 D.k1.2.2.1 xs).item _ _ _ _ ku ⟨g1,r1⟩ fun x' m2 ip k6 ⟨g1,_⟩ t2=>wpAny_pure ?_)
  have w2:IsPair m2 TO a b:=t2.extBut _ _ D.h (t1.extBut _ _ D.b ee)
  refine wpAny_bind (wpAny_seqItems w2 rfl (wpAny_bind (wpAny_updateSeq_pair w2 fun m3 w3 t3=>?_)))
  refine wpAny_bind (wpAny_letGo (wpAny_pure (wpAny_bind (wpAny_bind (wpAny_onRaise ?_)))))
  show wpAny _ _ (Builtin.SmallTypes.nextOf (.ref i2) >>= fun _=>_) _ _ _
  refine wpAny_bind ((Cs no b2 i2 l2 D.k2.2.2.2 ys).done _ _ _ ⟨h2.at' fun o e=>t3.extBut _ _ D.i.symm (t2.extBut _ _ D.j.symm (t1.extBut _ _ D.d e)),q2.at' fun o e=>t3.extBut _ _ D.k2.2.1 (t2.extBut _ _ D.k2.2.2.1 (t1.extBut _ _ D.k2.1 e))⟩ fun m4 e t4 he=>?_)
  obtain ⟨oe,iu,kv⟩ := he
  have z4:IsZip m4 z TI TO .ellipsis:=t4 _ _ D.d.symm (t3.extBut _ _ D.b.symm (t2.extBut _ _ D.c.symm z1))
  have oh:e ≠ z:=fun x=>by subst x; rw [z4] at iu; cases iu; simp at kv
  exact wpAny_setField_rec z4 (by simp) fun m5 _ t5=>hE m5 _ e (fun c o c1 c2 c3 c4 x=>t5.extBut _ _ c1 (t4 _ _ c4 (t3.extBut _ _ c2 (t2.extBut _ _ c3 (t1.extBut _ _ c1 x))))) ⟨oe,t5.extBut _ _ oh iu,kv⟩
abbrev Og (b1:Bool) (h:Heap) (l1:Addr):Heap:=h.push { cls := .type (K3 b1),data := .fields #[.ref l1,.int 0 0] }
abbrev Rt (b1 b2:Bool) (h:Heap) (l1 l2:Addr):Heap:=(Og b1 h l1).push { cls := .type (K3 b2),data := .fields #[.ref l2,.int 0 0] }
abbrev Ru (b1 b2:Bool) (h:Heap) (l1 l2:Addr):Heap:=(Rt b1 b2 h l1 l2).push { cls := .type "tuple",data := .seq #[.ref h.objs.size,.ref (Og b1 h l1).objs.size] }
abbrev Rv (b1 b2:Bool) (h:Heap) (l1 l2:Addr):Heap:=(Ru b1 b2 h l1 l2).push { cls := .type "tuple",data := .seq #[.none,.none] }
abbrev Pt (b1 b2:Bool) (h:Heap) (l1 l2:Addr):Heap:=(Rv b1 b2 h l1 l2).push { cls := .type "zip",data := .fields #[.none,.bool false,.bool false,.ref (Rt b1 b2 h l1 l2).objs.size,.ref (Ru b1 b2 h l1 l2).objs.size] }
theorem Kk (b1 b2:Bool) (l1 l2:Addr) (xs ys:Array Value):Meets (Builtin.«zip.__new__» ⟨[.type "zip",.ref l1,.ref l2],[]⟩) (fun _ R s=>Cf b1 s.heap l1 xs /\ Cf b2 s.heap l2 ys /\ R (.ok (.ret (.ref (Rv b1 b2 s.heap l1 l2).objs.size))) { s with heap:=Pt b1 b2 s.heap l1 l2 }) :=
 .of_wp fun prog w A R s h=>by
  obtain ⟨hp,g,d,tk,os⟩ := s
  obtain ⟨q1,q2,h⟩ := h
  have aU:=sub_zip
  have r1:Cf b1 (Shared.heap ⟨hp,g,d,tk,os⟩) l1 xs:=q1
  have r2:Cf b2 (Shared.heap ⟨hp.push { cls := .type (K3 b1),data := .fields #[.ref l1,.int 0 0] },g,d,tk,os⟩) l2 ys:=Cf.at' q2 fun o e=>Heap.get?_push_of_some _ e
  wp_walk using Mi r1,Mi r2
  exact ⟨_,rfl,h⟩
theorem Lx {b1 b2 : Bool} {l1 l2 : Addr} {xs ys : Array Value} {Q : Value -> Shared -> Prop} (q1 : Cf b1 s.heap l1 xs) (q2 : Cf b2 s.heap l2 ys)
  (h:∀ h',IsZip h' (s.heap.objs.size + 4) (s.heap.objs.size + 2) (s.heap.objs.size + 3) .none -> IsPair h' (s.heap.objs.size + 2) (.ref s.heap.objs.size) (.ref (s.heap.objs.size + 1)) ->
   IsPair h' (s.heap.objs.size + 3) .none .none -> Bs b1 h' s.heap.objs.size l1 0 -> Bs b2 h' (s.heap.objs.size + 1) l2 0 -> (∀ c o,s.heap.get? c = some o -> h'.get? c = some o) -> Q (.ref (s.heap.objs.size + 4)) { s with heap:=h' }) :
  wpAny (model P w) A (call (.type "zip") [.ref l1,.ref l2]) Q E s:=by
 refine callType_new F.called_zip (by decide) (F.typeCall_zip_2 _ _) (F.newCall_zip_2 _ _) (fun obj=>F.args_object_init_3 obj _ _) F.entry_zip_new (Kk b1 b2 l1 l2 xs ys) ⟨q1,q2,?_⟩
 have n1:(Og b1 s.heap l1).objs.size = s.heap.objs.size + 1:=Heap.size_push ..
 have n2:(Rt b1 b2 s.heap l1 l2).objs.size = s.heap.objs.size + 2:=by rw [Heap.size_push,n1]
 have n3:(Ru b1 b2 s.heap l1 l2).objs.size = s.heap.objs.size + 3:=by rw [Heap.size_push,n2]
 have n4:(Rv b1 b2 s.heap l1 l2).objs.size = s.heap.objs.size + 4:=by rw [Heap.size_push,n3]
 have g5:(Pt b1 b2 s.heap l1 l2).get? (Rv b1 b2 s.heap l1 l2).objs.size = some _:=Heap.get?_push_size _ rfl
 have g4:(Pt b1 b2 s.heap l1 l2).get? (Ru b1 b2 s.heap l1 l2).objs.size = some _:=Heap.get?_push_of_some _ (Heap.get?_push_size _ rfl)
 have g3:(Pt b1 b2 s.heap l1 l2).get? (Rt b1 b2 s.heap l1 l2).objs.size = some _:=Heap.get?_push_of_some _ (Heap.get?_push_of_some _ (Heap.get?_push_size _ rfl))
 have g2:(Pt b1 b2 s.heap l1 l2).get? (Og b1 s.heap l1).objs.size = some _:=Heap.get?_push_of_some _ (Heap.get?_push_of_some _ (Heap.get?_push_of_some _ (Heap.get?_push_size _ rfl)))
 have g1:(Pt b1 b2 s.heap l1 l2).get? s.heap.objs.size = some _:=Heap.get?_push_of_some _ (Heap.get?_push_of_some _ (Heap.get?_push_of_some _ (Heap.get?_push_of_some _ (Heap.get?_push_size _ rfl))))
 show _ /\ _
 rw [n2,n3,n4] at g5
 rw [n1,n2] at g3
 rw [n3] at g4
 rw [n1] at g2
 rw [n4]
 exact ⟨⟨_,g5,rfl⟩,h _ g5 g3 g4 (.of ⟨_,g1,rfl,rfl⟩) (.of ⟨_,g2,rfl,rfl⟩) fun c o x=>Heap.get?_push_of_some _ (Heap.get?_push_of_some _ (Heap.get?_push_of_some _ (Heap.get?_push_of_some _ (Heap.get?_push_of_some _ x))))⟩
end
open AutoSeq1 (wpAny_loadPart')
section
variable {P:Program} {w:World} {A:Around} {E:Value -> Shared -> Prop} {s:Shared}
theorem Km {z TI TO i1 i2 l1 l2 : Addr} {b1 b2 : Bool} {k : Nat} {xs ys : Array Value} {x y a b : Value} {Q : Option Value -> Shared -> Prop} (no : A.in1.handled = none) (D : Pq z TI TO i1 i2 l1 l2)
  (hz:IsZip s.heap z TI TO .none) (dQ:IsPair s.heap TI (.ref i1) (.ref i2)) (ee:IsPair s.heap TO a b) (h1:Bs b1 s.heap i1 l1 k) (h2:Bs b2 s.heap i2 l2 k) (q1:Cf b1 s.heap l1 xs) (q2:Cf b2 s.heap l2 ys) (hx:xs[k]? = some x) (hy:ys[k]? = some y)
  (hQ:∀ h' tk,IsZip h' z TI TO (rawInt s.heap.objs.size) -> IsPair h' TO x y -> Bs b1 h' i1 l1 (k + 1) -> Bs b2 h' i2 l2 (k + 1) -> IsPair h' s.heap.objs.size x y ->
   (∀ c o,c ≠ z -> c ≠ TO -> c ≠ i1 -> c ≠ i2 -> s.heap.get? c = some o -> h'.get? c = some o) -> Q (some (.ref s.heap.objs.size)) { s with heap:=h',toks:=tk }) :
  wpAny (model P w) A (pyNext (.ref z)) Q E s:=by
 have ty:s.TypeIs (.ref z) "zip" := ⟨_,hz,rfl⟩
 unfold pyNext
 exact wpAny_bind (wpAny_attempt (wpAny_callSpecial?_slot (name := Str.ofString "__next__") ty F.slot_zip_next (wpAny_call_entry F.slot_zip_next ty F.entry_zip_next
   (Ly no D hz dQ ee h1 h2 q1 q2 hx hy fun h' tk a1 a2 a3 a4 a5 a6=>wpAny_pure (hQ h' tk a1 a2 a3 a4 a5 a6)) (F.args_zip_next_1 _))))
theorem Kl {z TI TO i1 i2 l1 l2 : Addr} {b1 b2 : Bool} {k : Nat} {xs ys : Array Value} {a b : Value} {Q : Option Value -> Shared -> Prop} (no : A.in1.handled = none) (D : Pq z TI TO i1 i2 l1 l2)
  (hz:IsZip s.heap z TI TO .none) (dQ:IsPair s.heap TI (.ref i1) (.ref i2)) (ee:IsPair s.heap TO a b) (h1:Bs b1 s.heap i1 l1 k) (h2:Bs b2 s.heap i2 l2 k) (q1:Cf b1 s.heap l1 xs) (q2:Cf b2 s.heap l2 ys) (iq:k = xs.size \/ (k < xs.size /\ k = ys.size))
  (hQ:∀ h' tk,(∀ c o,c ≠ z -> c ≠ TO -> c ≠ i1 -> c ≠ i2 -> s.heap.get? c = some o -> h'.get? c = some o) -> Q none { s with heap:=h',toks:=tk }):wpAny (model P w) A (pyNext (.ref z)) Q E s:=by
 have ty:s.TypeIs (.ref z) "zip" := ⟨_,hz,rfl⟩
 unfold pyNext
 refine wpAny_bind (wpAny_attempt (wpAny_callSpecial?_slot (name := Str.ofString "__next__") ty F.slot_zip_next (wpAny_call_entry F.slot_zip_next ty F.entry_zip_next
   (N9 no D hz dQ ee h1 h2 q1 q2 iq fun h' tk e k he=>?_) (F.args_zip_next_1 _))))
 obtain ⟨o,ho,hc⟩ := he
 exact wpAny_bind (wpAny_isInstance (T := "StopIteration") (b:=true) ⟨o,ho,hc⟩ isSubtype_stop (wpAny_pure (hQ _ _ k)))
end
def M0 (K:PySem.W.Frag) (b1 b2:Bool) (l1 l2:Addr):It :=
 ⟨fun i H=>∃ xs ys x y,Sq b1 K H l1 xs /\ Sq b2 K H l2 ys /\ xs[i]? = some x /\ ys[i]? = some y,
  fun i H v H'=>∃ T x y,v = .ref T /\ H T = none /\ H' = upd H T (.tup [x,y]) /\ (∀ xs,Sq b1 K H l1 xs -> xs[i]? = some x) /\ ∀ ys,Sq b2 K H l2 ys -> ys[i]? = some y,
  fun i H=>∃ xs ys,Sq b1 K H l1 xs /\ Sq b2 K H l2 ys /\ (xs.length = i \/ (i < xs.length /\ ys.length = i))⟩
theorem Lw {P : Program} {w : World} {K : PySem.W.Frag} {elts : List Expr} {kk : Nat} {pos : Pos} {b1 b2 : Bool} {z TI TO i1 i2 l1 l2 : Addr} (D : Pq z TI TO i1 i2 l1 l2) :
  Ju P w K (.Tuple elts kk pos) (M0 K b1 b2 l1 l2) [z,TI,TO,i1,i2] z (fun i h=>IsZip h z TI TO .none /\ IsPair h TI (.ref i1) (.ref i2) /\ (∃ a b,IsPair h TO a b) /\ Bs b1 h i1 l1 i /\ Bs b2 h i2 l2 i) where
 mem:=List.mem_cons_self
 obj:=fun i h ⟨hz,dQ,⟨a,b,ee⟩,h1,h2⟩ c hc=>by
  obtain ⟨o1,e1,c1,d1⟩ := h1.data
  obtain ⟨o2,e2,c2,d2⟩ := h2.data
  simp only [List.mem_cons,List.not_mem_nil,or_false] at hc
  rcases hc with rfl | rfl | rfl | rfl | rfl
  ·exact ⟨_,hz,fun v q=>by cases q⟩
  ·exact ⟨_,dQ,fun v q=>by cases q⟩
  ·exact ⟨_,ee,fun v q=>by cases q⟩
  ·exact ⟨_,e1,fun v q=>by rw [d1] at q; cases q⟩
  ·exact ⟨_,e2,fun v q=>by rw [d2] at q; cases q⟩
 keep:=fun i h h' ⟨hz,dQ,⟨a,b,ee⟩,h1,h2⟩ hk =>
  ⟨hk z (by simp) _ hz,hk TI (by simp) _ dQ,⟨a,b,hk TO (by simp) _ ee⟩,h1.at' fun o e=>hk i1 (by simp) o e,h2.at' fun o e=>hk i2 (by simp) o e⟩
 item:=by
  intro X hP hw hK hc i pins s σ H E I fm ⟨hz,dQ,⟨a,b,ee⟩,h1,h2⟩ ⟨xs,ys,x,y,q1,q2,ex,ey⟩
  subst hP hw hK
  obtain ⟨dg,r1,p1⟩ := I.sq q1
  obtain ⟨kx,r2,p2⟩ := I.sq q2
  obtain ⟨u1,nh,gA⟩ := r1.get ex
  obtain ⟨u2,eu2,ky⟩ := r2.get ey
  refine Km (I.ok.hd hc) D hz dQ ee h1 h2 p1 p2 (by simpa using nh) (by simpa using eu2) fun h' tk a1 a2 a3 a4 a5 hk=>⟨_,rfl,?_⟩
  refine wpAny_letOwnedTupleGo_zip a1 fun oi iw cT=>?_
  have fo:z < s.heap.objs.size:=Heap.lt_size hz
  have kz:IsPair oi s.heap.objs.size u1 u2:=cT.extBut _ _ (Nat.ne_of_gt fo) a5
  refine ⟨.ref s.heap.objs.size,upd H s.heap.objs.size (.tup [x,y]),I.dM (t':=tk) (ch:=[z,TI,TO,i1,i2]) fm (fun c o hc e=>?_) (Nat.le_refl _) ?_,rfl,⟨_,x,y,rfl,I.fresh,rfl,fun xs' q=>?_,fun ng q=>?_⟩,⟨iw,?_,⟨u1,u2,?_⟩,?_,?_⟩,fun c hc=>?_⟩
  ·simp only [List.mem_cons,List.not_mem_nil,or_false,not_or] at hc
   obtain ⟨c1,c2,c3,c4,c5⟩ := hc
   exact cT.extBut _ _ c1 (hk c o c1 c3 c4 c5 e)
  ·exact ⟨⟨Nat.le_trans (by decide:2 <= 1000) (Kz (Nat.le_refl _)),_,kz,rfl⟩,[u1,u2],.cons gA (.cons ky .nil),⟨_,kz,rfl,0,rfl⟩⟩
  ·rw [I.eA q q1]
   exact ex
  ·rw [I.eA q q2]
   exact ey
  ·exact cT.extBut _ _ D.a (hk TI _ D.a D.e D.f D.g dQ)
  ·exact cT.extBut _ _ D.b a2
  ·exact a3.at' fun o e=>cT.extBut _ _ D.c e
  ·exact a4.at' fun o e=>cT.extBut _ _ D.d e
  ·rw [Af]
   ·exact (fm c hc).1
   ·have lt : c < s.heap.objs.size := by
     simp only [List.mem_cons,List.not_mem_nil,or_false] at hc
     rcases hc with rfl | rfl | rfl | rfl | rfl
     ·exact fo
     ·exact Heap.lt_size dQ
     ·exact Heap.lt_size ee
     ·exact h1.lt
     ·exact h2.lt
    exact Nat.ne_of_lt lt
 done:=by
  intro X hP hw hK hc i pins s σ H E I fm ⟨hz,dQ,⟨a,b,ee⟩,h1,h2⟩ ⟨xs,ys,q1,q2,he⟩
  subst hP hw hK
  obtain ⟨dg,r1,p1⟩ := I.sq q1
  obtain ⟨kx,r2,p2⟩ := I.sq q2
  have n1:=r1.length
  have n2:=r2.length
  refine Kl (I.ok.hd hc) D hz dQ ee h1 h2 p1 p2 ?_ fun h' tk hk=>⟨rfl,I.dN (t':=tk) (ch:=[z,TI,TO,i1,i2]) fm fun c o hc e=>?_⟩
  ·simp only [List.size_toArray]
   omega
  ·simp only [List.mem_cons,List.not_mem_nil,or_false,not_or] at hc
   obtain ⟨c1,c2,c3,c4,c5⟩ := hc
   exact hk c o c1 c3 c4 c5 e
 self:=fun A i s Q E ⟨hz,_⟩ hQ=>wpAny_pyIter_zip hz hQ
theorem Ot {n l1 l2:Nat} (h1:l1 < n) (h2:l2 < n):Pq (n + 4) (n + 2) (n + 3) n (n + 1) l1 l2 :=
 ⟨by omega,by omega,by omega,by omega,by omega,by omega,by omega,by omega,by omega,by omega,⟨by omega,by omega,by omega,by omega⟩,⟨by omega,by omega,by omega,by omega⟩⟩
section
variable {X:Cx}
def Q6 (K:PySem.W.Frag) (ta:TA):TI:=fun σ H R=>ta σ H fun vs H1=>∃ (b1 b2:Bool) (a b:Addr),vs = [.ref a,.ref b] /\ (∃ xs,Sq b1 K H1 a xs) /\ (∃ ys,Sq b2 K H1 b ys) /\ R (M0 K b1 b2 a b) H1
theorem Ej {elts : List Expr} {kk : Nat} {fi : Pos} {a b : Expr} {ta : TA} {p pos : Pos} (hg : Gl X "zip") (hm : X.mg "zip" = none) (ha : PA X [a, b] ta) (hs : starEach [a, b] X.env = [(false, eval a X.env), (false, eval b X.env)] := by rfl) (gO : starEach [b] X.env = [(false, eval b X.env)] := by rfl) :
  PI X (.Tuple elts kk fi) (.Call (.Name "zip" p) [a,b] [] pos) (Q6 X.K ta):=by
 intro pins s σ H R I h
 refine Call_ (Ee I hg hm boot_zip (PyProof.Rows.callWith_type1 (C8 (ha pos pins s σ H _ I h) fun us s1 ⟨vs,H1,I1,r1,q1⟩=>?_) (by rw [hs,gO]) (by rw [gO]; rfl)))
 obtain ⟨b1,b2,l1,l2,e,⟨xs,hx⟩,⟨ys,hy⟩,q⟩ := q1
 subst e
 obtain ⟨u1,u2,rfl,gA,ky⟩ := Rb r1
 cases gA
 cases ky
 obtain ⟨dg,rr1,p1⟩ := I1.sq hx
 obtain ⟨kx,rr2,p2⟩ := I1.sq hy
 have kA:=p1.lt
 have lt2:=p2.lt
 refine Lx p1 p2 fun h' a1 a2 a3 a4 a5 hk=>?_
 refine wpAny_pyIter_zip a1 ?_
 have I2:Ae X pins σ H1 { s1 with heap:=h' }:=I1.kept (t':=s1.toks) hk
 refine ⟨s1.heap.objs.size + 4,[s1.heap.objs.size + 4,s1.heap.objs.size + 2,s1.heap.objs.size + 3,s1.heap.objs.size,s1.heap.objs.size + 1],_,_,H1,rfl,I2,Lw (Ot kA lt2),⟨a1,a2,⟨_,_,a3⟩,a4,a5⟩,fun c hc=>?_,q⟩
 have hle:s1.heap.objs.size <= c:=by
  simp only [List.mem_cons,List.not_mem_nil,or_false] at hc
  rcases hc with rfl | rfl | rfl | rfl | rfl <;> omega
 exact I1.eX hle (I1.ab.fresh hle)
end
def Lz (K:PySem.W.Frag) (b:Bool) (l:Addr):It :=
 ⟨fun i H=>∃ xs x,Sq b K H l xs /\ xs[i]? = some x,
  fun i H v H'=>∃ T x,v = .ref T /\ H T = none /\ H' = upd H T (.tup [.int i,x]) /\ ∀ xs,Sq b K H l xs -> xs[i]? = some x,
  fun i H=>∃ xs,Sq b K H l xs /\ xs.length = i⟩
theorem Kh {P : Program} {w : World} {K : PySem.W.Frag} {elts : List Expr} {kk : Nat} {pos : Pos} {b : Bool} {e it l : Addr} (eF : e ≠ it) (hel : e ≠ l) :
  Ju P w K (.Tuple elts kk pos) (Lz K b l) [e,it] e (fun i h=>(∃ old,IsEnum h e it i old) /\ Bs b h it l i) where
 mem:=List.mem_cons_self
 obj:=fun i h ⟨⟨old,he⟩,h1⟩ c hc=>by
  obtain ⟨o1,e1,c1,d1⟩ := h1.data
  simp only [List.mem_cons,List.not_mem_nil,or_false] at hc
  rcases hc with rfl | rfl
  ·exact ⟨_,he,fun v q=>by cases q⟩
  ·exact ⟨_,e1,fun v q=>by rw [d1] at q; cases q⟩
 keep:=fun i h h' ⟨⟨old,he⟩,h1⟩ hk=>⟨⟨old,hk e (by simp) _ he⟩,h1.at' fun o q=>hk it (by simp) o q⟩
 item:=by
  intro X hP hw hK hc i pins s σ H E I fm ⟨⟨old,he⟩,h1⟩ ⟨xs,x,q1,ex⟩
  subst hP hw hK
  obtain ⟨dg,r1,p1⟩ := I.sq q1
  obtain ⟨u1,nh,gA⟩ := r1.get ex
  have kA:i < dg.toArray.size:=by
   have:=(List.getElem?_eq_some_iff.mp nh).1
   simpa using this
  refine wpAny_pyNext_enum_itemD (Cs (A:=X.A.in1) (I.ok.hd hc) b it l (h1.ne p1) dg.toArray) he ⟨h1,p1⟩ kA eF (by simp [eF,hel]) fun u h' tk eu a1 a2 a3 a4 hk=>⟨_,rfl,?_⟩
  have e2:u = u1:=Option.some.inj (eu.symm.trans (by simpa using nh))
  subst e2
  refine wpAny_letOwnedTupleGo_enum a1 fun oi iw cT=>?_
  have fo:e < s.heap.objs.size:=Heap.lt_size he
  have kz:oi.get? s.heap.objs.size = some { cls := .type "tuple",data := .seq #[.int i tk,u] }:=cT.extBut _ _ (Nat.ne_of_gt fo) a3
  refine ⟨.ref s.heap.objs.size,upd H s.heap.objs.size (.tup [.int i,x]),I.dM (t':=tk + 1) (ch:=[e,it]) fm (fun c o hc ec=>?_) (Nat.le_refl _) ?_,rfl,⟨_,x,rfl,I.fresh,rfl,fun xs' q=>?_⟩,⟨⟨u,?_⟩,?_⟩,fun c hc=>?_⟩
  ·simp only [List.mem_cons,List.not_mem_nil,or_false,not_or] at hc
   exact cT.extBut _ _ hc.1 (hk c o hc.1 hc.2 ec)
  ·exact ⟨⟨Nat.le_trans (by decide:2 <= 1000) (Kz (Nat.le_refl _)),_,kz,rfl⟩,[.int i tk,u],.cons ⟨_,rfl⟩ (.cons gA .nil),⟨_,kz,rfl,0,rfl⟩⟩
  ·rw [I.eA q q1]
   exact ex
  ·have z:=iw
   rw [show ((i:Int) + 1) = ((i + 1:Nat):Int) by omega] at z
   exact z
  ·exact a2.1.at' fun o eo=>cT.extBut _ _ (Ne.symm eF) eo
  ·rw [Af]
   ·exact (fm c hc).1
   ·simp only [List.mem_cons,List.not_mem_nil,or_false] at hc
    rcases hc with rfl | rfl
    ·exact Nat.ne_of_lt fo
    ·exact Nat.ne_of_lt h1.lt
 done:=by
  intro X hP hw hK hc i pins s σ H E I fm ⟨⟨old,he⟩,h1⟩ ⟨xs,q1,hl⟩
  subst hP hw hK
  obtain ⟨dg,r1,p1⟩ := I.sq q1
  have n1:=r1.length
  have n2:i = dg.toArray.size:=by simp only [List.size_toArray]; omega
  subst n2
  refine wpAny_pyNext_enum_endD (Cs (A:=X.A.in1) (I.ok.hd hc) b it l (h1.ne p1) dg.toArray) he ⟨h1,p1⟩ fun h' hk=>⟨rfl,I.dN (t':=s.toks) (ch:=[e,it]) fm fun c o hc ec=>?_⟩
  simp only [List.mem_cons,List.not_mem_nil,or_false,not_or] at hc
  exact hk c o hc.2 ec
 self:=fun A i s Q E ⟨⟨old,he⟩,_⟩ hQ=>wpAny_pyIter_enum he hQ
theorem Je (l : Addr) (items : Array Value) (n : Nat) (oj : Option Addr) (sl : Array (Option Value)) :
  Meets (Builtin.«enumerate.__new__» ⟨[.type "enumerate",.ref l],[]⟩) (fun _ R s=>s.heap.get? l = some { cls := .type "tuple",dict:=oj,data := .seq items n,slots:=sl } /\
   R (.ok (.ret (.ref (Og true s.heap l).objs.size))) { s with heap:=(Og true s.heap l).push { cls := .type "enumerate",data := .fields #[.none,.bool false,.ref s.heap.objs.size,rawInt 0,.none,.none] } }) :=
 .of_wp fun prog w A R s h=>by
  obtain ⟨hp,g,d,tk,os⟩ := s
  obtain ⟨hl,h⟩ := h
  have aU:=sub_enumerate
  have hT:Heap.IsTuple (Shared.heap ⟨hp,g,d,tk,os⟩) l items:=⟨_,hl,rfl,n,rfl⟩
  wp_walk using wpAny_loadPart' hl
  refine wpAny_stack_any fun st=>wpAny_pure ?_
  split
  ·rename_i c _ _ _ _ _
   cases (c == Value.type "enumerate")
   ·wp_walk using wpAny_loadPart' hl,wpAny_pyIter_tuple hT
    exact ⟨_,rfl,h⟩
   ·wp_walk using wpAny_loadPart' hl,wpAny_pyIter_tuple hT
    exact ⟨_,rfl,h⟩
  ·wp_walk using wpAny_loadPart' hl,wpAny_pyIter_tuple hT
   exact ⟨_,rfl,h⟩
theorem Jz {P : Program} {w : World} {A : Around} {E : Value -> Shared -> Prop} {s : Shared} {l : Addr} {items : Array Value} {Q : Value -> Shared -> Prop} (hT : s.heap.IsTuple l items)
  (h:∀ h',IsEnum h' (s.heap.objs.size + 1) s.heap.objs.size 0 .none -> h'.IsTupleIter s.heap.objs.size l 0 -> (∀ b o,s.heap.get? b = some o -> h'.get? b = some o) -> Q (.ref (s.heap.objs.size + 1)) { s with heap:=h' }) :
  wpAny (model P w) A (call (.type "enumerate") [.ref l]) Q E s:=by
 obtain ⟨⟨c,oj,dt,sl⟩,hl,hc,n,hd⟩ := hT
 have mY:c = .type "tuple" := hc
 have fe:dt = .seq items n:=hd
 subst mY fe
 refine callType_new F.called_enumerate (by decide) (F.typeCall_enumerate_1 _) (F.newCall_enumerate_1 _) (fun obj=>F.args_object_init_2 obj _) F.entry_enumerate_new (Je l items n oj sl) ⟨hl,?_⟩
 have hz:(Og true s.heap l).objs.size = s.heap.objs.size + 1:=Heap.size_push ..
 show _ /\ _
 rw [hz]
 have he:=Heap.get?_push_size (Og true s.heap l) (o:={ cls := .type "enumerate",data := .fields #[.none,.bool false,.ref s.heap.objs.size,rawInt 0,.none,.none] }) rfl
 rw [hz] at he
 exact ⟨⟨_,he,rfl⟩,h _ he ⟨_,Heap.get?_push_of_some _ (Heap.get?_push_size _ rfl),rfl,rfl⟩ fun b o x=>Heap.get?_push_of_some _ (Heap.get?_push_of_some _ x)⟩
section
variable {X:Cx}
def Ow (K:PySem.W.Frag) (ta:TA):TI:=fun σ H R=>ta σ H fun vs H1=>∃ (b:Bool) (a:Addr),vs = [.ref a] /\ (∃ xs,Sq b K H1 a xs) /\ R (Lz K b a) H1
theorem Mv {elts : List Expr} {kk : Nat} {fi : Pos} {a : Expr} {ta : TA} {p pos : Pos} (hg : Gl X "enumerate") (hm : X.mg "enumerate" = none) (ha : PA X [a] ta) (hs : starEach [a] X.env = [(false, eval a X.env)] := by rfl) :
  PI X (.Tuple elts kk fi) (.Call (.Name "enumerate" p) [a] [] pos) (Ow X.K ta):=by
 intro pins s σ H R I h
 refine Call_ (Ee I hg hm boot_enumerate (PyProof.Rows.callWith_type1 (C8 (ha pos pins s σ H _ I h) fun us s1 ⟨vs,H1,I1,r1,q1⟩=>?_) hs rfl))
 obtain ⟨b,l1,e,⟨xs,hx⟩,q⟩ := q1
 subst e
 obtain ⟨u1,rfl,gA⟩ := Gx r1
 cases gA
 obtain ⟨dg,rr1,p1⟩ := I1.sq hx
 have kA:=p1.lt
 have fin : ∀ h', IsEnum h' (s1.heap.objs.size + 1) s1.heap.objs.size 0 .none -> Bs b h' s1.heap.objs.size l1 0 -> (∀ b o, s1.heap.get? b = some o -> h'.get? b = some o) ->
   wpAny (model X.prog X.w) X.A (pyIter (.ref (s1.heap.objs.size + 1))) (S3 X pins σ (.Tuple elts kk fi) R) X.xe { s1 with heap:=h' }:=fun h' a1 a2 hk=>by
  refine wpAny_pyIter_enum a1 ?_
  have I2:Ae X pins σ H1 { s1 with heap:=h' }:=I1.kept (t':=s1.toks) hk
  refine ⟨s1.heap.objs.size + 1,[s1.heap.objs.size + 1,s1.heap.objs.size],_,_,H1,rfl,I2,Kh (Nat.ne_of_gt (Nat.lt_succ_self _)) (Nat.ne_of_gt (Nat.lt_succ_of_lt kA)),⟨⟨_,a1⟩,a2⟩,fun c hc=>?_,q⟩
  have hle:s1.heap.objs.size <= c:=by
   simp only [List.mem_cons,List.not_mem_nil,or_false] at hc
   rcases hc with rfl | rfl <;> omega
  exact I1.eX hle (I1.ab.fresh hle)
 cases b with
 | false=>exact call_enumerate_list p1 fun h' a1 a2 a3 hk=>fin h' a1 a2 hk
 | true=>exact Jz p1 fun h' a1 a2 hk=>fin h' a1 a2 hk
end
theorem Ds {K : PySem.W.Frag} {b1 b2 : Bool} {c d : Addr} {xs ys : List V} {g : TG} {tb : TS} {D : Ez} {σ : St} {H : Hp} (hlen : xs.length = ys.length) (Pv : Nat -> St -> Hp -> Prop) (h0 : Pv 0 σ H) (hl : ∀ i σ H, i <= xs.length -> Pv i σ H -> Sq b1 K H c xs /\ Sq b2 K H d ys)
  (hs:∀ i x y T σ H,xs[i]? = some x -> ys[i]? = some y -> Pv i σ H -> H T = none -> g (.ref T) σ (upd H T (.tup [x,y])) fun σ2 H2=>tb { D with nx:=Pv (i + 1),ct:=Pv (i + 1),bk:=D.nx } σ2 H2) (hd:∀ σ H,Pv xs.length σ H -> D.nx σ H) :
  ∃ W:Nat -> Nat -> St -> Hp -> Prop,(∃ m,W 0 m σ H) /\ ∀ i m σ H,W i m σ H ->
   ((M0 K b1 b2 c d).stop i H /\ D.nx σ H) \/ ((M0 K b1 b2 c d).go i H /\ ∃ N:St -> Hp -> Prop,(∀ σ' H',N σ' H' -> ∃ m',m' < m /\ W (i + 1) m' σ' H') /\ ∀ x H',(M0 K b1 b2 c d).i9 i H x H' -> g x σ H' fun σ2 H2=>tb { D with nx:=N,ct:=N,bk:=D.nx } σ2 H2):=by
 refine ⟨fun i m σ H=>m = xs.length - i /\ i <= xs.length /\ Pv i σ H,⟨xs.length,by simp,Nat.zero_le _,h0⟩,?_⟩
 rintro i m σ H ⟨rfl,hi,p⟩
 obtain ⟨q1,q2⟩ := hl i σ H hi p
 by_cases bD:i < xs.length
 ·have om:i < ys.length:=by omega
  refine .inr ⟨⟨xs,ys,xs[i],ys[i],q1,q2,by simp [bD],by simp [om]⟩,Pv (i + 1),fun σ' H' p'=>⟨xs.length - (i + 1),by omega,rfl,bD,p'⟩,fun v H' y=>?_⟩
  obtain ⟨T,x,z,rfl,hT,rfl,e1,e2⟩ := y
  exact hs i x z T σ H (e1 xs q1) (e2 ys q2) p hT
 ·have e:i = xs.length:=by omega
  subst e
  exact .inl ⟨⟨xs,ys,q1,q2,.inl rfl⟩,hd σ H p⟩
theorem L9 {K : PySem.W.Frag} {b : Bool} {c : Addr} {xs : List V} {g : TG} {tb : TS} {D : Ez} {σ : St} {H : Hp} (Pv : Nat -> St -> Hp -> Prop) (h0 : Pv 0 σ H) (hl : ∀ i σ H, i <= xs.length -> Pv i σ H -> Sq b K H c xs)
  (hs:∀ i x T σ H,xs[i]? = some x -> Pv i σ H -> H T = none -> g (.ref T) σ (upd H T (.tup [.int i,x])) fun σ2 H2=>tb { D with nx:=Pv (i + 1),ct:=Pv (i + 1),bk:=D.nx } σ2 H2) (hd:∀ σ H,Pv xs.length σ H -> D.nx σ H) :
  ∃ W:Nat -> Nat -> St -> Hp -> Prop,(∃ m,W 0 m σ H) /\ ∀ i m σ H,W i m σ H ->
   ((Lz K b c).stop i H /\ D.nx σ H) \/ ((Lz K b c).go i H /\ ∃ N:St -> Hp -> Prop,(∀ σ' H',N σ' H' -> ∃ m',m' < m /\ W (i + 1) m' σ' H') /\ ∀ x H',(Lz K b c).i9 i H x H' -> g x σ H' fun σ2 H2=>tb { D with nx:=N,ct:=N,bk:=D.nx } σ2 H2):=by
 refine ⟨fun i m σ H=>m = xs.length - i /\ i <= xs.length /\ Pv i σ H,⟨xs.length,by simp,Nat.zero_le _,h0⟩,?_⟩
 rintro i m σ H ⟨rfl,hi,p⟩
 have q1:=hl i σ H hi p
 by_cases bD:i < xs.length
 ·refine .inr ⟨⟨xs,xs[i],q1,by simp [bD]⟩,Pv (i + 1),fun σ' H' p'=>⟨xs.length - (i + 1),by omega,rfl,bD,p'⟩,fun v H' y=>?_⟩
  obtain ⟨T,x,rfl,hT,rfl,e1⟩ := y
  exact hs i x T σ H (e1 xs q1) p hT
 ·have e:i = xs.length:=by omega
  subst e
  exact .inl ⟨⟨xs,q1,rfl⟩,hd σ H p⟩
abbrev Ur (K:PySem.W.Frag):TG:=Ov K 2 (Mc (Ge 0) (Mc (Ge 1) Q4))
section
variable {X:Cx} {a b:Expr} {rest:List Expr} {ta tb:TE} {tA jT:TT} {pos:Pos}
def U0 (ta tb:TE):TE:=fun σ H Q=>ta σ H fun x H1=>∃ (c:Bool) (N:Bool -> Hp -> Prop),x = .bl c /\ (c = false -> N false H1) /\ (c = true -> tb σ H1 fun y H2=>∃ d:Bool,y = .bl d /\ N d H2) /\ ∀ d H2,N d H2 -> Q (.bl d) H2
def Vn (ta tb:TE):TE:=fun σ H Q=>ta σ H fun x H1=>∃ (c:Bool) (N:Bool -> Hp -> Prop),x = .bl c /\ (c = true -> N true H1) /\ (c = false -> tb σ H1 fun y H2=>∃ d:Bool,y = .bl d /\ N d H2) /\ ∀ d H2,N d H2 -> Q (.bl d) H2
def Tx (t u:TT):TT:=fun σ H Q=>t σ H fun c H1=>∃ N:Bool -> Hp -> Prop,(c = false -> N false H1) /\ (c = true -> u σ H1 N) /\ ∀ d H2,N d H2 -> Q d H2
def Vk (t u:TT):TT:=fun σ H Q=>t σ H fun c H1=>∃ N:Bool -> Hp -> Prop,(c = true -> N true H1) /\ (c = false -> u σ H1 N) /\ ∀ d H2,N d H2 -> Q d H2
end
section
variable {P:Program} {w:World} {A:Around} {E:Value -> Shared -> Prop} {s:Shared}
end
section
variable {X:Cx}
def R4 (K:PySem.W.Frag) (ta:TA):TE:=fun σ H Q=>ta σ H fun vs H1=>∃ l xs,vs = [.ref l] /\ As K H1 l xs /\ ∀ d,H1 d = none -> Q (.ref d) (upd H1 d (.lst xs.reverse))
end
section
variable {X:Cx}
def Pu (i j:Int):Prop:=0 < j /\ intBits j <= 8999
theorem Mr:Gy X (binaryOp .FloorDiv) (rI Pu fun i j=>.int (i / j)):=Qj fun i j _ _ _ _ _ hc q=>by
 have h1:(0:Int) < j:=hc.1
 refine floordiv_int (by omega) (by rw [Int.fdiv_eq_ediv_of_nonneg i (by omega)]; exact q) (.inl (PyProof.noPylong_of_log2 ?_))
 have h2:=hc.2
 unfold PySem.Builtin.Int.intBits at h2
 rw [if_neg (by simp; omega)] at h2
 omega
end
section
variable {X:Cx} {tg:Expr}
def Tb (lo c:Int) (n:Nat):It:=⟨fun i _=>i < n,fun i H x H'=>H' = H /\ x = .int (lo + i * c),fun i _=>n <= i⟩
def Qy (a b c:Int):Nat:=if a < b then ((b - a - 1) / c + 1).toNat else 0
def Th (ta:TA):TI:=fun σ H R=>ta σ H fun vs H1=>∃ i j c:Int,vs = [.int i,.int j,.int c] /\ (-(2 ^ 60) <= i /\ i < 2 ^ 60 /\ -(2 ^ 60) <= j /\ j < 2 ^ 60) /\ (0 < c /\ c < 2 ^ 30) /\ R (Tb i c (Qy i j c)) H1
end
theorem C6.here {P:Program} {w:World} {H:Hp} {h:Heap} {a:Addr} {o:HO} (x:C6 P w H h a o):∃ ob,h.get? a = some ob:=by
 cases o with
 | lst xs=>obtain ⟨_,_,_,_,e⟩ := x; exact ⟨_,e⟩
 | tup xs=>obtain ⟨_,_,_,o,e,_⟩ := x; exact ⟨_,e⟩
 | dK cg=>obtain ⟨_,_,_,_,o,_,_,e,_⟩ := x; exact ⟨_,e⟩
 | dT cg=>obtain ⟨_,_,_,_,o,_,_,e,_⟩ := x; exact ⟨_,e⟩
 | set S n=>obtain ⟨o,_,_,_,e,_⟩ := x; exact ⟨_,e⟩
 | ins C dx fs=>obtain ⟨_,_,_,e,_⟩ := x; exact ⟨_,e⟩
 | own y=>exact x
 | xd fs=>obtain ⟨mA,⟨od,es,ep,e,c⟩,r⟩ := x; exact ⟨_,e⟩
 | mW lo hi=>obtain ⟨t,u,v,e⟩ := x; exact ⟨_,e⟩
 | eU ob u=>exact ⟨_,x.1⟩
 | gJ ps=>exact ⟨_,(show h.get? a = some _ from x)⟩
 | met f y=>exact ⟨_,(show h.get? a = some _ from x)⟩
 | ext φ=>exact x.2.1
theorem Fb.off {P:Program} {w:World} {H:Hp} {h:Heap} {a:Addr} (ok:Fb P w H h) (e:h.get? a = none):H a = none:=by
 cases q:H a with
 | none=>rfl
 | some u =>
  obtain ⟨ob,z⟩ := (ok a u q).here
  rw [e] at z
  cases z
def Gg (a:Addr) (cls:Value) (h:Heap):Prop := ∃ o vs,h.get? a = some o /\ o.cls = cls /\ o.data = .fields vs
def Tk (a:Addr) (h:Heap):Prop := ∃ o vs,h.get? a = some o /\ o.data = .fields vs
def S6 (h:Heap) (a T:Addr):Prop := ∃ oe vs oT ts a0,h.get? a = some oe /\ oe.data = .fields vs /\ vs[0]? = some a0 /\ vs[1]? = some (.ref T) /\ T ≠ a /\ h.get? T = some oT /\ oT.data = .fields ts /\ ts[3]? = some .none
structure Ps (P:Program) (w:World) (fr:List Addr) (H:Hp) (h:Heap) (H':Hp) (h':Heap) (a T:Addr) (cls:Value):Prop where
 un:Un fr [] H H' h h'
 ok:Fb P w H' h'
 exc:H' a = some (.ext (Gg a cls))
 off:H' T = none
 new:h.get? T = none
 tr:S6 h' a T
def U9 (P:Program) (w:World):Kn:=fun outer H s E e s'=>∃ (a T:Addr) (cls:Value) (H':Hp),e = .ref a /\ s'.os = s.os /\ AllBare s'.gens /\ Ps P w (eh outer) H s.heap H' s'.heap a T cls /\ E cls none H'
section
variable {X:Cx} {pins:List (Addr × Obj)} {σ:St} {H:Hp} {s:Shared}
theorem Ps.cls {P:Program} {w:World} {fr:List Addr} {H H':Hp} {h h':Heap} {a T:Addr} {cls:Value} (F:Ps P w fr H h H' h' a T cls):Gg a cls h':=(F.ok a _ F.exc).1
end
section
variable {P:Program} {w:World} {K:PySem.W.Frag} {mg:Str -> Option Value} {base:Heap} {N:List Str} {qual:Str} {scope:Scope} {f:Addr} {cd:Value} {A:Around} {outer:List Env} {s₀:Shared} {H₀:Hp} {E:XK}
def Td (X:Cx) (R:St -> XK -> Prop):Prop := ∀ (pins:List (Addr × Obj)) (σ:St) (H:Hp) (s:Shared) (e:Value) (s':Shared) (E:XK),R σ E -> Ae X pins σ H s -> U9 X.prog X.w X.stack H s E e s' -> X.xe e s'
def RD (E:XK):St -> XK -> Prop:=fun _ E1=>∀ c d H,E1 c d H -> E c d H
def S4 (X:Cx) (E:XK):Prop := ∀ (pins:List (Addr × Obj)) (σ:St) (H:Hp) (s:Shared) (h':Heap) (e:Addr) (cls:Value) (vs:List Value),Ae X pins σ H s -> Heap.MadeExcOf s.heap h' e cls vs ->
 (∀ H2,A5 H H2 -> E cls none H2) -> X.xe (.ref e) { s with heap:=h' }
end
def Rz (K:PySem.W.Frag) (C:Addr):Prop:=PySem.W.excIn K C [.type "ValueError",.type "Exception",.type "BaseException",.type "object"] "ValueError.__new__" = true
section
variable {X:Cx} {x:Str} {C:Addr} {p np dJ pos:Pos} {e:Expr} {es:List Expr} {t:TA} {E:XK}
def T1 (C:Addr) (t:TA) (E:XK):TS:=fun _ σ H=>t σ H fun vs H1=>vs.length <= sizeLine /\ ∀ H2,A5 H1 H2 -> E (.ref C) none H2
variable {k:Nat} {f:Addr} {fd:FuncData} {ps:List Str} {sp:Sp} {cF:List V} {ds:List Value} {R:St -> XK -> Prop}
def Sr (sp:Sp) (cF:List V) (R:St -> XK -> Prop) (t:TA):TE:=fun σ H Q=>t σ H fun vs H1=>∃ E,R σ E /\ sp (vs ++ cF) H1 Q E
end
section
variable {P:Program} {w:World} {K:PySem.W.Frag} {mg:Str -> Option Value} {base:Heap} {x qual:Str} {st:Stmt} {f:Addr} {fd:FuncData} {N ps:List Str} {k:Nat} {sp:Sp}
end
open PySem.W (Looks)
inductive Ep (X:Cx) (C:Addr):List Expr -> List Addr -> Prop
 | nil:Ep X C [] []
 | cons {x : Str} {p : Pos} {c : Addr} {es : List Expr} {cs : List Addr} (hg : Gl X x) (hm : X.mg x = some (.ref c)) (hd : (x == ("__debug__" : Str)) = false)
   (hb:PySem.W.subIn X.K (.ref c) (.type "BaseException") = some true) (hn:PySem.W.subIn X.K (.ref C) (.ref c) = some false) (he:∀ env:Env,starEach (.Name x p :: es) env = (false,eval (.Name x p) env) :: starEach es env) (r:Ep X C es cs):Ep X C (.Name x p :: es) (c :: cs)
section
variable {X:Cx} {pins:List (Addr × Obj)} {σ:St} {H:Hp} {s:Shared} {C:Addr}
theorem Ep.len {es:List Expr} {cs:List Addr} (r:Ep X C es cs):cs.length = es.length:=by
 induction r with
 | nil=>rfl
 | cons _ _ _ _ _ _ _ ih=>simp [ih]
def Tu (K:PySem.W.Frag):List V -> Hp -> VK -> Prop:=fun xs H Q=>∃ (a:Addr) (t c:Value) (v:V),xs = [.ref a,v] /\ H a = some (.ext (Gg a t)) /\ (∀ u,B1 v u -> u = c) /\ PySem.W.kitOne K t c = some true /\ Q (.bl true) H
end
abbrev Cx.at (X:Cx) (A:Around):Cx:={ X with A:=A,calm:=false,xe:=fun _ _=>False }
abbrev Cx.ni (X:Cx) (pn:List (Addr × Obj)) (W:Value -> Shared -> Prop):Cx:={ X with pn:=pn,xe:=W }
section
variable {X:Cx} {pins:List (Addr × Obj)} {σ:St} {H:Hp} {s:Shared}
theorem Ae.at (I:Ae X pins σ H s) {A:Around} (hA:A.frames = X.A.frames):Ae (X.at A) pins σ H s :=
 ⟨⟨I.ok.mod,I.ok.kind,I.ok.glob,I.ok.blt,I.ok.above,I.ok.inj,I.ok.has,I.ok.i7,fun z=>(nomatch z),hA.trans I.ok.frames,I.ok.jS,I.ok.k8,I.ok.bs,I.ok.eV,I.ok.ei,I.ok.el,I.ok.bG,I.ok.gp⟩,I.os,I.bare,I.base,I.loc,I.cell,I.free,I.aP,I.pin,I.ab,I.len⟩
theorem Ae.ni {W:Value -> Shared -> Prop} (I:Ae X pins σ H s):Ae (X.ni (X.pn ++ pins) W) [] σ H s :=
 ⟨⟨I.ok.mod,I.ok.kind,I.ok.glob,I.ok.blt,I.ok.above,I.ok.inj,I.ok.has,I.ok.i7,I.ok.hd,I.ok.frames,I.ok.jS,I.ok.k8,I.ok.bs,I.ok.eV,I.ok.ei,I.ok.el,I.ok.bG,I.ok.gp⟩,I.os,I.bare,I.base,I.loc,I.cell,I.free,I.aP,
  fun p hp=>I.pin p (by rwa [List.append_nil] at hp),I.ab,I.len⟩
theorem Ae.out {W:Value -> Shared -> Prop} {eK:List (Addr × Obj)} (ok:X.Ok) (I:Ae (X.ni (X.pn ++ pins) W) eK σ H s):Ae X pins σ H s :=
 ⟨ok,I.os,I.bare,I.base,I.loc,I.cell,I.free,I.aP,fun p hp=>I.pin p (List.mem_append_left _ hp),I.ab,I.len⟩
theorem SP.out {W:Value -> Shared -> Prop} {D:Ez} {f:Flow} {s':Shared} (ok:X.Ok) (h:SP (X.ni (X.pn ++ pins) W) [] D f s'):SP X pins D f s':=by
 cases f with
 | next=>obtain ⟨σ',H',I,q⟩ := h; exact ⟨σ',H',I.out ok,q⟩
 | brk=>obtain ⟨σ',H',I,q⟩ := h; exact ⟨σ',H',I.out ok,q⟩
 | cont=>obtain ⟨σ',H',I,q⟩ := h; exact ⟨σ',H',I.out ok,q⟩
 | ret u=>obtain ⟨v,σ',H',I,r,q⟩ := h; exact ⟨v,σ',H',I.out ok,r,q⟩
theorem Ps.kept {P:Program} {w:World} {fr:List Addr} {H H':Hp} {h h' h2:Heap} {a T:Addr} {cls:Value} (F:Ps P w fr H h H' h' a T cls) (k:∀ b o,h'.get? b = some o -> h2.get? b = some o):Ps P w fr H h H' h2 a T cls:=by
 obtain ⟨oe,vs,oT,ts,a0,e1,d1,h0,h1,nT,e2,d2,h3⟩ := F.tr
 exact ⟨F.un.trans (Un.kept k),F.ok.kept k,F.exc,F.off,F.new,oe,vs,oT,ts,a0,k _ _ e1,d1,h0,h1,nT,k _ _ e2,d2,h3⟩
def RT (tu:TS) (C:Addr) (i:Nat) (D:Ez):St -> XK -> Prop:=fun σ1 E=>∀ cls H',E cls none H' -> cls = .ref C /\ ∀ a,H' a = some (.ext (Gg a (.ref C))) ->
 tu { nx:=fun σ' H4=>D.nx (σ'.set i none) H4,rt:=fun _ _=>False } (σ1.set i (some (.ref a))) H'
def Vr (tb:(St -> XK -> Prop) -> TS) (tu:TS) (C:Addr) (i:Nat):TS:=fun D σ H=>tb (RT tu C i D) D σ H
theorem Ep.all {C:Addr} {es:List Expr} {cs:List Addr} (r:Ep X C es cs):∀ c ∈ cs,PySem.W.subIn X.K (.ref c) (.type "BaseException") = some true /\ PySem.W.subIn X.K (.ref C) (.ref c) = some false:=by
 induction r with
 | nil=>exact fun _ z=>nomatch z
 | cons _ _ _ hb hn _ _ ih =>
  intro c hc
  rcases List.mem_cons.mp hc with e | hc
  ·rw [e]
   exact ⟨hb,hn⟩
  ·exact ih c hc
end
section
variable {X:Cx}
end
theorem L6 (a v:Value):argsOk "max" ⟨[a],[(Str.ofString "default",v)]⟩ := by
 unfold argsOk
 kernel_rfl
def Ek (val:Nat -> Int) (j:Nat) (m:Int):Prop:=(∃ i,i <= j /\ m = val i) /\ ∀ i,i <= j -> val i <= m
theorem Ek.up {val:Nat -> Int} {j:Nat} {m:Int} (h:Ek val j m) (b:m < val (j + 1)):Ek val (j + 1) (val (j + 1)):=by
 refine ⟨⟨j + 1,Nat.le_refl _,rfl⟩,fun i hi=>?_⟩
 rcases Nat.lt_or_ge j i with z | z
 ·have e:i = j + 1:=by omega
  rw [e]
  omega
 ·have:=h.2 i z
  omega
theorem Ek.same {val:Nat -> Int} {j:Nat} {m:Int} (h:Ek val j m) (b:¬ m < val (j + 1)):Ek val (j + 1) m:=by
 obtain ⟨⟨i0,z0,e0⟩,h2⟩ := h
 refine ⟨⟨i0,by omega,e0⟩,fun i hi=>?_⟩
 rcases Nat.lt_or_ge j i with z | z
 ·have e:i = j + 1:=by omega
  rw [e]
  omega
 ·exact h2 i z
section
variable {prog:Program} {w:World} {A:Around} {R:Result -> Shared -> Prop} {I S:Addr} {fp wr:List Addr} {n:Nat} {P:Nat -> Value -> Prop} {St:Nat -> Heap -> Prop} {val:Nat -> Int}
theorem Iq {a : Args} {s : Shared} (h : wpAny (model prog w) A.in1 (Builtin.«max.loop» a) (fun fin s' => match fin with
   | .done f=>R (.ok f) s'
   | .again c'=>c'.quiet = true /\ codeAny (model prog w) A c' R s') (fun e s'=>R (.error e) s') s):codeAny (model prog w) A (.builtin "max.loop" a) R s:=by
 refine codeAny_builtin F.entry_max_loop ?_; rw [Around.under_plainId F.plain_max_loop _]
 exact h
theorem Nk (W : Walks prog w A.in1 I fp wr n P St) (hv : ∀ i v, P i v -> ∃ t, v = .int (val i) t) (jV : S ∉ fp) (kw : List (Str × Value)) :
  ∀ (k j:Nat) (s:Shared) (m:Int) (t:Tok) (c:Nat),n = j + 1 + k -> St (j + 1) s.heap -> Ek val j m ->
  s.heap.get? S = some { cls := .type "list",dict:=none,data := .seq #[.int m t,.int m t] c,slots := #[] } ->
  (∀ m' t' h' tk,Ek val (n - 1) m' -> (∀ b o,b ∉ wr -> b ≠ S -> s.heap.get? b = some o -> h'.get? b = some o) -> R (.ok (.ret (.int m' t'))) { s with heap:=h',toks:=tk }) ->
  codeAny (model prog w) A (.builtin "max.loop" ⟨[.ref I,.none,.ref S],kw⟩) R s:=by
 have nj:S ∉ wr:=fun z=>jV (W.sub _ z)
 have nm:(toString "max" ++ toString ".loop" : String) = "max.loop" := by decide
 have hcmp:CmpOf prog w A.in1 .Gt P (fun i j=>decide (val i > val j)):=CmpOf.ints_gt val hv
 intro k
 induction k with
 | zero =>
  intro j s m t c hk ff gB hS hR
  refine Iq ?_
  refine wpAny_bind ( wpAny_seqItems hS rfl ?_)
  show wpAny (model prog w) A.in1 (tryCatch (pyNext (.ref I)) _ >>= _) _ _ s
  have ej:j + 1 = n:=by omega
  refine wpAny_bind (wpAny_tryCatch (W.done s _ _ (ej ▸ ff) fun h1 kB k1=>?_))
  have gQ:=k1 S _ nj hS
  show wpAny (model prog w) A.in1 (updateSeq S (fun _=>#[]) >>= _) _ _ _
  refine wpAny_bind ?_
  refine wpAny_updateSeq gQ rfl (wpAny_bind (wpAny_letGo (wpAny_pure ?_)))
  have e2:n - 1 = j:=by omega
  exact hR m t _ kB (e2 ▸ gB) fun b o z1 z2 e=>(Heap.get?_update_other _ _ (Ne.symm z2)).trans (k1 b o z1 e)
 | succ k ih =>
  intro j s m t c hk ff gB hS hR
  refine Iq ?_
  refine wpAny_bind ( wpAny_seqItems hS rfl ?_)
  show wpAny (model prog w) A.in1 (tryCatch (pyNext (.ref I)) _ >>= _) _ _ s
  refine wpAny_bind (wpAny_tryCatch (W.item (j + 1) s _ _ (by omega) ff fun v h1 kB hP jW k1=>?_))
  have gQ:=k1 S _ nj hS
  obtain ⟨t1,rfl⟩ := hv _ _ hP
  refine wpAny_bind (wpAny_pure ?_)
  refine wpAny_bind (wpAny_tryCatch (wpAny_holding (wpAny_bind ?_)))
  refine richCompare_gives (op := .Gt) (typeIs_int _ _ _) (typeIs_int _ _ _) F.slot_int_gt F.entry_int_gt (F.args_int_gt_2 _ _) (gives_int_gt _ _ _ _) (fun z=>nomatch z) ?_
  refine wpAny_bind (wpAny_holding (wpAny_truthy_bool ?_))
  refine wpAny_bind (wpAny_letGo (wpAny_pure ?_))
  by_cases hb:m < val (j + 1)
  ·have d1:decide (val (j + 1) > m) = true:=decide_eq_true hb
   simp only [d1,if_true]
   refine wpAny_bind ?_
   refine wpAny_updateSeq gQ rfl (wpAny_bind (wpAny_letGo ?_))
   rw [nm]
   refine wpAny_pure ⟨plainId_quiet F.plain_max_loop _,ih (j + 1) _ (val (j + 1)) _ _ (by omega) (W.frame _ _ _ jW fun b z o e=>?_) (gB.up hb) (Heap.get?_update_self _ gQ rfl) fun m2 t2 h2 ip top2 k2=>?_⟩
   ·exact (Heap.get?_update_other _ _ (fun y:S = b=>jV (by rw [y]; exact z))).trans e
   ·exact hR m2 t2 h2 ip top2 fun b o z1 z2 e=>k2 b o z1 z2 ((Heap.get?_update_other _ _ (Ne.symm z2)).trans (k1 b o z1 e))
  ·have d1:decide (val (j + 1) > m) = false:=decide_eq_false hb
   simp only [d1,Bool.false_eq_true,if_false]
   refine wpAny_bind (wpAny_letGo ?_)
   rw [nm]
   refine wpAny_pure ⟨plainId_quiet F.plain_max_loop _,ih (j + 1) _ m t c (by omega) jW (gB.same hb) gQ fun m2 t2 h2 ip top2 k2=>?_⟩
   exact hR m2 t2 h2 ip top2 fun b o z1 z2 e=>k2 b o z1 z2 (k1 b o z1 e)
theorem Jy (W : Walks prog w A.in1 I fp wr n P St) (hv : ∀ i v, P i v -> ∃ t, v = .int (val i) t) (jV : S ∉ fp) {dn : Str} {d : Value} {s : Shared} {c : Nat} (ff : St 0 s.heap)
  (hS:s.heap.get? S = some { cls := .type "list",dict:=none,data := .seq #[] c,slots := #[] })
  (h0:n = 0 -> ∀ h' tk,(∀ b o,b ∉ wr -> b ≠ S -> s.heap.get? b = some o -> h'.get? b = some o) -> R (.ok (.ret d)) { s with heap:=h',toks:=tk })
  (hR:0 < n -> ∀ m' t' h' tk,Ek val (n - 1) m' -> (∀ b o,b ∉ wr -> b ≠ S -> s.heap.get? b = some o -> h'.get? b = some o) -> R (.ok (.ret (.int m' t'))) { s with heap:=h',toks:=tk }) :
  codeAny (model prog w) A (.builtin "max.loop" ⟨[.ref I,.none,.ref S],[(dn,d)]⟩) R s:=by
 have nj:S ∉ wr:=fun z=>jV (W.sub _ z)
 have nm:(toString "max" ++ toString ".loop" : String) = "max.loop" := by decide
 refine Iq ?_
 refine wpAny_bind ( wpAny_seqItems hS rfl ?_)
 show wpAny (model prog w) A.in1 (tryCatch (pyNext (.ref I)) _ >>= _) _ _ s
 rcases Nat.eq_zero_or_pos n with z | z
 ·subst z
  refine wpAny_bind (wpAny_tryCatch (W.done s _ _ ff fun h1 kB k1=>?_))
  refine wpAny_bind (wpAny_rule (wpAny_pure ?_))
  exact h0 rfl h1 kB fun b o z1 _ e=>k1 b o z1 e
 ·refine wpAny_bind (wpAny_tryCatch (W.item 0 s _ _ z ff fun v h1 kB hP jW k1=>?_))
  have gQ:=k1 S _ nj hS
  obtain ⟨t1,rfl⟩ := hv _ _ hP
  show wpAny (model prog w) A.in1 (updateSeq S (fun _=>#[.int (val 0) t1,.int (val 0) t1]) >>= _) _ _ _
  refine wpAny_bind ?_
  refine wpAny_updateSeq gQ rfl ?_
  rw [nm]
  refine wpAny_pure ⟨plainId_quiet F.plain_max_loop _,Nk W hv jV _ (n - 1) 0 _ (val 0) _ _ (by omega) (W.frame _ _ _ jW fun b z o e=>?_) ⟨⟨0,Nat.le_refl _,rfl⟩,fun i hi=>?_⟩ (Heap.get?_update_self _ gQ rfl) fun m2 t2 h2 ip top2 k2=>?_⟩
  ·exact (Heap.get?_update_other _ _ (fun y:S = b=>jV (by rw [y]; exact z))).trans e
  ·have e:i = 0:=by omega
   rw [e]
   exact Int.le_refl _
  ·exact hR z m2 t2 h2 ip top2 fun b o z1 z2 e=>k2 b o z1 z2 ((Heap.get?_update_other _ _ (Ne.symm z2)).trans (k1 b o z1 e))
end
section
variable {prog:Program} {w:World} {A:Around} {E:Value -> Shared -> Prop} {s:Shared} {l:Addr}
theorem L8 {id : String} {b : Builtin} {args : Args} {Q : Value -> Shared -> Prop} (hk : builtinKind id = none) (hp : plainId id = true) (hb : entryFor table id = some b) (ha : argsOk id args)
  (hc:wpAny (model prog w) A.in1 (b args) (fun fin s'=>match fin with
   | .done f=>(match (Except.ok f:Result) with | .ok (.ret v)=>Q v s' | .ok _=>False | .error e=>E e s')
   | .again c'=>c'.quiet = true /\ codeAny (model prog w) A c' (fun r s'=>match r with | .ok (.ret v)=>Q v s' | .ok _=>False | .error e=>E e s') s') E s) :
  wpAny (model prog w) A (call (.builtin id) args.pos args.kw) Q E s:=by
 refine wpAny_call (codeAny_call_builtin hp hb ?_)
 simp only [checkBuiltinCall,hk]
 cases hs:Manifest.signature? id with
 | none=>exact wpAny_pure hc
 | some sg =>
  have h2:Bind.checkArgs id sg args = pure ():=by simpa only [argsOk,hs] using ha
  have h3:(⟨args.pos,args.kw⟩ : Args) = args:=rfl
  simp only [h3,h2]
  exact wpAny_pure hc
theorem L7 {xs : Array (Int × Tok)} {d : Value} {Q : Value -> Shared -> Prop} (hh : A.handled = none) (hl : s.heap.IsList l (intItems xs))
  (h0:xs.size = 0 -> ∀ h' tk,(∀ b o,s.heap.get? b = some o -> h'.get? b = some o) -> Q d { s with heap:=h',toks:=tk })
  (h1:0 < xs.size -> ∀ m t h' tk,Ek (numAt xs) (xs.size - 1) m -> (∀ b o,s.heap.get? b = some o -> h'.get? b = some o) -> Q (.int m t) { s with heap:=h',toks:=tk }) :
  wpAny (model prog w) A (call (.builtin "max") [.ref l] [(Str.ofString "default",d)]) Q E s:=by
 have nm:(toString "max" ++ toString ".loop" : String) = "max.loop" := by decide
 refine L8 (args:=⟨[.ref l],[(Str.ofString "default",d)]⟩) F.kind_max F.plain_max F.entry_max (L6 _ _) ?_
 show wpAny (model prog w) A.in1 (Builtin.Builtins.bindParams "max" ["key","default"] 0 ⟨[],[(Str.ofString "default",d)]⟩ >>= _) _ _ s
 refine wpAny_bind (wpAny_of_eq (show Builtin.Builtins.bindParams "max" ["key","default"] 0 ⟨[],[(Str.ofString "default",d)]⟩ = pure [none,some d] from ?_) ?_)
 ·kernel_rfl
 refine wpAny_bind (wpAny_pure ?_)
 refine wpAny_bind (iter_intList hl fun s2 e st fm hlI=>?_)
 subst e
 refine wpAny_bind (wpAny_newObj_type ?_)
 rw [nm]
 have hn:(intItems xs).size = xs.size:=by simp [intItems]
 refine wpAny_pure ⟨plainId_quiet F.plain_max_loop _,?_⟩
 have W:=Walks.list (prog:=prog) (w:=w) (A:=A.in1) hh _ l hlI (intItems xs)
 refine Jy (val:=numAt xs) W (fun _ _=>intItems_at) (fun hm=>Nat.lt_irrefl _ (fm _ hm)) (W.frame _ _ _ st fun b _ o e=>Heap.get?_push_of_some _ e) (Heap.get?_push_size _ rfl) (fun z h' tk k=>?_) fun z m t h' tk top k=>?_
 ·exact h0 (hn ▸ z) h' tk (old_kept fun b o zb e=>k b o zb (Nat.ne_of_lt (Heap.lt_size e)) (Heap.get?_push_of_some _ e))
 ·exact h1 (hn ▸ z) m t h' tk (hn ▸ top) (old_kept fun b o zb e=>k b o zb (Nat.ne_of_lt (Heap.lt_size e)) (Heap.get?_push_of_some _ e))
end
section
variable {X:Cx} {p pos kpos:Pos} {e d:Expr} {t:TA} {td:TE} {x:Str}
def R6 (K:PySem.W.Frag) (t:TA) (td:TE):TE:=fun σ H Q=>t σ H fun vs H1=>N5 td O8 σ H1 fun ys H2=>∃ (a:Addr) (ns:List Int) (dv:Int),vs = [.ref a] /\ ys = [.int dv] /\ As K H2 a (ns.map V.int) /\
 ∀ m:Int,(ns = [] -> m = dv) -> (ns ≠ [] -> m ∈ ns /\ ∀ b ∈ ns,b <= m) -> Q (.int m) H2
theorem J0 (hc : X.calm = true) (hg : Gl X x) (hm : X.mg x = none) (hv : bootBuiltins x = some (.builtin "max")) (ha : PA X [e] t) (hk : PE X d td) (hn : x ≠ "__name__" := by decide) (fg : (x == ("__debug__" : Str)) = false := by decide)
  (he:starEach [e] X.env = [(false,eval e X.env)]:=by rfl):PE X (.Call (.Name x p) [e] [⟨some "default",d,kpos⟩] pos) (R6 X.K t td):=by
 intro pins s σ H Q I h
 refine wpAny_Call_Name_kw (Ee I hg hm hv ?_ hn fg)
 refine callWith_kw (he:=by rw [he]; rfl) (hplain:=by rw [he]; rfl) (C8 (ha pos pins s σ H _ I h) fun us s1 aZ=>?_)
 obtain ⟨vs,H1,I1,r1,q1⟩ := aZ
 refine C8 (Nz (kpos:=kpos) (nm:=some "default") hk Pc pos pins s1 σ H1 _ I1 q1) fun ks s2 aZ=>?_
 obtain ⟨ys,H2,I2,r2,q2⟩ := aZ
 ·obtain ⟨a,ns,dv,rfl,rfl,hq,q⟩ := q2
  obtain ⟨u,rfl,ru⟩ := Gx r1
  cases ru
  obtain ⟨u2,rfl,ky⟩ := Gx r2
  obtain ⟨ag,rv,pl,hz⟩ := I2.list hq
  have hi:=K2 rv
  obtain ⟨ys,ey⟩ := hi.allInts.items
  have jU:ns = ys.toList.map (·.1):=by
   have e1:=hi.numsOf
   have e2:=nums_intItems ys
   rw [<- ey] at e2
   exact e1.symm.trans e2
  have hlen:ns.length = ys.size:=by rw [jU,List.length_map,Array.length_toList]
  have hl:=pl.isList
  rw [ey] at hl
  refine L7 (I2.ok.hd hc) hl (fun z h' tk hk=>?_) fun z m t h' tk top hk=>?_
  ·refine ⟨.int dv,H2,I2.kept hk,ky,q _ (fun _=>rfl) fun ne=>?_⟩
   rw [z] at hlen
   exact absurd (List.length_eq_zero_iff.mp hlen) ne
  ·refine ⟨.int m,H2,I2.kept hk,⟨t,rfl⟩,q _ (fun e0=>?_) fun _=>⟨?_,fun b hb=>?_⟩⟩
   ·rw [e0] at hlen
    rw [List.length_nil] at hlen
    omega
   ·obtain ⟨⟨i,hi',e0⟩,_⟩ := top
    rw [e0,jU,numAt_eq]
    exact getD_mem (by rw [List.length_map,Array.length_toList]; omega)
   ·rw [jU] at hb
    obtain ⟨j,hj,rfl⟩ := mem_getD hb
    rw [List.length_map,Array.length_toList] at hj
    rw [<- numAt_eq]
    exact top.2 j (by omega)
end
open PySem PySem.Spec PyProof.Rows PySem.SeqAt
def Oj (A:Around) (s:Shared) (x y:Value) (b:Bool):Prop := ∀ (prog:Program) (w:World) (E:Value -> Shared -> Prop) (Q:Value -> Shared -> Prop),Q (.bool b) s -> wpAny (model prog w) A (richCompare .Lt x y) Q E s
theorem Pn (l b : Addr) (xs ys : Array Value) (n n2 : Nat) (dd dd2 : Option Addr) (sl sl2 : Array (Option Value)) (e : Nat -> Bool) (r : Bool) :
  Meets (Builtin.«tuple.__lt__» ⟨[.ref l,.ref b],[]⟩)
   (fun A R s=>s.heap.get? l = some { cls := .type "tuple",dict:=dd,data := .seq xs n,slots:=sl } /\ s.heap.get? b = some { cls := .type "tuple",dict:=dd2,data := .seq ys n2,slots:=sl2 } /\
    (∀ j (h1:j < xs.size) (h2:j < ys.size),EqAt A.in1 s xs[j] ys[j] (e j)) /\ (∀ j (h1:j < xs.size) (h2:j < ys.size),(∀ i,i < j -> e i = true) -> e j = false -> Oj A.in1 s xs[j] ys[j] r) /\
    ((∀ j,j < min xs.size ys.size -> e j = true) -> r = decide (xs.size < ys.size)) /\ R (.ok (.ret (.bool r))) s) :=
 .of_wp fun prog w A R s h=>by
  obtain ⟨hp,g,d,tk,os⟩ := s
  obtain ⟨hl,hb,he,hf,hz,h⟩ := h
  have f2:=AutoSeq1.sub_tuple_tuple
  have hZ:(xs.toList.zip ys.toList).length = min xs.size ys.size:=by simp
  wp_walk using wpAny_loadPart' hl,wpAny_loadPart' hb,wpAny_forIn_list _ (fun rest b s'=>b.1 = none /\ s' = ⟨hp,g,d,tk,os⟩ /\ ∃ i,rest = (xs.toList.zip ys.toList).drop i /\ ∀ k,k < i -> k < min xs.size ys.size -> e k = true) _
  case turn =>
   rintro ⟨y,x⟩ rest b s' ⟨oq,rfl,i,hq,hR⟩
   have bD:i < (xs.toList.zip ys.toList).length:=by
    apply Classical.byContradiction
    intro z
    rw [List.drop_of_length_le (by omega)] at hq
    cases hq
   have h1:i < xs.size:=by omega
   have h2:i < ys.size:=by omega
   rw [List.drop_eq_getElem_cons bD] at hq
   injection hq with hyx kC
   have hy:y = xs[i]:=by simpa using congrArg Prod.fst hyx
   have hx:x = ys[i]:=by simpa using congrArg Prod.snd hyx
   subst hy hx
   refine wpAny_bind (he i h1 h2 prog w _ _ ?_)
   cases hy:e i with
   | true =>
    wp_walk
    refine ⟨rfl,rfl,i + 1,kC,fun k hk og=>?_⟩
    by_cases z:k = i
    ·rw [z]
     exact hy
    ·exact hR k (by omega) og
   | false =>
    have hl2:=hf i h1 h2 (fun k hk=>hR k hk (by omega)) hy prog w
    wp_walk using hl2 _ _
    exact ⟨_,rfl,h⟩
  case fin =>
   rintro ⟨b1,b2⟩ s' ⟨oq,rfl,i,hq,hR⟩
   simp only at oq
   subst oq
   have hge:min xs.size ys.size <= i:=by
    apply Classical.byContradiction
    intro z
    rw [List.drop_eq_getElem_cons (by omega)] at hq
    cases hq
   have hr:=hz fun j hj=>hR j (by omega) hj
   wp_walk
   refine ⟨_,rfl,?_⟩
   rw [hr] at h
   simpa [Builtin.Tuple.tupleCompareSizes] using h
  case h =>
   exact ⟨rfl,rfl,0,rfl,fun k hk=>absurd hk (Nat.not_lt_zero k)⟩
mutual
def Rj:PyData -> PyData -> Bool
 | .int a,.int b=>decide (a < b)
 | .tuple xs,.tuple ys=>aF xs ys
 | _,_=>false
def aF:List PyData -> List PyData -> Bool
 | [],[]=>false
 | [],_ :: _=>true
 | _ :: _,[]=>false
 | x :: xs,y :: ys=>if PyData.eqv x y then aF xs ys else Rj x y
end
mutual
def Oh:PyData -> PyData -> Prop
 | .int _,.int _=>True
 | .tuple xs,.tuple ys=>dh xs ys
 | _,_=>False
def dh:List PyData -> List PyData -> Prop
 | x :: xs,y :: ys=>Oh x y /\ dh xs ys
 | _,_=>True
end
theorem I8:∀ (xs ys:List PyData),(∀ j,j < min xs.length ys.length -> pairEq xs ys j = true) -> aF xs ys = decide (xs.length < ys.length)
 | [],[],_=>rfl
 | [],y :: ys,_=>by simp [aF]
 | x :: xs,[],_=>by simp [aF]
 | x :: xs,y :: ys,h=>by
  have h0:PyData.eqv x y = true:=h 0 (by simp only [List.length_cons]; omega)
  have ih:=I8 xs ys fun j hj=>h (j + 1) (by simp only [List.length_cons]; omega)
  rw [aF,if_pos h0,ih]
  simp
mutual
theorem Ml : ∀ (da db : PyData) (A : Around) (s : Shared) (a b : Value) (as bs : List Addr), Reads s.heap a da as -> Reads s.heap b db bs -> da.canLay0 = true -> db.canLay0 = true -> Oh da db ->
  A.units + min da.depth db.depth < cLine -> Oj A s a b (Rj da db)
 | .int x,db,A,s,_,_,_,_,ra,rb,_,_,hc,hu=>by
  cases db with
  | int y =>
   cases ra with
   | int _ t =>
    cases rb with
    | int _ u =>
     intro prog w E Q h
     exact richCompare_gives (op := .Lt) (typeIs_int s _ t) (typeIs_int s _ u) F.slot_int_lt F.entry_int_lt (F.args_int_lt_2 _ _) (gives_int_lt _ _ t u) (fun z=>nomatch z) h
  | none=>exact hc.elim
  | bool _=>exact hc.elim
  | str _=>exact hc.elim
  | list _=>exact hc.elim
  | tuple _=>exact hc.elim
  | dict _=>exact hc.elim
 | .tuple xs,db,A,s,_,_,_,_,ra,rb,ha,hb,hc,hu=>by
  cases db with
  | tuple ys =>
   cases ra with
   | @tuple l o vs n _ as₁ h1 h2 h3 h4 =>
    cases rb with
    | @tuple l' o' nk n' _ bs₁ k1 k2 k3 k4 =>
     obtain ⟨oc,od,odt,eY⟩ := o
     obtain ⟨oc',od',odt',ot⟩ := o'
     simp only at h2 h3 k2 k3
     subst h2 h3 k2 k3
     have n1:vs.size = xs.length:=by simpa using ReadsAll.length _ _ _ h4
     have n2:nk.size = ys.length:=by simpa using ReadsAll.length _ _ _ k4
     intro prog w E Q h
     refine richCompare_meets_room (op := .Lt) ⟨_,h1,rfl⟩ ⟨_,k1,rfl⟩ F.slot_tuple_lt F.entry_tuple_lt (F.args_tuple_lt_2 _ _) (Pn l l' vs nk n n' od od' eY ot (pairEq xs ys) (aF xs ys)) ⟨h1,k1,fun j j1 j2=>?_,fun j j1 j2 f1 f2=>?_,fun f=>?_,(fun z=>nomatch z),h⟩ (room_here hu)
     ·have:=eqAt_readsAll xs ys A.in1 s vs.toList nk.toList _ _ h4 k4 ha hb (room_in hu) j (by simpa using j1) (by simpa using j2)
      simpa using this
     ·have:=ck xs ys A.in1 s vs.toList nk.toList _ _ h4 k4 ha hb hc (room_in hu) j (by simpa using j1) (by simpa using j2) f1 f2
      simpa using this
     ·rw [n1,n2] at f ⊢
      exact I8 xs ys f
  | none=>exact hc.elim
  | bool _=>exact hc.elim
  | str _=>exact hc.elim
  | list _=>exact hc.elim
  | int _=>exact hc.elim
  | dict _=>exact hc.elim
 | .none,_,_,_,_,_,_,_,_,_,_,_,hc,_=>hc.elim
 | .bool _,_,_,_,_,_,_,_,_,_,_,_,hc,_=>hc.elim
 | .str _,_,_,_,_,_,_,_,_,_,_,_,hc,_=>hc.elim
 | .list _,_,_,_,_,_,_,_,_,_,_,_,hc,_=>hc.elim
 | .dict _,_,_,_,_,_,_,_,_,_,_,_,hc,_=>hc.elim
theorem ck : ∀ (xs ys : List PyData) (A : Around) (s : Shared) (vs ws : List Value) (as bs : List Addr), ReadsAll s.heap vs xs as -> ReadsAll s.heap ws ys bs -> PyData.canLayAll0 xs = true -> PyData.canLayAll0 ys = true -> dh xs ys ->
  A.units + min (PyData.depthAll xs) (PyData.depthAll ys) < cLine -> ∀ j (h1:j < vs.length) (h2:j < ws.length),(∀ i,i < j -> pairEq xs ys i = true) -> pairEq xs ys j = false -> Oj A s vs[j] ws[j] (aF xs ys)
 | [],_,_,_,_,_,_,_,ra,_,_,_,_,_,j,h1,_,_,_=>by cases ra; exact absurd h1 (Nat.not_lt_zero _)
 | _ :: _,[],_,_,_,_,_,_,_,rb,_,_,_,_,j,_,h2,_,_=>by cases rb; exact absurd h2 (Nat.not_lt_zero _)
 | x :: xs,y :: ys,A,s,_,_,_,_,ra,rb,ca,cb,hc,hu,j,h1,h2,f1,f2=>by
  cases ra with
  | cons r1 r2 =>
   cases rb with
   | cons q1 q2 =>
    have ca1:x.canLay0 = true /\ PyData.canLayAll0 xs = true:=by simpa [PyData.canLayAll0] using ca
    have cb1:y.canLay0 = true /\ PyData.canLayAll0 ys = true:=by simpa [PyData.canLayAll0] using cb
    have hd:A.units + min x.depth y.depth < cLine /\ A.units + min (PyData.depthAll xs) (PyData.depthAll ys) < cLine:=by
     simp only [PyData.depthAll] at hu
     omega
    cases j with
    | zero =>
     have e:aF (x :: xs) (y :: ys) = Rj x y:=by
      have f3:PyData.eqv x y = false:=f2
      rw [aF,f3]
      rfl
     rw [e]
     exact Ml x y A s _ _ _ _ r1 q1 ca1.1 cb1.1 hc.1 hd.1
    | succ j =>
     have e:aF (x :: xs) (y :: ys) = aF xs ys:=by
      have f3:PyData.eqv x y = true:=f1 0 (Nat.succ_pos _)
      rw [aF,f3]
      rfl
     rw [e]
     exact ck xs ys A s _ _ _ _ r2 q2 ca1.2 cb1.2 hc.2 hd.2 j (Nat.lt_of_succ_lt_succ h1) (Nat.lt_of_succ_lt_succ h2) (fun i hi=>f1 (i + 1) (Nat.succ_lt_succ hi)) f2
end
section
variable {X:Cx} {k:Nat}
def V1:R2:=fun x y H Q=>∃ d e:PyData,Rp H d x /\ Rp H e y /\ Oh d e /\ d.depth <= 60 /\ Q (.bl (Rj d e)) H
end
section
variable {X:Cx}
def Tn (K:PySem.W.Frag):R2:=fun x y H Q=>∃ a b xs ys,x = .ref a /\ y = .ref b /\ B6 K H a xs /\ H b = some (.tup ys) /\ ys ≠ [] /\ xs.length + ys.length <= sizeLine /\
 ∀ p H',A5 H H' -> H' p = some (.tup (xs ++ ys)) -> Q (.ref p) H'
end
def M2 (h:Heap) (a t:Addr) (i:Int):Prop := ∃ o,h.get? a = some o /\ o.cls = .type "reversed" /\ o.data = .fields #[.ref t,rawInt i]
section
variable {prog:Program} {w:World} {A:Around} {E:Value -> Shared -> Prop} {s:Shared}
theorem M2.ty {a t:Addr} {i:Int} (x:M2 s.heap a t i):s.TypeIs (.ref a) "reversed" := let ⟨o,ho,hc,_⟩ := x; ⟨o,ho,hc⟩
theorem M2.at {h h':Heap} {a t:Addr} {i:Int} (x:M2 h a t i) (e:∀ o,h.get? a = some o -> h'.get? a = some o):M2 h' a t i:=let ⟨o,ho,r⟩ := x; ⟨o,e _ ho,r⟩
end
def Sl (t:Addr) (i:Int):Obj:={ cls := .type "reversed",data := .fields #[.ref t,rawInt i] }
section
variable {prog:Program} {w:World} {A:Around} {E:Value -> Shared -> Prop} {s:Shared}
end
def Ud (K:PySem.W.Frag) (a:Addr) (xs:List V):It :=
 ⟨fun i H=>B6 K H a xs /\ i < xs.length,fun i H x H'=>H' = H /\ xs.reverse[i]? = some x,fun i H=>B6 K H a xs /\ xs.length <= i⟩
def Us (K:PySem.W.Frag) (ta:TA):TI:=fun σ H R=>ta σ H fun vs H1=>∃ t xs,vs = [.ref t] /\ B6 K H1 t xs /\ R (Ud K t xs) H1
section
variable {X:Cx} {tg:Expr}
end
section
variable {P:Program} {w:World} {A:Around} {E:Value -> Shared -> Prop} {s:Shared}
end
section
variable {X:Cx}
def Rr (K:PySem.W.Frag) (ta:TA):TE:=fun σ H Q=>ta σ H fun vs H1=>∃ l xs,vs = [.ref l] /\ As K H1 l xs /\ ∀ d,H1 d = none -> Q (.ref d) (upd H1 d (.tup xs.reverse))
end
section
variable {X:Cx}
end
section
variable {prog:Program} {w:World} {A:Around} {E:Value -> Shared -> Prop} {I:Addr} {fp wr:List Addr} {St:Nat -> Heap -> Prop} {items:Array Value}
end
section
variable {X:Cx} {pos:Pos}
def Up (K:PySem.W.Frag) (n:Nat) (t:Nd):TG:=fun v σ H Q=>∃ a xs,v = .ref a /\ As K H a xs /\ xs.length = n /\ t xs σ H Q
end
open PySem.W (Looks)
section
variable {prog:Program} {w:World} {A:Around} {E:Value -> Shared -> Prop} {K:PySem.W.Frag} {x C:Addr} {h:Heap} {g:Array GenState} {d:Drawn} {t:Nat} {os:OsState}
structure Px (K:PySem.W.Frag) (C:Addr):Prop where
 ga:PySem.W.findIn K (.ref C) "__getattribute__" = some (some (.builtin "BaseException.__getattribute__"))
 gt:PySem.W.findIn K (.ref C) "__getattr__" = some none
 cl:PySem.W.findIn K (.ref C) "__class__" = some (some (.builtin "object.__class__"))
 gs:PySem.W.specialIn K (.builtin "object.__class__") "__get__" = some (some (.builtin "getset_descriptor.__get__"))
 tk:PySem.W.takesIn K (.builtin "object.__class__") = some true
 ob:PySem.W.mroIn K C (.type "object") = some true
 be:PySem.W.subIn K (.ref C) (.type "BaseException") = some true
end
section
variable {X:Cx}
def Tr (K:PySem.W.Frag):List V -> Hp -> VK -> Prop:=fun xs H Q=>∃ (a C:Addr) (c:Value) (v:V) (b:Bool),xs = [.ref a,v] /\ H a = some (.ext (Gg a (.ref C))) /\ (∀ u,B1 v u -> u = c) /\ Px K C /\ PySem.W.kitOne K (.ref C) c = some b /\ Q (.bl b) H
end
open PySem.W (Looks)
section
variable {X:Cx}
def Uk (K:PySem.W.Frag) (tu:TS) (Y:Addr) (i:Nat) (D:Ez):St -> XK -> Prop:=fun σ1 E=>∀ cls H',E cls none H' -> ∃ C,cls = .ref C /\ PySem.W.subIn K (.ref C) (.ref Y) = some true /\ ∀ a,H' a = some (.ext (Gg a (.ref C))) ->
 tu { nx:=fun σ' H4=>D.nx (σ'.set i none) H4,rt:=fun _ _=>False } (σ1.set i (some (.ref a))) H'
def U7 (K:PySem.W.Frag) (tb:(St -> XK -> Prop) -> TS) (tu:TS) (Y:Addr) (i:Nat):TS:=fun D σ H=>tb (Uk K tu Y i D) D σ H
end
section
variable {X:Cx}
def U8 (i j:Int):Prop:=0 <= j /\ ((intBits i:Nat):Int) + j <= 2 ^ 27
end
section
variable {prog:Program} {w:World} {A:Around} {E:Value -> Shared -> Prop} {s:Shared} {l:Addr} {xs:Array (Int × Tok)}
end
section
variable {X:Cx}
end
section
variable {X:Cx}
def Tm (K:PySem.W.Frag):R2:=fun x y H Q=>∃ a b xs ys,x = .ref a /\ y = .ref b /\ H a = some (.tup xs) /\ H b = some (.tup ys) /\ xs.length + ys.length <= sizeLine /\
 ∀ p H',A5 H H' -> H' p = some (.tup (xs ++ ys)) -> Q (.ref p) H'
end
structure Vt (K:PySem.W.Frag) (C:Addr):Prop where
 makes:PySem.W.makesIn K C = true
 init:PySem.W.findIn K (.ref C) "__init__" = some (some (.builtin "object.__init__"))
 kp:PySem.W.keepIn K (.ref C) = true
def Sz (C:Addr):TE:=fun σ H Q=>∀ x dx,H x = none -> H dx = none -> dx ≠ x -> Q (.ref x) (upd (upd H dx (.own x)) x (.ins C dx []))
section
variable {X:Cx} {C:Addr} {x:Str} {p pos:Pos}
end
theorem Jc {fr : List Nat} {tt : TT} {te : TE} {σ : St} {D : Addr} {H1 : Hp} {Q : Hp -> Prop} {lo : Int} {cnt : Nat} (Pv : Nat -> List V -> Hp -> Prop) (h0 : Pv 0 [] (upd H1 D (.lst [])))
  (hs:∀ i ys H,i < cnt -> Pv i ys H -> tt (some (.int (lo + i)) :: Dy fr σ) H fun b H4 =>
   if b = true then te (some (.int (lo + i)) :: Dy fr σ) H4 fun v H5=>H5 D = some (.lst ys) /\ ys.length < sizeLine /\ Pv (i + 1) (ys ++ [v]) (upd H5 D (.lst (ys ++ [v]))) else Pv (i + 1) ys H4)
  (mt:∀ σ H Q Q',(∀ b H',Q b H' -> Q' b H') -> tt σ H Q -> tt σ H Q') (me:∀ σ H Q Q',(∀ v H',Q v H' -> Q' v H') -> te σ H Q -> te σ H Q')
  (hd:∀ ys H,Pv cnt ys H -> Q H):Eg 1 fr (Na lo cnt) (Ge 0) tt te σ D H1 Q:=by
 refine ⟨fun i m ys H=>m = cnt - i /\ i <= cnt /\ Pv i ys H,⟨cnt,by simp,Nat.zero_le _,h0⟩,?_⟩
 rintro i m ys H' ⟨rfl,hi,p⟩
 by_cases bD:i < cnt
 ·refine .inr ⟨bD,fun x H2 y=>?_⟩
  obtain ⟨e,y⟩ := y
  subst e y
  refine ⟨⟨[some (.int (lo + i))],rfl,rfl⟩,?_⟩
  refine mt _ _ _ _ ?_ (hs i ys _ bD p)
  intro b H4 q
  cases b with
  | false=>exact ⟨cnt - (i + 1),by omega,rfl,bD,q⟩
  | true=>exact me _ _ _ _ (fun v H5 ⟨r1,r2,r3⟩=>⟨r1,r2,cnt - (i + 1),by omega,rfl,bD,r3⟩) q
 ·have e:i = cnt:=by omega
  subst e
  exact .inl ⟨Nat.le_refl _,hd ys H' p⟩
section
variable {K:PySem.W.Frag} {x C:Addr}
end
section
variable {X:Cx}
def Tt (K:PySem.W.Frag):List V -> Hp -> VK -> Prop:=fun xs H Q=>∃ (a C tp:Addr) (as:List Addr) (b:Bool),xs = [.ref a,.ref tp] /\ H a = some (.ext (Gg a (.ref C))) /\ H tp = some (.tup (as.map V.ref)) /\ Px K C /\ Rz K C /\
 PySem.W.kitAny K (.ref C) (as.map Value.ref) = some b /\ Q (.bl b) H
end
section
variable {X:Cx}
def Rl (K:PySem.W.Frag):V -> List V -> Hp -> VK -> Prop:=fun x vs H Q=>∃ (l:Addr) (ns:List Int) (y:Int) (j:Nat),x = .ref l /\ vs = [.int y] /\ B6 K H l (ns.map V.int) /\ ns[j]? = some y /\ (∀ m,m < j -> ns[m]? ≠ some y) /\ Q (.int (j:Nat)) H
end
section
variable {X:Cx}
end
section
variable {X:Cx} {tg:Expr}
def Ti (ta:TA):TI:=fun σ H R=>ta σ H fun vs H1=>∃ i j:Int,vs = [.int i,.int j,.int (-1)] /\ (-(2 ^ 60) <= i /\ i < 2 ^ 60 /\ -(2 ^ 60) <= j /\ j < 2 ^ 60) /\ R (Tb i (-1) (i - j).toNat) H1
end
section
variable {X:Cx}
def Tv (K:PySem.W.Frag):V -> List V -> Hp -> VK -> Prop:=fun x xs H Q=>∃ (sep:Str) (a:Addr) (zs:List Str),x = .str sep /\ xs = [.ref a] /\ As K H a (zs.map V.str) /\ zs.length <= 500 /\ (∀ z ∈ zs,z.length <= 30000) /\ sep.length <= 500 /\ Q (.str (Txt.join sep zs)) H
def Ts (K:PySem.W.Frag):List V -> Hp -> VK -> Prop:=fun xs H Q=>∃ (a C dx:Addr) (fs:List (Str × V)) (c:Value) (v:V),xs = [.ref a,v] /\ H a = some (.ins C dx fs) /\ (∀ u,B1 v u -> u = c) /\ PySem.W.kitOne K (.ref C) c = some true /\ Q (.bl true) H
def To (K:PySem.W.Frag):R2:=fun x y H Q=>∃ a b xs ys,x = .ref a /\ y = .ref b /\ As K H a xs /\ As K H b ys /\ xs.length + ys.length <= sizeLine /\ ∀ p,H p = none -> Q (.ref p) (upd H p (.lst (xs ++ ys)))
theorem Bl {e:Expr} {t u:TE} (h:PE X e t) (g:PE X e u):PE X e (fun σ H Q=>t σ H Q \/ u σ H Q):=by
 intro pins s σ H Q I z
 rcases z with z | z
 ·exact h pins s σ H Q I z
 ·exact g pins s σ H Q I z
end
section
variable {X:Cx}
theorem Hq {e:Expr} {t:TE} (h:PE X e t):PE X e (fun σ H Q=>∃ N:VK,t σ H N /\ ∀ v H',N v H' -> Q v H'):=by
 intro pins s σ H Q I z
 obtain ⟨N,z,m⟩ := z
 refine C8 (h pins s σ H N I z) fun v s1 z1=>?_
 obtain ⟨x,H1,I1,r1,q1⟩ := z1
 exact ⟨x,H1,I1,r1,m _ _ q1⟩
end
section
variable {X:Cx}
def Rm:V -> List V -> Hp -> VK -> Prop:=fun x vs H Q=>∃ l xs i y,x = .ref l /\ vs = [.int i,y] /\ H l = some (.lst xs) /\ 0 <= i /\ i <= (xs.length:Int) /\ xs.length < sizeLine /\ Q .aA (upd H l (.lst (xs.take i.toNat ++ y :: xs.drop i.toNat)))
end
section
variable {κ:Type} [DecidableEq κ]
def Bb (f:Nat -> κ):Nat -> List κ
 | 0=>[]
 | i + 1=>if f i ∈ Bb f i then Bb f i else Bb f i ++ [f i]
theorem Gj (f:Nat -> κ):∀ i,(Bb f i).length <= i
 | 0=>Nat.le_refl _
 | i + 1=>by
  have ih:=Gj f i
  unfold Bb
  split
  ·omega
  ·rw [List.length_append,List.length_singleton]
   omega
theorem Ji (f:Nat -> κ) (i:Nat):(fun k=>decide (k ∈ Bb f i) || decide (k = f i)) = fun k=>decide (k ∈ Bb f (i + 1)):=by
 funext k
 show _ = decide (k ∈ if f i ∈ Bb f i then Bb f i else Bb f i ++ [f i])
 by_cases h:f i ∈ Bb f i
 ·rw [if_pos h]
  by_cases e:k = f i
  ·subst e
   simp [h]
  ·simp [e]
 ·rw [if_neg h]
  simp [List.mem_append]
theorem Lg (f:Nat -> κ) (i:Nat):(if decide (f i ∈ Bb f i) = true then (Bb f i).length else (Bb f i).length + 1) = (Bb f (i + 1)).length:=by
 show _ = (if f i ∈ Bb f i then Bb f i else Bb f i ++ [f i]).length
 by_cases h:f i ∈ Bb f i
 ·rw [if_pos h,if_pos (decide_eq_true h)]
 ·rw [if_neg h,if_neg (by simpa using h),List.length_append,List.length_singleton]
theorem Jk {f:Nat -> κ} {k:κ}:∀ {i:Nat},k ∈ Bb f i ↔ ∃ j,j < i /\ f j = k
 | 0=>⟨(fun h=>by cases h),fun ⟨j,h,_⟩=>absurd h (Nat.not_lt_zero _)⟩
 | i + 1=>by
  have ih:=Jk (f:=f) (k:=k) (i:=i)
  have e:k ∈ Bb f (i + 1) ↔ k ∈ Bb f i \/ k = f i:=by
   have this:(decide (k ∈ Bb f i) || decide (k = f i)) = decide (k ∈ Bb f (i + 1)):=congrFun (Ji f i) k
   constructor
   ·intro h
    rw [decide_eq_true h] at this
    simpa using this
   ·intro h
    apply of_decide_eq_true
    rw [<- this]
    simpa using h
  rw [e,ih]
  constructor
  ·rintro (⟨j,h1,h2⟩ | h)
   ·exact ⟨j,by omega,h2⟩
   ·exact ⟨i,by omega,h.symm⟩
  ·rintro ⟨j,h1,h2⟩
   by_cases z:j = i
   ·exact .inr (by rw [<- h2,z])
   ·exact .inl ⟨j,by omega,h2⟩
theorem Jj {f:Nat -> κ}:∀ {n:Nat},(∀ i j,i < j -> j < n -> f i ≠ f j) -> (Bb f n).length = n
 | 0,_=>rfl
 | n + 1,h=>by
  have hn:f n ∉ Bb f n:=fun z=>by
   obtain ⟨j,h1,h2⟩ := Jk.mp z
   exact h j n h1 (by omega) h2
  show (if f n ∈ Bb f n then Bb f n else Bb f n ++ [f n]).length = n + 1
  rw [if_neg hn,List.length_append,List.length_singleton,Jj fun i j h1 h2=>h i j h1 (by omega)]
end
section
variable {P:Program} {w:World} {A:Around} {R:Result -> Shared -> Prop} {κ:Type} [DecidableEq κ] {knd:KeyKind P w κ}
theorem Jn {h h':Heap} {S:Addr} {F:κ -> Bool} {n:Nat} (g:h.SetOf knd S F n) (keep:∀ o,h.get? S = some o -> h'.get? S = some o):h'.SetOf knd S F n:=by
 obtain ⟨o,es,ep,t,ho,more⟩ := g
 exact ⟨o,es,ep,t,keep _ ho,more⟩
theorem Nr {I S : Addr} {fp wr : List Addr} {G : Array GenState -> Array GenState -> Prop} {n : Nat} {Pr : Nat -> Value -> Prop} {St : Nat -> Shared -> Prop} (W : WalksS P w A.in1 I fp wr G n Pr St) (out : S ∉ fp) {f : Nat -> κ} (hf : ∀ i v, Pr i v -> knd.is (f i) v = true /\ v.scannable = true) (ou : n + 1 < scanBound) :
  ∀ (m i:Nat) (s:Shared),n = i + m -> St i s -> s.heap.SetOf knd S (fun k=>decide (k ∈ Bb f i)) (Bb f i).length ->
   (∀ z,Moved (S :: wr) G s z -> z.heap.SetOf knd S (fun k=>decide (k ∈ Bb f n)) (Bb f n).length -> R (.ok (.ret .none)) z) -> codeAny (model P w) A (.builtin "set.update.loop" ⟨[.ref S,.ref I],[]⟩) R s:=by
 have kD:S ∉ wr:=fun z=>out (W.sub _ z)
 have wide:∀ b ∈ wr,b ∈ S :: wr:=fun b z=>List.mem_cons_of_mem _ z
 intro m
 induction m with
 | zero =>
  intro i s e st g q
  obtain rfl:n = i:=by omega
  refine codeAny_builtin PyProof.Rows.F.entry_set_update_loop ?_
  rw [Around.under_plainId PyProof.Rows.F.plain_set_update_loop _]
  show wpAny _ A.in1 (pyNext (.ref I) >>= _) _ _ s
  refine wpAny_bind (W.done s _ _ st fun z mv=>?_)
  show wpAny _ A.in1 (ret Value.none) _ _ z
  exact wpAny_pure (q z (mv.mono wide) (Jn g fun o ho=>mv.heap S o kD ho))
 | succ m ih =>
  intro i s e st g q
  refine codeAny_builtin PyProof.Rows.F.entry_set_update_loop ?_
  rw [Around.under_plainId PyProof.Rows.F.plain_set_update_loop _]
  show wpAny _ A.in1 (pyNext (.ref I) >>= _) _ _ s
  refine wpAny_bind (W.item i s _ _ (by omega) st fun v z pr jW mv=>?_)
  obtain ⟨hk,gP⟩ := hf i v pr
  have g1:=Jn g fun o ho=>mv.heap S o kD ho
  show wpAny _ A.in1 (holding [v] (setAdd S v) >>= _) _ _ z
  refine wpAny_bind (wpAny_holding ?_)
  unfold setAdd
  refine wpAny_holding (wpAny_bind (knd.pyHash hk ?_))
  have room:(Bb f i).length + 1 < scanBound:=by
   have:=Gj f i
   omega
  refine wpAny_setAddHashed_of (s:={ z with toks:=z.toks + 1 }) hk gP g1 room fun h2 sb g2=>?_
  rw [Ji f i,Lg f i] at g2
  refine wpAny_pure ⟨plainId_quiet PyProof.Rows.F.plain_set_update_loop _,ih (i + 1) _ (by omega) (W.frame _ z _ _ jW (Nat.le_succ _) fun b hb o ho=>?_) g2 fun y my gy=>?_⟩
  ·rw [sb.2 b (fun eb:b = S=>out (by rw [<- eb]; exact hb))]
   exact ho
  ·refine q y (Moved.trans W.gtrans ((mv.mono wide).then_heap (Nat.le_succ _) fun b o hb ho=>?_) my) gy
   rw [sb.2 b (fun eb:b = S=>hb (by rw [eb]; exact List.mem_cons_self))]
   exact ho
end
section
variable {P:Program} {w:World} {A:Around} {E:Value -> Shared -> Prop} {s:Shared} {κ:Type} [DecidableEq κ] {knd:KeyKind P w κ}
abbrev E2 (led:Bool):Obj:={ cls := .type "set",dict:=none,data := .set #[] 0 (.fresh 0 0 led) }
theorem Nj {l : Addr} {items : Array Value} {f : Nat -> κ} {Q : Value -> Shared -> Prop} (no : A.handled = none) (hl : s.heap.IsList l items) (hf : ∀ i v, items[i]? = some v -> knd.is (f i) v = true /\ v.scannable = true) (ou : items.size + 1 < scanBound)
  (q:∀ (h2:Heap) (tk:Nat),h2.SetOf knd s.heap.objs.size (fun k=>decide (k ∈ Bb f items.size)) (Bb f items.size).length -> (∀ b o,b < s.heap.objs.size -> s.heap.get? b = some o -> h2.get? b = some o) -> Q (.ref s.heap.objs.size) { s with heap:=h2,toks:=tk }) :
  wpAny (model P w) A (call (.type "set") [.ref l]) Q E s:=by
 have mr:=PySem.F.called_set.mro
 obtain ⟨cc,tl,mr⟩ := mr
 have md:=PySem.F.called_set.made
 have sb:=PySem.F.called_set.sub
 refine wpAny_call (codeAny_of_tree ?_)
 show wpAny _ _ (callAny (.type "set") _) _ _ _
 refine wpAny_pure (And.intro (Code.quiet_builtin _ (by decide +kernel)) (codeAny_builtin PySem.F.entry_type_call ?_))
 rw [Around.under_plain (weight_type_call_type "set" [.ref l] []) rfl]
 have nt:=PySem.F.called_set.notType
 have cn:=PySem.F.called_set.canCreate
 have tc:=PySem.F.typeCall_set_1 (.ref l)
 repeat (any_goals (first | wp_step | assumption))
 refine codeAny_mono (code_set_new_1 (.ref l) (E:=E) (Q₁:=fun x z=>∃ led:Bool,x = .ref s.heap.objs.size /\ z = { s with heap:=s.heap.push (E2 led) }) fun led=>⟨led,rfl,rfl⟩) fun r z hr=>?_
 cases r with
 | error e=>exact hr
 | ok fl =>
  cases fl with
  | ret x =>
   obtain ⟨led,rfl,rfl⟩ := hr
   have ne:(s.heap.push (E2 led)).get? s.heap.objs.size = some (E2 led):=Heap.get?_push_size _ rfl
   have ty:Shared.TypeIs { s with heap:=s.heap.push (E2 led) } (.ref s.heap.objs.size) "set" := ⟨_,ne,rfl⟩
   have li:=PySem.F.called_set.init.lookup
   have bi:=PySem.F.called_set.init.bind (.ref s.heap.objs.size)
   repeat (any_goals (first | wp_step | assumption))
   refine codeAny_mono (codeAny_call_builtin (R:=wants (fun r y=>r = .none /\ ∃ h2 tk,y = { s with heap:=h2,toks:=tk } /\ h2.SetOf knd s.heap.objs.size (fun k=>decide (k ∈ Bb f items.size)) (Bb f items.size).length /\ ∀ b o,b < s.heap.objs.size -> s.heap.get? b = some o -> h2.get? b = some o) E) PySem.F.called_set.init.plain PySem.F.entry_set_init (check_set_init_1 ty ?_)) fun r2 y hy=>?_
   ·obtain ⟨⟨c0,d0,dt0,sl0⟩,ho,hc,k0,hd⟩ := hl
    simp only at hc hd
    subst hc hd
    have ho1:(s.heap.push (E2 led)).get? l = some { cls := .type "list",dict:=d0,data := .seq items k0,slots:=sl0 }:=Heap.get?_push_of_some _ ho
    have n1:=PySem.F.sub_list_set
    have n2:=PySem.F.sub_list_frozenset
    have n3:(Value.type "list" == Value.type "dict") = false:=by decide
    have il:(s.heap.push (E2 led)).IsList l items:=⟨_,ho1,rfl,k0,rfl⟩
    have ll:l < s.heap.objs.size:=Heap.lt_size ho
    unfold Builtin.«set.__init__» noKeywords Builtin.Frozenset.updateFrom
    generalize hit:pyIter = it
    wp_walk
    subst hit
    refine wpAny_pyIter_list il (wpAny_bind (wpAny_runValue ?_))
    have no3:A.in1.in1.in1.handled = none:=by simp [no]
    have sz:(s.heap.push (E2 led)).objs.size = s.heap.objs.size + 1:=Heap.size_push ..
    refine Nr (knd:=knd) (f:=f) ((Walks.list no3 _ l (by rw [sz]; exact Nat.ne_of_lt (Nat.lt_succ_of_lt ll)) items).toS) (S:=s.heap.objs.size) (fun z=>by rcases List.mem_cons.mp z with e | e; exact absurd e (by rw [sz]; exact Nat.ne_of_lt (Nat.lt_succ_self _)); exact absurd (List.mem_singleton.mp e) (Nat.ne_of_gt ll)) hf ou items.size 0 _ (by omega) ⟨⟨_,Heap.get?_push_size _ rfl,rfl,rfl⟩,(il.push _)⟩ ?_ fun z mv g=>?_
    ·have e0 : (fun k => decide (k ∈ Bb f 0)) = fun _ => false := by
      funext k
      simp [Bb]
     have hg:((s.heap.push (E2 led)).push { cls := .type "list_iterator",data := .fields #[.ref l,.int 0 0] }).get? s.heap.objs.size = some (E2 led):=Heap.get?_push_of_some _ ne
     rw [e0]
     exact (PyProof.Rows.setObjOf_fresh (knd:=knd) led).setOf hg (by unfold scanBound; omega)
    ·obtain ⟨h2,g2,dr,tk,os⟩ := z
     obtain rfl:g2 = s.gens:=mv.gens
     obtain rfl:dr = s.drawn:=mv.drawn
     obtain rfl:os = s.os:=mv.os
     show wpAny _ _ _ _ _ _
     refine wpAny_pure ?_
     show wpAny _ _ (ret Value.none) _ _ _
     refine wpAny_pure ⟨rfl,h2,tk,rfl,g,fun b o hb e=>mv.heap b o (fun z=>?_) (Heap.get?_push_of_some _ (Heap.get?_push_of_some _ e))⟩
     rcases List.mem_cons.mp z with y | y
     ·exact absurd y (Nat.ne_of_lt hb)
     ·exact absurd (List.mem_singleton.mp y) (by rw [sz]; exact Nat.ne_of_lt (Nat.lt_succ_of_lt hb))
   ·cases r2 with
    | error e=>exact hy
    | ok f2 =>
     cases f2 with
     | ret r =>
      obtain ⟨rfl,h2,tk,rfl,g,kp⟩ := hy
      repeat (any_goals (first | wp_step | assumption))
      exact q _ _ g kp
     | _=>exact hy.elim
  | _=>exact hr.elim
end
section
variable {X:Cx}
def Eo (ss:List Str) (i:Nat):Str:=ss.getD i ""
def O7 (K:PySem.W.Frag) (ta:TA):TE:=fun σ H Q=>ta σ H fun vs H1=>∃ (l:Addr) (ss:List Str),vs = [.ref l] /\ As K H1 l (ss.map V.str) /\ ss.length <= 1000 /\ Q (.int ((Bb (Eo ss) ss.length).length:Nat)) H1
theorem Pl {ss:List Str} {ag:List Value} (r:Ao (ss.map V.str) ag) {i:Nat} {v:Value} (h:ag[i]? = some v):∃ t,v = .str (Eo ss i) t:=by
 have hi:=(List.getElem?_eq_some_iff.mp h).1
 have hl:=r.length
 rw [List.length_map] at hl
 have e:(ss.map V.str)[i]? = some (.str (Eo ss i)):=by
  rw [List.getElem?_map,List.getElem?_eq_getElem (by omega)]
  show some (V.str _) = some (V.str (ss.getD i ""))
  rw [List.getD_eq_getElem?_getD,List.getElem?_eq_getElem (by omega)]
  rfl
 obtain ⟨u,hu,ru⟩ := r.get e
 rw [h] at hu
 cases hu
 exact ru
theorem Ll {a : Expr} {ta : TA} {p p2 pos fq : Pos} (hc : X.calm = true) (hg : Gl X "len") (hm : X.mg "len" = none) (hg2 : Gl X "set") (hm2 : X.mg "set" = none) (ha : PA X [a] ta)
  (hs:starEach [a] X.env = [(false,eval a X.env)]:=by rfl) (gO:starEach [Expr.Call (.Name "set" p2) [a] [] fq] X.env = [(false,eval (.Call (.Name "set" p2) [a] [] fq) X.env)]:=by rfl) :
  PE X (.Call (.Name "len" p) [.Call (.Name "set" p2) [a] [] fq] [] pos) (O7 X.K ta):=by
 intro pins s σ H Q I h
 refine wpAny_Call_Name_kw (Ee I hg hm PySem.boot_len (PyProof.Rows.callWith_builtin1 ?_ gO rfl))
 rw [gO]
 show wpAny _ _ (spliced ((false,eval (.Call (.Name "set" p2) [a] [] fq) X.env) :: [])) _ _ s
 refine Calls.spliced_cons (wpAny_Call_Name_kw (Ee I hg2 hm2 PyProof.Rows.boot_set (PyProof.Rows.callWith_type1 (C8 (ha fq pins s σ H _ I h) fun us s1 ⟨vs,H1,I1,r1,q1⟩=>?_) hs rfl)))
 obtain ⟨l,ss,e,hq,ou,q⟩ := q1
 subst e
 obtain ⟨u1,rfl,gA⟩ := Gx r1
 cases gA
 obtain ⟨ag,rv,pl,hz⟩ := I1.list hq
 have hlen:=rv.length
 rw [List.length_map] at hlen
 refine Nj (knd:=strKind X.prog X.w) (f:=Eo ss) (I1.ok.hd hc) pl.isList (fun i v hv=>?_) (by rw [List.size_toArray]; unfold scanBound; omega) fun h2 tk g kp=>?_
 ·obtain ⟨t,rfl⟩ := Pl rv (by rw [<- List.getElem?_toArray]; exact hv)
  exact ⟨strKind_is _ _ _ _,rfl⟩
 refine Calls.spliced_nil ?_
 have e3:ag.toArray.size = ss.length:=by rw [List.size_toArray,hlen]
 rw [e3] at g
 obtain ⟨o,es,ep,tb,ho,hex,hd,_,_,_,ow,hn⟩ := g
 have hml:=Gj (Eo ss) ss.length
 have I2:Ae X pins σ H1 { s1 with heap:=h2,toks:=tk }:=I1.kept (t':=tk) fun b o e=>kp b o (Heap.lt_size e) e
 refine call_len_set (s:={ s1 with heap:=h2,toks:=tk }) ho hex hd ow (by omega) ?_
 refine ⟨.int ((Bb (Eo ss) ss.length).length:Nat),H1,I2.tok _,⟨tk + 1,by rw [hn]⟩,q⟩
end
end L2
namespace Law
local macro_rules | `(tactic| ac_rfl) => `(tactic| first | exact ⟨rfl,rfl,rfl,by decide +kernel,rfl,by decide +kernel,by decide +kernel⟩ | exact ⟨rfl,by decide +kernel,by decide +kernel,by decide +kernel,by decide +kernel⟩)
local macro_rules | `(tactic| omega) => `(tactic| lia)
open PySem L2 PyProof.Rows
open PySem.Builtin.Int (intBits)
def top (i:Nat):Stmt:=PySem.Challenge.pw_roundcall_k67_whole_nests_reach_all.main.body.getD i (.Pass ⟨0,0,0,0⟩)
abbrev Ic:Stmt:=top 5
abbrev Ib:Stmt:=top 6
abbrev Lo:Stmt:=top 7
abbrev Lm:Stmt:=top 8
abbrev Lr:Stmt:=top 11
abbrev Ln:Stmt:=D2 (top 13) 0
abbrev Lq:Stmt:=D2 (top 13) 1
abbrev Ia:Stmt:=D2 (top 13) 2
abbrev I9:Stmt:=D2 (top 13) 3
abbrev Hr:Stmt:=D2 (top 14) 3
abbrev F7:Stmt:=D2 (top 14) 2
abbrev Kb:Stmt:=D2 (top 14) 0
abbrev J1:Stmt:=D2 (top 14) 1
abbrev Lp:Stmt:=top 16
abbrev Kc:Stmt:=top 17
abbrev El:Stmt:=top 18
abbrev Em:Stmt:=top 19
abbrev F8:Stmt:=top 20
abbrev Ef:Stmt:=top 21
theorem Kd:B0 (["wheel","turn","number","row"]:List Str) ["wheel","turn"] (A7 Ic):=by ac_rfl
theorem Pj:B0 (["wheel","who"]:List Str) ["wheel","who"] (A7 Ib):=by ac_rfl
theorem Qu:B0 (["row","turn"]:List Str) ["row","turn"] (A7 Lo):=by ac_rfl
theorem Oe:B0 (["wheel","who","begin","end","row"]:List Str) ["wheel","who","begin","end"] (A7 Lm):=by ac_rfl
theorem Qx:B0 (["names"]:List Str) ["names"] (A7 Lr):=by ac_rfl
theorem Qt:B0 (["self","name"]:List Str) ["self","name"] (A7 Ln):=by ac_rfl
theorem Qw:B0 (["self","turn"]:List Str) ["self","turn"] (A7 Lq):=by ac_rfl
theorem Ph:B0 (["self"]:List Str) ["self"] (A7 Ia):=by ac_rfl
theorem Pg:B0 (["self"]:List Str) ["self"] (A7 I9):=by ac_rfl
theorem Ky:B0 (["self"]:List Str) ["self"] (A7 Hr):=by ac_rfl
def G0:Scope:={ kind := .function,names:=[(PySem.Str.ofString ".0",NameKind.local),(PySem.Str.ofString "part",NameKind.local)],isGenerator:=false,isCoroutine:=false,more:=[] }
theorem Cg:D5 (A7 Hr) G0 (["self"]:List Str) (["part"]:List Str) []:=by ac_rfl
theorem Ch:(Ba (["self"]:List Str) (["part"]:List Str) []).Nodup:=by decide +kernel
theorem Bc:B0 (["self","told","part","place","name","period","first"]:List Str) ["self"] (A7 F7):=by ac_rfl
theorem Qs:B0 (["self","wheel","parts"]:List Str) ["self","wheel","parts"] (A7 Kb):=by ac_rfl
def Eu:Scope:={ kind := .function,names:=[(PySem.Str.ofString ".0",NameKind.local),(PySem.Str.ofString "row",NameKind.local)],isGenerator:=false,isCoroutine:=false,more:=[] }
theorem Et:D5 (A7 Kb) Eu (["self","wheel","parts"]:List Str) (["row"]:List Str) []:=by ac_rfl
theorem Ev:(Ba (["self","wheel","parts"]:List Str) (["row"]:List Str) []).Nodup:=by decide +kernel
theorem Gu:B0 (["self","turn","number"]:List Str) ["self","turn"] (A7 J1):=by ac_rfl
theorem Qv:B0 (["script","k"]:List Str) ["script","k"] (A7 Lp):=by ac_rfl
theorem F9:B0 (["cell","many","rows","base","k","times","place","taken"]:List Str) ["cell","many"] (A7 Kc):=by ac_rfl
def F2:Scope:={ kind := .function,names:=[(PySem.Str.ofString ".0",NameKind.local),(PySem.Str.ofString "row",NameKind.local),(PySem.Str.ofString "base",NameKind.free)],isGenerator:=false,isCoroutine:=false,more:=[] }
theorem F1:D5 (A7 Kc) F2 (["cell","many","rows","base","k","times","place","taken"]:List Str) (["row"]:List Str) [3]:=by ac_rfl
theorem F4:(Ba (["cell","many","rows","base","k","times","place","taken"]:List Str) (["row"]:List Str) [3]).Nodup:=by decide +kernel
theorem C4:B0 (["script","deep","at","cell","many","wheel"]:List Str) ["script","deep","at"] (A7 El):=by ac_rfl
def Hb:Scope:={ kind := .function,names:=[(PySem.Str.ofString ".0",NameKind.local),(PySem.Str.ofString "k",NameKind.local),(PySem.Str.ofString "_law_nest",NameKind.globalImplicit),(PySem.Str.ofString "at",NameKind.free),(PySem.Str.ofString "deep",NameKind.free),(PySem.Str.ofString "script",NameKind.free)],isGenerator:=false,isCoroutine:=false,more:=[] }
theorem D8:D5 (A7 El) Hb (["script","deep","at","cell","many","wheel"]:List Str) (["k"]:List Str) [0,1,2]:=by ac_rfl
theorem Da:(Ba (["script","deep","at","cell","many","wheel"]:List Str) (["k"]:List Str) [0,1,2]).Nodup:=by decide +kernel
theorem J2:B0 (["tree"]:List Str) ["tree"] (A7 Em):=by ac_rfl
def Hc:Scope:={ kind := .function,names:=[(PySem.Str.ofString ".0",NameKind.local),(PySem.Str.ofString "part",NameKind.local),(PySem.Str.ofString "_law_part",NameKind.globalImplicit)],isGenerator:=false,isCoroutine:=false,more:=[] }
theorem D9:D5 (A7 Em) Hc (["tree"]:List Str) (["part"]:List Str) []:=by ac_rfl
theorem Db:(Ba (["tree"]:List Str) (["part"]:List Str) []).Nodup:=by decide +kernel
theorem Bd:B0 (["tree","rows","row","part","name","period","first"]:List Str) ["tree"] (A7 F8):=by ac_rfl
theorem E8:B0 (["script","tree","nest","begin","told","name","period","first","turns"]:List Str) ["script"] (A7 Ef):=by ac_rfl
def M5:Scope:={ kind := .function,names:=[(PySem.Str.ofString ".0",NameKind.local),(PySem.Str.ofString "k",NameKind.local),(PySem.Str.ofString "begin",NameKind.free),(PySem.Str.ofString "nest",NameKind.free)],isGenerator:=false,isCoroutine:=false,more:=[] }
theorem M3:D5 (A7 Ef) M5 (["script","tree","nest","begin","told","name","period","first","turns"]:List Str) (["k"]:List Str) [2,3]:=by ac_rfl
theorem Mo:(Ba (["script","tree","nest","begin","told","name","period","first","turns"]:List Str) (["k"]:List Str) [2,3]).Nodup:=by decide +kernel
def M6:Scope:={ kind := .function,names:=[(PySem.Str.ofString ".0",NameKind.local),(PySem.Str.ofString "k",NameKind.local),(PySem.Str.ofString "begin",NameKind.free),(PySem.Str.ofString "name",NameKind.free),(PySem.Str.ofString "told",NameKind.free)],isGenerator:=false,isCoroutine:=false,more:=[] }
theorem M4:D5 (A7 Ef) M6 (["script","tree","nest","begin","told","name","period","first","turns"]:List Str) (["k"]:List Str) [3,5,4]:=by ac_rfl
theorem Mp:(Ba (["script","tree","nest","begin","told","name","period","first","turns"]:List Str) (["k"]:List Str) [3,5,4]).Nodup:=by decide +kernel
set_option genInjectivity false in
set_option genSizeOf false in
structure T9 where
 aV:Addr
 bE:Addr
 cU:Addr
 c6:Addr
 cV:Addr
 c7:Addr
 bL:Addr
 aW:Addr
 aX:Addr
 b3:Addr
 aB:Addr
 c8:Addr
 b4:Addr
 bM:Addr
 c9:Addr
 aC:Addr
 aD:Addr
 aE:Addr
 cm:Addr
structure Txt (K:PySem.W.Frag) (mg:Str -> Option Value) (ad:T9) (a8 a7:Addr):Prop where
 ft:mg "heard" = some (.ref ad.aV)
 k_x17:PySem.W.keepIn K (.ref ad.aV) = true
 kE:mg "row_of" = some (.ref ad.bE)
 k_x16:PySem.W.keepIn K (.ref ad.bE) = true
 kF:mg "times_ahead" = some (.ref ad.cU)
 k_x4:PySem.W.keepIn K (.ref ad.cU) = true
 f7:mg "called_times" = some (.ref ad.c6)
 k_x1:PySem.W.keepIn K (.ref ad.c6) = true
 ox:mg "any_twice" = some (.ref ad.cV)
 k_x9:PySem.W.keepIn K (.ref ad.cV) = true
 fu:mg "_law_cell_at" = some (.ref ad.bM)
 k_x6:PySem.W.keepIn K (.ref ad.bM) = true
 ix:mg "_law_wheel_by" = some (.ref ad.c9)
 k_x3:PySem.W.keepIn K (.ref ad.c9) = true
 eM:mg "_law_nest" = some (.ref ad.aC)
 k_x13:PySem.W.keepIn K (.ref ad.aC) = true
 eO:mg "_law_part" = some (.ref ad.aD)
 k_x14:PySem.W.keepIn K (.ref ad.aD) = true
 eP:mg "_law_rows" = some (.ref ad.aE)
 k_x15:PySem.W.keepIn K (.ref ad.aE) = true
 m_law:mg "law" = some (.ref ad.cm)
 k_law:PySem.W.keepIn K (.ref ad.cm) = true
 dS:mg "enumerate" = none
 cG:mg "len" = none
 kG:mg "set" = none
 cH:mg "list" = none
 d7:mg "zip" = none
 fv:mg "max" = none
 bC:mg "range" = none
 eQ:mg "str" = none
 di:∃ t,mg "MOST_DEPTH" = some (.int 8 t)
 eR:mg "One" = some (.ref a8)
 eB:mg "Many" = some (.ref a7)
 aG:Ko K a8
 dj:Mk K a8 ad.c7
 gC:Ik K a8 "called" ad.bL
 fw:Ik K a8 "rows" ad.aW
 fz:Ik K a8 "depth" ad.aX
 bf:D6 K a8 "name"
 a9:Ko K a7
 dk:Mk K a7 ad.c8
 gD:Ik K a7 "called" ad.b4
 eS:Ik K a7 "rows" ad.aB
 gE:Ik K a7 "depth" ad.b3
 ae:D6 K a7 "wheel"
 af:D6 K a7 "parts"
def Js (H:Hp) (a:Addr) (ws:List Int) (calm:Option Int):Prop := ∃ t,H a = some (.tup [.ref t,vO calm]) /\ H t = some (.tup (ws.map V.int))
def Om (H:Hp) (b:Addr) (ls:List Int) (q:Int):Prop := ∃ u,H b = some (.tup [.ref u,.int q]) /\ H u = some (.tup (ls.map V.int))
theorem Js.same {H H':Hp} {a:Addr} {ws:List Int} {calm:Option Int} (s:A5 H H') (h:Js H a ws calm):Js H' a ws calm:=by
 obtain ⟨t,h1,h2⟩ := h
 exact ⟨t,s _ _ h1,s _ _ h2⟩
theorem Om.same {H H':Hp} {a:Addr} {ls:List Int} {q:Int} (s:A5 H H') (h:Om H a ls q):Om H' a ls q:=by
 obtain ⟨t,h1,h2⟩ := h
 exact ⟨t,s _ _ h1,s _ _ h2⟩
def Tl (ws ls:List Int) (who:Nat) (fA:Bool):List Int:=if fA = true then ls.map (fun x=>x - 1) else (ls.map (fun x=>x - 1)).set who (ws.getD who 0)
def Se (calm:Option Int) (q:Int) (fA:Bool):Int:=if fA = true then calm.getD 0 else max (q - 1) 0
def Ug (calm:Option Int) (q:Int) (fA:Bool):Prop:=fA = true -> calm ≠ none /\ q = 0
theorem Jg (x:Int):∀ ns:List Int,Ri (.int x) (ns.map V.int) = decide (x ∈ ns)
 | []=>rfl
 | n :: ns=>by
  show (Nm (V.int n) (V.int x) || Ri (.int x) (ns.map V.int)) = _
  rw [Jg x ns]
  show ((n == x) || decide (x ∈ ns)) = _
  by_cases h:n = x
  ·simp [h]
  ·have h':¬ x = n:=fun e=>h e.symm
   simp [h,h']
theorem I0:∀ ns:List Int,(ns.map V.int).all Ec = true
 | []=>rfl
 | n :: ns=>by
  show (Ec (V.int n) && (ns.map V.int).all Ec) = true
  rw [I0 ns]
  rfl
theorem Ni {a:Int} {n:Nat} (h:a.natAbs < 2 ^ n):intBits a <= n:=intBits_le h
theorem Bh (x:Int) {m:Int} (h:0 < m):0 <= x % m /\ x % m < m:=⟨Int.emod_nonneg x (by omega),Int.emod_lt_of_pos x h⟩
theorem Oc:(0:Int) < 10 ^ (60:Int).toNat:=by decide +kernel
def Op (xs:List Int) (lo hi:Option Int):List Int:=(xs.drop (HT.d6 xs.length 0 lo)).take (HT.d6 xs.length xs.length hi - HT.d6 xs.length 0 lo)
theorem L5 (xs:List Int) (lo hi:Option Int):Jv (xs.map V.int) lo hi = (Op xs lo hi).map V.int:=by
 unfold Jv Op
 rw [List.length_map,List.map_take,List.map_drop]
theorem Uo (a b:Int):decide (V.int a = V.int b) = decide (a = b):=by simp
def WF (p a:Int):Prop:=1 <= p /\ p < 2 ^ 600 /\ 0 <= a /\ a < p
theorem Cn {p:Int} (h0:0 <= p) (h:p < 2 ^ 600):intBits p <= 600:=Ni (by omega)
def Il (H H':Hp):Prop := ∀ b xs,H b = some (.tup xs) -> H' b = some (.tup xs)
theorem Il.of {H H':Hp} (s:A5 H H'):Il H H':=fun b xs e=>s b _ e
theorem Il.trans {H H1 H2:Hp} (a:Il H H1) (b:Il H1 H2):Il H H2:=fun c xs e=>b c xs (a c xs e)
theorem Il.lst {H:Hp} {D:Addr} {zs:List V} {o:HO} (h:H D = some (.lst zs)):Il H (upd H D o):=fun b xs e=>by
 rw [Af (Q7 e h (by intro z; cases z))]
 exact e
def A8 {α:Type} (P:α -> V -> Prop) (rs:List α) (vs:List V):Prop:=vs.length = rs.length /\ ∀ (i:Nat) (r:α) (v:V),rs[i]? = some r -> vs[i]? = some v -> P r v
theorem A8.nil {α:Type} {P:α -> V -> Prop}:A8 P [] []:=⟨rfl,fun i r v e=>by cases e⟩
theorem A8.imp {α:Type} {P P':α -> V -> Prop} {rs:List α} {vs:List V} (f:∀ r v,P r v -> P' r v) (h:A8 P rs vs):A8 P' rs vs:=⟨h.1,fun i r v e1 e2=>f _ _ (h.2 i r v e1 e2)⟩
theorem A8.append {α:Type} {P:α -> V -> Prop} {rs ss:List α} {vs us:List V} (h:A8 P rs vs) (g:A8 P ss us):A8 P (rs ++ ss) (vs ++ us):=by
 refine ⟨by rw [List.length_append,List.length_append,h.1,g.1],fun i r v e1 e2=>?_⟩
 rcases Nat.lt_or_ge i rs.length with z | z
 ·rw [List.getElem?_append_left z] at e1
  rw [List.getElem?_append_left (by rw [h.1]; exact z)] at e2
  exact h.2 i r v e1 e2
 ·rw [List.getElem?_append_right z] at e1
  rw [List.getElem?_append_right (by rw [h.1]; exact z),h.1] at e2
  exact g.2 _ r v e1 e2
theorem A8.one {α:Type} {P:α -> V -> Prop} {r:α} {v:V} (h:P r v):A8 P [r] [v]:=by
 refine ⟨rfl,fun i r' v' e1 e2=>?_⟩
 cases i with
 | zero=>cases e1; cases e2; exact h
 | succ i=>cases e1
theorem A8.get {α:Type} {P:α -> V -> Prop} {rs:List α} {vs:List V} (h:A8 P rs vs) {i:Nat} {v:V} (e:vs[i]? = some v):∃ r,rs[i]? = some r /\ P r v:=by
 have hi:=(List.getElem?_eq_some_iff.mp e).1
 have hi2:i < rs.length:=by
  rw [<- h.1]
  exact hi
 have h2:rs[i]? = some rs[i]:=List.getElem?_eq_getElem hi2
 exact ⟨_,h2,h.2 i _ v h2 e⟩
def F0 (H:Hp) (r:Int × Int) (v:V):Prop := ∃ p,v = .ref p /\ H p = some (.tup [.int r.1,.int r.2])
theorem F0.up {H H':Hp} {r:Int × Int} {v:V} (t:Il H H') (h:F0 H r v):F0 H' r v:=by
 obtain ⟨p,e,h1⟩ := h
 exact ⟨p,e,t _ _ h1⟩
def dR (r:Int × Int):PyData:=dP (.int r.1) (.int r.2)
def tA (p a t:Int):Int:=(t - a + p - 1) / p
theorem Bp {α:Type} {xs:List α} {i:Nat} {x:α} (h:xs[i]? = some x):xs.take (i + 1) = xs.take i ++ [x]:=by
 rw [List.take_add_one,h]
 rfl
structure PD where
 rows:List (Str × Int × Int)
 call:Int -> Option Str
 dep:Nat
def Dx (H:Hp) (r:Str × Int × Int) (u:V):Prop := ∃ t,u = .ref t /\ H t = some (.tup [.str r.1,.int r.2.1,.int r.2.2])
theorem Dx.same {H H':Hp} {r:Str × Int × Int} {u:V} (s:A5 H H') (h:Dx H r u):Dx H' r u:=by
 obtain ⟨t,e,h1⟩ := h
 exact ⟨t,e,s _ _ h1⟩
theorem Dx.put {H:Hp} {L:Addr} {zs:List V} {o:HO} {r:Str × Int × Int} {u:V} (e:H L = some (.lst zs)) (h:Dx H r u):Dx (upd H L o) r u:=by
 obtain ⟨t,e2,h1⟩ := h
 refine ⟨t,e2,(Af fun z=>?_).trans h1⟩
 rw [z,e] at h1
 cases h1
def Kw:Option Str -> V
 | none=>.aA
 | some n=>.str n
def Eb (n:Str):PD:=⟨[(n,1,0)],fun _=>some n,0⟩
def Jf (wh:List (Int × Int)) (t:Int):Option Nat:=(List.range wh.length).find? fun i=>decide (t % (wh.getD i (1,0)).1 = (wh.getD i (1,0)).2)
def B9 (pr:Int × Int) (r:Str × Int × Int):Str × Int × Int:=(r.1,pr.1 * r.2.1,pr.2 + pr.1 * r.2.2)
def B3 (wh:List (Int × Int)) (ds:List PD):List (Str × Int × Int):=(ds.zip wh).flatMap fun x=>x.1.rows.map (B9 x.2)
def G1 (ds:List PD):Nat:=1 + ds.foldl (fun m d=>max m d.dep) 0
def Bx (wh:List (Int × Int)) (ds:List PD) (t:Int):Option Str:=(Jf wh t).bind fun i=>(ds.getD i (Eb "")).call (tA (wh.getD i (1,0)).1 (wh.getD i (1,0)).2 t - tA (wh.getD i (1,0)).1 (wh.getD i (1,0)).2 0)
def Gi (wh:List (Int × Int)) (ds:List PD):PD:=⟨B3 wh ds,Bx wh ds,G1 ds⟩
def M1 (C1:Addr) (H:Hp) (d:PD) (v:V):Prop := ∃ (a dx:Addr) (n:Str),v = .ref a /\ H a = some (.ins C1 dx [("name",.str n)]) /\ d = Eb n
def Ea (wh:List (Int × Int)):Prop:=(∀ r ∈ wh,WF r.1 r.2) /\ ∀ (i j:Nat) (r r':Int × Int) (t:Int),wh[i]? = some r -> wh[j]? = some r' -> t % r.1 = r.2 -> t % r'.1 = r'.2 -> i = j
def L0 (wh:List (Int × Int)) (ds:List PD):Prop:=wh.length <= 100 /\ (B3 wh ds).length <= 1000 /\ ∀ d ∈ ds,∀ r ∈ d.rows,intBits r.2.1 <= 2 ^ 20 /\ intBits r.2.2 <= 2 ^ 20
def Cd (wl pl:Addr):List (Str × V):=[("wheel",.ref wl),("parts",.ref pl)]
def Ak (C1 CM:Addr):Nat -> Hp -> PD -> V -> Prop
 | 0,H,d,v=>M1 C1 H d v
 | lv + 1,H,d,v=>M1 C1 H d v \/ ∃ (a dx wl pl:Addr) (wh:List (Int × Int)) (ws us:List V) (ds:List PD),v = .ref a /\ H a = some (.ins CM dx (Cd wl pl)) /\ H wl = some (.lst ws) /\ A8 (F0 H) wh ws /\ H pl = some (.lst us) /\ A8 (Ak C1 CM lv H) ds us /\ ds.length = wh.length /\ Ea wh /\ L0 wh ds /\ d = Gi wh ds
theorem A8.aa {α:Type} {P Q:α -> V -> Prop} {rs:List α} {us:List V} (h:A8 P rs us) (f:∀ r v,P r v -> Q r v):A8 Q rs us:=⟨h.1,fun i r v e1 e2=>f r v (h.2 i r v e1 e2)⟩
theorem F0.av {H H':Hp} {r:Int × Int} {u:V} (s:A5 H H') (h:F0 H r u):F0 H' r u:=by
 obtain ⟨t,e,h1⟩ := h
 exact ⟨t,e,s _ _ h1⟩
theorem Ak.same {C1 CM:Addr} {H H':Hp} (s:A5 H H'):∀ (lv:Nat) {d:PD} {v:V},Ak C1 CM lv H d v -> Ak C1 CM lv H' d v
 | 0,d,v,h=>by
  obtain ⟨a,dx,n,e,h1,h2⟩ := h
  exact ⟨a,dx,n,e,s _ _ h1,h2⟩
 | lv + 1,d,v,h=>by
  rcases h with ⟨a,dx,n,e,h1,h2⟩ | ⟨a,dx,wl,pl,wh,ws,us,ds,e,h1,h2,h3,h4,h5,h6,h7,h8⟩
  ·exact .inl ⟨a,dx,n,e,s _ _ h1,h2⟩
  ·exact .inr ⟨a,dx,wl,pl,wh,ws,us,ds,e,s _ _ h1,s _ _ h2,h3.aa fun _ _ z=>z.av s,s _ _ h4,h5.aa fun _ _ z=>Ak.same s lv z,h6,h7,h8⟩
theorem Ak.up {C1 CM:Addr} {H:Hp}:∀ (lv:Nat) {d:PD} {v:V},Ak C1 CM lv H d v -> Ak C1 CM (lv + 1) H d v
 | 0,d,v,h=>.inl h
 | lv + 1,d,v,h=>by
  rcases h with h | ⟨a,dx,wl,pl,wh,ws,us,ds,e,h1,h2,h3,h4,h5,h6,h7,h8⟩
  ·exact .inl h
  ·exact .inr ⟨a,dx,wl,pl,wh,ws,us,ds,e,h1,h2,h3,h4,h5.aa fun _ _ z=>Ak.up lv z,h6,h7,h8⟩
theorem F3 {wh:List (Int × Int)} (hw:Ea wh) {i:Nat} {r:Int × Int} {t:Int} (e:wh[i]? = some r) (h:t % r.1 = r.2):Jf wh t = some i:=by
 have hi:=(List.getElem?_eq_some_iff.mp e).1
 have eg:∀ {j:Nat} {r':Int × Int},wh[j]? = some r' -> wh.getD j (1,0) = r':=fun {j r'} ej=>by rw [List.getD_eq_getElem?_getD,ej]; rfl
 cases hf:Jf wh t with
 | none =>
  have:=List.find?_eq_none.mp hf i (List.mem_range.mpr hi)
  rw [eg e] at this
  exact absurd (decide_eq_true h) this
 | some j =>
  have h1:=List.find?_some hf
  have h2:=List.mem_range.mp (List.mem_of_find?_eq_some hf)
  have ej:wh[j]? = some wh[j]:=List.getElem?_eq_getElem h2
  rw [eg ej] at h1
  rw [hw.2 j i _ r t ej e (of_decide_eq_true h1) h]
theorem Ir {wh:List (Int × Int)} {t:Int} (h:∀ r ∈ wh,t % r.1 ≠ r.2):Jf wh t = none:=by
 refine List.find?_eq_none.mpr fun j hj=>?_
 have h2:=List.mem_range.mp hj
 have ej:wh[j]? = some wh[j]:=List.getElem?_eq_getElem h2
 rw [List.getD_eq_getElem?_getD,ej]
 exact fun z=>h _ (List.getElem_mem h2) (of_decide_eq_true z)
theorem B7 {wh:List (Int × Int)} {ds:List PD} {i:Nat} {r:Int × Int} {d:PD} (e1:wh[i]? = some r) (e2:ds[i]? = some d):B3 (wh.take (i + 1)) (ds.take (i + 1)) = B3 (wh.take i) (ds.take i) ++ d.rows.map (B9 r):=by
 have h1:=(List.getElem?_eq_some_iff.mp e1).1
 have h2:=(List.getElem?_eq_some_iff.mp e2).1
 unfold B3
 rw [List.take_add_one,List.take_add_one,e1,e2]
 show ((ds.take i ++ [d]).zip (wh.take i ++ [r])).flatMap _ = _
 rw [List.zip_append (by rw [List.length_take,List.length_take]; omega),List.flatMap_append]
 simp
theorem Nn {α β:Type} (f:α -> List β) (l:List α) (i:Nat):((l.take i).flatMap f).length <= (l.flatMap f).length:=by
 have h:l.flatMap f = (l.take i).flatMap f ++ (l.drop i).flatMap f:=by rw [<- List.flatMap_append,List.take_append_drop]
 rw [h,List.length_append]
 omega
theorem Dv {wh:List (Int × Int)} {ds:List PD} (i:Nat):(B3 (wh.take i) (ds.take i)).length <= (B3 wh ds).length:=by
 have e:(ds.take i).zip (wh.take i) = (ds.zip wh).take i:=List.take_zipWith.symm
 unfold B3
 rw [e]
 exact Nn _ _ i
theorem M9:∀ (ds:List PD) (m:Nat),m <= ds.foldl (fun m d=>max m d.dep) m
 | [],m=>Nat.le_refl _
 | d :: ds,m=>Nat.le_trans (Nat.le_max_left _ _) (M9 ds _)
theorem M8:∀ (ds:List PD) (m:Nat) (d:PD),d ∈ ds -> d.dep <= ds.foldl (fun m d=>max m d.dep) m
 | e :: ds,m,d,h=>by
  rcases List.mem_cons.mp h with z | z
  ·subst z
   exact Nat.le_trans (Nat.le_max_right _ _) (M9 ds _)
  ·exact M8 ds _ d z
theorem Jx:∀ (ds:List PD) (m:Nat),ds.foldl (fun m d=>max m d.dep) m = m \/ ∃ d ∈ ds,d.dep = ds.foldl (fun m d=>max m d.dep) m
 | [],m=>.inl rfl
 | e :: ds,m=>by
  rcases Jx ds (max m e.dep) with h | ⟨d,h1,h2⟩
  ·have h':(e :: ds).foldl (fun m d=>max m d.dep) m = max m e.dep:=h
   rw [h']
   rcases Nat.le_total e.dep m with z | z
   ·exact .inl (Nat.max_eq_left z)
   ·exact .inr ⟨e,List.mem_cons_self,(Nat.max_eq_right z).symm⟩
  ·exact .inr ⟨d,List.mem_cons_of_mem _ h1,h2⟩
theorem Ip {ds:List PD} {m:Int} (h0:ds.map (fun d=>((d.dep:Nat):Int)) = [] -> m = 0) (h1:ds.map (fun d=>((d.dep:Nat):Int)) ≠ [] -> m ∈ ds.map (fun d=>((d.dep:Nat):Int)) /\ ∀ b ∈ ds.map (fun d=>((d.dep:Nat):Int)),b <= m):1 + m = ((G1 ds:Nat):Int):=by
 unfold G1
 cases ds with
 | nil =>
  rw [h0 rfl]
  rfl
 | cons e ds =>
  obtain ⟨g1,g2⟩ := h1 (by simp)
  obtain ⟨d,hd,ed⟩ := List.mem_map.mp g1
  have a1:=M8 (e :: ds) 0 d hd
  rcases Jx (e :: ds) 0 with z | ⟨d2,hd2,e2⟩
  ·omega
  ·have a2:=g2 _ (List.mem_map.mpr ⟨d2,hd2,rfl⟩)
   omega
theorem Ak.keep {C1 CM CM' dx:Addr} {H H':Hp} (k:∀ b o,H b = some o -> o ≠ .ins CM' dx [] -> H' b = some o):∀ (lv:Nat) {d:PD} {v:V},Ak C1 CM lv H d v -> Ak C1 CM lv H' d v
 | 0,d,v,h=>by
  obtain ⟨a,da,n,e,h1,h2⟩ := h
  exact ⟨a,da,n,e,k _ _ h1 (fun z=>by cases z),h2⟩
 | lv + 1,d,v,h=>by
  rcases h with ⟨a,da,n,e,h1,h2⟩ | ⟨a,da,wl,pl,wh,ws,us,ds,e,h1,h2,h3,h4,h5,h6,h7,h8,h9⟩
  ·exact .inl ⟨a,da,n,e,k _ _ h1 (fun z=>by cases z),h2⟩
  ·refine .inr ⟨a,da,wl,pl,wh,ws,us,ds,e,k _ _ h1 (fun z=>by unfold Cd at z; cases z),k _ _ h2 (fun z=>by cases z),h3.aa fun _ _ ⟨t,e,z⟩=>⟨t,e,k _ _ z (fun z=>by cases z)⟩,k _ _ h4 (fun z=>by cases z),h5.aa fun _ _ z=>Ak.keep k lv z,h6,h7,h8,h9⟩
theorem Lh {ss:List Str} (h:ss.Nodup):decide (((Bb (Eo ss) ss.length).length:Int) < ((ss.map V.str).length:Int)) = false:=by
 have e:(Bb (Eo ss) ss.length).length = ss.length:=Jj fun i j h1 h2 z=>by
  have hp:=List.pairwise_iff_getElem.mp (List.nodup_iff_pairwise_ne.mp h) i j (by omega) h2 h1
  apply hp
  unfold Eo at z
  rw [List.getD_eq_getElem?_getD,List.getD_eq_getElem?_getD,List.getElem?_eq_getElem (by omega),List.getElem?_eq_getElem h2] at z
  exact z
 rw [e,List.length_map]
 exact decide_eq_false (by omega)
theorem F0.put {H:Hp} {L:Addr} {zs:List V} {o:HO} {r:Int × Int} {u:V} (e:H L = some (.lst zs)) (h:F0 H r u):F0 (upd H L o) r u:=by
 obtain ⟨t,e2,h1⟩ := h
 refine ⟨t,e2,(Af fun z=>?_).trans h1⟩
 rw [z,e] at h1
 cases h1
def L3 (base:Int) (wh:List (Int × Int)):Prop:=(∀ r ∈ wh,∃ t:Int,1 <= t /\ t <= 4 /\ r.1 = base * t /\ 0 <= r.2 /\ r.2 < r.1) /\ (wh.map fun r=>r.2 % base).Nodup
theorem L3.snoc {base t p x:Int} {wh:List (Int × Int)} (h:L3 base wh) (hb:1 <= base) (ht:1 <= t /\ t <= 4) (hp:0 <= p /\ p < base) (hn:p ∉ wh.map fun r=>r.2 % base):L3 base (wh ++ [(base * t,p + base * (x % t))]):=by
 have hx:=Bh x (show (0:Int) < t by omega)
 have hm:base * (x % t) <= base * (t - 1):=Int.mul_le_mul_of_nonneg_left (by omega) (by omega)
 have hm0:0 <= base * (x % t):=Int.mul_nonneg (by omega) hx.1
 have hmt:base * (t - 1) = base * t - base:=by rw [Int.mul_sub,Int.mul_one]
 refine ⟨fun r hr=>?_,?_⟩
 ·rcases List.mem_append.mp hr with z | z
  ·exact h.1 r z
  ·rw [List.mem_singleton.mp z]
   exact ⟨t,ht.1,ht.2,rfl,by show 0 <= p + base * (x % t); omega,by show p + base * (x % t) < base * t; omega⟩
 ·rw [List.map_append]
  have e:(p + base * (x % t)) % base = p:=by
   rw [Int.add_mul_emod_self_left,Int.emod_eq_of_lt hp.1 hp.2]
  show (wh.map (fun r=>r.2 % base) ++ [(p + base * (x % t)) % base]).Nodup
  rw [e,List.nodup_append]
  refine ⟨h.2,by simp,fun a ha b hb z=>?_⟩
  rw [List.mem_singleton.mp hb] at z
  exact hn (z ▸ ha)
theorem L3.ok {base:Int} {wh:List (Int × Int)} (h:L3 base wh) (hb:1 <= base) (gF:base <= 16):Ea wh /\ ∀ r ∈ wh,r.1 <= 64:=by
 have b64:∀ r ∈ wh,1 <= r.1 /\ r.1 <= 64:=fun r hr=>by
  obtain ⟨t,t1,t2,e,_,_⟩ := h.1 r hr
  have h1:=Int.mul_le_mul gF t2 (by omega) (by decide)
  have h2:=Int.mul_le_mul hb t1 (by decide) (by omega)
  rw [e]
  omega
 refine ⟨⟨fun r hr=>?_,fun i j r r' t hi hj ht ht'=>?_⟩,fun r hr=>(b64 r hr).2⟩
 ·obtain ⟨t,t1,t2,e,a1,a2⟩ := h.1 r hr
  have:=b64 r hr
  exact ⟨by omega,Int.lt_of_le_of_lt this.2 (by decide),a1,a2⟩
 ·obtain ⟨k,_,_,e,_⟩ := h.1 r (List.mem_of_getElem? hi)
  obtain ⟨k',_,_,e',_⟩ := h.1 r' (List.mem_of_getElem? hj)
  have r1:t % base = r.2 % base:=by rw [<- ht,e,Int.emod_emod_of_dvd _ (Int.dvd_mul_right _ _)]
  have r2:t % base = r'.2 % base:=by rw [<- ht',e',Int.emod_emod_of_dvd _ (Int.dvd_mul_right _ _)]
  have g1:(wh.map fun r=>r.2 % base)[i]? = some (r.2 % base):=by rw [List.getElem?_map,hi]; rfl
  have g2:(wh.map fun r=>r.2 % base)[j]? = some (r.2 % base):=by rw [List.getElem?_map,hj,<- r1,r2]; rfl
  obtain ⟨i1,i2⟩ := List.getElem?_eq_some_iff.mp g1
  obtain ⟨j1,j2⟩ := List.getElem?_eq_some_iff.mp g2
  have hp:=List.pairwise_iff_getElem.mp (List.nodup_iff_pairwise_ne.mp h.2)
  rcases Nat.lt_trichotomy i j with z | z | z
  ·exact absurd (i2.trans j2.symm) (hp i j i1 j1 z)
  ·exact z
  ·exact absurd (j2.trans i2.symm) (hp j i j1 i1 z)
theorem K0 {base:Int} {xs:List Int} (h:(xs.length:Int) < base):∃ f:Int,0 <= f /\ f < base /\ f ∉ xs:=by
 apply Classical.byContradiction
 intro hn
 have hs:((List.range base.toNat).map fun (i:Nat)=>(i:Int)) ⊆ xs:=fun f hf=>by
  obtain ⟨i,hi,rfl⟩ := List.mem_map.mp hf
  have:=List.mem_range.mp hi
  apply Classical.byContradiction
  intro z
  exact hn ⟨i,by omega,by omega,z⟩
 have hd:((List.range base.toNat).map fun (i:Nat)=>(i:Int)).Nodup:=by
  rw [List.nodup_iff_pairwise_ne,List.pairwise_map]
  exact List.pairwise_lt_range.imp fun {a b} z=>by omega
 have:=List.Nodup.length_le_of_subset hd hs
 rw [List.length_map,List.length_range] at this
 omega
def S9 (f base:Int) (σ:L2.St):Nat:=match σ[6]? with
 | some (some (V.int p))=>((f - p) % base).toNat
 | _=>0
theorem Mb {f p base:Int} (hb:1 <= base) (hf:0 <= f /\ f < base) (hp:0 <= p /\ p < base) (h:p ≠ f):((f - (p + 1) % base) % base).toNat < ((f - p) % base).toNat:=by
 have e1:(f - p) % base = if p <= f then f - p else f - p + base:=by
  split
  ·exact Int.emod_eq_of_lt (by omega) (by omega)
  ·rw [<- Int.add_emod_right,Int.emod_eq_of_lt (by omega) (by omega)]
 have e2:(p + 1) % base = if p + 1 = base then 0 else p + 1:=by
  split
  ·rename_i z
   rw [z,Int.emod_self]
  ·exact Int.emod_eq_of_lt (by omega) (by omega)
 have e3:(f - (p + 1) % base) % base = (if p <= f then f - p else f - p + base) - 1:=by
  rw [e2]
  split
  ·split
   ·omega
   ·rw [Int.sub_zero,Int.emod_eq_of_lt (by omega) (by omega)]
    omega
  ·split
   ·rw [Int.emod_eq_of_lt (by omega) (by omega)]
    omega
   ·rw [<- Int.add_emod_right,Int.emod_eq_of_lt (by omega) (by omega)]
    omega
 rw [e1,e3]
 split <;> omega
def Fv (d:PD):Prop:=(∀ r ∈ d.rows,1 <= r.2.1 /\ 0 <= r.2.2 /\ r.2.2 < r.2.1 /\ ∀ t:Int,0 <= t -> (d.call t = some r.1 ↔ t % r.2.1 = r.2.2)) /\ ∀ t n,d.call t = some n -> n ∈ d.rows.map (·.1)
theorem Mf (n:Str):Fv (Eb n):=by
 refine ⟨fun r hr=>?_,fun t m h=>?_⟩
 ·have e:r = (n,1,0):=List.mem_singleton.mp hr
  subst e
  refine ⟨(by show (1:Int) <= 1; decide),(by show (0:Int) <= 0; decide),(by show (0:Int) < 1; decide),fun t _=>⟨fun _=>Int.emod_one t,fun _=>rfl⟩⟩
 ·have e:n = m:=Option.some.inj h
  subst e
  exact List.mem_singleton.mpr rfl
theorem Jq {p a t m:Int} (hp:1 <= p) (ha:0 <= a /\ a < p) (e:t = p * m + a):tA p a t - tA p a 0 = m:=by
 have h1:tA p a t = m:=by
  unfold tA
  rw [show t - a + p - 1 = (p - 1) + p * m by omega,Int.add_mul_ediv_left _ _ (by omega),Int.ediv_eq_zero_of_lt (by omega) (by omega),Int.zero_add]
 have h2:tA p a 0 = 0:=by
  unfold tA
  exact Int.ediv_eq_zero_of_lt (by omega) (by omega)
 omega
theorem Mn {p P f F t:Int} (hp:1 <= p) (hP:1 <= P) (hf:0 <= f /\ f < p) (hF:0 <= F /\ F < P):t % (p * P) = f + p * F ↔ (t % p = f /\ (t / p) % P = F):=by
 have hd:=Int.mul_ediv_add_emod t p
 have hm:=Int.mul_ediv_add_emod (t / p) P
 have hup:f + p * F < p * P:=by
  have h1:=Int.mul_le_mul_of_nonneg_left (show F <= P - 1 by omega) (show 0 <= p by omega)
  rw [Int.mul_sub,Int.mul_one] at h1
  omega
 have hlo:0 <= p * F:=Int.mul_nonneg (by omega) hF.1
 constructor
 ·intro h
  have h1:t % p = f:=by
   rw [<- Int.emod_emod_of_dvd t (Int.dvd_mul_right p P),h,Int.add_mul_emod_self_left,Int.emod_eq_of_lt hf.1 hf.2]
  refine ⟨h1,?_⟩
  have ht:=Int.mul_ediv_add_emod t (p * P)
  rw [h] at ht
  have e:t / p = F + P * (t / (p * P)):=by
   have e1:t = f + p * (F + P * (t / (p * P))):=by
    rw [Int.mul_add,<- Int.mul_assoc]
    omega
   rw [e1,Int.add_mul_ediv_left _ _ (by omega),Int.ediv_eq_zero_of_lt hf.1 hf.2,Int.zero_add,<- e1]
  rw [e,Int.add_mul_emod_self_left,Int.emod_eq_of_lt hF.1 hF.2]
 ·rintro ⟨h1,h2⟩
  rw [h1] at hd
  rw [h2] at hm
  have e:t = (f + p * F) + p * P * (t / p / P):=by
   have e1:p * (t / p) = p * (P * (t / p / P)) + p * F:=by rw [<- Int.mul_add,hm]
   rw [Int.mul_assoc]
   omega
  rw [e,Int.add_mul_emod_self_left,Int.emod_eq_of_lt (by omega) hup]
theorem Jm {wh:List (Int × Int)} {ds:List PD} {R:Str × Int × Int} (h:R ∈ B3 wh ds):∃ (i:Nat) (d:PD) (pr:Int × Int) (r:Str × Int × Int),ds[i]? = some d /\ wh[i]? = some pr /\ r ∈ d.rows /\ R = B9 pr r:=by
 obtain ⟨x,hx,hR⟩ := List.mem_flatMap.mp h
 obtain ⟨r,hr,e⟩ := List.mem_map.mp hR
 obtain ⟨i,hi⟩ := List.getElem?_of_mem hx
 obtain ⟨h1,h2⟩ := List.getElem?_zip_eq_some.mp hi
 exact ⟨i,x.1,x.2,r,h1,h2,hr,e.symm⟩
theorem Mh {wh:List (Int × Int)} {ds:List PD} {i:Nat} {d:PD} {pr:Int × Int} {r:Str × Int × Int} (h1:ds[i]? = some d) (h2:wh[i]? = some pr) (hr:r ∈ d.rows):B9 pr r ∈ B3 wh ds :=
 List.mem_flatMap.mpr ⟨(d,pr),List.mem_of_getElem? (List.getElem?_zip_eq_some.mpr ⟨h1,h2⟩),List.mem_map.mpr ⟨r,hr,rfl⟩⟩
theorem apart {wh:List (Int × Int)} {ds:List PD} (hn:((B3 wh ds).map (·.1)).Nodup):∀ {i j:Nat} {d d':PD} {pr nq:Int × Int} {n:Str},ds[i]? = some d -> wh[i]? = some pr -> ds[j]? = some d' -> wh[j]? = some nq -> n ∈ d.rows.map (·.1) -> n ∈ d'.rows.map (·.1) -> i = j:=fun {i j d d' pr nq n} h1 h2 h3 h4 h5 h6=>by
 have key:∀ (xs:List (PD × (Int × Int))),((xs.flatMap fun x=>x.1.rows.map (B9 x.2)).map (·.1)).Nodup -> ∀ (i j:Nat) (x y:PD × (Int × Int)),xs[i]? = some x -> xs[j]? = some y -> n ∈ x.1.rows.map (·.1) -> n ∈ y.1.rows.map (·.1) -> i = j:=by
  intro xs
  induction xs with
  | nil=>intro _ i j x y e; simp at e
  | cons z xs ih =>
   intro hn i j x y e1 e2 g1 g2
   rw [List.flatMap_cons,List.map_append,List.nodup_append] at hn
   obtain ⟨_,n2,n3⟩ := hn
   have inH:∀ {y:PD × (Int × Int)},n ∈ y.1.rows.map (·.1) -> n ∈ (y.1.rows.map (B9 y.2)).map (·.1):=fun {y} g=>by
    obtain ⟨r,hr,e⟩ := List.mem_map.mp g
    exact List.mem_map.mpr ⟨B9 y.2 r,List.mem_map.mpr ⟨r,hr,rfl⟩,e⟩
   have inT:∀ {y:PD × (Int × Int)} {k:Nat},xs[k]? = some y -> n ∈ y.1.rows.map (·.1) -> n ∈ (xs.flatMap fun x=>x.1.rows.map (B9 x.2)).map (·.1):=fun {y k} e g=>by
    obtain ⟨r,hr,e3⟩ := List.mem_map.mp g
    exact List.mem_map.mpr ⟨B9 y.2 r,List.mem_flatMap.mpr ⟨y,List.mem_of_getElem? e,List.mem_map.mpr ⟨r,hr,rfl⟩⟩,e3⟩
   cases i with
   | zero =>
    cases j with
    | zero=>rfl
    | succ j =>
     have ez:z = x:=by simpa using e1
     subst ez
     exact absurd rfl (n3 n (inH g1) n (inT (by simpa using e2) g2))
   | succ i =>
    cases j with
    | zero =>
     have ez:z = y:=by simpa using e2
     subst ez
     exact absurd rfl (n3 n (inH g2) n (inT (by simpa using e1) g1))
    | succ j =>
     rw [ih n2 i j x y (by simpa using e1) (by simpa using e2) g1 g2]
 exact key (ds.zip wh) hn i j (d,pr) (d',nq) (List.getElem?_zip_eq_some.mpr ⟨h1,h2⟩) (List.getElem?_zip_eq_some.mpr ⟨h3,h4⟩) h5 h6
theorem Hy {wh:List (Int × Int)} {ds:List PD} (ab:Ea wh) (hl:ds.length = wh.length) {t:Int} {n:Str} (h:Bx wh ds t = some n):∃ (i:Nat) (d:PD) (pr:Int × Int),ds[i]? = some d /\ wh[i]? = some pr /\ t % pr.1 = pr.2 /\ d.call (t / pr.1) = some n:=by
 unfold Bx at h
 cases hf:Jf wh t with
 | none=>rw [hf] at h; cases h
 | some i =>
  rw [hf] at h
  have h1:=List.find?_some hf
  have h2:=List.mem_range.mp (List.mem_of_find?_eq_some hf)
  have e1:wh[i]? = some wh[i]:=List.getElem?_eq_getElem h2
  have e2:ds[i]? = some (ds[i]'(by omega)):=List.getElem?_eq_getElem _
  have g1:wh.getD i (1,0) = wh[i]:=by rw [List.getD_eq_getElem?_getD,e1]; rfl
  have g2:ds.getD i (Eb "") = ds[i]'(by omega):=by rw [List.getD_eq_getElem?_getD,e2]; rfl
  rw [g1] at h1
  have ht:=of_decide_eq_true h1
  obtain ⟨w1,_,w2,w3⟩ := ab.1 _ (List.getElem_mem h2)
  have h':(ds.getD i (Eb "")).call (tA (wh.getD i (1,0)).1 (wh.getD i (1,0)).2 t - tA (wh.getD i (1,0)).1 (wh.getD i (1,0)).2 0) = some n:=h
  rw [g1,g2,Jq (m:=t / (wh[i]).1) w1 ⟨w2,w3⟩ (by have:=Int.mul_ediv_add_emod t (wh[i]).1; omega)] at h'
  exact ⟨i,_,_,e2,e1,ht,h'⟩
theorem Lb {wh:List (Int × Int)} {ds:List PD} (ab:Ea wh) (hl:ds.length = wh.length) (hg:∀ d ∈ ds,Fv d) (hn:((B3 wh ds).map (·.1)).Nodup):Fv (Gi wh ds):=by
 refine ⟨fun R hR=>?_,fun t n h=>?_⟩
 ·obtain ⟨i,d,pr,r,h1,h2,hr,rfl⟩ := Jm hR
  obtain ⟨a1,a2,a3,a4⟩ := (hg d (List.mem_of_getElem? h1)).1 r hr
  obtain ⟨w1,_,w2,w3⟩ := ab.1 pr (List.mem_of_getElem? h2)
  have p1:=Int.mul_le_mul w1 a1 (by decide) (by omega)
  have p2:=Int.mul_nonneg (show 0 <= pr.1 by omega) a2
  have p3:=Int.mul_le_mul_of_nonneg_left (show r.2.2 <= r.2.1 - 1 by omega) (show 0 <= pr.1 by omega)
  rw [Int.mul_sub,Int.mul_one] at p3
  refine ⟨(by show 1 <= pr.1 * r.2.1; omega),(by show 0 <= pr.2 + pr.1 * r.2.2; omega),(by show pr.2 + pr.1 * r.2.2 < pr.1 * r.2.1; omega),fun t ht=>?_⟩
  show Bx wh ds t = some r.1 ↔ t % (pr.1 * r.2.1) = pr.2 + pr.1 * r.2.2
  rw [Mn w1 a1 ⟨w2,w3⟩ ⟨a2,a3⟩]
  have hq:0 <= t / pr.1:=Int.ediv_nonneg ht (by omega)
  constructor
  ·intro h
   obtain ⟨j,d',nq,g1,g2,g3,g4⟩ := Hy ab hl h
   have e:=apart hn h1 h2 g1 g2 (List.mem_map.mpr ⟨r,hr,rfl⟩) ((hg d' (List.mem_of_getElem? g1)).2 _ _ g4)
   subst e
   rw [h1] at g1
   rw [h2] at g2
   cases g1
   cases g2
   exact ⟨g3,(a4 _ hq).mp g4⟩
  ·rintro ⟨g1,g2⟩
   unfold Bx
   rw [F3 ab h2 g1]
   have e1:wh.getD i (1,0) = pr:=by rw [List.getD_eq_getElem?_getD,h2]; rfl
   have e2:ds.getD i (Eb "") = d:=by rw [List.getD_eq_getElem?_getD,h1]; rfl
   show (ds.getD i (Eb "")).call (tA (wh.getD i (1,0)).1 (wh.getD i (1,0)).2 t - tA (wh.getD i (1,0)).1 (wh.getD i (1,0)).2 0) = some r.1
   rw [e1,e2,Jq (m:=t / pr.1) w1 ⟨w2,w3⟩ (by have:=Int.mul_ediv_add_emod t pr.1; omega)]
   exact (a4 _ hq).mpr g2
 ·obtain ⟨i,d,pr,g1,g2,g3,g4⟩ := Hy ab hl h
  obtain ⟨r,hr,e⟩ := List.mem_map.mp ((hg d (List.mem_of_getElem? g1)).2 _ _ g4)
  exact List.mem_map.mpr ⟨B9 pr r,Mh g1 g2 hr,e⟩
def Au:Nat -> Hp -> PD -> V -> Prop
 | 0,H,d,v=>∃ (t:Addr) (n:Str),v = .ref t /\ H t = some (.tup [.str "one",.str n]) /\ d = Eb n
 | lv + 1,H,d,v=>(∃ (t:Addr) (n:Str),v = .ref t /\ H t = some (.tup [.str "one",.str n]) /\ d = Eb n) \/ ∃ (t wl pl:Addr) (wh:List (Int × Int)) (ws us:List V) (ds:List PD),v = .ref t /\ H t = some (.tup [.str "many",.ref wl,.ref pl]) /\ H wl = some (.lst ws) /\ A8 (F0 H) wh ws /\ H pl = some (.lst us) /\ A8 (Au lv H) ds us /\ ds.length = wh.length /\ Ea wh /\ L0 wh ds /\ d = Gi wh ds
theorem Au.same {H H':Hp} (s:A5 H H'):∀ (lv:Nat) {d:PD} {v:V},Au lv H d v -> Au lv H' d v
 | 0,d,v,h=>by
  obtain ⟨t,n,e,h1,h2⟩ := h
  exact ⟨t,n,e,s _ _ h1,h2⟩
 | lv + 1,d,v,h=>by
  rcases h with ⟨t,n,e,h1,h2⟩ | ⟨t,wl,pl,wh,ws,us,ds,e,h1,h2,h3,h4,h5,h6⟩
  ·exact .inl ⟨t,n,e,s _ _ h1,h2⟩
  ·exact .inr ⟨t,wl,pl,wh,ws,us,ds,e,s _ _ h1,s _ _ h2,h3.aa fun _ _ z=>z.av s,s _ _ h4,h5.aa fun _ _ z=>Au.same s lv z,h6⟩
def Fe:Nat -> Nat -> List Nat
 | 0,a=>[a]
 | lv + 1,a=>a :: (List.range 3).flatMap fun k=>Fe lv (4 * a + 1 + k)
def nm (i:Nat):Str:=toString ((i:Nat):Int)
def Ew (d:PD):List Str:=d.rows.map (·.1)
def Fc (lv a:Nat) (d:PD):Prop:=Fv d /\ (Ew d).Sublist ((Fe lv a).map nm) /\ ∀ r ∈ d.rows,r.2.1 <= 64 ^ lv
theorem Gh {α:Type} {ls:List α} {x:α} {i:Nat} (h:ls.length = i):(ls ++ [x]).length = i + 1:=by
 rw [List.length_append,h]
 rfl
theorem Ei {n:Nat} (h:n <= 63):((n:Nat):Int).natAbs.log2 < 1920:=by
 rw [Int.natAbs_natCast]
 have:=Nat.log2_le_self n
 omega
theorem Ce:∀ (wh:List (Int × Int)) (ds:List PD),ds.length = wh.length -> (B3 wh ds).map (·.1) = ds.flatMap Ew
 | [],[],_=>rfl
 | [],d :: ds,h=>by cases h
 | p :: wh,[],h=>by cases h
 | p :: wh,d :: ds,h=>by
  show (((d,p) :: ds.zip wh).flatMap fun x=>x.1.rows.map (B9 x.2)).map (·.1) = _
  rw [List.flatMap_cons,List.map_append,List.flatMap_cons]
  show (d.rows.map (B9 p)).map (·.1) ++ (B3 wh ds).map (·.1) = _
  rw [Ce wh ds (by simpa using h),List.map_map]
  rfl
theorem G8:∀ (lv a:Nat),(Fe lv a).length <= 4 ^ lv
 | 0,a=>Nat.le_refl _
 | lv + 1,a=>by
  have h0:=G8 lv (4 * a + 1 + 0)
  have h1:=G8 lv (4 * a + 1 + 1)
  have h2:=G8 lv (4 * a + 1 + 2)
  have hp:=Nat.one_le_two_pow (n:=2 * lv)
  have e:Fe (lv + 1) a = a :: (Fe lv (4 * a + 1 + 0) ++ (Fe lv (4 * a + 1 + 1) ++ (Fe lv (4 * a + 1 + 2) ++ []))):=rfl
  rw [e,List.length_cons,List.length_append,List.length_append,List.length_append,List.length_nil,Nat.pow_succ]
  rw [Nat.pow_mul] at hp
  have hq:1 <= 4 ^ lv:=hp
  omega
theorem Iv {lv a k:Nat} (h:k < 3):((Fe lv (4 * a + 1 + k)).map nm).Sublist ((Fe (lv + 1) a).map nm):=by
 have e:Fe (lv + 1) a = a :: (Fe lv (4 * a + 1 + 0) ++ (Fe lv (4 * a + 1 + 1) ++ (Fe lv (4 * a + 1 + 2) ++ []))):=rfl
 rw [e]
 rcases (show k = 0 \/ k = 1 \/ k = 2 by omega) with rfl | rfl | rfl
 ·exact ((List.sublist_append_left _ _).cons _).map nm
 ·exact (((List.sublist_append_left _ _).trans (List.sublist_append_right _ _)).cons _).map nm
 ·exact ((((List.sublist_append_left _ _).trans (List.sublist_append_right _ _)).trans (List.sublist_append_right _ _)).cons _).map nm
theorem Ou {f:Nat -> List Str} {m n:Nat} (h:m <= n):((List.range m).flatMap f).Sublist ((List.range n).flatMap f):=by
 induction h with
 | refl=>exact List.Sublist.refl _
 | step h ih =>
  rw [List.range_succ,List.flatMap_append]
  exact ih.trans (List.sublist_append_left _ _)
theorem F5 (lv a:Nat):Fc lv a (Eb (nm a)):=by
 refine ⟨Mf _,?_,fun r hr=>?_⟩
 ·show [nm a].Sublist _
  cases lv with
  | zero=>exact List.Sublist.refl _
  | succ lv=>exact (List.nil_sublist _).cons₂ (nm a)
 ·have e:r = (nm a,1,0):=List.mem_singleton.mp hr
  subst e
  have h:(0:Int) < 64 ^ lv:=Int.pow_pos (by decide)
  show (1:Int) <= 64 ^ lv
  omega
theorem Fg {lv a:Nat} {wh:List (Int × Int)} {ds:List PD} (ab:Ea wh) (hl:ds.length = wh.length) (iy:∀ r ∈ wh,r.1 <= 64) (hg:∀ d ∈ ds,Fv d /\ ∀ r ∈ d.rows,r.2.1 <= 64 ^ lv) (hn:(ds.flatMap Ew).Sublist ((List.range ds.length).flatMap fun k=>(Fe lv (4 * a + 1 + k)).map nm)) (hm:ds.length <= 3) (hlv:lv <= 2) (bF:((Fe (lv + 1) a).map nm).Nodup):L0 wh ds /\ Fc (lv + 1) a (Gi wh ds):=by
 have aU:((B3 wh ds).map (·.1)).Sublist ((Fe (lv + 1) a).map nm):=by
  rw [Ce wh ds hl]
  refine (hn.trans (Ou hm)).trans ?_
  have e:(Fe (lv + 1) a).map nm = nm a :: (List.range 3).flatMap fun k=>(Fe lv (4 * a + 1 + k)).map nm:=by
   show (a :: (List.range 3).flatMap fun k=>Fe lv (4 * a + 1 + k)).map nm = _
   rw [List.map_cons,List.map_flatMap]
  rw [e]
  exact List.sublist_cons_self _ _
 have cW:((B3 wh ds).map (·.1)).Nodup:=bF.sublist aU
 have hlen:=aU.length_le
 rw [List.length_map,List.length_map] at hlen
 have h4:=G8 (lv + 1) a
 have h4':4 ^ (lv + 1) <= 4 ^ 3:=Nat.pow_le_pow_right (by decide) (by omega)
 have hp:(64:Int) ^ lv <= 4096:=by
  rcases (show lv = 0 \/ lv = 1 \/ lv = 2 by omega) with rfl | rfl | rfl <;> decide
 refine ⟨⟨by omega,by omega,fun d hd r hr=>?_⟩,Lb ab hl (fun d hd=>(hg d hd).1) cW,aU,fun R hR=>?_⟩
 ·obtain ⟨g1,g2⟩ := hg d hd
  obtain ⟨a1,a2,a3,_⟩ := g1.1 r hr
  have:=g2 r hr
  exact ⟨Nat.le_trans (Cn (by omega) (Int.lt_of_le_of_lt (b:=4096) (by omega) (by decide))) (by decide),Nat.le_trans (Cn (by omega) (Int.lt_of_le_of_lt (b:=4096) (by omega) (by decide))) (by decide)⟩
 ·obtain ⟨i,d,pr,r,h1,h2,hr,rfl⟩ := Jm hR
  have g:=hg d (List.mem_of_getElem? h1)
  have:=(g.1.1 r hr).1
  show pr.1 * r.2.1 <= 64 ^ (lv + 1)
  rw [Int.pow_succ,Int.mul_comm (64 ^ lv)]
  exact Int.mul_le_mul (iy _ (List.mem_of_getElem? h2)) (g.2 r hr) (by omega) (by decide)
theorem Au.one {H:Hp} {t:Addr} {n:Str} (h:H t = some (.tup [.str "one",.str n])):∀ lv,Au lv H (Eb n) (.ref t)
 | 0=>⟨t,n,rfl,h,rfl⟩
 | lv + 1=>.inl ⟨t,n,rfl,h,rfl⟩
theorem Gs {f:Nat -> List Str} {i:Nat}:(List.range (i + 1)).flatMap f = (List.range i).flatMap f ++ f i:=by
 rw [List.range_succ,List.flatMap_append,List.flatMap_singleton]
theorem Kx:((Fe 3 0).map nm).Nodup:=by decide +kernel
def NT (H H' ah:Hp):Prop := ∀ b o,H' b = some o -> (H b = none \/ ∃ t,o = .tup t) -> ah b = some o
theorem Fj {H1 H' H2 ah:Hp} {W:Addr} {xs zs:List V} (aY:H' W = some (.lst xs)) (s2:A5 H' H2) (n:NT (upd H1 W (.lst [])) (upd H2 W (.lst zs)) ah):NT (upd H1 W (.lst [])) H' ah:=fun b o e c=>by
 have nb:b ≠ W:=fun z=>by
  subst z
  rcases c with c | ⟨t,rfl⟩
  ·rw [A1] at c
   cases c
  ·rw [aY] at e
   cases e
 exact n b o ((Af nb).trans (s2 _ _ e)) c
theorem Fi {H1 H' H2 ah:Hp} {W:Addr} {xs zs:List V} (aY:H' W = some (.lst xs)) (s':A5 H1 H') (s2:A5 H' H2) (n:NT (upd H1 W (.lst [])) (upd H2 W (.lst zs)) ah):NT H' H2 ah:=fun b o e c=>by
 have nb:b ≠ W:=fun z=>by
  subst z
  rcases c with c | ⟨t,rfl⟩
  ·rw [aY] at c
   cases c
  ·rw [s2 _ _ aY] at e
   cases e
 refine n b o ((Af nb).trans e) ?_
 rcases c with c | c
 ·exact .inl ((Af nb).trans (s'.free c))
 ·exact .inr c
theorem Fh {H H1 H2 H3 ah:Hp} {W:Addr} (s1:A5 H H1) (hW:H1 W = none) (s3:∀ b o,H2 b = some o -> H3 b = some o) (n:NT H H3 ah):NT (upd H1 W (.lst [])) H2 ah:=fun b o e c=>by
 refine n b o (s3 _ _ e) ?_
 rcases c with c | c
 ·refine .inl (s1.free ?_)
  cases Classical.em (b = W) with
  | inl z=>rw [z,A1] at c; cases c
  | inr z=>exact (Af z).symm.trans c
 ·exact .inr c
theorem NT.self {H H':Hp}:NT H H' H':=fun _ _ e _=>e
theorem D3 {H:Hp} {x dx C:Addr} (hx:H x = none) (d8:H dx = none):A5 H (upd (upd H dx (.own x)) x (.ins C dx [])):=fun b o e=>by
 rw [Af (An e hx),Af (An e d8)]
 exact e
theorem Iz {H H':Hp} {x dx C:Addr} (hx:H x = none) (d8:H dx = none) (h:∀ b o,b ≠ x -> (upd (upd H dx (.own x)) x (.ins C dx [])) b = some o -> H' b = some o):A5 H H':=fun b o e=>h b o (An e hx) (D3 hx d8 b o e)
theorem F6 {C1 CM:Addr} {H:Hp} {d:PD} {v:V} (h:M1 C1 H d v):∀ lv,Ak C1 CM lv H d v
 | 0=>h
 | lv + 1=>.inl h
theorem E4:∀ {ds:List PD} {d:PD},d ∈ ds -> (Ew d).Sublist (ds.flatMap Ew)
 | e :: ds,d,h=>by
  rw [List.flatMap_cons]
  rcases List.mem_cons.mp h with z | z
  ·rw [z]
   exact List.sublist_append_left _ _
  ·exact (E4 z).trans (List.sublist_append_right _ _)
theorem Fa:∀ (lv:Nat) {H:Hp} {d:PD} {v:V},Au lv H d v -> d.dep <= lv
 | 0,H,d,v,h=>by
  obtain ⟨t,n,_,_,rfl⟩ := h
  exact Nat.le_refl _
 | lv + 1,H,d,v,h=>by
  rcases h with ⟨t,n,_,_,rfl⟩ | ⟨t,wl,pl,wh,ws,us,ds,rfl,ht,au,ao,ak,aj,hlen,ab,ay,rfl⟩
  ·exact Nat.zero_le _
  ·show G1 ds <= lv + 1
   unfold G1
   have hm:ds.foldl (fun m d=>max m d.dep) 0 <= lv:=by
    rcases Jx ds 0 with z | ⟨d,hd,e⟩
    ·rw [z]
     exact Nat.zero_le _
    ·rw [<- e]
     obtain ⟨i,hi⟩ := List.getElem?_of_mem hd
     have hi2:=(List.getElem?_eq_some_iff.mp hi).1
     have cS:=aj.1
     exact Fa lv (aj.2 i d (us[i]'(by omega)) hi (List.getElem?_eq_getElem _))
   omega
theorem O4 (o:Option Str) (n:Str):Pk (Kw o) (.str n) = true:=by
 cases o <;> rfl
theorem Q8 (o:Option Str) (n:Str):(Kw o = V.str n) ↔ o = some n:=by
 cases o with
 | none=>exact ⟨(fun h=>by cases h),(fun h=>by cases h)⟩
 | some m=>exact ⟨(fun h=>by cases h; rfl),(fun h=>by cases h; rfl)⟩
theorem Gd {p:Nat -> Bool} {k:Nat} (hk:p k = true) (hu:∀ j,p j = true -> j = k):∀ n:Nat,(List.range n).filter p = if k < n then [k] else []
 | 0=>by simp
 | n + 1=>by
  rw [List.range_succ,List.filter_append,Gd hk hu n]
  by_cases e:n = k
  ·subst e
   rw [if_neg (Nat.lt_irrefl _),if_pos (Nat.lt_succ_self _),List.filter_cons,if_pos hk]
   rfl
  ·have hp:¬ p n = true:=fun z=>e (hu n z)
   rw [List.filter_cons,if_neg hp]
   by_cases h2:k < n
   ·rw [if_pos h2,if_pos (by omega)]
    rfl
   ·rw [if_neg h2,if_neg (by omega)]
    rfl
def Dw (B p f:Int) (k:Nat):Bool:=decide (k < p.toNat) && decide ((B + (0 + (k:Int))) % p = f)
theorem Mq {B p f:Int} (hB:0 <= B) (hp:1 <= p) (hf:0 <= f /\ f < p):∃ x:Int,((List.range p.toNat).filter (Dw B p f)).map (fun (k:Nat)=>V.int (B + (0 + (k:Int)))) = [V.int x] /\ x % p = f /\ 0 <= x:=by
 have hr:=Bh (f - B) (show (0:Int) < p by omega)
 have hk:(B + (0 + (((f - B) % p).toNat:Int))) % p = f:=by
  rw [Int.zero_add,Int.toNat_of_nonneg hr.1,Int.add_emod_emod,show B + (f - B) = f by omega,Int.emod_eq_of_lt hf.1 hf.2]
 have ku:Dw B p f ((f - B) % p).toNat = true:=by
  unfold Dw
  rw [decide_eq_true hk,decide_eq_true (show ((f - B) % p).toNat < p.toNat by omega)]
  rfl
 have hu:∀ j,Dw B p f j = true -> j = ((f - B) % p).toNat:=fun j hj=>by
  unfold Dw at hj
  obtain ⟨h1,h2⟩ := (Bool.and_eq_true _ _).mp hj
  have h1:=of_decide_eq_true h1
  have h2:=of_decide_eq_true h2
  have e:(f - B) % p = j:=by
   rw [<- h2,Int.zero_add,Int.emod_sub_emod,show B + (j:Int) - B = j by omega,Int.emod_eq_of_lt (by omega) (by omega)]
  omega
 refine ⟨B + (0 + (((f - B) % p).toNat:Int)),?_,hk,by omega⟩
 rw [Gd ku hu,if_pos (by omega)]
 rfl
theorem T7 {us:List Value} (h:us.length = 0):us = []:=List.length_eq_zero_iff.mp h
theorem Jr {us:List Value} (h:us.length = 1):∃ a0,us = [a0]:=by
 cases us with
 | nil=>cases h
 | cons a us =>
  obtain rfl:=T7 (Nat.succ.inj h)
  exact ⟨a,rfl⟩
theorem Ja {us:List Value} (h:us.length = 2):∃ a0 a1,us = [a0,a1]:=by
 cases us with
 | nil=>cases h
 | cons a us =>
  obtain ⟨a1,rfl⟩ := Jr (Nat.succ.inj h)
  exact ⟨a,a1,rfl⟩
theorem Pp {us:List Value} (h:us.length = 3):∃ a0 a1 a2,us = [a0,a1,a2]:=by
 cases us with
 | nil=>cases h
 | cons a us =>
  obtain ⟨a1,a2,rfl⟩ := Ja (Nat.succ.inj h)
  exact ⟨a,a1,a2,rfl⟩
theorem T8 {us:List Value} (h:us.length = 4):∃ a0 a1 a2 a3,us = [a0,a1,a2,a3]:=by
 cases us with
 | nil=>cases h
 | cons a us =>
  obtain ⟨a1,a2,a3,rfl⟩ := Pp (Nat.succ.inj h)
  exact ⟨a,a1,a2,a3,rfl⟩
section
variable {P:Program} {w:World} {K:PySem.W.Frag} {mg:Str -> Option Value} {base:Heap} {ad:T9} {a8 a7:Addr}
def Ft (K:PySem.W.Frag):Sp:=fun vs H Q _=>∃ (D:Addr) (us:List V) (rs:List (Int × Int)) (t:Int),vs = [.ref D,.int t] /\ H D = some (.lst us) /\ A8 (F0 H) rs us /\ (∀ r ∈ rs,WF r.1 r.2) /\
 ((∀ r ∈ rs,t % r.1 ≠ r.2) -> ∀ H',A5 H H' -> Q .aA H') /\ ∀ (i:Nat) (r:Int × Int) (H':Hp),rs[i]? = some r -> t % r.1 = r.2 -> A5 H H' -> Q (.int (i:Nat)) H'
theorem P7 {fd  : FuncData} (T:Txt K mg ad a8 a7) (F:Dp K "heard" "heard" Ic ad.aV fd):A9 P w K mg base Aq 1 ad.aV fd ["wheel","turn"] (Ft K):=by
 refine F.ok Kd (fun vs H Q E h=>?_) (fun ax A outer s H vs Q E hr h=>?_)
 ·rcases h with ⟨D,us,rs,t,rfl,hD,all,cq,q1,q2⟩ <;> rfl
 ·obtain ⟨D,us,rs,t,rfl,hD,all,cq,q1,q2⟩ := h
  refine ⟨_,(A4 (Bw PassesOwn.never rfl (Mv (by rfl) T.dS (A0 (pv 0) A3)) (Bm K (n:=2) rfl (Ad (Aa (i:=2) Kd.nd rfl (Or.inl rfl)) (Ad (Aa (i:=3) Kd.nd rfl (Or.inl rfl)) Bn))) (A6 (Bo (Al C7 (Ab Bt (pv 1) (Ai (Ah K) (pv 3) A2 (fun _ _=>rfl))) (Ai (Ah K) (pv 3) A2 (fun _ _=>rfl)) (Ar _)) (A6 (Ag (pv 2))) Ay))) (A6 (Ag Ey))),?_⟩
  refine ⟨_,rfl,false,D,rfl,⟨_,As.of hD⟩,?_⟩
  refine L9 (K:=K) (b:=false) (c:=D) (xs:=us) (fun i σ H'=>∃ (v2 v3:Option V),σ = [some (.ref D),some (.int t),v2,v3] /\ A5 H H' /\ ∀ (j:Nat) (r:Int × Int),j < i -> rs[j]? = some r -> t % r.1 ≠ r.2)
   ⟨none,none,rfl,A5.refl H,fun j r hj=>absurd hj (Nat.not_lt_zero j)⟩ (fun i σ H' _ ⟨_,_,_,s,_⟩=>As.of (s _ _ hD)) ?_ ?_
  ·rintro i y T σ H1 hy ⟨v2,v3,rfl,s1,hk⟩ hT
   obtain ⟨r,gv,u,rfl,hu⟩ := all.get hy
   obtain ⟨p1,p2,a1,a2⟩ := cq r (List.mem_of_getElem? gv)
   have s2:A5 H1 (upd H1 T (.tup [V.int (i:Nat),V.ref u])):=A5.upd hT
   have nr:=s1.trans s2
   refine ⟨T,_,rfl,B6.of A1,rfl,_,_,rfl,_,_,rfl,rfl,?_⟩
   generalize upd H1 T (.tup [V.int (i:Nat),V.ref u]) = H2 at s2 nr ⊢
   have hu2:=B6.of (K:=K) (nr _ _ hu)
   refine ⟨_,rfl,_,rfl,u,_,_,_,rfl,rfl,.inr hu2,rfl,_,_,rfl,rfl,(by omega),_,rfl,u,_,_,_,rfl,rfl,.inr hu2,rfl,rfl,_,rfl,?_⟩
   rw [Uo]
   refine Ix (fun h0=>⟨_,rfl,q2 i r H2 gv (by simpa using h0) nr⟩) (fun h0=>?_)
   refine ⟨_,_,rfl,nr,fun j r' hj jX=>?_⟩
   rcases Nat.lt_or_ge j i with z | z
   ·exact hk j r' z jX
   ·have e:j = i:=by omega
    subst e
    rw [gv] at jX
    cases jX
    simpa using h0
  ·rintro σ H1 ⟨v2,v3,rfl,s1,hk⟩
   refine q1 (fun r hr=>?_) H1 s1
   obtain ⟨j,hj⟩ := List.getElem?_of_mem hr
   have hj2:=(List.getElem?_eq_some_iff.mp hj).1
   exact hk j r (by rw [all.1]; exact hj2) hj
def Kf (K:PySem.W.Frag):Sp:=fun vs H Q _=>∃ (D:Addr) (us:List V) (rs:List (Int × Int)) (w:Int) (i:Nat) (r:Int × Int),vs = [.ref D,.int w] /\ H D = some (.lst us) /\ A8 (F0 H) rs us /\ w = (i:Nat) /\ rs[i]? = some r /\ ∀ u:Addr,H u = some (.tup [.int r.1,.int r.2]) -> Q (.ref u) H
theorem P6 {fd  : FuncData} (T:Txt K mg ad a8 a7) (F:Dp K "row_of" "row_of" Ib ad.bE fd):A9 P w K mg base Aq 1 ad.bE fd ["wheel","who"] (Kf K):=by
 refine F.ok Pj (fun vs H Q E h=>?_) (fun ax A outer s H vs Q E hr h=>?_)
 ·rcases h with ⟨D,us,rs,w,i,r,rfl,hD,all,rfl,gv,q⟩ <;> rfl
 ·obtain ⟨D,us,rs,w,i,r,rfl,hD,all,rfl,gv,q⟩ := h
  refine ⟨_,(A4 (Bo (PW.pt (Fp (Al Fy (pv 1) A2 (Ar _)) (Fo (Al Ql (pv 1) (Dt (Cq K) (by rfl) T.cG PySem.boot_len (A0 (pv 0) A3)) (Ar _))))) (A6 B2) Ay) (A6 (Ag (Ai (Ah K) (pv 0) (pv 1) (fun _ _=>rfl))))),?_⟩
  have hDl:=As.of (K:=K) hD
  have hlu:us.length = rs.length:=all.1
  have hi:=(List.getElem?_eq_some_iff.mp gv).1
  have iz:us[i]? = some us[i]:=List.getElem?_eq_getElem (by omega)
  obtain ⟨r2,jX,u,eu,hu⟩ := all.get iz
  rw [gv] at jX
  cases jX
  rw [eu] at iz
  have fB:Kr us ((i:Nat):Int) = some (.ref u):=Eh iz
  refine ⟨_,rfl,_,_,rfl,rfl,_,rfl,false,fun _ Q' z=>⟨_,rfl,_,rfl,D,_,rfl,.inl hDl,_,_,rfl,rfl,_,rfl,?_⟩,Cu ?_ ?_⟩
  ·rw [decide_eq_false (by omega)]
   exact z
  ·rw [decide_eq_false (by omega)]
   rfl
  ·exact ⟨_,rfl,_,rfl,D,_,_,_,rfl,rfl,.inl hDl,fB,q u hu⟩
def N1 (K:PySem.W.Frag):Sp:=fun vs H Q _=>∃ (u:Addr) (p a t:Int),vs = [.ref u,.int t] /\ B6 K H u [.int p,.int a] /\ 1 <= p /\ p < 2 ^ 600 /\ Q (.int (tA p a t)) H
theorem Qd {fd  : FuncData} (T:Txt K mg ad a8 a7) (F:Dp K "times_ahead" "times_ahead" Lo ad.cU fd):A9 P w K mg base Aq 1 ad.cU fd ["row","turn"] (N1 K):=by
 refine F.ok Qu (fun vs H Q E h=>?_) (fun ax A outer s H vs Q E hr h=>?_)
 ·rcases h with ⟨u,p,a,t,rfl,hu,hp,hp6,q⟩ <;> rfl
 ·obtain ⟨u,p,a,t,rfl,hu,hp,hp6,q⟩ := h
  refine ⟨_,(A6 (Ag (Ab Mr (Ab Ex (Ab B4 (Ab Ex (pv 1) (Ai (Ah K) (pv 0) A2 (fun _ _=>rfl))) (Ai (Ah K) (pv 0) A2 (fun _ _=>rfl))) A2) (Ai (Ah K) (pv 0) A2 (fun _ _=>rfl))))),?_⟩
  exact ⟨_,rfl,_,rfl,u,_,_,_,rfl,rfl,.inr hu,rfl,_,_,rfl,rfl,_,rfl,u,_,_,_,rfl,rfl,.inr hu,rfl,_,_,rfl,rfl,_,_,rfl,rfl,_,rfl,u,_,_,_,rfl,rfl,.inr hu,rfl,_,_,rfl,rfl,⟨by omega,Nat.le_trans (Cn (by omega) hp6) (by decide)⟩,q⟩
def Ie (K:PySem.W.Frag):Sp:=fun vs H Q _=>∃ (D:Addr) (us:List V) (rs:List (Int × Int)) (w t e:Int) (i:Nat) (r:Int × Int),vs = [.ref D,.int w,.int t,.int e] /\ H D = some (.lst us) /\ A8 (F0 H) rs us /\ w = (i:Nat) /\ rs[i]? = some r /\ WF r.1 r.2 /\ Q (.int (tA r.1 r.2 e - tA r.1 r.2 t)) H
theorem Qa {fd fD gR:FuncData} (T:Txt K mg ad a8 a7) (F:Dp K "called_times" "called_times" Lm ad.c6 fd) (fE:A9 P w K mg base Aq 1 ad.bE fD ["wheel","who"] (Kf K)) (fF:Ac K fD ["wheel","who"] []) (gG:A9 P w K mg base Aq 1 ad.cU gR ["row","turn"] (N1 K)) (gH:Ac K gR ["row","turn"] []):A9 P w K mg base Aq 2 ad.c6 fd ["wheel","who","begin","end"] (Ie K):=by
 refine F.ok Oe (fun vs H Q E h=>?_) (fun ax A outer s H vs Q E hr h=>?_)
 ·rcases h with ⟨D,us,rs,w,t,e,i,r,rfl,hD,all,rfl,gv,hp,q⟩ <;> rfl
 ·obtain ⟨D,us,rs,w,t,e,i,r,rfl,hD,all,rfl,gv,hp,q⟩ := h
  refine ⟨_,(A4 (Az (i:=4) Oe.nd rfl (Or.inl rfl) (Am fE (hr.mono (by decide)) rfl T.kE T.k_x16 fF .nil Aj (A0 (pv 0) (A0 (pv 1) A3)))) (A6 (Ag (Ab Ex (Am gG (hr.mono (by decide)) rfl T.kF T.k_x4 gH .nil Aj (A0 (pv 4) (A0 (pv 3) A3))) (Am gG (hr.mono (by decide)) rfl T.kF T.k_x4 gH .nil Aj (A0 (pv 4) (A0 (pv 2) A3))))))),?_⟩
  refine ⟨_,rfl,_,rfl,D,us,rs,_,i,r,rfl,hD,all,rfl,gv,fun u hu=>?_⟩
  have mV:=B6.of (K:=K) hu
  exact ⟨_,rfl,_,rfl,u,_,_,_,rfl,mV,hp.1,hp.2.1,_,rfl,_,rfl,u,_,_,_,rfl,mV,hp.1,hp.2.1,_,_,rfl,rfl,q⟩
def N2 (K:PySem.W.Frag):Sp:=fun vs H Q _=>∃ (l:Addr) (ss:List Str),vs = [.ref l] /\ H l = some (.lst (ss.map V.str)) /\ ss.length <= 1000 /\ Q (.bl (decide (((Bb (Eo ss) ss.length).length:Int) < ((ss.map V.str).length:Int)))) H
theorem Qi {fd  : FuncData} (T:Txt K mg ad a8 a7) (F:Dp K "any_twice" "any_twice" Lr ad.cV fd):A9 P w K mg base Aq 1 ad.cV fd ["names"] (N2 K):=by
 refine F.ok Qx (fun vs H Q E h=>?_) (fun ax A outer s H vs Q E hr h=>?_)
 ·rcases h with ⟨l,ss,rfl,hl,hlen,q⟩ <;> rfl
 ·obtain ⟨l,ss,rfl,hl,hlen,q⟩ := h
  refine ⟨_,(A6 (Ag (Nx Fy (Ll rfl (by rfl) T.cG (by rfl) T.kG (A0 (pv 0) A3)) (Dt (Cq K) (by rfl) T.cG PySem.boot_len (A0 (pv 0) A3)) (Ar _)))),?_⟩
  exact ⟨_,rfl,l,ss,rfl,As.of hl,hlen,_,rfl,l,_,rfl,.inl (As.of hl),_,_,rfl,rfl,q⟩
def Ig (K:PySem.W.Frag) (a8 a7:Addr):Sp:=fun vs H Q _=>∃ (x dx:Addr) (v:V),vs = [.ref x,v] /\ H x = some (.ins a8 dx []) /\ Q .aA (upd H x (.ins a8 dx [("name",v)]))
theorem Qb {fd  : FuncData} (T:Txt K mg ad a8 a7) (F:Dp K "__init__" "One.__init__" Ln ad.c7 fd):A9 P w K mg base Aq 1 ad.c7 fd ["self","name"] (Ig K a8 a7):=by
 refine F.ok Qt (fun vs H Q E h=>?_) (fun ax A outer s H vs Q E hr h=>?_)
 ·rcases h with ⟨x,dx,v,rfl,hx,q⟩ <;> rfl
 ·obtain ⟨x,dx,v,rfl,hx,q⟩ := h
  refine ⟨_,(A6 (K9 (pv 0) (pv 1) rfl)),?_⟩
  exact ⟨_,rfl,_,rfl,x,_,dx,_,rfl,hx,T.aG,T.bf,by decide,q⟩
def Gw (K:PySem.W.Frag) (a8 a7:Addr):Sp:=fun vs H Q _=>∃ (x dx:Addr) (n:Str) (v:V),vs = [.ref x,v] /\ H x = some (.ins a8 dx [("name",.str n)]) /\ Q (.str n) H
theorem Qh {fd  : FuncData} (T:Txt K mg ad a8 a7) (F:Dp K "called" "One.called" Lq ad.bL fd):A9 P w K mg base Aq 1 ad.bL fd ["self","turn"] (Gw K a8 a7):=by
 refine F.ok Qw (fun vs H Q E h=>?_) (fun ax A outer s H vs Q E hr h=>?_)
 ·rcases h with ⟨x,dx,n,v,rfl,hx,q⟩ <;> rfl
 ·obtain ⟨x,dx,n,v,rfl,hx,q⟩ := h
  refine ⟨_,(A6 (Ag (B5 (pv 0) rfl))),?_⟩
  exact ⟨_,rfl,x,_,dx,_,_,rfl,hx,T.aG,T.bf,rfl,q⟩
def Fs (K:PySem.W.Frag) (a8 a7:Addr):Sp:=fun vs H Q _=>∃ (x dx:Addr) (n:Str),vs = [.ref x] /\ H x = some (.ins a8 dx [("name",.str n)]) /\ ∀ (p t:Addr) (H':Hp),H p = none -> A5 H H' -> H' t = some (.tup [.str n,.int 1,.int 0]) -> H' p = some (.lst [.ref t]) -> Q (.ref p) H'
theorem P5 {fd  : FuncData} (T:Txt K mg ad a8 a7) (F:Dp K "rows" "One.rows" Ia ad.aW fd):A9 P w K mg base Aq 1 ad.aW fd ["self"] (Fs K a8 a7):=by
 refine F.ok Ph (fun vs H Q E h=>?_) (fun ax A outer s H vs Q E hr h=>?_)
 ·rcases h with ⟨x,dx,n,rfl,hx,q⟩ <;> rfl
 ·obtain ⟨x,dx,n,rfl,hx,q⟩ := h
  refine ⟨_,(A6 (Ag (Ci (A0 (Bk (A0 (B5 (pv 0) rfl) (A0 A2 (A0 A2 A3)))) A3)))),?_⟩
  refine ⟨_,rfl,x,_,dx,_,_,rfl,hx,T.aG,T.bf,rfl,B8,fun t ht=>?_⟩
  have s1:A5 H (upd H t (.tup [.str n,.int 1,.int 0])):=A5.upd ht
  have e1:(upd H t (.tup [.str n,.int 1,.int 0])) t = some (.tup [.str n,.int 1,.int 0]):=A1
  generalize upd H t (.tup [.str n,.int 1,.int 0]) = H1 at s1 e1 ⊢
  refine ⟨B8,fun p hp=>?_⟩
  exact q p t _ (s1.free hp) (s1.trans (A5.upd hp)) ((A5.upd hp) _ _ e1) A1
def Fq (K:PySem.W.Frag) (a8 a7:Addr):Sp:=fun vs H Q _=>∃ (v:V),vs = [v] /\ Q (.int 0) H
theorem P4 {fd  : FuncData} (T:Txt K mg ad a8 a7) (F:Dp K "depth" "One.depth" I9 ad.aX fd):A9 P w K mg base Aq 1 ad.aX fd ["self"] (Fq K a8 a7):=by
 refine F.ok Pg (fun vs H Q E h=>?_) (fun ax A outer s H vs Q E hr h=>?_)
 ·rcases h with ⟨v,rfl,q⟩ <;> rfl
 ·obtain ⟨v,rfl,q⟩ := h
  refine ⟨_,(A6 (Ag A2)),?_⟩
  exact q
def Cj (K:PySem.W.Frag) (a8 a7:Addr):Sp:=fun vs H Q _=>∃ (x dx wl pl:Addr) (wh:List (Int × Int)) (ws us:List V) (ds:List PD),vs = [.ref x] /\ False /\ False /\ False /\ False /\ False /\ False /\ False /\ False /\ False
theorem G4 {fd aI:FuncData} (T:Txt K mg ad a8 a7) (F:Dp K "depth" "Many.depth" Hr ad.b3 fd) (bg:A9 P w K mg base Aq 1 ad.aX aI ["self"] (Fq K a8 a7)) (bh:Ac K aI ["self"] []):A9 P w K mg base Aq 2 ad.b3 fd ["self"] (Cj K a8 a7):=by
 refine F.ok Ky (fun vs H Q E h=>?_) (fun ax A outer s H vs Q E hr h=>?_)
 ·rcases h with ⟨x,dx,wl,pl,wh,ws,us,ds,rfl,hx,au,ao,ak,aj,hlen,ab,ay,q⟩ <;> rfl
 ·obtain ⟨x,dx,wl,pl,wh,ws,us,ds,rfl,hx,au,ao,ak,aj,hlen,ab,ay,q⟩ := h
  refine ⟨_,(A6 B2),?_⟩
  exact hx.elim
def Ck (K:PySem.W.Frag) (a8 a7:Addr):Sp:=fun vs H Q _=>∃ (x dx wl pl:Addr) (wh:List (Int × Int)) (ws us:List V) (ds:List PD),vs = [.ref x] /\ H x = some (.ins a7 dx (Cd wl pl)) /\ H wl = some (.lst ws) /\ A8 (F0 H) wh ws /\ H pl = some (.lst us) /\ A8 (Ak a8 a7 0 H) ds us /\ ds.length = wh.length /\ Ea wh /\ L0 wh ds /\ ∀ H',A5 H H' -> Q (.int ((G1 ds:Nat):Int)) H'
theorem G5 {fd aI bj:FuncData} (T:Txt K mg ad a8 a7) (F:Dp K "depth" "Many.depth" Hr ad.b3 fd) (bg:A9 P w K mg base Aq 1 ad.aX aI ["self"] (Fq K a8 a7)) (bh:Ac K aI ["self"] []) (dm:A9 P w K mg base Aq 2 ad.b3 bj ["self"] (Cj K a8 a7)) (cx:Ac K bj ["self"] []):A9 P w K mg base Aq 3 ad.b3 fd ["self"] (Ck K a8 a7):=by
 refine F.ok Ky (fun vs H Q E h=>?_) (fun ax A outer s H vs Q E hr h=>?_)
 ·rcases h with ⟨x,dx,wl,pl,wh,ws,us,ds,rfl,hx,au,ao,ak,aj,hlen,ab,ay,q⟩ <;> rfl
 ·obtain ⟨x,dx,wl,pl,wh,ws,us,ds,rfl,hx,au,ao,ak,aj,hlen,ab,ay,q⟩ := h
  refine ⟨_,(A6 (Ag (Ab B4 A2 (J0 rfl (by rfl) T.fv boot_max (A0 (C3 (Cv (B5 (pv 0) rfl)) _ rfl Cg rfl rfl (fun _ _ _ _=>(Aa (i:=0) Ch rfl (Or.inl rfl))) (fun _ _ _ _=>Bu) (fun _ _ _ _=>(Hq (Bl (Bg (pv 0) T.aG T.fz bg (hr.mono (by decide)) bh .nil Aj) (Bg (pv 0) T.a9 T.gE dm (hr.mono (by decide)) cx .nil Aj))))) A3) A2)))),?_⟩
  have dU:=aj.1
  have jY:=ay.1
  refine ⟨_,rfl,x,_,dx,_,_,rfl,hx,T.a9,T.af,rfl,pl,rfl,.inl ⟨⟨_,As.of ak⟩,fun W hW=>?_⟩⟩
  refine Bz (K:=K) (a:=pl) (xs:=us) (fun i ys H'=>ys = ((ds.take i).map fun d=>((d.dep:Nat):Int)).map V.int /\ H' W = some (.lst ys) /\ A5 H H') ⟨rfl,A1,A5.upd hW⟩ (fun i ys H' _ ⟨_,_,s⟩=>As.of (s _ _ ak)) ?_ ?_
  ·rintro i u ys H' hu ⟨rfl,aY,s'⟩ Qe hQ
   obtain ⟨d,aH,aq⟩ := aj.get hu
   have hi:=(List.getElem?_eq_some_iff.mp aH).1
   refine ⟨fun v H4=>v = .int ((d.dep:Nat):Int) /\ A5 H' H4,?_,?_⟩
   ·obtain ⟨a,da,n,rfl,ha,rfl⟩ := aq
    exact .inl ⟨_,rfl,a,da,_,rfl,s' _ _ ha,rfl,_,rfl,rfl,A5.refl _⟩
   rintro v H4 ⟨rfl,s4⟩
   refine hQ _ _ (s4 _ _ aY) (Ap (by rw [List.length_map,List.length_map,List.length_take]; omega)) ⟨?_,A1,(s'.trans s4).new hW⟩
   rw [Bp aH,List.map_append,List.map_append]
   rfl
  rintro ys H2 ⟨rfl,d9,s2⟩
  rw [dU,List.take_length] at d9
  refine ⟨W,_,0,rfl,rfl,As.of d9,fun m h0 h1=>?_⟩
  refine ⟨_,_,rfl,rfl,?_⟩
  have e:=Ip h0 h1
  show Q (.int (1 + m)) H2
  rw [e]
  exact q H2 s2
def Cl (K:PySem.W.Frag) (a8 a7:Addr):Sp:=fun vs H Q _=>∃ (x dx wl pl:Addr) (wh:List (Int × Int)) (ws us:List V) (ds:List PD),vs = [.ref x] /\ H x = some (.ins a7 dx (Cd wl pl)) /\ H wl = some (.lst ws) /\ A8 (F0 H) wh ws /\ H pl = some (.lst us) /\ A8 (Ak a8 a7 1 H) ds us /\ ds.length = wh.length /\ Ea wh /\ L0 wh ds /\ ∀ H',A5 H H' -> Q (.int ((G1 ds:Nat):Int)) H'
theorem G6 {fd aI bj:FuncData} (T:Txt K mg ad a8 a7) (F:Dp K "depth" "Many.depth" Hr ad.b3 fd) (bg:A9 P w K mg base Aq 1 ad.aX aI ["self"] (Fq K a8 a7)) (bh:Ac K aI ["self"] []) (dm:A9 P w K mg base Aq 3 ad.b3 bj ["self"] (Ck K a8 a7)) (cx:Ac K bj ["self"] []):A9 P w K mg base Aq 4 ad.b3 fd ["self"] (Cl K a8 a7):=by
 refine F.ok Ky (fun vs H Q E h=>?_) (fun ax A outer s H vs Q E hr h=>?_)
 ·rcases h with ⟨x,dx,wl,pl,wh,ws,us,ds,rfl,hx,au,ao,ak,aj,hlen,ab,ay,q⟩ <;> rfl
 ·obtain ⟨x,dx,wl,pl,wh,ws,us,ds,rfl,hx,au,ao,ak,aj,hlen,ab,ay,q⟩ := h
  refine ⟨_,(A6 (Ag (Ab B4 A2 (J0 rfl (by rfl) T.fv boot_max (A0 (C3 (Cv (B5 (pv 0) rfl)) _ rfl Cg rfl rfl (fun _ _ _ _=>(Aa (i:=0) Ch rfl (Or.inl rfl))) (fun _ _ _ _=>Bu) (fun _ _ _ _=>(Hq (Bl (Bg (pv 0) T.aG T.fz bg (hr.mono (by decide)) bh .nil Aj) (Bg (pv 0) T.a9 T.gE dm (hr.mono (by decide)) cx .nil Aj))))) A3) A2)))),?_⟩
  have dU:=aj.1
  have jY:=ay.1
  refine ⟨_,rfl,x,_,dx,_,_,rfl,hx,T.a9,T.af,rfl,pl,rfl,.inl ⟨⟨_,As.of ak⟩,fun W hW=>?_⟩⟩
  refine Bz (K:=K) (a:=pl) (xs:=us) (fun i ys H'=>ys = ((ds.take i).map fun d=>((d.dep:Nat):Int)).map V.int /\ H' W = some (.lst ys) /\ A5 H H') ⟨rfl,A1,A5.upd hW⟩ (fun i ys H' _ ⟨_,_,s⟩=>As.of (s _ _ ak)) ?_ ?_
  ·rintro i u ys H' hu ⟨rfl,aY,s'⟩ Qe hQ
   obtain ⟨d,aH,aq⟩ := aj.get hu
   have hi:=(List.getElem?_eq_some_iff.mp aH).1
   refine ⟨fun v H4=>v = .int ((d.dep:Nat):Int) /\ A5 H' H4,?_,?_⟩
   ·rcases aq with ⟨a,da,n,rfl,ha,rfl⟩ | ⟨a,da,fG,fH,fI,fJ,fK,fL,rfl,g1,g2,g3,g4,g5,g6,g7,g8,rfl⟩
    ·exact .inl ⟨_,rfl,a,da,_,rfl,s' _ _ ha,rfl,_,rfl,rfl,A5.refl _⟩
    ·exact .inr ⟨_,rfl,a,da,_,rfl,s' _ _ g1,rfl,a,da,fG,fH,fI,fJ,fK,fL,rfl,s' _ _ g1,s' _ _ g2,g3.aa (fun _ _ z=>z.av s'),s' _ _ g4,g5.aa (fun _ _ z=>Ak.same s' 0 z),g6,g7,g8,fun H4 s4=>⟨rfl,s4⟩⟩
   rintro v H4 ⟨rfl,s4⟩
   refine hQ _ _ (s4 _ _ aY) (Ap (by rw [List.length_map,List.length_map,List.length_take]; omega)) ⟨?_,A1,(s'.trans s4).new hW⟩
   rw [Bp aH,List.map_append,List.map_append]
   rfl
  rintro ys H2 ⟨rfl,d9,s2⟩
  rw [dU,List.take_length] at d9
  refine ⟨W,_,0,rfl,rfl,As.of d9,fun m h0 h1=>?_⟩
  refine ⟨_,_,rfl,rfl,?_⟩
  have e:=Ip h0 h1
  show Q (.int (1 + m)) H2
  rw [e]
  exact q H2 s2
def Cm (K:PySem.W.Frag) (a8 a7:Addr):Sp:=fun vs H Q _=>∃ (x dx wl pl:Addr) (wh:List (Int × Int)) (ws us:List V) (ds:List PD),vs = [.ref x] /\ H x = some (.ins a7 dx (Cd wl pl)) /\ H wl = some (.lst ws) /\ A8 (F0 H) wh ws /\ H pl = some (.lst us) /\ A8 (Ak a8 a7 2 H) ds us /\ ds.length = wh.length /\ Ea wh /\ L0 wh ds /\ ∀ H',A5 H H' -> Q (.int ((G1 ds:Nat):Int)) H'
theorem G7 {fd aI bj:FuncData} (T:Txt K mg ad a8 a7) (F:Dp K "depth" "Many.depth" Hr ad.b3 fd) (bg:A9 P w K mg base Aq 1 ad.aX aI ["self"] (Fq K a8 a7)) (bh:Ac K aI ["self"] []) (dm:A9 P w K mg base Aq 4 ad.b3 bj ["self"] (Cl K a8 a7)) (cx:Ac K bj ["self"] []):A9 P w K mg base Aq 5 ad.b3 fd ["self"] (Cm K a8 a7):=by
 refine F.ok Ky (fun vs H Q E h=>?_) (fun ax A outer s H vs Q E hr h=>?_)
 ·rcases h with ⟨x,dx,wl,pl,wh,ws,us,ds,rfl,hx,au,ao,ak,aj,hlen,ab,ay,q⟩ <;> rfl
 ·obtain ⟨x,dx,wl,pl,wh,ws,us,ds,rfl,hx,au,ao,ak,aj,hlen,ab,ay,q⟩ := h
  refine ⟨_,(A6 (Ag (Ab B4 A2 (J0 rfl (by rfl) T.fv boot_max (A0 (C3 (Cv (B5 (pv 0) rfl)) _ rfl Cg rfl rfl (fun _ _ _ _=>(Aa (i:=0) Ch rfl (Or.inl rfl))) (fun _ _ _ _=>Bu) (fun _ _ _ _=>(Hq (Bl (Bg (pv 0) T.aG T.fz bg (hr.mono (by decide)) bh .nil Aj) (Bg (pv 0) T.a9 T.gE dm (hr.mono (by decide)) cx .nil Aj))))) A3) A2)))),?_⟩
  have dU:=aj.1
  have jY:=ay.1
  refine ⟨_,rfl,x,_,dx,_,_,rfl,hx,T.a9,T.af,rfl,pl,rfl,.inl ⟨⟨_,As.of ak⟩,fun W hW=>?_⟩⟩
  refine Bz (K:=K) (a:=pl) (xs:=us) (fun i ys H'=>ys = ((ds.take i).map fun d=>((d.dep:Nat):Int)).map V.int /\ H' W = some (.lst ys) /\ A5 H H') ⟨rfl,A1,A5.upd hW⟩ (fun i ys H' _ ⟨_,_,s⟩=>As.of (s _ _ ak)) ?_ ?_
  ·rintro i u ys H' hu ⟨rfl,aY,s'⟩ Qe hQ
   obtain ⟨d,aH,aq⟩ := aj.get hu
   have hi:=(List.getElem?_eq_some_iff.mp aH).1
   refine ⟨fun v H4=>v = .int ((d.dep:Nat):Int) /\ A5 H' H4,?_,?_⟩
   ·rcases aq with ⟨a,da,n,rfl,ha,rfl⟩ | ⟨a,da,fG,fH,fI,fJ,fK,fL,rfl,g1,g2,g3,g4,g5,g6,g7,g8,rfl⟩
    ·exact .inl ⟨_,rfl,a,da,_,rfl,s' _ _ ha,rfl,_,rfl,rfl,A5.refl _⟩
    ·exact .inr ⟨_,rfl,a,da,_,rfl,s' _ _ g1,rfl,a,da,fG,fH,fI,fJ,fK,fL,rfl,s' _ _ g1,s' _ _ g2,g3.aa (fun _ _ z=>z.av s'),s' _ _ g4,g5.aa (fun _ _ z=>Ak.same s' 1 z),g6,g7,g8,fun H4 s4=>⟨rfl,s4⟩⟩
   rintro v H4 ⟨rfl,s4⟩
   refine hQ _ _ (s4 _ _ aY) (Ap (by rw [List.length_map,List.length_map,List.length_take]; omega)) ⟨?_,A1,(s'.trans s4).new hW⟩
   rw [Bp aH,List.map_append,List.map_append]
   rfl
  rintro ys H2 ⟨rfl,d9,s2⟩
  rw [dU,List.take_length] at d9
  refine ⟨W,_,0,rfl,rfl,As.of d9,fun m h0 h1=>?_⟩
  refine ⟨_,_,rfl,rfl,?_⟩
  have e:=Ip h0 h1
  show Q (.int (1 + m)) H2
  rw [e]
  exact q H2 s2
def Cw (K:PySem.W.Frag) (a8 a7:Addr):Sp:=fun vs H Q _=>∃ (x dx wl pl:Addr) (wh:List (Int × Int)) (ws us:List V) (ds:List PD),vs = [.ref x] /\ False /\ False /\ False /\ False /\ False /\ False /\ False /\ False /\ False
theorem Gk {fd aJ:FuncData} (T:Txt K mg ad a8 a7) (F:Dp K "rows" "Many.rows" F7 ad.aB fd) (bo:A9 P w K mg base Aq 1 ad.aW aJ ["self"] (Fs K a8 a7)) (bp:Ac K aJ ["self"] []):A9 P w K mg base Aq 2 ad.aB fd ["self"] (Cw K a8 a7):=by
 refine F.ok Bc (fun vs H Q E h=>?_) (fun ax A outer s H vs Q E hr h=>?_)
 ·rcases h with ⟨x,dx,wl,pl,wh,ws,us,ds,rfl,hx,au,ao,ak,aj,hlen,ab,ay,q⟩ <;> rfl
 ·obtain ⟨x,dx,wl,pl,wh,ws,us,ds,rfl,hx,au,ao,ak,aj,hlen,ab,ay,q⟩ := h
  refine ⟨_,(A4 B2 (A4 B2 (A6 B2))),?_⟩
  exact hx.elim
def Cy (K:PySem.W.Frag) (a8 a7:Addr):Sp:=fun vs H Q _=>∃ (x dx wl pl:Addr) (wh:List (Int × Int)) (ws us:List V) (ds:List PD),vs = [.ref x] /\ H x = some (.ins a7 dx (Cd wl pl)) /\ H wl = some (.lst ws) /\ A8 (F0 H) wh ws /\ H pl = some (.lst us) /\ A8 (Ak a8 a7 0 H) ds us /\ ds.length = wh.length /\ Ea wh /\ L0 wh ds /\ ∀ (p:Addr) (zs:List V) (H':Hp),H p = none -> A5 H H' -> H' p = some (.lst zs) -> A8 (Dx H') (B3 wh ds) zs -> Q (.ref p) H'
theorem Gm {fd aJ aK:FuncData} (T:Txt K mg ad a8 a7) (F:Dp K "rows" "Many.rows" F7 ad.aB fd) (bo:A9 P w K mg base Aq 1 ad.aW aJ ["self"] (Fs K a8 a7)) (bp:Ac K aJ ["self"] []) (bN:A9 P w K mg base Aq 2 ad.aB aK ["self"] (Cw K a8 a7)) (b6:Ac K aK ["self"] []):A9 P w K mg base Aq 3 ad.aB fd ["self"] (Cy K a8 a7):=by
 refine F.ok Bc (fun vs H Q E h=>?_) (fun ax A outer s H vs Q E hr h=>?_)
 ·rcases h with ⟨x,dx,wl,pl,wh,ws,us,ds,rfl,hx,au,ao,ak,aj,hlen,ab,ay,q⟩ <;> rfl
 ·obtain ⟨x,dx,wl,pl,wh,ws,us,ds,rfl,hx,au,ao,ak,aj,hlen,ab,ay,q⟩ := h
  refine ⟨_,(A4 (Az (i:=1) Bc.nd rfl (Or.inl rfl) (Ci A3)) (A4 (Bw PassesOwn.never rfl (Ej (by rfl) T.d7 (A0 (B5 (pv 0) rfl) (A0 (B5 (pv 0) rfl) A3))) (Bm K (n:=2) rfl (Ad (Aa (i:=2) Bc.nd rfl (Or.inl rfl)) (Ad (Aa (i:=3) Bc.nd rfl (Or.inl rfl)) Bn))) (A6 (Bw PassesOwn.never rfl (Cv (Hq (Bl (Bg (pv 2) T.aG T.fw bo (hr.mono (by decide)) bp .nil Aj) (Bg (pv 2) T.a9 T.eS bN (hr.mono (by decide)) b6 .nil Aj)))) (Bm K (n:=3) rfl (Ad (Aa (i:=4) Bc.nd rfl (Or.inl rfl)) (Ad (Aa (i:=5) Bc.nd rfl (Or.inl rfl)) (Ad (Aa (i:=6) Bc.nd rfl (Or.inl rfl)) Bn)))) (A6 (E6 (Gp PySem.F.plainAttrs_list PySem.F.slot_list_append PySem.F.type_list_append C0 (pv 1) (A0 (Bk (A0 (pv 4) (A0 (Ab Bf (Ai (Ah K) (pv 3) A2 (fun _ _=>rfl)) (pv 5)) (A0 (Ab B4 (Ai (Ah K) (pv 3) A2 (fun _ _=>rfl)) (Ab Bf (Ai (Ah K) (pv 3) A2 (fun _ _=>rfl)) (pv 6))) A3)))) A3))))))) (A6 (Ag (pv 1))))),?_⟩
  have cS:us.length = ws.length:=by rw [aj.1,ao.1,hlen]
  refine ⟨B8,fun L hL=>?_⟩
  have s1:A5 H (upd H L (.lst [])):=A5.upd hL
  have e1:(upd H L (.lst [])) L = some (.lst []):=A1
  generalize upd H L (.lst []) = H1 at s1 e1 ⊢
  refine ⟨_,rfl,x,_,dx,_,_,rfl,(s1 _ _ hx),T.a9,T.af,rfl,_,rfl,x,_,dx,_,_,rfl,(s1 _ _ hx),T.a9,T.ae,rfl,false,false,pl,wl,rfl,⟨_,As.of (s1 _ _ ak)⟩,⟨_,As.of (s1 _ _ au)⟩,?_⟩
  refine Ds (K:=K) (b1:=false) (b2:=false) (c:=pl) (d:=wl) (xs:=us) (ys:=ws) cS
   (fun i σ H'=>∃ (zs:List V) (v2 v3 v4 v5 v6:Option V),σ = [some (.ref x),some (.ref L),v2,v3,v4,v5,v6] /\ A5 H H' /\ H' L = some (.lst zs) /\ A8 (Dx H') (B3 (wh.take i) (ds.take i)) zs)
   ⟨[],none,none,none,none,none,rfl,s1,e1,A8.nil⟩ (fun i σ H' _ ⟨_,_,_,_,_,_,_,s,_⟩=>⟨As.of (s _ _ ak),As.of (s _ _ au)⟩) ?_ ?_
  ·rintro i u y T σ H2 hu hy ⟨zs,v2,v3,v4,v5,v6,rfl,s2,ba,hz⟩ hT
   obtain ⟨r,bH,t,rfl,ht⟩ := ao.get hy
   obtain ⟨d,aH,aq⟩ := aj.get hu
   have s3:A5 H2 (upd H2 T (.tup [u,.ref t])):=A5.upd hT
   have b5:=s2.trans s3
   have cy:=ab.1 r (List.mem_of_getElem? bH)
   refine ⟨T,_,rfl,B6.of A1,rfl,_,_,rfl,_,_,rfl,rfl,?_⟩
   generalize upd H2 T (.tup [u,.ref t]) = H3 at s3 b5 ⊢
   refine ⟨fun v H4=>∃ (p:Addr) (bb:List V),v = .ref p /\ H3 p = none /\ A5 H3 H4 /\ H4 p = some (.lst bb) /\ A8 (Dx H4) d.rows bb,?_,?_⟩
   ·obtain ⟨a,da,n,rfl,ha,rfl⟩ := aq
    have e3:=b5 _ _ ha
    exact .inl ⟨_,rfl,a,da,_,rfl,e3,rfl,a,da,n,rfl,e3,fun p t4 H4 hp s4 e4 e5=>⟨p,[.ref t4],rfl,hp,s4,e5,A8.one ⟨t4,rfl,e4⟩⟩⟩
   rintro v H4 ⟨p,bb,rfl,dq,s4,ep,az⟩
   have fM:=b5.trans s4
   have eC:=s4 _ _ (s3 _ _ ba)
   have fN:p ≠ L:=fun z=>by rw [z,s3 _ _ ba] at dq; cases dq
   have fO:=hz.aa fun _ _ z=>(z.same s3).same s4
   have cf:=Dv (wh:=wh) (ds:=ds) (i + 1)
   rw [B7 bH aH,List.length_append,List.length_map] at cf
   have gF:=ay.2.1
   refine ⟨p,rfl,.inl ⟨⟨_,As.of ep⟩,?_⟩⟩
   refine Ct (K:=K) (a:=p) (xs:=bb) (fun k σ H'=>∃ (zs:List V) (v4 v5 v6:Option V),σ = [some (.ref x),some (.ref L),some u,some (.ref t),v4,v5,v6] /\ A5 H H' /\ H' p = some (.lst bb) /\ A8 (Dx H') d.rows bb /\ H' L = some (.lst zs) /\ A8 (Dx H') (B3 (wh.take i) (ds.take i) ++ (d.rows.take k).map (B9 r)) zs)
    ⟨zs,v4,v5,v6,rfl,fM,ep,az,eC,by rw [List.take_zero]; simpa using fO⟩ (fun k σ H' _ ⟨_,_,_,_,_,_,e,_⟩=>As.of e) ?_ ?_
   ·rintro k y σ H5 hy ⟨cJ,fP,fQ,fR,rfl,s5,fS,aw,bO,bq⟩
    obtain ⟨ai,cq,t5,rfl,fT⟩ := aw.get hy
    have hk:=(List.getElem?_eq_some_iff.mp cq).1
    obtain ⟨b1,b2⟩ := ay.2.2 d (List.mem_of_getElem? aH) ai (List.mem_of_getElem? cq)
    have cX:intBits r.1 <= 600:=Cn (by have:=cy.1; omega) cy.2.1
    have f9:=bq.1
    rw [List.length_append,List.length_map,List.length_take] at f9
    refine ⟨t5,_,rfl,B6.of fT,rfl,_,_,rfl,_,_,rfl,_,_,rfl,rfl,?_⟩
    have tp:=s5 _ _ ht
    refine ⟨_,rfl,.inl ⟨rfl,_,As.of bO⟩,_,rfl,_,rfl,t,_,_,_,rfl,rfl,.inr (B6.of tp),rfl,_,rfl,_,_,rfl,rfl,E9 cX b1 (by decide),_,rfl,t,_,_,_,rfl,rfl,.inr (B6.of tp),rfl,_,rfl,t,_,_,_,rfl,rfl,.inr (B6.of tp),rfl,_,rfl,_,_,rfl,rfl,E9 cX b2 (by decide),_,_,rfl,rfl,B8,fun T2 br=>?_⟩
    have s6:A5 H5 (upd H5 T2 (.tup [.str ai.1,.int (r.1 * ai.2.1),.int (r.2 + r.1 * ai.2.2)])):=A5.upd br
    have e6:(upd H5 T2 (.tup [.str ai.1,.int (r.1 * ai.2.1),.int (r.2 + r.1 * ai.2.2)])) T2 = some (.tup [.str ai.1,.int (r.1 * ai.2.1),.int (r.2 + r.1 * ai.2.2)]):=A1
    generalize upd H5 T2 (.tup [.str ai.1,.int (r.1 * ai.2.1),.int (r.2 + r.1 * ai.2.2)]) = H6 at s6 e6 ⊢
    have bP:=s6 _ _ bO
    refine ⟨L,_,_,rfl,rfl,bP,Ap (by omega),?_⟩
    refine ⟨cJ ++ [.ref T2],_,_,_,rfl,(s5.trans s6).new hL,(Af fN).trans (s6 _ _ fS),aw.aa fun _ _ z=>(z.same s6).put bP,A1,?_⟩
    rw [Bp cq,List.map_append,<- List.append_assoc]
    exact ((bq.aa fun _ _ z=>(z.same s6).put bP).append (A8.one (Dx.put bP ⟨T2,rfl,e6⟩)))
   rintro σ H5 ⟨cJ,fP,fQ,fR,rfl,s5,_,_,bO,bq⟩
   rw [az.1,List.take_length] at bq
   refine ⟨cJ,_,_,_,_,_,rfl,s5,bO,?_⟩
   rw [B7 bH aH]
   exact bq
  rintro σ H2 ⟨zs,v2,v3,v4,v5,v6,rfl,s2,ba,hz⟩
  rw [aj.1,List.take_length,hlen,List.take_length] at hz
  exact ⟨_,rfl,q L zs H2 hL s2 ba hz⟩
def Cz (K:PySem.W.Frag) (a8 a7:Addr):Sp:=fun vs H Q _=>∃ (x dx wl pl:Addr) (wh:List (Int × Int)) (ws us:List V) (ds:List PD),vs = [.ref x] /\ H x = some (.ins a7 dx (Cd wl pl)) /\ H wl = some (.lst ws) /\ A8 (F0 H) wh ws /\ H pl = some (.lst us) /\ A8 (Ak a8 a7 1 H) ds us /\ ds.length = wh.length /\ Ea wh /\ L0 wh ds /\ ∀ (p:Addr) (zs:List V) (H':Hp),H p = none -> A5 H H' -> H' p = some (.lst zs) -> A8 (Dx H') (B3 wh ds) zs -> Q (.ref p) H'
theorem Gn {fd aJ aK:FuncData} (T:Txt K mg ad a8 a7) (F:Dp K "rows" "Many.rows" F7 ad.aB fd) (bo:A9 P w K mg base Aq 1 ad.aW aJ ["self"] (Fs K a8 a7)) (bp:Ac K aJ ["self"] []) (bN:A9 P w K mg base Aq 3 ad.aB aK ["self"] (Cy K a8 a7)) (b6:Ac K aK ["self"] []):A9 P w K mg base Aq 4 ad.aB fd ["self"] (Cz K a8 a7):=by
 refine F.ok Bc (fun vs H Q E h=>?_) (fun ax A outer s H vs Q E hr h=>?_)
 ·rcases h with ⟨x,dx,wl,pl,wh,ws,us,ds,rfl,hx,au,ao,ak,aj,hlen,ab,ay,q⟩ <;> rfl
 ·obtain ⟨x,dx,wl,pl,wh,ws,us,ds,rfl,hx,au,ao,ak,aj,hlen,ab,ay,q⟩ := h
  refine ⟨_,(A4 (Az (i:=1) Bc.nd rfl (Or.inl rfl) (Ci A3)) (A4 (Bw PassesOwn.never rfl (Ej (by rfl) T.d7 (A0 (B5 (pv 0) rfl) (A0 (B5 (pv 0) rfl) A3))) (Bm K (n:=2) rfl (Ad (Aa (i:=2) Bc.nd rfl (Or.inl rfl)) (Ad (Aa (i:=3) Bc.nd rfl (Or.inl rfl)) Bn))) (A6 (Bw PassesOwn.never rfl (Cv (Hq (Bl (Bg (pv 2) T.aG T.fw bo (hr.mono (by decide)) bp .nil Aj) (Bg (pv 2) T.a9 T.eS bN (hr.mono (by decide)) b6 .nil Aj)))) (Bm K (n:=3) rfl (Ad (Aa (i:=4) Bc.nd rfl (Or.inl rfl)) (Ad (Aa (i:=5) Bc.nd rfl (Or.inl rfl)) (Ad (Aa (i:=6) Bc.nd rfl (Or.inl rfl)) Bn)))) (A6 (E6 (Gp PySem.F.plainAttrs_list PySem.F.slot_list_append PySem.F.type_list_append C0 (pv 1) (A0 (Bk (A0 (pv 4) (A0 (Ab Bf (Ai (Ah K) (pv 3) A2 (fun _ _=>rfl)) (pv 5)) (A0 (Ab B4 (Ai (Ah K) (pv 3) A2 (fun _ _=>rfl)) (Ab Bf (Ai (Ah K) (pv 3) A2 (fun _ _=>rfl)) (pv 6))) A3)))) A3))))))) (A6 (Ag (pv 1))))),?_⟩
  have cS:us.length = ws.length:=by rw [aj.1,ao.1,hlen]
  refine ⟨B8,fun L hL=>?_⟩
  have s1:A5 H (upd H L (.lst [])):=A5.upd hL
  have e1:(upd H L (.lst [])) L = some (.lst []):=A1
  generalize upd H L (.lst []) = H1 at s1 e1 ⊢
  refine ⟨_,rfl,x,_,dx,_,_,rfl,(s1 _ _ hx),T.a9,T.af,rfl,_,rfl,x,_,dx,_,_,rfl,(s1 _ _ hx),T.a9,T.ae,rfl,false,false,pl,wl,rfl,⟨_,As.of (s1 _ _ ak)⟩,⟨_,As.of (s1 _ _ au)⟩,?_⟩
  refine Ds (K:=K) (b1:=false) (b2:=false) (c:=pl) (d:=wl) (xs:=us) (ys:=ws) cS
   (fun i σ H'=>∃ (zs:List V) (v2 v3 v4 v5 v6:Option V),σ = [some (.ref x),some (.ref L),v2,v3,v4,v5,v6] /\ A5 H H' /\ H' L = some (.lst zs) /\ A8 (Dx H') (B3 (wh.take i) (ds.take i)) zs)
   ⟨[],none,none,none,none,none,rfl,s1,e1,A8.nil⟩ (fun i σ H' _ ⟨_,_,_,_,_,_,_,s,_⟩=>⟨As.of (s _ _ ak),As.of (s _ _ au)⟩) ?_ ?_
  ·rintro i u y T σ H2 hu hy ⟨zs,v2,v3,v4,v5,v6,rfl,s2,ba,hz⟩ hT
   obtain ⟨r,bH,t,rfl,ht⟩ := ao.get hy
   obtain ⟨d,aH,aq⟩ := aj.get hu
   have s3:A5 H2 (upd H2 T (.tup [u,.ref t])):=A5.upd hT
   have b5:=s2.trans s3
   have cy:=ab.1 r (List.mem_of_getElem? bH)
   refine ⟨T,_,rfl,B6.of A1,rfl,_,_,rfl,_,_,rfl,rfl,?_⟩
   generalize upd H2 T (.tup [u,.ref t]) = H3 at s3 b5 ⊢
   refine ⟨fun v H4=>∃ (p:Addr) (bb:List V),v = .ref p /\ H3 p = none /\ A5 H3 H4 /\ H4 p = some (.lst bb) /\ A8 (Dx H4) d.rows bb,?_,?_⟩
   ·rcases aq with ⟨a,da,n,rfl,ha,rfl⟩ | ⟨a,da,fG,fH,fI,fJ,fK,fL,rfl,g1,g2,g3,g4,g5,g6,g7,g8,rfl⟩
    ·have e3:=b5 _ _ ha
     exact .inl ⟨_,rfl,a,da,_,rfl,e3,rfl,a,da,n,rfl,e3,fun p t4 H4 hp s4 e4 e5=>⟨p,[.ref t4],rfl,hp,s4,e5,A8.one ⟨t4,rfl,e4⟩⟩⟩
    ·exact .inr ⟨_,rfl,a,da,_,rfl,b5 _ _ g1,rfl,a,da,fG,fH,fI,fJ,fK,fL,rfl,b5 _ _ g1,b5 _ _ g2,g3.aa (fun _ _ z=>z.av b5),b5 _ _ g4,g5.aa (fun _ _ z=>Ak.same b5 0 z),g6,g7,g8,fun p bb H4 hp s4 e4 e5=>⟨p,bb,rfl,hp,s4,e4,e5⟩⟩
   rintro v H4 ⟨p,bb,rfl,dq,s4,ep,az⟩
   have fM:=b5.trans s4
   have eC:=s4 _ _ (s3 _ _ ba)
   have fN:p ≠ L:=fun z=>by rw [z,s3 _ _ ba] at dq; cases dq
   have fO:=hz.aa fun _ _ z=>(z.same s3).same s4
   have cf:=Dv (wh:=wh) (ds:=ds) (i + 1)
   rw [B7 bH aH,List.length_append,List.length_map] at cf
   have gF:=ay.2.1
   refine ⟨p,rfl,.inl ⟨⟨_,As.of ep⟩,?_⟩⟩
   refine Ct (K:=K) (a:=p) (xs:=bb) (fun k σ H'=>∃ (zs:List V) (v4 v5 v6:Option V),σ = [some (.ref x),some (.ref L),some u,some (.ref t),v4,v5,v6] /\ A5 H H' /\ H' p = some (.lst bb) /\ A8 (Dx H') d.rows bb /\ H' L = some (.lst zs) /\ A8 (Dx H') (B3 (wh.take i) (ds.take i) ++ (d.rows.take k).map (B9 r)) zs)
    ⟨zs,v4,v5,v6,rfl,fM,ep,az,eC,by rw [List.take_zero]; simpa using fO⟩ (fun k σ H' _ ⟨_,_,_,_,_,_,e,_⟩=>As.of e) ?_ ?_
   ·rintro k y σ H5 hy ⟨cJ,fP,fQ,fR,rfl,s5,fS,aw,bO,bq⟩
    obtain ⟨ai,cq,t5,rfl,fT⟩ := aw.get hy
    have hk:=(List.getElem?_eq_some_iff.mp cq).1
    obtain ⟨b1,b2⟩ := ay.2.2 d (List.mem_of_getElem? aH) ai (List.mem_of_getElem? cq)
    have cX:intBits r.1 <= 600:=Cn (by have:=cy.1; omega) cy.2.1
    have f9:=bq.1
    rw [List.length_append,List.length_map,List.length_take] at f9
    refine ⟨t5,_,rfl,B6.of fT,rfl,_,_,rfl,_,_,rfl,_,_,rfl,rfl,?_⟩
    have tp:=s5 _ _ ht
    refine ⟨_,rfl,.inl ⟨rfl,_,As.of bO⟩,_,rfl,_,rfl,t,_,_,_,rfl,rfl,.inr (B6.of tp),rfl,_,rfl,_,_,rfl,rfl,E9 cX b1 (by decide),_,rfl,t,_,_,_,rfl,rfl,.inr (B6.of tp),rfl,_,rfl,t,_,_,_,rfl,rfl,.inr (B6.of tp),rfl,_,rfl,_,_,rfl,rfl,E9 cX b2 (by decide),_,_,rfl,rfl,B8,fun T2 br=>?_⟩
    have s6:A5 H5 (upd H5 T2 (.tup [.str ai.1,.int (r.1 * ai.2.1),.int (r.2 + r.1 * ai.2.2)])):=A5.upd br
    have e6:(upd H5 T2 (.tup [.str ai.1,.int (r.1 * ai.2.1),.int (r.2 + r.1 * ai.2.2)])) T2 = some (.tup [.str ai.1,.int (r.1 * ai.2.1),.int (r.2 + r.1 * ai.2.2)]):=A1
    generalize upd H5 T2 (.tup [.str ai.1,.int (r.1 * ai.2.1),.int (r.2 + r.1 * ai.2.2)]) = H6 at s6 e6 ⊢
    have bP:=s6 _ _ bO
    refine ⟨L,_,_,rfl,rfl,bP,Ap (by omega),?_⟩
    refine ⟨cJ ++ [.ref T2],_,_,_,rfl,(s5.trans s6).new hL,(Af fN).trans (s6 _ _ fS),aw.aa fun _ _ z=>(z.same s6).put bP,A1,?_⟩
    rw [Bp cq,List.map_append,<- List.append_assoc]
    exact ((bq.aa fun _ _ z=>(z.same s6).put bP).append (A8.one (Dx.put bP ⟨T2,rfl,e6⟩)))
   rintro σ H5 ⟨cJ,fP,fQ,fR,rfl,s5,_,_,bO,bq⟩
   rw [az.1,List.take_length] at bq
   refine ⟨cJ,_,_,_,_,_,rfl,s5,bO,?_⟩
   rw [B7 bH aH]
   exact bq
  rintro σ H2 ⟨zs,v2,v3,v4,v5,v6,rfl,s2,ba,hz⟩
  rw [aj.1,List.take_length,hlen,List.take_length] at hz
  exact ⟨_,rfl,q L zs H2 hL s2 ba hz⟩
def D0 (K:PySem.W.Frag) (a8 a7:Addr):Sp:=fun vs H Q _=>∃ (x dx wl pl:Addr) (wh:List (Int × Int)) (ws us:List V) (ds:List PD),vs = [.ref x] /\ H x = some (.ins a7 dx (Cd wl pl)) /\ H wl = some (.lst ws) /\ A8 (F0 H) wh ws /\ H pl = some (.lst us) /\ A8 (Ak a8 a7 2 H) ds us /\ ds.length = wh.length /\ Ea wh /\ L0 wh ds /\ ∀ (p:Addr) (zs:List V) (H':Hp),H p = none -> A5 H H' -> H' p = some (.lst zs) -> A8 (Dx H') (B3 wh ds) zs -> Q (.ref p) H'
theorem Go {fd aJ aK:FuncData} (T:Txt K mg ad a8 a7) (F:Dp K "rows" "Many.rows" F7 ad.aB fd) (bo:A9 P w K mg base Aq 1 ad.aW aJ ["self"] (Fs K a8 a7)) (bp:Ac K aJ ["self"] []) (bN:A9 P w K mg base Aq 4 ad.aB aK ["self"] (Cz K a8 a7)) (b6:Ac K aK ["self"] []):A9 P w K mg base Aq 5 ad.aB fd ["self"] (D0 K a8 a7):=by
 refine F.ok Bc (fun vs H Q E h=>?_) (fun ax A outer s H vs Q E hr h=>?_)
 ·rcases h with ⟨x,dx,wl,pl,wh,ws,us,ds,rfl,hx,au,ao,ak,aj,hlen,ab,ay,q⟩ <;> rfl
 ·obtain ⟨x,dx,wl,pl,wh,ws,us,ds,rfl,hx,au,ao,ak,aj,hlen,ab,ay,q⟩ := h
  refine ⟨_,(A4 (Az (i:=1) Bc.nd rfl (Or.inl rfl) (Ci A3)) (A4 (Bw PassesOwn.never rfl (Ej (by rfl) T.d7 (A0 (B5 (pv 0) rfl) (A0 (B5 (pv 0) rfl) A3))) (Bm K (n:=2) rfl (Ad (Aa (i:=2) Bc.nd rfl (Or.inl rfl)) (Ad (Aa (i:=3) Bc.nd rfl (Or.inl rfl)) Bn))) (A6 (Bw PassesOwn.never rfl (Cv (Hq (Bl (Bg (pv 2) T.aG T.fw bo (hr.mono (by decide)) bp .nil Aj) (Bg (pv 2) T.a9 T.eS bN (hr.mono (by decide)) b6 .nil Aj)))) (Bm K (n:=3) rfl (Ad (Aa (i:=4) Bc.nd rfl (Or.inl rfl)) (Ad (Aa (i:=5) Bc.nd rfl (Or.inl rfl)) (Ad (Aa (i:=6) Bc.nd rfl (Or.inl rfl)) Bn)))) (A6 (E6 (Gp PySem.F.plainAttrs_list PySem.F.slot_list_append PySem.F.type_list_append C0 (pv 1) (A0 (Bk (A0 (pv 4) (A0 (Ab Bf (Ai (Ah K) (pv 3) A2 (fun _ _=>rfl)) (pv 5)) (A0 (Ab B4 (Ai (Ah K) (pv 3) A2 (fun _ _=>rfl)) (Ab Bf (Ai (Ah K) (pv 3) A2 (fun _ _=>rfl)) (pv 6))) A3)))) A3))))))) (A6 (Ag (pv 1))))),?_⟩
  have cS:us.length = ws.length:=by rw [aj.1,ao.1,hlen]
  refine ⟨B8,fun L hL=>?_⟩
  have s1:A5 H (upd H L (.lst [])):=A5.upd hL
  have e1:(upd H L (.lst [])) L = some (.lst []):=A1
  generalize upd H L (.lst []) = H1 at s1 e1 ⊢
  refine ⟨_,rfl,x,_,dx,_,_,rfl,(s1 _ _ hx),T.a9,T.af,rfl,_,rfl,x,_,dx,_,_,rfl,(s1 _ _ hx),T.a9,T.ae,rfl,false,false,pl,wl,rfl,⟨_,As.of (s1 _ _ ak)⟩,⟨_,As.of (s1 _ _ au)⟩,?_⟩
  refine Ds (K:=K) (b1:=false) (b2:=false) (c:=pl) (d:=wl) (xs:=us) (ys:=ws) cS
   (fun i σ H'=>∃ (zs:List V) (v2 v3 v4 v5 v6:Option V),σ = [some (.ref x),some (.ref L),v2,v3,v4,v5,v6] /\ A5 H H' /\ H' L = some (.lst zs) /\ A8 (Dx H') (B3 (wh.take i) (ds.take i)) zs)
   ⟨[],none,none,none,none,none,rfl,s1,e1,A8.nil⟩ (fun i σ H' _ ⟨_,_,_,_,_,_,_,s,_⟩=>⟨As.of (s _ _ ak),As.of (s _ _ au)⟩) ?_ ?_
  ·rintro i u y T σ H2 hu hy ⟨zs,v2,v3,v4,v5,v6,rfl,s2,ba,hz⟩ hT
   obtain ⟨r,bH,t,rfl,ht⟩ := ao.get hy
   obtain ⟨d,aH,aq⟩ := aj.get hu
   have s3:A5 H2 (upd H2 T (.tup [u,.ref t])):=A5.upd hT
   have b5:=s2.trans s3
   have cy:=ab.1 r (List.mem_of_getElem? bH)
   refine ⟨T,_,rfl,B6.of A1,rfl,_,_,rfl,_,_,rfl,rfl,?_⟩
   generalize upd H2 T (.tup [u,.ref t]) = H3 at s3 b5 ⊢
   refine ⟨fun v H4=>∃ (p:Addr) (bb:List V),v = .ref p /\ H3 p = none /\ A5 H3 H4 /\ H4 p = some (.lst bb) /\ A8 (Dx H4) d.rows bb,?_,?_⟩
   ·rcases aq with ⟨a,da,n,rfl,ha,rfl⟩ | ⟨a,da,fG,fH,fI,fJ,fK,fL,rfl,g1,g2,g3,g4,g5,g6,g7,g8,rfl⟩
    ·have e3:=b5 _ _ ha
     exact .inl ⟨_,rfl,a,da,_,rfl,e3,rfl,a,da,n,rfl,e3,fun p t4 H4 hp s4 e4 e5=>⟨p,[.ref t4],rfl,hp,s4,e5,A8.one ⟨t4,rfl,e4⟩⟩⟩
    ·exact .inr ⟨_,rfl,a,da,_,rfl,b5 _ _ g1,rfl,a,da,fG,fH,fI,fJ,fK,fL,rfl,b5 _ _ g1,b5 _ _ g2,g3.aa (fun _ _ z=>z.av b5),b5 _ _ g4,g5.aa (fun _ _ z=>Ak.same b5 1 z),g6,g7,g8,fun p bb H4 hp s4 e4 e5=>⟨p,bb,rfl,hp,s4,e4,e5⟩⟩
   rintro v H4 ⟨p,bb,rfl,dq,s4,ep,az⟩
   have fM:=b5.trans s4
   have eC:=s4 _ _ (s3 _ _ ba)
   have fN:p ≠ L:=fun z=>by rw [z,s3 _ _ ba] at dq; cases dq
   have fO:=hz.aa fun _ _ z=>(z.same s3).same s4
   have cf:=Dv (wh:=wh) (ds:=ds) (i + 1)
   rw [B7 bH aH,List.length_append,List.length_map] at cf
   have gF:=ay.2.1
   refine ⟨p,rfl,.inl ⟨⟨_,As.of ep⟩,?_⟩⟩
   refine Ct (K:=K) (a:=p) (xs:=bb) (fun k σ H'=>∃ (zs:List V) (v4 v5 v6:Option V),σ = [some (.ref x),some (.ref L),some u,some (.ref t),v4,v5,v6] /\ A5 H H' /\ H' p = some (.lst bb) /\ A8 (Dx H') d.rows bb /\ H' L = some (.lst zs) /\ A8 (Dx H') (B3 (wh.take i) (ds.take i) ++ (d.rows.take k).map (B9 r)) zs)
    ⟨zs,v4,v5,v6,rfl,fM,ep,az,eC,by rw [List.take_zero]; simpa using fO⟩ (fun k σ H' _ ⟨_,_,_,_,_,_,e,_⟩=>As.of e) ?_ ?_
   ·rintro k y σ H5 hy ⟨cJ,fP,fQ,fR,rfl,s5,fS,aw,bO,bq⟩
    obtain ⟨ai,cq,t5,rfl,fT⟩ := aw.get hy
    have hk:=(List.getElem?_eq_some_iff.mp cq).1
    obtain ⟨b1,b2⟩ := ay.2.2 d (List.mem_of_getElem? aH) ai (List.mem_of_getElem? cq)
    have cX:intBits r.1 <= 600:=Cn (by have:=cy.1; omega) cy.2.1
    have f9:=bq.1
    rw [List.length_append,List.length_map,List.length_take] at f9
    refine ⟨t5,_,rfl,B6.of fT,rfl,_,_,rfl,_,_,rfl,_,_,rfl,rfl,?_⟩
    have tp:=s5 _ _ ht
    refine ⟨_,rfl,.inl ⟨rfl,_,As.of bO⟩,_,rfl,_,rfl,t,_,_,_,rfl,rfl,.inr (B6.of tp),rfl,_,rfl,_,_,rfl,rfl,E9 cX b1 (by decide),_,rfl,t,_,_,_,rfl,rfl,.inr (B6.of tp),rfl,_,rfl,t,_,_,_,rfl,rfl,.inr (B6.of tp),rfl,_,rfl,_,_,rfl,rfl,E9 cX b2 (by decide),_,_,rfl,rfl,B8,fun T2 br=>?_⟩
    have s6:A5 H5 (upd H5 T2 (.tup [.str ai.1,.int (r.1 * ai.2.1),.int (r.2 + r.1 * ai.2.2)])):=A5.upd br
    have e6:(upd H5 T2 (.tup [.str ai.1,.int (r.1 * ai.2.1),.int (r.2 + r.1 * ai.2.2)])) T2 = some (.tup [.str ai.1,.int (r.1 * ai.2.1),.int (r.2 + r.1 * ai.2.2)]):=A1
    generalize upd H5 T2 (.tup [.str ai.1,.int (r.1 * ai.2.1),.int (r.2 + r.1 * ai.2.2)]) = H6 at s6 e6 ⊢
    have bP:=s6 _ _ bO
    refine ⟨L,_,_,rfl,rfl,bP,Ap (by omega),?_⟩
    refine ⟨cJ ++ [.ref T2],_,_,_,rfl,(s5.trans s6).new hL,(Af fN).trans (s6 _ _ fS),aw.aa fun _ _ z=>(z.same s6).put bP,A1,?_⟩
    rw [Bp cq,List.map_append,<- List.append_assoc]
    exact ((bq.aa fun _ _ z=>(z.same s6).put bP).append (A8.one (Dx.put bP ⟨T2,rfl,e6⟩)))
   rintro σ H5 ⟨cJ,fP,fQ,fR,rfl,s5,_,_,bO,bq⟩
   rw [az.1,List.take_length] at bq
   refine ⟨cJ,_,_,_,_,_,rfl,s5,bO,?_⟩
   rw [B7 bH aH]
   exact bq
  rintro σ H2 ⟨zs,v2,v3,v4,v5,v6,rfl,s2,ba,hz⟩
  rw [aj.1,List.take_length,hlen,List.take_length] at hz
  exact ⟨_,rfl,q L zs H2 hL s2 ba hz⟩
def Id (K:PySem.W.Frag) (a8 a7:Addr):Sp:=fun vs H Q _=>∃ (x dx wl pl:Addr) (wh:List (Int × Int)) (ws us:List V) (ds:List PD),vs = [.ref x,.ref wl,.ref pl] /\ H x = some (.ins a7 dx []) /\ H wl = some (.lst ws) /\ A8 (F0 H) wh ws /\ H pl = some (.lst us) /\ A8 (Ak a8 a7 2 H) ds us /\ ds.length = wh.length /\ Ea wh /\ L0 wh ds /\ ((B3 wh ds).map (·.1)).Nodup /\ G1 ds <= 8 /\ ∀ (w1 p1:Addr) (H':Hp),H w1 = none -> H p1 = none -> H' x = some (.ins a7 dx (Cd w1 p1)) -> H' w1 = some (.lst ws) -> H' p1 = some (.lst us) -> (∀ b o,b ≠ x -> H b = some o -> H' b = some o) -> Q .aA H'
theorem Q9 {fd gS bj aK:FuncData} (T:Txt K mg ad a8 a7) (F:Dp K "__init__" "Many.__init__" Kb ad.c8 fd) (iA:A9 P w K mg base Aq 1 ad.cV gS ["names"] (N2 K)) (iB:Ac K gS ["names"] []) (dm:A9 P w K mg base Aq 5 ad.b3 bj ["self"] (Cm K a8 a7)) (cx:Ac K bj ["self"] []) (bN:A9 P w K mg base Aq 5 ad.aB aK ["self"] (D0 K a8 a7)) (b6:Ac K aK ["self"] []):A9 P w K mg base Aq 6 ad.c8 fd ["self","wheel","parts"] (Id K a8 a7):=by
 refine F.ok Qs (fun vs H Q E h=>?_) (fun ax A outer s H vs Q E hr h=>?_)
 ·rcases h with ⟨x,dx,wl,pl,wh,ws,us,ds,rfl,hx,au,ao,ak,aj,hlen,ab,ay,bF,hdp,q⟩ <;> rfl
 ·obtain ⟨x,dx,wl,pl,wh,ws,us,ds,rfl,hx,au,ao,ak,aj,hlen,ab,ay,bF,hdp,q⟩ := h
  refine ⟨_,(A4 (Bo (Al Ms (Dt (Cq K) (by rfl) T.cG PySem.boot_len (A0 (pv 2) A3)) (Dt (Cq K) (by rfl) T.cG PySem.boot_len (A0 (pv 1) A3)) (Ar _)) (A6 B2) Ay) (A4 (K9 (pv 0) (Br C2 (by rfl) T.cH boot_list (A0 (pv 1) A3)) rfl) (A4 (K9 (pv 0) (Br C2 (by rfl) T.cH boot_list (A0 (pv 2) A3)) rfl) (A4 (Bo (Pd (Am iA (hr.mono (by decide)) rfl T.ox T.k_x9 iB .nil Aj (A0 (C3 (Cv (Bg (pv 0) T.a9 T.eS bN (hr.mono (by decide)) b6 .nil Aj)) _ rfl Et rfl rfl (fun _ _ _ _=>(Aa (i:=0) Ev rfl (Or.inl rfl))) (fun _ _ _ _=>Bu) (fun _ _ _ _=>(Ai (Ah K) (pv 0) A2 (fun _ _=>rfl)))) A3))) (A6 B2) Ay) (A6 (Bo (Al Qm (Bg (pv 0) T.a9 T.gE dm (hr.mono (by decide)) cx .nil Aj) (Ny (v := .int 8) (by rfl) T.di.choose_spec ⟨_,rfl⟩) (Ar _)) (A6 B2) Ay)))))),?_⟩
  have cS:us.length = ws.length:=by rw [aj.1,ao.1,hlen]
  refine ⟨_,rfl,pl,_,rfl,.inl (As.of ak),_,rfl,wl,_,rfl,.inl (As.of au),rfl,_,rfl,Cu (by rw [cS]; simp) ?_⟩
  refine ⟨_,rfl,wl,_,rfl,.inl (As.of au),fun w1 gI=>?_⟩
  have s1:A5 H (upd H w1 (.lst ws)):=A5.upd gI
  have e1:(upd H w1 (.lst ws)) w1 = some (.lst ws):=A1
  generalize upd H w1 (.lst ws) = H1 at s1 e1 ⊢
  have nxw:x ≠ w1:=An hx gI
  refine ⟨_,rfl,x,_,dx,_,rfl,s1 _ _ hx,T.a9,T.ae,(by show 0 < 1000; decide),?_⟩
  generalize oy:upd H1 x (.ins a7 dx (Du "wheel" (.ref w1) [])) = H2
  have e2:H2 x = some (.ins a7 dx [("wheel",.ref w1)]):=by
   rw [<- oy]
   exact A1
  have k2:∀ b o,b ≠ x -> H1 b = some o -> H2 b = some o:=fun b o n e=>by
   rw [<- oy]
   exact (Af n).trans e
  clear oy
  have npx:pl ≠ x:=fun z=>by rw [z,hx] at ak; cases ak
  refine ⟨_,rfl,pl,_,rfl,.inl (As.of (k2 _ _ npx (s1 _ _ ak))),fun p1 fb=>?_⟩
  have s3:A5 H2 (upd H2 p1 (.lst us)):=A5.upd fb
  have e3:(upd H2 p1 (.lst us)) p1 = some (.lst us):=A1
  generalize upd H2 p1 (.lst us) = H3 at s3 e3 ⊢
  refine ⟨_,rfl,x,_,dx,_,rfl,s3 _ _ e2,T.a9,T.af,(by show 1 < 1000; decide),?_⟩
  have pf:Du "parts" (.ref p1) [("wheel",.ref w1)] = Cd w1 p1:=by
   unfold Du
   rw [if_neg (by decide)]
   rfl
  rw [pf]
  have e4:(upd H3 x (.ins a7 dx (Cd w1 p1))) x = some (.ins a7 dx (Cd w1 p1)):=A1
  have k4:∀ b o,b ≠ x -> H3 b = some o -> (upd H3 x (.ins a7 dx (Cd w1 p1))) b = some o:=fun b o n e=>(Af n).trans e
  generalize upd H3 x (.ins a7 dx (Cd w1 p1)) = H4 at e4 k4 ⊢
  have kk:∀ b o,b ≠ x -> H b = some o -> H4 b = some o:=fun b o n e=>k4 b o n (s3 _ _ (k2 b o n (s1 _ _ e)))
  have keep:∀ b o,H b = some o -> o ≠ .ins a7 dx [] -> H4 b = some o:=fun b o e n=>kk b o (fun z=>n (by rw [z,hx] at e; exact (Option.some.inj e).symm)) e
  have oz:H4 w1 = some (.lst ws):=k4 _ _ nxw.symm (s3 _ _ (k2 _ _ nxw.symm e1))
  have kH:p1 ≠ x:=(An e2 fb).symm
  have oA:H4 p1 = some (.lst us):=k4 _ _ kH e3
  have kI:A8 (F0 H4) wh ws:=ao.aa fun _ _ ⟨t,e,z⟩=>⟨t,e,keep _ _ z (fun z=>by cases z)⟩
  have kJ:=aj.aa fun _ _ z=>Ak.keep keep 2 z
  have oB:H p1 = none:=by
   cases e:H p1 with
   | none=>rfl
   | some o=>rw [k2 _ _ kH (s1 _ _ e)] at fb; cases fb
  refine ⟨_,rfl,x,dx,_,rfl,e4,rfl,x,dx,w1,p1,wh,ws,us,ds,rfl,e4,oz,kI,oA,kJ,hlen,ab,ay,fun p zs H5 hp s5 ep az=>?_⟩
  have f9:=az.1
  have gF:=ay.2.1
  refine ⟨p,rfl,.inl ⟨⟨_,As.of ep⟩,fun W hW=>?_⟩⟩
  refine Bz (K:=K) (a:=p) (xs:=zs) (fun i ys H'=>ys = (((B3 wh ds).take i).map (·.1)).map V.str /\ H' W = some (.lst ys) /\ A5 H5 H') ⟨rfl,A1,A5.upd hW⟩ (fun i ys H' _ ⟨_,_,s⟩=>As.of (s _ _ ep)) ?_ ?_
  ·rintro i u ys H' hu ⟨rfl,aY,s'⟩ Qe hQ
   obtain ⟨r,bH,t,rfl,ht⟩ := az.get hu
   have hi:=(List.getElem?_eq_some_iff.mp bH).1
   refine ⟨_,rfl,t,_,_,_,rfl,rfl,.inr (B6.of (s' _ _ ht)),rfl,?_⟩
   refine hQ _ _ aY (Ap (by rw [List.length_map,List.length_map,List.length_take]; omega)) ⟨?_,A1,s'.new hW⟩
   rw [Bp bH,List.map_append,List.map_append]
   rfl
  rintro ys H6 ⟨rfl,nu,s6⟩
  rw [f9,List.take_length] at nu
  have iC:=s5.trans s6
  refine ⟨W,(B3 wh ds).map (·.1),rfl,nu,(by rw [List.length_map]; exact gF),_,rfl,Cu (Lh bF) ?_⟩
  refine ⟨_,rfl,x,dx,_,rfl,iC _ _ e4,rfl,x,dx,w1,p1,wh,ws,us,ds,rfl,iC _ _ e4,iC _ _ oz,kI.aa (fun _ _ z=>z.av iC),iC _ _ oA,kJ.aa (fun _ _ z=>Ak.same iC 2 z),hlen,ab,ay,fun H7 s7=>?_⟩
  have nv:=iC.trans s7
  refine ⟨_,_,rfl,rfl,_,rfl,Cu (decide_eq_false (by omega)) ?_⟩
  exact q w1 p1 H7 gI oB (nv _ _ e4) (nv _ _ oz) (nv _ _ oA) fun b o n e=>nv _ _ (kk b o n e)
def C9 (K:PySem.W.Frag) (a8 a7:Addr):Sp:=fun vs H Q _=>∃ (x dx wl pl:Addr) (wh:List (Int × Int)) (ws us:List V) (ds:List PD) (t:Int),vs = [.ref x,.int t] /\ False /\ False /\ False /\ False /\ False /\ False /\ False /\ False /\ False
theorem Fk {fd aQ aL bt:FuncData} (T:Txt K mg ad a8 a7) (F:Dp K "called" "Many.called" J1 ad.b4 fd) (bQ:A9 P w K mg base Aq 1 ad.bL aQ ["self","turn"] (Gw K a8 a7)) (bR:Ac K aQ ["self","turn"] []) (bu:A9 P w K mg base Aq 1 ad.aV aL ["wheel","turn"] (Ft K)) (bw:Ac K aL ["wheel","turn"] []) (bS:A9 P w K mg base Aq 2 ad.c6 bt ["wheel","who","begin","end"] (Ie K)) (bT:Ac K bt ["wheel","who","begin","end"] []):A9 P w K mg base Aq 3 ad.b4 fd ["self","turn"] (C9 K a8 a7):=by
 refine F.ok Gu (fun vs H Q E h=>?_) (fun ax A outer s H vs Q E hr h=>?_)
 ·rcases h with ⟨x,dx,wl,pl,wh,ws,us,ds,t,rfl,hx,au,ao,ak,aj,hlen,ab,ay,q⟩ <;> rfl
 ·obtain ⟨x,dx,wl,pl,wh,ws,us,ds,t,rfl,hx,au,ao,ak,aj,hlen,ab,ay,q⟩ := h
  refine ⟨_,(A4 B2 (A4 B2 (A6 B2))),?_⟩
  exact hx.elim
def Ca (K:PySem.W.Frag) (a8 a7:Addr):Sp:=fun vs H Q _=>∃ (x dx wl pl:Addr) (wh:List (Int × Int)) (ws us:List V) (ds:List PD) (t:Int),vs = [.ref x,.int t] /\ H x = some (.ins a7 dx (Cd wl pl)) /\ H wl = some (.lst ws) /\ A8 (F0 H) wh ws /\ H pl = some (.lst us) /\ A8 (Ak a8 a7 0 H) ds us /\ ds.length = wh.length /\ Ea wh /\ L0 wh ds /\ ∀ H',A5 H H' -> Q (Kw (Bx wh ds t)) H'
theorem Fl {fd aQ aL bt bx:FuncData} (T:Txt K mg ad a8 a7) (F:Dp K "called" "Many.called" J1 ad.b4 fd) (bQ:A9 P w K mg base Aq 1 ad.bL aQ ["self","turn"] (Gw K a8 a7)) (bR:Ac K aQ ["self","turn"] []) (bu:A9 P w K mg base Aq 1 ad.aV aL ["wheel","turn"] (Ft K)) (bw:Ac K aL ["wheel","turn"] []) (bS:A9 P w K mg base Aq 2 ad.c6 bt ["wheel","who","begin","end"] (Ie K)) (bT:Ac K bt ["wheel","who","begin","end"] []) (du:A9 P w K mg base Aq 3 ad.b4 bx ["self","turn"] (C9 K a8 a7)) (cz:Ac K bx ["self","turn"] []):A9 P w K mg base Aq 4 ad.b4 fd ["self","turn"] (Ca K a8 a7):=by
 refine F.ok Gu (fun vs H Q E h=>?_) (fun ax A outer s H vs Q E hr h=>?_)
 ·rcases h with ⟨x,dx,wl,pl,wh,ws,us,ds,t,rfl,hx,au,ao,ak,aj,hlen,ab,ay,q⟩ <;> rfl
 ·obtain ⟨x,dx,wl,pl,wh,ws,us,ds,t,rfl,hx,au,ao,ak,aj,hlen,ab,ay,q⟩ := h
  refine ⟨_,(A4 (Az (i:=2) Gu.nd rfl (Or.inl rfl) (Am bu (hr.mono (by decide)) rfl T.ft T.k_x17 bw .nil Aj (A0 (B5 (pv 0) rfl) (A0 (pv 1) A3)))) (A4 (Bo (Al K8 (pv 2) Ey (Ar _)) (A6 (Ag Ey)) Ay) (A6 (Ag (Hq (Bl (D4 (Ai (Ah K) (B5 (pv 0) rfl) (pv 2) (fun _ _=>rfl)) T.aG T.gC bQ (hr.mono (by decide)) bR .nil Aj (A0 (Am bS (hr.mono (by decide)) rfl T.f7 T.k_x1 bT .nil Aj (A0 (B5 (pv 0) rfl) (A0 (pv 2) (A0 A2 (A0 (pv 1) A3))))) A3)) (D4 (Ai (Ah K) (B5 (pv 0) rfl) (pv 2) (fun _ _=>rfl)) T.a9 T.gD du (hr.mono (by decide)) cz .nil Aj (A0 (Am bS (hr.mono (by decide)) rfl T.f7 T.k_x1 bT .nil Aj (A0 (B5 (pv 0) rfl) (A0 (pv 2) (A0 A2 (A0 (pv 1) A3))))) A3)))))))),?_⟩
  refine ⟨_,rfl,x,_,dx,_,_,rfl,hx,T.a9,T.ae,rfl,_,rfl,wl,ws,wh,t,rfl,au,ao,ab.1,(fun hn H1 s1=>?_),fun i r H1 hi ht s1=>?_⟩
  ·refine ⟨_,rfl,rfl,_,rfl,Ed rfl ?_⟩
   have e:Bx wh ds t = none:=by
    unfold Bx
    rw [Ir hn]
    rfl
   have:=q H1 s1
   rw [e] at this
   exact this
  refine ⟨_,rfl,rfl,_,rfl,Cu rfl ?_⟩
  have hi1:=(List.getElem?_eq_some_iff.mp hi).1
  have cy:=ab.1 r (List.mem_of_getElem? hi)
  obtain ⟨u,hu⟩ : ∃ u,us[i]? = some u:=⟨us[i]'(by rw [aj.1]; omega),List.getElem?_eq_getElem _⟩
  obtain ⟨d,aH,aq⟩ := aj.get hu
  have fB:Kr us ((i:Nat):Int) = some u:=Eh hu
  have e:Bx wh ds t = d.call (tA r.1 r.2 t - tA r.1 r.2 0):=by
   unfold Bx
   rw [F3 ab hi ht]
   show (ds.getD i (Eb "")).call _ = _
   rw [List.getD_eq_getElem?_getD,aH,List.getD_eq_getElem?_getD,hi]
   rfl
  rw [e] at q
  refine ⟨fun v H4=>v = Kw (d.call (tA r.1 r.2 t - tA r.1 r.2 0)) /\ A5 H1 H4,?_,?_⟩
  ·obtain ⟨a,da,n,rfl,ha,rfl⟩ := aq
   exact .inl ⟨_,rfl,x,_,dx,_,_,rfl,(s1 _ _ hx),T.a9,T.af,rfl,_,rfl,pl,_,_,_,rfl,rfl,.inl (As.of (s1 _ _ ak)),fB,a,da,_,rfl,s1 _ _ ha,rfl,_,rfl,x,_,dx,_,_,rfl,(s1 _ _ hx),T.a9,T.ae,rfl,_,rfl,_,rfl,wl,ws,wh,_,_,_,i,r,rfl,s1 _ _ au,ao.aa (fun _ _ z=>z.av s1),rfl,hi,cy,a,da,n,_,rfl,s1 _ _ ha,rfl,A5.refl _⟩
  rintro v H4 ⟨rfl,s4⟩
  exact q H4 (s1.trans s4)
def Cb (K:PySem.W.Frag) (a8 a7:Addr):Sp:=fun vs H Q _=>∃ (x dx wl pl:Addr) (wh:List (Int × Int)) (ws us:List V) (ds:List PD) (t:Int),vs = [.ref x,.int t] /\ H x = some (.ins a7 dx (Cd wl pl)) /\ H wl = some (.lst ws) /\ A8 (F0 H) wh ws /\ H pl = some (.lst us) /\ A8 (Ak a8 a7 1 H) ds us /\ ds.length = wh.length /\ Ea wh /\ L0 wh ds /\ ∀ H',A5 H H' -> Q (Kw (Bx wh ds t)) H'
theorem Fm {fd aQ aL bt bx:FuncData} (T:Txt K mg ad a8 a7) (F:Dp K "called" "Many.called" J1 ad.b4 fd) (bQ:A9 P w K mg base Aq 1 ad.bL aQ ["self","turn"] (Gw K a8 a7)) (bR:Ac K aQ ["self","turn"] []) (bu:A9 P w K mg base Aq 1 ad.aV aL ["wheel","turn"] (Ft K)) (bw:Ac K aL ["wheel","turn"] []) (bS:A9 P w K mg base Aq 2 ad.c6 bt ["wheel","who","begin","end"] (Ie K)) (bT:Ac K bt ["wheel","who","begin","end"] []) (du:A9 P w K mg base Aq 4 ad.b4 bx ["self","turn"] (Ca K a8 a7)) (cz:Ac K bx ["self","turn"] []):A9 P w K mg base Aq 5 ad.b4 fd ["self","turn"] (Cb K a8 a7):=by
 refine F.ok Gu (fun vs H Q E h=>?_) (fun ax A outer s H vs Q E hr h=>?_)
 ·rcases h with ⟨x,dx,wl,pl,wh,ws,us,ds,t,rfl,hx,au,ao,ak,aj,hlen,ab,ay,q⟩ <;> rfl
 ·obtain ⟨x,dx,wl,pl,wh,ws,us,ds,t,rfl,hx,au,ao,ak,aj,hlen,ab,ay,q⟩ := h
  refine ⟨_,(A4 (Az (i:=2) Gu.nd rfl (Or.inl rfl) (Am bu (hr.mono (by decide)) rfl T.ft T.k_x17 bw .nil Aj (A0 (B5 (pv 0) rfl) (A0 (pv 1) A3)))) (A4 (Bo (Al K8 (pv 2) Ey (Ar _)) (A6 (Ag Ey)) Ay) (A6 (Ag (Hq (Bl (D4 (Ai (Ah K) (B5 (pv 0) rfl) (pv 2) (fun _ _=>rfl)) T.aG T.gC bQ (hr.mono (by decide)) bR .nil Aj (A0 (Am bS (hr.mono (by decide)) rfl T.f7 T.k_x1 bT .nil Aj (A0 (B5 (pv 0) rfl) (A0 (pv 2) (A0 A2 (A0 (pv 1) A3))))) A3)) (D4 (Ai (Ah K) (B5 (pv 0) rfl) (pv 2) (fun _ _=>rfl)) T.a9 T.gD du (hr.mono (by decide)) cz .nil Aj (A0 (Am bS (hr.mono (by decide)) rfl T.f7 T.k_x1 bT .nil Aj (A0 (B5 (pv 0) rfl) (A0 (pv 2) (A0 A2 (A0 (pv 1) A3))))) A3)))))))),?_⟩
  refine ⟨_,rfl,x,_,dx,_,_,rfl,hx,T.a9,T.ae,rfl,_,rfl,wl,ws,wh,t,rfl,au,ao,ab.1,(fun hn H1 s1=>?_),fun i r H1 hi ht s1=>?_⟩
  ·refine ⟨_,rfl,rfl,_,rfl,Ed rfl ?_⟩
   have e:Bx wh ds t = none:=by
    unfold Bx
    rw [Ir hn]
    rfl
   have:=q H1 s1
   rw [e] at this
   exact this
  refine ⟨_,rfl,rfl,_,rfl,Cu rfl ?_⟩
  have hi1:=(List.getElem?_eq_some_iff.mp hi).1
  have cy:=ab.1 r (List.mem_of_getElem? hi)
  obtain ⟨u,hu⟩ : ∃ u,us[i]? = some u:=⟨us[i]'(by rw [aj.1]; omega),List.getElem?_eq_getElem _⟩
  obtain ⟨d,aH,aq⟩ := aj.get hu
  have fB:Kr us ((i:Nat):Int) = some u:=Eh hu
  have e:Bx wh ds t = d.call (tA r.1 r.2 t - tA r.1 r.2 0):=by
   unfold Bx
   rw [F3 ab hi ht]
   show (ds.getD i (Eb "")).call _ = _
   rw [List.getD_eq_getElem?_getD,aH,List.getD_eq_getElem?_getD,hi]
   rfl
  rw [e] at q
  refine ⟨fun v H4=>v = Kw (d.call (tA r.1 r.2 t - tA r.1 r.2 0)) /\ A5 H1 H4,?_,?_⟩
  ·rcases aq with ⟨a,da,n,rfl,ha,rfl⟩ | ⟨a,da,fG,fH,fI,fJ,fK,fL,rfl,g1,g2,g3,g4,g5,g6,g7,g8,rfl⟩
   ·exact .inl ⟨_,rfl,x,_,dx,_,_,rfl,(s1 _ _ hx),T.a9,T.af,rfl,_,rfl,pl,_,_,_,rfl,rfl,.inl (As.of (s1 _ _ ak)),fB,a,da,_,rfl,s1 _ _ ha,rfl,_,rfl,x,_,dx,_,_,rfl,(s1 _ _ hx),T.a9,T.ae,rfl,_,rfl,_,rfl,wl,ws,wh,_,_,_,i,r,rfl,s1 _ _ au,ao.aa (fun _ _ z=>z.av s1),rfl,hi,cy,a,da,n,_,rfl,s1 _ _ ha,rfl,A5.refl _⟩
   ·exact .inr ⟨_,rfl,x,_,dx,_,_,rfl,(s1 _ _ hx),T.a9,T.af,rfl,_,rfl,pl,_,_,_,rfl,rfl,.inl (As.of (s1 _ _ ak)),fB,a,da,_,rfl,s1 _ _ g1,rfl,_,rfl,x,_,dx,_,_,rfl,(s1 _ _ hx),T.a9,T.ae,rfl,_,rfl,_,rfl,wl,ws,wh,_,_,_,i,r,rfl,s1 _ _ au,ao.aa (fun _ _ z=>z.av s1),rfl,hi,cy,a,da,fG,fH,fI,fJ,fK,fL,_,rfl,s1 _ _ g1,s1 _ _ g2,g3.aa (fun _ _ z=>z.av s1),s1 _ _ g4,g5.aa (fun _ _ z=>Ak.same s1 0 z),g6,g7,g8,fun H4 s4=>⟨rfl,s4⟩⟩
  rintro v H4 ⟨rfl,s4⟩
  exact q H4 (s1.trans s4)
def Cc (K:PySem.W.Frag) (a8 a7:Addr):Sp:=fun vs H Q _=>∃ (x dx wl pl:Addr) (wh:List (Int × Int)) (ws us:List V) (ds:List PD) (t:Int),vs = [.ref x,.int t] /\ H x = some (.ins a7 dx (Cd wl pl)) /\ H wl = some (.lst ws) /\ A8 (F0 H) wh ws /\ H pl = some (.lst us) /\ A8 (Ak a8 a7 2 H) ds us /\ ds.length = wh.length /\ Ea wh /\ L0 wh ds /\ ∀ H',A5 H H' -> Q (Kw (Bx wh ds t)) H'
theorem Fn {fd aQ aL bt bx:FuncData} (T:Txt K mg ad a8 a7) (F:Dp K "called" "Many.called" J1 ad.b4 fd) (bQ:A9 P w K mg base Aq 1 ad.bL aQ ["self","turn"] (Gw K a8 a7)) (bR:Ac K aQ ["self","turn"] []) (bu:A9 P w K mg base Aq 1 ad.aV aL ["wheel","turn"] (Ft K)) (bw:Ac K aL ["wheel","turn"] []) (bS:A9 P w K mg base Aq 2 ad.c6 bt ["wheel","who","begin","end"] (Ie K)) (bT:Ac K bt ["wheel","who","begin","end"] []) (du:A9 P w K mg base Aq 5 ad.b4 bx ["self","turn"] (Cb K a8 a7)) (cz:Ac K bx ["self","turn"] []):A9 P w K mg base Aq 6 ad.b4 fd ["self","turn"] (Cc K a8 a7):=by
 refine F.ok Gu (fun vs H Q E h=>?_) (fun ax A outer s H vs Q E hr h=>?_)
 ·rcases h with ⟨x,dx,wl,pl,wh,ws,us,ds,t,rfl,hx,au,ao,ak,aj,hlen,ab,ay,q⟩ <;> rfl
 ·obtain ⟨x,dx,wl,pl,wh,ws,us,ds,t,rfl,hx,au,ao,ak,aj,hlen,ab,ay,q⟩ := h
  refine ⟨_,(A4 (Az (i:=2) Gu.nd rfl (Or.inl rfl) (Am bu (hr.mono (by decide)) rfl T.ft T.k_x17 bw .nil Aj (A0 (B5 (pv 0) rfl) (A0 (pv 1) A3)))) (A4 (Bo (Al K8 (pv 2) Ey (Ar _)) (A6 (Ag Ey)) Ay) (A6 (Ag (Hq (Bl (D4 (Ai (Ah K) (B5 (pv 0) rfl) (pv 2) (fun _ _=>rfl)) T.aG T.gC bQ (hr.mono (by decide)) bR .nil Aj (A0 (Am bS (hr.mono (by decide)) rfl T.f7 T.k_x1 bT .nil Aj (A0 (B5 (pv 0) rfl) (A0 (pv 2) (A0 A2 (A0 (pv 1) A3))))) A3)) (D4 (Ai (Ah K) (B5 (pv 0) rfl) (pv 2) (fun _ _=>rfl)) T.a9 T.gD du (hr.mono (by decide)) cz .nil Aj (A0 (Am bS (hr.mono (by decide)) rfl T.f7 T.k_x1 bT .nil Aj (A0 (B5 (pv 0) rfl) (A0 (pv 2) (A0 A2 (A0 (pv 1) A3))))) A3)))))))),?_⟩
  refine ⟨_,rfl,x,_,dx,_,_,rfl,hx,T.a9,T.ae,rfl,_,rfl,wl,ws,wh,t,rfl,au,ao,ab.1,(fun hn H1 s1=>?_),fun i r H1 hi ht s1=>?_⟩
  ·refine ⟨_,rfl,rfl,_,rfl,Ed rfl ?_⟩
   have e:Bx wh ds t = none:=by
    unfold Bx
    rw [Ir hn]
    rfl
   have:=q H1 s1
   rw [e] at this
   exact this
  refine ⟨_,rfl,rfl,_,rfl,Cu rfl ?_⟩
  have hi1:=(List.getElem?_eq_some_iff.mp hi).1
  have cy:=ab.1 r (List.mem_of_getElem? hi)
  obtain ⟨u,hu⟩ : ∃ u,us[i]? = some u:=⟨us[i]'(by rw [aj.1]; omega),List.getElem?_eq_getElem _⟩
  obtain ⟨d,aH,aq⟩ := aj.get hu
  have fB:Kr us ((i:Nat):Int) = some u:=Eh hu
  have e:Bx wh ds t = d.call (tA r.1 r.2 t - tA r.1 r.2 0):=by
   unfold Bx
   rw [F3 ab hi ht]
   show (ds.getD i (Eb "")).call _ = _
   rw [List.getD_eq_getElem?_getD,aH,List.getD_eq_getElem?_getD,hi]
   rfl
  rw [e] at q
  refine ⟨fun v H4=>v = Kw (d.call (tA r.1 r.2 t - tA r.1 r.2 0)) /\ A5 H1 H4,?_,?_⟩
  ·rcases aq with ⟨a,da,n,rfl,ha,rfl⟩ | ⟨a,da,fG,fH,fI,fJ,fK,fL,rfl,g1,g2,g3,g4,g5,g6,g7,g8,rfl⟩
   ·exact .inl ⟨_,rfl,x,_,dx,_,_,rfl,(s1 _ _ hx),T.a9,T.af,rfl,_,rfl,pl,_,_,_,rfl,rfl,.inl (As.of (s1 _ _ ak)),fB,a,da,_,rfl,s1 _ _ ha,rfl,_,rfl,x,_,dx,_,_,rfl,(s1 _ _ hx),T.a9,T.ae,rfl,_,rfl,_,rfl,wl,ws,wh,_,_,_,i,r,rfl,s1 _ _ au,ao.aa (fun _ _ z=>z.av s1),rfl,hi,cy,a,da,n,_,rfl,s1 _ _ ha,rfl,A5.refl _⟩
   ·exact .inr ⟨_,rfl,x,_,dx,_,_,rfl,(s1 _ _ hx),T.a9,T.af,rfl,_,rfl,pl,_,_,_,rfl,rfl,.inl (As.of (s1 _ _ ak)),fB,a,da,_,rfl,s1 _ _ g1,rfl,_,rfl,x,_,dx,_,_,rfl,(s1 _ _ hx),T.a9,T.ae,rfl,_,rfl,_,rfl,wl,ws,wh,_,_,_,i,r,rfl,s1 _ _ au,ao.aa (fun _ _ z=>z.av s1),rfl,hi,cy,a,da,fG,fH,fI,fJ,fK,fL,_,rfl,s1 _ _ g1,s1 _ _ g2,g3.aa (fun _ _ z=>z.av s1),s1 _ _ g4,g5.aa (fun _ _ z=>Ak.same s1 1 z),g6,g7,g8,fun H4 s4=>⟨rfl,s4⟩⟩
  rintro v H4 ⟨rfl,s4⟩
  exact q H4 (s1.trans s4)
def Gv (K:PySem.W.Frag):Sp:=fun vs H Q _=>∃ (a:Addr) (ns:List Int) (k:Int),vs = [.ref a,.int k] /\ As K H a (ns.map V.int) /\ 0 <= k /\ Q (.int (Dq ns k)) H
theorem Qg {fd  : FuncData} (T:Txt K mg ad a8 a7) (F:Dp K "_law_cell_at" "_law_cell_at" Lp ad.bM fd):A9 P w K mg base Aq 1 ad.bM fd ["script","k"] (Gv K):=by
 refine F.ok Qv (fun vs H Q E h=>?_) (fun ax A outer s H vs Q E hr h=>?_)
 ·rcases h with ⟨a,ns,k,rfl,hS,hk,q⟩ <;> rfl
 ·obtain ⟨a,ns,k,rfl,hS,hk,q⟩ := h
  refine ⟨_,(A4 (Bo (Al Fy (pv 1) (Dt (Cq K) (by rfl) T.cG PySem.boot_len (A0 (pv 0) A3)) (Ar _)) (A6 (Ag (Ai (Ah K) (pv 0) (pv 1) (fun _ _=>rfl)))) Ay) (A6 (Ag A2))),?_⟩
  refine ⟨_,rfl,_,rfl,a,_,rfl,.inl hS,_,_,rfl,rfl,_,rfl,?_⟩
  refine Ix (fun bD=>?_) (fun bD=>?_)
  ·have iD:k < ns.length:=by simpa using bD
   exact ⟨_,rfl,_,rfl,a,_,_,_,rfl,rfl,.inl hS,Ng hk iD,q⟩
  ·have iD:¬ k < ns.length:=by simpa using bD
   rw [L4 hk iD] at q
   exact q
def Ih (K:PySem.W.Frag):Sp:=fun vs H Q _=>∃ (c m:Int),vs = [.int c,.int m] /\ 1 <= m /\ m <= 4 /\ ∀ (p:Addr) (us:List V) (wh:List (Int × Int)) (H':Hp),A5 H H' -> H p = none -> H' p = some (.lst us) -> A8 (F0 H') wh us -> (wh.length:Int) = m -> Ea wh -> (∀ r ∈ wh,r.1 <= 64) -> Q (.ref p) H'
theorem Qc {fd  : FuncData} (T:Txt K mg ad a8 a7) (F:Dp K "_law_wheel_by" "_law_wheel_by" Kc ad.c9 fd):A9 P w K mg base Aq 1 ad.c9 fd ["cell","many"] (Ih K):=by
 refine F.ok F9 (fun vs H Q E h=>?_) (fun ax A outer s H vs Q E hr h=>?_)
 ·rcases h with ⟨c,m,rfl,ny,hm4,q⟩ <;> rfl
 ·obtain ⟨c,m,rfl,ny,hm4,q⟩ := h
  refine ⟨_,(A4 (Az (i:=2) F9.nd rfl (Or.inl rfl) (Ci A3)) (A4 (Az (i:=3) F9.nd rfl (Or.inr rfl) (Ab B4 (pv 1) (Ab Bt (pv 0) A2))) (A4 (Bw PassesOwn.never rfl (Cr (by rfl) T.bC (A0 (pv 1) A3)) (Aa (i:=4) F9.nd rfl (Or.inl rfl)) (A4 (Az (i:=0) F9.nd rfl (Or.inl rfl) (Ab Cp (pv 0) A2)) (A4 (Az (i:=5) F9.nd rfl (Or.inl rfl) (Ab B4 A2 (Ab Bt (pv 0) A2))) (A4 (Az (i:=6) F9.nd rfl (Or.inl rfl) (Ab Bt (Ab B4 (pv 4) (Ab Cp (pv 0) A2)) (pv 3))) (A4 (Gr (i:=7) F9.nd rfl (Cv (pv 2)) _ rfl F1 rfl rfl (fun _ _ _ _=>(Aa (i:=0) F4 rfl (Or.inl rfl))) (fun _ _ _ _=>Bu) (fun _ _ _ _=>(Ab Bt (Ai (Ah K) (pv 0) A2 (fun _ _=>rfl)) (pv 1))) rfl rfl) (A4 (Mw PassesOwn.never (Al (P8 K) (pv 6) (pv 7) rfl) (A6 (Az (i:=6) F9.nd rfl (Or.inl rfl) (Ab Bt (Ab B4 (pv 6) A2) (pv 3))))) (A6 (E6 (Gp PySem.F.plainAttrs_list PySem.F.slot_list_append PySem.F.type_list_append C0 (pv 2) (A0 (Bk (A0 (Ab Bf (pv 3) (pv 5)) (A0 (Ab B4 (pv 6) (Ab Bf (pv 3) (Ab Bt (Ab Cp (pv 0) A2) (pv 5)))) A3))) A3)))))))))) (A6 (Ag (pv 2)))))),?_⟩
  refine ⟨B8,fun L hL=>?_⟩
  have s1:A5 H (upd H L (.lst [])):=A5.upd hL
  have e1:(upd H L (.lst [])) L = some (.lst []):=A1
  generalize upd H L (.lst []) = H1 at s1 e1 ⊢
  have hc2:=Bh c (show (0:Int) < 2 by decide)
  refine ⟨_,rfl,_,rfl,_,_,rfl,rfl,by simp,_,_,rfl,rfl,?_⟩
  dsimp only
  generalize gK:m + c % 2 = base
  have jY:1 <= base /\ base <= 5 /\ m <= base:=by omega
  refine ⟨_,rfl,m,rfl,by omega,by omega,?_⟩
  refine La (n:=m.toNat) (fun i σ H'=>∃ (c:Int) (us:List V) (wh:List (Int × Int)) (v4 v5 v6 v7:Option V),σ = [some (.int c),some (.int m),some (.ref L),some (.int base),v4,v5,v6,v7] /\ A5 H H' /\ H' L = some (.lst us) /\ A8 (F0 H') wh us /\ wh.length = i /\ L3 base wh) ⟨c,[],[],none,none,none,none,rfl,s1,e1,A8.nil,rfl,⟨(fun r hr=>by cases hr),List.nodup_nil⟩⟩ ?_ ?_
  ·rintro i σ H2 hi ⟨c,us,wh,v4,v5,v6,v7,rfl,s2,ba,ao,au,cX⟩
   have cS:=ao.1
   refine ⟨_,rfl,_,_,rfl,rfl,⟨by decide,by decide⟩,?_⟩
   dsimp only
   generalize c / 3 = c
   have hc4:=Bh c (show (0:Int) < 4 by decide)
   refine ⟨_,rfl,_,_,rfl,rfl,by simp,_,_,rfl,rfl,?_⟩
   dsimp only
   generalize htm:1 + c % 4 = times
   have ht:1 <= times /\ times <= 4:=by omega
   have ak:=Bh (0 + (i:Int) + c / 4) (show (0:Int) < base by omega)
   refine ⟨_,rfl,_,rfl,_,_,rfl,rfl,⟨by decide,by decide⟩,_,_,rfl,rfl,_,rfl,_,_,rfl,rfl,(by show (0:Int) < base; omega),?_⟩
   dsimp only
   generalize (0 + (i:Int) + c / 4) % base = place at ak ⊢
   refine ⟨_,rfl,L,rfl,.inl ⟨⟨_,As.of ba⟩,fun W hW=>?_⟩⟩
   refine Bz (K:=K) (a:=L) (xs:=us) (fun k ys H'=>ys = ((wh.take k).map fun r=>r.2 % base).map V.int /\ H' W = some (.lst ys) /\ A5 H2 H') ⟨rfl,A1,A5.upd hW⟩ (fun k ys H' _ ⟨_,_,s⟩=>As.of (s _ _ ba)) ?_ ?_
   ·rintro k u ys H' hu ⟨rfl,aY,s'⟩ Qe hQ
    obtain ⟨r,bH,t,rfl,ht1⟩ := ao.get hu
    have hk:=(List.getElem?_eq_some_iff.mp bH).1
    refine ⟨_,rfl,t,_,_,_,rfl,rfl,.inr (B6.of (s' _ _ ht1)),rfl,_,rfl,_,_,rfl,rfl,(by show (0:Int) < base; omega),?_⟩
    refine hQ _ _ aY (Ap (by rw [List.length_map,List.length_map,List.length_take]; omega)) ⟨?_,A1,s'.new hW⟩
    rw [Bp bH,List.map_append,List.map_append]
    rfl
   rintro ys H3 ⟨rfl,hW3,s3⟩
   rw [cS,List.take_length] at hW3
   have b5:=s2.trans s3
   obtain ⟨f,hf0,hf1,hf2⟩ := K0 (base:=base) (xs:=wh.map fun r=>r.2 % base) (by rw [List.length_map]; omega)
   refine N8 (fun σ' H'=>∃ place:Int,σ' = [some (.int c),some (.int m),some (.ref L),some (.int base),some (.int (0 + (i:Int))),some (.int times),some (.int place),some (.ref W)] /\ H' = H3 /\ 0 <= place /\ place < base) (fun σ' _=>S9 f base σ') ⟨place,rfl,rfl,ak.1,ak.2⟩ ?_ ?_
   ·rintro σ' H' ⟨pl,rfl,rfl,hp0,fb⟩
    refine ⟨_,rfl,_,rfl,W,_,rfl,.inl (As.of hW3),rfl,I0 _,_,rfl,?_⟩
    rw [Jg]
    refine Ix (fun jZ=>?_) (fun oC=>?_)
    ·have oE:pl ∈ wh.map fun r=>r.2 % base:=of_decide_eq_true jZ
     have eF:pl ≠ f:=fun z=>hf2 (z ▸ oE)
     have hpp:=Bh (pl + 1) (show (0:Int) < base by omega)
     exact ⟨_,rfl,_,_,rfl,rfl,_,rfl,_,_,rfl,rfl,(by show (0:Int) < base; omega),⟨_,rfl,rfl,hpp.1,hpp.2⟩,Mb (by omega) ⟨hf0,hf1⟩ ⟨hp0,fb⟩ eF⟩
    ·have kK:pl ∉ wh.map fun r=>r.2 % base:=fun z=>oC (decide_eq_true z)
     refine ⟨_,rfl,.inl ⟨rfl,_,As.of (s3 _ _ ba)⟩,_,rfl,_,rfl,_,_,rfl,rfl,Nu (by omega) (by omega),_,rfl,_,rfl,_,rfl,_,_,rfl,rfl,⟨by decide,by decide⟩,_,rfl,_,_,rfl,rfl,(by show (0:Int) < times; omega),_,_,rfl,rfl,G9 (by omega) (by omega),_,_,rfl,rfl,B8,fun T2 br=>?_⟩
     have s4:A5 H' (upd H' T2 (.tup [.int (base * times),.int (pl + base * (c / 5 % times))])):=A5.upd br
     have e4:(upd H' T2 (.tup [.int (base * times),.int (pl + base * (c / 5 % times))])) T2 = some (.tup [.int (base * times),.int (pl + base * (c / 5 % times))]):=A1
     generalize upd H' T2 (.tup [.int (base * times),.int (pl + base * (c / 5 % times))]) = H4 at s4 e4 ⊢
     have eC:=s4 _ _ (s3 _ _ ba)
     refine ⟨L,_,_,rfl,rfl,eC,Ap (by omega),?_⟩
     refine ⟨c,us ++ [.ref T2],wh ++ [(base * times,pl + base * (c / 5 % times))],_,_,_,_,rfl,(b5.trans s4).new hL,A1,(ao.aa fun _ _ z=>F0.put eC ((z.av s3).av s4)).append (A8.one (F0.put eC ⟨T2,rfl,e4⟩)),by rw [List.length_append,List.length_singleton,au],cX.snoc (by omega) ht ⟨hp0,fb⟩ kK⟩
   ·intro σ H0 Q1 Q2 z h1
    obtain ⟨v,x1,v2,x2,W',xs,x3,sq,x4,fl,b,x5,h2⟩ := h1
    exact ⟨v,x1,v2,x2,W',xs,x3,sq,x4,fl,b,x5,z _ _ h2⟩
  rintro σ H2 ⟨c,us,wh,v4,v5,v6,v7,rfl,s2,ba,ao,au,cX⟩
  have ab:=cX.ok (by omega) (by omega)
  exact ⟨_,rfl,q L us wh H2 s2 hL ba ao (by omega) ab.1 ab.2⟩
def Dc (K:PySem.W.Frag):Sp:=fun vs H Q _=>∃ (a:Addr) (ns:List Int) (w:Int) (n:Nat),vs = [.ref a,.int 0,.int w] /\ H a = some (.lst (ns.map V.int)) /\ w = (n:Nat) /\ n <= 63 /\ ((Fe 0 n).map nm).Nodup /\ ∀ (v:V) (d:PD) (H':Hp),A5 H H' -> (∀ ah,NT H H' ah -> Au 0 ah d v) -> Fc 0 n d -> Q v H'
theorem Hd {fd aR bz:FuncData} (T:Txt K mg ad a8 a7) (F:Dp K "_law_nest" "_law_nest" El ad.aC fd) (bI:A9 P w K mg base Aq 1 ad.bM aR ["script","k"] (Gv K)) (bJ:Ac K aR ["script","k"] []) (cK:A9 P w K mg base Aq 1 ad.c9 bz ["cell","many"] (Ih K)) (cL:Ac K bz ["cell","many"] []):A9 P w K mg base Aq 2 ad.aC fd ["script","deep","at"] (Dc K):=by
 refine F.ok C4 (fun vs H Q E h=>?_) (fun ax A outer s H vs Q E hr h=>?_)
 ·rcases h with ⟨a,ns,w,n,rfl,ha,rfl,hn,bF,q⟩ <;> rfl
 ·obtain ⟨a,ns,w,n,rfl,ha,rfl,hn,bF,q⟩ := h
  refine ⟨_,(A4 (Az (i:=3) C4.nd rfl (Or.inl rfl) (Am bI (hr.mono (by decide)) rfl T.fu T.k_x6 bJ .nil Aj (A0 (pv 0) (A0 (pv 2) A3)))) (A4 (Bo (PW.pt (Fp (Al C7 (pv 1) A2 (Ar _)) (Fo (PW.pt (Gb (Al Fy (pv 1) A2 (Ar _)) (Ga (Al C7 (Ab Bt (pv 3) A2) A2 (Ar _)))))))) (A6 (Ag (Bk (A0 Bv (A0 (Br Co (by rfl) T.eQ boot_str (A0 (pv 2) A3)) A3))))) Ay) (A4 B2 (A4 B2 (A6 B2))))),?_⟩
  refine ⟨_,rfl,_,rfl,a,ns,_,rfl,As.of ha,(by omega),?_⟩
  refine ⟨_,rfl,rfl,_,rfl,_,(fun _ Q1 z1=>⟨_,rfl,_,_,rfl,rfl,_,rfl,_,(fun _ Q2 z2=>⟨_,rfl,_,_,rfl,rfl,by simp,rfl,_,rfl,z2⟩),z1⟩),Ix (fun h0=>?_) (fun h0=>?_)⟩
  ·refine ⟨_,rfl,_,rfl,Ei (by omega),B8,fun T2 br=>?_⟩
   exact q (.ref T2) (Eb (nm n)) _ (A5.upd br) (fun ah n2=>Au.one (n2 _ _ A1 (.inr ⟨_,rfl⟩)) 0) (F5 0 n)
  exact absurd rfl h0
def Dd (K:PySem.W.Frag):Sp:=fun vs H Q _=>∃ (a:Addr) (ns:List Int) (w:Int) (n:Nat),vs = [.ref a,.int 1,.int w] /\ H a = some (.lst (ns.map V.int)) /\ w = (n:Nat) /\ n <= 15 /\ ((Fe 1 n).map nm).Nodup /\ ∀ (v:V) (d:PD) (H':Hp),A5 H H' -> (∀ ah,NT H H' ah -> Au 1 ah d v) -> Fc 1 n d -> Q v H'
theorem He {fd aR bz aM:FuncData} (T:Txt K mg ad a8 a7) (F:Dp K "_law_nest" "_law_nest" El ad.aC fd) (bI:A9 P w K mg base Aq 1 ad.bM aR ["script","k"] (Gv K)) (bJ:Ac K aR ["script","k"] []) (cK:A9 P w K mg base Aq 1 ad.c9 bz ["cell","many"] (Ih K)) (cL:Ac K bz ["cell","many"] []) (bU:A9 P w K mg base Aq 2 ad.aC aM ["script","deep","at"] (Dc K)) (b7:Ac K aM ["script","deep","at"] []):A9 P w K mg base Aq 3 ad.aC fd ["script","deep","at"] (Dd K):=by
 refine F.ok C4 (fun vs H Q E h=>?_) (fun ax A outer s H vs Q E hr h=>?_)
 ·rcases h with ⟨a,ns,w,n,rfl,ha,rfl,hn,bF,q⟩ <;> rfl
 ·obtain ⟨a,ns,w,n,rfl,ha,rfl,hn,bF,q⟩ := h
  refine ⟨_,(A4 (Az (i:=3) C4.nd rfl (Or.inl rfl) (Am bI (hr.mono (by decide)) rfl T.fu T.k_x6 bJ .nil Aj (A0 (pv 0) (A0 (pv 2) A3)))) (A4 (Bo (PW.pt (Fp (Al C7 (pv 1) A2 (Ar _)) (Fo (PW.pt (Gb (Al Fy (pv 1) A2 (Ar _)) (Ga (Al C7 (Ab Bt (pv 3) A2) A2 (Ar _)))))))) (A6 (Ag (Bk (A0 Bv (A0 (Br Co (by rfl) T.eQ boot_str (A0 (pv 2) A3)) A3))))) Ay) (A4 (Az (i:=4) C4.nd rfl (Or.inl rfl) (Ab B4 A2 (Ab Bt (Ab Cp (pv 3) A2) (pv 1)))) (A4 (Az (i:=5) C4.nd rfl (Or.inl rfl) (Am cK (hr.mono (by decide)) rfl T.ix T.k_x3 cL .nil Aj (A0 (Ab Cp (pv 3) A2) (A0 (pv 4) A3)))) (A6 (Ag (Bk (A0 Bv (A0 (pv 5) (A0 (C3 (Cr (by rfl) T.bC (A0 (pv 4) A3)) _ rfl D8 rfl rfl (fun _ _ _ _=>(Aa (i:=0) Da rfl (Or.inl rfl))) (fun _ _ _ _=>Bu) (fun _ _ _ _=>(Am bU (hr.mono (by decide)) rfl T.eM T.k_x13 b7 .nil Aj (A0 (pv 1) (A0 (Ab Ex (pv 2) A2) (A0 (Ab B4 (Ab B4 (Ab Bf A2 (pv 3)) A2) (pv 0)) A3)))))) A3)))))))))),?_⟩
  refine ⟨_,rfl,_,rfl,a,ns,_,rfl,As.of ha,(by omega),?_⟩
  refine ⟨_,rfl,rfl,_,rfl,_,(fun _ Q1 z1=>⟨_,rfl,_,_,rfl,rfl,_,rfl,_,(fun _ Q2 z2=>⟨_,rfl,_,_,rfl,rfl,by simp,rfl,_,rfl,z2⟩),z1⟩),Ix (fun h0=>?_) (fun h0=>?_)⟩
  ·refine ⟨_,rfl,_,rfl,Ei (by omega),B8,fun T2 br=>?_⟩
   exact q (.ref T2) (Eb (nm n)) _ (A5.upd br) (fun ah n2=>Au.one (n2 _ _ A1 (.inr ⟨_,rfl⟩)) 1) (F5 1 n)
  have hmr:=Bh (Dq ns ((n:Nat):Int) / 4) (show (0:Int) < 1 by decide)
  refine ⟨_,rfl,_,_,rfl,rfl,⟨by decide,by decide⟩,_,rfl,_,_,rfl,rfl,by simp,_,_,rfl,rfl,?_⟩
  dsimp only
  generalize hm:1 + Dq ns ((n:Nat):Int) / 4 % 1 = m
  have ny:1 <= m /\ m <= 1:=by omega
  refine ⟨_,rfl,_,_,rfl,rfl,⟨by decide,by decide⟩,_,rfl,_,m,rfl,by omega,by omega,fun wl ws wh H1 s1 fU au ao hwm ab iy=>?_⟩
  have hwn:wh.length = m.toNat:=by omega
  refine ⟨_,rfl,_,rfl,m,rfl,by omega,by omega,fun W hW=>?_⟩
  refine Dz (cnt:=m.toNat) (fun i ys H'=>∃ ds:List PD,A8 (fun d u=>∀ ah,NT (upd H1 W (.lst [])) H' ah -> Au 0 ah d u) ds ys /\ ds.length = i /\ (∀ d ∈ ds,Fv d /\ ∀ r ∈ d.rows,r.2.1 <= 64 ^ 0) /\ (ds.flatMap Ew).Sublist ((List.range i).flatMap fun k=>(Fe 0 (4 * n + 1 + k)).map nm) /\ H' W = some (.lst ys) /\ A5 H1 H') ⟨[],A8.nil,rfl,(fun d hd=>by cases hd),List.Sublist.refl _,A1,A5.upd hW⟩ ?_ ?_
  ·rintro i ys H' hi ⟨ds,aj,dU,hg,aU,aY,s'⟩ Qe hQ
   have kL:=s1.trans s'
   refine ⟨_,rfl,_,rfl,_,_,rfl,rfl,_,rfl,_,_,rfl,rfl,G9 (by decide) (by decide),_,_,rfl,rfl,_,rfl,_,_,rfl,rfl,a,ns,_,4 * n + 1 + i,rfl,kL _ _ ha,(by push_cast; omega),by omega,bF.sublist (Iv (by omega)),fun v d H2 s2 ht dc=>?_⟩
   have eW:=s2 _ _ aY
   refine hQ _ _ eW (Ap (by rw [aj.1]; omega)) ⟨ds ++ [d],(aj.aa fun _ _ z ah n2=>z ah (Fj aY s2 n2)).append (A8.one fun ah n2=>ht ah (Fi aY s' s2 n2)),Gh dU,fun x hx=>?_,?_,A1,(s'.trans s2).new hW⟩
   ·rcases List.mem_append.mp hx with z | z
    ·exact hg x z
    ·rw [List.mem_singleton.mp z]
     exact ⟨dc.1,dc.2.2⟩
   ·rw [List.flatMap_append,Gs,List.flatMap_singleton]
    exact aU.append dc.2.1
  rintro ys H2 ⟨ds,aj,dU,hg,aU,d9,s2⟩
  rw [<- dU] at aU
  obtain ⟨ay,dc⟩ := Fg (lv:=0) (a:=n) ab (by omega) iy hg aU (by omega) (by decide) bF
  refine ⟨B8,fun T2 br=>?_⟩
  have s3:A5 H2 (upd H2 T2 (.tup [.str "many",.ref wl,.ref W])):=A5.upd br
  have eT:(upd H2 T2 (.tup [.str "many",.ref wl,.ref W])) T2 = some (.tup [.str "many",.ref wl,.ref W]):=A1
  refine q (.ref T2) _ _ ((s1.trans s2).trans s3) (fun ah n2=>.inr ⟨T2,wl,W,wh,ws,ys,ds,rfl,n2 _ _ eT (.inr ⟨_,rfl⟩),n2 _ _ (s3 _ _ (s2 _ _ au)) (.inl fU),ao.aa (fun _ _ ⟨t,e,z⟩=>⟨t,e,n2 _ _ (s3 _ _ (s2 _ _ z)) (.inr ⟨_,rfl⟩)⟩),n2 _ _ (s3 _ _ d9) (.inl (s1.free hW)),aj.aa (fun _ _ z=>z ah (Fh s1 hW s3 n2)),by omega,ab,ay,rfl⟩) dc
def De (K:PySem.W.Frag):Sp:=fun vs H Q _=>∃ (a:Addr) (ns:List Int) (w:Int) (n:Nat),vs = [.ref a,.int 2,.int w] /\ H a = some (.lst (ns.map V.int)) /\ w = (n:Nat) /\ n <= 3 /\ ((Fe 2 n).map nm).Nodup /\ ∀ (v:V) (d:PD) (H':Hp),A5 H H' -> (∀ ah,NT H H' ah -> Au 2 ah d v) -> Fc 2 n d -> Q v H'
theorem Hf {fd aR bz aM:FuncData} (T:Txt K mg ad a8 a7) (F:Dp K "_law_nest" "_law_nest" El ad.aC fd) (bI:A9 P w K mg base Aq 1 ad.bM aR ["script","k"] (Gv K)) (bJ:Ac K aR ["script","k"] []) (cK:A9 P w K mg base Aq 1 ad.c9 bz ["cell","many"] (Ih K)) (cL:Ac K bz ["cell","many"] []) (bU:A9 P w K mg base Aq 3 ad.aC aM ["script","deep","at"] (Dd K)) (b7:Ac K aM ["script","deep","at"] []):A9 P w K mg base Aq 4 ad.aC fd ["script","deep","at"] (De K):=by
 refine F.ok C4 (fun vs H Q E h=>?_) (fun ax A outer s H vs Q E hr h=>?_)
 ·rcases h with ⟨a,ns,w,n,rfl,ha,rfl,hn,bF,q⟩ <;> rfl
 ·obtain ⟨a,ns,w,n,rfl,ha,rfl,hn,bF,q⟩ := h
  refine ⟨_,(A4 (Az (i:=3) C4.nd rfl (Or.inl rfl) (Am bI (hr.mono (by decide)) rfl T.fu T.k_x6 bJ .nil Aj (A0 (pv 0) (A0 (pv 2) A3)))) (A4 (Bo (PW.pt (Fp (Al C7 (pv 1) A2 (Ar _)) (Fo (PW.pt (Gb (Al Fy (pv 1) A2 (Ar _)) (Ga (Al C7 (Ab Bt (pv 3) A2) A2 (Ar _)))))))) (A6 (Ag (Bk (A0 Bv (A0 (Br Co (by rfl) T.eQ boot_str (A0 (pv 2) A3)) A3))))) Ay) (A4 (Az (i:=4) C4.nd rfl (Or.inl rfl) (Ab B4 A2 (Ab Bt (Ab Cp (pv 3) A2) (pv 1)))) (A4 (Az (i:=5) C4.nd rfl (Or.inl rfl) (Am cK (hr.mono (by decide)) rfl T.ix T.k_x3 cL .nil Aj (A0 (Ab Cp (pv 3) A2) (A0 (pv 4) A3)))) (A6 (Ag (Bk (A0 Bv (A0 (pv 5) (A0 (C3 (Cr (by rfl) T.bC (A0 (pv 4) A3)) _ rfl D8 rfl rfl (fun _ _ _ _=>(Aa (i:=0) Da rfl (Or.inl rfl))) (fun _ _ _ _=>Bu) (fun _ _ _ _=>(Am bU (hr.mono (by decide)) rfl T.eM T.k_x13 b7 .nil Aj (A0 (pv 1) (A0 (Ab Ex (pv 2) A2) (A0 (Ab B4 (Ab B4 (Ab Bf A2 (pv 3)) A2) (pv 0)) A3)))))) A3)))))))))),?_⟩
  refine ⟨_,rfl,_,rfl,a,ns,_,rfl,As.of ha,(by omega),?_⟩
  refine ⟨_,rfl,rfl,_,rfl,_,(fun _ Q1 z1=>⟨_,rfl,_,_,rfl,rfl,_,rfl,_,(fun _ Q2 z2=>⟨_,rfl,_,_,rfl,rfl,by simp,rfl,_,rfl,z2⟩),z1⟩),Ix (fun h0=>?_) (fun h0=>?_)⟩
  ·refine ⟨_,rfl,_,rfl,Ei (by omega),B8,fun T2 br=>?_⟩
   exact q (.ref T2) (Eb (nm n)) _ (A5.upd br) (fun ah n2=>Au.one (n2 _ _ A1 (.inr ⟨_,rfl⟩)) 2) (F5 2 n)
  have hmr:=Bh (Dq ns ((n:Nat):Int) / 4) (show (0:Int) < 2 by decide)
  refine ⟨_,rfl,_,_,rfl,rfl,⟨by decide,by decide⟩,_,rfl,_,_,rfl,rfl,by simp,_,_,rfl,rfl,?_⟩
  dsimp only
  generalize hm:1 + Dq ns ((n:Nat):Int) / 4 % 2 = m
  have ny:1 <= m /\ m <= 2:=by omega
  refine ⟨_,rfl,_,_,rfl,rfl,⟨by decide,by decide⟩,_,rfl,_,m,rfl,by omega,by omega,fun wl ws wh H1 s1 fU au ao hwm ab iy=>?_⟩
  have hwn:wh.length = m.toNat:=by omega
  refine ⟨_,rfl,_,rfl,m,rfl,by omega,by omega,fun W hW=>?_⟩
  refine Dz (cnt:=m.toNat) (fun i ys H'=>∃ ds:List PD,A8 (fun d u=>∀ ah,NT (upd H1 W (.lst [])) H' ah -> Au 1 ah d u) ds ys /\ ds.length = i /\ (∀ d ∈ ds,Fv d /\ ∀ r ∈ d.rows,r.2.1 <= 64 ^ 1) /\ (ds.flatMap Ew).Sublist ((List.range i).flatMap fun k=>(Fe 1 (4 * n + 1 + k)).map nm) /\ H' W = some (.lst ys) /\ A5 H1 H') ⟨[],A8.nil,rfl,(fun d hd=>by cases hd),List.Sublist.refl _,A1,A5.upd hW⟩ ?_ ?_
  ·rintro i ys H' hi ⟨ds,aj,dU,hg,aU,aY,s'⟩ Qe hQ
   have kL:=s1.trans s'
   refine ⟨_,rfl,_,rfl,_,_,rfl,rfl,_,rfl,_,_,rfl,rfl,G9 (by decide) (by decide),_,_,rfl,rfl,_,rfl,_,_,rfl,rfl,a,ns,_,4 * n + 1 + i,rfl,kL _ _ ha,(by push_cast; omega),by omega,bF.sublist (Iv (by omega)),fun v d H2 s2 ht dc=>?_⟩
   have eW:=s2 _ _ aY
   refine hQ _ _ eW (Ap (by rw [aj.1]; omega)) ⟨ds ++ [d],(aj.aa fun _ _ z ah n2=>z ah (Fj aY s2 n2)).append (A8.one fun ah n2=>ht ah (Fi aY s' s2 n2)),Gh dU,fun x hx=>?_,?_,A1,(s'.trans s2).new hW⟩
   ·rcases List.mem_append.mp hx with z | z
    ·exact hg x z
    ·rw [List.mem_singleton.mp z]
     exact ⟨dc.1,dc.2.2⟩
   ·rw [List.flatMap_append,Gs,List.flatMap_singleton]
    exact aU.append dc.2.1
  rintro ys H2 ⟨ds,aj,dU,hg,aU,d9,s2⟩
  rw [<- dU] at aU
  obtain ⟨ay,dc⟩ := Fg (lv:=1) (a:=n) ab (by omega) iy hg aU (by omega) (by decide) bF
  refine ⟨B8,fun T2 br=>?_⟩
  have s3:A5 H2 (upd H2 T2 (.tup [.str "many",.ref wl,.ref W])):=A5.upd br
  have eT:(upd H2 T2 (.tup [.str "many",.ref wl,.ref W])) T2 = some (.tup [.str "many",.ref wl,.ref W]):=A1
  refine q (.ref T2) _ _ ((s1.trans s2).trans s3) (fun ah n2=>.inr ⟨T2,wl,W,wh,ws,ys,ds,rfl,n2 _ _ eT (.inr ⟨_,rfl⟩),n2 _ _ (s3 _ _ (s2 _ _ au)) (.inl fU),ao.aa (fun _ _ ⟨t,e,z⟩=>⟨t,e,n2 _ _ (s3 _ _ (s2 _ _ z)) (.inr ⟨_,rfl⟩)⟩),n2 _ _ (s3 _ _ d9) (.inl (s1.free hW)),aj.aa (fun _ _ z=>z ah (Fh s1 hW s3 n2)),by omega,ab,ay,rfl⟩) dc
def Df (K:PySem.W.Frag):Sp:=fun vs H Q _=>∃ (a:Addr) (ns:List Int) (w:Int) (n:Nat),vs = [.ref a,.int 3,.int w] /\ H a = some (.lst (ns.map V.int)) /\ w = (n:Nat) /\ n <= 0 /\ ((Fe 3 n).map nm).Nodup /\ ∀ (v:V) (d:PD) (H':Hp),A5 H H' -> (∀ ah,NT H H' ah -> Au 3 ah d v) -> Fc 3 n d -> Q v H'
theorem Hg {fd aR bz aM:FuncData} (T:Txt K mg ad a8 a7) (F:Dp K "_law_nest" "_law_nest" El ad.aC fd) (bI:A9 P w K mg base Aq 1 ad.bM aR ["script","k"] (Gv K)) (bJ:Ac K aR ["script","k"] []) (cK:A9 P w K mg base Aq 1 ad.c9 bz ["cell","many"] (Ih K)) (cL:Ac K bz ["cell","many"] []) (bU:A9 P w K mg base Aq 4 ad.aC aM ["script","deep","at"] (De K)) (b7:Ac K aM ["script","deep","at"] []):A9 P w K mg base Aq 5 ad.aC fd ["script","deep","at"] (Df K):=by
 refine F.ok C4 (fun vs H Q E h=>?_) (fun ax A outer s H vs Q E hr h=>?_)
 ·rcases h with ⟨a,ns,w,n,rfl,ha,rfl,hn,bF,q⟩ <;> rfl
 ·obtain ⟨a,ns,w,n,rfl,ha,rfl,hn,bF,q⟩ := h
  refine ⟨_,(A4 (Az (i:=3) C4.nd rfl (Or.inl rfl) (Am bI (hr.mono (by decide)) rfl T.fu T.k_x6 bJ .nil Aj (A0 (pv 0) (A0 (pv 2) A3)))) (A4 (Bo (PW.pt (Fp (Al C7 (pv 1) A2 (Ar _)) (Fo (PW.pt (Gb (Al Fy (pv 1) A2 (Ar _)) (Ga (Al C7 (Ab Bt (pv 3) A2) A2 (Ar _)))))))) (A6 (Ag (Bk (A0 Bv (A0 (Br Co (by rfl) T.eQ boot_str (A0 (pv 2) A3)) A3))))) Ay) (A4 (Az (i:=4) C4.nd rfl (Or.inl rfl) (Ab B4 A2 (Ab Bt (Ab Cp (pv 3) A2) (pv 1)))) (A4 (Az (i:=5) C4.nd rfl (Or.inl rfl) (Am cK (hr.mono (by decide)) rfl T.ix T.k_x3 cL .nil Aj (A0 (Ab Cp (pv 3) A2) (A0 (pv 4) A3)))) (A6 (Ag (Bk (A0 Bv (A0 (pv 5) (A0 (C3 (Cr (by rfl) T.bC (A0 (pv 4) A3)) _ rfl D8 rfl rfl (fun _ _ _ _=>(Aa (i:=0) Da rfl (Or.inl rfl))) (fun _ _ _ _=>Bu) (fun _ _ _ _=>(Am bU (hr.mono (by decide)) rfl T.eM T.k_x13 b7 .nil Aj (A0 (pv 1) (A0 (Ab Ex (pv 2) A2) (A0 (Ab B4 (Ab B4 (Ab Bf A2 (pv 3)) A2) (pv 0)) A3)))))) A3)))))))))),?_⟩
  refine ⟨_,rfl,_,rfl,a,ns,_,rfl,As.of ha,(by omega),?_⟩
  refine ⟨_,rfl,rfl,_,rfl,_,(fun _ Q1 z1=>⟨_,rfl,_,_,rfl,rfl,_,rfl,_,(fun _ Q2 z2=>⟨_,rfl,_,_,rfl,rfl,by simp,rfl,_,rfl,z2⟩),z1⟩),Ix (fun h0=>?_) (fun h0=>?_)⟩
  ·refine ⟨_,rfl,_,rfl,Ei (by omega),B8,fun T2 br=>?_⟩
   exact q (.ref T2) (Eb (nm n)) _ (A5.upd br) (fun ah n2=>Au.one (n2 _ _ A1 (.inr ⟨_,rfl⟩)) 3) (F5 3 n)
  have hmr:=Bh (Dq ns ((n:Nat):Int) / 4) (show (0:Int) < 3 by decide)
  refine ⟨_,rfl,_,_,rfl,rfl,⟨by decide,by decide⟩,_,rfl,_,_,rfl,rfl,by simp,_,_,rfl,rfl,?_⟩
  dsimp only
  generalize hm:1 + Dq ns ((n:Nat):Int) / 4 % 3 = m
  have ny:1 <= m /\ m <= 3:=by omega
  refine ⟨_,rfl,_,_,rfl,rfl,⟨by decide,by decide⟩,_,rfl,_,m,rfl,by omega,by omega,fun wl ws wh H1 s1 fU au ao hwm ab iy=>?_⟩
  have hwn:wh.length = m.toNat:=by omega
  refine ⟨_,rfl,_,rfl,m,rfl,by omega,by omega,fun W hW=>?_⟩
  refine Dz (cnt:=m.toNat) (fun i ys H'=>∃ ds:List PD,A8 (fun d u=>∀ ah,NT (upd H1 W (.lst [])) H' ah -> Au 2 ah d u) ds ys /\ ds.length = i /\ (∀ d ∈ ds,Fv d /\ ∀ r ∈ d.rows,r.2.1 <= 64 ^ 2) /\ (ds.flatMap Ew).Sublist ((List.range i).flatMap fun k=>(Fe 2 (4 * n + 1 + k)).map nm) /\ H' W = some (.lst ys) /\ A5 H1 H') ⟨[],A8.nil,rfl,(fun d hd=>by cases hd),List.Sublist.refl _,A1,A5.upd hW⟩ ?_ ?_
  ·rintro i ys H' hi ⟨ds,aj,dU,hg,aU,aY,s'⟩ Qe hQ
   have kL:=s1.trans s'
   refine ⟨_,rfl,_,rfl,_,_,rfl,rfl,_,rfl,_,_,rfl,rfl,G9 (by decide) (by decide),_,_,rfl,rfl,_,rfl,_,_,rfl,rfl,a,ns,_,4 * n + 1 + i,rfl,kL _ _ ha,(by push_cast; omega),by omega,bF.sublist (Iv (by omega)),fun v d H2 s2 ht dc=>?_⟩
   have eW:=s2 _ _ aY
   refine hQ _ _ eW (Ap (by rw [aj.1]; omega)) ⟨ds ++ [d],(aj.aa fun _ _ z ah n2=>z ah (Fj aY s2 n2)).append (A8.one fun ah n2=>ht ah (Fi aY s' s2 n2)),Gh dU,fun x hx=>?_,?_,A1,(s'.trans s2).new hW⟩
   ·rcases List.mem_append.mp hx with z | z
    ·exact hg x z
    ·rw [List.mem_singleton.mp z]
     exact ⟨dc.1,dc.2.2⟩
   ·rw [List.flatMap_append,Gs,List.flatMap_singleton]
    exact aU.append dc.2.1
  rintro ys H2 ⟨ds,aj,dU,hg,aU,d9,s2⟩
  rw [<- dU] at aU
  obtain ⟨ay,dc⟩ := Fg (lv:=2) (a:=n) ab (by omega) iy hg aU (by omega) (by decide) bF
  refine ⟨B8,fun T2 br=>?_⟩
  have s3:A5 H2 (upd H2 T2 (.tup [.str "many",.ref wl,.ref W])):=A5.upd br
  have eT:(upd H2 T2 (.tup [.str "many",.ref wl,.ref W])) T2 = some (.tup [.str "many",.ref wl,.ref W]):=A1
  refine q (.ref T2) _ _ ((s1.trans s2).trans s3) (fun ah n2=>.inr ⟨T2,wl,W,wh,ws,ys,ds,rfl,n2 _ _ eT (.inr ⟨_,rfl⟩),n2 _ _ (s3 _ _ (s2 _ _ au)) (.inl fU),ao.aa (fun _ _ ⟨t,e,z⟩=>⟨t,e,n2 _ _ (s3 _ _ (s2 _ _ z)) (.inr ⟨_,rfl⟩)⟩),n2 _ _ (s3 _ _ d9) (.inl (s1.free hW)),aj.aa (fun _ _ z=>z ah (Fh s1 hW s3 n2)),by omega,ab,ay,rfl⟩) dc
def Dg (K:PySem.W.Frag) (a8 a7:Addr):Sp:=fun vs H Q _=>∃ (v:V) (d:PD),vs = [v] /\ Au 0 H d v /\ (Ew d).Nodup /\ ∀ (u:V) (H':Hp),A5 H H' -> (∀ ah,NT H H' ah -> Ak a8 a7 0 ah d u) -> Q u H'
theorem Hh {fd bA bB:FuncData} (T:Txt K mg ad a8 a7) (F:Dp K "_law_part" "_law_part" Em ad.aD fd) (cM:A9 P w K mg base Aq 6 ad.c8 bA ["self","wheel","parts"] (Id K a8 a7)) (cN:Ac K bA ["self","wheel","parts"] []) (cA:A9 P w K mg base Aq 1 ad.c7 bB ["self","name"] (Ig K a8 a7)) (cB:Ac K bB ["self","name"] []):A9 P w K mg base Aq 8 ad.aD fd ["tree"] (Dg K a8 a7):=by
 refine F.ok J2 (fun vs H Q E h=>?_) (fun ax A outer s H vs Q E hr h=>?_)
 ·rcases h with ⟨v,d,rfl,ar,bF,q⟩ <;> rfl
 ·obtain ⟨v,d,rfl,ar,bF,q⟩ := h
  refine ⟨_,(A4 (Bo (Al C7 (Ai (Ah K) (pv 0) A2 (fun _ _=>rfl)) Bv (Ar _)) (A6 (Ag (E5 T.dj cA (hr.mono (by decide)) (by rfl) T.eR cB .nil Aj (A0 (Ai (Ah K) (pv 0) A2 (fun _ _=>rfl)) A3)))) Ay) (A6 B2)),?_⟩
  obtain ⟨t,n,rfl,ht,rfl⟩ := ar
  refine ⟨_,rfl,t,_,_,_,rfl,rfl,.inr (B6.of ht),rfl,rfl,_,rfl,Ed (by decide) ?_⟩
  refine ⟨_,rfl,t,_,_,_,rfl,rfl,.inr (B6.of ht),rfl,fun x dx hx d8 eF=>⟨x,dx,_,rfl,A1,rfl,?_⟩⟩
  have s1:A5 H (upd (upd (upd H dx (.own x)) x (.ins a8 dx [])) x (.ins a8 dx [("name",.str n)])):=fun b o e=>by
   rw [Af (An e hx)]
   exact D3 hx d8 b o e
  exact q (.ref x) _ s1 fun ah n2=>F6 ⟨x,dx,n,rfl,n2 _ _ A1 (.inl hx),rfl⟩ 0
def Dh (K:PySem.W.Frag) (a8 a7:Addr):Sp:=fun vs H Q _=>∃ (v:V) (d:PD),vs = [v] /\ Au 1 H d v /\ (Ew d).Nodup /\ ∀ (u:V) (H':Hp),A5 H H' -> (∀ ah,NT H H' ah -> Ak a8 a7 1 ah d u) -> Q u H'
theorem Hi {fd bA bB aN:FuncData} (T:Txt K mg ad a8 a7) (F:Dp K "_law_part" "_law_part" Em ad.aD fd) (cM:A9 P w K mg base Aq 6 ad.c8 bA ["self","wheel","parts"] (Id K a8 a7)) (cN:Ac K bA ["self","wheel","parts"] []) (cA:A9 P w K mg base Aq 1 ad.c7 bB ["self","name"] (Ig K a8 a7)) (cB:Ac K bB ["self","name"] []) (bV:A9 P w K mg base Aq 8 ad.aD aN ["tree"] (Dg K a8 a7)) (b8:Ac K aN ["tree"] []):A9 P w K mg base Aq 9 ad.aD fd ["tree"] (Dh K a8 a7):=by
 refine F.ok J2 (fun vs H Q E h=>?_) (fun ax A outer s H vs Q E hr h=>?_)
 ·rcases h with ⟨v,d,rfl,ar,bF,q⟩ <;> rfl
 ·obtain ⟨v,d,rfl,ar,bF,q⟩ := h
  refine ⟨_,(A4 (Bo (Al C7 (Ai (Ah K) (pv 0) A2 (fun _ _=>rfl)) Bv (Ar _)) (A6 (Ag (E5 T.dj cA (hr.mono (by decide)) (by rfl) T.eR cB .nil Aj (A0 (Ai (Ah K) (pv 0) A2 (fun _ _=>rfl)) A3)))) Ay) (A6 (Ag (E5 T.dk cM (hr.mono (by decide)) (by rfl) T.eB cN .nil Aj (A0 (Br C2 (by rfl) T.cH boot_list (A0 (Ai (Ah K) (pv 0) A2 (fun _ _=>rfl)) A3)) (A0 (C3 (Cv (Ai (Ah K) (pv 0) A2 (fun _ _=>rfl))) _ rfl D9 rfl rfl (fun _ _ _ _=>(Aa (i:=0) Db rfl (Or.inl rfl))) (fun _ _ _ _=>Bu) (fun _ _ _ _=>(Am bV (hr.mono (by decide)) rfl T.eO T.k_x14 b8 .nil Aj (A0 (pv 0) A3)))) A3)))))),?_⟩
  rcases ar with ⟨t,n,rfl,ht,rfl⟩ | ⟨t,wl,pl,wh,ws,us,ds,rfl,ht,au,ao,ak,aj,hlen,ab,ay,rfl⟩
  ·refine ⟨_,rfl,t,_,_,_,rfl,rfl,.inr (B6.of ht),rfl,rfl,_,rfl,Ed (by decide) ?_⟩
   refine ⟨_,rfl,t,_,_,_,rfl,rfl,.inr (B6.of ht),rfl,fun x dx hx d8 eF=>⟨x,dx,_,rfl,A1,rfl,?_⟩⟩
   have s1:A5 H (upd (upd (upd H dx (.own x)) x (.ins a8 dx [])) x (.ins a8 dx [("name",.str n)])):=fun b o e=>by
    rw [Af (An e hx)]
    exact D3 hx d8 b o e
   exact q (.ref x) _ s1 fun ah n2=>F6 ⟨x,dx,n,rfl,n2 _ _ A1 (.inl hx),rfl⟩ 1
  have jY:=ay.1
  have cS:=aj.1
  have kM:G1 ds <= 1:=Fa 1 (H:=H) (d:=Gi wh ds) (v := .ref t) (.inr ⟨t,wl,pl,wh,ws,us,ds,rfl,ht,au,ao,ak,aj,hlen,ab,ay,rfl⟩)
  refine ⟨_,rfl,t,_,_,_,rfl,rfl,.inr (B6.of ht),rfl,rfl,_,rfl,Cu (by decide) ?_⟩
  refine ⟨_,rfl,t,_,_,_,rfl,rfl,.inr (B6.of ht),rfl,wl,_,rfl,.inl (As.of au),fun w0 kN=>?_⟩
  have s1:A5 H (upd H w0 (.lst ws)):=A5.upd kN
  have e1:(upd H w0 (.lst ws)) w0 = some (.lst ws):=A1
  generalize upd H w0 (.lst ws) = H1 at s1 e1 ⊢
  refine ⟨_,rfl,t,_,_,_,rfl,rfl,.inr (B6.of (s1 _ _ ht)),rfl,pl,rfl,.inl ⟨⟨_,As.of (s1 _ _ ak)⟩,fun W hW=>?_⟩⟩
  refine Bz (K:=K) (a:=pl) (xs:=us) (fun i ys H'=>A8 (fun d u=>∀ ah,NT (upd H1 W (.lst [])) H' ah -> Ak a8 a7 0 ah d u) (ds.take i) ys /\ H' W = some (.lst ys) /\ A5 H1 H') ⟨A8.nil,A1,A5.upd hW⟩ (fun i ys H' _ ⟨_,_,s⟩=>As.of (s _ _ (s1 _ _ ak))) ?_ ?_
  ·rintro i u ys H' hu ⟨de,aY,s'⟩ Qe hQ
   obtain ⟨d,aH,fV⟩ := aj.get hu
   have hi:=(List.getElem?_eq_some_iff.mp aH).1
   have kO:=de.1
   rw [List.length_take] at kO
   have fW:(Ew d).Nodup:=by
    have cW:((B3 wh ds).map (·.1)).Nodup:=bF
    rw [Ce wh ds hlen] at cW
    exact cW.sublist (E4 (List.mem_of_getElem? aH))
   refine ⟨_,rfl,u,d,rfl,Au.same (s1.trans s') 0 fV,fW,fun v H2 s2 hp=>?_⟩
   refine hQ _ _ (s2 _ _ aY) (Ap (by omega)) ⟨?_,A1,(s'.trans s2).new hW⟩
   rw [Bp aH]
   exact (de.aa fun _ _ z ah n2=>z ah (Fj aY s2 n2)).append (A8.one fun ah n2=>hp ah (Fi aY s' s2 n2))
  rintro ys H2 ⟨de,d9,s2⟩
  rw [cS,List.take_length] at de
  have df:=s1.trans s2
  refine fun x dx hx d8 eF=>?_
  have sm:=D3 (C:=a7) hx d8
  refine ⟨x,dx,w0,W,wh,ws,ys,ds,rfl,A1,sm _ _ (s2 _ _ e1),ao.aa (fun _ _ z=>(z.av df).av sm),sm _ _ d9,(de.aa fun _ _ z=>z H2 NT.self).aa (fun _ _ z=>Ak.up 1 (Ak.up 0 (Ak.same sm 0 z))),hlen,ab,ay,bF,(by omega),fun w1 p1 H3 gI fb ex ew ep ho=>⟨rfl,?_⟩⟩
  have s3:A5 H2 H3:=Iz hx d8 ho
  exact q (.ref x) H3 (df.trans s3) fun ah n2=>.inr ⟨x,dx,w1,p1,wh,ws,ys,ds,rfl,n2 _ _ ex (.inl (df.free hx)),n2 _ _ ew (.inl (df.free (sm.free gI))),ao.aa (fun _ _ ⟨t,e,z⟩=>⟨t,e,n2 _ _ (s3 _ _ (df _ _ z)) (.inr ⟨_,rfl⟩)⟩),n2 _ _ ep (.inl (df.free (sm.free fb))),de.aa (fun _ _ z=>z ah (Fh s1 hW s3 n2)),hlen,ab,ay,rfl⟩
def Di (K:PySem.W.Frag) (a8 a7:Addr):Sp:=fun vs H Q _=>∃ (v:V) (d:PD),vs = [v] /\ Au 2 H d v /\ (Ew d).Nodup /\ ∀ (u:V) (H':Hp),A5 H H' -> (∀ ah,NT H H' ah -> Ak a8 a7 2 ah d u) -> Q u H'
theorem Hj {fd bA bB aN:FuncData} (T:Txt K mg ad a8 a7) (F:Dp K "_law_part" "_law_part" Em ad.aD fd) (cM:A9 P w K mg base Aq 6 ad.c8 bA ["self","wheel","parts"] (Id K a8 a7)) (cN:Ac K bA ["self","wheel","parts"] []) (cA:A9 P w K mg base Aq 1 ad.c7 bB ["self","name"] (Ig K a8 a7)) (cB:Ac K bB ["self","name"] []) (bV:A9 P w K mg base Aq 9 ad.aD aN ["tree"] (Dh K a8 a7)) (b8:Ac K aN ["tree"] []):A9 P w K mg base Aq 10 ad.aD fd ["tree"] (Di K a8 a7):=by
 refine F.ok J2 (fun vs H Q E h=>?_) (fun ax A outer s H vs Q E hr h=>?_)
 ·rcases h with ⟨v,d,rfl,ar,bF,q⟩ <;> rfl
 ·obtain ⟨v,d,rfl,ar,bF,q⟩ := h
  refine ⟨_,(A4 (Bo (Al C7 (Ai (Ah K) (pv 0) A2 (fun _ _=>rfl)) Bv (Ar _)) (A6 (Ag (E5 T.dj cA (hr.mono (by decide)) (by rfl) T.eR cB .nil Aj (A0 (Ai (Ah K) (pv 0) A2 (fun _ _=>rfl)) A3)))) Ay) (A6 (Ag (E5 T.dk cM (hr.mono (by decide)) (by rfl) T.eB cN .nil Aj (A0 (Br C2 (by rfl) T.cH boot_list (A0 (Ai (Ah K) (pv 0) A2 (fun _ _=>rfl)) A3)) (A0 (C3 (Cv (Ai (Ah K) (pv 0) A2 (fun _ _=>rfl))) _ rfl D9 rfl rfl (fun _ _ _ _=>(Aa (i:=0) Db rfl (Or.inl rfl))) (fun _ _ _ _=>Bu) (fun _ _ _ _=>(Am bV (hr.mono (by decide)) rfl T.eO T.k_x14 b8 .nil Aj (A0 (pv 0) A3)))) A3)))))),?_⟩
  rcases ar with ⟨t,n,rfl,ht,rfl⟩ | ⟨t,wl,pl,wh,ws,us,ds,rfl,ht,au,ao,ak,aj,hlen,ab,ay,rfl⟩
  ·refine ⟨_,rfl,t,_,_,_,rfl,rfl,.inr (B6.of ht),rfl,rfl,_,rfl,Ed (by decide) ?_⟩
   refine ⟨_,rfl,t,_,_,_,rfl,rfl,.inr (B6.of ht),rfl,fun x dx hx d8 eF=>⟨x,dx,_,rfl,A1,rfl,?_⟩⟩
   have s1:A5 H (upd (upd (upd H dx (.own x)) x (.ins a8 dx [])) x (.ins a8 dx [("name",.str n)])):=fun b o e=>by
    rw [Af (An e hx)]
    exact D3 hx d8 b o e
   exact q (.ref x) _ s1 fun ah n2=>F6 ⟨x,dx,n,rfl,n2 _ _ A1 (.inl hx),rfl⟩ 2
  have jY:=ay.1
  have cS:=aj.1
  have kM:G1 ds <= 2:=Fa 2 (H:=H) (d:=Gi wh ds) (v := .ref t) (.inr ⟨t,wl,pl,wh,ws,us,ds,rfl,ht,au,ao,ak,aj,hlen,ab,ay,rfl⟩)
  refine ⟨_,rfl,t,_,_,_,rfl,rfl,.inr (B6.of ht),rfl,rfl,_,rfl,Cu (by decide) ?_⟩
  refine ⟨_,rfl,t,_,_,_,rfl,rfl,.inr (B6.of ht),rfl,wl,_,rfl,.inl (As.of au),fun w0 kN=>?_⟩
  have s1:A5 H (upd H w0 (.lst ws)):=A5.upd kN
  have e1:(upd H w0 (.lst ws)) w0 = some (.lst ws):=A1
  generalize upd H w0 (.lst ws) = H1 at s1 e1 ⊢
  refine ⟨_,rfl,t,_,_,_,rfl,rfl,.inr (B6.of (s1 _ _ ht)),rfl,pl,rfl,.inl ⟨⟨_,As.of (s1 _ _ ak)⟩,fun W hW=>?_⟩⟩
  refine Bz (K:=K) (a:=pl) (xs:=us) (fun i ys H'=>A8 (fun d u=>∀ ah,NT (upd H1 W (.lst [])) H' ah -> Ak a8 a7 1 ah d u) (ds.take i) ys /\ H' W = some (.lst ys) /\ A5 H1 H') ⟨A8.nil,A1,A5.upd hW⟩ (fun i ys H' _ ⟨_,_,s⟩=>As.of (s _ _ (s1 _ _ ak))) ?_ ?_
  ·rintro i u ys H' hu ⟨de,aY,s'⟩ Qe hQ
   obtain ⟨d,aH,fV⟩ := aj.get hu
   have hi:=(List.getElem?_eq_some_iff.mp aH).1
   have kO:=de.1
   rw [List.length_take] at kO
   have fW:(Ew d).Nodup:=by
    have cW:((B3 wh ds).map (·.1)).Nodup:=bF
    rw [Ce wh ds hlen] at cW
    exact cW.sublist (E4 (List.mem_of_getElem? aH))
   refine ⟨_,rfl,u,d,rfl,Au.same (s1.trans s') 1 fV,fW,fun v H2 s2 hp=>?_⟩
   refine hQ _ _ (s2 _ _ aY) (Ap (by omega)) ⟨?_,A1,(s'.trans s2).new hW⟩
   rw [Bp aH]
   exact (de.aa fun _ _ z ah n2=>z ah (Fj aY s2 n2)).append (A8.one fun ah n2=>hp ah (Fi aY s' s2 n2))
  rintro ys H2 ⟨de,d9,s2⟩
  rw [cS,List.take_length] at de
  have df:=s1.trans s2
  refine fun x dx hx d8 eF=>?_
  have sm:=D3 (C:=a7) hx d8
  refine ⟨x,dx,w0,W,wh,ws,ys,ds,rfl,A1,sm _ _ (s2 _ _ e1),ao.aa (fun _ _ z=>(z.av df).av sm),sm _ _ d9,(de.aa fun _ _ z=>z H2 NT.self).aa (fun _ _ z=>Ak.up 1 (Ak.same sm 1 z)),hlen,ab,ay,bF,(by omega),fun w1 p1 H3 gI fb ex ew ep ho=>⟨rfl,?_⟩⟩
  have s3:A5 H2 H3:=Iz hx d8 ho
  exact q (.ref x) H3 (df.trans s3) fun ah n2=>.inr ⟨x,dx,w1,p1,wh,ws,ys,ds,rfl,n2 _ _ ex (.inl (df.free hx)),n2 _ _ ew (.inl (df.free (sm.free gI))),ao.aa (fun _ _ ⟨t,e,z⟩=>⟨t,e,n2 _ _ (s3 _ _ (df _ _ z)) (.inr ⟨_,rfl⟩)⟩),n2 _ _ ep (.inl (df.free (sm.free fb))),de.aa (fun _ _ z=>z ah (Fh s1 hW s3 n2)),hlen,ab,ay,rfl⟩
def Dj (K:PySem.W.Frag) (a8 a7:Addr):Sp:=fun vs H Q _=>∃ (v:V) (d:PD),vs = [v] /\ Au 3 H d v /\ (Ew d).Nodup /\ ∀ (u:V) (H':Hp),A5 H H' -> (∀ ah,NT H H' ah -> Ak a8 a7 3 ah d u) -> Q u H'
theorem Hk {fd bA bB aN:FuncData} (T:Txt K mg ad a8 a7) (F:Dp K "_law_part" "_law_part" Em ad.aD fd) (cM:A9 P w K mg base Aq 6 ad.c8 bA ["self","wheel","parts"] (Id K a8 a7)) (cN:Ac K bA ["self","wheel","parts"] []) (cA:A9 P w K mg base Aq 1 ad.c7 bB ["self","name"] (Ig K a8 a7)) (cB:Ac K bB ["self","name"] []) (bV:A9 P w K mg base Aq 10 ad.aD aN ["tree"] (Di K a8 a7)) (b8:Ac K aN ["tree"] []):A9 P w K mg base Aq 11 ad.aD fd ["tree"] (Dj K a8 a7):=by
 refine F.ok J2 (fun vs H Q E h=>?_) (fun ax A outer s H vs Q E hr h=>?_)
 ·rcases h with ⟨v,d,rfl,ar,bF,q⟩ <;> rfl
 ·obtain ⟨v,d,rfl,ar,bF,q⟩ := h
  refine ⟨_,(A4 (Bo (Al C7 (Ai (Ah K) (pv 0) A2 (fun _ _=>rfl)) Bv (Ar _)) (A6 (Ag (E5 T.dj cA (hr.mono (by decide)) (by rfl) T.eR cB .nil Aj (A0 (Ai (Ah K) (pv 0) A2 (fun _ _=>rfl)) A3)))) Ay) (A6 (Ag (E5 T.dk cM (hr.mono (by decide)) (by rfl) T.eB cN .nil Aj (A0 (Br C2 (by rfl) T.cH boot_list (A0 (Ai (Ah K) (pv 0) A2 (fun _ _=>rfl)) A3)) (A0 (C3 (Cv (Ai (Ah K) (pv 0) A2 (fun _ _=>rfl))) _ rfl D9 rfl rfl (fun _ _ _ _=>(Aa (i:=0) Db rfl (Or.inl rfl))) (fun _ _ _ _=>Bu) (fun _ _ _ _=>(Am bV (hr.mono (by decide)) rfl T.eO T.k_x14 b8 .nil Aj (A0 (pv 0) A3)))) A3)))))),?_⟩
  rcases ar with ⟨t,n,rfl,ht,rfl⟩ | ⟨t,wl,pl,wh,ws,us,ds,rfl,ht,au,ao,ak,aj,hlen,ab,ay,rfl⟩
  ·refine ⟨_,rfl,t,_,_,_,rfl,rfl,.inr (B6.of ht),rfl,rfl,_,rfl,Ed (by decide) ?_⟩
   refine ⟨_,rfl,t,_,_,_,rfl,rfl,.inr (B6.of ht),rfl,fun x dx hx d8 eF=>⟨x,dx,_,rfl,A1,rfl,?_⟩⟩
   have s1:A5 H (upd (upd (upd H dx (.own x)) x (.ins a8 dx [])) x (.ins a8 dx [("name",.str n)])):=fun b o e=>by
    rw [Af (An e hx)]
    exact D3 hx d8 b o e
   exact q (.ref x) _ s1 fun ah n2=>F6 ⟨x,dx,n,rfl,n2 _ _ A1 (.inl hx),rfl⟩ 3
  have jY:=ay.1
  have cS:=aj.1
  have kM:G1 ds <= 3:=Fa 3 (H:=H) (d:=Gi wh ds) (v := .ref t) (.inr ⟨t,wl,pl,wh,ws,us,ds,rfl,ht,au,ao,ak,aj,hlen,ab,ay,rfl⟩)
  refine ⟨_,rfl,t,_,_,_,rfl,rfl,.inr (B6.of ht),rfl,rfl,_,rfl,Cu (by decide) ?_⟩
  refine ⟨_,rfl,t,_,_,_,rfl,rfl,.inr (B6.of ht),rfl,wl,_,rfl,.inl (As.of au),fun w0 kN=>?_⟩
  have s1:A5 H (upd H w0 (.lst ws)):=A5.upd kN
  have e1:(upd H w0 (.lst ws)) w0 = some (.lst ws):=A1
  generalize upd H w0 (.lst ws) = H1 at s1 e1 ⊢
  refine ⟨_,rfl,t,_,_,_,rfl,rfl,.inr (B6.of (s1 _ _ ht)),rfl,pl,rfl,.inl ⟨⟨_,As.of (s1 _ _ ak)⟩,fun W hW=>?_⟩⟩
  refine Bz (K:=K) (a:=pl) (xs:=us) (fun i ys H'=>A8 (fun d u=>∀ ah,NT (upd H1 W (.lst [])) H' ah -> Ak a8 a7 2 ah d u) (ds.take i) ys /\ H' W = some (.lst ys) /\ A5 H1 H') ⟨A8.nil,A1,A5.upd hW⟩ (fun i ys H' _ ⟨_,_,s⟩=>As.of (s _ _ (s1 _ _ ak))) ?_ ?_
  ·rintro i u ys H' hu ⟨de,aY,s'⟩ Qe hQ
   obtain ⟨d,aH,fV⟩ := aj.get hu
   have hi:=(List.getElem?_eq_some_iff.mp aH).1
   have kO:=de.1
   rw [List.length_take] at kO
   have fW:(Ew d).Nodup:=by
    have cW:((B3 wh ds).map (·.1)).Nodup:=bF
    rw [Ce wh ds hlen] at cW
    exact cW.sublist (E4 (List.mem_of_getElem? aH))
   refine ⟨_,rfl,u,d,rfl,Au.same (s1.trans s') 2 fV,fW,fun v H2 s2 hp=>?_⟩
   refine hQ _ _ (s2 _ _ aY) (Ap (by omega)) ⟨?_,A1,(s'.trans s2).new hW⟩
   rw [Bp aH]
   exact (de.aa fun _ _ z ah n2=>z ah (Fj aY s2 n2)).append (A8.one fun ah n2=>hp ah (Fi aY s' s2 n2))
  rintro ys H2 ⟨de,d9,s2⟩
  rw [cS,List.take_length] at de
  have df:=s1.trans s2
  refine fun x dx hx d8 eF=>?_
  have sm:=D3 (C:=a7) hx d8
  refine ⟨x,dx,w0,W,wh,ws,ys,ds,rfl,A1,sm _ _ (s2 _ _ e1),ao.aa (fun _ _ z=>(z.av df).av sm),sm _ _ d9,(de.aa fun _ _ z=>z H2 NT.self).aa (fun _ _ z=>Ak.same sm 2 z),hlen,ab,ay,bF,(by omega),fun w1 p1 H3 gI fb ex ew ep ho=>⟨rfl,?_⟩⟩
  have s3:A5 H2 H3:=Iz hx d8 ho
  exact q (.ref x) H3 (df.trans s3) fun ah n2=>.inr ⟨x,dx,w1,p1,wh,ws,ys,ds,rfl,n2 _ _ ex (.inl (df.free hx)),n2 _ _ ew (.inl (df.free (sm.free gI))),ao.aa (fun _ _ ⟨t,e,z⟩=>⟨t,e,n2 _ _ (s3 _ _ (df _ _ z)) (.inr ⟨_,rfl⟩)⟩),n2 _ _ ep (.inl (df.free (sm.free fb))),de.aa (fun _ _ z=>z ah (Fh s1 hW s3 n2)),hlen,ab,ay,rfl⟩
def Dk (K:PySem.W.Frag):Sp:=fun vs H Q _=>∃ (v:V) (d:PD),vs = [v] /\ Au 0 H d v /\ ∀ (p:Addr) (zs:List V) (H':Hp),H p = none -> A5 H H' -> H' p = some (.lst zs) -> A8 (Dx H') d.rows zs -> Q (.ref p) H'
theorem Hl {fd  : FuncData} (T:Txt K mg ad a8 a7) (F:Dp K "_law_rows" "_law_rows" F8 ad.aE fd):A9 P w K mg base Aq 1 ad.aE fd ["tree"] (Dk K):=by
 refine F.ok Bd (fun vs H Q E h=>?_) (fun ax A outer s H vs Q E hr h=>?_)
 ·rcases h with ⟨v,d,rfl,ar,q⟩ <;> rfl
 ·obtain ⟨v,d,rfl,ar,q⟩ := h
  refine ⟨_,(A4 (Bo (Al C7 (Ai (Ah K) (pv 0) A2 (fun _ _=>rfl)) Bv (Ar _)) (A6 (Ag (Ci (A0 (Bk (A0 (Ai (Ah K) (pv 0) A2 (fun _ _=>rfl)) (A0 A2 (A0 A2 A3)))) A3)))) Ay) (A4 B2 (A4 B2 (A6 B2)))),?_⟩
  obtain ⟨t,n,rfl,ht,rfl⟩ := ar
  refine ⟨_,rfl,t,_,_,_,rfl,rfl,.inr (B6.of ht),rfl,rfl,_,rfl,Ed (by decide) ?_⟩
  refine ⟨_,rfl,t,_,_,_,rfl,rfl,.inr (B6.of ht),rfl,B8,fun T2 br=>?_⟩
  have s1:A5 H (upd H T2 (.tup [.str n,.int 1,.int 0])):=A5.upd br
  have e1:(upd H T2 (.tup [.str n,.int 1,.int 0])) T2 = some (.tup [.str n,.int 1,.int 0]):=A1
  generalize upd H T2 (.tup [.str n,.int 1,.int 0]) = H1 at s1 e1 ⊢
  refine ⟨B8,fun p hp=>?_⟩
  have s2:=A5.upd (o := .lst [.ref T2]) hp
  exact q p [.ref T2] _ (s1.free hp) (s1.trans s2) A1 (A8.one ⟨T2,rfl,s2 _ _ e1⟩)
def Dl (K:PySem.W.Frag):Sp:=fun vs H Q _=>∃ (v:V) (d:PD),vs = [v] /\ Au 1 H d v /\ ∀ (p:Addr) (zs:List V) (H':Hp),H p = none -> A5 H H' -> H' p = some (.lst zs) -> A8 (Dx H') d.rows zs -> Q (.ref p) H'
theorem Hm {fd  aO:FuncData} (T:Txt K mg ad a8 a7) (F:Dp K "_law_rows" "_law_rows" F8 ad.aE fd) (bW:A9 P w K mg base Aq 1 ad.aE aO ["tree"] (Dk K)) (b9:Ac K aO ["tree"] []):A9 P w K mg base Aq 2 ad.aE fd ["tree"] (Dl K):=by
 refine F.ok Bd (fun vs H Q E h=>?_) (fun ax A outer s H vs Q E hr h=>?_)
 ·rcases h with ⟨v,d,rfl,ar,q⟩ <;> rfl
 ·obtain ⟨v,d,rfl,ar,q⟩ := h
  refine ⟨_,(A4 (Bo (Al C7 (Ai (Ah K) (pv 0) A2 (fun _ _=>rfl)) Bv (Ar _)) (A6 (Ag (Ci (A0 (Bk (A0 (Ai (Ah K) (pv 0) A2 (fun _ _=>rfl)) (A0 A2 (A0 A2 A3)))) A3)))) Ay) (A4 (Az (i:=1) Bd.nd rfl (Or.inl rfl) (Ci A3)) (A4 (Bw PassesOwn.never rfl (Ej (by rfl) T.d7 (A0 (Ai (Ah K) (pv 0) A2 (fun _ _=>rfl)) (A0 (Ai (Ah K) (pv 0) A2 (fun _ _=>rfl)) A3))) (Bm K (n:=2) rfl (Ad (Aa (i:=2) Bd.nd rfl (Or.inl rfl)) (Ad (Aa (i:=3) Bd.nd rfl (Or.inl rfl)) Bn))) (A6 (Bw PassesOwn.never rfl (Cv (Am bW (hr.mono (by decide)) rfl T.eP T.k_x15 b9 .nil Aj (A0 (pv 3) A3))) (Bm K (n:=3) rfl (Ad (Aa (i:=4) Bd.nd rfl (Or.inl rfl)) (Ad (Aa (i:=5) Bd.nd rfl (Or.inl rfl)) (Ad (Aa (i:=6) Bd.nd rfl (Or.inl rfl)) Bn)))) (A6 (E6 (Gp PySem.F.plainAttrs_list PySem.F.slot_list_append PySem.F.type_list_append C0 (pv 1) (A0 (Bk (A0 (pv 4) (A0 (Ab Bf (Ai (Ah K) (pv 2) A2 (fun _ _=>rfl)) (pv 5)) (A0 (Ab B4 (Ai (Ah K) (pv 2) A2 (fun _ _=>rfl)) (Ab Bf (Ai (Ah K) (pv 2) A2 (fun _ _=>rfl)) (pv 6))) A3)))) A3))))))) (A6 (Ag (pv 1)))))),?_⟩
  rcases ar with ⟨t,n,rfl,ht,rfl⟩ | ⟨t,wl,pl,wh,ws,us,ds,rfl,ht,au,ao,ak,aj,hlen,ab,ay,rfl⟩
  ·refine ⟨_,rfl,t,_,_,_,rfl,rfl,.inr (B6.of ht),rfl,rfl,_,rfl,Ed (by decide) ?_⟩
   refine ⟨_,rfl,t,_,_,_,rfl,rfl,.inr (B6.of ht),rfl,B8,fun T2 br=>?_⟩
   have s1:A5 H (upd H T2 (.tup [.str n,.int 1,.int 0])):=A5.upd br
   have e1:(upd H T2 (.tup [.str n,.int 1,.int 0])) T2 = some (.tup [.str n,.int 1,.int 0]):=A1
   generalize upd H T2 (.tup [.str n,.int 1,.int 0]) = H1 at s1 e1 ⊢
   refine ⟨B8,fun p hp=>?_⟩
   have s2:=A5.upd (o := .lst [.ref T2]) hp
   exact q p [.ref T2] _ (s1.free hp) (s1.trans s2) A1 (A8.one ⟨T2,rfl,s2 _ _ e1⟩)
  have cS:ws.length = us.length:=by rw [aj.1,ao.1,hlen]
  refine ⟨_,rfl,t,_,_,_,rfl,rfl,.inr (B6.of ht),rfl,rfl,_,rfl,Cu (by decide) ?_⟩
  refine ⟨B8,fun L hL=>?_⟩
  have s1:A5 H (upd H L (.lst [])):=A5.upd hL
  have e1:(upd H L (.lst [])) L = some (.lst []):=A1
  generalize upd H L (.lst []) = H1 at s1 e1 ⊢
  refine ⟨_,rfl,t,_,_,_,rfl,rfl,.inr (B6.of (s1 _ _ ht)),rfl,_,rfl,t,_,_,_,rfl,rfl,.inr (B6.of (s1 _ _ ht)),rfl,false,false,wl,pl,rfl,⟨_,As.of (s1 _ _ au)⟩,⟨_,As.of (s1 _ _ ak)⟩,?_⟩
  refine Ds (K:=K) (b1:=false) (b2:=false) (c:=wl) (d:=pl) (xs:=ws) (ys:=us) cS
   (fun i σ H'=>∃ (zs:List V) (v2 v3 v4 v5 v6:Option V),σ = [some (.ref t),some (.ref L),v2,v3,v4,v5,v6] /\ A5 H H' /\ H' L = some (.lst zs) /\ A8 (Dx H') (B3 (wh.take i) (ds.take i)) zs)
   ⟨[],none,none,none,none,none,rfl,s1,e1,A8.nil⟩ (fun i σ H' _ ⟨_,_,_,_,_,_,_,s,_⟩=>⟨As.of (s _ _ au),As.of (s _ _ ak)⟩) ?_ ?_
  ·rintro i y u T σ H2 hy hu ⟨zs,v2,v3,v4,v5,v6,rfl,s2,ba,hz⟩ hT
   obtain ⟨r,bH,tr,rfl,fV⟩ := ao.get hy
   obtain ⟨d,aH,aq⟩ := aj.get hu
   have s3:A5 H2 (upd H2 T (.tup [.ref tr,u])):=A5.upd hT
   have b5:=s2.trans s3
   have cy:=ab.1 r (List.mem_of_getElem? bH)
   refine ⟨T,_,rfl,B6.of A1,rfl,_,_,rfl,_,_,rfl,rfl,?_⟩
   generalize upd H2 T (.tup [.ref tr,u]) = H3 at s3 b5 ⊢
   refine ⟨_,rfl,u,d,rfl,Au.same b5 0 aq,fun p bb H4 dq s4 ep az=>?_⟩
   have fM:=b5.trans s4
   have eC:=s4 _ _ (s3 _ _ ba)
   have fN:p ≠ L:=fun z=>by rw [z,s3 _ _ ba] at dq; cases dq
   have fO:=hz.aa fun _ _ z=>(z.same s3).same s4
   have cf:=Dv (wh:=wh) (ds:=ds) (i + 1)
   rw [B7 bH aH,List.length_append,List.length_map] at cf
   have gF:=ay.2.1
   refine ⟨p,rfl,.inl ⟨⟨_,As.of ep⟩,?_⟩⟩
   refine Ct (K:=K) (a:=p) (xs:=bb) (fun k σ H'=>∃ (zs:List V) (v4 v5 v6:Option V),σ = [some (.ref t),some (.ref L),some (.ref tr),some u,v4,v5,v6] /\ A5 H H' /\ H' p = some (.lst bb) /\ A8 (Dx H') d.rows bb /\ H' L = some (.lst zs) /\ A8 (Dx H') (B3 (wh.take i) (ds.take i) ++ (d.rows.take k).map (B9 r)) zs)
    ⟨zs,v4,v5,v6,rfl,fM,ep,az,eC,by rw [List.take_zero]; simpa using fO⟩ (fun k σ H' _ ⟨_,_,_,_,_,_,e,_⟩=>As.of e) ?_ ?_
   ·rintro k y σ H5 hy ⟨cJ,fP,fQ,fR,rfl,s5,fS,aw,bO,bq⟩
    obtain ⟨ai,cq,t5,rfl,fT⟩ := aw.get hy
    have hk:=(List.getElem?_eq_some_iff.mp cq).1
    obtain ⟨b1,b2⟩ := ay.2.2 d (List.mem_of_getElem? aH) ai (List.mem_of_getElem? cq)
    have cX:intBits r.1 <= 600:=Cn (by have:=cy.1; omega) cy.2.1
    have f9:=bq.1
    rw [List.length_append,List.length_map,List.length_take] at f9
    refine ⟨t5,_,rfl,B6.of fT,rfl,_,_,rfl,_,_,rfl,_,_,rfl,rfl,?_⟩
    have tp:=s5 _ _ fV
    refine ⟨_,rfl,.inl ⟨rfl,_,As.of bO⟩,_,rfl,_,rfl,tr,_,_,_,rfl,rfl,.inr (B6.of tp),rfl,_,rfl,_,_,rfl,rfl,E9 cX b1 (by decide),_,rfl,tr,_,_,_,rfl,rfl,.inr (B6.of tp),rfl,_,rfl,tr,_,_,_,rfl,rfl,.inr (B6.of tp),rfl,_,rfl,_,_,rfl,rfl,E9 cX b2 (by decide),_,_,rfl,rfl,B8,fun T2 br=>?_⟩
    have s6:A5 H5 (upd H5 T2 (.tup [.str ai.1,.int (r.1 * ai.2.1),.int (r.2 + r.1 * ai.2.2)])):=A5.upd br
    have e6:(upd H5 T2 (.tup [.str ai.1,.int (r.1 * ai.2.1),.int (r.2 + r.1 * ai.2.2)])) T2 = some (.tup [.str ai.1,.int (r.1 * ai.2.1),.int (r.2 + r.1 * ai.2.2)]):=A1
    generalize upd H5 T2 (.tup [.str ai.1,.int (r.1 * ai.2.1),.int (r.2 + r.1 * ai.2.2)]) = H6 at s6 e6 ⊢
    have bP:=s6 _ _ bO
    refine ⟨L,_,_,rfl,rfl,bP,Ap (by omega),?_⟩
    refine ⟨cJ ++ [.ref T2],_,_,_,rfl,(s5.trans s6).new hL,(Af fN).trans (s6 _ _ fS),aw.aa fun _ _ z=>(z.same s6).put bP,A1,?_⟩
    rw [Bp cq,List.map_append,<- List.append_assoc]
    exact ((bq.aa fun _ _ z=>(z.same s6).put bP).append (A8.one (Dx.put bP ⟨T2,rfl,e6⟩)))
   rintro σ H5 ⟨cJ,fP,fQ,fR,rfl,s5,_,_,bO,bq⟩
   rw [az.1,List.take_length] at bq
   refine ⟨cJ,_,_,_,_,_,rfl,s5,bO,?_⟩
   rw [B7 bH aH]
   exact bq
  rintro σ H2 ⟨zs,v2,v3,v4,v5,v6,rfl,s2,ba,hz⟩
  rw [ao.1,List.take_length,<- hlen,List.take_length] at hz
  exact ⟨_,rfl,q L zs H2 hL s2 ba hz⟩
def Dm (K:PySem.W.Frag):Sp:=fun vs H Q _=>∃ (v:V) (d:PD),vs = [v] /\ Au 2 H d v /\ ∀ (p:Addr) (zs:List V) (H':Hp),H p = none -> A5 H H' -> H' p = some (.lst zs) -> A8 (Dx H') d.rows zs -> Q (.ref p) H'
theorem Hn {fd  aO:FuncData} (T:Txt K mg ad a8 a7) (F:Dp K "_law_rows" "_law_rows" F8 ad.aE fd) (bW:A9 P w K mg base Aq 2 ad.aE aO ["tree"] (Dl K)) (b9:Ac K aO ["tree"] []):A9 P w K mg base Aq 3 ad.aE fd ["tree"] (Dm K):=by
 refine F.ok Bd (fun vs H Q E h=>?_) (fun ax A outer s H vs Q E hr h=>?_)
 ·rcases h with ⟨v,d,rfl,ar,q⟩ <;> rfl
 ·obtain ⟨v,d,rfl,ar,q⟩ := h
  refine ⟨_,(A4 (Bo (Al C7 (Ai (Ah K) (pv 0) A2 (fun _ _=>rfl)) Bv (Ar _)) (A6 (Ag (Ci (A0 (Bk (A0 (Ai (Ah K) (pv 0) A2 (fun _ _=>rfl)) (A0 A2 (A0 A2 A3)))) A3)))) Ay) (A4 (Az (i:=1) Bd.nd rfl (Or.inl rfl) (Ci A3)) (A4 (Bw PassesOwn.never rfl (Ej (by rfl) T.d7 (A0 (Ai (Ah K) (pv 0) A2 (fun _ _=>rfl)) (A0 (Ai (Ah K) (pv 0) A2 (fun _ _=>rfl)) A3))) (Bm K (n:=2) rfl (Ad (Aa (i:=2) Bd.nd rfl (Or.inl rfl)) (Ad (Aa (i:=3) Bd.nd rfl (Or.inl rfl)) Bn))) (A6 (Bw PassesOwn.never rfl (Cv (Am bW (hr.mono (by decide)) rfl T.eP T.k_x15 b9 .nil Aj (A0 (pv 3) A3))) (Bm K (n:=3) rfl (Ad (Aa (i:=4) Bd.nd rfl (Or.inl rfl)) (Ad (Aa (i:=5) Bd.nd rfl (Or.inl rfl)) (Ad (Aa (i:=6) Bd.nd rfl (Or.inl rfl)) Bn)))) (A6 (E6 (Gp PySem.F.plainAttrs_list PySem.F.slot_list_append PySem.F.type_list_append C0 (pv 1) (A0 (Bk (A0 (pv 4) (A0 (Ab Bf (Ai (Ah K) (pv 2) A2 (fun _ _=>rfl)) (pv 5)) (A0 (Ab B4 (Ai (Ah K) (pv 2) A2 (fun _ _=>rfl)) (Ab Bf (Ai (Ah K) (pv 2) A2 (fun _ _=>rfl)) (pv 6))) A3)))) A3))))))) (A6 (Ag (pv 1)))))),?_⟩
  rcases ar with ⟨t,n,rfl,ht,rfl⟩ | ⟨t,wl,pl,wh,ws,us,ds,rfl,ht,au,ao,ak,aj,hlen,ab,ay,rfl⟩
  ·refine ⟨_,rfl,t,_,_,_,rfl,rfl,.inr (B6.of ht),rfl,rfl,_,rfl,Ed (by decide) ?_⟩
   refine ⟨_,rfl,t,_,_,_,rfl,rfl,.inr (B6.of ht),rfl,B8,fun T2 br=>?_⟩
   have s1:A5 H (upd H T2 (.tup [.str n,.int 1,.int 0])):=A5.upd br
   have e1:(upd H T2 (.tup [.str n,.int 1,.int 0])) T2 = some (.tup [.str n,.int 1,.int 0]):=A1
   generalize upd H T2 (.tup [.str n,.int 1,.int 0]) = H1 at s1 e1 ⊢
   refine ⟨B8,fun p hp=>?_⟩
   have s2:=A5.upd (o := .lst [.ref T2]) hp
   exact q p [.ref T2] _ (s1.free hp) (s1.trans s2) A1 (A8.one ⟨T2,rfl,s2 _ _ e1⟩)
  have cS:ws.length = us.length:=by rw [aj.1,ao.1,hlen]
  refine ⟨_,rfl,t,_,_,_,rfl,rfl,.inr (B6.of ht),rfl,rfl,_,rfl,Cu (by decide) ?_⟩
  refine ⟨B8,fun L hL=>?_⟩
  have s1:A5 H (upd H L (.lst [])):=A5.upd hL
  have e1:(upd H L (.lst [])) L = some (.lst []):=A1
  generalize upd H L (.lst []) = H1 at s1 e1 ⊢
  refine ⟨_,rfl,t,_,_,_,rfl,rfl,.inr (B6.of (s1 _ _ ht)),rfl,_,rfl,t,_,_,_,rfl,rfl,.inr (B6.of (s1 _ _ ht)),rfl,false,false,wl,pl,rfl,⟨_,As.of (s1 _ _ au)⟩,⟨_,As.of (s1 _ _ ak)⟩,?_⟩
  refine Ds (K:=K) (b1:=false) (b2:=false) (c:=wl) (d:=pl) (xs:=ws) (ys:=us) cS
   (fun i σ H'=>∃ (zs:List V) (v2 v3 v4 v5 v6:Option V),σ = [some (.ref t),some (.ref L),v2,v3,v4,v5,v6] /\ A5 H H' /\ H' L = some (.lst zs) /\ A8 (Dx H') (B3 (wh.take i) (ds.take i)) zs)
   ⟨[],none,none,none,none,none,rfl,s1,e1,A8.nil⟩ (fun i σ H' _ ⟨_,_,_,_,_,_,_,s,_⟩=>⟨As.of (s _ _ au),As.of (s _ _ ak)⟩) ?_ ?_
  ·rintro i y u T σ H2 hy hu ⟨zs,v2,v3,v4,v5,v6,rfl,s2,ba,hz⟩ hT
   obtain ⟨r,bH,tr,rfl,fV⟩ := ao.get hy
   obtain ⟨d,aH,aq⟩ := aj.get hu
   have s3:A5 H2 (upd H2 T (.tup [.ref tr,u])):=A5.upd hT
   have b5:=s2.trans s3
   have cy:=ab.1 r (List.mem_of_getElem? bH)
   refine ⟨T,_,rfl,B6.of A1,rfl,_,_,rfl,_,_,rfl,rfl,?_⟩
   generalize upd H2 T (.tup [.ref tr,u]) = H3 at s3 b5 ⊢
   refine ⟨_,rfl,u,d,rfl,Au.same b5 1 aq,fun p bb H4 dq s4 ep az=>?_⟩
   have fM:=b5.trans s4
   have eC:=s4 _ _ (s3 _ _ ba)
   have fN:p ≠ L:=fun z=>by rw [z,s3 _ _ ba] at dq; cases dq
   have fO:=hz.aa fun _ _ z=>(z.same s3).same s4
   have cf:=Dv (wh:=wh) (ds:=ds) (i + 1)
   rw [B7 bH aH,List.length_append,List.length_map] at cf
   have gF:=ay.2.1
   refine ⟨p,rfl,.inl ⟨⟨_,As.of ep⟩,?_⟩⟩
   refine Ct (K:=K) (a:=p) (xs:=bb) (fun k σ H'=>∃ (zs:List V) (v4 v5 v6:Option V),σ = [some (.ref t),some (.ref L),some (.ref tr),some u,v4,v5,v6] /\ A5 H H' /\ H' p = some (.lst bb) /\ A8 (Dx H') d.rows bb /\ H' L = some (.lst zs) /\ A8 (Dx H') (B3 (wh.take i) (ds.take i) ++ (d.rows.take k).map (B9 r)) zs)
    ⟨zs,v4,v5,v6,rfl,fM,ep,az,eC,by rw [List.take_zero]; simpa using fO⟩ (fun k σ H' _ ⟨_,_,_,_,_,_,e,_⟩=>As.of e) ?_ ?_
   ·rintro k y σ H5 hy ⟨cJ,fP,fQ,fR,rfl,s5,fS,aw,bO,bq⟩
    obtain ⟨ai,cq,t5,rfl,fT⟩ := aw.get hy
    have hk:=(List.getElem?_eq_some_iff.mp cq).1
    obtain ⟨b1,b2⟩ := ay.2.2 d (List.mem_of_getElem? aH) ai (List.mem_of_getElem? cq)
    have cX:intBits r.1 <= 600:=Cn (by have:=cy.1; omega) cy.2.1
    have f9:=bq.1
    rw [List.length_append,List.length_map,List.length_take] at f9
    refine ⟨t5,_,rfl,B6.of fT,rfl,_,_,rfl,_,_,rfl,_,_,rfl,rfl,?_⟩
    have tp:=s5 _ _ fV
    refine ⟨_,rfl,.inl ⟨rfl,_,As.of bO⟩,_,rfl,_,rfl,tr,_,_,_,rfl,rfl,.inr (B6.of tp),rfl,_,rfl,_,_,rfl,rfl,E9 cX b1 (by decide),_,rfl,tr,_,_,_,rfl,rfl,.inr (B6.of tp),rfl,_,rfl,tr,_,_,_,rfl,rfl,.inr (B6.of tp),rfl,_,rfl,_,_,rfl,rfl,E9 cX b2 (by decide),_,_,rfl,rfl,B8,fun T2 br=>?_⟩
    have s6:A5 H5 (upd H5 T2 (.tup [.str ai.1,.int (r.1 * ai.2.1),.int (r.2 + r.1 * ai.2.2)])):=A5.upd br
    have e6:(upd H5 T2 (.tup [.str ai.1,.int (r.1 * ai.2.1),.int (r.2 + r.1 * ai.2.2)])) T2 = some (.tup [.str ai.1,.int (r.1 * ai.2.1),.int (r.2 + r.1 * ai.2.2)]):=A1
    generalize upd H5 T2 (.tup [.str ai.1,.int (r.1 * ai.2.1),.int (r.2 + r.1 * ai.2.2)]) = H6 at s6 e6 ⊢
    have bP:=s6 _ _ bO
    refine ⟨L,_,_,rfl,rfl,bP,Ap (by omega),?_⟩
    refine ⟨cJ ++ [.ref T2],_,_,_,rfl,(s5.trans s6).new hL,(Af fN).trans (s6 _ _ fS),aw.aa fun _ _ z=>(z.same s6).put bP,A1,?_⟩
    rw [Bp cq,List.map_append,<- List.append_assoc]
    exact ((bq.aa fun _ _ z=>(z.same s6).put bP).append (A8.one (Dx.put bP ⟨T2,rfl,e6⟩)))
   rintro σ H5 ⟨cJ,fP,fQ,fR,rfl,s5,_,_,bO,bq⟩
   rw [az.1,List.take_length] at bq
   refine ⟨cJ,_,_,_,_,_,rfl,s5,bO,?_⟩
   rw [B7 bH aH]
   exact bq
  rintro σ H2 ⟨zs,v2,v3,v4,v5,v6,rfl,s2,ba,hz⟩
  rw [ao.1,List.take_length,<- hlen,List.take_length] at hz
  exact ⟨_,rfl,q L zs H2 hL s2 ba hz⟩
def Dn (K:PySem.W.Frag):Sp:=fun vs H Q _=>∃ (v:V) (d:PD),vs = [v] /\ Au 3 H d v /\ ∀ (p:Addr) (zs:List V) (H':Hp),H p = none -> A5 H H' -> H' p = some (.lst zs) -> A8 (Dx H') d.rows zs -> Q (.ref p) H'
theorem Ho {fd  aO:FuncData} (T:Txt K mg ad a8 a7) (F:Dp K "_law_rows" "_law_rows" F8 ad.aE fd) (bW:A9 P w K mg base Aq 3 ad.aE aO ["tree"] (Dm K)) (b9:Ac K aO ["tree"] []):A9 P w K mg base Aq 4 ad.aE fd ["tree"] (Dn K):=by
 refine F.ok Bd (fun vs H Q E h=>?_) (fun ax A outer s H vs Q E hr h=>?_)
 ·rcases h with ⟨v,d,rfl,ar,q⟩ <;> rfl
 ·obtain ⟨v,d,rfl,ar,q⟩ := h
  refine ⟨_,(A4 (Bo (Al C7 (Ai (Ah K) (pv 0) A2 (fun _ _=>rfl)) Bv (Ar _)) (A6 (Ag (Ci (A0 (Bk (A0 (Ai (Ah K) (pv 0) A2 (fun _ _=>rfl)) (A0 A2 (A0 A2 A3)))) A3)))) Ay) (A4 (Az (i:=1) Bd.nd rfl (Or.inl rfl) (Ci A3)) (A4 (Bw PassesOwn.never rfl (Ej (by rfl) T.d7 (A0 (Ai (Ah K) (pv 0) A2 (fun _ _=>rfl)) (A0 (Ai (Ah K) (pv 0) A2 (fun _ _=>rfl)) A3))) (Bm K (n:=2) rfl (Ad (Aa (i:=2) Bd.nd rfl (Or.inl rfl)) (Ad (Aa (i:=3) Bd.nd rfl (Or.inl rfl)) Bn))) (A6 (Bw PassesOwn.never rfl (Cv (Am bW (hr.mono (by decide)) rfl T.eP T.k_x15 b9 .nil Aj (A0 (pv 3) A3))) (Bm K (n:=3) rfl (Ad (Aa (i:=4) Bd.nd rfl (Or.inl rfl)) (Ad (Aa (i:=5) Bd.nd rfl (Or.inl rfl)) (Ad (Aa (i:=6) Bd.nd rfl (Or.inl rfl)) Bn)))) (A6 (E6 (Gp PySem.F.plainAttrs_list PySem.F.slot_list_append PySem.F.type_list_append C0 (pv 1) (A0 (Bk (A0 (pv 4) (A0 (Ab Bf (Ai (Ah K) (pv 2) A2 (fun _ _=>rfl)) (pv 5)) (A0 (Ab B4 (Ai (Ah K) (pv 2) A2 (fun _ _=>rfl)) (Ab Bf (Ai (Ah K) (pv 2) A2 (fun _ _=>rfl)) (pv 6))) A3)))) A3))))))) (A6 (Ag (pv 1)))))),?_⟩
  rcases ar with ⟨t,n,rfl,ht,rfl⟩ | ⟨t,wl,pl,wh,ws,us,ds,rfl,ht,au,ao,ak,aj,hlen,ab,ay,rfl⟩
  ·refine ⟨_,rfl,t,_,_,_,rfl,rfl,.inr (B6.of ht),rfl,rfl,_,rfl,Ed (by decide) ?_⟩
   refine ⟨_,rfl,t,_,_,_,rfl,rfl,.inr (B6.of ht),rfl,B8,fun T2 br=>?_⟩
   have s1:A5 H (upd H T2 (.tup [.str n,.int 1,.int 0])):=A5.upd br
   have e1:(upd H T2 (.tup [.str n,.int 1,.int 0])) T2 = some (.tup [.str n,.int 1,.int 0]):=A1
   generalize upd H T2 (.tup [.str n,.int 1,.int 0]) = H1 at s1 e1 ⊢
   refine ⟨B8,fun p hp=>?_⟩
   have s2:=A5.upd (o := .lst [.ref T2]) hp
   exact q p [.ref T2] _ (s1.free hp) (s1.trans s2) A1 (A8.one ⟨T2,rfl,s2 _ _ e1⟩)
  have cS:ws.length = us.length:=by rw [aj.1,ao.1,hlen]
  refine ⟨_,rfl,t,_,_,_,rfl,rfl,.inr (B6.of ht),rfl,rfl,_,rfl,Cu (by decide) ?_⟩
  refine ⟨B8,fun L hL=>?_⟩
  have s1:A5 H (upd H L (.lst [])):=A5.upd hL
  have e1:(upd H L (.lst [])) L = some (.lst []):=A1
  generalize upd H L (.lst []) = H1 at s1 e1 ⊢
  refine ⟨_,rfl,t,_,_,_,rfl,rfl,.inr (B6.of (s1 _ _ ht)),rfl,_,rfl,t,_,_,_,rfl,rfl,.inr (B6.of (s1 _ _ ht)),rfl,false,false,wl,pl,rfl,⟨_,As.of (s1 _ _ au)⟩,⟨_,As.of (s1 _ _ ak)⟩,?_⟩
  refine Ds (K:=K) (b1:=false) (b2:=false) (c:=wl) (d:=pl) (xs:=ws) (ys:=us) cS
   (fun i σ H'=>∃ (zs:List V) (v2 v3 v4 v5 v6:Option V),σ = [some (.ref t),some (.ref L),v2,v3,v4,v5,v6] /\ A5 H H' /\ H' L = some (.lst zs) /\ A8 (Dx H') (B3 (wh.take i) (ds.take i)) zs)
   ⟨[],none,none,none,none,none,rfl,s1,e1,A8.nil⟩ (fun i σ H' _ ⟨_,_,_,_,_,_,_,s,_⟩=>⟨As.of (s _ _ au),As.of (s _ _ ak)⟩) ?_ ?_
  ·rintro i y u T σ H2 hy hu ⟨zs,v2,v3,v4,v5,v6,rfl,s2,ba,hz⟩ hT
   obtain ⟨r,bH,tr,rfl,fV⟩ := ao.get hy
   obtain ⟨d,aH,aq⟩ := aj.get hu
   have s3:A5 H2 (upd H2 T (.tup [.ref tr,u])):=A5.upd hT
   have b5:=s2.trans s3
   have cy:=ab.1 r (List.mem_of_getElem? bH)
   refine ⟨T,_,rfl,B6.of A1,rfl,_,_,rfl,_,_,rfl,rfl,?_⟩
   generalize upd H2 T (.tup [.ref tr,u]) = H3 at s3 b5 ⊢
   refine ⟨_,rfl,u,d,rfl,Au.same b5 2 aq,fun p bb H4 dq s4 ep az=>?_⟩
   have fM:=b5.trans s4
   have eC:=s4 _ _ (s3 _ _ ba)
   have fN:p ≠ L:=fun z=>by rw [z,s3 _ _ ba] at dq; cases dq
   have fO:=hz.aa fun _ _ z=>(z.same s3).same s4
   have cf:=Dv (wh:=wh) (ds:=ds) (i + 1)
   rw [B7 bH aH,List.length_append,List.length_map] at cf
   have gF:=ay.2.1
   refine ⟨p,rfl,.inl ⟨⟨_,As.of ep⟩,?_⟩⟩
   refine Ct (K:=K) (a:=p) (xs:=bb) (fun k σ H'=>∃ (zs:List V) (v4 v5 v6:Option V),σ = [some (.ref t),some (.ref L),some (.ref tr),some u,v4,v5,v6] /\ A5 H H' /\ H' p = some (.lst bb) /\ A8 (Dx H') d.rows bb /\ H' L = some (.lst zs) /\ A8 (Dx H') (B3 (wh.take i) (ds.take i) ++ (d.rows.take k).map (B9 r)) zs)
    ⟨zs,v4,v5,v6,rfl,fM,ep,az,eC,by rw [List.take_zero]; simpa using fO⟩ (fun k σ H' _ ⟨_,_,_,_,_,_,e,_⟩=>As.of e) ?_ ?_
   ·rintro k y σ H5 hy ⟨cJ,fP,fQ,fR,rfl,s5,fS,aw,bO,bq⟩
    obtain ⟨ai,cq,t5,rfl,fT⟩ := aw.get hy
    have hk:=(List.getElem?_eq_some_iff.mp cq).1
    obtain ⟨b1,b2⟩ := ay.2.2 d (List.mem_of_getElem? aH) ai (List.mem_of_getElem? cq)
    have cX:intBits r.1 <= 600:=Cn (by have:=cy.1; omega) cy.2.1
    have f9:=bq.1
    rw [List.length_append,List.length_map,List.length_take] at f9
    refine ⟨t5,_,rfl,B6.of fT,rfl,_,_,rfl,_,_,rfl,_,_,rfl,rfl,?_⟩
    have tp:=s5 _ _ fV
    refine ⟨_,rfl,.inl ⟨rfl,_,As.of bO⟩,_,rfl,_,rfl,tr,_,_,_,rfl,rfl,.inr (B6.of tp),rfl,_,rfl,_,_,rfl,rfl,E9 cX b1 (by decide),_,rfl,tr,_,_,_,rfl,rfl,.inr (B6.of tp),rfl,_,rfl,tr,_,_,_,rfl,rfl,.inr (B6.of tp),rfl,_,rfl,_,_,rfl,rfl,E9 cX b2 (by decide),_,_,rfl,rfl,B8,fun T2 br=>?_⟩
    have s6:A5 H5 (upd H5 T2 (.tup [.str ai.1,.int (r.1 * ai.2.1),.int (r.2 + r.1 * ai.2.2)])):=A5.upd br
    have e6:(upd H5 T2 (.tup [.str ai.1,.int (r.1 * ai.2.1),.int (r.2 + r.1 * ai.2.2)])) T2 = some (.tup [.str ai.1,.int (r.1 * ai.2.1),.int (r.2 + r.1 * ai.2.2)]):=A1
    generalize upd H5 T2 (.tup [.str ai.1,.int (r.1 * ai.2.1),.int (r.2 + r.1 * ai.2.2)]) = H6 at s6 e6 ⊢
    have bP:=s6 _ _ bO
    refine ⟨L,_,_,rfl,rfl,bP,Ap (by omega),?_⟩
    refine ⟨cJ ++ [.ref T2],_,_,_,rfl,(s5.trans s6).new hL,(Af fN).trans (s6 _ _ fS),aw.aa fun _ _ z=>(z.same s6).put bP,A1,?_⟩
    rw [Bp cq,List.map_append,<- List.append_assoc]
    exact ((bq.aa fun _ _ z=>(z.same s6).put bP).append (A8.one (Dx.put bP ⟨T2,rfl,e6⟩)))
   rintro σ H5 ⟨cJ,fP,fQ,fR,rfl,s5,_,_,bO,bq⟩
   rw [az.1,List.take_length] at bq
   refine ⟨cJ,_,_,_,_,_,rfl,s5,bO,?_⟩
   rw [B7 bH aH]
   exact bq
  rintro σ H2 ⟨zs,v2,v3,v4,v5,v6,rfl,s2,ba,hz⟩
  rw [ao.1,List.take_length,<- hlen,List.take_length] at hz
  exact ⟨_,rfl,q L zs H2 hL s2 ba hz⟩
def J6 (K:PySem.W.Frag):Sp:=fun vs H Q _=>∃ (a:Addr) (ns:List Int),vs = [.ref a] /\ As K H a (ns.map V.int) /\ ns.length <= 63 /\ (∀ z ∈ ns,intBits z <= 2 ^ 20) /\ ∀ H',Q (.bl true) H'
theorem P3 {fd aM aN aQ bx aO aR:FuncData} (T:Txt K mg ad a8 a7) (F:Dp K "law" "law" Ef ad.cm fd) (bU:A9 P w K mg base Aq 5 ad.aC aM ["script","deep","at"] (Df K)) (b7:Ac K aM ["script","deep","at"] []) (bV:A9 P w K mg base Aq 11 ad.aD aN ["tree"] (Dj K a8 a7)) (b8:Ac K aN ["tree"] []) (bQ:A9 P w K mg base Aq 1 ad.bL aQ ["self","turn"] (Gw K a8 a7)) (bR:Ac K aQ ["self","turn"] []) (du:A9 P w K mg base Aq 6 ad.b4 bx ["self","turn"] (Cc K a8 a7)) (cz:Ac K bx ["self","turn"] []) (bW:A9 P w K mg base Aq 4 ad.aE aO ["tree"] (Dn K)) (b9:Ac K aO ["tree"] []) (bI:A9 P w K mg base Aq 1 ad.bM aR ["script","k"] (Gv K)) (bJ:Ac K aR ["script","k"] []):A9 P w K mg base Aq 12 ad.cm fd ["script"] (J6 K):=by
 refine F.ok E8 (fun vs H Q E h=>?_) (fun ax A outer s H vs Q E hr h=>?_)
 ·rcases h with ⟨a,ns,rfl,hS,hlen,cf,q⟩ <;> rfl
 ·obtain ⟨a,ns,rfl,hS,hlen,cf,q⟩ := h
  refine ⟨_,(A4 (Az (i:=1) E8.nd rfl (Or.inl rfl) (Am bU (hr.mono (by decide)) rfl T.eM T.k_x13 b7 .nil Aj (A0 (Mu (N0 K) (pv 0) (O1 A2) O0) (A0 A2 (A0 A2 A3))))) (A4 (Az (i:=2) E8.nd rfl (Or.inr rfl) (Am bV (hr.mono (by decide)) rfl T.eO T.k_x14 b8 .nil Aj (A0 (pv 1) A3))) (A4 (Az (i:=3) E8.nd rfl (Or.inr rfl) (Ab Bt (Am bI (hr.mono (by decide)) rfl T.fu T.k_x6 bJ .nil Aj (A0 (pv 0) (A0 A2 A3))) (Ab P9 A2 A2))) (A4 (Az (i:=4) E8.nd rfl (Or.inr rfl) (C3 (Cr (by rfl) T.bC (A0 A2 A3)) _ rfl M3 rfl rfl (fun _ _ _ _=>(Aa (i:=0) Mo rfl (Or.inl rfl))) (fun _ _ _ _=>Bu) (fun _ _ _ _=>(Hq (Bl (D4 (pv 1) T.aG T.gC bQ (hr.mono (by decide)) bR .nil Aj (A0 (Ab B4 (pv 2) (pv 0)) A3)) (D4 (pv 1) T.a9 T.gD du (hr.mono (by decide)) cz .nil Aj (A0 (Ab B4 (pv 2) (pv 0)) A3))))))) (A4 (Bw PassesOwn.never rfl (Cv (Am bW (hr.mono (by decide)) rfl T.eP T.k_x15 b9 .nil Aj (A0 (pv 1) A3))) (Bm K (n:=3) rfl (Ad (Aa (i:=5) E8.nd rfl (Or.inr rfl)) (Ad (Aa (i:=6) E8.nd rfl (Or.inl rfl)) (Ad (Aa (i:=7) E8.nd rfl (Or.inl rfl)) Bn)))) (A6 (Bo (Al Qn (pv 6) A2 (Ar _)) (A4 (Gr (i:=8) E8.nd rfl (Cr (by rfl) T.bC (A0 (pv 6) A3)) _ rfl M4 rfl rfl (fun _ _ _ _=>(Aa (i:=0) Mp rfl (Or.inl rfl))) (fun _ _ _ _=>(O2 (Al C7 (Ai (Ah K) (pv 3) (pv 0) (fun _ _=>rfl)) (pv 2) (Ar _)))) (fun _ _ _ _=>(Ab B4 (pv 1) (pv 0))) rfl rfl) (A4 (Bo (PW.pt (Fp (Al Ms (Dt (Cq K) (by rfl) T.cG PySem.boot_len (A0 (pv 8) A3)) A2 (Ar _)) (Fo (Al Ms (Ab Bt (Ab Ex (Ai (Ah K) (pv 8) A2 (fun _ _=>rfl)) (pv 7)) (pv 6)) A2 (Ar _))))) (A6 (Ag Mt)) Ay) (A6 (Bo (Al Fy (Ai (Ah K) (pv 8) A2 (fun _ _=>rfl)) (pv 7) (Ar _)) (A6 (Ag Mt)) Ay)))) Ay))) (A6 (Ag Mt))))))),?_⟩
  refine ⟨_,rfl,_,rfl,a,_,rfl,hS,fun sl hsl=>?_⟩
  rw [L5]
  generalize Op ns (some 1) none = cs at hsl ⊢
  have s1:A5 H (upd H sl (.lst (cs.map V.int))):=A5.upd hsl
  have e1:(upd H sl (.lst (cs.map V.int))) sl = some (.lst (cs.map V.int)):=A1
  generalize upd H sl (.lst (cs.map V.int)) = H1 at s1 e1 ⊢
  refine ⟨sl,cs,0,0,rfl,e1,rfl,Nat.le_refl _,Kx,fun tree d H2 s2 ar dc=>?_⟩
  have ht2:=ar H2 NT.self
  refine ⟨_,rfl,tree,d,rfl,ht2,Kx.sublist dc.2.1,fun nest H3 s3 aq=>?_⟩
  have dq:=aq H3 NT.self
  have b5:=(s1.trans s2).trans s3
  refine ⟨_,rfl,a,ns,0,rfl,b5.seq hS,by decide,_,_,rfl,rfl,⟨by decide,by decide,by decide⟩,_,_,rfl,rfl,Oc,?_⟩
  have hB:=(Bh (Dq ns 0) Oc).1
  dsimp only
  generalize Dq ns 0 % 10 ^ (60:Int).toNat = B at hB ⊢
  refine ⟨60,rfl,by decide,by decide,fun W hW=>?_⟩
  refine Dz (cnt:=60) (fun i ys H'=>ys = (List.range i).map (fun (k:Nat)=>Kw (d.call (B + (0 + (k:Int))))) /\ H' W = some (.lst ys) /\ A5 H3 H') ⟨rfl,A1,A5.upd hW⟩ ?_ ?_
  ·rintro i ys H' hi ⟨rfl,aY,s'⟩ Qe hQ
   refine ⟨fun v H4=>v = Kw (d.call (B + (0 + (i:Int)))) /\ A5 H' H4,?_,?_⟩
   ·rcases dq with ⟨x,dx,n,rfl,hx,rfl⟩ | ⟨x,dx,wl,pl,wh,ws,us,ds,rfl,g1,g2,g3,g4,g5,g6,g7,g8,rfl⟩
    ·exact .inl ⟨_,rfl,x,dx,_,rfl,s' _ _ hx,rfl,_,rfl,_,rfl,_,_,rfl,rfl,x,dx,n,_,rfl,s' _ _ hx,rfl,A5.refl _⟩
    ·exact .inr ⟨_,rfl,x,dx,_,rfl,s' _ _ g1,rfl,_,rfl,_,rfl,_,_,rfl,rfl,x,dx,wl,pl,wh,ws,us,ds,_,rfl,s' _ _ g1,s' _ _ g2,g3.aa (fun _ _ z=>z.av s'),s' _ _ g4,g5.aa (fun _ _ z=>Ak.same s' 2 z),g6,g7,g8,fun H4 s4=>⟨rfl,s4⟩⟩
   rintro v H4 ⟨rfl,s4⟩
   refine hQ _ _ (s4 _ _ aY) (Ap (by rw [List.length_map,List.length_range]; omega)) ⟨?_,A1,(s'.trans s4).new hW⟩
   rw [List.range_succ,List.map_append]
   rfl
  rintro ys H4 ⟨rfl,hW4,s4⟩
  refine ⟨_,rfl,tree,d,rfl,Au.same (s3.trans s4) 3 ht2,fun p zs H5 hp5 s5 ep az=>?_⟩
  have hW5:=s5 _ _ hW4
  refine ⟨p,rfl,.inl ⟨⟨_,As.of ep⟩,?_⟩⟩
  refine Ct (K:=K) (a:=p) (xs:=zs) (fun i σ H'=>∃ v5 v6 v7 v8:Option V,σ = [some (.ref a),some tree,some nest,some (.int B),some (.ref W),v5,v6,v7,v8] /\ A5 H5 H') ⟨none,none,none,none,rfl,A5.refl _⟩ (fun i σ H' _ ⟨_,_,_,_,_,s⟩=>As.of (s _ _ ep)) ?_ ?_
  ·rintro i y σ H6 hy ⟨v5,v6,v7,v8,rfl,s6⟩
   obtain ⟨r,bH,t,rfl,ht⟩ := az.get hy
   obtain ⟨g1,g2,g3,g4⟩ := dc.1.1 r (List.mem_of_getElem? bH)
   have nu:=s6 _ _ hW5
   refine ⟨t,_,rfl,B6.of (s6 _ _ ht),rfl,_,_,rfl,_,_,rfl,_,_,rfl,rfl,?_⟩
   refine ⟨_,rfl,_,_,rfl,rfl,_,rfl,Ix (fun oF=>?_) (fun oF=>⟨_,_,_,_,rfl,s6⟩)⟩
   have oF:r.2.1 <= 60:=of_decide_eq_true oF
   refine ⟨_,rfl,r.2.1,rfl,by omega,by omega,fun D hD=>?_⟩
   refine Jc (cnt:=r.2.1.toNat) (fun j ys H'=>ys = ((List.range j).filter (Dw B r.2.1 r.2.2)).map (fun (k:Nat)=>V.int (B + (0 + (k:Int)))) /\ H' D = some (.lst ys) /\ A5 H6 H') ⟨rfl,A1,A5.upd hD⟩ ?_ ?_ ?_ ?_
   ·rintro j ys H7 hj ⟨rfl,iE,s7⟩
    have fB:Kr ((List.range 60).map fun (k:Nat)=>Kw (d.call (B + (0 + (k:Int))))) (0 + (j:Int)) = some (Kw (d.call (B + (0 + (j:Int))))):=by
     rw [Int.zero_add j]
     refine Eh ?_
     rw [List.getElem?_map,List.getElem?_range (by omega)]
     show some (Kw (d.call (B + (0 + (j:Int))))) = _
     rw [Int.zero_add]
    have hfl:(List.range (j + 1)).filter (Dw B r.2.1 r.2.2) = (List.range j).filter (Dw B r.2.1 r.2.2) ++ (if Dw B r.2.1 r.2.2 j = true then [j] else []):=by
     rw [List.range_succ,List.filter_append,List.filter_cons]
     rfl
    have htb:Dw B r.2.1 r.2.2 j = decide (Kw (d.call (B + (0 + (j:Int)))) = V.str r.1):=by
     unfold Dw
     rw [decide_eq_true hj,Bool.true_and]
     refine decide_eq_decide.mpr ?_
     rw [Q8]
     exact (g4 _ (by omega)).symm
    refine ⟨_,rfl,_,rfl,W,_,_,_,rfl,rfl,.inl (As.of (s7 _ _ nu)),fB,_,rfl,O4 _ _,_,rfl,?_⟩
    rw [<- htb]
    rw [hfl]
    have hln:((List.range j).filter (Dw B r.2.1 r.2.2)).length <= j:=by
     have:=List.length_filter_le (Dw B r.2.1 r.2.2) (List.range j)
     rw [List.length_range] at this
     exact this
    refine Ix (fun h0=>?_) (fun h0=>?_)
    ·rw [if_pos h0,List.map_append]
     exact ⟨_,rfl,_,rfl,_,_,rfl,rfl,iE,Ap (by rw [List.length_map]; omega),rfl,A1,s7.new hD⟩
    ·rw [if_neg h0,List.append_nil]
     exact ⟨rfl,iE,s7⟩
   ·rintro σ H0 Q1 Q2 hQ h1
    obtain ⟨x1,e1,x2,e2,x3,x4,x5,x6,e3,e4,e5,e6,x7,e7,e8,x8,e9,z⟩ := h1
    exact ⟨x1,e1,x2,e2,x3,x4,x5,x6,e3,e4,e5,e6,x7,e7,e8,x8,e9,hQ _ _ z⟩
   ·rintro σ H0 Q1 Q2 hQ ⟨x1,e1,x2,e2,x3,x4,e3,e4,z⟩
    exact ⟨x1,e1,x2,e2,x3,x4,e3,e4,hQ _ _ z⟩
   rintro ys H7 ⟨rfl,iE,s7⟩
   obtain ⟨x,ex,hxm,hx0⟩ := Mq (B:=B) hB g1 ⟨g2,g3⟩
   rw [ex] at iE
   have hz:(x - r.2.2) % r.2.1 = 0:=by
    rw [Int.sub_emod,hxm,Int.emod_eq_of_lt g2 g3,Int.sub_self,Int.zero_emod]
   refine ⟨_,rfl,D,_,rfl,.inl (As.of iE),rfl,_,rfl,false,(fun _ Q' z=>⟨_,rfl,D,_,_,_,rfl,rfl,.inl (As.of iE),rfl,_,rfl,_,_,rfl,rfl,_,rfl,_,_,rfl,rfl,(by show (0:Int) < r.2.1; omega),rfl,_,rfl,?_⟩),Cu rfl ?_⟩
   ·show Q' (!decide (V.int ((x - r.2.2) % r.2.1) = V.int 0)) H7
    rw [hz]
    exact z
   refine ⟨_,rfl,D,_,_,_,rfl,rfl,.inl (As.of iE),rfl,_,rfl,_,_,rfl,rfl,_,rfl,Cu (decide_eq_false ?_) ?_⟩
   ·have hd:=Int.mul_ediv_add_emod x r.2.1
    have hq:0 <= x / r.2.1:=Int.ediv_nonneg hx0 (by omega)
    have hm:=Int.mul_nonneg (show 0 <= r.2.1 by omega) hq
    show ¬ x < r.2.2
    omega
   exact ⟨_,_,_,_,rfl,s6.trans s7⟩
  rintro σ H6 ⟨v5,v6,v7,v8,rfl,s6⟩
  exact q H6
end
theorem all_mk {l : PySem.W.OpenLaw} {w : World} {K : PySem.W.Frag} {h : Heap} {mg : Str -> Option Value} {fa : Addr} (X : K.In h) (G : h.Ns mainGlobals mg) (hfa : mg "law" = some (.ref fa)) {aV bE cU c6 cV c7 bL aW aX b3 aB c8 b4 bM c9 aC aD aE cm a8 a7 : Addr} {iG iH iI iJ kP kQ kR kS kT kU kW kX kY kZ iK iL iM iO l0 l4 iP iQ l5 l6 l7 l8 l9 la lb lg iR iT iU iV iW iX iY fX : Option Addr} {iZ j0 lh lj lp lq lr j3 j4 lu j5 lx ly lz lA j6 j7 j8 j9 : Array (Option Value)} {ja jb jc jd fY je jf jg jh ji fZ jj lB lC lD lE gT lF lG lH lI lJ gU lK lL lM lN lO gW lP lQ lR lS lT gX lU lV lW lX lY gY lZ jk jl jm jn g0 jo jq jr js jt g9 ju m6 m9 ma mf gZ mh jv jw jx jy gb jz mi mj ml mm hG mn mq mw mx mz hJ mB mC mD mE mF hU mG mH mI mJ mK hV mL jA jB jC jD gc jE jF jG jH jI gd jJ jK jL jM jN gf jO jP gh gi gj eD gk : Value}
  (a_x17:PySem.W.nsIn K mainGlobals "heard" = some (some (.ref aV))) (l_x17:K.lookup aV = some ⟨ja,iG,.func (PySem.W.fnOf "heard" "heard" (Aw Ic) (Av Ic) (A7 Ic) .none jb jc jd iH fY je),iZ⟩) (c_x17:PySem.W.codeIn K fY "heard" = true) (k_x17:PySem.W.keepIn K (.ref aV) = true)
  (a_x16:PySem.W.nsIn K mainGlobals "row_of" = some (some (.ref bE))) (l_x16:K.lookup bE = some ⟨jf,iI,.func (PySem.W.fnOf "row_of" "row_of" (Aw Ib) (Av Ib) (A7 Ib) .none jg jh ji iJ fZ jj),j0⟩) (c_x16:PySem.W.codeIn K fZ "row_of" = true) (k_x16:PySem.W.keepIn K (.ref bE) = true)
  (a_x4:PySem.W.nsIn K mainGlobals "times_ahead" = some (some (.ref cU))) (l_x4:K.lookup cU = some ⟨lB,kP,.func (PySem.W.fnOf "times_ahead" "times_ahead" (Aw Lo) (Av Lo) (A7 Lo) .none lC lD lE kQ gT lF),lh⟩) (c_x4:PySem.W.codeIn K gT "times_ahead" = true) (k_x4:PySem.W.keepIn K (.ref cU) = true)
  (a_x1:PySem.W.nsIn K mainGlobals "called_times" = some (some (.ref c6))) (l_x1:K.lookup c6 = some ⟨lG,kR,.func (PySem.W.fnOf "called_times" "called_times" (Aw Lm) (Av Lm) (A7 Lm) .none lH lI lJ kS gU lK),lj⟩) (c_x1:PySem.W.codeIn K gU "called_times" = true) (k_x1:PySem.W.keepIn K (.ref c6) = true)
  (a_x9:PySem.W.nsIn K mainGlobals "any_twice" = some (some (.ref cV))) (l_x9:K.lookup cV = some ⟨lL,kT,.func (PySem.W.fnOf "any_twice" "any_twice" (Aw Lr) (Av Lr) (A7 Lr) .none lM lN lO kU gW lP),lp⟩) (c_x9:PySem.W.codeIn K gW "any_twice" = true) (k_x9:PySem.W.keepIn K (.ref cV) = true)
  (i_x2:PySem.W.isFn K (.ref c7) = true) (l_x2:K.lookup c7 = some ⟨lQ,kW,.func (PySem.W.fnOf "__init__" "One.__init__" (Aw Ln) (Av Ln) (A7 Ln) .none lR lS lT kX gX lU),lq⟩) (c_x2:PySem.W.codeIn K gX "One.__init__" = true) (k_x2:PySem.W.keepIn K (.ref c7) = true)
  (i_x7:PySem.W.isFn K (.ref bL) = true) (l_x7:K.lookup bL = some ⟨lV,kY,.func (PySem.W.fnOf "called" "One.called" (Aw Lq) (Av Lq) (A7 Lq) .none lW lX lY kZ gY lZ),lr⟩) (c_x7:PySem.W.codeIn K gY "One.called" = true) (k_x7:PySem.W.keepIn K (.ref bL) = true)
  (i_x12:PySem.W.isFn K (.ref aW) = true) (l_x12:K.lookup aW = some ⟨jk,iK,.func (PySem.W.fnOf "rows" "One.rows" (Aw Ia) (Av Ia) (A7 Ia) .none jl jm jn iL g0 jo),j3⟩) (c_x12:PySem.W.codeIn K g0 "One.rows" = true) (k_x12:PySem.W.keepIn K (.ref aW) = true)
  (i_x10:PySem.W.isFn K (.ref aX) = true) (l_x10:K.lookup aX = some ⟨jq,iM,.func (PySem.W.fnOf "depth" "One.depth" (Aw I9) (Av I9) (A7 I9) .none jr js jt iO g9 ju),j4⟩) (c_x10:PySem.W.codeIn K g9 "One.depth" = true) (k_x10:PySem.W.keepIn K (.ref aX) = true)
  (i_x8:PySem.W.isFn K (.ref b3) = true) (l_x8:K.lookup b3 = some ⟨m6,l0,.func (PySem.W.fnOf "depth" "Many.depth" (Aw Hr) (Av Hr) (A7 Hr) .none m9 ma mf l4 gZ mh),lu⟩) (c_x8:PySem.W.codeIn K gZ "Many.depth" = true) (k_x8:PySem.W.keepIn K (.ref b3) = true)
  (i_x11:PySem.W.isFn K (.ref aB) = true) (l_x11:K.lookup aB = some ⟨jv,iP,.func (PySem.W.fnOf "rows" "Many.rows" (Aw F7) (Av F7) (A7 F7) .none jw jx jy iQ gb jz),j5⟩) (c_x11:PySem.W.codeIn K gb "Many.rows" = true) (k_x11:PySem.W.keepIn K (.ref aB) = true)
  (i_x0:PySem.W.isFn K (.ref c8) = true) (l_x0:K.lookup c8 = some ⟨mi,l5,.func (PySem.W.fnOf "__init__" "Many.__init__" (Aw Kb) (Av Kb) (A7 Kb) .none mj ml mm l6 hG mn),lx⟩) (c_x0:PySem.W.codeIn K hG "Many.__init__" = true) (k_x0:PySem.W.keepIn K (.ref c8) = true)
  (i_x5:PySem.W.isFn K (.ref b4) = true) (l_x5:K.lookup b4 = some ⟨mq,l7,.func (PySem.W.fnOf "called" "Many.called" (Aw J1) (Av J1) (A7 J1) .none mw mx mz l8 hJ mB),ly⟩) (c_x5:PySem.W.codeIn K hJ "Many.called" = true) (k_x5:PySem.W.keepIn K (.ref b4) = true)
  (a_x6:PySem.W.nsIn K mainGlobals "_law_cell_at" = some (some (.ref bM))) (l_x6:K.lookup bM = some ⟨mC,l9,.func (PySem.W.fnOf "_law_cell_at" "_law_cell_at" (Aw Lp) (Av Lp) (A7 Lp) .none mD mE mF la hU mG),lz⟩) (c_x6:PySem.W.codeIn K hU "_law_cell_at" = true) (k_x6:PySem.W.keepIn K (.ref bM) = true)
  (a_x3:PySem.W.nsIn K mainGlobals "_law_wheel_by" = some (some (.ref c9))) (l_x3:K.lookup c9 = some ⟨mH,lb,.func (PySem.W.fnOf "_law_wheel_by" "_law_wheel_by" (Aw Kc) (Av Kc) (A7 Kc) .none mI mJ mK lg hV mL),lA⟩) (c_x3:PySem.W.codeIn K hV "_law_wheel_by" = true) (k_x3:PySem.W.keepIn K (.ref c9) = true)
  (a_x13:PySem.W.nsIn K mainGlobals "_law_nest" = some (some (.ref aC))) (l_x13:K.lookup aC = some ⟨jA,iR,.func (PySem.W.fnOf "_law_nest" "_law_nest" (Aw El) (Av El) (A7 El) .none jB jC jD iT gc jE),j6⟩) (c_x13:PySem.W.codeIn K gc "_law_nest" = true) (k_x13:PySem.W.keepIn K (.ref aC) = true)
  (a_x14:PySem.W.nsIn K mainGlobals "_law_part" = some (some (.ref aD))) (l_x14:K.lookup aD = some ⟨jF,iU,.func (PySem.W.fnOf "_law_part" "_law_part" (Aw Em) (Av Em) (A7 Em) .none jG jH jI iV gd jJ),j7⟩) (c_x14:PySem.W.codeIn K gd "_law_part" = true) (k_x14:PySem.W.keepIn K (.ref aD) = true)
  (a_x15:PySem.W.nsIn K mainGlobals "_law_rows" = some (some (.ref aE))) (l_x15:K.lookup aE = some ⟨jK,iW,.func (PySem.W.fnOf "_law_rows" "_law_rows" (Aw F8) (Av F8) (A7 F8) .none jL jM jN iX gf jO),j8⟩) (c_x15:PySem.W.codeIn K gf "_law_rows" = true) (k_x15:PySem.W.keepIn K (.ref aE) = true)
  (a_law:PySem.W.nsIn K mainGlobals "law" = some (some (.ref cm))) (l_law:K.lookup cm = some ⟨jP,iY,.func (PySem.W.fnOf "law" "law" (Aw Ef) (Av Ef) (A7 Ef) .none gh gi gj fX eD gk),j9⟩) (c_law:PySem.W.codeIn K eD "law" = true) (k_law:PySem.W.keepIn K (.ref cm) = true)
  (pg_One:PySem.W.plainGet K a8 Str.empty = true) (hd_One:PySem.W.hasDictIn K a8 = true) (po_One:PySem.W.plainOver K a8 = true) (sa_One:PySem.W.findIn K (.ref a8) "__setattr__" = some (some (.builtin "object.__setattr__"))) (mm_One:PySem.W.makesIn K a8 = true) (kc_One:PySem.W.keepIn K (.ref a8) = true) (fm_x7:PySem.W.findIn K (.ref a8) "called" = some (some (.ref bL))) (fm_x12:PySem.W.findIn K (.ref a8) "rows" = some (some (.ref aW))) (fm_x10:PySem.W.findIn K (.ref a8) "depth" = some (some (.ref aX))) (fm_x2:PySem.W.findIn K (.ref a8) "__init__" = some (some (.ref c7))) (nf_One_name:PySem.W.findIn K (.ref a8) "name" = some none) (pg_Many:PySem.W.plainGet K a7 Str.empty = true) (hd_Many:PySem.W.hasDictIn K a7 = true) (po_Many:PySem.W.plainOver K a7 = true) (sa_Many:PySem.W.findIn K (.ref a7) "__setattr__" = some (some (.builtin "object.__setattr__"))) (mm_Many:PySem.W.makesIn K a7 = true) (kc_Many:PySem.W.keepIn K (.ref a7) = true) (fm_x5:PySem.W.findIn K (.ref a7) "called" = some (some (.ref b4))) (fm_x11:PySem.W.findIn K (.ref a7) "rows" = some (some (.ref aB))) (fm_x8:PySem.W.findIn K (.ref a7) "depth" = some (some (.ref b3))) (fm_x0:PySem.W.findIn K (.ref a7) "__init__" = some (some (.ref c8))) (nf_Many_wheel:PySem.W.findIn K (.ref a7) "wheel" = some none) (nf_Many_parts:PySem.W.findIn K (.ref a7) "parts" = some none)
  {cY:Nat} (y_MOST_DEPTH:PySem.W.nsIn K mainGlobals "MOST_DEPTH" = some (some (.int 8 cY))) (z_enumerate:PySem.W.nsIn K mainGlobals "enumerate" = some none) (z_len:PySem.W.nsIn K mainGlobals "len" = some none) (z_set:PySem.W.nsIn K mainGlobals "set" = some none) (z_list:PySem.W.nsIn K mainGlobals "list" = some none) (z_zip:PySem.W.nsIn K mainGlobals "zip" = some none) (z_max:PySem.W.nsIn K mainGlobals "max" = some none) (z_range:PySem.W.nsIn K mainGlobals "range" = some none) (z_str:PySem.W.nsIn K mainGlobals "str" = some none) (ac_One:PySem.W.nsIn K mainGlobals "One" = some (some (.ref a8))) (ac_Many:PySem.W.nsIn K mainGlobals "Many" = some (some (.ref a7)))  :
  ∃ fd:FuncData,(∀ (s:Shared) (v:Value),BindsTo s fd ⟨[v],[]⟩ [("script",v)]) /\ ∀ base:Heap,K.In base -> base.Ns mainGlobals mg -> A9 l.prog w K mg base Aq 12 fa fd ["script"] (J6 K):=by
 have e:=hfa.symm.trans (PySem.W.mg_of X G a_law)
 cases e
 have T:Txt K mg ⟨aV,bE,cU,c6,cV,c7,bL,aW,aX,b3,aB,c8,b4,bM,c9,aC,aD,aE,fa⟩ a8 a7:=⟨PySem.W.mg_of X G a_x17,k_x17,PySem.W.mg_of X G a_x16,k_x16,PySem.W.mg_of X G a_x4,k_x4,PySem.W.mg_of X G a_x1,k_x1,PySem.W.mg_of X G a_x9,k_x9,PySem.W.mg_of X G a_x6,k_x6,PySem.W.mg_of X G a_x3,k_x3,PySem.W.mg_of X G a_x13,k_x13,PySem.W.mg_of X G a_x14,k_x14,PySem.W.mg_of X G a_x15,k_x15,PySem.W.mg_of X G a_law,k_law,PySem.W.mg_none_of X G z_enumerate,PySem.W.mg_none_of X G z_len,PySem.W.mg_none_of X G z_set,PySem.W.mg_none_of X G z_list,PySem.W.mg_none_of X G z_zip,PySem.W.mg_none_of X G z_max,PySem.W.mg_none_of X G z_range,PySem.W.mg_none_of X G z_str,⟨_,PySem.W.mg_of X G y_MOST_DEPTH⟩,PySem.W.mg_of X G ac_One,PySem.W.mg_of X G ac_Many,⟨pg_One,hd_One,po_One,sa_One⟩,⟨mm_One,fm_x2,i_x2,kc_One⟩,⟨fm_x7,i_x7,k_x7⟩,⟨fm_x12,i_x12,k_x12⟩,⟨fm_x10,i_x10,k_x10⟩,nf_One_name,⟨pg_Many,hd_Many,po_Many,sa_Many⟩,⟨mm_Many,fm_x0,i_x0,kc_Many⟩,⟨fm_x5,i_x5,k_x5⟩,⟨fm_x11,i_x11,k_x11⟩,⟨fm_x8,i_x8,k_x8⟩,nf_Many_wheel,nf_Many_parts⟩
 have hX:=Bj (st:=Ic) l_x17 c_x17 k_x17
 have i3:=Bj (st:=Ib) l_x16 c_x16 k_x16
 have mM:=Bj (st:=Lo) l_x4 c_x4 k_x4
 have mN:=Bj (st:=Lm) l_x1 c_x1 k_x1
 have mO:=Bj (st:=Lr) l_x9 c_x9 k_x9
 have mP:=Bj (st:=Ln) l_x2 c_x2 k_x2
 have mQ:=Bj (st:=Lq) l_x7 c_x7 k_x7
 have i4:=Bj (st:=Ia) l_x12 c_x12 k_x12
 have i5:=Bj (st:=I9) l_x10 c_x10 k_x10
 have gm:=Bj (st:=Hr) l_x8 c_x8 k_x8
 have dW:=Bj (st:=F7) l_x11 c_x11 k_x11
 have mR:=Bj (st:=Kb) l_x0 c_x0 k_x0
 have gn:=Bj (st:=J1) l_x5 c_x5 k_x5
 have mS:=Bj (st:=Lp) l_x6 c_x6 k_x6
 have mT:=Bj (st:=Kc) l_x3 c_x3 k_x3
 have dX:=Bj (st:=El) l_x13 c_x13 k_x13
 have dY:=Bj (st:=Em) l_x14 c_x14 k_x14
 have dZ:=Bj (st:=F8) l_x15 c_x15 k_x15
 have mU:=Bj (st:=Ef) l_law c_law k_law
 have bw:=hX.binds (ps:=["wheel","turn"]) fun _ _ _ _ _ _ us hl=>by obtain ⟨_,_,rfl⟩ := Ja hl; rfl
 have fF:=i3.binds (ps:=["wheel","who"]) fun _ _ _ _ _ _ us hl=>by obtain ⟨_,_,rfl⟩ := Ja hl; rfl
 have gH:=mM.binds (ps:=["row","turn"]) fun _ _ _ _ _ _ us hl=>by obtain ⟨_,_,rfl⟩ := Ja hl; rfl
 have bT:=mN.binds (ps:=["wheel","who","begin","end"]) fun _ _ _ _ _ _ us hl=>by obtain ⟨_,_,_,_,rfl⟩ := T8 hl; rfl
 have iB:=mO.binds (ps:=["names"]) fun _ _ _ _ _ _ us hl=>by obtain ⟨_,rfl⟩ := Jr hl; rfl
 have cB:=mP.binds (ps:=["self","name"]) fun _ _ _ _ _ _ us hl=>by obtain ⟨_,_,rfl⟩ := Ja hl; rfl
 have bR:=mQ.binds (ps:=["self","turn"]) fun _ _ _ _ _ _ us hl=>by obtain ⟨_,_,rfl⟩ := Ja hl; rfl
 have bp:=i4.binds (ps:=["self"]) fun _ _ _ _ _ _ us hl=>by obtain ⟨_,rfl⟩ := Jr hl; rfl
 have bh:=i5.binds (ps:=["self"]) fun _ _ _ _ _ _ us hl=>by obtain ⟨_,rfl⟩ := Jr hl; rfl
 have cx:=gm.binds (ps:=["self"]) fun _ _ _ _ _ _ us hl=>by obtain ⟨_,rfl⟩ := Jr hl; rfl
 have b6:=dW.binds (ps:=["self"]) fun _ _ _ _ _ _ us hl=>by obtain ⟨_,rfl⟩ := Jr hl; rfl
 have cN:=mR.binds (ps:=["self","wheel","parts"]) fun _ _ _ _ _ _ us hl=>by obtain ⟨_,_,_,rfl⟩ := Pp hl; rfl
 have cz:=gn.binds (ps:=["self","turn"]) fun _ _ _ _ _ _ us hl=>by obtain ⟨_,_,rfl⟩ := Ja hl; rfl
 have bJ:=mS.binds (ps:=["script","k"]) fun _ _ _ _ _ _ us hl=>by obtain ⟨_,_,rfl⟩ := Ja hl; rfl
 have cL:=mT.binds (ps:=["cell","many"]) fun _ _ _ _ _ _ us hl=>by obtain ⟨_,_,rfl⟩ := Ja hl; rfl
 have b7:=dX.binds (ps:=["script","deep","at"]) fun _ _ _ _ _ _ us hl=>by obtain ⟨_,_,_,rfl⟩ := Pp hl; rfl
 have b8:=dY.binds (ps:=["tree"]) fun _ _ _ _ _ _ us hl=>by obtain ⟨_,rfl⟩ := Jr hl; rfl
 have b9:=dZ.binds (ps:=["tree"]) fun _ _ _ _ _ _ us hl=>by obtain ⟨_,rfl⟩ := Jr hl; rfl
 refine ⟨PySem.W.fnOf "law" "law" (Aw Ef) (Av Ef) (A7 Ef) .none gh gi gj fX eD gk,fun s v=>.of_eq rfl,fun base _ _=>?_⟩
 have bu:A9 l.prog w K mg base Aq 1 _ _ ["wheel","turn"] (Ft K):=P7 T hX
 have fE:A9 l.prog w K mg base Aq 1 _ _ ["wheel","who"] (Kf K):=P6 T i3
 have gG:A9 l.prog w K mg base Aq 1 _ _ ["row","turn"] (N1 K):=Qd T mM
 have bS:A9 l.prog w K mg base Aq 2 _ _ ["wheel","who","begin","end"] (Ie K):=Qa T mN fE fF gG gH
 have iA:A9 l.prog w K mg base Aq 1 _ _ ["names"] (N2 K):=Qi T mO
 have cA:A9 l.prog w K mg base Aq 1 _ _ ["self","name"] (Ig K a8 a7):=Qb T mP
 have bQ:A9 l.prog w K mg base Aq 1 _ _ ["self","turn"] (Gw K a8 a7):=Qh T mQ
 have bo:A9 l.prog w K mg base Aq 1 _ _ ["self"] (Fs K a8 a7):=P5 T i4
 have bg:A9 l.prog w K mg base Aq 1 _ _ ["self"] (Fq K a8 a7):=P4 T i5
 have cO:A9 l.prog w K mg base Aq 2 _ _ ["self"] (Cj K a8 a7):=G4 T gm bg bh
 have cP:A9 l.prog w K mg base Aq 3 _ _ ["self"] (Ck K a8 a7):=G5 T gm bg bh cO cx
 have cQ:A9 l.prog w K mg base Aq 4 _ _ ["self"] (Cl K a8 a7):=G6 T gm bg bh cP cx
 have dm:A9 l.prog w K mg base Aq 5 _ _ ["self"] (Cm K a8 a7):=G7 T gm bg bh cQ cx
 have cZ:A9 l.prog w K mg base Aq 2 _ _ ["self"] (Cw K a8 a7):=Gk T dW bo bp
 have d3:A9 l.prog w K mg base Aq 3 _ _ ["self"] (Cy K a8 a7):=Gm T dW bo bp cZ b6
 have d4:A9 l.prog w K mg base Aq 4 _ _ ["self"] (Cz K a8 a7):=Gn T dW bo bp d3 b6
 have bN:A9 l.prog w K mg base Aq 5 _ _ ["self"] (D0 K a8 a7):=Go T dW bo bp d4 b6
 have cM:A9 l.prog w K mg base Aq 6 _ _ ["self","wheel","parts"] (Id K a8 a7):=Q9 T mR iA iB dm cx bN b6
 have cC:A9 l.prog w K mg base Aq 3 _ _ ["self","turn"] (C9 K a8 a7):=Fk T gn bQ bR bu bw bS bT
 have cD:A9 l.prog w K mg base Aq 4 _ _ ["self","turn"] (Ca K a8 a7):=Fl T gn bQ bR bu bw bS bT cC cz
 have cE:A9 l.prog w K mg base Aq 5 _ _ ["self","turn"] (Cb K a8 a7):=Fm T gn bQ bR bu bw bS bT cD cz
 have du:A9 l.prog w K mg base Aq 6 _ _ ["self","turn"] (Cc K a8 a7):=Fn T gn bQ bR bu bw bS bT cE cz
 have bI:A9 l.prog w K mg base Aq 1 _ _ ["script","k"] (Gv K):=Qg T mS
 have cK:A9 l.prog w K mg base Aq 1 _ _ ["cell","many"] (Ih K):=Qc T mT
 have dw:A9 l.prog w K mg base Aq 2 _ _ ["script","deep","at"] (Dc K):=Hd T dX bI bJ cK cL
 have dy:A9 l.prog w K mg base Aq 3 _ _ ["script","deep","at"] (Dd K):=He T dX bI bJ cK cL dw b7
 have dz:A9 l.prog w K mg base Aq 4 _ _ ["script","deep","at"] (De K):=Hf T dX bI bJ cK cL dy b7
 have bU:A9 l.prog w K mg base Aq 5 _ _ ["script","deep","at"] (Df K):=Hg T dX bI bJ cK cL dz b7
 have dA:A9 l.prog w K mg base Aq 8 _ _ ["tree"] (Dg K a8 a7):=Hh T dY cM cN cA cB
 have dB:A9 l.prog w K mg base Aq 9 _ _ ["tree"] (Dh K a8 a7):=Hi T dY cM cN cA cB dA b8
 have dC:A9 l.prog w K mg base Aq 10 _ _ ["tree"] (Di K a8 a7):=Hj T dY cM cN cA cB dB b8
 have bV:A9 l.prog w K mg base Aq 11 _ _ ["tree"] (Dj K a8 a7):=Hk T dY cM cN cA cB dC b8
 have dD:A9 l.prog w K mg base Aq 1 _ _ ["tree"] (Dk K):=Hl T dZ
 have dE:A9 l.prog w K mg base Aq 2 _ _ ["tree"] (Dl K):=Hm T dZ  dD b9
 have dF:A9 l.prog w K mg base Aq 3 _ _ ["tree"] (Dm K):=Hn T dZ  dE b9
 have bW:A9 l.prog w K mg base Aq 4 _ _ ["tree"] (Dn K):=Ho T dZ  dF b9
 exact P3 T mU bU b7 bV b8 bQ bR du cz bW b9 bI bJ
theorem walk {l : PySem.W.OpenLaw} {q : Program} {loose : List Str} {XP : (Str -> Option Value) -> Heap -> Prop} {YP : World -> Heap -> Prop} {d : DefRec} {K : Params -> PySem.W.Frag} (hn : l.most = some 63) (o6 : d.params.defaults = [])
  (hY:∀ (w:World) (h:Heap),YP w h -> (K w.params).In h)
  (F:∀ (w:World) (mg:Str -> Option Value) (fa:Addr) (h:Heap),(K w.params).In h -> h.Ns mainGlobals mg -> mg d.name = some (.ref fa) ->
   ∃ fd:FuncData,(∀ (s:Shared) (u:Value),BindsTo s fd ⟨[u],[]⟩ [("script",u)]) /\ ∀ base:Heap,(K w.params).In base -> base.Ns mainGlobals mg -> A9 l.prog w (K w.params) mg base Aq 12 fa fd ["script"] (J6 (K w.params))) :
  PySem.W.WalkO q loose XP YP l.row.toRowW d [] (fun f vs=>PySem.call f vs) :=
 L2.fk (n:=63) (k:=12) (x := "script") (CX:=fun _=>Aq) (sp:=fun w=>J6 (K w.params)) hn (by decide) o6 ⟨rfl,by decide,by decide⟩ hY F (fun _ _ a ns hl hb _ hS=>⟨a,ns,rfl,hS,hl,hb,fun _=>rfl⟩) fun _ _ _ _ _ z=>z
end Law
namespace PySem.W.Fast
theorem tw7734212749285510743:True:=trivial
theorem tw3203372231317120870:True:=trivial
theorem tw13339196646123192863:True:=trivial
theorem tw15526876191775037316:True:=trivial
theorem tw10492138770653895071:True:=trivial
theorem tw2763378912150956011:True:=trivial
theorem tw10429329551669054332:True:=trivial
theorem tw17280629268441154704:True:=trivial
theorem tw13718054196009282226:True:=trivial
theorem tw2628245198035509819:True:=trivial
theorem tw1174479442092220588:True:=trivial
theorem tw4621066905248325581:True:=trivial
theorem tw15667307071254085653:True:=trivial
theorem tw5025125023505323830:True:=trivial
theorem tw3953766130025483675:True:=trivial
theorem tw12820458940582471936:True:=trivial
theorem tw9748929369031685004:True:=trivial
theorem tw6842025580966446619:True:=trivial
theorem tw17470283427996188236:True:=trivial
theorem tw10241952815986054572:True:=trivial
theorem tw8491537885250818164:True:=trivial
theorem tw17275275925911707362:True:=trivial
theorem tw17385457368947575339:True:=trivial
theorem tw11521548538429898801:True:=trivial
theorem tw11654468449906395639:True:=trivial
theorem tw10790313913953303336:True:=trivial
theorem tw14181551438868008333:True:=trivial
theorem tw5577947504826351497:True:=trivial
theorem tw1846519627810491905:True:=trivial
theorem tw18390630541471505542:True:=trivial
theorem tw8512841639489471958:True:=trivial
theorem tw14502946222779597671:True:=trivial
theorem tw8635299341099677194:True:=trivial
theorem tw14430137171598510074:True:=trivial
theorem tw751020752394720825:True:=trivial
theorem tw3026971119318887835:True:=trivial
theorem tw17693190377306008505:True:=trivial
theorem tw12310534725933224717:True:=trivial
theorem tw11037342015555293316:True:=trivial
theorem tw7107960219148960986:True:=trivial
theorem tw17228878829185134579:True:=trivial
theorem tw11101170244067292642:True:=trivial
theorem tw12304126870595059079:True:=trivial
theorem tw12668374386616503885:True:=trivial
theorem tw8188759605338966386:True:=trivial
theorem tw11165275685974572510:True:=trivial
theorem tw80982457615043293:True:=trivial
theorem tw92768186682107389:True:=trivial
theorem tw13357118544624461662:True:=trivial
theorem tw8012865324241716248:True:=trivial
theorem tw1945879245708334664:True:=trivial
theorem tw14478502871747409458:True:=trivial
theorem tw10573558882009216064:True:=trivial
theorem tw6603604538843379188:True:=trivial
theorem tw404898427103824642:True:=trivial
theorem tw14502289530355589905:True:=trivial
theorem tw5710548415883085981:True:=trivial
end PySem.W.Fast
open PySem PySem.W PyProof.Rows
set_option maxRecDepth 100000 in
set_option maxHeartbeats 0 in
theorem PySem.Challenge.cw_roundcall_k67_whole_nests_reach_all_holds : PySem.Challenge.rw_roundcall_k67_whole_nests_reach_all.Holds := by
 w_on; o_law; k_head; (case hw=>w_witness2)
 k_fill
 refine Law.walk (l:=PySem.Challenge.rw_roundcall_k67_whole_nests_reach_all) rfl rfl (fun w h Y=>PySem.W.kIn_of Y) ?F
 case F =>
  intro w mg fa h KX G hmg
  refine' Law.all_mk KX G hmg ?a_x17 ?l_x17 ?c_x17 ?k_x17 ?a_x16 ?l_x16 ?c_x16 ?k_x16 ?a_x4 ?l_x4 ?c_x4 ?k_x4 ?a_x1 ?l_x1 ?c_x1 ?k_x1 ?a_x9 ?l_x9 ?c_x9 ?k_x9 ?i_x2 ?l_x2 ?c_x2 ?k_x2 ?i_x7 ?l_x7 ?c_x7 ?k_x7 ?i_x12 ?l_x12 ?c_x12 ?k_x12 ?i_x10 ?l_x10 ?c_x10 ?k_x10 ?i_x8 ?l_x8 ?c_x8 ?k_x8 ?i_x11 ?l_x11 ?c_x11 ?k_x11 ?i_x0 ?l_x0 ?c_x0 ?k_x0 ?i_x5 ?l_x5 ?c_x5 ?k_x5 ?a_x6 ?l_x6 ?c_x6 ?k_x6 ?a_x3 ?l_x3 ?c_x3 ?k_x3 ?a_x13 ?l_x13 ?c_x13 ?k_x13 ?a_x14 ?l_x14 ?c_x14 ?k_x14 ?a_x15 ?l_x15 ?c_x15 ?k_x15 ?a_law ?l_law ?c_law ?k_law ?pg_One ?hd_One ?po_One ?sa_One ?mm_One ?kc_One ?fm_x7 ?fm_x12 ?fm_x10 ?fm_x2 ?nf_One_name ?pg_Many ?hd_Many ?po_Many ?sa_Many ?mm_Many ?kc_Many ?fm_x5 ?fm_x11 ?fm_x8 ?fm_x0 ?nf_Many_wheel ?nf_Many_parts ?y_MOST_DEPTH ?z_enumerate ?z_len ?z_set ?z_list ?z_zip ?z_max ?z_range ?z_str ?ac_One ?ac_Many
  (case ac_One=>k_is)
  (case ac_Many=>k_is)
  (case fm_x7=>k_is)
  (case fm_x12=>k_is)
  (case fm_x10=>k_is)
  (case fm_x2=>k_is)
  (case fm_x5=>k_is)
  (case fm_x11=>k_is)
  (case fm_x8=>k_is)
  (case fm_x0=>k_is)
  (case a_x17=>k_is)
  (case l_x17=>k_is)
  (case c_x17=>k_is)
  (case k_x17=>k_is)
  (case a_x16=>k_is)
  (case l_x16=>k_is)
  (case c_x16=>k_is)
  (case k_x16=>k_is)
  (case a_x4=>k_is)
  (case l_x4=>k_is)
  (case c_x4=>k_is)
  (case k_x4=>k_is)
  (case a_x1=>k_is)
  (case l_x1=>k_is)
  (case c_x1=>k_is)
  (case k_x1=>k_is)
  (case a_x9=>k_is)
  (case l_x9=>k_is)
  (case c_x9=>k_is)
  (case k_x9=>k_is)
  (case i_x2=>k_is)
  (case l_x2=>k_is)
  (case c_x2=>k_is)
  (case k_x2=>k_is)
  (case i_x7=>k_is)
  (case l_x7=>k_is)
  (case c_x7=>k_is)
  (case k_x7=>k_is)
  (case i_x12=>k_is)
  (case l_x12=>k_is)
  (case c_x12=>k_is)
  (case k_x12=>k_is)
  (case i_x10=>k_is)
  (case l_x10=>k_is)
  (case c_x10=>k_is)
  (case k_x10=>k_is)
  (case i_x8=>k_is)
  (case l_x8=>k_is)
  (case c_x8=>k_is)
  (case k_x8=>k_is)
  (case i_x11=>k_is)
  (case l_x11=>k_is)
  (case c_x11=>k_is)
  (case k_x11=>k_is)
  (case i_x0=>k_is)
  (case l_x0=>k_is)
  (case c_x0=>k_is)
  (case k_x0=>k_is)
  (case i_x5=>k_is)
  (case l_x5=>k_is)
  (case c_x5=>k_is)
  (case k_x5=>k_is)
  (case a_x6=>k_is)
  (case l_x6=>k_is)
  (case c_x6=>k_is)
  (case k_x6=>k_is)
  (case a_x3=>k_is)
  (case l_x3=>k_is)
  (case c_x3=>k_is)
  (case k_x3=>k_is)
  (case a_x13=>k_is)
  (case l_x13=>k_is)
  (case c_x13=>k_is)
  (case k_x13=>k_is)
  (case a_x14=>k_is)
  (case l_x14=>k_is)
  (case c_x14=>k_is)
  (case k_x14=>k_is)
  (case a_x15=>k_is)
  (case l_x15=>k_is)
  (case c_x15=>k_is)
  (case k_x15=>k_is)
  (case a_law=>k_is)
  (case l_law=>k_is)
  (case c_law=>k_is)
  (case k_law=>k_is)
  (case pg_One=>k_is)
  (case hd_One=>k_is)
  (case po_One=>k_is)
  (case sa_One=>k_is)
  (case mm_One=>k_is)
  (case kc_One=>k_is)
  (case nf_One_name=>k_is)
  (case pg_Many=>k_is)
  (case hd_Many=>k_is)
  (case po_Many=>k_is)
  (case sa_Many=>k_is)
  (case mm_Many=>k_is)
  (case kc_Many=>k_is)
  (case nf_Many_wheel=>k_is)
  (case nf_Many_parts=>k_is)
  (case y_MOST_DEPTH=>k_is)
  (case z_enumerate=>k_is)
  (case z_len=>k_is)
  (case z_set=>k_is)
  (case z_list=>k_is)
  (case z_zip=>k_is)
  (case z_max=>k_is)
  (case z_range=>k_is)
  (case z_str=>k_is)
